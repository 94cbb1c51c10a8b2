/- The contracts of a view's calls, of an arena and of none. -/
import Derived.Test.YtmnhpmgffhpoeaaGreatVwC
import Derived.Test.YtmnhpmgffhpoeaaGreatArFull
namespace Go.Proofs.YtmnhpmgffhpoeaaGreat.Bt
open Go Go.RowKit Go.Shelf
set_option linter.unusedVariables false

section
variable {A P n cap : Nat} {s : ASt} {ps : List (Option Nat)} {p : Option Addr} {w : World}
theorem keepsV_ar (h : ArX A s P ps p n cap w) (s' : ASt) : KeepsV w (fun x x' => Turned A P ps p s' x x') := fun x x' B c hb ⟨ps', p', n', cap', _, hst, _⟩ hB =>
  hst.block B (Array.getElem?_eq_some_iff.1 hB).1 (own_not (h.below hb) hB (by decide) (by decide) (by decide))
theorem keepsV_below (w : World) : KeepsV w (fun x x' => Below x.heap.size x x') := fun x x' B c hb hx hB => hx.block B (Array.getElem?_eq_some_iff.1 hB).1
theorem thru_turned {er : Int} {s' : ASt} {e : Ending} {w' : World} (h : Thru er (fun x x' => Turned A P ps p s' x x') w e w') : e = .returned (.int .i64 er) ∧ Turned A P ps p s' w w' := by
  obtain ⟨he, x, hb, ht⟩ := h
  exact ⟨he, Turned.trans (s' := s') (Step.of_below hb) (fun _ _ _ => .inl rfl) ht⟩
theorem thru_below {er : Int} {e : Ending} {w' : World} (h : Thru er (fun x x' => Below x.heap.size x x') w e w') : e = .returned (.int .i64 er) ∧ Below w.heap.size w w' := by
  obtain ⟨he, x, hb, ht⟩ := h
  exact ⟨he, hb.trans (ht.mono hb.size)⟩

theorem vload_any (h : ArX A s P ps p n cap w) (va vs : Nat) (h1 : va ≤ 4294967296) (h2 : vs ≤ 4294967296) (a k : Int) (ha : a ≤ 9223372036854775807) :
    Calls Tryz.prog 52 #[.agg #[.pointer (some ⟨A, 0, none⟩), .int .i64 (va : Int), .int .i64 (vs : Int)], .int .i64 a, .int .i64 k] w (LoadPost s.mm s.L s.es (addrV va vs a k) k w) :=
  vload_gen _ va vs h1 h2 a k ha w _ _ fun x hx => load_any (h.below hx) _ k (addrV_le h1 h2 a k)
theorem vload_nil (a k : Int) (ha : a ≤ 9223372036854775807) (w : World) :
    Calls Tryz.prog 52 #[.agg #[.pointer none, .int .i64 0, .int .i64 0], .int .i64 a, .int .i64 k] w fun e w' => e = .returned (.tuple #[.int .u64 0, .int .i64 1]) ∧ Below w.heap.size w w' :=
  vload_gen none 0 0 (by omega) (by omega) a k ha w 0 1 fun x hx => (load_nil _ k x).mono fun e w' ⟨he, hw⟩ => ⟨he, hw ▸ Below.refl _ _⟩
theorem vbytes_any (h : ArX A s P ps p n cap w) (va vs : Nat) (h1 : va ≤ 4294967296) (h2 : vs ≤ 4294967296) (a k : Int) (ha : a ≤ 9223372036854775807) :
    Calls Tryz.prog 67 #[.agg #[.pointer (some ⟨A, 0, none⟩), .int .i64 (va : Int), .int .i64 (vs : Int)], .int .i64 a, .int .i64 k] w (BytesPost s.mm s.L s.es (addrV va vs a k) k w) :=
  vbytes_gen _ va vs h1 h2 a k ha w _ _ fun x hx => bytes_any (h.below hx) _ k (addrV_le h1 h2 a k)
theorem vbytes_nil (a k : Int) (ha : a ≤ 9223372036854775807) (w : World) :
    Calls Tryz.prog 67 #[.agg #[.pointer none, .int .i64 0, .int .i64 0], .int .i64 a, .int .i64 k] w fun e w' => e = .returned (.tuple #[.string ⟨#[]⟩, .int .i64 1]) ∧ Below w.heap.size w w' :=
  vbytes_gen none 0 0 (by omega) (by omega) a k ha w _ 1 fun x hx => bytes_nil _ k x
theorem vstore_any (h : ArX A s P ps p n cap w) (va vs : Nat) (h1 : va ≤ 4294967296) (h2 : vs ≤ 4294967296) (a k x : Int) (ha : a ≤ 9223372036854775807) (hx : 0 ≤ x) :
    Calls Tryz.prog 46 #[.agg #[.pointer (some ⟨A, 0, none⟩), .int .i64 (va : Int), .int .i64 (vs : Int)], .int .i64 a, .int .i64 k, .int .u64 x] w (StorePost A P s ps p (addrV va vs a k) k x w) :=
  (vstore_gen _ va vs h1 h2 a ha k x w _ _ (fun X hX => store_any (h.below hX) _ k x (addrV_le h1 h2 a k) hx) (keepsV_ar h _)).mono fun e w' ht => thru_turned ht
theorem vstore_nil (a k x : Int) (ha : a ≤ 9223372036854775807) (w : World) :
    Calls Tryz.prog 46 #[.agg #[.pointer none, .int .i64 0, .int .i64 0], .int .i64 a, .int .i64 k, .int .u64 x] w fun e w' => e = .returned (.int .i64 1) ∧ Below w.heap.size w w' :=
  (vstore_gen none 0 0 (by omega) (by omega) a ha k x w 1 _ (fun X hX => (store_nil _ k x X).mono fun e w' ⟨he, hw⟩ => ⟨he, hw ▸ Below.refl _ _⟩) (keepsV_below w)).mono fun e w' ht => thru_below ht
theorem vput_any (h : ArX A s P ps p n cap w) (va vs : Nat) (h1 : va ≤ 4294967296) (h2 : vs ≤ 4294967296) (a : Int) (ha : a ≤ 9223372036854775807) (x : ByteArray) (hx : x.size ≤ 9223372036854775807) :
    Calls Tryz.prog 80 #[.agg #[.pointer (some ⟨A, 0, none⟩), .int .i64 (va : Int), .int .i64 (vs : Int)], .int .i64 a, .string x] w (PutPost A P s ps p (addrV va vs a x.size) x.data.toList w) :=
  (vput_gen _ va vs h1 h2 a ha x hx w _ _ (fun X hX => put_any (h.below hX) _ (addrV_le h1 h2 a x.size) x hx) (keepsV_ar h _)).mono fun e w' ht => thru_turned ht
theorem vput_nil (a : Int) (ha : a ≤ 9223372036854775807) (x : ByteArray) (hx : x.size ≤ 9223372036854775807) (w : World) :
    Calls Tryz.prog 80 #[.agg #[.pointer none, .int .i64 0, .int .i64 0], .int .i64 a, .string x] w fun e w' => e = .returned (.int .i64 1) ∧ Below w.heap.size w w' :=
  (vput_gen none 0 0 (by omega) (by omega) a ha x hx w 1 _ (fun X hX => put_nil _ x hx X) (keepsV_below w)).mono fun e w' ht => thru_below ht
theorem vfill_nil (a k b : Int) (ha : a ≤ 9223372036854775807) (w : World) :
    Calls Tryz.prog 30 #[.agg #[.pointer none, .int .i64 0, .int .i64 0], .int .i64 a, .int .i64 k, .int .u8 b] w fun e w' => e = .returned (.int .i64 1) ∧ Below w.heap.size w w' :=
  (vfill_gen none 0 0 (by omega) (by omega) a ha k b w 1 _ (fun X hX => fill_nil _ k b X) (keepsV_below w)).mono fun e w' ht => thru_below ht
theorem vcopy_any (h : ArX A s P ps p n cap w) (va vs : Nat) (h1 : va ≤ 4294967296) (h2 : vs ≤ 4294967296) (to fr k : Int) (ha : to ≤ 9223372036854775807) (hf : fr ≤ 9223372036854775807) :
    Calls Tryz.prog 29 #[.agg #[.pointer (some ⟨A, 0, none⟩), .int .i64 (va : Int), .int .i64 (vs : Int)], .int .i64 to, .int .i64 fr, .int .i64 k] w (CopyPost A P s ps p (addrV va vs to k) (addrV va vs fr k) k w) :=
  (vcopy_gen _ va vs h1 h2 to fr k ha hf w _ _ (fun X hX => copy_any (h.below hX) _ _ k (addrV_le h1 h2 to k) (addrV_le h1 h2 fr k)) (keepsV_ar h _)).mono fun e w' ht => thru_turned ht
theorem vcopy_nil (to fr k : Int) (ha : to ≤ 9223372036854775807) (hf : fr ≤ 9223372036854775807) (w : World) :
    Calls Tryz.prog 29 #[.agg #[.pointer none, .int .i64 0, .int .i64 0], .int .i64 to, .int .i64 fr, .int .i64 k] w fun e w' => e = .returned (.int .i64 1) ∧ Below w.heap.size w w' :=
  (vcopy_gen none 0 0 (by omega) (by omega) to fr k ha hf w 1 _ (fun X hX => (copy_nil _ _ k X).mono fun e w' ⟨he, hw⟩ => ⟨he, hw ▸ Below.refl _ _⟩) (keepsV_below w)).mono fun e w' ht => thru_below ht
theorem vpart_nil (a k : Int) (ha : a ≤ 9223372036854775807) (w : World) :
    Calls Tryz.prog 43 #[.agg #[.pointer none, .int .i64 0, .int .i64 0], .int .i64 a, .int .i64 k] w fun e w' => e = .returned (.tuple #[.agg #[.pointer none, .int .i64 0, .int .i64 0], .int .i64 1]) ∧ Below w.heap.size w w' :=
  vpart_gen none 0 0 (by omega) (by omega) a k ha w none 0 0 1 fun X hX => vof_nil _ k X
end

theorem awake3 (w : World) : Calls Tryz.prog 87 #[] w fun e w' => e = .returned (.bool true) ∧ Below w.heap.size w w' := by
  go_enter Tryz.func87, Tryz.ntmps87
  go_wp2_with fail
  refine (awake3_calls _).mono ?_
  rintro e w1 ⟨rfl, hb⟩
  go_wp2_with fail
  go_ret
  exact ⟨rfl, hb⟩
set_option maxRecDepth 100000 in
set_option maxHeartbeats 1000000 in
theorem awake4_calls (w : World) : Calls Tryz.prog 72 #[] w fun e w' => e = .returned (.bool true) ∧ Below w.heap.size w w' := by
  have L1 : Hid (lenN 1 = 1) := Lib.hid (by decide)
  have E1 : Hid (commitE (newS 1) 0 1 = 0) := Lib.hid (by decide)
  have S1 : Hid (commitS (newS 1) 0 1 = fullS 1 (fun _ => 0)) := Lib.hid (full_new 1 1 (by decide) (by decide) (by decide))
  have T1 : Hid (∀ m, thereE (fullS 1 m).L (fullS 1 m).es 100 8 = 0) := Lib.hid fun m => by show thereE 1 [0, 1] 100 8 = 0; decide
  have N1 : Hid (numE (fullS 1 fun _ => 0).L (fullS 1 fun _ => 0).es 100 8 = 0) := Lib.hid (by show numE 1 [0, 1] 100 8 = 0; decide)
  have S2 : Hid (storeS (fullS 1 fun _ => 0) 100 8 1 = fullS 1 (putM (fun _ => 0) 100 (numB 1 8))) := Lib.hid (by unfold storeS; rw [N1.out, if_pos rfl]; rfl)
  have N2 : Hid (numE 1 [0, 1] 100 1 = 0) := Lib.hid (by decide)
  have V2 : Hid ((numV (putM (fun _ => 0) 100 (numB 1 8)) (100 : Int).toNat (1 : Int).toNat : Int) = 1) := Lib.hid (by decide)
  have A1 : Hid (addrV 100 8 0 8 = 100) := Lib.hid (by decide)
  have A2 : Hid (addrV 100 8 1 8 = -1) := Lib.hid (by decide)
  have N3 : Hid (numE 1 [0, 1] (-1) 8 = 3) := Lib.hid (by decide)
  go_enter Tryz.func72, Tryz.ntmps72
  go_wp2_with fail
  refine (arena_new 1 _).mono ?_
  rintro e w1 ⟨A, P, rfl, hA, hP, hx, hb1⟩
  rw [L1.out] at hx
  have hn0 : ∀ i b : Nat, (List.replicate 1 (none : Option Nat))[i]? = some (some b) → w.heap.size ≤ b := fun i b h => by
    rw [List.getElem?_replicate] at h; split at h <;> cases h
  have HX1 := Lib.hid hx
  clear hx
  go_wp2_with fail
  refine (commit_any HX1.out 0 1 (by omega)).mono ?_
  rintro e w2 ⟨rfl, ht⟩
  rw [E1.out]; rw [S1.out] at ht
  obtain ⟨⟨P2, ps2, p2, n2, c2, hx2, q1, q2, q3⟩, hb2⟩ := ht.at hb1.size hA hP hn0
  have HX2 := Lib.hid hx2
  have HQ2 := Lib.hid (And.intro q1 (And.intro q2 q3))
  have B2 := hb1.trans hb2
  clear hx2 ht q1 q2 q3 hb2 hn0 hA hP HX1
  go_wp2_with fail
  refine (vof_any HX2.out 100 8 (by omega)).mono ?_
  rintro e w3 ⟨rfl, hb3⟩
  rw [T1.out, show ofV (some ⟨A, 0, none⟩) 100 8 0 = .agg #[.pointer (some ⟨A, 0, none⟩), .int .i64 100, .int .i64 8] from rfl]
  have B3 := B2.trans (hb3.mono B2.size)
  obtain ⟨w4, hw4⟩ : ∃ w4, w3.alloc (.cells #[.pointer (some ⟨A, 0, none⟩), .int .i64 100, .int .i64 8] 28) = w4 := ⟨_, rfl⟩
  have HV : VC w3.heap.size (some ⟨A, 0, none⟩) 100 8 w4 := by rw [← hw4]; exact heap_new _ _
  have hb4 : Below w3.heap.size w3 w4 := by rw [← hw4]; exact (Below.refl _ _).alloc (Nat.le_refl _) _
  have HX4 := Lib.hid ((HX2.out.below hb3).below hb4)
  have B4 := B3.trans (hb4.mono B3.size)
  have HW4 := Lib.hid hw4
  obtain ⟨v0, v1, v2, _⟩ := HV.all
  have HVh := Lib.hid HV
  clear hw4 HV hb3 hb4
  obtain ⟨V, hV⟩ : ∃ V, w3.heap.size = V := ⟨_, rfl⟩
  rw [hV] at v0 v1 v2 HVh
  have HVV := Lib.hid hV
  clear hV
  go_wp2_with fail
  rw [HW4.out, HVV.out]
  go_wp2_with fail
  refine (vstore_any HX4.out 100 8 (by omega) (by omega) 0 8 1 (by omega) (by omega)).mono ?_
  rintro e w5 ⟨rfl, ht⟩
  rw [A1.out, N1.out]
  rw [A1.out, S2.out] at ht
  obtain ⟨⟨P5, ps5, p5, n5, c5, hx5, q1, q2, q3⟩, hb5⟩ := ht.at B4.size HQ2.out.1 HQ2.out.2.1 HQ2.out.2.2
  have HX5 := Lib.hid hx5
  have B5 := B4.trans hb5
  have HV5 : VC V (some ⟨A, 0, none⟩) 100 8 w5 := ((keepsV_ar HX4.out _) _ _ _ _ (Below.refl _ _) ht HVh.out).trans HVh.out
  clear hx5 ht q1 q2 q3 hb5 v0 v1 v2
  go_wp2_with fail
  refine (load_any HX5.out 100 1 (by omega)).mono ?_
  rintro e w6 ⟨rfl, hb6⟩
  have N2' : Hid (numE (fullS 1 (putM (fun _ => 0) 100 (numB 1 8))).L (fullS 1 (putM (fun _ => 0) 100 (numB 1 8))).es 100 1 = 0) := N2
  have V2' : Hid ((numV (fullS 1 (putM (fun _ => 0) 100 (numB 1 8))).mm (100 : Int).toNat (1 : Int).toNat : Int) = 1) := V2
  rw [N2'.out, if_pos rfl, V2'.out]
  have HX6 := Lib.hid (HX5.out.below hb6)
  have B6 := B5.trans (hb6.mono B5.size)
  have HV6 := Lib.hid (HV5.below hb6)
  obtain ⟨v0, v1, v2, _⟩ := HV6.out.all
  clear hb6 HV5
  go_wp2_with fail
  refine (vload_any HX6.out 100 8 (by omega) (by omega) 1 8 (by omega)).mono ?_
  rintro e w7 ⟨rfl, hb7⟩
  have N3' : Hid (numE (fullS 1 (putM (fun _ => 0) 100 (numB 1 8))).L (fullS 1 (putM (fun _ => 0) 100 (numB 1 8))).es (addrV 100 8 1 8) 8 = 3) := Lib.hid (by rw [A2.out]; exact N3.out)
  rw [N3'.out, if_neg (by decide)]
  have HX7 := Lib.hid (HX6.out.below hb7)
  have B7 := B6.trans (hb7.mono B6.size)
  have HV7 := Lib.hid (HV6.out.below hb7)
  clear hb7 v0 v1 v2
  go_wp2_with fail
  refine (awake3 _).mono ?_
  rintro e w8 ⟨rfl, hb8⟩
  have HX8 := Lib.hid (HX7.out.below hb8)
  have B8 := B7.trans (hb8.mono B7.size)
  obtain ⟨v0, v1, v2, _⟩ := (HV7.out.below hb8).all
  clear hb8
  go_wp2_with fail
  refine (cap_any HX8.out).mono ?_
  rintro e w9 ⟨rfl, rfl⟩
  have HC1 : ((fullS 1 (putM (fun _ => 0) 100 (numB 1 8))).L : Int) = 1 := rfl
  rw [HC1]
  clear HC1
  go_wp2_with fail
  go_ret
  exact ⟨rfl, B8⟩
end Go.Proofs.YtmnhpmgffhpoeaaGreat.Bt
