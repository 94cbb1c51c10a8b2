/- The contract of a record's Set. -/
import Derived.Test.YtdmaendhkenmgaaFdB
import Derived.Deep.MidRow
namespace Go.Proofs.Ytdmaendhkenmgaa.Bt
open Go Go.RowKit Go.Shelf
set_option linter.unusedVariables false
set_option linter.unusedSimpArgs false

/-- a record's and a view's variables -/
def RV (B V n : Nat) (f : Nat → Nat) (A va vs : Nat) (x : World) : Prop := VR B n f x ∧ VC V (some ⟨A, 0, none⟩) va vs x
theorem RV.below {B V n : Nat} {f : Nat → Nat} {A va vs : Nat} {x y : World} (h : RV B V n f A va vs x) (hb : Below x.heap.size x y) : RV B V n f A va vs y := ⟨h.1.below hb, h.2.below hb⟩
theorem RV.went {B V n : Nat} {f : Nat → Nat} {A va vs : Nat} {x y : World} {s : ASt} (h : RV B V n f A va vs x) (ho : On A s x) (hg : Went A x y) : RV B V n f A va vs y :=
  ⟨hg.keep ho h.1 (by decide) (by decide) (by decide), hg.keep ho h.2 (by decide) (by decide) (by decide)⟩
theorem VR.range {B n : Nat} {f : Nat → Nat} {x : World} (h : VR B n f x) : x.rangeAt B 0 (recC n f).toList := fun j v hv => by
  rw [(cell_blk h _).1, Nat.zero_add]; simpa using hv
theorem RV.all {B V n : Nat} {f : Nat → Nat} {A va vs : Nat} {x : World} (h : RV B V n f A va vs x) (k : Nat) (hk : k < 33) :
    x.cell? ⟨V, 0, none⟩ = some (.pointer (some ⟨A, 0, none⟩)) ∧ x.cell? ⟨V, 1, none⟩ = some (.int .i64 (va : Int)) ∧ x.cell? ⟨V, 2, none⟩ = some (.int .i64 (vs : Int)) ∧ x.cell? ⟨B, 1 + k, none⟩ = some (.int .i64 ((f k : Nat) : Int)) ∧ x.rangeAt B 0 (recC n f).toList ∧ RV B V n f A va vs x :=
  ⟨(cell_blk h.2 0).1, (cell_blk h.2 1).1, (cell_blk h.2 2).1, h.1.f k hk, h.1.range, h⟩
theorem rv_new (n : Nat) (f : Nat → Nat) (A va vs : Nat) (w : World) :
    RV w.heap.size (w.heap.size + 1) n f A va vs ((w.alloc (.cells (recC n f) 136)).alloc (.cells #[.pointer (some ⟨A, 0, none⟩), .int .i64 (va : Int), .int .i64 (vs : Int)] 55)) := by
  obtain ⟨q1, q2⟩ := pairs_new w (recC n f) #[.pointer (some ⟨A, 0, none⟩), .int .i64 (va : Int), .int .i64 (vs : Int)] 136 55
  exact ⟨q1, q2⟩
section
variable {A : Nat} {s : ASt} {w : World}
theorem fset_arg (n : Nat) (f : Nat → Nat) (va vs : Nat) (i x : Int) (hh : hasF n i = false) :
    Calls Try.prog 116 #[.agg (recC n f), vwV A va vs, .int .i64 i, .int .u64 x] w (Gives (.int .i64 2) w) := by
  have HH := Lib.hid hh
  have HV := Lib.hid (rv_new n f A va vs w)
  have HZ : Hid ((Try.prog.info? 136).map (·.size) = some (recC n f).size) := Lib.hid (by rw [recC_size]; exact Try.infoRec)
  clear hh
  go_enter Try.func116, Try.ntmps116
  go_wp2_with (refine wpList_load_row rfl 136 (.tmp 4) rfl w.heap.size rfl 136 (recC n f) (0, 0) _ HV.out.1 Try.underlying136 rfl HZ.out ?_)
  refine (fhas_any n f i _).mono ?_
  rintro e w1 ⟨rfl, hb⟩
  rw [HH.out]
  have B1 := Lib.hid ((below2 w (.cells (recC n f) 136) (.cells #[.pointer (some ⟨A, 0, none⟩), .int .i64 (va : Int), .int .i64 (vs : Int)] 55)).trans (hb.mono (by simp; omega)))
  clear hb
  go_wp2_with fail
  go_ret
  exact ⟨rfl, B1.out⟩
theorem fset_long (n : Nat) (f : Nat → Nat) (va vs : Nat) (hn : n ≤ 32) (k : Nat) (hk : k < n) (hm : f k ≤ f (k + 1)) (hs : f (k + 1) ≤ 1000) (hW : f (k + 1) - f k ≤ 8) (x : Int) (hx : 0 ≤ x) (hx2 : x < 18446744073709551616) (hl : longB x (f (k + 1) - f k) = true) :
    Calls Try.prog 116 #[.agg (recC n f), vwV A va vs, .int .i64 (k : Int), .int .u64 x] w (Gives (.int .i64 16) w) := by
  have HH : Hid (hasF n k = true) := Lib.hid (decide_eq_true ⟨by omega, by omega⟩)
  have HL := Lib.hid hl
  have HV := Lib.hid (rv_new n f A va vs w)
  have HZ : Hid ((Try.prog.info? 136).map (·.size) = some (recC n f).size) := Lib.hid (by rw [recC_size]; exact Try.infoRec)
  clear hl
  go_enter Try.func116, Try.ntmps116
  go_wp2_with (refine wpList_load_row rfl 136 (.tmp 4) rfl w.heap.size rfl 136 (recC n f) (0, 0) _ HV.out.1 Try.underlying136 rfl HZ.out ?_)
  refine (fhas_any n f k _).mono ?_
  rintro e w1 ⟨rfl, hb⟩
  rw [HH.out]
  have B1 := Lib.hid ((below2 w (.cells (recC n f) 136) (.cells #[.pointer (some ⟨A, 0, none⟩), .int .i64 (va : Int), .int .i64 (vs : Int)] 55)).trans (hb.mono (by simp; omega)))
  have HV1 := Lib.hid (HV.out.below hb)
  clear hb HV
  go_wp2_with (refine wpList_load_row rfl 136 (.tmp 4) rfl w.heap.size rfl 136 (recC n f) (0, 0) _ HV1.out.1 Try.underlying136 rfl HZ.out ?_)
  refine (flong_any n f hn k hk hm hs hW x hx hx2 _).mono ?_
  rintro e w2 ⟨rfl, hb⟩
  rw [HL.out]
  have B2 := Lib.hid (B1.out.trans (hb.mono B1.out.size))
  clear hb
  go_wp2_with fail
  go_ret
  exact ⟨rfl, B2.out⟩
set_option maxHeartbeats 1000000 in
theorem fset_on (h : On A s w) (n : Nat) (f : Nat → Nat) (va vs : Nat) (h1 : va ≤ 4294967296) (h2 : vs ≤ 4294967296) (hn : n ≤ 32) (k : Nat) (hk : k < n) (hm : f k ≤ f (k + 1)) (hs : f (k + 1) ≤ 1000) (hW : f (k + 1) - f k ≤ 8) (x : Int) (hx : 0 ≤ x) (hx2 : x < 18446744073709551616) (hl : longB x (f (k + 1) - f k) = false) :
    Calls Try.prog 116 #[.agg (recC n f), vwV A va vs, .int .i64 (k : Int), .int .u64 x] w
      (Ret A (storeS s (addrV va vs (f k : Nat) (f (k + 1) - f k : Nat)) (f (k + 1) - f k : Nat) x) (.int .i64 (numE s.L s.es (addrV va vs (f k : Nat) (f (k + 1) - f k : Nat)) (f (k + 1) - f k : Nat))) w) := by
  have HO := Lib.hid h
  have HH : Hid (hasF n k = true) := Lib.hid (decide_eq_true ⟨by omega, by omega⟩)
  have HL := Lib.hid hl
  have HV := Lib.hid (rv_new n f A va vs w)
  have HZ : Hid ((Try.prog.info? 136).map (·.size) = some (recC n f).size) := Lib.hid (by rw [recC_size]; exact Try.infoRec)
  clear hl h
  go_enter Try.func116, Try.ntmps116
  go_wp2_with (refine wpList_load_row rfl 136 (.tmp 4) rfl w.heap.size rfl 136 (recC n f) (0, 0) _ HV.out.1 Try.underlying136 rfl HZ.out ?_)
  refine (fhas_any n f k _).mono ?_
  rintro e w1 ⟨rfl, hb⟩
  rw [HH.out]
  have B1 := Lib.hid ((below2 w (.cells (recC n f) 136) (.cells #[.pointer (some ⟨A, 0, none⟩), .int .i64 (va : Int), .int .i64 (vs : Int)] 55)).trans (hb.mono (by simp; omega)))
  have HV1 := Lib.hid (HV.out.below hb)
  clear hb HV
  go_wp2_with (refine wpList_load_row rfl 136 (.tmp 4) rfl w.heap.size rfl 136 (recC n f) (0, 0) _ HV1.out.1 Try.underlying136 rfl HZ.out ?_)
  refine (flong_any n f hn k hk hm hs hW x hx hx2 _).mono ?_
  rintro e w2 ⟨rfl, hb⟩
  rw [HL.out]
  have B2 := Lib.hid (B1.out.trans (hb.mono B1.out.size))
  have HV2 := HV1.out.below hb
  clear hb HV1 B1
  go_wp2_with fail
  obtain ⟨B, hB⟩ : ∃ B, w.heap.size = B := ⟨_, rfl⟩
  obtain ⟨V, hVV⟩ : ∃ V, B + 1 = V := ⟨_, rfl⟩
  rw [hB] at HV2 ⊢
  rw [hVV] at HV2 ⊢
  clear hB hVV
  have hu := Try.underlying136
  have hi : (Try.prog.info? 136).map (·.size) = some (recC n f).toList.length := by rw [Array.length_toList]; exact HZ.out
  have i0 : 0 ≤ (k : Int) := by omega
  have i1 : (k : Int) < 33 := by omega
  refine wp_region_held_drew (S := (fun x => x.cell? ⟨V, 0, none⟩ = some (.pointer (some ⟨A, 0, none⟩)) ∧ x.cell? ⟨V, 1, none⟩ = some (.int .i64 (va : Int)) ∧ x.cell? ⟨V, 2, none⟩ = some (.int .i64 (vs : Int)) ∧ x.cell? ⟨B, 1 + k, none⟩ = some (.int .i64 ((f k : Nat) : Int)) ∧ x.rangeAt B 0 (recC n f).toList ∧ RV B V n f A va vs x)) (by kernel_rfl) ((HV2.below (Below.refl _ _).drew).all k (by omega)) (fun hHeld => ?_)
  refine wpAnyH_take (i := 0) (v := .agg #[.pointer (some ⟨A, 0, none⟩), .int .i64 (va : Int), .int .i64 (vs : Int)]) rfl (by kernel_rfl) (by kernel_rfl) (by kernel_rfl) (fun _ _ _ h => h) (Or.inl ⟨by rfl, fun X hS => ?_⟩) hHeld ?_
  · obtain ⟨s1, s2, s3, s4, _, _⟩ := hS
    go_simp
  simp only [Act.put, List.getElem_toArray, List.getElem_cons_zero, List.getElem_cons_succ, List.setIfInBounds_toArray, List.set_cons_zero, List.set_cons_succ]
  refine wpAnyH_take (i := 1) (v := .int .i64 (k : Int)) rfl (by kernel_rfl) (by kernel_rfl) (by kernel_rfl) (fun _ _ _ h => h) (Or.inl ⟨by rfl, fun X hS => ?_⟩) hHeld ?_
  · obtain ⟨s1, s2, s3, s4, _, _⟩ := hS
    go_simp
  simp only [Act.put, List.getElem_toArray, List.getElem_cons_zero, List.getElem_cons_succ, List.setIfInBounds_toArray, List.set_cons_zero, List.set_cons_succ]
  refine wpAnyH_take (i := 2) (v := .pointer (some ⟨B, 1, none⟩)) rfl (by kernel_rfl) (by kernel_rfl) (by kernel_rfl) (fun _ _ _ h => h) (Or.inl ⟨by rfl, fun X hS => ?_⟩) hHeld ?_
  · obtain ⟨s1, s2, s3, s4, _, _⟩ := hS
    go_simp
  simp only [Act.put, List.getElem_toArray, List.getElem_cons_zero, List.getElem_cons_succ, List.setIfInBounds_toArray, List.set_cons_zero, List.set_cons_succ]
  refine wpAnyH_take (i := 3) (v := .pointer (some ⟨B, 1 + k, none⟩)) rfl (by kernel_rfl) (by kernel_rfl) (by kernel_rfl) (fun _ _ _ h => h) (Or.inl ⟨by rfl, fun X hS => ?_⟩) hHeld ?_
  · obtain ⟨s1, s2, s3, s4, _, _⟩ := hS
    go_simp
  simp only [Act.put, List.getElem_toArray, List.getElem_cons_zero, List.getElem_cons_succ, List.setIfInBounds_toArray, List.set_cons_zero, List.set_cons_succ]
  refine wpAnyH_take (i := 4) (v := .int .i64 ((f k : Nat) : Int)) rfl (by kernel_rfl) (by kernel_rfl) (by kernel_rfl) (fun _ _ _ h => h) (Or.inl ⟨by rfl, fun X hS => ?_⟩) hHeld ?_
  · obtain ⟨s1, s2, s3, s4, _, _⟩ := hS
    go_simp
  simp only [Act.put, List.getElem_toArray, List.getElem_cons_zero, List.getElem_cons_succ, List.setIfInBounds_toArray, List.set_cons_zero, List.set_cons_succ]
  refine wpAnyH_take (i := 5) (v := .agg (recC n f)) rfl (by kernel_rfl) (by kernel_rfl) (by kernel_rfl) (fun _ _ _ h => h) (yieldsIf_load_mid (by rfl) 136 (.tmp 4) rfl B 0 rfl (recC n f).toList _ (fun X hS => hS.2.2.2.2.1) hu rfl hi) hHeld ?_
  simp only [Act.put, List.getElem_toArray, List.getElem_cons_zero, List.getElem_cons_succ, List.setIfInBounds_toArray, List.set_cons_zero, List.set_cons_succ]
  refine wpAnyH_take (i := 6) (v := .int .i64 (k : Int)) rfl (by kernel_rfl) (by kernel_rfl) (by kernel_rfl) (fun _ _ _ h => h) (Or.inl ⟨by rfl, fun X hS => ?_⟩) hHeld ?_
  · obtain ⟨s1, s2, s3, s4, _, _⟩ := hS
    go_simp
  simp only [Act.put, List.getElem_toArray, List.getElem_cons_zero, List.getElem_cons_succ, List.setIfInBounds_toArray, List.set_cons_zero, List.set_cons_succ]
  refine wpAnyH_take (i := 8) (v := .int .u64 x) rfl (by kernel_rfl) (by kernel_rfl) (by kernel_rfl) (fun _ _ _ h => h) (Or.inl ⟨by rfl, fun X hS => ?_⟩) hHeld ?_
  · obtain ⟨s1, s2, s3, s4, _, _⟩ := hS
    go_simp
  simp only [Act.put, List.getElem_toArray, List.getElem_cons_zero, List.getElem_cons_succ, List.setIfInBounds_toArray, List.set_cons_zero, List.set_cons_succ]
  refine wpAnyH_ready (rs := [7]) (by kernel_rfl) (by simp) ?_
  refine AllReadyH.cons rfl (fun K hK => ?_) AllReadyH.nil
  go_simp
  refine (fwidth_any n f hn k hk hm hs _).mono ?_
  rintro e x1 ⟨rfl, hb1⟩
  have g1 := (HO.out.below (B2.out.trans ((Below.refl _ _).drew.mono B2.out.size))).below hb1
  have k1 := ((HV2.below (Below.refl _ _).drew).below hb1).all k (by omega)
  have W1 := (Went.of_below HO.out (B2.out.trans (((Below.refl _ _).drew.trans hb1).mono B2.out.size)))
  refine hK.out _ _ k1 (fun hHeld => ?_)
  clear hK
  try simp only [Act.put, List.getElem_toArray, List.getElem_cons_zero, List.getElem_cons_succ, List.setIfInBounds_toArray, List.set_cons_zero, List.set_cons_succ]
  refine wpAnyH_ready (rs := [9]) (by kernel_rfl) (by simp) ?_
  refine AllReadyH.cons rfl (fun K hK => ?_) AllReadyH.nil
  go_simp
  refine (on_store g1 va vs h1 h2 (f k : Nat) (f (k + 1) - f k : Nat) x (by omega) hx).mono ?_
  rintro e x2 ⟨rfl, g2, hw2⟩
  have k2 := (k1.2.2.2.2.2.went g1 hw2).all k (by omega)
  have W2 := W1.trans hw2
  refine hK.out _ _ k2 (fun hHeld => ?_)
  clear hK
  try simp only [Act.put, List.getElem_toArray, List.getElem_cons_zero, List.getElem_cons_succ, List.setIfInBounds_toArray, List.set_cons_zero, List.set_cons_succ]
  refine wpAnyH_take (i := 10) (v := .int .i64 (numE s.L s.es (addrV va vs (f k : Nat) (f (k + 1) - f k : Nat)) (f (k + 1) - f k : Nat))) rfl (by kernel_rfl) (by kernel_rfl) (by kernel_rfl) (fun _ _ _ h => h) (Or.inl ⟨by rfl, fun X hS => ?_⟩) hHeld ?_
  · obtain ⟨s1, s2, s3, s4, _, _⟩ := hS
    go_simp
  simp only [Act.put, List.getElem_toArray, List.getElem_cons_zero, List.getElem_cons_succ, List.setIfInBounds_toArray, List.set_cons_zero, List.set_cons_succ]
  refine wpAnyH_done (by kernel_rfl) ?_ _
  have HF := Lib.hid (And.intro g2 W2)
  clear HV2 k1 k2 g1 g2 W1 W2 hw2
  go_wp2_with fail
  go_ret
  exact ⟨rfl, HF.out.1, HF.out.2⟩
end
end Go.Proofs.Ytdmaendhkenmgaa.Bt
