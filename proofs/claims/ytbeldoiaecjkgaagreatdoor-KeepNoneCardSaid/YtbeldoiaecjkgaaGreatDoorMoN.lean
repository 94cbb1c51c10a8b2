/- ArCopy, ArAwake, ArNil, VwA. -/
import Derived.Test.YtbeldoiaecjkgaaGreatDoorMoM
import Derived.Test.YtbeldoiaecjkgaaGreatDoorMoL
section
namespace Go.Proofs.YtbeldoiaecjkgaaGreatDoor.Bt
open Go Go.RowKit Go.Shelf
set_option linter.unusedVariables false

theorem strL_list (l : List UInt8) : (strL l).data.toList = l := rfl
theorem strL_size (l : List UInt8) : (strL l).size = l.length := rfl
theorem bytes_len (x : ByteArray) : x.data.toList.length = x.size := by rw [Array.length_toList]; rfl
section
variable {A P n cap : Nat} {s : ASt} {ps : List (Option Nat)} {p : Option Addr} {w : World}
theorem put_no (h : ArX A s P ps p n cap w) (a : Int) (ha : a ≤ 9223372036854775807) (x : ByteArray) (hx : x.size ≤ 9223372036854775807) (hn : thereE s.L s.es a x.size ≠ 0) :
    Calls Tryz.prog 222 #[.pointer (some ⟨A, 0, none⟩), .int .i64 a, .string x] w (PutPost A P s ps p a x.data.toList w) := by
  have hb0 : (thereE s.L s.es a x.size != 0) = true := by rw [bne_iff_ne]; exact hn
  have HNE := Lib.hid hn
  have HX := Lib.hid h
  have HL := Lib.hid (bytes_len x)
  clear hn h
  go_enter Tryz.func222, Tryz.ntmps222
  go_wp2_with fail
  have B0 : Below w.heap.size w ((w.alloc (.cells #[.pointer (some ⟨A, 0, none⟩)] 33)).alloc (.cells #[.string x] 9)) := ((Below.refl w.heap.size w).alloc (Nat.le_refl _) _).alloc (by simp) _
  refine (there_any (HX.out.below B0) a x.size ha).mono ?_
  rintro e w1 ⟨rfl, hb⟩
  have B1 := B0.trans (hb.mono B0.size)
  clear hb
  go_wp2_with fail
  go_ret
  refine ⟨by rw [HL.out]; rfl, ps, p, n, cap, ?_, Step.of_below B1, fun _ _ _ => .inl rfl⟩
  unfold putS
  rw [HL.out, if_neg HNE.out]; exact HX.out.below B1
theorem put_any (h : ArX A s P ps p n cap w) (a : Int) (ha : a ≤ 9223372036854775807) (x : ByteArray) (hx : x.size ≤ 9223372036854775807) :
    Calls Tryz.prog 222 #[.pointer (some ⟨A, 0, none⟩), .int .i64 a, .string x] w (PutPost A P s ps p a x.data.toList w) := by
  by_cases hn : thereE s.L s.es a x.size = 0
  · have ht : thereB s.L s.es a x.size = true := by
      unfold thereE at hn
      cases hq : thereB s.L s.es a x.size with
      | true => rfl
      | false => rw [hq] at hn; cases hn
    obtain ⟨t0, t1, t2, t3⟩ := (there_iff h.good a x.size).1 ht
    obtain ⟨an, rfl⟩ : ∃ an : Nat, a = an := ⟨a.toNat, by omega⟩
    exact callsIn_wide.1 (put_yes h an x hx hn)
  · exact put_no h a ha x hx hn

/-- Copy -/
def copyE (s : ASt) (to fr k : Int) : Int := if thereE s.L s.es to k ≠ 0 then 3 else if to = fr then 0 else thereE s.L s.es fr k
def copyS (s : ASt) (to fr k : Int) : ASt := if copyE s to fr k = 0 then (if to = fr then s else { s with mm := putM s.mm to.toNat (getM s.mm fr.toNat k.toNat) }) else s
theorem thereE_or (L : Nat) (es : List Nat) (a k : Int) : thereE L es a k = 0 ∨ thereE L es a k = 3 := by unfold thereE; split; exact .inl rfl; exact .inr rfl
def CopyPost (A P : Nat) (s : ASt) (ps : List (Option Nat)) (p : Option Addr) (to fr k : Int) (w : World) (e : Ending) (w' : World) : Prop :=
  e = .returned (.int .i64 (copyE s to fr k)) ∧ Turned A P ps p (copyS s to fr k) w w'
theorem copy_any (h : ArX A s P ps p n cap w) (to fr k : Int) (h1 : to ≤ 9223372036854775807) (h2 : fr ≤ 9223372036854775807) :
    Calls Tryz.prog 177 #[.pointer (some ⟨A, 0, none⟩), .int .i64 to, .int .i64 fr, .int .i64 k] w (CopyPost A P s ps p to fr k w) := by
  have HX := Lib.hid h
  have g := Lib.hid h.good
  clear h
  rcases thereE_or s.L s.es to k with ht | ht
  · have HT := Lib.hid ht
    by_cases he : to = fr
    · have HE : Hid (copyE s to fr k = 0 ∧ copyS s to fr k = s) := Lib.hid (by
        have : copyE s to fr k = 0 := by unfold copyE; rw [if_neg (by rw [ht]; simp), if_pos he]
        exact ⟨this, by unfold copyS; rw [if_pos this, if_pos he]⟩)
      have hd : (to == fr) = true := by simpa using he
      have HC := fun w (hw : ArX A s P ps p n cap w) => there_any hw to k h1
      clear he ht
      go_enter Tryz.func177, Tryz.ntmps177
      go_wp2_with fail
      refine (HC _ HX.out).mono ?_
      rintro e w1 ⟨rfl, hb⟩
      rw [HT.out]
      clear HC
      go_wp2_with fail
      go_ret
      exact ⟨by rw [HE.out.1]; rfl, by rw [HE.out.2]; exact ⟨ps, p, n, cap, HX.out.below hb, Step.of_below hb, fun _ _ _ => .inl rfl⟩⟩
    · have hd : (to == fr) = false := by simpa using he
      rcases thereE_or s.L s.es fr k with hf | hf
      · have hk : 0 ≤ k ∧ k ≤ 4294967296 := by
          have hb : thereB s.L s.es fr k = true := by
            unfold thereE at hf
            cases hq : thereB s.L s.es fr k with
            | true => rfl
            | false => rw [hq] at hf; cases hf
          obtain ⟨t0, t1, t2, _⟩ := (there_iff g.out fr k).1 hb
          have := g.out.small
          omega
        have hlen : ((getM s.mm fr.toNat k.toNat).length : Int) = k := by rw [getM_length]; omega
        have HE : Hid (copyE s to fr k = 0 ∧ copyS s to fr k = { s with mm := putM s.mm to.toNat (getM s.mm fr.toNat k.toNat) } ∧ putS s to (getM s.mm fr.toNat k.toNat) = copyS s to fr k) := Lib.hid (by
          have h0 : copyE s to fr k = 0 := by unfold copyE; rw [if_neg (by rw [ht]; simp), if_neg he, hf]
          have h1 : copyS s to fr k = { s with mm := putM s.mm to.toNat (getM s.mm fr.toNat k.toNat) } := by unfold copyS; rw [if_pos h0, if_neg he]
          exact ⟨h0, h1, by rw [h1]; unfold putS; rw [hlen, if_pos ht]⟩)
        have HF := Lib.hid hf
        have HLEN := Lib.hid hlen
        have HC := fun w (hw : ArX A s P ps p n cap w) => there_any hw to k h1
        have HB := fun w (hw : ArX A s P ps p n cap w) => bytes_any hw fr k h2
        have HP := fun w (hw : ArX A s P ps p n cap w) => put_any hw to h1 (strL (getM s.mm fr.toNat k.toNat)) (by rw [strL_size]; omega)
        clear he ht hf hlen
        go_enter Tryz.func177, Tryz.ntmps177
        go_wp2_with fail
        refine (HC _ HX.out).mono ?_
        rintro e w1 ⟨rfl, hb⟩
        rw [HT.out]
        have HX1 := Lib.hid (HX.out.below hb)
        clear HC
        go_wp2_with fail
        refine (HB _ HX1.out).mono ?_
        rintro e w2 ⟨rfl, hb2⟩
        rw [HF.out, if_pos rfl]
        have HX2 := Lib.hid (HX1.out.below hb2)
        clear HB
        generalize hst : strL (getM s.mm fr.toNat k.toNat) = str at *
        have HST := Lib.hid hst
        clear hst
        go_wp2_with fail
        refine (HP _ HX2.out).mono ?_
        rintro e w3 ⟨rfl, ht3⟩
        have hsl : str.data.toList = getM s.mm fr.toNat k.toNat := by rw [← HST.out]; rfl
        rw [hsl, HLEN.out, HT.out]
        rw [hsl, HE.out.2.2] at ht3
        have HT3 := Lib.hid ht3
        clear ht3 hsl HP
        go_wp2_with fail
        go_ret
        exact ⟨by rw [HE.out.1]; rfl, Turned.trans (s' := s) (Step.of_below (hb.trans (hb2.mono hb.size))) (fun _ _ _ => .inl rfl) HT3.out⟩
      · have HE : Hid (copyE s to fr k = 3 ∧ copyS s to fr k = s) := Lib.hid (by
          have h0 : copyE s to fr k = 3 := by unfold copyE; rw [if_neg (by rw [ht]; simp), if_neg he, hf]
          exact ⟨h0, by unfold copyS; rw [h0]; rfl⟩)
        have HF := Lib.hid hf
        have HC := fun w (hw : ArX A s P ps p n cap w) => there_any hw to k h1
        have HB := fun w (hw : ArX A s P ps p n cap w) => bytes_any hw fr k h2
        clear he ht hf
        go_enter Tryz.func177, Tryz.ntmps177
        go_wp2_with fail
        refine (HC _ HX.out).mono ?_
        rintro e w1 ⟨rfl, hb⟩
        rw [HT.out]
        have HX1 := Lib.hid (HX.out.below hb)
        clear HC
        go_wp2_with fail
        refine (HB _ HX1.out).mono ?_
        rintro e w2 ⟨rfl, hb2⟩
        rw [HF.out, if_neg (by decide)]
        have B2 := hb.trans (hb2.mono hb.size)
        clear HB
        go_wp2_with fail
        go_ret
        exact ⟨by rw [HE.out.1]; rfl, by rw [HE.out.2]; exact ⟨ps, p, n, cap, HX.out.below B2, Step.of_below B2, fun _ _ _ => .inl rfl⟩⟩
  · have HT := Lib.hid ht
    have HE : Hid (copyE s to fr k = 3 ∧ copyS s to fr k = s) := Lib.hid (by
      have h0 : copyE s to fr k = 3 := by unfold copyE; rw [if_pos (by rw [ht]; decide)]
      exact ⟨h0, by unfold copyS; rw [h0]; rfl⟩)
    have HC := fun w (hw : ArX A s P ps p n cap w) => there_any hw to k h1
    clear ht
    go_enter Tryz.func177, Tryz.ntmps177
    go_wp2_with fail
    refine (HC _ HX.out).mono ?_
    rintro e w1 ⟨rfl, hb⟩
    rw [HT.out]
    clear HC
    go_wp2_with fail
    go_ret
    exact ⟨by rw [HE.out.1]; rfl, by rw [HE.out.2]; exact ⟨ps, p, n, cap, HX.out.below hb, Step.of_below hb, fun _ _ _ => .inl rfl⟩⟩
end
end Go.Proofs.YtbeldoiaecjkgaaGreatDoor.Bt
end
section
namespace Go.Proofs.YtbeldoiaecjkgaaGreatDoor.Bt
open Go Go.RowKit Go.Shelf
set_option linter.unusedVariables false

theorem awake2 (w : World) : Calls Tryz.prog 326 #[] w fun e w' => e = .returned (.bool true) ∧ Below w.heap.size w w' := by
  go_enter Tryz.func326, Tryz.ntmps326
  go_wp2_with fail
  refine (awake_calls _).mono ?_
  rintro e w1 ⟨rfl, hb⟩
  go_wp2_with fail
  go_ret
  exact ⟨rfl, hb⟩

theorem awake3_calls (w : World) : Calls Tryz.prog 309 #[] w fun e w' => e = .returned (.bool true) ∧ Below w.heap.size w w' := by
  have l2 : lenN 2 = 2 := by decide
  have e1 : commitE (newS 2) 1 1 = 0 := by decide
  have e2 : numE 2 [1, 2] 4096 2 = 0 := by decide
  have e3 : thereE 2 [1, 2] 4096 3 = 0 := by decide
  have e4 : numE 2 [1, 2] 4095 1 = 3 := by decide
  have s1 : commitS (newS 2) 1 1 = ⟨2, [1, 2], fun _ => 0, false, 0⟩ := by
    unfold commitS
    rw [if_neg (by decide), show refB (newS 2) = false from rfl]
    show ASt.mk _ _ _ _ _ = _
    rw [show laidS (newS 2).L (newS 2).es 1 1 true = [1, 2] from by decide]; rfl
  have s2 : storeS ⟨2, [1, 2], fun _ => 0, false, 0⟩ 4096 2 258 = ⟨2, [1, 2], putM (fun _ => 0) 4096 [2, 1], false, 0⟩ := by
    unfold storeS
    rw [if_pos (by decide)]
    rfl
  have g3 : strL (getM (putM (fun _ => 0) 4096 [2, 1]) (4096 : Int).toNat (3 : Int).toNat) = ⟨#[2, 1, 0]⟩ := by decide
  have L2 := Lib.hid l2; have E1 := Lib.hid e1; have E2 := Lib.hid e2; have E3 := Lib.hid e3; have E4 := Lib.hid e4; have S1 := Lib.hid s1; have S2 := Lib.hid s2; have G3 := Lib.hid g3
  clear l2 e1 e2 e3 e4 s1 s2 g3
  go_enter Tryz.func309, Tryz.ntmps309
  go_wp2_with fail
  refine (arena_new 2 _).mono ?_
  rintro e w1 ⟨A, P, rfl, hA, hP, hx, hb1⟩
  rw [L2.out] at hx
  have hx0 := Lib.hid hx
  have hn0 : ∀ i b : Nat, (List.replicate 2 (none : Option Nat))[i]? = some (some b) → w.heap.size ≤ b := fun i b h => by
    rw [List.getElem?_replicate] at h; split at h <;> cases h
  clear hx
  go_wp2_with fail
  refine (commit_any hx0.out 1 1 (by omega)).mono ?_
  rintro e w2 ⟨rfl, ht⟩
  rw [E1.out]; rw [S1.out] at ht
  have ht2 := Lib.hid (ht.at hb1.size hA hP hn0)
  clear ht
  obtain ⟨P2, ps2, p2, n2, c2, hx2, hA2, hP2, hps2⟩ := ht2.out.1
  have HX2 := Lib.hid hx2
  have B2 := hb1.trans ht2.out.2
  clear hx2
  go_wp2_with fail
  refine (store_any HX2.out 4096 2 258 (by omega) (by omega)).mono ?_
  rintro e w3 ⟨rfl, ht⟩
  rw [S2.out] at ht
  have ht3 := Lib.hid (ht.at B2.size hA2 hP2 hps2)
  clear ht
  obtain ⟨P3, ps3, p3, n3, c3, hx3, hA3, hP3, hps3⟩ := ht3.out.1
  have HX3 := Lib.hid hx3
  have B3 := B2.trans ht3.out.2
  clear hx3
  have E2' : Hid (numE (ASt.mk 2 [1, 2] (fun _ => 0) false 0).L (ASt.mk 2 [1, 2] (fun _ => 0) false 0).es 4096 2 = 0) := E2
  rw [E2'.out]
  go_wp2_with fail
  refine (bytes_any HX3.out 4096 3 (by omega)).mono ?_
  rintro e w4 ⟨rfl, hb4⟩
  have hx4 := HX3.out.below hb4
  have HX4 := Lib.hid hx4
  have B4 := B3.trans (hb4.mono B3.size)
  clear hx4
  have E3' : Hid (thereE (ASt.mk 2 [1, 2] (putM (fun _ => 0) 4096 [2, 1]) false 0).L (ASt.mk 2 [1, 2] (putM (fun _ => 0) 4096 [2, 1]) false 0).es 4096 3 = 0) := E3
  rw [E3'.out, if_pos rfl]
  have G3' : Hid (strL (getM (ASt.mk 2 [1, 2] (putM (fun _ => 0) 4096 [2, 1]) false 0).mm (4096 : Int).toNat (3 : Int).toNat) = ⟨#[2, 1, 0]⟩) := G3
  rw [G3'.out]
  go_wp2_with fail
  refine (load_any HX4.out 4095 1 (by omega)).mono ?_
  rintro e w5 ⟨rfl, hb5⟩
  have B5 := B4.trans (hb5.mono B4.size)
  have E4' : Hid (numE (ASt.mk 2 [1, 2] (putM (fun _ => 0) 4096 [2, 1]) false 0).L (ASt.mk 2 [1, 2] (putM (fun _ => 0) 4096 [2, 1]) false 0).es 4095 1 = 3) := E4
  rw [E4'.out, if_neg (by decide)]
  go_wp2_with fail
  refine (awake2 _).mono ?_
  rintro e w6 ⟨rfl, hb6⟩
  go_wp2_with fail
  go_ret
  exact ⟨rfl, B5.trans (hb6.mono B5.size)⟩
end Go.Proofs.YtbeldoiaecjkgaaGreatDoor.Bt
end
section
namespace Go.Proofs.YtbeldoiaecjkgaaGreatDoor.Bt
open Go Go.RowKit Go.Shelf
set_option linter.unusedVariables false

theorem good0 : Good 0 [] := ⟨List.Pairwise.nil, rfl, (fun e h => by cases h), by omega⟩
theorem has_nil (i : Int) (w : World) : Calls Tryz.prog 387 #[.pointer none, .int .i64 i] w fun e w' => e = .returned (.bool false) ∧ Below w.heap.size w w' := by
  have h0 : Hid (hasB 0 [] i = false) := Lib.hid (by unfold hasB; rw [decide_eq_false (by omega)]; rfl)
  go_enter Tryz.func387, Tryz.ntmps387
  go_wp2_with fail
  refine (pages_nil _).mono ?_
  rintro e w1 ⟨rfl, hb1⟩
  go_wp2_with fail
  refine (has_any 0 none 0 0 [] i _ good0 (.inl ⟨rfl, rfl⟩) rfl).mono ?_
  rintro e w2 ⟨rfl, hb2⟩
  rw [h0.out]
  go_wp2_with fail
  go_ret
  exact ⟨rfl, hb1.trans (hb2.mono hb1.size)⟩
theorem decommit_nil (a k : Int) (w : World) : Calls Tryz.prog 70 #[.pointer none, .int .i64 a, .int .i64 k] w fun e w' => e = .returned (.int .i64 1) ∧ w = w' := by
  go_enter Tryz.func70, Tryz.ntmps70
  go_wp2_with fail
  refine (acount_nil a k _).mono ?_
  rintro e w1 ⟨rfl, rfl⟩
  go_wp2_with fail
  go_ret
  exact ⟨rfl, rfl⟩
theorem put_nil (a : Int) (s : ByteArray) (hs : s.size ≤ 9223372036854775807) (w : World) : Calls Tryz.prog 222 #[.pointer none, .int .i64 a, .string s] w fun e w' => e = .returned (.int .i64 1) ∧ Below w.heap.size w w' := by
  go_enter Tryz.func222, Tryz.ntmps222
  go_wp2_with fail
  refine (there_nil a _ _).mono ?_
  rintro e w1 ⟨rfl, rfl⟩
  go_wp2_with fail
  go_ret
  exact ⟨rfl, ((Below.refl w.heap.size w).alloc (Nat.le_refl _) _).alloc (by simp) _⟩
theorem fill_nil (a k b : Int) (w : World) : Calls Tryz.prog 64 #[.pointer none, .int .i64 a, .int .i64 k, .int .u8 b] w fun e w' => e = .returned (.int .i64 1) ∧ Below w.heap.size w w' := by
  go_enter Tryz.func64, Tryz.ntmps64
  go_wp2_with fail
  refine (there_nil a k _).mono ?_
  rintro e w1 ⟨rfl, rfl⟩
  go_wp2_with fail
  go_ret
  exact ⟨rfl, ((Below.refl w.heap.size w).alloc (Nat.le_refl _) _).alloc (by simp) _⟩
theorem copy_nil (a b k : Int) (w : World) : Calls Tryz.prog 177 #[.pointer none, .int .i64 a, .int .i64 b, .int .i64 k] w fun e w' => e = .returned (.int .i64 1) ∧ w = w' := by
  go_enter Tryz.func177, Tryz.ntmps177
  go_wp2_with fail
  refine (there_nil a k _).mono ?_
  rintro e w1 ⟨rfl, rfl⟩
  go_wp2_with fail
  go_ret
  exact ⟨rfl, rfl⟩

end Go.Proofs.YtbeldoiaecjkgaaGreatDoor.Bt
end
section
namespace Go.Proofs.YtbeldoiaecjkgaaGreatDoor.Bt
open Go Go.RowKit Go.Shelf
set_option linter.unusedVariables false

def viewV (pa : Option Addr) (va vs : Nat) : Array Value := #[.pointer pa, .int .i64 (va : Int), .int .i64 (vs : Int)]
/-- the address of a place from which on so many bytes are within the view -/
def addrV (va vs : Nat) (a k : Int) : Int := if 0 ≤ a ∧ 0 ≤ k ∧ k ≤ (vs : Int) - a then (va : Int) + a else -1
theorem addrV_le {va vs : Nat} (h1 : va ≤ 4294967296) (h2 : vs ≤ 4294967296) (a k : Int) : addrV va vs a k ≤ 9223372036854775807 := by unfold addrV; split <;> omega
theorem address_any (pa : Option Addr) (va vs : Nat) (h1 : va ≤ 4294967296) (h2 : vs ≤ 4294967296) (a k : Int) (ha : a ≤ 9223372036854775807) (w : World) :
    Calls Tryz.prog 132 #[.agg #[.pointer pa, .int .i64 (va : Int), .int .i64 (vs : Int)], .int .i64 a, .int .i64 k] w fun e w' => e = .returned (.int .i64 (addrV va vs a k)) ∧ Below w.heap.size w w' := by
  by_cases c1 : a < 0
  · have HR : Hid (addrV va vs a k = -1) := Lib.hid (by unfold addrV; rw [if_neg (by omega)])
    have d1 : decide (a < 0) = true := by simpa using c1
    go_enter Tryz.func132, Tryz.ntmps132
    go_wp2_with fail
    go_ret
    exact ⟨by rw [HR.out]; rfl, (Below.refl _ _).alloc (Nat.le_refl _) _⟩
  have d1 : decide (a < 0) = false := by simpa using c1
  by_cases c2 : k < 0
  · have HR : Hid (addrV va vs a k = -1) := Lib.hid (by unfold addrV; rw [if_neg (by omega)])
    have d2 : decide (k < 0) = true := by simpa using c2
    go_enter Tryz.func132, Tryz.ntmps132
    go_wp2_with fail
    go_ret
    exact ⟨by rw [HR.out]; rfl, (Below.refl _ _).alloc (Nat.le_refl _) _⟩
  have d2 : decide (k < 0) = false := by simpa using c2
  by_cases c3 : (vs : Int) - a < k
  · have HR : Hid (addrV va vs a k = -1) := Lib.hid (by unfold addrV; rw [if_neg (by omega)])
    have d3 : decide ((vs : Int) - a < k) = true := by simpa using c3
    go_enter Tryz.func132, Tryz.ntmps132
    go_wp2_with fail
    go_ret
    exact ⟨by rw [HR.out]; rfl, (Below.refl _ _).alloc (Nat.le_refl _) _⟩
  · have HR : Hid (addrV va vs a k = (va : Int) + a) := Lib.hid (by unfold addrV; rw [if_pos (by omega)])
    have d3 : decide ((vs : Int) - a < k) = false := by simpa using c3
    go_enter Tryz.func132, Tryz.ntmps132
    go_wp2_with fail
    go_ret
    exact ⟨by rw [HR.out]; rfl, (Below.refl _ _).alloc (Nat.le_refl _) _⟩
theorem vsize_any (pa : Option Addr) (va vs : Nat) (w : World) : Calls Tryz.prog 175 #[.agg #[.pointer pa, .int .i64 (va : Int), .int .i64 (vs : Int)]] w fun e w' => e = .returned (.int .i64 (vs : Int)) ∧ Below w.heap.size w w' := by
  go_enter Tryz.func175, Tryz.ntmps175
  go_wp2_with fail
  go_ret
  exact ⟨rfl, (Below.refl _ _).alloc (Nat.le_refl _) _⟩

/-- the view's own variable, and what lay ahead of it -/
def VH (B : Nat) (pa : Option Addr) (va vs : Nat) (w x : World) : Prop := x.heap[B]? = some (.cells #[.pointer pa, .int .i64 (va : Int), .int .i64 (vs : Int)] 35 (0, 0)) ∧ Below w.heap.size w x
theorem VH.lt {B : Nat} {pa : Option Addr} {va vs : Nat} {w x : World} (h : VH B pa va vs w x) : B < x.heap.size := (Array.getElem?_eq_some_iff.1 h.1).1
theorem VH.below {B : Nat} {pa : Option Addr} {va vs : Nat} {w x y : World} (h : VH B pa va vs w x) (hb : Below x.heap.size x y) : VH B pa va vs w y := ⟨(hb.block _ h.lt).trans h.1, h.2.trans (hb.mono h.2.size)⟩
theorem VH.all {B : Nat} {pa : Option Addr} {va vs : Nat} {w x : World} (h : VH B pa va vs w x) : x.cell? ⟨B, 0, none⟩ = some (.pointer pa) ∧ x.cell? ⟨B, 1, none⟩ = some (.int .i64 (va : Int)) ∧ x.cell? ⟨B, 2, none⟩ = some (.int .i64 (vs : Int)) ∧ VH B pa va vs w x :=
  ⟨(cell_blk h.1 0).1, (cell_blk h.1 1).1, (cell_blk h.1 2).1, h⟩
theorem VH.new (pa : Option Addr) (va vs : Nat) (w : World) : VH w.heap.size pa va vs w (w.alloc (.cells #[.pointer pa, .int .i64 (va : Int), .int .i64 (vs : Int)] 35)) := ⟨heap_new _ _, (Below.refl _ _).alloc (Nat.le_refl _) _⟩

set_option maxHeartbeats 1000000 in
theorem vload_gen (pa : Option Addr) (va vs : Nat) (h1 : va ≤ 4294967296) (h2 : vs ≤ 4294967296) (a k : Int) (ha : a ≤ 9223372036854775807) (w : World) (v er : Int)
    (HC : ∀ x, Below w.heap.size w x → Calls Tryz.prog 172 #[.pointer pa, .int .i64 (addrV va vs a k), .int .i64 k] x fun e x' => e = .returned (.tuple #[.int .u64 v, .int .i64 er]) ∧ Below x.heap.size x x') :
    Calls Tryz.prog 87 #[.agg #[.pointer pa, .int .i64 (va : Int), .int .i64 (vs : Int)], .int .i64 a, .int .i64 k] w fun e w' => e = .returned (.tuple #[.int .u64 v, .int .i64 er]) ∧ Below w.heap.size w w' := by
  have HC' := Lib.hid HC; clear HC
  go_enter Tryz.func87, Tryz.ntmps87
  go_wp2_with fail
  have HH := VH.new pa va vs w
  obtain ⟨w1, hw1⟩ : ∃ w1, w.alloc (.cells #[.pointer pa, .int .i64 (va : Int), .int .i64 (vs : Int)] 35) = w1 := ⟨_, rfl⟩
  rw [hw1] at HH ⊢
  clear hw1
  obtain ⟨B, hB⟩ : ∃ B, w.heap.size = B := ⟨_, rfl⟩
  rw [hB] at HH ⊢
  clear hB
  go_region_held3 (fun x => x.cell? ⟨B, 0, none⟩ = some (.pointer pa) ∧ x.cell? ⟨B, 1, none⟩ = some (.int .i64 (va : Int)) ∧ x.cell? ⟨B, 2, none⟩ = some (.int .i64 (vs : Int)) ∧ VH B pa va vs w x)
    (first | exact (HH.below (Below.refl _ _).drew).all | assumption)
    (first | (go_at_call 132; refine (address_any pa va vs h1 h2 a k ha _).mono ?_; rintro e w' ⟨rfl, hbb⟩; have hnx := ((HH.below (Below.refl _ _).drew).below hbb).all)
           | (go_at_call 172; refine (HC'.out _ hnx.2.2.2.2).mono ?_; rintro e w'' ⟨rfl, hbc⟩; have hny := (hnx.2.2.2.below hbc).all))
  have hf := hny.2.2.2.2
  clear HH hnx hny
  go_wp2_with fail
  go_ret2
  exact ⟨rfl, hf⟩
end Go.Proofs.YtbeldoiaecjkgaaGreatDoor.Bt
end
