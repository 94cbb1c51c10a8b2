/- Several texts in one: CeI; CeJ; CeK. -/
import Derived.Test.YtcbbhefgdonabaaCkG
import Derived.Test.YtcbbhefgdonabaaCkB
import Derived.Test.YtcbbhefgdonabaaBitsVar
import Derived.Lib.SmallJoins
import Derived.Deep.Slices
import Derived.Deep.Strs
import Derived.ChangeSame
import Derived.OpenShut
import Derived.WideShapes
import Derived.WalkSmall
/- The document's Pop; each act of both, in one contract; the statements' list. (Written by gen_cei.py.) -/
namespace Go.Proofs.Ytcbbhefgdonabaa.Bt
open Go Go.RowKit Go.Shelf
set_option linter.unusedVariables false
set_option linter.unusedSimpArgs false
set_option maxRecDepth 100000
section
variable {w : World} {L : List Ent}
set_option maxHeartbeats 4000000 in
theorem dpop21_none (p : Option Addr) (cap : Nat) : Calls Try.prog 12 #[.slice p 0 cap] w (Gives (.tuple #[.slice p 0 cap, zE, .bool false]) w) := by
  have HF0 := Lib.hid ((Fb.start w).new #[.int .u64 0, .int .u8 0, .int .u8 0, .int .u64 0] 41)
  go_enter Try.func12, Try.ntmps12
  go_upto_region 1 with fail
  change Code.wp _ _ _ _ (w.alloc (.cells #[.int .u64 0, .int .u8 0, .int .u8 0, .int .u64 0] 41))
  obtain ⟨y, hy⟩ : ∃ y, (w.alloc (.cells #[.int .u64 0, .int .u8 0, .int .u8 0, .int .u64 0] 41)) = y := ⟨_, rfl⟩
  obtain ⟨B0, hB0⟩ : ∃ B, w.heap.size = B := ⟨_, rfl⟩
  have hf := HF0.out
  rw [hy, hB0] at hf
  rw [hy, hB0]
  have HF := Lib.hid hf
  clear hf HF0 hy hB0 
  have o0 := HF.out.cell0 0 rfl; have o1 := HF.out.cell0 1 rfl; have o2 := HF.out.cell0 2 rfl; have o3 := HF.out.cell0 3 rfl
  have f0 := HF.out.free0 0; have f1 := HF.out.free0 1; have f2 := HF.out.free0 2; have f3 := HF.out.free0 3
  go_wp2_with fail
  have hst : Fb w [⟨B0, #[.int .u64 0, .int .u8 0, .int .u8 0, .int .u64 0], 41⟩] (stR y B0 [.int .u64 0, .int .u8 0, .int .u8 0, .int .u64 0] 0) := HF.out.stores0 [.int .u64 0, .int .u8 0, .int .u8 0, .int .u64 0] 0
  change bodyPost _ _ _ _ _ (stR y B0 [.int .u64 0, .int .u8 0, .int .u8 0, .int .u64 0] 0)
  obtain ⟨z, hzz⟩ : ∃ z, stR y B0 [.int .u64 0, .int .u8 0, .int .u8 0, .int .u64 0] 0 = z := ⟨_, rfl⟩
  rw [hzz] at hst ⊢
  have g0 := hst.cell0 0 rfl; have g1 := hst.cell0 1 rfl; have g2 := hst.cell0 2 rfl; have g3 := hst.cell0 3 rfl
  have HST := Lib.hid hst
  clear hst
  exact bodyPost_ret (v := .tuple #[.slice p 0 cap, zE, .bool false]) (by simp [results, Try.results12, go_sem, g0, g1, g2, g3]) rfl ⟨rfl, HST.out.be⟩
set_option maxHeartbeats 8000000 in
theorem dpop21_yes (p : Option Addr) (cap i : Nat) (E : Ent) (hD : DocE p cap L w) (hn : L.length ≤ 100) (hi : L.length = i + 1) (hix : ixE L E.i = i) (hE : L[i]? = some E) :
    Calls Try.prog 12 #[.slice p L.length cap] w (DGo L i E (.bool true) w) := by
  have HK := Lib.hid fun (X : World) (hX : Below w.heap.size w X) => dkill21_yes (w := X) p cap E.i i E (hD.below hX) hn hix hE
  have HD := Lib.hid hD
  have HE := Lib.hid hE
  obtain ⟨n, hnn⟩ : ∃ n, L.length = n := ⟨_, rfl⟩
  rw [hnn] at HK hn hi
  rw [hnn]
  have hq : (n : Int) - 1 = (i : Int) := by omega
  have hnz : ((n : Int) == 0) = false := by simp; omega
  have hnz2 : ¬ ((n : Int) = 0) := by omega
  have hin : (i : Int) < (n : Int) := by omega
  have hin2 : i < n := by omega
  clear hD hnn hE hix hi
  have HF0 := Lib.hid ((Fb.start w).new #[.int .u64 0, .int .u8 0, .int .u8 0, .int .u64 0] 41)
  go_enter Try.func12, Try.ntmps12
  go_upto_region 1 with fail
  change Code.wp _ _ _ _ (w.alloc (.cells #[.int .u64 0, .int .u8 0, .int .u8 0, .int .u64 0] 41))
  obtain ⟨y, hy⟩ : ∃ y, (w.alloc (.cells #[.int .u64 0, .int .u8 0, .int .u8 0, .int .u64 0] 41)) = y := ⟨_, rfl⟩
  obtain ⟨B0, hB0⟩ : ∃ B, w.heap.size = B := ⟨_, rfl⟩
  have hf := HF0.out
  rw [hy, hB0] at hf
  rw [hy, hB0]
  have HF := Lib.hid hf
  clear hf HF0 hy hB0 
  obtain ⟨g, rfl, hg, q0, q1, q2, q3⟩ := (HD.out.below HF.out.be).cells HE.out
  clear hg
  go_wp2_with fail
  refine (HK.out _ HF.out.be).mono ?_
  rintro e1 w1 ⟨p', cap', rfl, hD2, hge, hb⟩
  have HNEQ : Hid (∀ g, p' = some ⟨g, 0, none⟩ → L.eraseIdx i ≠ [] → g ≠ B0) := Lib.hid (fun g hp hM => by
    have h4 := hge g hp hM
    have h5 := (Array.getElem?_eq_some_iff.1 HF.out.at0).1
    omega)
  have hge_ : Hid (∀ g, p' = some ⟨g, 0, none⟩ → L.eraseIdx i ≠ [] → w.heap.size ≤ g) := Lib.hid (fun g hp hM => by
    have h4 := hge g hp hM
    have h5 := HF.out.be.size
    omega)
  clear hge
  have HF1 := Lib.hid (HF.out.below hb)
  have HD2 := Lib.hid (hD2.below (bel1 w1 (.cells #[.int .u64 (E.i : Int), .int .u8 (E.k : Int), .int .u8 (E.l : Int), .int .u64 (E.x : Int)] 41)))
  obtain ⟨l', hl'⟩ : ∃ l', (L.eraseIdx i).length = l' := ⟨_, rfl⟩
  have HLE := Lib.hid hl'
  rw [hl']
  clear hb HF HK hD2 hl' q0 q1 q2 q3 hq
  go_upto_region 4 with fail
  have hf1 := HF1.out.new #[.int .u64 (E.i : Int), .int .u8 (E.k : Int), .int .u8 (E.l : Int), .int .u64 (E.x : Int)] 41
  change Code.wp _ _ _ _ (w1.alloc (.cells #[.int .u64 (E.i : Int), .int .u8 (E.k : Int), .int .u8 (E.l : Int), .int .u64 (E.x : Int)] 41))
  obtain ⟨w2, hw2⟩ : ∃ y, w1.alloc (.cells #[.int .u64 (E.i : Int), .int .u8 (E.k : Int), .int .u8 (E.l : Int), .int .u64 (E.x : Int)] 41) = y := ⟨_, rfl⟩
  obtain ⟨V, hV⟩ : ∃ V, w1.heap.size = V := ⟨_, rfl⟩
  rw [hw2] at hf1 HD2
  rw [hV] at hf1
  rw [hw2, hV]
  have HF2 := Lib.hid (hf1.below (Below.refl _ _).drew)
  have HD3 := Lib.hid (HD2.out.below (Below.refl _ _).drew)
  clear hw2 hV hf1 HF1 HD2
  refine wp_region_held_drew (S := fun X => X.heap[V]? = some (.cells #[.int .u64 (E.i : Int), .int .u8 (E.k : Int), .int .u8 (E.l : Int), .int .u64 (E.x : Int)] 41 (0, 0))) (by kernel_rfl) HF2.out.at0 (fun hHeld => ?_)
  generalize w2.drew = x at *
  refine wpAnyH_take (i := 0) (v := (.slice p' l' cap')) rfl (by kernel_rfl) (by kernel_rfl) (by kernel_rfl) (fun _ _ _ h => h) (Or.inl ⟨by rfl, fun X hS => ?_⟩) hHeld ?_
  · skip
    go_simp
  try simp only [Act.put, List.getElem_toArray, List.getElem_cons_zero, List.getElem_cons_succ, List.setIfInBounds_toArray, List.set_cons_zero, List.set_cons_succ]
  refine wpAnyH_take (i := 1) (v := (.agg #[.int .u64 (E.i : Int), .int .u8 (E.k : Int), .int .u8 (E.l : Int), .int .u64 (E.x : Int)])) rfl (by kernel_rfl) (by kernel_rfl) (by kernel_rfl) (fun _ _ _ h => h) (Or.inl ⟨by rfl, fun X hS => ?_⟩) hHeld ?_
  · have v0 := (cell_blk hS 0).1; have v1 := (cell_blk hS 1).1; have v2 := (cell_blk hS 2).1; have v3 := (cell_blk hS 3).1
    go_simp
  try simp only [Act.put, List.getElem_toArray, List.getElem_cons_zero, List.getElem_cons_succ, List.setIfInBounds_toArray, List.set_cons_zero, List.set_cons_succ]
  refine wpAnyH_take (i := 2) (v := (.slice p' l' cap')) rfl (by kernel_rfl) (by kernel_rfl) (by kernel_rfl) (fun _ _ _ h => h) (Or.inl ⟨by rfl, fun X hS => ?_⟩) hHeld ?_
  · skip
    go_simp
  try simp only [Act.put, List.getElem_toArray, List.getElem_cons_zero, List.getElem_cons_succ, List.setIfInBounds_toArray, List.set_cons_zero, List.set_cons_succ]
  refine wpAnyH_ready (rs := [3]) (by kernel_rfl) (by simp) (AllReadyH.cons rfl (fun K1 hK1 => ?_) AllReadyH.nil)
  have o0 := HF2.out.cell1 0 rfl; have o1 := HF2.out.cell1 1 rfl; have o2 := HF2.out.cell1 2 rfl; have o3 := HF2.out.cell1 3 rfl
  have f0 := HF2.out.free1 0; have f1 := HF2.out.free1 1; have f2 := HF2.out.free1 2; have f3 := HF2.out.free1 3
  go_simp
  have hst : Fb w [⟨V, #[.int .u64 (E.i : Int), .int .u8 (E.k : Int), .int .u8 (E.l : Int), .int .u64 (E.x : Int)], 41⟩, ⟨B0, #[.int .u64 (E.i : Int), .int .u8 (E.k : Int), .int .u8 (E.l : Int), .int .u64 (E.x : Int)], 41⟩] (stR x B0 [.int .u64 (E.i : Int), .int .u8 (E.k : Int), .int .u8 (E.l : Int), .int .u64 (E.x : Int)] 0) := HF2.out.stores1 [.int .u64 (E.i : Int), .int .u8 (E.k : Int), .int .u8 (E.l : Int), .int .u64 (E.x : Int)] 0
  change K1 _ (stR x B0 [.int .u64 (E.i : Int), .int .u8 (E.k : Int), .int .u8 (E.l : Int), .int .u64 (E.x : Int)] 0)
  obtain ⟨z, hzz⟩ : ∃ z, stR x B0 [.int .u64 (E.i : Int), .int .u8 (E.k : Int), .int .u8 (E.l : Int), .int .u64 (E.x : Int)] 0 = z := ⟨_, rfl⟩
  have hdz : DocE p' cap' (L.eraseIdx i) (stR x B0 [.int .u64 (E.i : Int), .int .u8 (E.k : Int), .int .u8 (E.l : Int), .int .u64 (E.x : Int)] 0) := HD3.out.far HNEQ.out [.int .u64 (E.i : Int), .int .u8 (E.k : Int), .int .u8 (E.l : Int), .int .u64 (E.x : Int)]
  rw [hzz] at hst hdz ⊢
  have HZ := Lib.hid (And.intro hst hdz)
  clear hzz hst hdz HF2 HD3 o0 o1 o2 o3 f0 f1 f2 f3 hHeld
  refine hK1.out _ _ HZ.out.1.at0 (fun hHeld => ?_)
  clear hK1
  try simp only [Act.put, List.getElem_toArray, List.getElem_cons_zero, List.getElem_cons_succ, List.setIfInBounds_toArray, List.set_cons_zero, List.set_cons_succ]
  refine wpAnyH_take (i := 4) (v := (.bool true)) rfl (by kernel_rfl) (by kernel_rfl) (by kernel_rfl) (fun _ _ _ h => h) (Or.inl ⟨by rfl, fun X hS => ?_⟩) hHeld ?_
  · skip
    go_simp
  try simp only [Act.put, List.getElem_toArray, List.getElem_cons_zero, List.getElem_cons_succ, List.setIfInBounds_toArray, List.set_cons_zero, List.set_cons_succ]
  refine wpAnyH_done (by kernel_rfl) ?_ _
  clear hHeld
  have g0 := HZ.out.1.cell1 0 rfl; have g1 := HZ.out.1.cell1 1 rfl; have g2 := HZ.out.1.cell1 2 rfl; have g3 := HZ.out.1.cell1 3 rfl
  go_wp2_with fail
  exact bodyPost_ret (v := .tuple #[.slice p' l' cap', eV E, .bool true]) (by simp [results, Try.results12, go_sem, g0, g1, g2, g3]) rfl ⟨p', cap', by rw [HLE.out], HZ.out.2, hge_.out, HZ.out.1.be⟩

/-- Kill of both -/
def gE (L : List Ent) (id : Nat) : Ent := (L[ixE L id]?).getD eZ
def kL (L : List Ent) (id : Nat) : List Ent := L.eraseIdx (ixE L id)
def kR (L : List Ent) (id : Nat) : Int := if ixE L id < L.length then 0 else 8
theorem kL_none {L : List Ent} {id : Nat} (h : ¬ ixE L id < L.length) : kL L id = L := List.eraseIdx_of_length_le (by omega)
theorem gE_none {L : List Ent} {id : Nat} (h : ¬ ixE L id < L.length) : gE L id = eZ := by unfold gE; rw [List.getElem?_eq_none (by omega)]; rfl
theorem gE_some {L : List Ent} {id i : Nat} {E : Ent} (hi : ixE L id = i) (hE : L[i]? = some E) : gE L id = E := by unfold gE; rw [hi, hE]; rfl
def addL (L : List Ent) (n : Nat) (e : Ent) : List Ent := if addE L n e = 0 then L ++ [e] else L
theorem addL_uq {L : List Ent} {n : Nat} {e : Ent} (h : Uq L) : Uq (addL L n e) := by
  unfold addL
  by_cases c : addE L n e = 0
  · rw [if_pos c]
    refine h.add e ?_
    have h1 := ixE_le L e.i
    unfold addE at c
    split at c
    · omega
    · split at c
      · omega
      · omega
  · rw [if_neg c]; exact h
/-- what the document's calls leave behind -/
def DTwo (M : List Ent) (r : Array Value) (w : World) (e : Ending) (w' : World) : Prop := ∃ p cap, e = .returned (.tuple (#[.slice p M.length cap] ++ r)) ∧ DocE p cap M w' ∧ Below w.heap.size w w'
theorem dAdd21 (p : Option Addr) (cap n : Nat) (e : Ent) (hD : DocE p cap L w) (hn : L.length ≤ n) (hn2 : n ≤ 100) :
    Calls Try.prog 14 #[.slice p L.length cap, .int .i64 (n : Int), eV e] w (DTwo (addL L n e) #[.int .i64 (addE L n e)] w) := dadd21 p cap n e hD hn hn2
theorem dKill21 (p : Option Addr) (cap id : Nat) (hD : DocE p cap L w) (hn : L.length ≤ 100) :
    Calls Try.prog 10 #[.slice p L.length cap, .int .u64 (id : Int)] w (DTwo (kL L id) #[eV (gE L id), .int .i64 (kR L id)] w) := by
  by_cases c : ixE L id < L.length
  · obtain ⟨E, hE⟩ : ∃ E, L[ixE L id]? = some E := ⟨_, List.getElem?_eq_getElem c⟩
    refine (dkill21_yes p cap id _ E hD hn rfl hE).mono ?_
    rintro e w' ⟨p', cap', rfl, h1, _, h2⟩
    exact ⟨p', cap', by rw [gE_some rfl hE]; unfold kR; rw [if_pos c]; rfl, h1, h2⟩
  · refine (dkill21_none p cap id hD hn c).mono ?_
    rintro e w' ⟨rfl, hb⟩
    exact ⟨p, cap, by rw [kL_none c, gE_none c]; unfold kR; rw [if_neg c]; rfl, by rw [kL_none c]; exact hD.below hb, hb⟩
def pL (L : List Ent) : List Ent := L.eraseIdx (L.length - 1)
def pE (L : List Ent) : Ent := (L[L.length - 1]?).getD eZ
def pB (L : List Ent) : Bool := decide (0 < L.length)
theorem dPop21 (p : Option Addr) (cap : Nat) (hD : DocE p cap L w) (hu : Uq L) (hn : L.length ≤ 100) :
    Calls Try.prog 12 #[.slice p L.length cap] w (DTwo (pL L) #[eV (pE L), .bool (pB L)] w) := by
  by_cases c : 0 < L.length
  · obtain ⟨E, hE⟩ : ∃ E, L[L.length - 1]? = some E := ⟨_, List.getElem?_eq_getElem (by omega)⟩
    refine (dpop21_yes p cap _ E hD hn (by omega) (hu.at hE) hE).mono ?_
    rintro e w' ⟨p', cap', rfl, h1, _, h2⟩
    exact ⟨p', cap', by unfold pE pB; rw [hE, decide_eq_true c]; rfl, h1, h2⟩
  · obtain rfl : L = [] := List.eq_nil_of_length_eq_zero (by omega)
    refine (dpop21_none p cap).mono ?_
    rintro e w' ⟨rfl, hb⟩
    exact ⟨p, cap, rfl, hD.below hb, hb⟩
end
section
variable {A vs : Nat} {m : Nat → UInt8} {w : World} {L : List Ent}
/-- what the program's calls leave behind -/
def CAct (A vs : Nat) (M : List Ent) (r : Value) (w : World) (e : Ending) (w' : World) : Prop := ∃ m', e = .returned r ∧ On A (cS m') w' ∧ Ls m' (vs / 24) M ∧ Went A w w'
theorem CAct.same {r : Value} {e : Ending} {w' : World} (h : On A (cS m) w) (hL : Ls m (vs / 24) L) (k : Gives r w e w') : CAct A vs L r w e w' := ⟨m, k.1, h.below k.2, hL, Went.of_below h k.2⟩
theorem cAdd (h : On A (cS m) w) (hv : vs ≤ 400) (hL : Ls m (vs / 24) L) (e : Ent) (he : e.ok) : Calls Try.prog 13 #[vwV A 40 vs, eV e] w (CAct A vs (addL L (vs / 24) e) (.int .i64 (addE L (vs / 24) e)) w) := by
  have hl := hL.len
  unfold addL
  by_cases h0 : e.i = 0 ∨ 281474976710655 < e.i
  · have ha : addE L (vs / 24) e = 2 := by unfold addE; rw [if_pos h0]
    rw [ha, if_neg (by decide)]
    exact (cadd_arg e h0).mono fun _ _ k => .same h hL k
  · by_cases hx : ixE L e.i < L.length
    · have ha : addE L (vs / 24) e = 9 := by unfold addE; rw [if_neg h0, if_pos hx]
      rw [ha, if_neg (by decide)]
      exact (cadd_there h hv hL e (by omega) (by omega) hx).mono fun _ _ k => .same h hL k
    · by_cases hf : L.length = vs / 24
      · have ha : addE L (vs / 24) e = 10 := by unfold addE; rw [if_neg h0, if_neg hx, if_pos hf]
        rw [ha, if_neg (by decide)]
        exact (cadd_full h hv hL e (by omega) (by omega) hx hf).mono fun _ _ k => .same h hL k
      · have ha : addE L (vs / 24) e = 0 := by unfold addE; rw [if_neg h0, if_neg hx, if_neg hf]
        rw [ha, if_pos rfl]
        exact (cadd_ok h hv hL e (by omega) (by omega) he hx (by omega)).mono fun _ _ k => ⟨_, k.1, k.2.1, hL.add (by omega) e he (by omega), k.2.2⟩
theorem cKill (h : On A (cS m) w) (hv : vs ≤ 400) (hL : Ls m (vs / 24) L) (id : Nat) : Calls Try.prog 9 #[vwV A 40 vs, .int .u64 (id : Int)] w (CAct A vs (kL L id) (.tuple #[eV (gE L id), .int .i64 (kR L id)]) w) := by
  by_cases c : ixE L id < L.length
  · obtain ⟨E, hE⟩ : ∃ E, L[ixE L id]? = some E := ⟨_, List.getElem?_eq_getElem c⟩
    rw [gE_some rfl hE]
    unfold kR
    rw [if_pos c]
    exact (ckill_yes h hv hL id _ rfl E hE).mono fun _ _ k => ⟨_, k.1, k.2.1, hL.remove _ c, k.2.2⟩
  · rw [kL_none c, gE_none c]
    unfold kR
    rw [if_neg c]
    exact (ckill_none h hv hL id c).mono fun _ _ k => .same h hL k
theorem cPop (h : On A (cS m) w) (hv : vs ≤ 400) (hL : Ls m (vs / 24) L) : Calls Try.prog 11 #[vwV A 40 vs] w (CAct A vs (pL L) (.tuple #[eV (pE L), .bool (pB L)]) w) := by
  by_cases c : 0 < L.length
  · obtain ⟨E, hE⟩ : ∃ E, L[L.length - 1]? = some E := ⟨_, List.getElem?_eq_getElem (by omega)⟩
    have e1 : pE L = E := by unfold pE; rw [hE]; rfl
    have e2 : pB L = true := decide_eq_true c
    rw [e1, e2]
    exact (cpop_yes h hv hL _ (by omega) E hE).mono fun _ _ k => ⟨_, k.1, k.2.1, hL.remove _ (by omega), k.2.2⟩
  · obtain rfl : L = [] := List.eq_nil_of_length_eq_zero (by omega)
    exact (cpop_none h hv hL).mono fun _ _ k => .same h hL k
end
end Go.Proofs.Ytcbbhefgdonabaa.Bt
/- The statements' list, in a variable; the chapter's example. (Written by gen_cej.py.) -/
namespace Go.Proofs.Ytcbbhefgdonabaa.Bt
open Go Go.RowKit Go.Shelf
set_option linter.unusedVariables false
set_option linter.unusedSimpArgs false
set_option maxRecDepth 100000
theorem copen (pa : Option Addr) (va vs : Nat) (w : World) : Calls Try.prog 21 #[.agg #[.pointer pa, .int .i64 (va : Int), .int .i64 (vs : Int)]] w (Gives (.agg #[.pointer pa, .int .i64 (va : Int), .int .i64 (vs : Int)]) w) := by
  go_enter Try.func21, Try.ntmps21
  go_wp2_with fail
  exact bodyPost_ret (v := .agg #[.pointer pa, .int .i64 (va : Int), .int .i64 (vs : Int)]) (by simp [results, Try.results21, go_sem]) rfl ⟨rfl, below2 _ _ _⟩
def Opn21 (vs : Nat) (w : World) (e : Ending) (w' : World) : Prop :=
  ∃ A, e = .returned (.tuple #[.pointer (some ⟨A, 0, none⟩), vwV A 40 vs, .bool true]) ∧ On A (cS fun _ => 0) w' ∧ Base A w w'
set_option maxHeartbeats 4000000 in
theorem open21 (vs : Nat) (hv : vs ≤ 400) (w : World) : Calls Try.prog 8 #[.int .i64 (vs : Int)] w (Opn21 vs w) := by
  have L1 : Hid (lenN 1 = 1) := Lib.hid (by decide)
  have E1 : Hid (commitE (newS 1) 0 1 = 0) := Lib.hid (by decide)
  have S1 : Hid (commitS (newS 1) 0 1 = fullS 1 (fun _ => 0)) := Lib.hid (full_new 1 1 (by decide) (by decide) (by decide))
  have T1 : Hid (thereE (cS fun _ => 0).L (cS fun _ => 0).es 40 vs = 0) := Lib.hid (cS_there (by omega) (by omega) (by omega))
  clear hv
  go_enter Try.func8, Try.ntmps8
  go_wp2_with fail
  refine (on_new 1 _).mono ?_
  rintro e w1 ⟨A, rfl, hA, hx, hb, hm⟩
  rw [L1.out] at hx
  have HX1 := Lib.hid hx
  have HB1 := Lib.hid (show Base A w w1 from hb.rebase (bel1 w (.cells #[.pointer none, .int .i64 0, .int .i64 0] 29)))
  have HM1 := Lib.hid (hm w.heap.size (by simp))
  have HR1 := Lib.hid ((hb.bel.block w.heap.size (by simp)).trans (heap_new w (.cells #[.pointer none, .int .i64 0, .int .i64 0] 29)))
  clear hx hb hA hm
  go_wp2_with fail
  refine (on_commit HX1.out 0 1 (by omega)).mono ?_
  rintro e w2 ⟨rfl, hx, hg⟩
  rw [E1.out]; rw [S1.out] at hx
  have HX2 := Lib.hid hx
  have HB2 := Lib.hid (HB1.out.went hg)
  have HR2 := Lib.hid (HM1.out.at hg HR1.out)
  have HM2 := Lib.hid (HM1.out.went hg)
  clear hx hg
  go_wp2_with fail
  refine (on_of HX2.out 40 vs (by omega)).mono ?_
  rintro e w3 ⟨rfl, hb⟩
  rw [T1.out, ofV_ok]
  have HX3 := Lib.hid (HX2.out.below hb)
  have HB3 := Lib.hid (HB2.out.below HX2.out hb)
  have HR3 := Lib.hid ((hb.block _ (Array.getElem?_eq_some_iff.1 HR2.out).1).trans HR2.out)
  have HM3 := Lib.hid (HM2.out.went (Went.of_below HX2.out hb))
  clear hb
  go_wp2_with fail
  have bV := Lib.hid (bel1 w3 (.cells #[.pointer (some ⟨A, 0, none⟩), .int .i64 40, .int .i64 (vs : Int)] 27))
  refine (copen (some ⟨A, 0, none⟩) 40 vs _).mono ?_
  rintro e w4 ⟨rfl, hb⟩
  have HX4 := Lib.hid ((HX3.out.below bV.out).below hb)
  have HB4 := Lib.hid ((HB3.out.below HX3.out bV.out).below (HX3.out.below bV.out) hb)
  have hr3 := HR3.out
  have hr4 := (hb.block w.heap.size (Nat.lt_of_lt_of_le (Array.getElem?_eq_some_iff.1 hr3).1 bV.out.size)).trans ((bV.out.block _ (Array.getElem?_eq_some_iff.1 hr3).1).trans hr3)
  have HR4 := Lib.hid hr4
  have HM4 := Lib.hid ((HM3.out.went (Went.of_below HX3.out bV.out)).went (Went.of_below (HX3.out.below bV.out) hb))
  have c0 := (cell_blk hr4 0).1; have c1 := (cell_blk hr4 1).1; have c2 := (cell_blk hr4 2).1
  have f0 := (cell_blk hr4 0).2; have f1 := (cell_blk hr4 1).2; have f2 := (cell_blk hr4 2).2
  clear hr3 hr4 hb
  go_wp2_with fail
  have h3 : (stR w4 w.heap.size [.pointer (some ⟨A, 0, none⟩), .int .i64 40, .int .i64 (vs : Int)] 0).heap[w.heap.size]? = some (.cells #[.pointer (some ⟨A, 0, none⟩), .int .i64 40, .int .i64 (vs : Int)] 29 (0, 0)) := heap_set (heap_set (heap_set HR4.out (.pointer (some ⟨A, 0, none⟩))) (.int .i64 40)) (.int .i64 (vs : Int))
  have g0 := (cell_blk h3 0).1; have g1 := (cell_blk h3 1).1; have g2 := (cell_blk h3 2).1
  have hF := set3 (w0 := w) HX4.out HB4.out HM4.out (Nat.le_refl _) (.pointer (some ⟨A, 0, none⟩)) (.int .i64 40) (.int .i64 (vs : Int))
  have HF := Lib.hid hF
  clear hF
  change bodyPost _ _ _ _ _ (stR w4 w.heap.size [.pointer (some ⟨A, 0, none⟩), .int .i64 40, .int .i64 (vs : Int)] 0)
  exact bodyPost_ret (v := .tuple #[.pointer (some ⟨A, 0, none⟩), vwV A 40 vs, .bool true]) (by simp [results, Try.results8, go_sem, g0, g1, g2]) rfl ⟨A, rfl, HF.out.1, HF.out.2⟩
/-- a statement's list, in a variable -/
structure ClS (C A vs : Nat) (m : Nat → UInt8) (w x : World) : Prop where
  c : x.heap[C]? = some (.cells (vwC A 40 vs) 29 (0, 0))
  on : On A (cS m) x
  bs : Base A w x
section
variable {C A vs : Nat} {m m' : Nat → UInt8} {w x z : World}
theorem ClS.below (h : ClS C A vs m w x) (hb : Below x.heap.size x z) : ClS C A vs m w z :=
  ⟨blk_at hb h.c, h.on.below hb, h.bs.below h.on hb⟩
theorem ClS.went (h : ClS C A vs m w x) (ho : On A (cS m') z) (hg : Went A x z) : ClS C A vs m' w z :=
  ⟨hg.keep h.on h.c (by decide) (by decide) (by decide), ho, h.bs.went hg⟩
theorem ClS.start (ho : On A (cS m) x) (hb : Base A w x) : ClS x.heap.size A vs m w (x.alloc (.cells (vwC A 40 vs) 29)) := ⟨heap_new _ _, ho.below (bel1 _ _), hb.below ho (bel1 _ _)⟩
theorem ClS.all (h : ClS C A vs m w x) : x.cell? ⟨C, 0, none⟩ = some (.pointer (some ⟨A, 0, none⟩)) ∧ x.cell? ⟨C, 1, none⟩ = some (.int .i64 40) ∧ x.cell? ⟨C, 2, none⟩ = some (.int .i64 (vs : Int)) :=
  ⟨(cell_blk h.c 0).1, (cell_blk h.c 1).1, (cell_blk h.c 2).1⟩
end
theorem awake5c (w : World) : Calls Try.prog 29 #[] w (Gives (.bool true) w) := by
  go_enter Try.func29, Try.ntmps29
  go_wp2_with fail
  refine (awake5_calls _).mono ?_
  rintro e w1 ⟨rfl, hb⟩
  go_wp2_with fail
  go_ret
  exact ⟨rfl, hb⟩
def ev (j : Nat) : List Ent := (List.range j).map fun i => ⟨i + 1, 0, 0, 0⟩
theorem ev_add : ∀ j, j < 3 → addE (ev j) (96 / 24) ⟨j + 1, 0, 0, 0⟩ = 0 ∧ addL (ev j) (96 / 24) ⟨j + 1, 0, 0, 0⟩ = ev (j + 1) := by
  intro j hj
  have : j = 0 ∨ j = 1 ∨ j = 2 := by omega
  rcases this with rfl | rfl | rfl <;> exact ⟨rfl, rfl⟩
set_option maxHeartbeats 8000000 in
theorem awake21 (w : World) : Calls Try.prog 7 #[] w (Gives (.bool true) w) := by
  go_enter Try.func7, Try.ntmps7
  go_wp2_with fail
  refine (open21 96 (by omega) _).mono ?_
  rintro e w1 ⟨A, rfl, hx, hb⟩
  have HV0 := Lib.hid (ClS.start (vs := 96) hx hb)
  clear hx hb
  go_upto_region 2 with fail
  change Code.wp _ _ _ _ (w1.alloc (.cells (vwC A 40 96) 29))
  obtain ⟨y, hy⟩ : ∃ y, w1.alloc (.cells (vwC A 40 96) 29) = y := ⟨_, rfl⟩
  obtain ⟨C, hC⟩ : ∃ C, w1.heap.size = C := ⟨_, rfl⟩
  rw [hy, hC] at HV0
  rw [hy, hC]
  clear hy hC
  have HST : Hid (∃ m, ClS C A 96 m w y ∧ Ls m (96 / 24) (ev 0)) := Lib.hid ⟨_, HV0.out, Ls.new _⟩
  clear HV0
  go_wp2_with fail
  go_loopw [3, 16] (fun s3 s16 wr => ∃ j : Nat, j ≤ 3 ∧ s3 = .bool true ∧ s16 = .int .u64 (j : Int) ∧ Hid (∃ m, ClS C A 96 m w wr ∧ Ls m (96 / 24) (ev j))) (fun _ s16 _ => 3 - (intOf s16).toNat)
  case atStart => exact ⟨0, by omega, rfl, rfl, HST⟩
  case round =>
    clear HST
    obtain ⟨j, hj, rfl, rfl, HS⟩ := hrel
    obtain ⟨m, hs, hl⟩ := HS.out
    have HC := Lib.hid hs
    have HL := Lib.hid hl
    clear hs hl HS
    obtain ⟨c0, c1, c2⟩ := HC.out.all
    by_cases hjn : j < 3
    · have hjn2 : (j : Int) < 3 := by omega
      have HE := Lib.hid (ev_add j hjn)
      have HAD := Lib.hid (cAdd HC.out.on (by omega) HL.out ⟨j + 1, 0, 0, 0⟩ ⟨by show j + 1 < _; omega, by show 0 < 256; omega, by show 0 < 256; omega, by show 0 < 18446744073709551616; omega⟩)
      have ha := HAD.out
      rw [HE.out.1, HE.out.2] at ha
      have HA := Lib.hid ha
      clear ha HAD
      have q1 : IntKind.u64.wrap ((j : Int) + 1) = (j : Int) + 1 := by rw [IntKind.wrap_u64]; omega
      go_wp2_with fail
      refine HA.out.mono ?_
      rintro e w2 ⟨m', rfl, ho, hl, hg⟩
      have HS2 : Hid (∃ m, ClS C A 96 m w w2 ∧ Ls m (96 / 24) (ev (j + 1))) := Lib.hid ⟨m', HC.out.went ho hg, hl⟩
      clear ho hl hg HC HL HA HE c0 c1 c2
      go_wp2_with fail
      go_roundw
      case rel => exact ⟨j + 1, by omega, rfl, by first | go_num | (push_cast; rfl), HS2⟩
      case measure => simp [intOf]; omega
    · obtain rfl : j = 3 := by omega
      have HKI := Lib.hid (cKill HC.out.on (by omega) HL.out 2)
      have ha := HKI.out
      rw [show kL (ev 3) 2 = [⟨1, 0, 0, 0⟩, ⟨3, 0, 0, 0⟩] from rfl, show gE (ev 3) 2 = ⟨2, 0, 0, 0⟩ from rfl, show kR (ev 3) 2 = 0 from rfl] at ha
      have HA := Lib.hid ha
      clear ha HKI
      go_wp2_with fail
      refine HA.out.mono ?_
      rintro e w2 ⟨m2, rfl, ho, hl, hg⟩
      have HC2 := Lib.hid ((HC.out.went ho hg).below (bel1 w2 (.cells #[.int .u64 2, .int .u8 0, .int .u8 0, .int .u64 0] 35)))
      have HL2 := Lib.hid hl
      clear ho hl hg HC HL HA c0 c1 c2
      have ha := cPop HC2.out.on (by omega) HL2.out
      rw [show pL [⟨1, 0, 0, 0⟩, ⟨3, 0, 0, 0⟩] = [⟨1, 0, 0, 0⟩] from rfl, show pE [⟨1, 0, 0, 0⟩, ⟨3, 0, 0, 0⟩] = ⟨3, 0, 0, 0⟩ from rfl, show pB [⟨1, 0, 0, 0⟩, ⟨3, 0, 0, 0⟩] = true from rfl] at ha
      have HA := Lib.hid ha
      clear ha
      obtain ⟨c0, c1, c2⟩ := HC2.out.all
      go_wp2_with fail
      refine HA.out.mono ?_
      rintro e w3 ⟨m3, rfl, ho, hl, hg⟩
      have HC3 := Lib.hid ((HC2.out.went ho hg).below (bel1 w3 (.cells #[.int .u64 3, .int .u8 0, .int .u8 0, .int .u64 0] 35)))
      have HL3 := Lib.hid hl
      have HV7 := Lib.hid (heap_new w3 (.cells #[.int .u64 3, .int .u8 0, .int .u8 0, .int .u64 0] 35))
      clear ho hl hg HC2 HL2 HA c0 c1 c2
      go_upto_region 9 with fail
      change Code.wp _ _ _ _ (w3.alloc (.cells #[.int .u64 3, .int .u8 0, .int .u8 0, .int .u64 0] 35))
      obtain ⟨y3, hy3⟩ : ∃ y, w3.alloc (.cells #[.int .u64 3, .int .u8 0, .int .u8 0, .int .u64 0] 35) = y := ⟨_, rfl⟩
      obtain ⟨V7, hV7⟩ : ∃ V, w3.heap.size = V := ⟨_, rfl⟩
      rw [hy3] at HC3 HV7
      rw [hV7] at HV7
      rw [hy3, hV7]
      clear hy3 hV7
      have ha := cPop HC3.out.on (by omega) HL3.out
      rw [show pL [⟨1, 0, 0, 0⟩] = [] from rfl, show pE [⟨1, 0, 0, 0⟩] = ⟨1, 0, 0, 0⟩ from rfl, show pB [⟨1, 0, 0, 0⟩] = true from rfl] at ha
      have HA := Lib.hid ha
      clear ha
      obtain ⟨c0, c1, c2⟩ := HC3.out.all
      go_wp2_with fail
      refine HA.out.mono ?_
      rintro e w4 ⟨m4, rfl, ho, hl, hg⟩
      have HC4 := Lib.hid ((HC3.out.went ho hg).below (bel1 w4 (.cells #[.int .u64 1, .int .u8 0, .int .u8 0, .int .u64 0] 35)))
      have HV8 := Lib.hid (blk_at (bel1 w4 (.cells #[.int .u64 1, .int .u8 0, .int .u8 0, .int .u64 0] 35)) (hg.keep HC3.out.on HV7.out (by decide) (by decide) (by decide)))
      have HV9 := Lib.hid (heap_new w4 (.cells #[.int .u64 1, .int .u8 0, .int .u8 0, .int .u64 0] 35))
      clear ho hl hg HC3 HL3 HA HV7 c0 c1 c2
      go_upto_region 10 with fail
      change Code.wp _ _ _ _ (w4.alloc (.cells #[.int .u64 1, .int .u8 0, .int .u8 0, .int .u64 0] 35))
      obtain ⟨y4, hy4⟩ : ∃ y, w4.alloc (.cells #[.int .u64 1, .int .u8 0, .int .u8 0, .int .u64 0] 35) = y := ⟨_, rfl⟩
      obtain ⟨V9, hV9⟩ : ∃ V, w4.heap.size = V := ⟨_, rfl⟩
      rw [hy4] at HC4 HV8 HV9
      rw [hV9] at HV9
      rw [hy4, hV9]
      clear hy4 hV9
      go_wp2_with fail
      refine (awake5c _).mono ?_
      rintro e w5 ⟨rfl, hb⟩
      have d0 := (cell_blk (blk_at hb HV8.out) 0).1
      have d1 := (cell_blk (blk_at hb HV9.out) 0).1
      have HBE := Lib.hid (HC4.out.below hb).bs.bel
      clear hb HC4 HV8 HV9
      go_wp2_with fail
      go_ret
      exact ⟨rfl, HBE.out⟩
end Go.Proofs.Ytcbbhefgdonabaa.Bt
/- The statements' acts. (Written by gen_cek.py.) -/
namespace Go.Proofs.Ytcbbhefgdonabaa.Bt
open Go Go.RowKit Go.Shelf Go.Deep
open Go.ChangeShapes Go.WideShapes Go.ChangeAt
set_option linter.unusedVariables false
set_option linter.unusedSimpArgs false
structure Act21 where
  d : Int
  e : Ent
structure Act21.ok (a : Act21) : Prop where
  dB : 0 ≤ a.d ∧ a.d ≤ 255
  eB : a.e.ok
def ac21 (a : Act21) : Array Value := #[.int .u8 a.d, .int .u64 (a.e.i : Int), .int .u8 (a.e.k : Int), .int .u8 (a.e.l : Int), .int .u64 (a.e.x : Int)]
def Act21Cells (w : World) (b off : Nat) (a : Act21) : Prop :=
  w.cell? ⟨b, off, none⟩ = some (.int .u8 a.d) ∧ w.cell? ⟨b, off + 1, none⟩ = some (.int .u64 (a.e.i : Int)) ∧ w.cell? ⟨b, off + 2, none⟩ = some (.int .u8 (a.e.k : Int)) ∧ w.cell? ⟨b, off + 3, none⟩ = some (.int .u8 (a.e.l : Int)) ∧ w.cell? ⟨b, off + 4, none⟩ = some (.int .u64 (a.e.x : Int))
def Acts21At (w : World) (p : Option Addr) (acts : List Act21) : Prop :=
  (acts = []) ∨ ∃ b off, p = some ⟨b, off, none⟩ ∧ b < w.heap.size ∧ ∀ i (h : i < acts.length), Act21Cells w b (off + i * 5) acts[i] ∧ acts[i].ok
theorem Try.cellsAct21 : Try.prog.cellsOf 37 = 5 := by kernel_rfl
theorem Try.cellsU8c : Try.prog.cellsOf 5 = 1 := by kernel_rfl
theorem Try.cellsU64c : Try.prog.cellsOf 33 = 1 := by kernel_rfl
theorem Try.cellsEntc : Try.prog.cellsOf 35 = 4 := by kernel_rfl
theorem u64_bnd {n : Int} (h : (Lit.int .u64 n).wf = true) : 0 ≤ n ∧ n < 18446744073709551616 := by
  have h2 : IntKind.u64.min ≤ n ∧ n ≤ IntKind.u64.max := by simpa [Lit.wf] using h
  have e1 : IntKind.u64.min = 0 := by decide
  have e2 : IntKind.u64.max = 18446744073709551615 := by decide
  omega
section
variable {H : Type} {enc : TypeId × Value → H} {P : Program} {w : World} {base : Nat} {spare : Nat → Bool} {held : Bool}
theorem trod_struct2c {t : TypeId} {f0 f1 : Field} {fuel : Nat} {cs : List Value} {x : DataW H × List MemPlace} (ht : P.underlying t = some (.struct #[f0, f1])) (h : DataW.trod enc P w base spare held fuel t cs = some x) :
    ∃ y0 y1 n, cs.length = P.cellsOf t ∧ DataW.trod enc P w base spare held n f0.type ((cs.drop f0.offset).take (P.cellsOf f0.type)) = some y0 ∧
      DataW.trod enc P w base spare held n f1.type ((cs.drop f1.offset).take (P.cellsOf f1.type)) = some y1 := by
  obtain ⟨xs, n, _, rfl, hl, hlen, hf⟩ := DataW.trod_struct ht h
  match xs, hlen with
  | [y0, y1], _ => exact ⟨y0, y1, n, hl, by simpa using hf 0 f0 rfl, by simpa using hf 1 f1 rfl⟩
theorem trod_struct4c {t : TypeId} {f0 f1 f2 f3 : Field} {fuel : Nat} {cs : List Value} {x : DataW H × List MemPlace} (ht : P.underlying t = some (.struct #[f0, f1, f2, f3])) (h : DataW.trod enc P w base spare held fuel t cs = some x) :
    ∃ y0 y1 y2 y3 n, cs.length = P.cellsOf t ∧ DataW.trod enc P w base spare held n f0.type ((cs.drop f0.offset).take (P.cellsOf f0.type)) = some y0 ∧
      DataW.trod enc P w base spare held n f1.type ((cs.drop f1.offset).take (P.cellsOf f1.type)) = some y1 ∧ DataW.trod enc P w base spare held n f2.type ((cs.drop f2.offset).take (P.cellsOf f2.type)) = some y2 ∧
      DataW.trod enc P w base spare held n f3.type ((cs.drop f3.offset).take (P.cellsOf f3.type)) = some y3 := by
  obtain ⟨xs, n, _, rfl, hl, hlen, hf⟩ := DataW.trod_struct ht h
  match xs, hlen with
  | [y0, y1, y2, y3], _ => exact ⟨y0, y1, y2, y3, n, hl, by simpa using hf 0 f0 rfl, by simpa using hf 1 f1 rfl, by simpa using hf 2 f2 rfl, by simpa using hf 3 f3 rfl⟩
end
set_option maxRecDepth 100000 in
theorem acts21_open {H : Type} {enc : TypeId × Value → H} {w : World} {fuel : Nat} {v : Value} {x : DataW H × List MemPlace} {a : Option Addr} {len cap : Nat} (hv : v = .slice a len cap)
    (h : DataW.trod enc Try.prog w 0 (fun _ => true) true fuel 23 v.cells.toList = some x) : ∃ acts : List Act21, acts.length = len ∧ len ≤ 9223372036854775807 ∧ Acts21At w a acts := by
  subst hv
  rcases open_slice Try.underlying23 h with ⟨h1, _⟩ | ⟨ad, len', cap', m, n, D, Pl, h1, _, hl, hm, hmm, _, hi⟩
  · simp [Value.cells] at h1
    exact ⟨[], by simp [h1.2.1], by omega, .inl rfl⟩
  · simp [Value.cells] at h1
    obtain ⟨rfl, rfl, rfl⟩ := h1
    unfold maxLen at hm
    have hlm : len ≤ m := by rw [hmm]; simp; omega
    have key : ∀ i, i < len → ∃ act : Act21, act.ok ∧ w.cell? (ad.add (i * 5)) = some (.int .u8 act.d) ∧ w.cell? (ad.add (i * 5 + 1)) = some (.int .u64 (act.e.i : Int)) ∧ w.cell? (ad.add (i * 5 + 2)) = some (.int .u8 (act.e.k : Int)) ∧ w.cell? (ad.add (i * 5 + 3)) = some (.int .u8 (act.e.l : Int)) ∧ w.cell? (ad.add (i * 5 + 4)) = some (.int .u64 (act.e.x : Int)) := by
      intro i hilt
      obtain ⟨cs', hc, ht⟩ := hi i (by omega)
      rw [Try.cellsAct21] at hc
      obtain ⟨_, hcl, hat⟩ := World.cells?_some hc
      obtain ⟨y0, y1, k, _, e0, e1⟩ := trod_struct2c Try.underlying37 ht
      match cs', hcl with
      | [c0, c1, c2, c3, c4], _ =>
        simp only [Try.cellsU8c, Try.cellsEntc, List.drop_zero, List.drop_succ_cons, List.take_succ_cons, List.take_zero] at e0 e1
        obtain ⟨z0, z1, z2, z3, k2, _, g0, g1, g2, g3⟩ := trod_struct4c Try.underlying35 e1
        simp only [Try.cellsU8c, Try.cellsU64c, List.drop_zero, List.drop_succ_cons, List.take_succ_cons, List.take_zero] at g0 g1 g2 g3
        obtain ⟨d, hd, _, wd⟩ := DataW.trod_int Try.underlying5 e0
        obtain ⟨f, hf, _, wf⟩ := DataW.trod_int Try.underlying33 g0
        obtain ⟨g, hg, _, wg⟩ := DataW.trod_int Try.underlying5 g1
        obtain ⟨hh, hhh, _, wh⟩ := DataW.trod_int Try.underlying5 g2
        obtain ⟨bb, hb, _, wb⟩ := DataW.trod_int Try.underlying33 g3
        simp only [List.cons.injEq, and_true] at hd hf hg hhh hb
        subst hd hf hg hhh hb
        have b0 := bounds_u8 wd
        have b1 := u64_bnd wf
        have b2 := bounds_u8 wg
        have b3 := bounds_u8 wh
        have b4 := u64_bnd wb
        have a0 := hat 0 (by omega)
        have a1 := hat 1 (by omega)
        have a2 := hat 2 (by omega)
        have a3 := hat 3 (by omega)
        have a4 := hat 4 (by omega)
        rw [add_add] at a0 a1 a2 a3 a4
        refine ⟨⟨d, ⟨f.toNat, g.toNat, hh.toNat, bb.toNat⟩⟩, ⟨b0, by show f.toNat < _; omega, by show g.toNat < _; omega, by show hh.toNat < _; omega, by show bb.toNat < _; omega⟩, by simpa using a0, ?_, ?_, ?_, ?_⟩
        · show _ = some (Value.int .u64 ((f.toNat : Nat) : Int)); rw [Int.toNat_of_nonneg b1.1]; simpa using a1
        · show _ = some (Value.int .u8 ((g.toNat : Nat) : Int)); rw [Int.toNat_of_nonneg b2.1]; simpa using a2
        · show _ = some (Value.int .u8 ((hh.toNat : Nat) : Int)); rw [Int.toNat_of_nonneg b3.1]; simpa using a3
        · show _ = some (Value.int .u64 ((bb.toNat : Nat) : Int)); rw [Int.toNat_of_nonneg b4.1]; simpa using a4
    refine ⟨(List.range len).attach.map fun i => Classical.choose (key i.1 (List.mem_range.1 i.2)), by simp, by omega, ?_⟩
    by_cases h0 : len = 0
    · subst h0; exact .inl rfl
    · have k0 := (Classical.choose_spec (key 0 (by omega))).2.1
      obtain ⟨b, off, spot⟩ := ad
      have hspot : spot = none := by simpa [Addr.add] using World.cell?_spot k0
      subst hspot
      refine .inr ⟨b, off, rfl, World.block_lt_of_cell? _ _ (by simpa [Addr.add] using k0), fun i hil => ?_⟩
      have hil' : i < len := by simpa using hil
      have ks := Classical.choose_spec (key i hil')
      have eA : ∀ j, (⟨b, off, none⟩ : Addr).add j = ⟨b, off + j, none⟩ := fun j => by
        simp only [Addr.add]; split <;> simp_all
      simp only [List.getElem_map, List.getElem_attach, List.getElem_range]
      exact ⟨⟨(congrArg w.cell? (eA _).symm).trans ks.2.1, (congrArg w.cell? (eA (i * 5 + 1)).symm).trans ks.2.2.1, (congrArg w.cell? (eA (i * 5 + 2)).symm).trans ks.2.2.2.1, (congrArg w.cell? (eA (i * 5 + 3)).symm).trans ks.2.2.2.2.1, (congrArg w.cell? (eA (i * 5 + 4)).symm).trans ks.2.2.2.2.2⟩, ks.1⟩
theorem Acts21At.below {p : Option Addr} {l : List Act21} {w y : World} (h : Acts21At w p l) (hb : Below w.heap.size w y) : Acts21At y p l := by
  rcases h with e | ⟨b, off, e, hl, hc⟩
  · exact .inl e
  · have k : ∀ j, y.cell? ⟨b, j, none⟩ = w.cell? ⟨b, j, none⟩ := fun j => World.cell?_of_block (hb.block _ hl)
    refine .inr ⟨b, off, e, Nat.lt_of_lt_of_le hl hb.size, fun i hi => ⟨?_, (hc i hi).2⟩⟩
    obtain ⟨c0, c1, c2, c3, c4⟩ := (hc i hi).1
    exact ⟨(k _).trans c0, (k _).trans c1, (k _).trans c2, (k _).trans c3, (k _).trans c4⟩
/-- an act in a variable -/
def AcW (D : Nat) (a : Act21) (x : World) : Prop := x.heap[D]? = some (.cells #[.int .u8 a.d, .int .u64 (a.e.i : Int), .int .u8 (a.e.k : Int), .int .u8 (a.e.l : Int), .int .u64 (a.e.x : Int)] 37 (0, 0))
theorem AcW.below {D : Nat} {a : Act21} {x z : World} (h : AcW D a x) (hb : Below x.heap.size x z) : AcW D a z := blk_at hb h
theorem AcW.went {D A : Nat} {a : Act21} {s : ASt} {x z : World} (h : AcW D a x) (hx : On A s x) (hg : Went A x z) : AcW D a z := hg.keep hx (show x.heap[D]? = _ from h) (by decide) (by decide) (by decide)
theorem AcW.all {D : Nat} {a : Act21} {x : World} (h : AcW D a x) : x.cell? ⟨D, 0, none⟩ = some (.int .u8 a.d) ∧ x.cell? ⟨D, 1, none⟩ = some (.int .u64 (a.e.i : Int)) ∧ x.cell? ⟨D, 2, none⟩ = some (.int .u8 (a.e.k : Int)) ∧ x.cell? ⟨D, 3, none⟩ = some (.int .u8 (a.e.l : Int)) ∧ x.cell? ⟨D, 4, none⟩ = some (.int .u64 (a.e.x : Int)) := by
  refine ⟨?_, ?_, ?_, ?_, ?_⟩ <;> (rw [(cell_blk h _).1]; rfl)
end Go.Proofs.Ytcbbhefgdonabaa.Bt
