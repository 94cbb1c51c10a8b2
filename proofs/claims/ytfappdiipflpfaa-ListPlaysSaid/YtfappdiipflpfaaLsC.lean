/- The contract of the function value that a list's links answer. (Written by gen_ls.py.) -/
import Derived.Test.YtfappdiipflpfaaLsB
namespace Go.Proofs.Ytfappdiipflpfaa.Bt
open Go Go.RowKit Go.Shelf
set_option linter.unusedVariables false
attribute [local go_sem] Oper.semAt_some

/-- what the iterator's two boxes hold -/
def LkBox (x y A va vs : Nat) (k : Int) (W : World) : Prop :=
  W.heap[x]? = some (.cells #[.int .i64 k] 3 (0, 0)) ∧ W.heap[y]? = some (.cells #[.pointer (some ⟨A, 0, none⟩), .int .i64 (va : Int), .int .i64 (vs : Int)] 115 (0, 0))
theorem LkBox.k2 {x y A va vs : Nat} {k : Int} {W W' : World} (h : LkBox x y A va vs k W) (hk : K2 x y W W') : LkBox x y A va vs k W' := ⟨hk.1.trans h.1, hk.2.trans h.2⟩
theorem LkBox.below {x y A va vs : Nat} {k : Int} {W W' : World} (h : LkBox x y A va vs k W) (hb : Below W.heap.size W W') : LkBox x y A va vs k W' :=
  ⟨(hb.block _ (Array.getElem?_eq_some_iff.1 h.1).1).trans h.1, (hb.block _ (Array.getElem?_eq_some_iff.1 h.2).1).trans h.2⟩
theorem LkBox.all {x y A va vs : Nat} {k : Int} {W : World} (h : LkBox x y A va vs k W) : W.cell? ⟨x, 0, none⟩ = some (.int .i64 k) ∧ W.cell? ⟨y, 0, none⟩ = some (.pointer (some ⟨A, 0, none⟩)) ∧ W.cell? ⟨y, 1, none⟩ = some (.int .i64 (va : Int)) ∧ W.cell? ⟨y, 2, none⟩ = some (.int .i64 (vs : Int)) :=
  ⟨(cell_blk h.1 0).1, (cell_blk h.2 0).1, (cell_blk h.2 1).1, (cell_blk h.2 2).1⟩

set_option maxRecDepth 100000 in
set_option maxHeartbeats 2000000 in
theorem links1_out (n l x y A va vs : Nat) (h2 : vs ≤ 4294967296) (k : Int) (hk : k < 0 ∨ ((vs / 8 : Nat) : Int) ≤ k) (J : List Lk → World → Prop) (W : World) (hbx : LkBox x y A va vs k W)
    (hJ : ∀ X Y, J [] X → X.grownBy Y none → J [] Y) (h0 : J [] W) :
    CallsIn Fence.wide n Try.prog 163 #[.func (.yield l) #[] #[], .pointer (some ⟨x, 0, none⟩), .pointer (some ⟨y, 0, none⟩)] W fun e W' => (∃ v, e = .returned v) ∧ J [] W' := by
  have HB := Lib.hid hbx
  have HJ := Lib.hid hJ
  have H0 := Lib.hid h0
  clear hbx hJ h0
  refine callsIn_of_wp Try.func163 rfl trivial ?_ rfl
  simp only [Try.ntmps163, List.size_toArray, List.length_cons, List.length_nil, Nat.reduceAdd, Nat.reduceSub, Array.replicate_succ, Array.replicate_zero, List.push_toArray, List.append_toArray, List.nil_append, List.cons_append]
  gi_wp2_with fail
  by_cases hk0 : k < 0
  · clear hk
    have hS0 : LkBox x y A va vs k W.drew := HB.out.below (Below.refl _ _).drew
    have HF := Lib.hid (HJ.out _ W.drew H0.out (grown_below (Below.refl _ _).drew))
    refine wide_held (LkBox x y A va vs k) (by kernel_rfl) ?_
    refine wpAnyH_take (i := 0) (v := (.int .i64 k)) rfl (by kernel_rfl) (by kernel_rfl) (by kernel_rfl) (fun _ _ _ h => h) (Or.inl ⟨by rfl, fun X hS => ?_⟩) hS0 ?_
    · obtain ⟨s1, s2, s3, s4⟩ := hS.all
      go_simp
    simp only [Act.put, List.getElem_toArray, List.getElem_cons_zero, List.getElem_cons_succ, List.setIfInBounds_toArray, List.set_cons_zero, List.set_cons_succ]
    refine wpAnyH_take (i := 1) (v := (.bool true)) rfl (by kernel_rfl) (by kernel_rfl) (by kernel_rfl) (fun _ _ _ h => h) (Or.inl ⟨by rfl, fun X hS => ?_⟩) hS0 ?_
    · obtain ⟨s1, s2, s3, s4⟩ := hS.all
      go_simp
    simp only [Act.put, List.getElem_toArray, List.getElem_cons_zero, List.getElem_cons_succ, List.setIfInBounds_toArray, List.set_cons_zero, List.set_cons_succ]
    refine wpAnyH_take (i := 2) (v := (.bool true)) rfl (by kernel_rfl) (by kernel_rfl) (by kernel_rfl) (fun _ _ _ h => h) (Or.inl ⟨by rfl, fun X hS => ?_⟩) hS0 ?_
    · obtain ⟨s1, s2, s3, s4⟩ := hS.all
      go_simp
    simp only [Act.put, List.getElem_toArray, List.getElem_cons_zero, List.getElem_cons_succ, List.setIfInBounds_toArray, List.set_cons_zero, List.set_cons_succ]
    refine wpAnyH_take (i := 3) (v := undef) rfl (by kernel_rfl) (by kernel_rfl) (by kernel_rfl) (fun _ _ _ h => h) (Or.inr ⟨by rfl, rfl⟩) hS0 ?_
    simp only [Act.put, List.getElem_toArray, List.getElem_cons_zero, List.getElem_cons_succ, List.setIfInBounds_toArray, List.set_cons_zero, List.set_cons_succ]
    refine wpAnyH_take (i := 4) (v := undef) rfl (by kernel_rfl) (by kernel_rfl) (by kernel_rfl) (fun _ _ _ h => h) (Or.inr ⟨by rfl, rfl⟩) hS0 ?_
    simp only [Act.put, List.getElem_toArray, List.getElem_cons_zero, List.getElem_cons_succ, List.setIfInBounds_toArray, List.set_cons_zero, List.set_cons_succ]
    refine wpAnyH_take (i := 5) (v := undef) rfl (by kernel_rfl) (by kernel_rfl) (by kernel_rfl) (fun _ _ _ h => h) (Or.inr ⟨by rfl, rfl⟩) hS0 ?_
    simp only [Act.put, List.getElem_toArray, List.getElem_cons_zero, List.getElem_cons_succ, List.setIfInBounds_toArray, List.set_cons_zero, List.set_cons_succ]
    refine wpAnyH_take (i := 6) (v := undef) rfl (by kernel_rfl) (by kernel_rfl) (by kernel_rfl) (fun _ _ _ h => h) (Or.inr ⟨by rfl, rfl⟩) hS0 ?_
    simp only [Act.put, List.getElem_toArray, List.getElem_cons_zero, List.getElem_cons_succ, List.setIfInBounds_toArray, List.set_cons_zero, List.set_cons_succ]
    refine wpAnyH_take (i := 7) (v := (.bool true)) rfl (by kernel_rfl) (by kernel_rfl) (by kernel_rfl) (fun _ _ _ h => h) (Or.inl ⟨by rfl, fun X hS => ?_⟩) hS0 ?_
    · obtain ⟨s1, s2, s3, s4⟩ := hS.all
      go_simp
    simp only [Act.put, List.getElem_toArray, List.getElem_cons_zero, List.getElem_cons_succ, List.setIfInBounds_toArray, List.set_cons_zero, List.set_cons_succ]
    refine wpAnyH_done (by kernel_rfl) ?_ _
    clear hS0
    gi_wp2_with fail
    exact bodyPost_ret (results_none rfl _ _ _) rfl ⟨⟨_, rfl⟩, HF.out⟩
  · have hkl : (vs : Int) / 8 ≤ k := by omega
    clear hk
    have hS0 : LkBox x y A va vs k W.drew := HB.out.below (Below.refl _ _).drew
    refine wide_held (LkBox x y A va vs k) (by kernel_rfl) ?_
    refine wpAnyH_take (i := 0) (v := (.int .i64 k)) rfl (by kernel_rfl) (by kernel_rfl) (by kernel_rfl) (fun _ _ _ h => h) (Or.inl ⟨by rfl, fun X hS => ?_⟩) hS0 ?_
    · obtain ⟨s1, s2, s3, s4⟩ := hS.all
      go_simp
    simp only [Act.put, List.getElem_toArray, List.getElem_cons_zero, List.getElem_cons_succ, List.setIfInBounds_toArray, List.set_cons_zero, List.set_cons_succ]
    refine wpAnyH_take (i := 1) (v := (.bool false)) rfl (by kernel_rfl) (by kernel_rfl) (by kernel_rfl) (fun _ _ _ h => h) (Or.inl ⟨by rfl, fun X hS => ?_⟩) hS0 ?_
    · obtain ⟨s1, s2, s3, s4⟩ := hS.all
      go_simp
    simp only [Act.put, List.getElem_toArray, List.getElem_cons_zero, List.getElem_cons_succ, List.setIfInBounds_toArray, List.set_cons_zero, List.set_cons_succ]
    refine wpAnyH_take (i := 2) (v := (.bool false)) rfl (by kernel_rfl) (by kernel_rfl) (by kernel_rfl) (fun _ _ _ h => h) (Or.inl ⟨by rfl, fun X hS => ?_⟩) hS0 ?_
    · obtain ⟨s1, s2, s3, s4⟩ := hS.all
      go_simp
    simp only [Act.put, List.getElem_toArray, List.getElem_cons_zero, List.getElem_cons_succ, List.setIfInBounds_toArray, List.set_cons_zero, List.set_cons_succ]
    refine wpAnyH_take (i := 3) (v := (.int .i64 k)) rfl (by kernel_rfl) (by kernel_rfl) (by kernel_rfl) (fun _ _ _ h => h) (Or.inl ⟨by rfl, fun X hS => ?_⟩) hS0 ?_
    · obtain ⟨s1, s2, s3, s4⟩ := hS.all
      go_simp
    simp only [Act.put, List.getElem_toArray, List.getElem_cons_zero, List.getElem_cons_succ, List.setIfInBounds_toArray, List.set_cons_zero, List.set_cons_succ]
    refine wpAnyH_take (i := 4) (v := (.agg #[.pointer (some ⟨A, 0, none⟩), .int .i64 (va : Int), .int .i64 (vs : Int)])) rfl (by kernel_rfl) (by kernel_rfl) (by kernel_rfl) (fun _ _ _ h => h) (Or.inl ⟨by rfl, fun X hS => ?_⟩) hS0 ?_
    · obtain ⟨s1, s2, s3, s4⟩ := hS.all
      go_simp
    simp only [Act.put, List.getElem_toArray, List.getElem_cons_zero, List.getElem_cons_succ, List.setIfInBounds_toArray, List.set_cons_zero, List.set_cons_succ]
    refine wpAnyH_ready (rs := [5]) (by kernel_rfl) (by simp) (AllReadyH.cons rfl (fun K1 hK1 => ?_) AllReadyH.nil)
    go_simp
    refine (llen_any _ va vs h2 _).mono ?_
    rintro e W2 ⟨rfl, hb⟩
    have hS1 := hS0.below hb
    refine hK1.out _ _ hS1 (fun _ => ?_)
    clear hK1 hS0
    try simp only [Act.put, List.getElem_toArray, List.getElem_cons_zero, List.getElem_cons_succ, List.setIfInBounds_toArray, List.set_cons_zero, List.set_cons_succ]
    refine wpAnyH_take (i := 6) (v := (.bool true)) rfl (by kernel_rfl) (by kernel_rfl) (by kernel_rfl) (fun _ _ _ h => h) (Or.inl ⟨by rfl, fun X hS => ?_⟩) hS1 ?_
    · obtain ⟨s1, s2, s3, s4⟩ := hS.all
      go_simp
    simp only [Act.put, List.getElem_toArray, List.getElem_cons_zero, List.getElem_cons_succ, List.setIfInBounds_toArray, List.set_cons_zero, List.set_cons_succ]
    refine wpAnyH_take (i := 7) (v := (.bool true)) rfl (by kernel_rfl) (by kernel_rfl) (by kernel_rfl) (fun _ _ _ h => h) (Or.inl ⟨by rfl, fun X hS => ?_⟩) hS1 ?_
    · obtain ⟨s1, s2, s3, s4⟩ := hS.all
      go_simp
    simp only [Act.put, List.getElem_toArray, List.getElem_cons_zero, List.getElem_cons_succ, List.setIfInBounds_toArray, List.set_cons_zero, List.set_cons_succ]
    refine wpAnyH_done (by kernel_rfl) ?_ _
    have HF := Lib.hid (HJ.out _ W2 (HJ.out _ W.drew H0.out (grown_below (Below.refl _ _).drew)) (grown_below hb))
    clear hS1 hb
    gi_wp2_with fail
    exact bodyPost_ret (results_none rfl _ _ _) rfl ⟨⟨_, rfl⟩, HF.out⟩

theorem walk_set3 {J : List Lk → World → Prop} {B : Nat} (hJ : WalkT 53 B J) {pre : List Lk} {X : World} {V : Nat} {c : Array Value} (hj : J pre X) (hB : B ≤ V) (hV : X.heap[V]? = some (.cells c 53 (0, 0))) (u v z : Value) :
    J pre (((X.setCell ⟨V, 0, none⟩ u).setCell ⟨V, 1, none⟩ v).setCell ⟨V, 2, none⟩ z) := by
  have h1 := hJ pre _ _ (some V) hj (grown_set X V 0 u) (fun r e => by cases e; exact ⟨hB, _, hV, .inr ⟨_, _, rfl⟩⟩)
  have h2 := hJ pre _ _ (some V) h1 (grown_set _ V 1 v) (fun r e => by cases e; exact ⟨hB, _, heap_set hV u, .inr ⟨_, _, rfl⟩⟩)
  exact hJ pre _ _ (some V) h2 (grown_set _ V 2 z) (fun r e => by cases e; exact ⟨hB, _, heap_set (heap_set hV u) v, .inr ⟨_, _, rfl⟩⟩)
theorem mine_set3 {A R : Nat} {s : ASt} {x : World} (h : On A s x) (hm : Mine A R x) (u v z : Value) :
    On A s (((x.setCell ⟨R, 0, none⟩ u).setCell ⟨R, 1, none⟩ v).setCell ⟨R, 2, none⟩ z) ∧ ∀ k, Mine A k x → Mine A k (((x.setCell ⟨R, 0, none⟩ u).setCell ⟨R, 1, none⟩ v).setCell ⟨R, 2, none⟩ z) := by
  have h1 := h.set hm 0 u
  have m1 := Mine.set h hm hm 0 u
  have h2 := h1.set m1 1 v
  have m2 := Mine.set h1 m1 m1 1 v
  exact ⟨h2.set m2 2 z, fun k hk => Mine.set h2 m2 (Mine.set h1 m1 (Mine.set h hm hk 0 u) 1 v) 2 z⟩
theorem far3 {x : World} {B R : Nat} (hne : B ≠ R) (u v z : Value) : (((x.setCell ⟨R, 0, none⟩ u).setCell ⟨R, 1, none⟩ v).setCell ⟨R, 2, none⟩ z).heap[B]? = x.heap[B]? :=
  (set_other z hne).trans ((set_other v hne).trans (set_other u hne))

set_option maxRecDepth 100000 in
set_option maxHeartbeats 4000000 in
theorem links1_in (n l x y A va vs k a0 : Nat) (ha0 : va + 8 * k = a0) (s : ASt) (h1 : va ≤ 4294967296) (h2 : vs ≤ 4294967296) (hk : k < vs / 8) (ms : List Nat) (J Jx : List Lk → World → Prop) (W : World) (hA : On A s W) (hC : Ch s.L s.es s.mm a0 0 ms)
    (hx : Mine A x W) (hy : Mine A y W)
    (hbx : LkBox x y A va vs k W) (hJ : WalkT 53 W.heap.size J)
    (hY : ∀ pre x' W1, J pre W1 → pre.length < (prs a0 8 ms).length → YieldAt Fence.wide (n - 1) Try.prog l (encLk A x') W1 fun e W' =>
      (e = .returned (.bool true) ∧ J (pre ++ [x']) W' ∧ KL A s x y W1 W') ∨ (e = .returned (.bool false) ∧ Jx (pre ++ [x']) W')) (h0 : J [] W) :
    CallsIn Fence.wide n Try.prog 163 #[.func (.yield l) #[] #[], .pointer (some ⟨x, 0, none⟩), .pointer (some ⟨y, 0, none⟩)] W fun e W' => (∃ v, e = .returned v) ∧
      ((∃ ys, ys = prs a0 8 ms ∧ J ys W') ∨ (∃ pre, pre <+: prs a0 8 ms ∧ Jx pre W')) := by
  have g := hA.good
  have HG := Lib.hid g
  have hth := hC.there
  have hlt : a0 + 8 ≤ 4294967296 := by have := there_lt g hth; omega
  have HT := Lib.hid hth
  have HB := Lib.hid hbx
  have HJ := Lib.hid hJ
  have H0 := Lib.hid h0
  have HA := Lib.hid hA
  have HC := Lib.hid hC
  have HY := Lib.hid hY
  have HMX := Lib.hid hx
  have HMY := Lib.hid hy
  have JB : Hid (∀ pre X Y, J pre X → Below X.heap.size X Y → J pre Y) := Lib.hid fun pre X Y hj hb => hJ pre X Y none hj (grown_below hb) (fun r e => by cases e)
  have HAD : Hid (addrV va vs ((k : Int) * 8) 8 = (a0 : Int)) := Lib.hid (by unfold addrV; rw [if_pos (by omega)]; omega)
  have HV : Hid (∀ pu a k, ofV pu a k 0 = .agg #[.pointer pu, .int .i64 a, .int .i64 k]) := Lib.hid fun pu a k => by unfold ofV; rw [if_pos rfl]
  clear g hth hbx hJ h0 hA hC hY hx hy ha0
  refine callsIn_of_wp Try.func163 rfl trivial ?_ rfl
  simp only [Try.ntmps163, List.size_toArray, List.length_cons, List.length_nil, Nat.reduceAdd, Nat.reduceSub, Array.replicate_succ, Array.replicate_zero, List.push_toArray, List.append_toArray, List.nil_append, List.cons_append]
  gi_wp2_with fail
  have hk0 : ¬ (k : Int) < 0 := by omega
  have hkl : (k : Int) < (vs : Int) / 8 := by omega
  have hS0 : LkBox x y A va vs k W.drew := HB.out.below (Below.refl _ _).drew
  refine wide_held (LkBox x y A va vs k) (by kernel_rfl) ?_
  refine wpAnyH_take (i := 0) (v := (.int .i64 k)) rfl (by kernel_rfl) (by kernel_rfl) (by kernel_rfl) (fun _ _ _ h => h) (Or.inl ⟨by rfl, fun X hS => ?_⟩) hS0 ?_
  · obtain ⟨s1, s2, s3, s4⟩ := hS.all
    go_simp
  simp only [Act.put, List.getElem_toArray, List.getElem_cons_zero, List.getElem_cons_succ, List.setIfInBounds_toArray, List.set_cons_zero, List.set_cons_succ]
  refine wpAnyH_take (i := 1) (v := (.bool false)) rfl (by kernel_rfl) (by kernel_rfl) (by kernel_rfl) (fun _ _ _ h => h) (Or.inl ⟨by rfl, fun X hS => ?_⟩) hS0 ?_
  · obtain ⟨s1, s2, s3, s4⟩ := hS.all
    go_simp
  simp only [Act.put, List.getElem_toArray, List.getElem_cons_zero, List.getElem_cons_succ, List.setIfInBounds_toArray, List.set_cons_zero, List.set_cons_succ]
  refine wpAnyH_take (i := 2) (v := (.bool false)) rfl (by kernel_rfl) (by kernel_rfl) (by kernel_rfl) (fun _ _ _ h => h) (Or.inl ⟨by rfl, fun X hS => ?_⟩) hS0 ?_
  · obtain ⟨s1, s2, s3, s4⟩ := hS.all
    go_simp
  simp only [Act.put, List.getElem_toArray, List.getElem_cons_zero, List.getElem_cons_succ, List.setIfInBounds_toArray, List.set_cons_zero, List.set_cons_succ]
  refine wpAnyH_take (i := 3) (v := (.int .i64 k)) rfl (by kernel_rfl) (by kernel_rfl) (by kernel_rfl) (fun _ _ _ h => h) (Or.inl ⟨by rfl, fun X hS => ?_⟩) hS0 ?_
  · obtain ⟨s1, s2, s3, s4⟩ := hS.all
    go_simp
  simp only [Act.put, List.getElem_toArray, List.getElem_cons_zero, List.getElem_cons_succ, List.setIfInBounds_toArray, List.set_cons_zero, List.set_cons_succ]
  refine wpAnyH_take (i := 4) (v := (.agg #[.pointer (some ⟨A, 0, none⟩), .int .i64 (va : Int), .int .i64 (vs : Int)])) rfl (by kernel_rfl) (by kernel_rfl) (by kernel_rfl) (fun _ _ _ h => h) (Or.inl ⟨by rfl, fun X hS => ?_⟩) hS0 ?_
  · obtain ⟨s1, s2, s3, s4⟩ := hS.all
    go_simp
  simp only [Act.put, List.getElem_toArray, List.getElem_cons_zero, List.getElem_cons_succ, List.setIfInBounds_toArray, List.set_cons_zero, List.set_cons_succ]
  refine wpAnyH_ready (rs := [5]) (by kernel_rfl) (by simp) (AllReadyH.cons rfl (fun K1 hK1 => ?_) AllReadyH.nil)
  go_simp
  refine (llen_any _ va vs h2 _).mono ?_
  rintro e W2 ⟨rfl, hb⟩
  have hS1 := hS0.below hb
  refine hK1.out _ _ hS1 (fun _ => ?_)
  clear hK1 hS0
  try simp only [Act.put, List.getElem_toArray, List.getElem_cons_zero, List.getElem_cons_succ, List.setIfInBounds_toArray, List.set_cons_zero, List.set_cons_succ]
  refine wpAnyH_take (i := 6) (v := (.bool false)) rfl (by kernel_rfl) (by kernel_rfl) (by kernel_rfl) (fun _ _ _ h => h) (Or.inl ⟨by rfl, fun X hS => ?_⟩) hS1 ?_
  · obtain ⟨s1, s2, s3, s4⟩ := hS.all
    go_simp
  simp only [Act.put, List.getElem_toArray, List.getElem_cons_zero, List.getElem_cons_succ, List.setIfInBounds_toArray, List.set_cons_zero, List.set_cons_succ]
  refine wpAnyH_take (i := 7) (v := (.bool false)) rfl (by kernel_rfl) (by kernel_rfl) (by kernel_rfl) (fun _ _ _ h => h) (Or.inl ⟨by rfl, fun X hS => ?_⟩) hS1 ?_
  · obtain ⟨s1, s2, s3, s4⟩ := hS.all
    go_simp
  simp only [Act.put, List.getElem_toArray, List.getElem_cons_zero, List.getElem_cons_succ, List.setIfInBounds_toArray, List.set_cons_zero, List.set_cons_succ]
  refine wpAnyH_done (by kernel_rfl) ?_ _
  have HA2 := Lib.hid ((HA.out.below (Below.refl _ _).drew).below hb)
  have HJ2 := Lib.hid (JB.out _ W.drew _ (JB.out _ W _ H0.out (Below.refl _ _).drew) hb)
  have HMX2 := Lib.hid ((HMX.out.belowW HA.out (Below.refl _ _).drew).belowW (HA.out.below (Below.refl _ _).drew) hb)
  have HMY2 := Lib.hid ((HMY.out.belowW HA.out (Below.refl _ _).drew).belowW (HA.out.below (Below.refl _ _).drew) hb)
  have hsz : W.heap.size ≤ W2.heap.size := hb.size
  have HB2 := Lib.hid hS1
  obtain ⟨c0, c1, c2, c3⟩ := hS1.all
  clear hS1 hb hk0 hkl
  gi_wp2_with fail
  refine ⟨trivial, fun hd => by simp [Fence.wide] at hd, (callsIn_wide.2 (on_part HA2.out va vs h1 h2 ((k : Int) * 8) 8 (by omega))).mono ?_⟩
  rintro e W3 ⟨rfl, hb⟩
  rw [HAD.out, HT.out, HV.out]
  have HA3 := Lib.hid (HA2.out.below hb)
  have HJ3 := Lib.hid (JB.out _ _ _ HJ2.out hb)
  have HMX3 := Lib.hid (HMX2.out.belowW HA2.out hb)
  have HMY3 := Lib.hid (HMY2.out.belowW HA2.out hb)
  have HB3 := Lib.hid (HB2.out.below hb)
  have hsz3 : W.heap.size ≤ W3.heap.size := Nat.le_trans hsz hb.size
  clear c0 c1 c2 c3 hb
  gi_wp2_with fail
  obtain ⟨V, hVV⟩ : ∃ V, W3.heap.size = V := ⟨_, rfl⟩
  have hn0 := heap_new W3 (.cells #[.pointer (some ⟨A, 0, none⟩), .int .i64 (a0 : Int), .int .i64 8] 53)
  have hmV := Mine.new HA3.out (.cells #[.pointer (some ⟨A, 0, none⟩), .int .i64 (a0 : Int), .int .i64 8] 53)
  have bV := bel1 W3 (.cells #[.pointer (some ⟨A, 0, none⟩), .int .i64 (a0 : Int), .int .i64 8] 53)
  have hltx : x < W3.heap.size := (Array.getElem?_eq_some_iff.1 HB3.out.1).1
  have hlty : y < W3.heap.size := (Array.getElem?_eq_some_iff.1 HB3.out.2).1
  have HST : Hid (LkRel A s V x y W3 (prs a0 8 ms) J (.int .i64 0) (.int .i64 0) (W3.alloc (.cells #[.pointer (some ⟨A, 0, none⟩), .int .i64 (a0 : Int), .int .i64 8] 53))) := Lib.hid
    ⟨[], a0, 8, 0, ms, rfl, rfl, rfl, HC.out, ⟨by omega, by omega, by omega, by omega⟩, JB.out _ _ _ HJ3.out bV, HA3.out.below bV, hVV ▸ hmV, hVV ▸ hn0, ⟨bV.block _ hltx, bV.block _ hlty⟩⟩
  have HBX : Hid (∀ X, K2 x y W3 X → LkBox x y A va vs k X) := Lib.hid fun X hX => HB3.out.k2 hX
  rw [hVV] at hsz3 hltx hlty ⊢
  clear hn0 hmV bV hVV
  gi_loopw [5, 6] (fun e t wr => LkRel A s V x y W3 (prs a0 8 ms) J e t wr) (fun _ t _ => 4294967296 - (intOf t).toNat)
  case atStart => exact HST.out
  case round =>
    obtain ⟨pre, a, z, b, rest, rfl, rfl, hall, hch, ⟨hz8, hz16, ha32, hb32⟩, hj, ho, hm, hv, hk2⟩ := hrel
    have hN := hch.there
    obtain ⟨nx, hnum, hnx, hnr⟩ : ∃ nx : Nat, numV s.mm a 8 = nx ∧ nx ≤ 4294967296 ∧ ((rest = [] ∧ nx = 0) ∨ ∃ t, rest = nx :: t ∧ b < nx) := by
      cases rest with
      | nil => exact ⟨0, hch.2, by omega, .inl ⟨rfl, rfl⟩⟩
      | cons m t => exact ⟨m, hch.2.1, by have := there_lt HG.out hch.2.2.2.1; omega, .inr ⟨t, rfl, hch.2.2.1⟩⟩
    have HR : Hid ((if (nx : Int) ≤ (b : Int) then 0 else (nx : Int)) = (nx : Int)) := Lib.hid (by
      rcases hnr with ⟨_, rfl⟩ | ⟨t, _, h⟩
      · rw [if_pos (by omega)]; rfl
      · rw [if_neg (by omega)])
    have hlen : pre.length < (prs a0 8 ms).length := by
      rw [← hall, List.length_append]; have := prs_ne a z rest; omega
    have HALL := Lib.hid hall
    have HCH := Lib.hid hch
    have HNR := Lib.hid hnr
    have c0 := (cell_blk hv 0).1
    have c1 := (cell_blk hv 1).1
    have c2 := (cell_blk hv 2).1
    have HP := Lib.hid (And.intro hj (And.intro ho (And.intro hm (And.intro hv hk2))))
    have HFO := Lib.hid (lfollow ho a z nx ha32 (by omega) hz8 hnx hN hnum b)
    have hlt2 : V < wr.heap.size := (Array.getElem?_eq_some_iff.1 hv).1
    clear hall hch hnr hj ho hm hv hk2 hN hnum
    gi_wp2_with fail
    refine ⟨trivial, fun hd => by simp [Fence.wide] at hd, (callsIn_wide.2 HFO.out).mono ?_⟩
    rintro e W4 ⟨rfl, hb⟩
    rw [HR.out]
    obtain ⟨hj, ho, hm, hv, hk2⟩ := HP.out
    have hj4 := JB.out _ _ _ hj hb
    have ho4 := ho.below hb
    have hm4 := hm.belowW ho hb
    have hv4 := (hb.block V hlt2).trans hv
    have hk4 : K2 x y wr W4 := ⟨hb.block _ (Array.getElem?_eq_some_iff.1 (HBX.out _ hk2).1).1, hb.block _ (Array.getElem?_eq_some_iff.1 (HBX.out _ hk2).2).1⟩
    have hk24 := hk2.trans hk4
    obtain ⟨fn, tmps, assign, body, hy, hR⟩ := HY.out pre (a, z, nx) W4 hj4 hlen
    simp only [encLk] at hy
    have d0 := (cell_blk hv4 0).1
    have d1 := (cell_blk hv4 1).1
    have d2 := (cell_blk hv4 2).1
    have HQ := Lib.hid (And.intro ho4 (And.intro hm4 (And.intro hv4 hk24)))
    clear hj ho hm hv hk2 hj4 ho4 hm4 hv4 hk4 hk24 c0 c1 c2 hb hlen
    gi_wp2_with fail
    refine ⟨fun hd => by simp [Fence.wide] at hd, hR.mono ?_⟩
    clear d0 d1 d2 hy
    rintro e W5 (⟨rfl, hJ5, hk5⟩ | ⟨rfl, hJx5⟩)
    · rcases HNR.out with ⟨hr0, rfl⟩ | ⟨t, hr0, hlt5⟩
      · subst hr0
        have HF := Lib.hid hJ5
        clear hJ5 hk5
        gi_wp2_with fail
        exact bodyPost_ret (results_none rfl _ _ _) rfl ⟨⟨_, rfl⟩, .inl ⟨_, HALL.out, HF.out⟩⟩
      · subst hr0
        obtain ⟨ho4, hm4, hv4, hk24⟩ := HQ.out
        obtain ⟨ho5, hmm⟩ := hk5.2.1 ho4
        have hm5 := hmm _ hm4
        have hv5 := hk5.2.2 _ _ hv4
        have hk25 := hk24.trans hk5.1
        have hT := HCH.out.2.2.2.1
        have hnz : ¬ nx = 0 := by omega
        obtain ⟨_, c1, c2, c3⟩ := (HBX.out _ hk25).all
        have HT5 := Lib.hid hT
        have HP5 := Lib.hid (And.intro hJ5 (And.intro ho5 (And.intro hm5 (And.intro hv5 hk25))))
        have HOF := Lib.hid (on_of ho5 nx 16 (by omega))
        have HLB := Lib.hid hlt5
        clear hJ5 hk5 ho4 hm4 hv4 hk24 ho5 hmm hm5 hv5 hk25 hT hlt5
        gi_wp2_with fail
        refine ⟨trivial, fun hd => by simp [Fence.wide] at hd, (callsIn_wide.2 HOF.out).mono ?_⟩
        rintro e W6 ⟨rfl, hb⟩
        rw [HT5.out, HV.out]
        obtain ⟨hJ5, ho5, hm5, hv5, hk25⟩ := HP5.out
        have hj6 := JB.out _ _ _ hJ5 hb
        have ho6 := ho5.below hb
        have hm6 := hm5.belowW ho5 hb
        have hv6 := (hb.block V (Array.getElem?_eq_some_iff.1 hv5).1).trans hv5
        have hk6 : K2 x y W3 W6 := hk25.trans ⟨hb.block _ (Array.getElem?_eq_some_iff.1 (HBX.out _ hk25).1).1, hb.block _ (Array.getElem?_eq_some_iff.1 (HBX.out _ hk25).2).1⟩
        have d0 := (cell_blk hv6 0).1
        have d1 := (cell_blk hv6 1).1
        have d2 := (cell_blk hv6 2).1
        have f0 := (cell_blk hv6 0).2
        have f1 := (cell_blk hv6 1).2
        have f2 := (cell_blk hv6 2).2
        have HP6 := Lib.hid (And.intro hj6 (And.intro ho6 (And.intro hm6 (And.intro hv6 hk6))))
        clear hJ5 ho5 hm5 hv5 hk25 hj6 ho6 hm6 hv6 hk6 hb c1 c2 c3
        gi_wp2_with fail
        have HLX := Lib.hid (show x ≠ V ∧ y ≠ V from ⟨by omega, by omega⟩)
        go_roundw
        case rel =>
          obtain ⟨hj6, ho6, hm6, hv6, hk6⟩ := HP6.out
          refine ⟨pre ++ [(a, z, nx)], nx, 16, nx, t, rfl, rfl, ?_, HCH.out.2.2.2.2, ⟨by omega, by omega, hnx, hnx⟩, walk_set3 HJ.out hj6 hsz3 hv6 _ _ _, (mine_set3 ho6 hm6 _ _ _).1, (mine_set3 ho6 hm6 _ _ _).2 _ hm6, three_set hv6 rfl _ _ _, ?_⟩
          · rw [← HALL.out, List.append_assoc]; rfl
          · exact hk6.trans ⟨far3 HLX.out.1 _ _ _, far3 HLX.out.2 _ _ _⟩
        case measure => have := HLB.out; simp [intOf]; omega
    · have HF := Lib.hid hJx5
      clear hJx5
      gi_wp2_with fail
      refine bodyPost_ret (results_none rfl _ _ _) rfl ⟨⟨_, rfl⟩, .inr ⟨pre ++ [(a, z, nx)], ?_, HF.out⟩⟩
      rw [← HALL.out]
      rcases HNR.out with ⟨rfl, rfl⟩ | ⟨t, rfl, _⟩
      · exact List.prefix_rfl
      · exact ⟨prs nx 16 t, by rw [List.append_assoc]; rfl⟩
end Go.Proofs.Ytfappdiipflpfaa.Bt
