/- The contract of a list's links, as an iterator; of find. -/
import Derived.Test.YtfappdiipflpfaaLsC
import Derived.Laws.CopyRow
namespace Go.Proofs.Ytfappdiipflpfaa.Bt
open Go Go.RowKit Go.Shelf
set_option linter.unusedVariables false
attribute [local go_sem] Oper.semAt_some

/-- the links of list k -/
def LkL (s : ASt) (va vs : Nat) (k : Int) (lp : List Lk) : Prop :=
  ((k < 0 ∨ ((vs / 8 : Nat) : Int) ≤ k) ∧ lp = []) ∨ ∃ (kn : Nat) (ms : List Nat), k = (kn : Int) ∧ kn < vs / 8 ∧ Ch s.L s.es s.mm (va + 8 * kn) 0 ms ∧ lp = prs (va + 8 * kn) 8 ms
theorem links_stops (n x y A va vs : Nat) (s : ASt) (h1 : va ≤ 4294967296) (h2 : vs ≤ 4294967296) (k : Int) (lp : List Lk) (hl : LkL s va vs k lp) (w : World) (hA : On A s w) (hx : Mine A x w) (hy : Mine A y w) (hb : LkBox x y A va vs k w) :
    SeqT 53 Fence.wide n Try.prog 163 #[.pointer (some ⟨x, 0, none⟩), .pointer (some ⟨y, 0, none⟩)] (encLk A) (KL A s x y) (fun ys => ys = lp) (fun pre => pre <+: lp) lp.length w := fun l J Jx W hW hJ hJx hY h0 => by
  rcases hl with ⟨hk, rfl⟩ | ⟨kn, ms, rfl, hkn, hC, rfl⟩
  · exact (links1_out n l x y A va vs h2 k hk J W (hb.below hW) (fun X Y hX hg => hJ [] X Y none hX hg (fun r e => by cases e)) h0).mono fun e W' ⟨he, hj⟩ => ⟨he, .inl ⟨[], rfl, hj⟩⟩
  · exact links1_in n l x y A va vs kn _ rfl s h1 h2 hkn ms J Jx W (hA.below hW) hC (hx.belowW hA hW) (hy.belowW hA hW) (hb.below hW) hJ hY h0
theorem links_fn (pa : Option Addr) (va vs : Nat) (k : Int) (w : World) :
    Calls Try.prog 139 #[lsP pa va vs, .int .i64 k] w fun e w' => e = .returned (.func (.func 163) #[] #[.pointer (some ⟨w.heap.size + 1, 0, none⟩), .pointer (some ⟨w.heap.size, 0, none⟩)]) ∧ w' = (w.alloc (.cells #[.pointer pa, .int .i64 (va : Int), .int .i64 (vs : Int)] 115)).alloc (.cells #[.int .i64 k] 3) := by
  have hmf : ∀ (fn : Fn) (first cap : Array Value) (w : World), (Instr.makeFunc fn first cap).run Try.prog w = .ok (.func fn first cap) w := fun _ _ _ _ => rfl
  go_enter Try.func139, Try.ntmps139
  go_wp2
  go_ret
  exact ⟨rfl, rfl⟩

/-- what find finds -/
def isF (f : Int) (x : Lk) : Bool := decide (x.2.2 = 0) || decide (f ≤ (x.2.2 : Int))
def fndV (A : Nat) (lp : List Lk) (f : Int) : Value := match lp.find? (isF f) with
  | some x => .tuple #[vwV A x.1 x.2.1, .int .i64 (x.2.2 : Int), .int .i64 0]
  | none => .tuple #[.agg #[.pointer none, .int .i64 0, .int .i64 0], .int .i64 0, .int .i64 3]
theorem find_prs (h z : Nat) (ms : List Nat) (f : Int) (hp : ∀ m ∈ ms, 0 < m) : (prs h z ms).find? (isF f) = some (fnd h z ms f) := by
  induction ms generalizing h z with
  | nil => simp [prs, fnd, isF]
  | cons m t ih =>
    have hm := hp m (by simp)
    unfold prs fnd
    by_cases hf : f ≤ (m : Int)
    · rw [if_pos hf, List.find?_cons_of_pos (by simp [isF, hf])]
    · rw [if_neg hf, List.find?_cons_of_neg (by simp [isF]; omega)]
      exact ih m 16 fun c hc => hp c (List.mem_cons_of_mem _ hc)
/-- find's own blocks -/
structure FdBox (A B va vs : Nat) (f : Int) (a z : Value) (v u e : Value) (W : World) : Prop where
  ls : W.heap[B]? = some (.cells #[.pointer (some ⟨A, 0, none⟩), .int .i64 (va : Int), .int .i64 (vs : Int)] 115 (0, 0))
  fr : W.heap[B + 1]? = some (.cells #[.int .i64 f] 3 (0, 0))
  r0 : W.heap[B + 2]? = some (.cells #[a, z, v] 53 (0, 0))
  r1 : W.heap[B + 3]? = some (.cells #[u] 3 (0, 0))
  r2 : W.heap[B + 4]? = some (.cells #[e] 26 (0, 0))
theorem FdBox.kept {A B va vs : Nat} {f : Int} {a z v u e : Value} {W W' : World} (h : FdBox A B va vs f a z v u e W) (hk : ∀ k, B ≤ k → k ≤ B + 4 → W'.heap[k]? = W.heap[k]?) : FdBox A B va vs f a z v u e W' :=
  ⟨(hk _ (by omega) (by omega)).trans h.ls, (hk _ (by omega) (by omega)).trans h.fr, (hk _ (by omega) (by omega)).trans h.r0, (hk _ (by omega) (by omega)).trans h.r1, (hk _ (by omega) (by omega)).trans h.r2⟩
theorem low_kept {T : TypeId} {B k : Nat} {W W' : World} {row : Option Nat} (hg : W.grownBy W' row) (hr : ∀ r, row = some r → B ≤ r ∧ ∃ o : Obj, W.heap[r]? = some o ∧ (o.isCells = false ∨ OfT T o)) (hk : k < B) (hs : k < W.heap.size) : W'.heap[k]? = W.heap[k]? :=
  hg.block k hs fun e => by have := (hr k e.symm).1; omega

theorem FdBox.put {A B va vs : Nat} {f : Int} {a z v u e : Value} {W : World} (h : FdBox A B va vs f a z v u e W) (a' z' v' u' e' : Value) :
    FdBox A B va vs f a' z' v' u' e' (((((W.setCell ⟨B + 2, 0, none⟩ a').setCell ⟨B + 2, 1, none⟩ z').setCell ⟨B + 2, 2, none⟩ v').setCell ⟨B + 3, 0, none⟩ u').setCell ⟨B + 4, 0, none⟩ e') := by
  refine ⟨?_, ?_, ?_, ?_, ?_⟩
  · exact (set_other e' (by omega)).trans ((set_other u' (by omega)).trans ((far3 (by omega) a' z' v').trans h.ls))
  · exact (set_other e' (by omega)).trans ((set_other u' (by omega)).trans ((far3 (by omega) a' z' v').trans h.fr))
  · exact (set_other e' (by omega)).trans ((set_other u' (by omega)).trans (three_set h.r0 rfl a' z' v'))
  · exact (set_other e' (by omega)).trans (heap_set ((far3 (by omega) a' z' v').trans h.r1) u')
  · exact heap_set ((set_other u' (by omega)).trans ((far3 (by omega) a' z' v').trans h.r2)) e'
theorem below_put {B : Nat} {w W : World} (h : Below B w W) (a' z' v' u' e' : Value) :
    Below B w (((((W.setCell ⟨B + 2, 0, none⟩ a').setCell ⟨B + 2, 1, none⟩ z').setCell ⟨B + 2, 2, none⟩ v').setCell ⟨B + 3, 0, none⟩ u').setCell ⟨B + 4, 0, none⟩ e') :=
  ((((h.setCell (p := ⟨B + 2, 0, none⟩) (by show B ≤ B + 2; omega) _).setCell (p := ⟨B + 2, 1, none⟩) (by show B ≤ B + 2; omega) _).setCell (p := ⟨B + 2, 2, none⟩) (by show B ≤ B + 2; omega) _).setCell (p := ⟨B + 3, 0, none⟩) (by show B ≤ B + 3; omega) _).setCell (p := ⟨B + 4, 0, none⟩) (by show B ≤ B + 4; omega) _
theorem others_put (W : World) (B : Nat) (a' z' v' u' e' : Value) :
    KeepsOthers W (((((W.setCell ⟨B + 2, 0, none⟩ a').setCell ⟨B + 2, 1, none⟩ z').setCell ⟨B + 2, 2, none⟩ v').setCell ⟨B + 3, 0, none⟩ u').setCell ⟨B + 4, 0, none⟩ e') :=
  ((((KeepsOthers.setCell _ _ _).trans (KeepsOthers.setCell _ _ _)).trans (KeepsOthers.setCell _ _ _)).trans (KeepsOthers.setCell _ _ _)).trans (KeepsOthers.setCell _ _ _)
theorem size_put (W : World) (B : Nat) (a' z' v' u' e' : Value) :
    (((((W.setCell ⟨B + 2, 0, none⟩ a').setCell ⟨B + 2, 1, none⟩ z').setCell ⟨B + 2, 2, none⟩ v').setCell ⟨B + 3, 0, none⟩ u').setCell ⟨B + 4, 0, none⟩ e').heap.size = W.heap.size := by simp [World.setCell]
structure FdI (A B va vs : Nat) (f : Int) (w : World) (a z v u e : Value) (W : World) : Prop where
  bx : FdBox A B va vs f a z v u e W
  bel : Below B w W
  sz : B + 7 ≤ W.heap.size
theorem FdI.grown {A B va vs : Nat} {f : Int} {w : World} {a z v u e : Value} {W W' : World} {T : TypeId} {row : Option Nat} (h : FdI A B va vs f w a z v u e W) (hg : W.grownBy W' row) (hr : ∀ r, row = some r → B + 7 ≤ r ∧ ∃ o : Obj, W.heap[r]? = some o ∧ (o.isCells = false ∨ OfT T o)) : FdI A B va vs f w a z v u e W' :=
  ⟨h.bx.kept fun k h1 h2 => low_kept hg hr (by omega) (by have := h.sz; omega), h.bel.grown hg (by have := h.sz; omega) (fun k e => by have := (hr k e).1; omega), Nat.le_trans h.sz hg.size⟩
theorem FdI.put {A B va vs : Nat} {f : Int} {w : World} {a z v u e : Value} {W : World} (h : FdI A B va vs f w a z v u e W) (a' z' v' u' e' : Value) :
    FdI A B va vs f w a' z' v' u' e' (((((W.setCell ⟨B + 2, 0, none⟩ a').setCell ⟨B + 2, 1, none⟩ z').setCell ⟨B + 2, 2, none⟩ v').setCell ⟨B + 3, 0, none⟩ u').setCell ⟨B + 4, 0, none⟩ e') :=
  ⟨h.bx.put _ _ _ _ _, below_put h.bel _ _ _ _ _, by rw [size_put]; exact h.sz⟩
theorem FdI.obj {A B va vs : Nat} {f : Int} {w : World} {a z v u e : Value} {W : World} (h : FdI A B va vs f w a z v u e W) {D : Nat} (hD : B + 7 ≤ D) (hK : W.heap[D]? = some (.deferred (some []))) (o' : Obj) : FdI A B va vs f w a z v u e (W.putObj D o') :=
  h.grown (T := 0) (grownBy_putObj' W D o') (fun r e => by cases e; exact ⟨hD, _, hK, .inl rfl⟩)
theorem FdI.all {A B va vs : Nat} {f : Int} {w : World} {a z v u e : Value} {W : World} (h : FdI A B va vs f w a z v u e W) :
    W.cell? ⟨B + 2, 0, none⟩ = some a ∧ W.cell? ⟨B + 2, 1, none⟩ = some z ∧ W.cell? ⟨B + 2, 2, none⟩ = some v ∧ W.cell? ⟨B + 3, 0, none⟩ = some u ∧ W.cell? ⟨B + 4, 0, none⟩ = some e ∧ W.cell? ⟨B + 1, 0, none⟩ = some (.int .i64 f) ∧
    W.frozen? ⟨B + 2, 0, none⟩ = false ∧ W.frozen? ⟨B + 2, 1, none⟩ = false ∧ W.frozen? ⟨B + 2, 2, none⟩ = false ∧ W.frozen? ⟨B + 3, 0, none⟩ = false ∧ W.frozen? ⟨B + 4, 0, none⟩ = false :=
  ⟨(cell_blk h.bx.r0 0).1, (cell_blk h.bx.r0 1).1, (cell_blk h.bx.r0 2).1, (cell_blk h.bx.r1 0).1, (cell_blk h.bx.r2 0).1, (cell_blk h.bx.fr 0).1, (cell_blk h.bx.r0 0).2, (cell_blk h.bx.r0 1).2, (cell_blk h.bx.r0 2).2, (cell_blk h.bx.r1 0).2, (cell_blk h.bx.r2 0).2⟩
theorem find_at {lp p : List Lk} {x : Lk} {f : Int} (hpre : p ++ [x] <+: lp) (hp : ∀ y ∈ p, isF f y = false) (hx : isF f x = true) : lp.find? (isF f) = some x := by
  obtain ⟨q, rfl⟩ := hpre
  rw [List.find?_append, List.find?_append]
  have h1 : p.find? (isF f) = none := List.find?_eq_none.2 fun y hy => by rw [hp y hy]; simp
  rw [h1]
  simp [hx]

def NoF (f : Int) (l : List Lk) : Prop := ∀ y ∈ l, isF f y = false
theorem NoF.nil (f : Int) : NoF f [] := fun _ h => by cases h
theorem NoF.snoc {f : Int} {l : List Lk} {x : Lk} (h : NoF f l) (hx : isF f x = false) : NoF f (l ++ [x]) := fun y hy => by
  rcases List.mem_append.1 hy with h' | h'
  · exact h y h'
  · rw [List.mem_singleton.1 h']; exact hx
def FdJ (A B va vs : Nat) (f : Int) (w : World) (pre : List Lk) (W : World) : Prop := NoF f pre ∧ FdI A B va vs f w (.pointer none) (.int .i64 0) (.int .i64 0) (.int .i64 0) (.int .i64 0) W
def FdX (A B va vs : Nat) (f : Int) (w : World) (c : Code) (pre : List Lk) (W : World) : Prop :=
  c = .ret ∧ ∃ p x, pre = p ++ [x] ∧ NoF f p ∧ isF f x = true ∧ FdI A B va vs f w (.pointer (some ⟨A, 0, none⟩)) (.int .i64 (x.1 : Int)) (.int .i64 (x.2.1 : Int)) (.int .i64 (x.2.2 : Int)) (.int .i64 0) W
set_option maxRecDepth 100000 in
set_option maxHeartbeats 4000000 in
theorem lfind_in (A : Nat) (s : ASt) (w : World) (h : On A s w) (va vs : Nat) (h1 : va ≤ 4294967296) (h2 : vs ≤ 4294967296) (k f : Int) (lp : List Lk) (hl : LkL s va vs k lp) :
    CallsIn Fence.wide 5 Try.prog 134 #[lsP (some ⟨A, 0, none⟩) va vs, .int .i64 k, .int .i64 f] w (Gives (fndV A lp f) w) := by
  have HL := Lib.hid hl
  have HO := Lib.hid h
  clear hl h
  refine callsIn_of_wp_marks Try.func134 rfl trivial ?_ rfl
  simp only [Try.ntmps134, List.size_toArray, List.length_cons, List.length_nil, Nat.reduceAdd, Nat.reduceSub, Array.replicate_succ, Array.replicate_zero, List.push_toArray, List.append_toArray, List.nil_append, List.cons_append]
  gi_wp2_with fail
  obtain ⟨B, hB⟩ : ∃ B, w.heap.size = B := ⟨_, rfl⟩
  obtain ⟨w5, hw5⟩ : ∃ w5, (((((w.alloc (.cells #[.pointer (some ⟨A, 0, none⟩), .int .i64 (va : Int), .int .i64 (vs : Int)] 115)).alloc (.cells #[.int .i64 f] 3)).alloc (.cells #[.pointer none, .int .i64 0, .int .i64 0] 53)).alloc (.cells #[.int .i64 0] 3)).alloc (.cells #[.int .i64 0] 26)) = w5 := ⟨_, rfl⟩
  have s5 : w5.heap.size = B + 5 := by rw [← hw5, ← hB]; simp
  have b5 : Below B w w5 := by
    rw [← hw5, ← hB]; exact (((((Below.refl _ w).alloc (Nat.le_refl _) _).alloc (by simp) _).alloc (by simp; omega) _).alloc (by simp; omega) _).alloc (by simp; omega) _
  have x5 : FdBox A B va vs f (.pointer none) (.int .i64 0) (.int .i64 0) (.int .i64 0) (.int .i64 0) w5 := by
    obtain ⟨g1, g2, g3, g4⟩ := four_new w #[.pointer (some ⟨A, 0, none⟩), .int .i64 (va : Int), .int .i64 (vs : Int)] #[.int .i64 f] #[.pointer none, .int .i64 0, .int .i64 0] #[.int .i64 0] 115 3 53 3
    have up : ∀ {k : Nat} {o : Obj}, k < w.heap.size + 4 → ((((w.alloc (.cells #[.pointer (some ⟨A, 0, none⟩), .int .i64 (va : Int), .int .i64 (vs : Int)] 115)).alloc (.cells #[.int .i64 f] 3)).alloc (.cells #[.pointer none, .int .i64 0, .int .i64 0] 53)).alloc (.cells #[.int .i64 0] 3)).heap[k]? = some o → w5.heap[k]? = some o := fun hk h => by
      rw [← hw5]; exact (Below.heap_alloc _ _ _ (by simp; omega)).trans h
    rw [← hB]
    refine ⟨up (by omega) g1, up (by omega) g2, up (by omega) g3, up (by omega) g4, ?_⟩
    have := heap_new ((((w.alloc (.cells #[.pointer (some ⟨A, 0, none⟩), .int .i64 (va : Int), .int .i64 (vs : Int)] 115)).alloc (.cells #[.int .i64 f] 3)).alloc (.cells #[.pointer none, .int .i64 0, .int .i64 0] 53)).alloc (.cells #[.int .i64 0] 3)) (.cells #[.int .i64 0] 26)
    rw [hw5] at this
    simpa using this
  rw [hw5, hB]
  clear hw5
  refine ⟨trivial, (callsIn_wide.2 (links_fn _ va vs k _)).mono ?_⟩
  rintro e w' ⟨rfl, rfl⟩
  obtain ⟨w7, hw7⟩ : ∃ w7, (w5.alloc (.cells #[.pointer (some ⟨A, 0, none⟩), .int .i64 (va : Int), .int .i64 (vs : Int)] 115)).alloc (.cells #[.int .i64 k] 3) = w7 := ⟨_, rfl⟩
  have s7 : w7.heap.size = B + 7 := by rw [← hw7]; simp [s5]
  have b57 : Below w5.heap.size w5 w7 := by rw [← hw7]; exact below2 _ _ _
  have i7 : FdI A B va vs f w (.pointer none) (.int .i64 0) (.int .i64 0) (.int .i64 0) (.int .i64 0) w7 :=
    ⟨x5.kept fun k' _ _ => b57.block _ (by omega), b5.trans (b57.mono (by omega)), by omega⟩
  have bx7 : LkBox (B + 6) (B + 5) A va vs k w7 := by
    obtain ⟨g1, g2⟩ := pairs_new w5 #[.pointer (some ⟨A, 0, none⟩), .int .i64 (va : Int), .int .i64 (vs : Int)] #[.int .i64 k] 115 3
    rw [hw7, s5] at g1 g2
    exact ⟨g2, g1⟩
  have ho5 := HO.out.below (show Below w.heap.size w w5 from hB ▸ b5)
  have hm5 : Mine A (B + 5) w7 ∧ Mine A (B + 6) w7 := by
    have m1 := Mine.new ho5 (.cells #[.pointer (some ⟨A, 0, none⟩), .int .i64 (va : Int), .int .i64 (vs : Int)] 115)
    have o1 := ho5.below (bel1 w5 (.cells #[.pointer (some ⟨A, 0, none⟩), .int .i64 (va : Int), .int .i64 (vs : Int)] 115))
    have m2 := Mine.new o1 (.cells #[.int .i64 k] 3)
    have m3 := m1.belowW o1 (bel1 _ (.cells #[.int .i64 k] 3))
    rw [hw7] at m2 m3
    rw [s5] at m3
    rw [World.size_alloc, s5] at m2
    exact ⟨m3, m2⟩
  have ho7 := ho5.below b57
  rw [hw7, s5]
  clear hw7 ho5 b57 x5 b5
  gi_wp2_with fail
  have hlx : B + 6 < w7.heap.size ∧ B + 5 < w7.heap.size := by omega
  refine range_T (T := 53) rfl (by omega) (gf := 163) (lb := #[.pointer (some ⟨B + 6, 0, none⟩), .pointer (some ⟨B + 5, 0, none⟩)]) rfl trivial (enters_of Try.func163 (by kernel_rfl) rfl)
    (links_stops (5 - 1) (B + 6) (B + 5) A va vs s h1 h2 k lp HL.out w7 ho7 hm5.2 hm5.1 bx7) KL.trans (KL.put hlx.1 hlx.2) (fun _ => rfl)
    (FdJ A B va vs f w)
    (FdX A B va vs f w)
    (fun pre X Y row hs hg hr => ⟨hs.1, hs.2.grown hg (by rw [← s7]; exact hr)⟩)
    (fun c pre X Y row hs hg hr => by
      obtain ⟨e0, p, x, e1, e2, e3, hi⟩ := hs
      exact ⟨e0, p, x, e1, e2, e3, hi.grown hg (by rw [← s7]; exact hr)⟩)
    ⟨NoF.nil f, i7⟩
    (fun x a' W => ∃ V, B + 7 ≤ V ∧ a' = { tmps := #[.agg #[.pointer (some ⟨A, 0, none⟩), .int .i64 (va : Int), .int .i64 (vs : Int)], .int .i64 k, .int .i64 f, .pointer (some ⟨B, 0, none⟩), undef, .pointer (some ⟨B + 1, 0, none⟩), .pointer (some ⟨B + 2, 0, none⟩), .pointer (some ⟨B + 3, 0, none⟩), .pointer (some ⟨B + 4, 0, none⟩), .pointer (some ⟨V, 0, none⟩), .int .i64 (x.2.2 : Int), .pointer (some ⟨B, 0, none⟩), .pointer (some ⟨B, 0, none⟩), .pointer (some ⟨A, 0, none⟩), .bool false, undef, .agg #[.pointer (some ⟨A, 0, none⟩), .int .i64 (va : Int), .int .i64 (vs : Int)], .int .i64 k, .func (.func 163) #[] #[.pointer (some ⟨B + 6, 0, none⟩), .pointer (some ⟨B + 5, 0, none⟩)], .agg #[.pointer (some ⟨A, 0, none⟩), .int .i64 (x.1 : Int), .int .i64 (x.2.1 : Int)], .int .i64 (x.2.2 : Int), undef, undef, undef, undef, undef, undef, undef, undef, undef, undef], defers := [] } ∧ W.heap[V]? = some (.cells #[.pointer (some ⟨A, 0, none⟩), .int .i64 (x.1 : Int), .int .i64 (x.2.1 : Int)] 53 (0, 0)))
    (fun x a' _ X Y row hs hg hr => by
      obtain ⟨V, e1, e2, e3⟩ := hs
      exact ⟨V, e1, e2, (grownBy_keeps_cells hg (fun r e => (hr r e).2) e3 rfl).trans e3⟩)
    ?assign ?body ?done ?stop
  case assign =>
    intro l pre x W K hI hK
    simp only [encLk]
    gi_wp2
    exact hK _ _ ((KeepsOthers.alloc _ _).from _) (KL.below (by have := hI.2.sz; omega) (by have := hI.2.sz; omega) (bel1 _ _)) ⟨hI.1, hI.2.grown (T := 0) (World.grownBy_alloc W _ none) (fun r e => by cases e)⟩ ⟨W.heap.size, hI.2.sz, rfl, heap_new _ _⟩
  case body =>
    rintro l pre x a' W ⟨hp, hi⟩ ⟨V, hV, rfl, hcV⟩ hlen
    have HI := Lib.hid hi
    have HP := Lib.hid hp
    obtain ⟨c0, c1, c2, c3, c4, c5, f0, f1, f2, f3, f4⟩ := hi.all
    have v0 := (cell_blk hcV 0).1
    have v1 := (cell_blk hcV 1).1
    have v2 := (cell_blk hcV 2).1
    clear hp hi hcV
    have fin : Hid (isF f x = true → KeepsFrom (B + 7) W (((((W.setCell ⟨B + 2, 0, none⟩ (.pointer (some ⟨A, 0, none⟩))).setCell ⟨B + 2, 1, none⟩ (.int .i64 (x.1 : Int))).setCell ⟨B + 2, 2, none⟩ (.int .i64 (x.2.1 : Int))).setCell ⟨B + 3, 0, none⟩ (.int .i64 (x.2.2 : Int))).setCell ⟨B + 4, 0, none⟩ (.int .i64 0)) ∧ FdX A B va vs f w .ret (pre ++ [x]) (((((W.setCell ⟨B + 2, 0, none⟩ (.pointer (some ⟨A, 0, none⟩))).setCell ⟨B + 2, 1, none⟩ (.int .i64 (x.1 : Int))).setCell ⟨B + 2, 2, none⟩ (.int .i64 (x.2.1 : Int))).setCell ⟨B + 3, 0, none⟩ (.int .i64 (x.2.2 : Int))).setCell ⟨B + 4, 0, none⟩ (.int .i64 0))) := Lib.hid fun hx =>
      ⟨(others_put W B _ _ _ _ _).from _, rfl, pre, x, rfl, HP.out, hx, HI.out.put _ _ _ _ _⟩
    obtain ⟨xa, xz, xm⟩ := x
    by_cases hz : xm = 0
    · have HX : Hid (isF f (xa, xz, xm) = true) := Lib.hid (by simp [isF, hz])
      subst hz
      gi_wp2_with fail
      exact fin.out HX.out
    · by_cases hf : f ≤ (xm : Int)
      · have HX : Hid (isF f (xa, xz, xm) = true) := Lib.hid (by simp [isF, hf])
        gi_wp2_with fail
        exact fin.out HX.out
      · have HX : Hid (isF f (xa, xz, xm) = false) := Lib.hid (by simp [isF, hz]; omega)
        gi_wp2_with fail
        exact ⟨KeepsFrom.refl _ _, KL.refl _, HP.out.snoc HX.out, HI.out⟩
  case done =>
    rintro D ys W hD rfl ⟨hp, hi⟩ hK
    obtain ⟨c0, c1, c2, c3, c4, c5, f0, f1, f2, f3, f4⟩ := hi.all
    have HI := Lib.hid (hi.put (.pointer none) (.int .i64 0) (.int .i64 0) (.int .i64 0) (.int .i64 3))
    have HK' := Lib.hid ((others_put W B (.pointer none) (.int .i64 0) (.int .i64 0) (.int .i64 0) (.int .i64 3)).same D _ hK rfl)
    have HV : Hid (fndV A ys f = .tuple #[.agg #[.pointer none, .int .i64 0, .int .i64 0], .int .i64 0, .int .i64 3]) := Lib.hid (by
      unfold fndV; rw [List.find?_eq_none.2 fun y hy => by rw [hp y hy]; simp])
    clear hi hp hK
    gi_wp2_with fail
    refine ⟨by simp, .inl ⟨_, _, rfl, run_takeDeferred HK'.out, ?_⟩⟩
    have hz := HI.out.obj (by omega) HK'.out (.deferred none)
    obtain ⟨c0, c1, c2, c3, c4, _⟩ := hz.all
    refine ⟨.tuple #[.agg #[.pointer none, .int .i64 0, .int .i64 0], .int .i64 0, .int .i64 3], ?_, by rw [HV.out], hB ▸ hz.bel⟩
    simp [results, Try.f134, go_sem, c0, c1, c2, c3, c4]
  case stop =>
    rintro D c pre W hD hpre ⟨rfl, p, x, rfl, hp, hx, hi⟩ hK
    have HV : Hid (fndV A lp f = .tuple #[vwV A x.1 x.2.1, .int .i64 (x.2.2 : Int), .int .i64 0]) := Lib.hid (by
      unfold fndV; rw [find_at hpre hp hx])
    gi_wp2_with fail
    refine ⟨by simp, .inl ⟨_, _, rfl, run_takeDeferred hK, ?_⟩⟩
    have hz := hi.obj (by omega) hK (.deferred none)
    obtain ⟨c0, c1, c2, c3, c4, _⟩ := hz.all
    refine ⟨.tuple #[vwV A x.1 x.2.1, .int .i64 (x.2.2 : Int), .int .i64 0], ?_, by rw [HV.out], hB ▸ hz.bel⟩
    simp [results, Try.f134, go_sem, c0, c1, c2, c3, c4]
theorem lfind {A : Nat} {s : ASt} {w : World} (h : On A s w) (va vs : Nat) (h1 : va ≤ 4294967296) (h2 : vs ≤ 4294967296) (k f : Int) (lp : List Lk) (hl : LkL s va vs k lp) :
    Calls Try.prog 134 #[lsP (some ⟨A, 0, none⟩) va vs, .int .i64 k, .int .i64 f] w (Gives (fndV A lp f) w) := callsIn_wide.1 (lfind_in A s w h va vs h1 h2 k f lp hl)
end Go.Proofs.Ytfappdiipflpfaa.Bt
