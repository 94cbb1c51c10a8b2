/- The contract of a list's links: the function value that it answers, for every loop body that keeps the arena and the views. -/
import Derived.Test.YtfappdiipflpfaaLsA
import Derived.Test.YtfappdiipflpfaaRgT
import Derived.Test.YtfappdiipflpfaaRoundHeld
import Derived.Test.YtfappdiipflpfaaBitsIter
namespace Go.Proofs.Ytfappdiipflpfaa.Bt
open Go Go.RowKit Go.Shelf
set_option linter.unusedVariables false
attribute [local go_sem] Oper.semAt_some

/-! a region that draws its order, inside the wide fence, with a condition that every operation keeps -/
section
variable {P : Program} {ops : Array Oper} {Q : Exit → Act → World → Prop} {S : World → Prop} {n : Nat} {md : Region.Mode}
theorem wide_of_upon {o : Oper} {a : Act} {K : Act → World → Prop} (r : Result Next) (h : o.upon P a K Q r) : o.uponIn Fence.wide n P a K Q r := by
  unfold Oper.upon at h
  unfold Oper.uponIn
  split at h
  · exact h
  · exact h
  · exact h
  · exact ⟨fun hd => by simp [Fence.wide] at hd, callsIn_wide.2 h⟩
  · exact ⟨fun hd => by simp [Fence.wide] at hd, fun c cs _ => by
      obtain ⟨v, w', r, s⟩ := h c cs
      exact ⟨v, w', r, stepsIn_wide.2 s⟩⟩
  · exact h
  · exact h.elim
theorem wide_of_wpOp {i : Nat} (hLO : ¬ LetsOut Q) {K : Act → World → Prop} {a : Act} {w : World} (h : wpOp P ops Q i K a w) : wpOpIn Fence.wide n P ops Q i K a w := by
  unfold wpOp at h
  unfold wpOpIn
  cases ho : ops[i]? with
  | none => rw [ho] at h; exact h
  | some o =>
    rw [ho] at h
    simp only at h ⊢
    by_cases hw : Region.wanted o (yielded ops a.tmps) = true
    · rw [if_pos hw] at h ⊢
      rcases h with h | ⟨_, h⟩
      · refine ⟨fun _ _ => trivial, ?_⟩
        rw [show Fence.wide.round = none from rfl, Oper.semAt_none]
        exact wide_of_upon _ h
      · exact absurd h hLO
    · rw [if_neg hw] at h ⊢
      exact ⟨fun _ _ => trivial, h⟩
theorem wide_of_any (hLO : ¬ LetsOut Q) : ∀ (fuel : Nat) (listed : Array Bool) (a : Act) (w : World), wpAny P md ops Q fuel listed a w → wpAnyIn Fence.wide n P md ops Q fuel listed a w
  | 0, _, _, _, h => h
  | fuel + 1, listed, a, w, h => ⟨h.1, fun i hi => wpOpIn_mono (fun a' w' h' => wide_of_any hLO fuel _ a' w' h') (wide_of_wpOp hLO (h.2 i hi))⟩
theorem wide_held {id : Nat} {a : Act} {w : World} {K : Act → World → Prop} {Q' : Exit → Act → World → Prop} (S : World → Prop) (hm : P.follows .mixedOrders = true)
    (h : wpAnyH P .any ops (Exit.then K fun _ _ _ => False) S ops.size (Array.replicate ops.size false) a w.drew) : (Code.region id ops true).wpIn Fence.wide n P (Exit.then K Q') a w :=
  wpIn_mono (wpIn_region_any hm (wide_of_any (fun ⟨_, _, h⟩ => h) _ _ _ _ (wpAny_of_held _ _ _ _ h))) fun e a' w' h' => by cases e <;> first | exact h' | exact h'.elim
end

/-! an arena, when blocks are turned that are none of its own -/
theorem grown_set (W : World) (b o : Nat) (v : Value) : W.grownBy (W.setCell ⟨b, o, none⟩ v) (some b) :=
  ⟨rfl, rfl, rfl, by simp [World.setCell], fun k _ hk => Below.heap_setCell _ ⟨b, o, none⟩ _ _ (fun e => hk (by rw [e]))⟩
theorem grown_below {W W' : World} (h : Below W.heap.size W W') : W.grownBy W' none := ⟨h.os, h.tape, h.output, h.size, fun k hk _ => h.block k hk⟩
theorem arx_turn {A P n cap l : Nat} {s : ASt} {ps : List (Option Nat)} {p : Option Addr} {x : World} {o : Obj} (h : ArX A s P ps p n cap x) (hl : x.heap[l]? = some o) (ho : o.isCells = false) (o' : Obj) : ArX A s P ps p n cap (x.putObj l o') := by
  have ne : ∀ {k : Nat} {c : Array Value} {T : TypeId} {fr : Nat × Nat}, x.heap[k]? = some (.cells c T fr) → (x.putObj l o').heap[k]? = some (.cells c T fr) := fun {k c T fr} hk =>
    (World.putObj_heap_other (fun e => by subst e; rw [hl] at hk; cases hk; cases ho)).trans hk
  exact { h with
    hd := ne h.hd
    row := ne h.row
    pg := fun i b hb => ne (h.pg i b hb)
    edges := by
      rcases h.edges with h1 | ⟨b, off, h1, h2, h3⟩
      · exact .inl h1
      · refine .inr ⟨b, off, h1, by simpa [World.putObj] using h2, fun k hk => ?_⟩
        have h4 := h3 k hk
        obtain ⟨o2, ho2, hc2⟩ := cells_of_cell h4
        rw [World.cell?_of_block (w := x) (a := ⟨b, off + k, none⟩) (World.putObj_heap_other (fun e => by
          rw [show b = l from e] at ho2; rw [hl] at ho2; cases ho2; rw [ho] at hc2; cases hc2))]
        exact h4 }
theorem On.turn {A l : Nat} {s : ASt} {x : World} {o : Obj} (h : On A s x) (hl : x.heap[l]? = some o) (ho : o.isCells = false) (o' : Obj) : On A s (x.putObj l o') := by
  obtain ⟨P, ps, p, n, cap, h⟩ := h; exact ⟨P, ps, p, n, cap, arx_turn h hl ho o'⟩
theorem Mine.turn {A l k : Nat} {s : ASt} {x : World} {o : Obj} (h : On A s x) (hl : x.heap[l]? = some o) (ho : o.isCells = false) (o' : Obj) (hm : Mine A k x) : Mine A k (x.putObj l o') := by
  obtain ⟨P, ps, p, n, cap, h⟩ := h
  have h2 := arx_turn h hl ho o'
  exact ⟨by have := hm.lt; simpa [World.putObj] using this, fun e => hm.own ((ownW_iff h k).2 ((ownW_iff h2 k).1 e)), fun e => hm.edg ((edgW_iff h k).2 ((edgW_iff h2 k).1 e))⟩
theorem Mine.belowW {A k : Nat} {s : ASt} {x y : World} (h : On A s x) (hb : Below x.heap.size x y) (hm : Mine A k x) : Mine A k y := hm.went (Went.of_below h hb)

/-- what a loop's body keeps: two blocks, the arena and what is none of its own, all views' variables -/
def KL (A : Nat) (s : ASt) (x y : Nat) (W W' : World) : Prop :=
  K2 x y W W' ∧ (On A s W → On A s W' ∧ ∀ k, Mine A k W → Mine A k W') ∧ ∀ (k : Nat) (c : Array Value), W.heap[k]? = some (Obj.cells c 53 (0, 0)) → W'.heap[k]? = some (Obj.cells c 53 (0, 0))
theorem KL.trans {A : Nat} {s : ASt} {x y : Nat} {B C D : World} (h : KL A s x y B C) (k : KL A s x y C D) : KL A s x y B D :=
  ⟨h.1.trans k.1, fun o => ⟨(k.2.1 (h.2.1 o).1).1, fun i hi => (k.2.1 (h.2.1 o).1).2 i ((h.2.1 o).2 i hi)⟩, fun i c e => k.2.2 i c (h.2.2 i c e)⟩
theorem KL.refl {A : Nat} {s : ASt} {x y : Nat} (W : World) : KL A s x y W W := ⟨K2.refl _, fun o => ⟨o, fun _ h => h⟩, fun _ _ e => e⟩
theorem KL.put {A : Nat} {s : ASt} {x y : Nat} {w : World} (hx : x < w.heap.size) (hy : y < w.heap.size) (W : World) (l : Nat) (o o' : Obj) (hl : w.heap.size ≤ l) (h : W.heap[l]? = some o) (hc : o.isCells = false) (hw : o.isWalk = false) : KL A s x y W (W.putObj l o') :=
  ⟨K2.put hx hy W l o o' hl h hc hw, fun ho => ⟨ho.turn h hc o', fun k hk => Mine.turn ho h hc o' hk⟩, fun k c e => (World.putObj_heap_other (fun e2 => by subst e2; rw [h] at e; cases e; cases hc)).trans e⟩
theorem KL.below {A : Nat} {s : ASt} {x y : Nat} {W W' : World} (hx : x < W.heap.size) (hy : y < W.heap.size) (hb : Below W.heap.size W W') : KL A s x y W W' :=
  ⟨⟨hb.block _ hx, hb.block _ hy⟩, fun o => ⟨o.below hb, fun k hk => hk.belowW o hb⟩, fun k c e => (hb.block k (Array.getElem?_eq_some_iff.1 e).1).trans e⟩
/-- a variable of one's own, of another type, is written -/
theorem KL.set {A : Nat} {s : ASt} {x y R : Nat} {W : World} {c0 : Array Value} {T : TypeId} (hR : W.heap[R]? = some (.cells c0 T (0, 0))) (hT : T ≠ 53) (hx : R ≠ x) (hy : R ≠ y) (hm : On A s W → Mine A R W) (o : Nat) (v : Value) : KL A s x y W (W.setCell ⟨R, o, none⟩ v) :=
  ⟨⟨set_other v (Ne.symm hx), set_other v (Ne.symm hy)⟩, fun ho => ⟨ho.set (hm ho) o v, fun k hk => Mine.set ho (hm ho) hk o v⟩, fun k c e => (set_other v (fun e2 => by subst e2; rw [hR] at e; cases e; exact hT rfl)).trans e⟩

abbrev Lk := Nat × Nat × Nat
def encLk (A : Nat) (x : Lk) : Array Value := #[vwV A x.1 x.2.1, .int .i64 (x.2.2 : Int)]
theorem prs_ne (a z : Nat) (l : List Nat) : 0 < (prs a z l).length := by cases l <;> simp [prs]

/-- between two rounds -/
def LkRel (A : Nat) (s : ASt) (V x y : Nat) (W0 : World) (all : List Lk) (J : List Lk → World → Prop) (e t : Value) (wr : World) : Prop :=
  ∃ (pre : List Lk) (a z b : Nat) (rest : List Nat), e = .int .i64 0 ∧ t = .int .i64 (b : Int) ∧ pre ++ prs a z rest = all ∧ Ch s.L s.es s.mm a b rest ∧ (8 ≤ z ∧ z ≤ 16 ∧ a ≤ 4294967296 ∧ b ≤ 4294967296) ∧
    J pre wr ∧ On A s wr ∧ Mine A V wr ∧ wr.heap[V]? = some (.cells #[.pointer (some ⟨A, 0, none⟩), .int .i64 (a : Int), .int .i64 (z : Int)] 53 (0, 0)) ∧ K2 x y W0 wr
end Go.Proofs.Ytfappdiipflpfaa.Bt
