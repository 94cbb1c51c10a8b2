/- Several texts in one: VwFill; On; VwNil; OnB; TgA; TgB; TgC; TgD; TgE; TgG; BdQ; BdR; BdS. -/
import Derived.Test.YtfemgekhpcgliaaGreatCmA
import Derived.Deep.DeepCutAuto
import Derived.RegionTactic
import Derived.ChangeAlike
import Derived.Test.YtfemgekhpcgliaaGreatBdP
/- The contracts of a view's Fill and Part, for all arguments. -/
namespace Go.Proofs.YtfemgekhpcgliaaGreat.Bt
open Go Go.RowKit Go.Shelf
set_option linter.unusedVariables false
section
variable {A P n cap : Nat} {s : ASt} {ps : List (Option Nat)} {p : Option Addr} {w : World}
theorem vfill_any (h : ArX A s P ps p n cap w) (va vs : Nat) (h1 : va ≤ 4294967296) (h2 : vs ≤ 4294967296) (a k : Int) (ha : a ≤ 9223372036854775807) (y : UInt8) :
    Calls Tryz.prog 117 #[.agg #[.pointer (some ⟨A, 0, none⟩), .int .i64 (va : Int), .int .i64 (vs : Int)], .int .i64 a, .int .i64 k, .int .u8 (y.toNat : Int)] w (FillPost A P s ps p (addrV va vs a k) k y w) :=
  (vfill_gen _ va vs h1 h2 a ha k _ w _ _ (fun X hX => fill_any (h.below hX) _ k (addrV_le h1 h2 a k) y) (keepsV_ar h _)).mono fun e w' ht => thru_turned ht
/-- what Part answers -/
theorem vpart_any (h : ArX A s P ps p n cap w) (va vs : Nat) (h1 : va ≤ 4294967296) (h2 : vs ≤ 4294967296) (a k : Int) (ha : a ≤ 9223372036854775807) :
    Calls Tryz.prog 93 #[.agg #[.pointer (some ⟨A, 0, none⟩), .int .i64 (va : Int), .int .i64 (vs : Int)], .int .i64 a, .int .i64 k] w fun e w' =>
      e = .returned (.tuple #[ofV (some ⟨A, 0, none⟩) (addrV va vs a k) k (thereE s.L s.es (addrV va vs a k) k), .int .i64 (thereE s.L s.es (addrV va vs a k) k)]) ∧ Below w.heap.size w w' := by
  have hof := fun X (hX : Below w.heap.size w X) => vof_any (h.below hX) (addrV va vs a k) k (addrV_le h1 h2 a k)
  generalize thereE s.L s.es (addrV va vs a k) k = E at *
  unfold ofV at hof ⊢
  by_cases hE : E = 0
  · simp only [if_pos hE] at hof ⊢
    exact vpart_gen _ va vs h1 h2 a k ha w _ _ _ E hof
  · simp only [if_neg hE] at hof ⊢
    exact vpart_gen _ va vs h1 h2 a k ha w _ _ _ E hof
end
end Go.Proofs.YtfemgekhpcgliaaGreat.Bt
/- An arena in memory, with all that names its blocks put aside; what a call may turn of it. -/
namespace Go.Proofs.YtfemgekhpcgliaaGreat.Bt
open Go Go.RowKit Go.Shelf
set_option linter.unusedVariables false

/-- the arena in block A is s -/
def On (A : Nat) (s : ASt) (w : World) : Prop := ∃ P ps p n cap, ArX A s P ps p n cap w
/-- a block of its own -/
def OwnW (A : Nat) (w : World) (k : Nat) : Prop := ∃ s P ps p n cap, ArX A s P ps p n cap w ∧ Own A P ps k
/-- the block of its set's edges -/
def EdgW (A : Nat) (w : World) (k : Nat) : Prop := ∃ s P ps p n cap off, ArX A s P ps p n cap w ∧ p = some ⟨k, off, none⟩
structure Went (A : Nat) (w w' : World) : Prop where
  os : w'.os = w.os
  tape : w'.tape = w.tape
  output : w'.output = w.output
  size : w.heap.size ≤ w'.heap.size
  block : ∀ k, k < w.heap.size → ¬ OwnW A w k → w'.heap[k]? = w.heap[k]?
  news : ∀ k, OwnW A w' k → OwnW A w k ∨ w.heap.size ≤ k
  edge : ∀ k, EdgW A w' k → EdgW A w k ∨ w.heap.size ≤ k

theorem ptrV_inj {a b : Option Nat} (h : ptrV a = ptrV b) : a = b := by
  cases a <;> cases b <;> simp_all [ptrV]
theorem rowV_inj {a b : List (Option Nat)} (h : rowV a = rowV b) : a = b := by
  have h1 : a.map ptrV = b.map ptrV := by simpa [rowV] using h
  clear h
  induction a generalizing b with
  | nil => cases b with
    | nil => rfl
    | cons y b => simp at h1
  | cons x a ih => cases b with
    | nil => simp at h1
    | cons y b =>
      simp only [List.map_cons, List.cons.injEq] at h1
      rw [ptrV_inj h1.1, ih h1.2]
theorem ArX.same {A P n cap : Nat} {s : ASt} {ps : List (Option Nat)} {p : Option Addr} {w : World} {P2 n2 cap2 : Nat} {s2 : ASt} {ps2 : List (Option Nat)} {p2 : Option Addr}
    (h : ArX A s P ps p n cap w) (k : ArX A s2 P2 ps2 p2 n2 cap2 w) : P = P2 ∧ ps = ps2 := by
  have h1 := h.hd; rw [k.hd] at h1
  have hP : P2 = P := by
    simp only [Option.some.injEq, Obj.cells.injEq, headV] at h1
    have := congrArg (fun x : Array Value => x[2]?) h1.1
    simp at this
    exact this.1
  subst hP
  have h2 := h.row; rw [k.row] at h2
  simp only [Option.some.injEq, Obj.cells.injEq] at h2
  exact ⟨rfl, (rowV_inj h2.1).symm⟩
theorem ownW_iff {A P n cap : Nat} {s : ASt} {ps : List (Option Nat)} {p : Option Addr} {w : World} (h : ArX A s P ps p n cap w) (k : Nat) : OwnW A w k ↔ Own A P ps k := by
  constructor
  · rintro ⟨s2, P2, ps2, p2, n2, cap2, h2, ho⟩
    obtain ⟨rfl, rfl⟩ := h.same h2
    exact ho
  · intro ho; exact ⟨s, P, ps, p, n, cap, h, ho⟩
theorem ArX.sameP {A P n cap : Nat} {s : ASt} {ps : List (Option Nat)} {p : Option Addr} {w : World} {P2 n2 cap2 : Nat} {s2 : ASt} {ps2 : List (Option Nat)} {p2 : Option Addr}
    (h : ArX A s P ps p n cap w) (k : ArX A s2 P2 ps2 p2 n2 cap2 w) : p = p2 := by
  have h1 := h.hd; rw [k.hd] at h1
  simp only [Option.some.injEq, Obj.cells.injEq, headV] at h1
  have := congrArg (fun x : Array Value => x[1]?) h1.1
  simp at this
  exact this.1.symm
theorem edgW_iff {A P n cap : Nat} {s : ASt} {ps : List (Option Nat)} {p : Option Addr} {w : World} (h : ArX A s P ps p n cap w) (k : Nat) : EdgW A w k ↔ ∃ off, p = some ⟨k, off, none⟩ := by
  constructor
  · rintro ⟨s2, P2, ps2, p2, n2, cap2, off, h2, ho⟩
    exact ⟨off, (h.sameP h2).trans ho⟩
  · rintro ⟨off, ho⟩; exact ⟨s, P, ps, p, n, cap, off, h, ho⟩
theorem On.lt {A : Nat} {s : ASt} {w : World} (h : On A s w) : A < w.heap.size := by obtain ⟨P, ps, p, n, cap, h⟩ := h; exact h.ltA
theorem On.good {A : Nat} {s : ASt} {w : World} (h : On A s w) : Good s.L s.es := by obtain ⟨P, ps, p, n, cap, h⟩ := h; exact h.good
theorem On.below {A : Nat} {s : ASt} {x y : World} (h : On A s x) (hb : Below x.heap.size x y) : On A s y := by
  obtain ⟨P, ps, p, n, cap, h⟩ := h; exact ⟨P, ps, p, n, cap, h.below hb⟩
theorem Went.refl (A : Nat) (w : World) : Went A w w := ⟨rfl, rfl, rfl, Nat.le_refl _, fun _ _ _ => rfl, fun _ h => .inl h, fun _ h => .inl h⟩
theorem Went.of_below {A : Nat} {s : ASt} {w w' : World} (h : On A s w) (hb : Below w.heap.size w w') : Went A w w' := by
  obtain ⟨P, ps, p, n, cap, h⟩ := h
  exact ⟨hb.os, hb.tape, hb.output, hb.size, fun k hk _ => hb.block k hk, fun k hk => .inl ((ownW_iff h k).2 ((ownW_iff (h.below hb) k).1 hk)), fun k hk => .inl ((edgW_iff h k).2 ((edgW_iff (h.below hb) k).1 hk))⟩
theorem Went.trans {A : Nat} {w w1 w2 : World} (h : Went A w w1) (k : Went A w1 w2) : Went A w w2 := by
  refine ⟨k.os.trans h.os, k.tape.trans h.tape, k.output.trans h.output, Nat.le_trans h.size k.size, fun i hi hn => ?_, fun i hi => ?_, fun i hi => ?_⟩
  · refine (k.block i (Nat.lt_of_lt_of_le hi h.size) fun ho => ?_).trans (h.block i hi hn)
    rcases h.news i ho with h1 | h1
    · exact hn h1
    · omega
  · rcases k.news i hi with h1 | h1
    · exact h.news i h1
    · exact .inr (Nat.le_trans h.size h1)
  · rcases k.edge i hi with h1 | h1
    · exact h.edge i h1
    · exact .inr (Nat.le_trans h.size h1)
theorem Went.of_turned {A P n cap : Nat} {s s' : ASt} {ps : List (Option Nat)} {p : Option Addr} {w w' : World} (h : ArX A s P ps p n cap w) (ht : Turned A P ps p s' w w') : On A s' w' ∧ Went A w w' := by
  obtain ⟨ps', p', n', cap', h1, h2, h3⟩ := ht
  refine ⟨⟨P, ps', p', n', cap', h1⟩, ⟨h2.os, h2.tape, h2.output, h2.size, fun k hk hn => h2.block k hk fun ho => hn ((ownW_iff h k).2 ho), fun k hk => ?_, fun k hk => ?_⟩⟩
  rotate_left
  · obtain ⟨off, ho⟩ := (edgW_iff h1 k).1 hk
    rcases h3 k off ho with h4 | h4
    · exact .inl ((edgW_iff h k).2 ⟨off, h4 ▸ ho⟩)
    · exact .inr h4
  rcases (ownW_iff h1 k).1 hk with rfl | rfl | ⟨j, hj⟩
  · exact .inl ((ownW_iff h _).2 (.inl rfl))
  · exact .inl ((ownW_iff h _).2 (.inr (.inl rfl)))
  · rcases h2.news j k hj with h3 | h3
    · exact .inl ((ownW_iff h _).2 (.inr (.inr ⟨j, h3⟩)))
    · exact .inr h3
/-- a block of no type of an arena's lies as it lay -/
theorem Went.keep {A : Nat} {s : ASt} {w w' : World} (h : On A s w) (k : Went A w w') {B : Nat} {c : Array Value} {T : TypeId} {fr : Nat × Nat} (hB : w.heap[B]? = some (.cells c T fr))
    (h1 : T ≠ 86) (h2 : T ≠ 96) (h3 : T ≠ 98) : w'.heap[B]? = some (.cells c T fr) := by
  obtain ⟨P, ps, p, n, cap, h⟩ := h
  exact (k.block B (Array.getElem?_eq_some_iff.1 hB).1 fun ho => own_not h hB h1 h2 h3 ((ownW_iff h _).1 ho)).trans hB
/-- a block that is no arena's: it may be written -/
structure Mine (A R : Nat) (w : World) : Prop where
  lt : R < w.heap.size
  own : ¬ OwnW A w R
  edg : ¬ EdgW A w R
theorem Mine.went {A R : Nat} {w w' : World} (h : Mine A R w) (k : Went A w w') : Mine A R w' := by
  refine ⟨Nat.lt_of_lt_of_le h.lt k.size, fun ho => ?_, fun ho => ?_⟩
  · rcases k.news R ho with h1 | h1
    · exact h.own h1
    · have := h.lt; omega
  · rcases k.edge R ho with h1 | h1
    · exact h.edg h1
    · have := h.lt; omega
theorem Mine.same {A R : Nat} {w w' : World} (h : Mine A R w) (k : Went A w w') : w'.heap[R]? = w.heap[R]? := k.block R h.lt h.own
theorem Mine.at {A R : Nat} {w w' : World} (h : Mine A R w) (k : Went A w w') {o : Obj} (ho : w.heap[R]? = some o) : w'.heap[R]? = some o := (h.same k).trans ho
theorem Mine.new {A : Nat} {s : ASt} {w : World} (h : On A s w) (o : Obj) : Mine A w.heap.size (w.alloc o) := by
  obtain ⟨P, ps, p, n, cap, h⟩ := h
  have h2 := h.below ((Below.refl _ _).alloc (Nat.le_refl _) o)
  refine ⟨by simp, fun ho => ?_, fun ho => ?_⟩
  · rcases (ownW_iff h2 _).1 ho with h3 | h3 | ⟨i, h3⟩
    · have := h.ltA; omega
    · have := h.ltP; omega
    · have := h.ltG h3; omega
  · obtain ⟨off, h3⟩ := (edgW_iff h2 _).1 ho
    have := h.ltE h3; omega
theorem set_other {x : World} {R o k : Nat} (v : Value) (h : k ≠ R) : (x.setCell ⟨R, o, none⟩ v).heap[k]? = x.heap[k]? := Below.heap_setCell _ ⟨R, o, none⟩ _ _ h
theorem Mine.arx {A P n cap R : Nat} {s : ASt} {ps : List (Option Nat)} {p : Option Addr} {w : World} (h : ArX A s P ps p n cap w) (hm : Mine A R w) (o : Nat) (v : Value) : ArX A s P ps p n cap (w.setCell ⟨R, o, none⟩ v) :=
  h.kept (by simp [World.setCell]) (set_other v fun e => hm.own ((ownW_iff h R).2 (.inl e.symm))) (set_other v fun e => hm.own ((ownW_iff h R).2 (.inr (.inl e.symm)))) (fun i b hb => set_other v fun e => hm.own ((ownW_iff h R).2 (.inr (.inr ⟨i, e ▸ hb⟩))))
    (fun b off e => set_other v fun e2 => hm.edg ((edgW_iff h R).2 ⟨off, e2 ▸ e⟩))
theorem On.set {A R : Nat} {s : ASt} {w : World} (h : On A s w) (hm : Mine A R w) (o : Nat) (v : Value) : On A s (w.setCell ⟨R, o, none⟩ v) := by
  obtain ⟨P, ps, p, n, cap, h⟩ := h; exact ⟨P, ps, p, n, cap, Mine.arx h hm o v⟩
theorem own_set {A R : Nat} {s : ASt} {w : World} (h : On A s w) (hm : Mine A R w) (o : Nat) (v : Value) (k : Nat) : (OwnW A (w.setCell ⟨R, o, none⟩ v) k ↔ OwnW A w k) ∧ (EdgW A (w.setCell ⟨R, o, none⟩ v) k ↔ EdgW A w k) := by
  obtain ⟨P, ps, p, n, cap, h⟩ := h
  have h2 := Mine.arx h hm o v
  exact ⟨(ownW_iff h2 k).trans (ownW_iff h k).symm, (edgW_iff h2 k).trans (edgW_iff h k).symm⟩
theorem Mine.set {A R R2 : Nat} {s : ASt} {w : World} (h : On A s w) (hm : Mine A R w) (hm2 : Mine A R2 w) (o : Nat) (v : Value) : Mine A R2 (w.setCell ⟨R, o, none⟩ v) :=
  ⟨by have := hm2.lt; simpa [World.setCell] using this, fun ho => hm2.own ((own_set h hm o v R2).1.1 ho), fun ho => hm2.edg ((own_set h hm o v R2).2.1 ho)⟩
theorem Went.set {A R : Nat} {s : ASt} {w x : World} (k : Went A w x) (h : On A s x) (hm : Mine A R x) (hR : w.heap.size ≤ R) (o : Nat) (v : Value) : Went A w (x.setCell ⟨R, o, none⟩ v) :=
  ⟨k.os, k.tape, k.output, by have := k.size; simpa [World.setCell] using this, fun i hi hn => (set_other v (by omega)).trans (k.block i hi hn), fun i hi => k.news i ((own_set h hm o v i).1.1 hi), fun i hi => k.edge i ((own_set h hm o v i).2.1 hi)⟩
/-- all that lay there ahead of a world w0 lies as it lay, and the arena came later -/
structure Base (A : Nat) (w0 w : World) : Prop where
  bel : Below w0.heap.size w0 w
  own : ∀ k, OwnW A w k → w0.heap.size ≤ k
  edg : ∀ k, EdgW A w k → w0.heap.size ≤ k
theorem Base.rebase {A : Nat} {w0 w1 x : World} (h : Base A w1 x) (hb : Below w0.heap.size w0 w1) : Base A w0 x :=
  ⟨hb.trans (h.bel.mono hb.size), fun k hk => Nat.le_trans hb.size (h.own k hk), fun k hk => Nat.le_trans hb.size (h.edg k hk)⟩
theorem Base.went {A : Nat} {w0 w w' : World} (h : Base A w0 w) (k : Went A w w') : Base A w0 w' := by
  refine ⟨h.bel.trans ⟨k.os, k.tape, k.output, k.size, fun i hi => k.block i (Nat.lt_of_lt_of_le hi h.bel.size) fun ho => ?_⟩, fun i hi => ?_, fun i hi => ?_⟩
  rotate_right
  · rcases k.edge i hi with h1 | h1
    · exact h.edg i h1
    · exact Nat.le_trans h.bel.size h1
  · have := h.own i ho; omega
  · rcases k.news i hi with h1 | h1
    · exact h.own i h1
    · exact Nat.le_trans h.bel.size h1
theorem Base.set {A R : Nat} {s : ASt} {w0 x : World} (k : Base A w0 x) (h : On A s x) (hm : Mine A R x) (hR : w0.heap.size ≤ R) (o : Nat) (v : Value) : Base A w0 (x.setCell ⟨R, o, none⟩ v) :=
  ⟨k.bel.setCell (p := ⟨R, o, none⟩) hR v, fun i hi => k.own i ((own_set h hm o v i).1.1 hi), fun i hi => k.edg i ((own_set h hm o v i).2.1 hi)⟩
theorem Base.below {A : Nat} {s : ASt} {w0 w w' : World} (h : Base A w0 w) (hA : On A s w) (hb : Below w.heap.size w w') : Base A w0 w' := h.went (Went.of_below hA hb)

/-- a call that returns r, behind which the arena is s' -/
def Ret (A : Nat) (s' : ASt) (r : Value) (w : World) (e : Ending) (w' : World) : Prop := e = .returned r ∧ On A s' w' ∧ Went A w w'
/-- a call that returns r and makes memory at most -/
def Gives (r : Value) (w : World) (e : Ending) (w' : World) : Prop := e = .returned r ∧ Below w.heap.size w w'

section
variable {A : Nat} {s : ASt} {w : World}
theorem On.ret {s' : ASt} {r : Value} {e : Ending} {w' : World} {P n cap : Nat} {ps : List (Option Nat)} {p : Option Addr} (h : ArX A s P ps p n cap w) (k : e = .returned r ∧ Turned A P ps p s' w w') : Ret A s' r w e w' :=
  ⟨k.1, Went.of_turned h k.2⟩
def ldV (s : ASt) (a k : Int) : Int := if numE s.L s.es a k = 0 then (numV s.mm a.toNat k.toNat : Int) else 0
def byV (s : ASt) (a k : Int) : ByteArray := if thereE s.L s.es a k = 0 then strL (getM s.mm a.toNat k.toNat) else ⟨#[]⟩
abbrev vwV (A va vs : Nat) : Value := .agg #[.pointer (some ⟨A, 0, none⟩), .int .i64 (va : Int), .int .i64 (vs : Int)]

theorem on_load (h : On A s w) (va vs : Nat) (h1 : va ≤ 4294967296) (h2 : vs ≤ 4294967296) (a k : Int) (ha : a ≤ 9223372036854775807) :
    Calls Tryz.prog 49 #[vwV A va vs, .int .i64 a, .int .i64 k] w (Gives (.tuple #[.int .u64 (ldV s (addrV va vs a k) k), .int .i64 (numE s.L s.es (addrV va vs a k) k)]) w) := by
  obtain ⟨P, ps, p, n, cap, h⟩ := h; exact vload_any h va vs h1 h2 a k ha
theorem on_store (h : On A s w) (va vs : Nat) (h1 : va ≤ 4294967296) (h2 : vs ≤ 4294967296) (a k x : Int) (ha : a ≤ 9223372036854775807) (hx : 0 ≤ x) :
    Calls Tryz.prog 46 #[vwV A va vs, .int .i64 a, .int .i64 k, .int .u64 x] w (Ret A (storeS s (addrV va vs a k) k x) (.int .i64 (numE s.L s.es (addrV va vs a k) k)) w) := by
  obtain ⟨P, ps, p, n, cap, h⟩ := h; exact (vstore_any h va vs h1 h2 a k x ha hx).mono fun e w' k => On.ret h k
theorem on_fill (h : On A s w) (va vs : Nat) (h1 : va ≤ 4294967296) (h2 : vs ≤ 4294967296) (a k : Int) (ha : a ≤ 9223372036854775807) (y : UInt8) :
    Calls Tryz.prog 117 #[vwV A va vs, .int .i64 a, .int .i64 k, .int .u8 (y.toNat : Int)] w (Ret A (fillS s (addrV va vs a k) k y) (.int .i64 (thereE s.L s.es (addrV va vs a k) k)) w) := by
  obtain ⟨P, ps, p, n, cap, h⟩ := h; exact (vfill_any h va vs h1 h2 a k ha y).mono fun e w' k => On.ret h k
theorem on_part (h : On A s w) (va vs : Nat) (h1 : va ≤ 4294967296) (h2 : vs ≤ 4294967296) (a k : Int) (ha : a ≤ 9223372036854775807) :
    Calls Tryz.prog 93 #[vwV A va vs, .int .i64 a, .int .i64 k] w (Gives (.tuple #[ofV (some ⟨A, 0, none⟩) (addrV va vs a k) k (thereE s.L s.es (addrV va vs a k) k), .int .i64 (thereE s.L s.es (addrV va vs a k) k)]) w) := by
  obtain ⟨P, ps, p, n, cap, h⟩ := h; exact vpart_any h va vs h1 h2 a k ha
theorem on_of (h : On A s w) (a k : Int) (ha : a ≤ 9223372036854775807) :
    Calls Tryz.prog 92 #[.pointer (some ⟨A, 0, none⟩), .int .i64 a, .int .i64 k] w (Gives (.tuple #[ofV (some ⟨A, 0, none⟩) a k (thereE s.L s.es a k), .int .i64 (thereE s.L s.es a k)]) w) := by
  obtain ⟨P, ps, p, n, cap, h⟩ := h; exact vof_any h a k ha
theorem on_commit (h : On A s w) (a k : Int) (ha : a ≤ 9223372036854775807) :
    Calls Tryz.prog 44 #[.pointer (some ⟨A, 0, none⟩), .int .i64 a, .int .i64 k] w (Ret A (commitS s a k) (.int .i64 (commitE s a k)) w) := by
  obtain ⟨P, ps, p, n, cap, h⟩ := h; exact (commit_any h a k ha).mono fun e w' k => On.ret h k
theorem on_abytes (h : On A s w) (a k : Int) (ha : a ≤ 9223372036854775807) :
    Calls Tryz.prog 37 #[.pointer (some ⟨A, 0, none⟩), .int .i64 a, .int .i64 k] w (Gives (.tuple #[.string (byV s a k), .int .i64 (thereE s.L s.es a k)]) w) := by
  obtain ⟨P, ps, p, n, cap, h⟩ := h; exact bytes_any h a k ha
end
/-- a new arena -/
theorem on_new (c : Int) (w : World) : Calls Tryz.prog 9 #[.int .i64 c] w fun e w' => ∃ A, e = .returned (.pointer (some ⟨A, 0, none⟩)) ∧ w.heap.size ≤ A ∧ On A (newS (lenN c)) w' ∧ Base A w w' ∧ ∀ R, R < w.heap.size → Mine A R w' := by
  refine (arena_new c w).mono ?_
  rintro e w' ⟨A, P, he, hA, hP, hx, hb⟩
  have hO : ∀ k, OwnW A w' k → w.heap.size ≤ k := fun k hk => by
    rcases (ownW_iff hx k).1 hk with rfl | rfl | ⟨i, hi⟩
    · exact hA
    · exact hP
    · rw [List.getElem?_replicate] at hi; split at hi <;> cases hi
  refine ⟨A, he, hA, ⟨_, _, _, _, _, hx⟩, ⟨hb, hO, fun k hk => by obtain ⟨off, h3⟩ := (edgW_iff hx k).1 hk; cases h3⟩, fun R hR => ⟨Nat.lt_of_lt_of_le hR hb.size, fun ho => ?_, fun ho => ?_⟩⟩
  · have := hO R ho; omega
  · obtain ⟨off, h3⟩ := (edgW_iff hx R).1 ho; cases h3
end Go.Proofs.YtfemgekhpcgliaaGreat.Bt
/- Texts of the zero view. -/
namespace Go.Proofs.YtfemgekhpcgliaaGreat.Bt
open Go Go.RowKit Go.Shelf
set_option linter.unusedVariables false

end Go.Proofs.YtfemgekhpcgliaaGreat.Bt
/- Small laws on blocks of one's own, and on an arena beside them. -/
namespace Go.Proofs.YtfemgekhpcgliaaGreat.Bt
open Go Go.RowKit Go.Shelf
set_option linter.unusedVariables false

theorem below2 (w : World) (o o' : Obj) : Below w.heap.size w ((w.alloc o).alloc o') := ((Below.refl _ _).alloc (Nat.le_refl _) _).alloc (by simp) _
theorem pair_set {x : World} {B : Nat} {c : Array Value} {T : TypeId} (h : x.heap[B]? = some (.cells c T (0, 0))) (hc : c.size = 2) (u v : Value) :
    ((x.setCell ⟨B, 0, none⟩ u).setCell ⟨B, 1, none⟩ v).heap[B]? = some (.cells #[u, v] T (0, 0)) := by
  rw [heap_set (heap_set h u) v]
  match c, hc with
  | ⟨[_, _]⟩, _ => rfl
theorem heap_old2 (w : World) (o o' : Obj) : ((w.alloc o).alloc o').heap[w.heap.size + 1]? = some o' := by
  have h := heap_new (w.alloc o) o'
  rwa [show (w.alloc o).heap.size = w.heap.size + 1 from by simp] at h
/-- a block of two cells, kept by what comes -/
theorem pair_at {w w1 : World} {B : Nat} {u v : Value} {T : TypeId} (hb : Below w.heap.size w w1) (h : w.heap[B]? = some (.cells #[u, v] T (0, 0))) :
    w1.heap[B]? = some (.cells #[u, v] T (0, 0)) := (hb.block B (Array.getElem?_eq_some_iff.1 h).1).trans h
theorem bel1 (w : World) (o : Obj) : Below w.heap.size w (w.alloc o) := (Below.refl _ _).alloc (Nat.le_refl _) _
theorem pairs_new (x : World) (a b : Array Value) (T U : TypeId) : ((x.alloc (.cells a T)).alloc (.cells b U)).heap[x.heap.size]? = some (.cells a T (0, 0)) ∧ ((x.alloc (.cells a T)).alloc (.cells b U)).heap[x.heap.size + 1]? = some (.cells b U (0, 0)) :=
  ⟨(Below.heap_alloc _ _ _ (by simp)).trans (heap_new _ _), heap_old2 _ _ _⟩
/-- of bytes that are there, some -/
theorem there_part {L : Nat} {es : List Nat} (g : Good L es) {a n b k : Int} (h : thereE L es a n = 0) (h1 : a ≤ b) (h2 : 0 ≤ k) (h3 : b + k ≤ a + n) : thereE L es b k = 0 := by
  have hb : thereB L es a n = true := by unfold thereE at h; cases hq : thereB L es a n with
    | true => rfl
    | false => rw [hq] at h; cases h
  obtain ⟨t0, t1, t2, t3⟩ := (there_iff g a n).1 hb
  have : thereB L es b k = true := (there_iff g b k).2 ⟨by omega, h2, by omega, fun i i1 i2 => t3 i (by omega) (by omega)⟩
  unfold thereE; rw [this]; rfl
theorem heap_far2 {x : World} {B R : Nat} (hne : B ≠ R) (u v : Value) : ((x.setCell ⟨R, 0, none⟩ u).setCell ⟨R, 1, none⟩ v).heap[B]? = x.heap[B]? :=
  (Below.heap_setCell _ ⟨R, 1, none⟩ _ _ hne).trans (Below.heap_setCell _ ⟨R, 0, none⟩ _ _ hne)
theorem set3 {A R : Nat} {s : ASt} {w0 x : World} (h : On A s x) (hb : Base A w0 x) (hm : Mine A R x) (hR : w0.heap.size ≤ R) (u v z : Value) :
    On A s (((x.setCell ⟨R, 0, none⟩ u).setCell ⟨R, 1, none⟩ v).setCell ⟨R, 2, none⟩ z) ∧ Base A w0 (((x.setCell ⟨R, 0, none⟩ u).setCell ⟨R, 1, none⟩ v).setCell ⟨R, 2, none⟩ z) := by
  have h1 := h.set hm 0 u
  have b1 := hb.set h hm hR 0 u
  have m1 := Mine.set h hm hm 0 u
  have h2 := h1.set m1 1 v
  have b2 := b1.set h1 m1 hR 1 v
  have m2 := Mine.set h1 m1 m1 1 v
  exact ⟨h2.set m2 2 z, b2.set h2 m2 hR 2 z⟩
theorem awake4 (w : World) : Calls Tryz.prog 124 #[] w fun e w' => e = .returned (.bool true) ∧ Below w.heap.size w w' := by
  go_enter Tryz.func124, Tryz.ntmps124
  go_wp2_with fail
  refine (awake4_calls _).mono ?_
  rintro e w1 ⟨rfl, hb⟩
  go_wp2_with fail
  go_ret
  exact ⟨rfl, hb⟩
end Go.Proofs.YtfemgekhpcgliaaGreat.Bt
/- The contracts of a table's small functions: mayBegin, tagOf, code, Open, Len, Get. -/
namespace Go.Proofs.YtfemgekhpcgliaaGreat.Bt
open Go Go.RowKit Go.Shelf
set_option linter.unusedVariables false

def begB (s : Int) : Bool := decide (s = 2 ∨ s = 3)
theorem tbeg_any (s : Int) (w : World) : Calls Tryz.prog 116 #[.int .u8 s] w fun e w' => e = .returned (.bool (begB s)) ∧ w = w' := by
  by_cases h2 : s = 2
  · subst h2
    go_enter Tryz.func116, Tryz.ntmps116
    go_wp2_with fail
    go_ret
    exact ⟨rfl, rfl⟩
  · have d2 : (s == 2) = false := by simpa using h2
    by_cases h3 : s = 3
    · subst h3
      clear h2 d2
      go_enter Tryz.func116, Tryz.ntmps116
      go_wp2_with fail
      go_ret
      exact ⟨rfl, rfl⟩
    · have d3 : (s == 3) = false := by simpa using h3
      have HB : Hid (begB s = false) := Lib.hid (by unfold begB; simp [h2, h3])
      clear h2 h3
      go_enter Tryz.func116, Tryz.ntmps116
      go_wp2_with fail
      go_ret
      exact ⟨by rw [HB.out]; rfl, rfl⟩

/-- is a byte a tag? its state, its order -/
def tagB (c : Int) : Bool := decide (c / 4 ≤ 10) && (decide (c / 4 = 0) || begB (c % 4))
def tagS (c : Int) : Int := if tagB c then c % 4 else 0
def tagO (c : Int) : Int := if tagB c then c / 4 else 0
abbrev tagV (s o : Int) : Value := .agg #[.int .u8 s, .int .u8 o]
theorem tagS_b (c : Int) (h0 : 0 ≤ c) : 0 ≤ tagS c ∧ tagS c ≤ 3 := by unfold tagS; split <;> omega
theorem tagO_b (c : Int) (h0 : 0 ≤ c) : 0 ≤ tagO c ∧ tagO c ≤ 10 := by
  unfold tagO; split
  · rename_i h; unfold tagB at h; simp at h; omega
  · omega
set_option maxHeartbeats 1000000 in
theorem tagof_any (c : Int) (h0 : 0 ≤ c) (h1 : c ≤ 255) (w : World) :
    Calls Tryz.prog 129 #[.int .u8 c] w (Gives (tagV (tagS c) (tagO c)) w) := by
  by_cases h10 : c / 4 ≤ 10
  · by_cases hz : c / 4 ≤ 0
    · have HR : Hid (tagV (tagS c) (tagO c) = tagV (c % 4) (c / 4)) := Lib.hid (by
        have hb : tagB c = true := by unfold tagB; simp; omega
        unfold tagS tagO; rw [if_pos hb, if_pos hb])
      go_enter Tryz.func129, Tryz.ntmps129
      go_wp2_with fail
      exact bodyPost_ret (v := tagV (c % 4) (c / 4)) (by simp [results, Tryz.results129, go_sem]) rfl ⟨by rw [HR.out], below2 _ _ _⟩
    · cases hb : begB (c % 4) with
      | true =>
        have HR : Hid (tagV (tagS c) (tagO c) = tagV (c % 4) (c / 4)) := Lib.hid (by
          have hb : tagB c = true := by unfold tagB; rw [hb]; simp; omega
          unfold tagS tagO; rw [if_pos hb, if_pos hb])
        have HB := Lib.hid hb; clear hb
        go_enter Tryz.func129, Tryz.ntmps129
        go_wp2_with (go_at_call 116; refine (tbeg_any _ _).mono ?_; rintro e w' ⟨rfl, rfl⟩; rw [HB.out])
        exact bodyPost_ret (v := tagV (c % 4) (c / 4)) (by simp [results, Tryz.results129, go_sem]) rfl ⟨by rw [HR.out], below2 _ _ _⟩
      | false =>
        have HR : Hid (tagV (tagS c) (tagO c) = tagV 0 0) := Lib.hid (by
          have hb : tagB c = false := by unfold tagB; rw [hb]; simp; omega
          unfold tagS tagO; rw [hb]; rfl)
        have HB := Lib.hid hb; clear hb
        go_enter Tryz.func129, Tryz.ntmps129
        go_wp2_with (go_at_call 116; refine (tbeg_any _ _).mono ?_; rintro e w' ⟨rfl, rfl⟩; rw [HB.out])
        exact bodyPost_ret (v := tagV 0 0) (by simp [results, Tryz.results129, go_sem]) rfl ⟨by rw [HR.out], below2 _ _ _⟩
  · have HR : Hid (tagV (tagS c) (tagO c) = tagV 0 0) := Lib.hid (by
      have hb : tagB c = false := by unfold tagB; simp; omega
      unfold tagS tagO; rw [hb]; rfl)
    go_enter Tryz.func129, Tryz.ntmps129
    go_wp2_with fail
    exact bodyPost_ret (v := tagV 0 0) (by simp [results, Tryz.results129, go_sem]) rfl ⟨by rw [HR.out], below2 _ _ _⟩

/-- the byte that a tag is -/
def codeI (s o : Int) : Int := 4 * o + s
theorem code_bits (s o : Int) (hs : 0 ≤ s) (hs2 : s ≤ 3) (ho : 0 ≤ o) (ho2 : o ≤ 10) : bits BinOp.or IntKind.u8 (o * 4) s = codeI s o := by
  have h1 : s = 0 ∨ s = 1 ∨ s = 2 ∨ s = 3 := by omega
  have h2 : o = 0 ∨ o = 1 ∨ o = 2 ∨ o = 3 ∨ o = 4 ∨ o = 5 ∨ o = 6 ∨ o = 7 ∨ o = 8 ∨ o = 9 ∨ o = 10 := by omega
  rcases h1 with rfl | rfl | rfl | rfl <;> rcases h2 with rfl | rfl | rfl | rfl | rfl | rfl | rfl | rfl | rfl | rfl | rfl <;> decide
theorem tcode_any (s o : Int) (hs : 0 ≤ s) (hs2 : s ≤ 3) (ho : 0 ≤ o) (ho2 : o ≤ 10) (w : World) :
    Calls Tryz.prog 118 #[tagV s o] w (Gives (.int .u8 (codeI s o)) w) := by
  have HC := Lib.hid (code_bits s o hs hs2 ho ho2)
  go_enter Tryz.func118, Tryz.ntmps118
  go_wp2_with fail
  go_ret
  refine ⟨?_, (Below.refl _ _).alloc (Nat.le_refl _) _⟩
  rw [← HC.out]; rfl

abbrev tbP (pa : Option Addr) (va vs : Nat) : Value := .agg #[.pointer pa, .int .i64 (va : Int), .int .i64 (vs : Int)]
theorem topen_any (pa : Option Addr) (va vs : Nat) (w : World) : Calls Tryz.prog 95 #[.agg #[.pointer pa, .int .i64 (va : Int), .int .i64 (vs : Int)]] w (Gives (tbP pa va vs) w) := by
  go_enter Tryz.func95, Tryz.ntmps95
  go_wp2_with fail
  exact bodyPost_ret (v := tbP pa va vs) (by simp [results, Tryz.results95, go_sem]) rfl ⟨rfl, below2 _ _ _⟩
theorem tlen_any (pa : Option Addr) (va vs : Nat) (w : World) : Calls Tryz.prog 61 #[tbP pa va vs] w (Gives (.int .i64 (vs : Int)) w) := by
  go_enter Tryz.func61, Tryz.ntmps61
  go_wp2_with fail
  refine (vsize_any pa va vs _).mono ?_
  rintro e w1 ⟨rfl, hb⟩
  go_wp2_with fail
  go_ret
  exact ⟨rfl, ((Below.refl w.heap.size w).alloc (Nat.le_refl _) _).trans (hb.mono (by simp))⟩
set_option maxHeartbeats 1000000 in
theorem tget_gen (pa : Option Addr) (va vs : Nat) (i : Int) (w : World) (c er : Int) (h0 : 0 ≤ c) (h1 : c ≤ 255)
    (HC : ∀ X, Below w.heap.size w X → Calls Tryz.prog 49 #[.agg #[.pointer pa, .int .i64 (va : Int), .int .i64 (vs : Int)], .int .i64 i, .int .i64 1] X (Gives (.tuple #[.int .u64 c, .int .i64 er]) X)) :
    Calls Tryz.prog 99 #[tbP pa va vs, .int .i64 i] w (Gives (.tuple #[tagV (tagS c) (tagO c), .int .i64 er]) w) := by
  have HC' := Lib.hid HC; clear HC
  have HB := Lib.hid (below2 w (.cells #[.pointer pa, .int .i64 (va : Int), .int .i64 (vs : Int)] 43) (.cells #[.int .u8 0, .int .u8 0] 118))
  have HR := Lib.hid (heap_old2 w (.cells #[.pointer pa, .int .i64 (va : Int), .int .i64 (vs : Int)] 43) (.cells #[.int .u8 0, .int .u8 0] 118))
  go_enter Tryz.func99, Tryz.ntmps99
  go_wp2_with fail
  refine (HC'.out _ HB.out).mono ?_
  rintro e w1 ⟨rfl, hb⟩
  have HR1 := Lib.hid (pair_at hb HR.out)
  have HB1 := Lib.hid (HB.out.trans (hb.mono HB.out.size))
  clear hb HR HB HC'
  go_wp2_with fail
  refine (tagof_any c h0 h1 _).mono ?_
  rintro e w2 ⟨rfl, hb⟩
  have hr := pair_at hb HR1.out
  have HB2 := Lib.hid (HB1.out.trans (hb.mono HB1.out.size))
  have r0 := (cell_blk hr 0).1; have r1 := (cell_blk hr 1).1
  have f0 := (cell_blk hr 0).2; have f1 := (cell_blk hr 1).2
  have HR2 := Lib.hid hr
  clear hb HR1 HB1 hr
  go_wp2_with fail
  have h3 := pair_set HR2.out rfl (.int .u8 (tagS c)) (.int .u8 (tagO c))
  have g0 := (cell_blk h3 0).1; have g1 := (cell_blk h3 1).1
  exact bodyPost_ret (v := .tuple #[tagV (tagS c) (tagO c), .int .i64 er]) (by simp [results, Tryz.results99, go_sem, g0, g1]) rfl ⟨rfl, (HB2.out.setCell (p := ⟨w.heap.size + 1, 0, none⟩) (Nat.le_succ _) _).setCell (p := ⟨w.heap.size + 1, 1, none⟩) (Nat.le_succ _) _⟩
end Go.Proofs.YtfemgekhpcgliaaGreat.Bt
/- The contract of a table's Get and Lay. -/
namespace Go.Proofs.YtfemgekhpcgliaaGreat.Bt
open Go Go.RowKit Go.Shelf
set_option linter.unusedVariables false

def gE (s : ASt) (va vs : Nat) (i : Int) : Int := numE s.L s.es (addrV va vs i 1) 1
def gC (s : ASt) (va vs : Nat) (i : Int) : Int := ldV s (addrV va vs i 1) 1
theorem gC_b (s : ASt) (va vs : Nat) (i : Int) : 0 ≤ gC s va vs i ∧ gC s va vs i ≤ 255 := by
  unfold gC ldV
  split
  · have := numV_lt s.mm (addrV va vs i 1).toNat 1
    have e : (1 : Int).toNat = 1 := rfl
    rw [e]; omega
  · omega
/-- a table's variable -/
def VT (B : Nat) (pa : Option Addr) (va vs : Nat) (x : World) : Prop := x.heap[B]? = some (.cells #[.pointer pa, .int .i64 (va : Int), .int .i64 (vs : Int)] 43 (0, 0))
theorem VT.below {B : Nat} {pa : Option Addr} {va vs : Nat} {x y : World} (h : VT B pa va vs x) (hb : Below x.heap.size x y) : VT B pa va vs y := (hb.block _ (Array.getElem?_eq_some_iff.1 h).1).trans h
theorem VT.far {B R : Nat} {pa : Option Addr} {va vs : Nat} {x : World} (hne : B ≠ R) (h : VT B pa va vs x) (u v z : Value) : VT B pa va vs (((x.setCell ⟨R, 0, none⟩ u).setCell ⟨R, 1, none⟩ v).setCell ⟨R, 2, none⟩ z) :=
  (Below.heap_setCell _ ⟨R, 2, none⟩ _ _ hne).trans ((Below.heap_setCell _ ⟨R, 1, none⟩ _ _ hne).trans ((Below.heap_setCell _ ⟨R, 0, none⟩ _ _ hne).trans h))
theorem VT.all {B : Nat} {pa : Option Addr} {va vs : Nat} {x : World} (h : VT B pa va vs x) : x.cell? ⟨B, 0, none⟩ = some (.pointer pa) ∧ x.cell? ⟨B, 1, none⟩ = some (.int .i64 (va : Int)) ∧ x.cell? ⟨B, 2, none⟩ = some (.int .i64 (vs : Int)) ∧ VT B pa va vs x :=
  ⟨(cell_blk h 0).1, (cell_blk h 1).1, (cell_blk h 2).1, h⟩
section
variable {A : Nat} {s : ASt} {w : World}
theorem tget_on (h : On A s w) (va vs : Nat) (h1 : va ≤ 4294967296) (h2 : vs ≤ 4294967296) (i : Int) (hi : i ≤ 9223372036854775807) :
    Calls Tryz.prog 99 #[tbP (some ⟨A, 0, none⟩) va vs, .int .i64 i] w (Gives (.tuple #[tagV (tagS (gC s va vs i)) (tagO (gC s va vs i)), .int .i64 (gE s va vs i)]) w) :=
  tget_gen _ va vs i w _ _ (gC_b s va vs i).1 (gC_b s va vs i).2 fun X hX => on_load (h.below hX) va vs h1 h2 i 1 hi
theorem pow_n (on : Nat) (h : (on : Int) ≤ 10) : IntKind.i64.wrap ((2 : Int) ^ on) = ((2 ^ on : Nat) : Int) ∧ 1 ≤ 2 ^ on ∧ 2 ^ on ≤ 1024 := by
  have h2 : on = 0 ∨ on = 1 ∨ on = 2 ∨ on = 3 ∨ on = 4 ∨ on = 5 ∨ on = 6 ∨ on = 7 ∨ on = 8 ∨ on = 9 ∨ on = 10 := by omega
  rcases h2 with rfl | rfl | rfl | rfl | rfl | rfl | rfl | rfl | rfl | rfl | rfl <;> decide
/-- how many pages, where they begin, what Lay answers -/
def layA (va vs : Nat) (i : Int) (on : Nat) : Int := addrV va vs i (2 ^ on : Nat)
def layE (s : ASt) (va vs : Nat) (i : Int) (on : Nat) : Int := thereE s.L s.es (layA va vs i on) (2 ^ on : Nat)
end
end Go.Proofs.YtfemgekhpcgliaaGreat.Bt
/- The contract of a table's Lay where it lays. -/
namespace Go.Proofs.YtfemgekhpcgliaaGreat.Bt
open Go Go.RowKit Go.Shelf
set_option linter.unusedVariables false

/-- a view's variable and two tags -/
def LL (R T1 T2 A an N : Nat) (a b c d : Int) (x : World) : Prop := VC R (some ⟨A, 0, none⟩) an N x ∧ x.heap[T1]? = some (.cells #[.int .u8 a, .int .u8 b] 118 (0, 0)) ∧ x.heap[T2]? = some (.cells #[.int .u8 c, .int .u8 d] 118 (0, 0))
theorem LL.below {R T1 T2 A an N : Nat} {a b c d : Int} {x y : World} (h : LL R T1 T2 A an N a b c d x) (hb : Below x.heap.size x y) : LL R T1 T2 A an N a b c d y := ⟨h.1.below hb, pair_at hb h.2.1, pair_at hb h.2.2⟩
theorem LL.went {R T1 T2 A an N : Nat} {a b c d : Int} {x y : World} {s : ASt} (h : LL R T1 T2 A an N a b c d x) (ho : On A s x) (hg : Went A x y) : LL R T1 T2 A an N a b c d y :=
  ⟨hg.keep ho h.1 (by decide) (by decide) (by decide), hg.keep ho h.2.1 (by decide) (by decide) (by decide), hg.keep ho h.2.2 (by decide) (by decide) (by decide)⟩
theorem LL.all {R T1 T2 A an N : Nat} {a b c d : Int} {x : World} (h : LL R T1 T2 A an N a b c d x) :
    x.cell? ⟨R, 0, none⟩ = some (.pointer (some ⟨A, 0, none⟩)) ∧ x.cell? ⟨R, 1, none⟩ = some (.int .i64 (an : Int)) ∧ x.cell? ⟨R, 2, none⟩ = some (.int .i64 (N : Int)) ∧
    x.cell? ⟨T1, 0, none⟩ = some (.int .u8 a) ∧ x.cell? ⟨T1, 1, none⟩ = some (.int .u8 b) ∧ x.cell? ⟨T2, 0, none⟩ = some (.int .u8 c) ∧ x.cell? ⟨T2, 1, none⟩ = some (.int .u8 d) ∧ LL R T1 T2 A an N a b c d x :=
  ⟨(cell_blk h.1 0).1, (cell_blk h.1 1).1, (cell_blk h.1 2).1, (cell_blk h.2.1 0).1, (cell_blk h.2.1 1).1, (cell_blk h.2.2 0).1, (cell_blk h.2.2 1).1, h⟩
section
variable {A : Nat} {s : ASt} {w : World}
/-- what the table is behind a run that is laid -/
def layM (m : Nat → UInt8) (an N : Nat) (fs fo : Int) (os : UInt8) : Nat → UInt8 := putM (putM m an (List.replicate N os)) an (numB (codeI fs fo) 1)
def layS (s : ASt) (an N : Nat) (fs fo : Int) (os : UInt8) : ASt := { s with mm := layM s.mm an N fs fo os }
set_option maxRecDepth 100000 in
set_option maxHeartbeats 4000000 in
theorem tlay_yes (h : On A s w) (va vs : Nat) (h1 : va ≤ 4294967296) (h2 : vs ≤ 4294967296) (i st : Int) (on an N : Nat) (hi : i ≤ 9223372036854775807) (s2 : (on : Int) ≤ 10) (fs fo : Int) (os : UInt8)
    (hb : (begB st = true ∧ fs = st ∧ fo = on ∧ os = 1) ∨ (st = 0 ∧ fs = 0 ∧ fo = 0 ∧ os = 0)) (hNN : 2 ^ on = N) (han : layA va vs i on = an) (he : layE s va vs i on = 0) :
    Calls Tryz.prog 79 #[tbP (some ⟨A, 0, none⟩) va vs, .int .i64 i, .int .i64 on, .int .u8 st] w (Ret A (layS s an N fs fo os) (.int .i64 0) w) := by
  have s1 : 0 ≤ (on : Int) := by omega
  have HO := Lib.hid h
  obtain ⟨hN, hN1, hN2⟩ := pow_n on s2
  unfold layE at he
  rw [han] at he
  unfold layA at han
  rw [hNN] at hN hN1 hN2 han he
  have HE := Lib.hid he
  have HN := Lib.hid hN
  have HA := Lib.hid han
  have h3 : an ≤ 4294967296 := by
    have := addrV_le h1 h2 i N
    have hh := (there_iff h.good an N).1 (by unfold thereE at he; cases hq : thereB s.L s.es an N with
      | true => rfl
      | false => rw [hq] at he; cases he)
    have := h.good.small
    omega
  have h4 : N ≤ 4294967296 := by omega
  have hk : Hid ((begB st = true ∧ fs = st ∧ fo = on ∧ os = 1) ∨ (st = 0 ∧ fs = 0 ∧ fo = 0 ∧ os = 0)) := Lib.hid hb
  clear h he hN hNN han hb
  have HB := Lib.hid ((Below.refl w.heap.size w).alloc (Nat.le_refl _) (.cells #[.pointer (some ⟨A, 0, none⟩), .int .i64 (va : Int), .int .i64 (vs : Int)] 43))
  have H0 : Hid (begB 0 = false) := Lib.hid rfl
  have HV : Hid (∀ pu a k, ofV pu a k 0 = .agg #[.pointer pu, .int .i64 a, .int .i64 k]) := Lib.hid fun pu a k => by unfold ofV; rw [if_pos rfl]
  go_enter Tryz.func79, Tryz.ntmps79
  rcases hk.out with ⟨hb, rfl, rfl, rfl⟩ | ⟨rfl, rfl, rfl, rfl⟩
  rotate_left
  go_upto_region 5 with (go_at_call 116; refine (tbeg_any _ _).mono ?_; rintro e w' ⟨rfl, rfl⟩; rw [H0.out])
  rotate_left
  have k3 : fs = 2 ∨ fs = 3 := by unfold begB at hb; simpa using hb
  have d0 : (fs == 0) = false := by rcases k3 with rfl | rfl <;> rfl
  have k4 : 0 ≤ fs ∧ fs ≤ 3 := by omega
  obtain ⟨k5, k6⟩ := k4
  have KB := Lib.hid hb
  clear hb k3
  go_upto_region 5 with (go_at_call 116; refine (tbeg_any _ _).mono ?_; rintro e w' ⟨rfl, rfl⟩; rw [KB.out])
  all_goals
    have HH : VT w.heap.size (some ⟨A, 0, none⟩) va vs (w.alloc (.cells #[.pointer (some ⟨A, 0, none⟩), .int .i64 (va : Int), .int .i64 (vs : Int)] 43)) := heap_new _ _
    obtain ⟨w1, hw1⟩ : ∃ w1, w.alloc (.cells #[.pointer (some ⟨A, 0, none⟩), .int .i64 (va : Int), .int .i64 (vs : Int)] 43) = w1 := ⟨_, rfl⟩
    rw [hw1] at HH HB ⊢
    clear hw1 hk
    obtain ⟨B, hB⟩ : ∃ B, w.heap.size = B := ⟨_, rfl⟩
    rw [hB] at HH ⊢
    clear hB
    have hs1 := Lib.hid (show B < w1.heap.size from (Array.getElem?_eq_some_iff.1 HH).1)
    go_region_held3 (fun x => x.cell? ⟨B, 0, none⟩ = some (.pointer (some ⟨A, 0, none⟩)) ∧ x.cell? ⟨B, 1, none⟩ = some (.int .i64 (va : Int)) ∧ x.cell? ⟨B, 2, none⟩ = some (.int .i64 (vs : Int)) ∧ VT B (some ⟨A, 0, none⟩) va vs x)
      (first | exact (HH.below (Below.refl _ _).drew).all | exact (HH.below ((bel1 w1 (.cells #[.pointer none, .int .i64 0, .int .i64 0] 40)).drew)).all | assumption)
      (first | (go_at_call 93; rw [HN.out]; refine (on_part (HO.out.below ((HB.out.drew).mono (Nat.le_refl _))) va vs h1 h2 i N hi).mono ?_; rintro e w' ⟨rfl, hbb⟩; rw [HA.out, HE.out, HV.out]; have hnx := ((HH.below (Below.refl _ _).drew).below hbb).all; have hbw := (HB.out.drew).trans (hbb.mono HB.out.size); have hnz := (hnx.2.2.2.below (bel1 w' (.cells #[.pointer none, .int .i64 0, .int .i64 0] 40))).all; have hnv := (hnx.2.2.2.below (bel1 w' (.cells #[.pointer (some ⟨A, 0, none⟩), .int .i64 (an : Int), .int .i64 (N : Int)] 40))).all)
             | (go_at_call 93; rw [HN.out]; refine (on_part (HO.out.below (((HB.out.alloc HB.out.size (.cells #[.pointer none, .int .i64 0, .int .i64 0] 40)).drew).mono (Nat.le_refl _))) va vs h1 h2 i N hi).mono ?_; rintro e w' ⟨rfl, hbb⟩; rw [HA.out, HE.out, HV.out]; have hnx := ((HH.below ((bel1 w1 (.cells #[.pointer none, .int .i64 0, .int .i64 0] 40)).drew)).below hbb).all; have hbw := ((HB.out.alloc HB.out.size (.cells #[.pointer none, .int .i64 0, .int .i64 0] 40)).drew).trans (hbb.mono (HB.out.alloc HB.out.size (.cells #[.pointer none, .int .i64 0, .int .i64 0] 40)).size); have hR := (hbb.block w1.heap.size (by simp)).trans (heap_new w1 (.cells #[.pointer none, .int .i64 0, .int .i64 0] 40)); have r0 := (cell_blk hR 0).1; have r1 := (cell_blk hR 1).1; have r2 := (cell_blk hR 2).1; have f0 := (cell_blk hR 0).2; have f1 := (cell_blk hR 1).2; have f2 := (cell_blk hR 2).2; have hnz := (VT.far (R := w1.heap.size) (Nat.ne_of_lt hs1.out) hnx.2.2.2 (.pointer (some ⟨A, 0, none⟩)) (.int .i64 (an : Int)) (.int .i64 (N : Int))).all; have HR2 := Lib.hid hR; clear hR))
    all_goals
      have HBW := Lib.hid hbw
      clear HH hnx hnz hbw hbb
      first
        | (have VR : VC w'.heap.size (some ⟨A, 0, none⟩) an N (w'.alloc (.cells #[.pointer (some ⟨A, 0, none⟩), .int .i64 (an : Int), .int .i64 (N : Int)] 40)) := heap_new _ _
           have HBF := Lib.hid (HBW.out.alloc HBW.out.size (.cells #[.pointer (some ⟨A, 0, none⟩), .int .i64 (an : Int), .int .i64 (N : Int)] 40))
           obtain ⟨wF, hwF⟩ : ∃ x, w'.alloc (.cells #[.pointer (some ⟨A, 0, none⟩), .int .i64 (an : Int), .int .i64 (N : Int)] 40) = x := ⟨_, rfl⟩
           obtain ⟨R, hRR⟩ : ∃ x, w'.heap.size = x := ⟨_, rfl⟩
           rw [hwF] at VR HBF ⊢
           rw [hRR] at VR ⊢
           clear hwF hRR)
        | (have VR : VC w1.heap.size (some ⟨A, 0, none⟩) an N _ := three_set HR2.out rfl (.pointer (some ⟨A, 0, none⟩)) (.int .i64 (an : Int)) (.int .i64 (N : Int))
           have HBF := Lib.hid (((HBW.out.setCell (p := ⟨w1.heap.size, 0, none⟩) HB.out.size (.pointer (some ⟨A, 0, none⟩))).setCell (p := ⟨w1.heap.size, 1, none⟩) HB.out.size (.int .i64 (an : Int))).setCell (p := ⟨w1.heap.size, 2, none⟩) HB.out.size (.int .i64 (N : Int)))
           obtain ⟨wF, hwF⟩ : ∃ x, (((w'.setCell ⟨w1.heap.size, 0, none⟩ (.pointer (some ⟨A, 0, none⟩))).setCell ⟨w1.heap.size, 1, none⟩ (.int .i64 (an : Int))).setCell ⟨w1.heap.size, 2, none⟩ (.int .i64 (N : Int))) = x := ⟨_, rfl⟩
           obtain ⟨R, hRR⟩ : ∃ x, w1.heap.size = x := ⟨_, rfl⟩
           rw [hwF] at VR HBF ⊢
           rw [hRR] at VR ⊢
           clear hwF hRR r0 r1 r2 f0 f1 f2)
      go_upto_region 11 with fail
      first
        | (have bF2 := Lib.hid (below2 wF (.cells #[.int .u8 fs, .int .u8 (on : Int)] 118) (.cells #[.int .u8 1, .int .u8 0] 118))
           obtain ⟨q1, q2⟩ := pairs_new wF #[.int .u8 fs, .int .u8 (on : Int)] #[.int .u8 1, .int .u8 0] 118 118
           have HL : LL R wF.heap.size (wF.heap.size + 1) A an N fs (on : Int) 1 0 _ := ⟨VR.below bF2.out, q1, q2⟩
           obtain ⟨wG, hwG⟩ : ∃ x, (wF.alloc (.cells #[.int .u8 fs, .int .u8 (on : Int)] 118)).alloc (.cells #[.int .u8 1, .int .u8 0] 118) = x := ⟨_, rfl⟩
           rw [hwG] at HL bF2 ⊢
           clear hwG q1 q2 VR
           have HC2 : Hid (codeI 1 0 = (((1 : UInt8).toNat : Nat) : Int)) := Lib.hid rfl
           have HBG := Lib.hid (HBF.out.trans (bF2.out.mono HBF.out.size))
           obtain ⟨T1, hT1⟩ : ∃ x, wF.heap.size = x := ⟨_, rfl⟩
           obtain ⟨T2, hT2⟩ : ∃ x, T1 + 1 = x := ⟨_, rfl⟩
           rw [hT1] at HL ⊢
           rw [hT2] at HL ⊢
           clear hT1 hT2 HBF bF2
           have hA1 : Hid (addrV an N 0 N = (an : Int)) := Lib.hid (by unfold addrV; rw [if_pos (by omega)]; omega)
           have hA2 : Hid (addrV an N 0 1 = (an : Int)) := Lib.hid (by unfold addrV; rw [if_pos (by omega)]; omega)
           have HOG := Lib.hid (HO.out.below HBG.out)
           go_region_held3 (fun x => x.cell? ⟨R, 0, none⟩ = some (.pointer (some ⟨A, 0, none⟩)) ∧ x.cell? ⟨R, 1, none⟩ = some (.int .i64 (an : Int)) ∧ x.cell? ⟨R, 2, none⟩ = some (.int .i64 (N : Int)) ∧ x.cell? ⟨T1, 0, none⟩ = some (.int .u8 fs) ∧ x.cell? ⟨T1, 1, none⟩ = some (.int .u8 (on : Int)) ∧ x.cell? ⟨T2, 0, none⟩ = some (.int .u8 1) ∧ x.cell? ⟨T2, 1, none⟩ = some (.int .u8 0) ∧ LL R T1 T2 A an N fs (on : Int) 1 0 x)
             (first | exact (HL.below (Below.refl _ _).drew).all | assumption)
             (first | (go_at_call 105; refine (vsize_any (some ⟨A, 0, none⟩) an N _).mono ?_; rintro e x1 ⟨rfl, hb1⟩; have g1 := (HOG.out.below (Below.refl _ _).drew).below hb1; have k1 := ((HL.below (Below.refl _ _).drew).below hb1).all; have W1 := (Went.of_below HO.out (HBG.out.trans (((Below.refl _ _).drew.trans hb1).mono HBG.out.size))))
                    | (go_at_call 118; refine (tcode_any _ _ (by omega) (by omega) (by omega) (by omega) _).mono ?_; rintro e x2 ⟨rfl, hb2⟩; rw [HC2.out]; have g2 := g1.below hb2; have k2 := (k1.2.2.2.2.2.2.2.below hb2).all; have W2 := W1.trans (Went.of_below g1 hb2))
                    | (go_at_call 117; refine (on_fill g2 an N h3 h4 0 N (by omega) 1).mono ?_; rintro e x3 ⟨rfl, g3, hw3⟩; rw [hA1.out] at g3 ⊢; rw [HE.out]; have k3 := (k2.2.2.2.2.2.2.2.went g2 hw3).all; have W3 := W2.trans hw3))
           have HL3 := k3.2.2.2.2.2.2.2
           have HG3 := Lib.hid g3
           have HW3 := Lib.hid W3
           clear HL k1 k2 k3 g1 g2 g3 W1 W2 W3 hw3 HOG
           go_wp2_with fail
           have hfs : fillS s (an : Int) (N : Int) 1 = { s with mm := putM s.mm an (List.replicate N 1) } := by
             unfold fillS; rw [HE.out, if_pos rfl, Int.toNat_natCast, Int.toNat_natCast]
           rw [hfs] at HG3
           have hn1 : numE s.L s.es (an : Int) 1 = 0 := by
             have hg := HO.out.good
             have := there_part hg HE.out (b := (an : Int)) (k := 1) (by omega) (by omega) (by omega)
             unfold numE; rw [show wholeB 1 = true from rfl, if_pos rfl, this]
           have hst : storeS { s with mm := putM s.mm an (List.replicate N 1) } (an : Int) 1 (codeI fs (on : Int)) = layS s an N fs (on : Int) 1 := by
             unfold storeS; rw [show numE ({ s with mm := putM s.mm an (List.replicate N 1) } : ASt).L ({ s with mm := putM s.mm an (List.replicate N 1) } : ASt).es (an : Int) 1 = 0 from hn1, if_pos rfl, Int.toNat_natCast]; rfl
           have HN1 := Lib.hid hn1; have HST := Lib.hid hst
           have HWR : Hid (IntKind.u64.wrap (codeI fs (on : Int)) = codeI fs (on : Int)) := Lib.hid (by have := IntKind.wrap_u64 (codeI fs (on : Int)); unfold codeI at *; omega)
           have hc0 : 0 ≤ codeI fs (on : Int) := by unfold codeI; omega
           clear hfs hn1 hst
           go_region_held3 (fun x => x.cell? ⟨R, 0, none⟩ = some (.pointer (some ⟨A, 0, none⟩)) ∧ x.cell? ⟨R, 1, none⟩ = some (.int .i64 (an : Int)) ∧ x.cell? ⟨R, 2, none⟩ = some (.int .i64 (N : Int)) ∧ x.cell? ⟨T1, 0, none⟩ = some (.int .u8 fs) ∧ x.cell? ⟨T1, 1, none⟩ = some (.int .u8 (on : Int)) ∧ x.cell? ⟨T2, 0, none⟩ = some (.int .u8 1) ∧ x.cell? ⟨T2, 1, none⟩ = some (.int .u8 0) ∧ LL R T1 T2 A an N fs (on : Int) 1 0 x)
             (first | exact (HL3.below (Below.refl _ _).drew).all | assumption)
             (first | (go_at_call 118; refine (tcode_any _ _ (by omega) (by omega) (by omega) (by omega) _).mono ?_; rintro e x4 ⟨rfl, hb4⟩; have g4 := (HG3.out.below (Below.refl _ _).drew).below hb4; have k4 := ((HL3.below (Below.refl _ _).drew).below hb4).all; have W4 := (HW3.out.trans (Went.of_below HG3.out ((Below.refl _ _).drew.trans hb4))))
                    | (go_at_call 46; rw [HWR.out]; refine (on_store g4 an N h3 h4 0 1 _ (by omega) hc0).mono ?_; rintro e x5 ⟨rfl, g5, hw5⟩; rw [hA2.out] at g5 ⊢; rw [HST.out] at g5; have k5 := (k4.2.2.2.2.2.2.2.went g4 hw5).all; have W5 := W4.trans hw5))
           have HF := Lib.hid (And.intro g5 W5)
           clear HL3 k4 k5 g4 g5 W4 W5 hw5
           have hNN : numE ({ s with mm := putM s.mm an (List.replicate N 1) } : ASt).L ({ s with mm := putM s.mm an (List.replicate N 1) } : ASt).es (an : Int) 1 = 0 := HN1.out
           rw [hNN]
           go_wp2_with fail
           go_ret
           exact ⟨rfl, HF.out.1, HF.out.2⟩)
        | (have bF2 := Lib.hid (below2 wF (.cells #[.int .u8 0, .int .u8 0] 118) (.cells #[.int .u8 0, .int .u8 0] 118))
           obtain ⟨q1, q2⟩ := pairs_new wF #[.int .u8 0, .int .u8 0] #[.int .u8 0, .int .u8 0] 118 118
           have HL : LL R wF.heap.size (wF.heap.size + 1) A an N 0 0 0 0 _ := ⟨VR.below bF2.out, q1, q2⟩
           obtain ⟨wG, hwG⟩ : ∃ x, (wF.alloc (.cells #[.int .u8 0, .int .u8 0] 118)).alloc (.cells #[.int .u8 0, .int .u8 0] 118) = x := ⟨_, rfl⟩
           rw [hwG] at HL bF2 ⊢
           clear hwG q1 q2 VR
           have HC2 : Hid (codeI 0 0 = (((0 : UInt8).toNat : Nat) : Int)) := Lib.hid rfl
           have HBG := Lib.hid (HBF.out.trans (bF2.out.mono HBF.out.size))
           obtain ⟨T1, hT1⟩ : ∃ x, wF.heap.size = x := ⟨_, rfl⟩
           obtain ⟨T2, hT2⟩ : ∃ x, T1 + 1 = x := ⟨_, rfl⟩
           rw [hT1] at HL ⊢
           rw [hT2] at HL ⊢
           clear hT1 hT2 HBF bF2
           have hA1 : Hid (addrV an N 0 N = (an : Int)) := Lib.hid (by unfold addrV; rw [if_pos (by omega)]; omega)
           have hA2 : Hid (addrV an N 0 1 = (an : Int)) := Lib.hid (by unfold addrV; rw [if_pos (by omega)]; omega)
           have HOG := Lib.hid (HO.out.below HBG.out)
           go_region_held3 (fun x => x.cell? ⟨R, 0, none⟩ = some (.pointer (some ⟨A, 0, none⟩)) ∧ x.cell? ⟨R, 1, none⟩ = some (.int .i64 (an : Int)) ∧ x.cell? ⟨R, 2, none⟩ = some (.int .i64 (N : Int)) ∧ x.cell? ⟨T1, 0, none⟩ = some (.int .u8 0) ∧ x.cell? ⟨T1, 1, none⟩ = some (.int .u8 0) ∧ x.cell? ⟨T2, 0, none⟩ = some (.int .u8 0) ∧ x.cell? ⟨T2, 1, none⟩ = some (.int .u8 0) ∧ LL R T1 T2 A an N 0 0 0 0 x)
             (first | exact (HL.below (Below.refl _ _).drew).all | assumption)
             (first | (go_at_call 105; refine (vsize_any (some ⟨A, 0, none⟩) an N _).mono ?_; rintro e x1 ⟨rfl, hb1⟩; have g1 := (HOG.out.below (Below.refl _ _).drew).below hb1; have k1 := ((HL.below (Below.refl _ _).drew).below hb1).all; have W1 := (Went.of_below HO.out (HBG.out.trans (((Below.refl _ _).drew.trans hb1).mono HBG.out.size))))
                    | (go_at_call 118; refine (tcode_any _ _ (by omega) (by omega) (by omega) (by omega) _).mono ?_; rintro e x2 ⟨rfl, hb2⟩; rw [HC2.out]; have g2 := g1.below hb2; have k2 := (k1.2.2.2.2.2.2.2.below hb2).all; have W2 := W1.trans (Went.of_below g1 hb2))
                    | (go_at_call 117; refine (on_fill g2 an N h3 h4 0 N (by omega) 0).mono ?_; rintro e x3 ⟨rfl, g3, hw3⟩; rw [hA1.out] at g3 ⊢; rw [HE.out]; have k3 := (k2.2.2.2.2.2.2.2.went g2 hw3).all; have W3 := W2.trans hw3))
           have HL3 := k3.2.2.2.2.2.2.2
           have HG3 := Lib.hid g3
           have HW3 := Lib.hid W3
           clear HL k1 k2 k3 g1 g2 g3 W1 W2 W3 hw3 HOG
           go_wp2_with fail
           have hfs : fillS s (an : Int) (N : Int) 0 = { s with mm := putM s.mm an (List.replicate N 0) } := by
             unfold fillS; rw [HE.out, if_pos rfl, Int.toNat_natCast, Int.toNat_natCast]
           rw [hfs] at HG3
           have hn1 : numE s.L s.es (an : Int) 1 = 0 := by
             have hg := HO.out.good
             have := there_part hg HE.out (b := (an : Int)) (k := 1) (by omega) (by omega) (by omega)
             unfold numE; rw [show wholeB 1 = true from rfl, if_pos rfl, this]
           have hst : storeS { s with mm := putM s.mm an (List.replicate N 0) } (an : Int) 1 (codeI 0 0) = layS s an N 0 0 0 := by
             unfold storeS; rw [show numE ({ s with mm := putM s.mm an (List.replicate N 0) } : ASt).L ({ s with mm := putM s.mm an (List.replicate N 0) } : ASt).es (an : Int) 1 = 0 from hn1, if_pos rfl, Int.toNat_natCast]; rfl
           have HN1 := Lib.hid hn1; have HST := Lib.hid hst
           have HWR : Hid (IntKind.u64.wrap (codeI 0 0) = codeI 0 0) := Lib.hid (by have := IntKind.wrap_u64 (codeI 0 0); unfold codeI at *; omega)
           have hc0 : 0 ≤ codeI 0 0 := by unfold codeI; omega
           clear hfs hn1 hst
           go_region_held3 (fun x => x.cell? ⟨R, 0, none⟩ = some (.pointer (some ⟨A, 0, none⟩)) ∧ x.cell? ⟨R, 1, none⟩ = some (.int .i64 (an : Int)) ∧ x.cell? ⟨R, 2, none⟩ = some (.int .i64 (N : Int)) ∧ x.cell? ⟨T1, 0, none⟩ = some (.int .u8 0) ∧ x.cell? ⟨T1, 1, none⟩ = some (.int .u8 0) ∧ x.cell? ⟨T2, 0, none⟩ = some (.int .u8 0) ∧ x.cell? ⟨T2, 1, none⟩ = some (.int .u8 0) ∧ LL R T1 T2 A an N 0 0 0 0 x)
             (first | exact (HL3.below (Below.refl _ _).drew).all | assumption)
             (first | (go_at_call 118; refine (tcode_any _ _ (by omega) (by omega) (by omega) (by omega) _).mono ?_; rintro e x4 ⟨rfl, hb4⟩; have g4 := (HG3.out.below (Below.refl _ _).drew).below hb4; have k4 := ((HL3.below (Below.refl _ _).drew).below hb4).all; have W4 := (HW3.out.trans (Went.of_below HG3.out ((Below.refl _ _).drew.trans hb4))))
                    | (go_at_call 46; rw [HWR.out]; refine (on_store g4 an N h3 h4 0 1 _ (by omega) hc0).mono ?_; rintro e x5 ⟨rfl, g5, hw5⟩; rw [hA2.out] at g5 ⊢; rw [HST.out] at g5; have k5 := (k4.2.2.2.2.2.2.2.went g4 hw5).all; have W5 := W4.trans hw5))
           have HF := Lib.hid (And.intro g5 W5)
           clear HL3 k4 k5 g4 g5 W4 W5 hw5
           have hNN : numE ({ s with mm := putM s.mm an (List.replicate N 0) } : ASt).L ({ s with mm := putM s.mm an (List.replicate N 0) } : ASt).es (an : Int) 1 = 0 := HN1.out
           rw [hNN]
           go_wp2_with fail
           go_ret
           exact ⟨rfl, HF.out.1, HF.out.2⟩)
end
end Go.Proofs.YtfemgekhpcgliaaGreat.Bt
/- The contract of a table's Run. -/
namespace Go.Proofs.YtfemgekhpcgliaaGreat.Bt
open Go Go.RowKit Go.Shelf
set_option linter.unusedVariables false

/-- the first page from n - 1 on downwards that isn't so -/
def dnN (ins : Int → Bool) : Nat → Int
  | 0 => -1
  | n + 1 => if ins n then dnN ins n else n
def insI (c : Int → Int) (j : Int) : Bool := decide (tagS (c j) = 1)
def runF (c : Int → Int) (i : Int) : Int := dnN (insI c) (i.toNat + 1)
def runOk (c : Int → Int) (i : Int) : Bool := begB (tagS (c (runF c i))) && decide (i - runF c i < ((2 ^ (tagO (c (runF c i))).toNat : Nat) : Int))
def runV (c : Int → Int) (i : Int) : Value := if runOk c i then .tuple #[.int .i64 (runF c i), tagV (tagS (c (runF c i))) (tagO (c (runF c i))), .int .i64 0] else .tuple #[.int .i64 0, tagV 0 0, .int .i64 8]
theorem gC_neg (s : ASt) (va vs : Nat) {i : Int} (hi : i < 0) : gC s va vs i = 0 := by
  unfold gC
  have : addrV va vs i 1 = -1 := by unfold addrV; rw [if_neg (by omega)]
  rw [this]
  unfold ldV
  rw [if_neg]
  unfold numE; rw [show wholeB 1 = true from rfl, if_pos rfl]
  unfold thereE thereB
  rw [show decide (0 ≤ (-1 : Int) ∧ (0 : Int) ≤ 1 ∧ (1 : Int) ≤ (s.L : Int) * 4096 - -1) = false from by simp, Bool.false_and, if_neg (by decide)]
  decide
/-- a table's variable, and two tags -/
structure RR (B R T : Nat) (pa : Option Addr) (va vs : Nat) (a b c d : Int) (x : World) : Prop where
  v : VT B pa va vs x
  r : x.heap[R]? = some (.cells #[.int .u8 a, .int .u8 b] 118 (0, 0))
  t : x.heap[T]? = some (.cells #[.int .u8 c, .int .u8 d] 118 (0, 0))
  br : B ≠ R
  bt : B ≠ T
  rt : R ≠ T
theorem RR.below {B R T : Nat} {pa : Option Addr} {va vs : Nat} {a b c d : Int} {x y : World} (h : RR B R T pa va vs a b c d x) (hb : Below x.heap.size x y) : RR B R T pa va vs a b c d y :=
  { h with v := h.v.below hb, r := pair_at hb h.r, t := pair_at hb h.t }
theorem RR.all {B R T : Nat} {pa : Option Addr} {va vs : Nat} {a b c d : Int} {x : World} (h : RR B R T pa va vs a b c d x) :
    x.cell? ⟨B, 0, none⟩ = some (.pointer pa) ∧ x.cell? ⟨B, 1, none⟩ = some (.int .i64 (va : Int)) ∧ x.cell? ⟨B, 2, none⟩ = some (.int .i64 (vs : Int)) ∧
    x.cell? ⟨R, 0, none⟩ = some (.int .u8 a) ∧ x.cell? ⟨R, 1, none⟩ = some (.int .u8 b) ∧ x.cell? ⟨T, 0, none⟩ = some (.int .u8 c) ∧ x.cell? ⟨T, 1, none⟩ = some (.int .u8 d) ∧
    x.frozen? ⟨R, 0, none⟩ = false ∧ x.frozen? ⟨R, 1, none⟩ = false ∧ x.frozen? ⟨T, 0, none⟩ = false ∧ x.frozen? ⟨T, 1, none⟩ = false :=
  ⟨(cell_blk h.v 0).1, (cell_blk h.v 1).1, (cell_blk h.v 2).1, (cell_blk h.r 0).1, (cell_blk h.r 1).1, (cell_blk h.t 0).1, (cell_blk h.t 1).1, (cell_blk h.r 0).2, (cell_blk h.r 1).2, (cell_blk h.t 0).2, (cell_blk h.t 1).2⟩
theorem RR.setT {B R T : Nat} {pa : Option Addr} {va vs : Nat} {a b c d : Int} {x : World} (h : RR B R T pa va vs a b c d x) (u v : Int) :
    RR B R T pa va vs a b u v ((x.setCell ⟨T, 0, none⟩ (.int .u8 u)).setCell ⟨T, 1, none⟩ (.int .u8 v)) :=
  { h with v := (heap_far2 h.bt _ _).trans h.v, r := (heap_far2 h.rt _ _).trans h.r, t := pair_set h.t rfl _ _ }
theorem RR.setR {B R T : Nat} {pa : Option Addr} {va vs : Nat} {a b c d : Int} {x : World} (h : RR B R T pa va vs a b c d x) (u v : Int) :
    RR B R T pa va vs u v c d ((x.setCell ⟨R, 0, none⟩ (.int .u8 u)).setCell ⟨R, 1, none⟩ (.int .u8 v)) :=
  { h with v := (heap_far2 h.br _ _).trans h.v, r := pair_set h.r rfl _ _, t := (heap_far2 (Ne.symm h.rt) _ _).trans h.t }
theorem rr_new (pa : Option Addr) (va vs : Nat) (w w1 : World) (c d : Int) (hb : Below ((w.alloc (.cells #[.pointer pa, .int .i64 (va : Int), .int .i64 (vs : Int)] 43)).alloc (.cells #[.int .u8 0, .int .u8 0] 118)).heap.size ((w.alloc (.cells #[.pointer pa, .int .i64 (va : Int), .int .i64 (vs : Int)] 43)).alloc (.cells #[.int .u8 0, .int .u8 0] 118)) w1) :
    RR w.heap.size (w.heap.size + 1) w1.heap.size pa va vs 0 0 c d (w1.alloc (.cells #[.int .u8 c, .int .u8 d] 118)) ∧ Below w.heap.size w (w1.alloc (.cells #[.int .u8 c, .int .u8 d] 118)) := by
  obtain ⟨q1, q2⟩ := pairs_new w #[.pointer pa, .int .i64 (va : Int), .int .i64 (vs : Int)] #[.int .u8 0, .int .u8 0] 43 118
  have hs := hb.size
  simp at hs
  refine ⟨⟨VT.below (VT.below q1 hb) (bel1 _ _), pair_at (bel1 _ _) (pair_at hb q2), heap_new _ _, by omega, by omega, by omega⟩, ?_⟩
  exact ((below2 w _ _).trans (hb.mono (by simp; omega))).alloc (by omega) _
section
variable {A : Nat} {s : ASt} {w : World}
theorem trun_err (pa : Option Addr) (va vs : Nat) (i c d er : Int) (hne : er ≠ 0)
    (HC : ∀ X, Below w.heap.size w X → Calls Tryz.prog 99 #[tbP pa va vs, .int .i64 i] X (Gives (.tuple #[tagV c d, .int .i64 er]) X)) :
    Calls Tryz.prog 81 #[tbP pa va vs, .int .i64 i] w (Gives (.tuple #[.int .i64 0, tagV 0 0, .int .i64 er]) w) := by
  have d1 : (er != 0) = true := by simpa using hne
  have HC' := Lib.hid HC
  clear hne HC
  go_enter Tryz.func81, Tryz.ntmps81
  go_wp2_with fail
  refine (HC'.out _ (below2 _ _ _)).mono ?_
  rintro e w1 ⟨rfl, hb⟩
  have HR := Lib.hid (rr_new pa va vs w w1 c d hb)
  obtain ⟨c0, c1, c2, c3, c4, c5, c6, f3, f4, f5, f6⟩ := HR.out.1.all
  clear hb
  go_wp2_with fail
  have h3 := (HR.out.1.setR 0 0).r
  have g0 := (cell_blk h3 0).1; have g1 := (cell_blk h3 1).1
  exact bodyPost_ret (v := .tuple #[.int .i64 0, tagV 0 0, .int .i64 er]) (by simp [results, Tryz.results81, go_sem, g0, g1]) rfl ⟨rfl, (HR.out.2.setCell (p := ⟨w.heap.size + 1, 0, none⟩) (Nat.le_succ _) _).setCell (p := ⟨w.heap.size + 1, 1, none⟩) (Nat.le_succ _) _⟩
theorem trun_bad (h : On A s w) (va vs : Nat) (h1 : va ≤ 4294967296) (h2 : vs ≤ 4294967296) (i : Int) (hi : i ≤ 9223372036854775807) (he : gE s va vs i ≠ 0) :
    Calls Tryz.prog 81 #[tbP (some ⟨A, 0, none⟩) va vs, .int .i64 i] w (Gives (.tuple #[.int .i64 0, tagV 0 0, .int .i64 (gE s va vs i)]) w) :=
  trun_err _ va vs i _ _ _ he fun X hX => tget_on (h.below hX) va vs h1 h2 i hi
theorem gE_lt {va vs : Nat} {i : Int} (he : gE s va vs i = 0) : 0 ≤ i ∧ i < vs := by
  by_cases h : 0 ≤ i ∧ (0 : Int) ≤ 1 ∧ 1 ≤ (vs : Int) - i
  · omega
  · exfalso
    have ha : addrV va vs i 1 = -1 := by unfold addrV; rw [if_neg h]
    unfold gE at he
    rw [ha] at he
    unfold numE at he
    rw [show wholeB 1 = true from rfl, if_pos rfl] at he
    unfold thereE thereB at he
    rw [show decide (0 ≤ (-1 : Int) ∧ (0 : Int) ≤ 1 ∧ (1 : Int) ≤ (s.L : Int) * 4096 - -1) = false from by simp, Bool.false_and, if_neg (by decide)] at he
    exact absurd he (by decide)
set_option maxRecDepth 100000 in
set_option maxHeartbeats 2000000 in
theorem trun_on (h : On A s w) (va vs : Nat) (h1 : va ≤ 4294967296) (h2 : vs ≤ 4294967296) (i : Int) (hi : i ≤ 9223372036854775807) (h0 : 0 ≤ i) (he : gE s va vs i = 0) :
    Calls Tryz.prog 81 #[tbP (some ⟨A, 0, none⟩) va vs, .int .i64 i] w (Gives (runV (gC s va vs) i) w) := by
  have hlt := gE_lt he
  have HG := Lib.hid fun X (hX : On A s X) (j : Int) (hj : j ≤ 9223372036854775807) => tget_on hX va vs h1 h2 j hj
  have HO := Lib.hid h
  have HE := Lib.hid he
  have HN := Lib.hid fun (j : Int) (hj : j < 0) => gC_neg s va vs hj
  have HCB := Lib.hid fun j => gC_b s va vs j
  have HF := Lib.hid (show runF (gC s va vs) i = dnN (insI (gC s va vs)) (i.toNat + 1) from rfl)
  generalize gC s va vs = c at *
  clear h he
  obtain ⟨n, rfl⟩ : ∃ n : Nat, i = n := ⟨i.toNat, by omega⟩
  go_enter Tryz.func81, Tryz.ntmps81
  go_wp2_with fail
  have HB := Lib.hid (below2 w (.cells #[.pointer (some ⟨A, 0, none⟩), .int .i64 (va : Int), .int .i64 (vs : Int)] 43) (.cells #[.int .u8 0, .int .u8 0] 118))
  refine (HG.out _ (HO.out.below HB.out) n hi).mono ?_
  rintro e w1 ⟨rfl, hb⟩
  rw [HE.out]
  have HR := Lib.hid (rr_new (some ⟨A, 0, none⟩) va vs w w1 (tagS (c n)) (tagO (c n)) hb)
  have HS := Lib.hid (show w.heap.size ≤ w1.heap.size from (HB.out.trans (hb.mono (by simp; omega))).size)
  clear hb HB
  go_wp2_with fail
  obtain ⟨B, hB⟩ : ∃ x, w.heap.size = x := ⟨_, rfl⟩
  obtain ⟨R, hR⟩ : ∃ x, B + 1 = x := ⟨_, rfl⟩
  rw [hB] at HR ⊢
  rw [hR] at HR ⊢
  obtain ⟨T, hT⟩ : ∃ x, w1.heap.size = x := ⟨_, rfl⟩
  obtain ⟨w2, hw2⟩ : ∃ x, w1.alloc (.cells #[.int .u8 (tagS (c n)), .int .u8 (tagO (c n))] 118) = x := ⟨_, rfl⟩
  rw [hw2, hT] at HR ⊢
  have HBR := Lib.hid (And.intro hB hR)
  have HTw : Hid (w.heap.size ≤ T ∧ w.heap.size ≤ R) := Lib.hid ⟨by have := HS.out; omega, by omega⟩
  clear hw2 hT hB hR
  go_loopw [9] (fun v wr => ∃ m : Nat, m ≤ n + 1 ∧ v = .int .i64 ((m : Int) - 1) ∧ dnN (insI c) (n + 1) = dnN (insI c) m ∧ RR B R T (some ⟨A, 0, none⟩) va vs 0 0 (tagS (c ((m : Int) - 1))) (tagO (c ((m : Int) - 1))) wr ∧ Below w.heap.size w wr) (fun v _ => (intOf v + 1).toNat)
  case atStart =>
    refine ⟨n + 1, Nat.le_refl _, ?_, rfl, ?_, by rw [HBR.out.1]; exact HR.out.2⟩
    · rw [show (((n + 1 : Nat) : Int)) - 1 = n from by omega]
    · rw [show (((n + 1 : Nat) : Int)) - 1 = n from by omega]; exact HR.out.1
  case round =>
    obtain ⟨m, hm, rfl, hd, hr, hbw⟩ := hrel
    have HD := Lib.hid hd; have HRR := Lib.hid hr; have HBW := Lib.hid hbw
    clear hd hr hbw HR
    obtain ⟨c0, c1, c2, c3, c4, c5, c6, f3, f4, f5, f6⟩ := HRR.out.all
    have b1 := tagS_b (c ((m : Int) - 1)) (HCB.out _).1
    have b2 := tagO_b (c ((m : Int) - 1)) (HCB.out _).1
    by_cases hin : tagS (c ((m : Int) - 1)) = 1
    · cases m with
      | zero =>
        exfalso
        have := HN.out ((0 : Nat) - 1 : Int) (by omega)
        rw [this] at hin
        exact absurd hin (by decide)
      | succ m =>
        have HI := Lib.hid hin
        have d1 : (tagS (c (((m + 1 : Nat) : Int) - 1)) == 1) = true := by simpa using hin
        clear hin
        have e1 : (((m + 1 : Nat) : Int) - 1) = (m : Int) := by omega
        rw [e1] at d1 c5 c6 b1 b2 ⊢
        have HE1 := Lib.hid e1
        clear e1
        have hm2 : (m : Int) - 1 ≤ 9223372036854775807 := by omega
        go_wp2_with fail
        refine (HG.out _ (HO.out.below HBW.out) ((m : Int) - 1) hm2).mono ?_
        rintro e w3 ⟨rfl, hb3⟩
        generalize gE s va vs ((m : Int) - 1) = er at *
        have HR3 := Lib.hid (HRR.out.below hb3)
        have HB3 := Lib.hid (HBW.out.trans (hb3.mono HBW.out.size))
        clear c0 c1 c2 c3 c4 c5 c6 f3 f4 f5 f6 hb3
        obtain ⟨c0, c1, c2, c3, c4, c5, c6, f3, f4, f5, f6⟩ := HR3.out.all
        go_wp2_with fail
        go_roundw
        case rel =>
          refine ⟨m, by omega, rfl, ?_, HR3.out.setT _ _, (HB3.out.setCell (p := ⟨T, 0, none⟩) HTw.out.1 _).setCell (p := ⟨T, 1, none⟩) HTw.out.1 _⟩
          rw [HD.out]
          show (if insI c m then dnN (insI c) m else (m : Int)) = _
          rw [if_pos]
          have := HI.out; rw [HE1.out] at this
          exact decide_eq_true this
        case measure => simp [intOf]
    · have d1 : (tagS (c ((m : Int) - 1)) == 1) = false := by simpa using hin
      have HRF : Hid (runF c n = (m : Int) - 1) := Lib.hid (by
        rw [HF.out, Int.toNat_natCast, HD.out]
        cases m with
        | zero => rfl
        | succ m =>
          show (if insI c m then dnN (insI c) m else (m : Int)) = _
          have e1 : (((m + 1 : Nat) : Int) - 1) = (m : Int) := by omega
          rw [e1] at hin ⊢
          rw [if_neg]
          unfold insI; simpa using hin)
      have HV : Hid (runV c n = if begB (tagS (c ((m : Int) - 1))) && decide ((n : Int) - ((m : Int) - 1) < ((2 ^ (tagO (c ((m : Int) - 1))).toNat : Nat) : Int)) then .tuple #[.int .i64 ((m : Int) - 1), tagV (tagS (c ((m : Int) - 1))) (tagO (c ((m : Int) - 1))), .int .i64 0] else .tuple #[.int .i64 0, tagV 0 0, .int .i64 8]) := Lib.hid (by unfold runV runOk; rw [HRF.out])
      clear hin HRF HD
      generalize tagS (c ((m : Int) - 1)) = S at *
      generalize tagO (c ((m : Int) - 1)) = O at *
      obtain ⟨j, hj⟩ : ∃ j : Int, (m : Int) - 1 = j := ⟨_, rfl⟩
      have hj1 : -1 ≤ j ∧ j ≤ n := by omega
      obtain ⟨hj1, hj2⟩ := hj1
      rw [hj] at HV ⊢
      clear hj hm HN HG HCB HF HE
      obtain ⟨on, rfl⟩ : ∃ on : Nat, O = on := ⟨O.toNat, by omega⟩
      obtain ⟨hN, hN1, hN2⟩ := pow_n on b2.2
      rw [Int.toNat_natCast] at HV
      generalize hNN : 2 ^ on = N at *
      have hN' : wrap64 ((2 : Int) ^ on) = (N : Int) := by
        rw [show ((2 : Int) ^ on) = (N : Int) from by rw [← hNN]; simp]
        exact IntWalk.wrap64_in _ ⟨by omega, by omega⟩
      clear hN hNN
      have hn32 : (n : Int) < 4294967296 := by omega
      cases hb : begB S with
      | false =>
        have HBS := Lib.hid hb
        rw [hb, Bool.false_and, if_neg (by decide)] at HV
        clear hb
        go_wp2_with (go_at_call 116; refine (tbeg_any _ _).mono ?_; rintro e w' ⟨rfl, rfl⟩; rw [HBS.out])
        have h3 := (HRR.out.setR 0 0).r
        have g0 := (cell_blk h3 0).1; have g1 := (cell_blk h3 1).1
        exact bodyPost_ret (v := .tuple #[.int .i64 0, tagV 0 0, .int .i64 8]) (by simp [results, Tryz.results81, go_sem, g0, g1]) rfl ⟨by rw [HV.out], (HBW.out.setCell (p := ⟨R, 0, none⟩) HTw.out.2 _).setCell (p := ⟨R, 1, none⟩) HTw.out.2 _⟩
      | true =>
        have HBS := Lib.hid hb
        rw [hb, Bool.true_and] at HV
        clear hb
        by_cases hcmp : (n : Int) - j < N
        · rw [decide_eq_true hcmp, if_pos rfl] at HV
          have d2 : decide ((N : Int) ≤ (n : Int) - j) = false := by simp; omega
          clear hcmp
          go_wp2_with (go_at_call 116; refine (tbeg_any _ _).mono ?_; rintro e w' ⟨rfl, rfl⟩; rw [HBS.out])
          go_region
          have h3 := (HRR.out.setR S on).r
          have g0 := (cell_blk h3 0).1; have g1 := (cell_blk h3 1).1
          have hbf := Lib.hid (((HBW.out.setCell (p := ⟨R, 0, none⟩) HTw.out.2 (.int .u8 S)).setCell (p := ⟨R, 1, none⟩) HTw.out.2 (.int .u8 (on : Int))).drew)
          clear c0 c1 c2 c3 c4 c5 c6 f3 f4 f5 f6
          go_wp2_with fail
          exact bodyPost_ret (v := .tuple #[.int .i64 j, tagV S on, .int .i64 0]) (by simp [results, Tryz.results81, go_sem, g0, g1]) rfl ⟨by rw [HV.out], hbf.out⟩
        · rw [decide_eq_false hcmp, if_neg (by decide)] at HV
          have d2 : decide ((N : Int) ≤ (n : Int) - j) = true := by simp; omega
          clear hcmp
          go_wp2_with (go_at_call 116; refine (tbeg_any _ _).mono ?_; rintro e w' ⟨rfl, rfl⟩; rw [HBS.out])
          have h3 := (HRR.out.setR 0 0).r
          have g0 := (cell_blk h3 0).1; have g1 := (cell_blk h3 1).1
          exact bodyPost_ret (v := .tuple #[.int .i64 0, tagV 0 0, .int .i64 8]) (by simp [results, Tryz.results81, go_sem, g0, g1]) rfl ⟨by rw [HV.out], (HBW.out.setCell (p := ⟨R, 0, none⟩) HTw.out.2 _).setCell (p := ⟨R, 1, none⟩) HTw.out.2 _⟩
end
end Go.Proofs.YtfemgekhpcgliaaGreat.Bt
/- The statements' open and example. -/
namespace Go.Proofs.YtfemgekhpcgliaaGreat.Bt
open Go Go.RowKit Go.Shelf
set_option linter.unusedVariables false

def OpenP (n : Nat) (w : World) (e : Ending) (w' : World) : Prop :=
  ∃ A, e = .returned (.tuple #[.pointer (some ⟨A, 0, none⟩), tbP (some ⟨A, 0, none⟩) 96 n, .bool true]) ∧ On A (fullS 1 (fun _ => 0)) w' ∧ Base A w w'
set_option maxHeartbeats 2000000 in
theorem lopen_any (n : Nat) (hn : n ≤ 4000) (w : World) : Calls Tryz.prog 123 #[.int .i64 (n : Int)] w (OpenP n w) := by
  have L1 : Hid (lenN 1 = 1) := Lib.hid (by decide)
  have E1 : Hid (commitE (newS 1) 0 1 = 0) := Lib.hid (by decide)
  have S1 : Hid (commitS (newS 1) 0 1 = fullS 1 (fun _ => 0)) := Lib.hid (full_new 1 1 (by decide) (by decide) (by decide))
  have T1 : Hid (thereE (fullS 1 fun _ => 0).L (fullS 1 fun _ => 0).es 96 n = 0) := Lib.hid (by
    show thereE 1 [0, 1] 96 n = 0
    rw [thereE_full (by omega) (by omega), if_pos (by omega)])
  have HV : Hid (∀ pu a k, ofV pu a k 0 = .agg #[.pointer pu, .int .i64 a, .int .i64 k]) := Lib.hid fun pu a k => by unfold ofV; rw [if_pos rfl]
  go_enter Tryz.func123, Tryz.ntmps123
  go_wp2_with fail
  refine (on_new 1 _).mono ?_
  rintro e w1 ⟨A, rfl, hA, hx, hb, hm⟩
  rw [L1.out] at hx
  have HX1 := Lib.hid hx
  have HB1 := Lib.hid (show Base A w w1 from hb.rebase (bel1 w (.cells #[.pointer none, .int .i64 0, .int .i64 0] 43)))
  have HM1 := Lib.hid (hm w.heap.size (by simp))
  have HR1 := Lib.hid ((hb.bel.block w.heap.size (by simp)).trans (heap_new w (.cells #[.pointer none, .int .i64 0, .int .i64 0] 43)))
  clear hx hb hA hm
  go_wp2_with fail
  refine (on_commit HX1.out 0 1 (by omega)).mono ?_
  rintro e w2 ⟨rfl, hx, hg⟩
  rw [E1.out]; rw [S1.out] at hx
  have HX2 := Lib.hid hx
  have HB2 := Lib.hid (HB1.out.went hg)
  have HR2 := Lib.hid (HM1.out.at hg HR1.out)
  have HM2 := Lib.hid (HM1.out.went hg)
  clear hx hg
  go_wp2_with fail
  refine (on_of HX2.out 96 n (by omega)).mono ?_
  rintro e w3 ⟨rfl, hb⟩
  rw [T1.out, HV.out]
  have HX3 := Lib.hid (HX2.out.below hb)
  have HB3 := Lib.hid (HB2.out.below HX2.out hb)
  have HR3 := Lib.hid ((hb.block _ (Array.getElem?_eq_some_iff.1 HR2.out).1).trans HR2.out)
  have HM3 := Lib.hid (HM2.out.went (Went.of_below HX2.out hb))
  clear hb
  go_wp2_with fail
  have bV := Lib.hid (bel1 w3 (.cells #[.pointer (some ⟨A, 0, none⟩), .int .i64 96, .int .i64 (n : Int)] 40))
  refine (topen_any (some ⟨A, 0, none⟩) 96 n _).mono ?_
  rintro e w4 ⟨rfl, hb⟩
  have HX4 := Lib.hid ((HX3.out.below bV.out).below hb)
  have HB4 := Lib.hid ((HB3.out.below HX3.out bV.out).below (HX3.out.below bV.out) hb)
  have hr3 := HR3.out
  have hr4 := (hb.block w.heap.size (Nat.lt_of_lt_of_le (Array.getElem?_eq_some_iff.1 hr3).1 bV.out.size)).trans ((bV.out.block _ (Array.getElem?_eq_some_iff.1 hr3).1).trans hr3)
  have HR4 := Lib.hid hr4
  have HM4 := Lib.hid ((HM3.out.went (Went.of_below HX3.out bV.out)).went (Went.of_below (HX3.out.below bV.out) hb))
  have c0 := (cell_blk hr4 0).1; have c1 := (cell_blk hr4 1).1; have c2 := (cell_blk hr4 2).1
  have f0 := (cell_blk hr4 0).2; have f1 := (cell_blk hr4 1).2; have f2 := (cell_blk hr4 2).2
  clear hr3 hr4 hb
  go_wp2_with fail
  have h3 := three_set HR4.out rfl (.pointer (some ⟨A, 0, none⟩)) (.int .i64 96) (.int .i64 (n : Int))
  have g0 := (cell_blk h3 0).1; have g1 := (cell_blk h3 1).1; have g2 := (cell_blk h3 2).1
  have hF := set3 (w0 := w) HX4.out HB4.out HM4.out (Nat.le_refl _) (.pointer (some ⟨A, 0, none⟩)) (.int .i64 96) (.int .i64 (n : Int))
  have HF := Lib.hid hF
  clear hF
  exact bodyPost_ret (v := .tuple #[.pointer (some ⟨A, 0, none⟩), tbP (some ⟨A, 0, none⟩) 96 n, .bool true]) (by simp [results, Tryz.results123, go_sem, g0, g1, g2]) rfl ⟨A, rfl, HF.out.1, HF.out.2⟩
end Go.Proofs.YtfemgekhpcgliaaGreat.Bt
/- What a table tells of a run that was laid. -/
namespace Go.Proofs.YtfemgekhpcgliaaGreat.Bt
open Go Go.RowKit Go.Shelf
set_option linter.unusedVariables false

theorem layM_first (m : Nat → UInt8) (an N : Nat) (fs fo : Int) (os : UInt8) (h : 0 ≤ codeI fs fo ∧ codeI fs fo ≤ 255) : ((layM m an N fs fo os an).toNat : Int) = codeI fs fo := by
  unfold layM
  have := putM_in (putM m an (List.replicate N os)) an (numB (codeI fs fo) 1) (i := 0) (by rw [numB_length]; omega)
  rw [Nat.add_zero] at this
  rw [this]
  have e : (numB (codeI fs fo) 1).getD 0 0 = byteN (codeI fs fo) 0 := rfl
  rw [e, ← byte_val h.1 0]
  have := IntKind.wrap_u8 (codeI fs fo / 2 ^ (8 * 0))
  rw [this]
  have e2 : codeI fs fo / 2 ^ (8 * 0) = codeI fs fo := by simp
  rw [e2]; omega
theorem layM_other (m : Nat → UInt8) (an N : Nat) (fs fo : Int) (os : UInt8) (k : Nat) (h1 : 0 < k) (h2 : k < N) : layM m an N fs fo os (an + k) = os := by
  unfold layM
  rw [putM_out _ _ _ (.inr (by rw [numB_length]; omega)), putM_in _ _ _ (by simpa using h2)]
  rw [List.getD_eq_getElem?_getD, List.getElem?_replicate, if_pos h2]; rfl
theorem layM_out (m : Nat → UInt8) (an N : Nat) (hN : 0 < N) (fs fo : Int) (os : UInt8) (i : Nat) (h : i < an ∨ an + N ≤ i) : layM m an N fs fo os i = m i := by
  unfold layM
  rw [putM_out _ _ _ (by rw [numB_length]; omega), putM_out _ _ _ (by rw [List.length_replicate]; omega)]
end Go.Proofs.YtfemgekhpcgliaaGreat.Bt
/- A buddy's pages in memory: tags, lists; what a run that is laid, or a member more or less, makes of them. -/
namespace Go.Proofs.YtfemgekhpcgliaaGreat.Bt
open Go Go.RowKit Go.Shelf
set_option linter.unusedVariables false

theorem good_up {L e : Nat} (h0 : 0 < e) (h1 : e ≤ L) (h2 : L ≤ 1048576) : Good L [0, e] := ⟨by simp [Rising]; omega, by simp, (fun x h => by simp at h; omega), h2⟩
theorem there_up {L e : Nat} (h0 : 0 < e) (h1 : e ≤ L) (h2 : L ≤ 1048576) {a k : Int} (ha : 0 ≤ a) (hk : 0 ≤ k) (h : a + k ≤ (e : Int) * 4096) : thereE L [0, e] a k = 0 := by
  unfold thereE
  rw [if_pos]
  exact (there_iff (good_up h0 h1 h2) a k).2 ⟨ha, hk, by omega, fun i i1 i2 => by
    have := mem_full (L := e) h0 (i / 4096); rw [this]; simp; omega⟩
/-- of a page: the byte that stands for it -/
def codeR (R : Runs) (g p : Nat) : Nat := if p < g then (match R p with | some (k, t) => 4 * k + (if t then 3 else 2) | none => 1) else 0
/-- is a page in the run that isn't laid yet? -/
def Hole (R : Runs) (x p : Nat) : Prop := ∃ k t, R x = some (k, t) ∧ x ≤ p ∧ p < x + 2 ^ k
/-- the tags of all pages that are given out, but for the hole -/
def Tgs (cap g : Nat) (R : Runs) (x : Nat) (m : Nat → UInt8) : Prop := ∀ p, p + 1 < cap → ¬ Hole R x p → (m (256 + p)).toNat = codeR R g p
/-- the heads of the lists lie off -/
def LOff (own : Nat) (fl : Nat → List Nat) : Prop := (∀ k, k ≤ 10 → ∀ c ∈ fl k, 4096 ≤ c ∧ c % 4096 = 0) ∧ (∀ k, k ≤ 10 → (fl k).Pairwise (· < ·)) ∧ ∀ j k, j ≤ 10 → k ≤ 10 → j ≠ k → ∀ c, c ∈ fl j → c ∉ fl k
def Lks (L : Nat) (es : List Nat) (m : Nat → UInt8) (fl : Nat → List Nat) : Prop := ∀ k, k ≤ 10 → Ch L es m (16 + 8 * k) 0 (fl k)
theorem LOff.apart {fl : Nat → List Nat} (h : LOff 1 fl) {k : Nat} (hk : k ≤ 10) : Apart ((16 + 8 * k) :: fl k) := by
  refine List.pairwise_cons.2 ⟨fun c hc => ?_, ?_⟩
  · have := h.1 k hk c hc; omega
  · refine (List.Pairwise.and_mem.1 (h.2.1 k hk)).imp fun {a b} ⟨ha, hb, hl⟩ => ?_
    have h1 := h.1 k hk a ha
    have h2 := h.1 k hk b hb
    omega
/-- the place of a link of one list, and of one of another -/
theorem LOff.off {fl : Nat → List Nat} (h : LOff 1 fl) {j k : Nat} (hj : j ≤ 10) (hk : k ≤ 10) (hne : j ≠ k) {c d : Nat} (hc : c ∈ (16 + 8 * j) :: fl j) (hd : d ∈ (16 + 8 * k) :: fl k) : c + 8 ≤ d ∨ d + 8 ≤ c := by
  rcases List.mem_cons.1 hc with rfl | hc <;> rcases List.mem_cons.1 hd with rfl | hd
  · omega
  · have := h.1 k hk d hd; omega
  · have := h.1 j hj c hc; omega
  · have h1 := h.1 j hj c hc
    have h2 := h.1 k hk d hd
    have : c ≠ d := fun e => h.2.2 j k hj hk hne c hc (by rw [e]; exact hd)
    omega
theorem lks_add {L : Nat} {es : List Nat} {m : Nat → UInt8} {fl : Nat → List Nat} (g : Good L es) (h : Lks L es m fl) (o : LOff 1 fl) {k X : Nat} (hk : k ≤ 10) (hX : 4096 ≤ X) (hX4 : X % 4096 = 0) (hT : thereE L es X 16 = 0) (hn : ∀ j, j ≤ 10 → X ∉ fl j) (z : Nat) :
    Lks L es (put8 (put8 m X (fnd (16 + 8 * k) z (fl k) X).2.2) (fnd (16 + 8 * k) z (fl k) X).1 X) (fun j => if j = k then ins X (fl k) else fl j) := fun j hj => by
  have hoff : ∀ i, i ≤ 10 → ∀ c ∈ (16 + 8 * i) :: fl i, X + 8 ≤ c ∨ c + 8 ≤ X := fun i hi c hc => by
    rcases List.mem_cons.1 hc with rfl | hc
    · omega
    · have := o.1 i hi c hc
      have : c ≠ X := fun e => hn i hi (by rw [← e]; exact hc)
      omega
  by_cases e : j = k
  · subst e
    show Ch _ _ _ _ _ (if j = j then _ else _)
    rw [if_pos rfl]
    exact add_ch g hT z (h j hj) (by omega) (hn j hj) (o.apart hj) (hoff j hj)
  · show Ch _ _ _ _ _ (if j = k then _ else _)
    rw [if_neg e]
    refine (h j hj).keep fun c hc => ?_
    have h1 := o.off hj hk e hc (fnd_mem (16 + 8 * k) z (fl k) X)
    have h2 := hoff j hj c hc
    rw [put8_far _ _ (by omega), put8_far _ _ (by omega)]
theorem lks_less {L : Nat} {es : List Nat} {m : Nat → UInt8} {fl : Nat → List Nat} (g : Good L es) (h : Lks L es m fl) (o : LOff 1 fl) {k X : Nat} (hk : k ≤ 10) (hX : X ∈ fl k) (z : Nat) :
    Lks L es (put8 m (fnd (16 + 8 * k) z (fl k) X).1 (nxt m X)) (fun j => if j = k then (fl k).erase X else fl j) := fun j hj => by
  by_cases e : j = k
  · subst e
    show Ch _ _ _ _ _ (if j = j then _ else _)
    rw [if_pos rfl]
    exact del_ch g z (h j hj) hX (o.apart hj)
  · show Ch _ _ _ _ _ (if j = k then _ else _)
    rw [if_neg e]
    refine (h j hj).keep fun c hc => ?_
    have h1 := o.off hj hk e hc (fnd_mem (16 + 8 * k) z (fl k) X)
    rw [put8_far _ _ (by omega)]
theorem put8_byte (m : Nat → UInt8) {a i : Nat} (v : Nat) (h : i < a ∨ a + 8 ≤ i) : put8 m a v i = m i := putM_out _ _ _ (by rw [numB_length]; omega)
/-- a member more, or less, turns no tag, and nothing in front of the lists -/
theorem add_byte {m : Nat → UInt8} {fl : Nat → List Nat} (o : LOff 1 fl) {k X i : Nat} (hk : k ≤ 10) (hX : 4096 ≤ X) (z : Nat) (hi : i < 16 ∨ (104 ≤ i ∧ i < 4096)) :
    put8 (put8 m X (fnd (16 + 8 * k) z (fl k) X).2.2) (fnd (16 + 8 * k) z (fl k) X).1 X i = m i := by
  have h1 : i < (fnd (16 + 8 * k) z (fl k) X).1 ∨ (fnd (16 + 8 * k) z (fl k) X).1 + 8 ≤ i := by
    rcases List.mem_cons.1 (fnd_mem (16 + 8 * k) z (fl k) X) with e | e
    · omega
    · have := o.1 k hk _ e; omega
  rw [put8_byte _ _ h1, put8_byte _ _ (by omega)]
theorem less_byte {m : Nat → UInt8} {fl : Nat → List Nat} (o : LOff 1 fl) {k X i : Nat} (v : Nat) (hk : k ≤ 10) (z : Nat) (hi : i < 16 ∨ (104 ≤ i ∧ i < 4096)) :
    put8 m (fnd (16 + 8 * k) z (fl k) X).1 v i = m i := by
  have h1 : i < (fnd (16 + 8 * k) z (fl k) X).1 ∨ (fnd (16 + 8 * k) z (fl k) X).1 + 8 ≤ i := by
    rcases List.mem_cons.1 (fnd_mem (16 + 8 * k) z (fl k) X) with e | e
    · omega
    · have := o.1 k hk _ e; omega
  rw [put8_byte _ _ h1]
/-- a run laid over the tags turns no list -/
theorem lks_lay {L : Nat} {es : List Nat} {m : Nat → UInt8} {fl : Nat → List Nat} (h : Lks L es m fl) (o : LOff 1 fl) {an N : Nat} (hN : 0 < N) (h1 : 104 ≤ an) (h2 : an + N ≤ 4096) (fs fo : Int) (os : UInt8) : Lks L es (layM m an N fs fo os) fl := fun j hj =>
  (h j hj).keep fun c hc => numV_congr fun i hi => layM_out _ _ _ hN _ _ _ _ (by
    rcases List.mem_cons.1 hc with rfl | hc
    · omega
    · have := o.1 j hj c hc; omega)
theorem freeL_off (R : Runs) (x g : Nat) : LOff 1 (freeL 1 R x g) := by
  refine ⟨fun k _ c hc => ?_, fun k _ => freeL_sorted _ _ _ _ _, fun j k _ _ hne c hc hd => ?_⟩
  · obtain ⟨i, _, _, _, e⟩ := freeL_mem.1 hc; omega
  · obtain ⟨i, _, h1, _, e⟩ := freeL_mem.1 hc
    obtain ⟨i', _, h2, _, e'⟩ := freeL_mem.1 hd
    have : i' = i := by omega
    subst this
    rw [h1] at h2
    exact hne (some_of h2).1
/-- a run laid: its pages' tags -/
theorem lay_codes (m : Nat → UInt8) (x k p : Nat) (hk : k ≤ 10) (u : Bool) : (layM m (256 + x) (2 ^ k) (if u then 3 else 2) k 1 (256 + p)).toNat = if p = x then 4 * k + (if u then 3 else 2) else if x < p ∧ p < x + 2 ^ k then 1 else (m (256 + p)).toNat := by
  have h0 := pow2_pos k
  by_cases h1 : p = x
  · subst h1
    rw [if_pos rfl]
    have := layM_first m (256 + p) (2 ^ k) (if u then 3 else 2) k 1 (by unfold codeI; split <;> omega)
    have e : codeI (if u then 3 else 2) k = ((4 * k + (if u then 3 else 2) : Nat) : Int) := by unfold codeI; cases u <;> simp
    rw [e] at this
    exact Int.ofNat_inj.1 this
  · rw [if_neg h1]
    by_cases h2 : x < p ∧ p < x + 2 ^ k
    · rw [if_pos h2]
      have := layM_other m (256 + x) (2 ^ k) (if u then 3 else 2) k 1 (p - x) (by omega) (by omega)
      rw [show 256 + x + (p - x) = 256 + p from by omega] at this
      rw [this]; rfl
    · rw [if_neg h2, layM_out _ _ _ h0 _ _ _ _ (by omega)]
theorem none_codes (m : Nat → UInt8) (x k p : Nat) : (layM m (256 + x) (2 ^ k) 0 0 0 (256 + p)).toNat = if x ≤ p ∧ p < x + 2 ^ k then 0 else (m (256 + p)).toNat := by
  have h0 := pow2_pos k
  by_cases h1 : p = x
  · subst h1
    rw [if_pos (by omega)]
    have := layM_first m (256 + p) (2 ^ k) 0 0 0 (by decide)
    rw [show codeI 0 0 = 0 from rfl] at this
    omega
  · by_cases h2 : x < p ∧ p < x + 2 ^ k
    · rw [if_pos (by omega)]
      have := layM_other m (256 + x) (2 ^ k) 0 0 0 (p - x) (by omega) (by omega)
      rw [show 256 + x + (p - x) = 256 + p from by omega] at this
      rw [this]; rfl
    · rw [if_neg (by omega), layM_out _ _ _ h0 _ _ _ _ (by omega)]
end Go.Proofs.YtfemgekhpcgliaaGreat.Bt
/- A buddy in memory: what it is behind each of its steps. -/
namespace Go.Proofs.YtfemgekhpcgliaaGreat.Bt
open Go Go.RowKit Go.Shelf
set_option linter.unusedVariables false

/-- a buddy's mark -/
def bMark : Nat := 0xff6e6f706c6c696d
/-- a buddy of at most 80 pages: G pages are committed behind its own one, g of them are in runs; the run at x isn't laid yet -/
structure Bud (cap G g : Nat) (R : Runs) (x : Nat) (s : ASt) : Prop where
  cL : s.L = cap
  c2 : 2 ≤ cap ∧ cap ≤ 80
  es : s.es = [0, 1 + G]
  gG : g ≤ G ∧ G < cap
  mr : numV s.mm 0 8 = bMark
  gr : numV s.mm 8 8 = G
  tg : Tgs cap g R x s.mm
  ls : Lks s.L s.es s.mm (freeL 1 R x g)
  ti : Til g R x
section
variable {cap G g x k : Nat} {R : Runs} {s : ASt}
theorem Bud.good (h : Bud cap G g R x s) : Good s.L s.es := by
  have := h.gG; have := h.c2
  rw [h.cL, h.es]; exact good_up (by omega) (by omega) (by omega)
theorem Bud.there (h : Bud cap G g R x s) {a n : Int} (h0 : 0 ≤ a) (h1 : 0 ≤ n) (h2 : a + n ≤ ((1 + G : Nat) : Int) * 4096) : thereE s.L s.es a n = 0 := by
  have := h.gG; have := h.c2
  rw [h.cL, h.es]; exact there_up (by omega) (by omega) (by omega) h0 h1 h2
theorem front_same {m m' : Nat → UInt8} (h : ∀ i, i < 16 → m' i = m i) {a : Nat} (ha : a + 8 ≤ 16) : numV m' a 8 = numV m a 8 := numV_congr fun j hj => h _ (by omega)
/-- the memory behind Add -/
def addM (m : Nat → UInt8) (fl : Nat → List Nat) (k X : Nat) : Nat → UInt8 := put8 (put8 m X (fnd (16 + 8 * k) 8 (fl k) X).2.2) (fnd (16 + 8 * k) 8 (fl k) X).1 X
/-- the memory behind Remove -/
def delM (m : Nat → UInt8) (fl : Nat → List Nat) (k X : Nat) : Nat → UInt8 := put8 m (fnd (16 + 8 * k) 8 (fl k) X).1 (nxt m X)
theorem Lks.of {L : Nat} {es : List Nat} {m : Nat → UInt8} {fl fl' : Nat → List Nat} (h : Lks L es m fl) (e : ∀ k, k ≤ 10 → fl' k = fl k) : Lks L es m fl' := fun k hk => by rw [e k hk]; exact h k hk
theorem hole_none (h : R x = Option.none) (p : Nat) : ¬ Hole R x p := fun ⟨k, t, e, _⟩ => by rw [h] at e; cases e
/-- the pages of other runs aren't in the hole -/
theorem Bud.addr (h : Bud cap G g R x s) {i k : Nat} {t : Bool} (e : R i = some (k, t)) : k ≤ 10 ∧ i + 2 ^ k ≤ g ∧ i < g ∧ i + 1 < cap ∧ i + 2 ^ k < cap + 1 := by
  have := h.ti.al _ _ _ e; have := h.gG; have := pow2_pos k; omega
/-- a taken run is freed: nothing is laid yet -/
theorem Bud.freed (h : Bud cap G g R g s) (e : R x = some (k, true)) : Bud cap G g (layR R x k false) x s :=
  { h with
    tg := fun p hp hn => by
      have h1 := h.tg p hp (hole_none (h.ti.out (Nat.le_refl _)) p)
      rw [h1]
      unfold codeR
      by_cases c : p < g
      · rw [if_pos c, if_pos c]
        have ho : p < x ∨ x + 2 ^ k ≤ p := by
          by_cases q : p < x ∨ x + 2 ^ k ≤ p
          · exact q
          · exact absurd ⟨k, false, layR_self _ _ _ _, by omega, by omega⟩ hn
        rw [layR_out ho]
      · rw [if_neg c, if_neg c]
    ls := h.ls.of fun j _ => free_freed h.ti e j
    ti := h.ti.freed e }
/-- a free run is taken out of its list -/
theorem Bud.pick (h : Bud cap G g R g s) (e : R x = some (k, false)) : Bud cap G g R x { s with mm := delM s.mm (freeL 1 R g g) k ((1 + x) * 4096) } := by
  have a := h.addr e
  have hX : (1 + x) * 4096 ∈ freeL 1 R g g k := freeL_at.2 ⟨a.2.2.1, e, Nat.ne_of_lt a.2.2.1⟩
  have o := freeL_off R g g
  have by16 : ∀ i, i < 16 ∨ (104 ≤ i ∧ i < 4096) → delM s.mm (freeL 1 R g g) k ((1 + x) * 4096) i = s.mm i := fun i hi => less_byte o _ a.1 8 hi
  exact { h with
    mr := (front_same (fun i hi => by16 i (.inl hi)) (by omega)).trans h.mr
    gr := (front_same (fun i hi => by16 i (.inl hi)) (by omega)).trans h.gr
    tg := fun p hp hn => by
      have := h.c2
      show (delM _ _ _ _ _).toNat = _
      rw [by16 _ (.inr (by omega))]
      exact h.tg p hp (hole_none (h.ti.out (Nat.le_refl _)) p)
    ls := (lks_less h.good h.ls o a.1 hX 8).of fun j hj => by
      by_cases c : j = k
      · subst c; rw [if_pos rfl]; exact free_pick h.ti e
      · rw [if_neg c]; exact free_pick' h.ti e c
    ti := h.ti.at }
/-- put together with its twin, that is taken out of its list -/
theorem Bud.join (h : Bud cap G g R x s) (e : R x = some (k, false)) (f : R (twin x k) = some (k, false)) (hk : k < 10) :
    Bud cap G g (layR R (min x (twin x k)) (k + 1) false) (min x (twin x k)) { s with mm := delM s.mm (freeL 1 R x g) k ((1 + twin x k) * 4096) } := by
  have a := h.addr f
  have ax := h.addr e
  have hne := twin_ne (h.ti.al _ _ _ e).2.1
  have hX : (1 + twin x k) * 4096 ∈ freeL 1 R x g k := freeL_at.2 ⟨a.2.2.1, f, hne⟩
  have o := freeL_off R x g
  have by16 : ∀ i, i < 16 ∨ (104 ≤ i ∧ i < 4096) → delM s.mm (freeL 1 R x g) k ((1 + twin x k) * 4096) i = s.mm i := fun i hi => less_byte o _ a.1 8 hi
  obtain ⟨i, em, hi, e1, e2, hx⟩ := join_of h.ti.toTile e f
  have hp := pow2_succ k
  have h0 := pow2_pos k
  exact { h with
    mr := (front_same (fun i hi => by16 i (.inl hi)) (by omega)).trans h.mr
    gr := (front_same (fun i hi => by16 i (.inl hi)) (by omega)).trans h.gr
    tg := fun p hp' hn => by
      have := h.c2
      show (delM _ _ _ _ _).toNat = _
      rw [by16 _ (.inr (by omega))]
      have ho : p < i ∨ i + 2 ^ (k + 1) ≤ p := by
        by_cases q : p < i ∨ i + 2 ^ (k + 1) ≤ p
        · exact q
        · exact absurd ⟨k + 1, false, layR_self _ _ _ _, by omega, by omega⟩ hn
      rw [h.tg p hp' (fun ⟨k', t', q1, q2, q3⟩ => by
        rw [e] at q1
        have := (some_of q1).1
        subst this
        omega)]
      unfold codeR
      rw [em, layR_out ho]
    ls := (lks_less h.good h.ls o a.1 hX 8).of fun j hj => by
      by_cases c : j = k
      · subst c; rw [if_pos rfl]; exact free_join h.ti e f
      · rw [if_neg c]; exact free_join' h.ti e f c
    ti := h.ti.join e f hk }
/-- what a run laid makes of the tags -/
theorem lay_tags {m : Nat → UInt8} {g' : Nat} {R' : Runs} {y : Nat} {u : Bool} (hk : k ≤ 10) (hx : R' x = some (k, u)) (hin : ∀ p, x < p → p < x + 2 ^ k → R' p = Option.none) (hg : x + 2 ^ k ≤ g')
    (h : ∀ p, p + 1 < cap → ¬ Hole R' y p → ¬ (x ≤ p ∧ p < x + 2 ^ k) → (m (256 + p)).toNat = codeR R' g' p) : Tgs cap g' R' y (layM m (256 + x) (2 ^ k) (if u then 3 else 2) k 1) := fun p hp hn => by
  have h0 := pow2_pos k
  rw [lay_codes m x k p hk u]
  by_cases c : p = x
  · subst c
    rw [if_pos (show p = p from rfl)]
    unfold codeR
    rw [if_pos (show p < g' by omega), hx]
  · rw [if_neg c]
    by_cases d : x < p ∧ p < x + 2 ^ k
    · rw [if_pos d]
      unfold codeR
      rw [if_pos (by omega), hin p d.1 d.2]
    · rw [if_neg d]
      exact h p hp hn (by omega)
theorem Tile.inside (h : Tile g R) {t : Bool} (e : R x = some (k, t)) (p : Nat) (h1 : x < p) (h2 : p < x + 2 ^ k) : R p = Option.none := by
  cases c : R p with
  | none => rfl
  | some y => have := h.dj _ _ _ _ y.1 y.2 e c h1; omega
/-- the run that wasn't laid yet is: a free one, that is put into its list -/
theorem Bud.stop (h : Bud cap G g R x s) (e : R x = some (k, false)) (hs : k < 10 → R (twin x k) ≠ some (k, false)) :
    Bud cap G g R g { s with mm := addM (layM s.mm (256 + x) (2 ^ k) 2 k 1) (freeL 1 R x g) k ((1 + x) * 4096) } := by
  have a := h.addr e
  have o := freeL_off R x g
  have h0 := pow2_pos k
  have c2 := h.c2
  have gG := h.gG
  have hn : ∀ j, j ≤ 10 → (1 + x) * 4096 ∉ freeL 1 R x g j := fun j _ c => (freeL_at.1 c).2.2 rfl
  have hT : thereE s.L s.es (((1 + x) * 4096 : Nat) : Int) 16 = 0 := h.there (by omega) (by omega) (by omega)
  have by16 : ∀ i, i < 16 ∨ (104 ≤ i ∧ i < 4096) → addM (layM s.mm (256 + x) (2 ^ k) 2 k 1) (freeL 1 R x g) k ((1 + x) * 4096) i = layM s.mm (256 + x) (2 ^ k) 2 k 1 i := fun i hi => add_byte o a.1 (by omega) 8 hi
  have fr : ∀ i, i < 16 → addM (layM s.mm (256 + x) (2 ^ k) 2 k 1) (freeL 1 R x g) k ((1 + x) * 4096) i = s.mm i := fun i hi => (by16 i (.inl hi)).trans (layM_out _ _ _ h0 _ _ _ _ (by omega))
  have T := lay_tags (cap := cap) (m := s.mm) (y := g) a.1 e (h.ti.toTile.inside e) a.2.1 (fun p hp _ hc => h.tg p hp (fun ⟨k', t', q1, q2, q3⟩ => by
    rw [e] at q1
    have := (some_of q1).1
    subst this
    exact hc ⟨q2, q3⟩))
  exact { h with
    mr := (front_same fr (by omega)).trans h.mr
    gr := (front_same fr (by omega)).trans h.gr
    tg := fun p hp hn => by
      show (addM _ _ _ _ _).toNat = _
      rw [by16 _ (.inr (by omega))]
      exact T p hp hn
    ls := (lks_add h.good (lks_lay h.ls o h0 (by omega) (by omega) 2 k 1) o a.1 (by omega) (by omega) hT hn 8).of fun j hj => by
      by_cases c : j = k
      · subst c; rw [if_pos rfl]; exact free_stop h.ti e
      · rw [if_neg c]; exact free_stop' h.ti e c
    ti := h.ti.stop e hs }
end
end Go.Proofs.YtfemgekhpcgliaaGreat.Bt
/- A buddy in memory: halved, taken, grown, shrunk. -/
namespace Go.Proofs.YtfemgekhpcgliaaGreat.Bt
open Go Go.RowKit Go.Shelf
set_option linter.unusedVariables false
section
variable {cap G g x k : Nat} {R : Runs} {s : ASt}
theorem half_at (R : Runs) (i k : Nat) (t : Bool) : halfR R i k t i = some (k, t) := if_pos rfl
theorem half_snd (R : Runs) (i k : Nat) (t : Bool) : halfR R i k t (i + 2 ^ k) = some (k, false) := by
  have := pow2_pos k
  unfold halfR; rw [if_neg (by omega), if_pos rfl]
/-- halved: the second half is laid, and put into its list -/
theorem Bud.half (h : Bud cap G g R x s) (e : R x = some (k + 1, false)) :
    Bud cap G g (halfR R x k false) x { s with mm := addM (layM s.mm (256 + (x + 2 ^ k)) (2 ^ k) 2 k 1) (freeL 1 R x g) k ((1 + (x + 2 ^ k)) * 4096) } := by
  have a := h.addr e
  have o := freeL_off R x g
  have h0 := pow2_pos k
  have hp := pow2_succ k
  have c2 := h.c2
  have gG := h.gG
  have nn := half_in h.ti.toTile e
  have hn : ∀ j, j ≤ 10 → (1 + (x + 2 ^ k)) * 4096 ∉ freeL 1 R x g j := fun j _ c => by
    have := (freeL_at.1 c).2.1
    rw [nn] at this; cases this
  have hT : thereE s.L s.es (((1 + (x + 2 ^ k)) * 4096 : Nat) : Int) 16 = 0 := h.there (by omega) (by omega) (by omega)
  have by16 : ∀ i, i < 16 ∨ (104 ≤ i ∧ i < 4096) → addM (layM s.mm (256 + (x + 2 ^ k)) (2 ^ k) 2 k 1) (freeL 1 R x g) k ((1 + (x + 2 ^ k)) * 4096) i = layM s.mm (256 + (x + 2 ^ k)) (2 ^ k) 2 k 1 i := fun i hi => add_byte o (by omega) (by omega) 8 hi
  have fr : ∀ i, i < 16 → addM (layM s.mm (256 + (x + 2 ^ k)) (2 ^ k) 2 k 1) (freeL 1 R x g) k ((1 + (x + 2 ^ k)) * 4096) i = s.mm i := fun i hi => (by16 i (.inl hi)).trans (layM_out _ _ _ h0 _ _ _ _ (by omega))
  have T := lay_tags (cap := cap) (m := s.mm) (y := x) (g' := g) (R' := halfR R x k false) (x := x + 2 ^ k) (k := k) (u := false) (by omega) (half_snd R x k false) ((h.ti.toTile.half (u := false) e).inside (half_snd R x k false)) (by omega) (fun p hp' hh hc => by
    have hx : p < x ∨ x + 2 ^ k ≤ p := by
      by_cases q : p < x ∨ x + 2 ^ k ≤ p
      · exact q
      · exact absurd ⟨k, false, half_at R x k false, by omega, by omega⟩ hh
    rw [h.tg p hp' (fun ⟨k', t', q1, q2, q3⟩ => by
      rw [e] at q1
      have := (some_of q1).1
      subst this
      omega)]
    unfold codeR halfR
    rw [if_neg (show ¬ p = x by omega), if_neg (show ¬ p = x + 2 ^ k by omega)])
  exact { h with
    mr := (front_same fr (by omega)).trans h.mr
    gr := (front_same fr (by omega)).trans h.gr
    tg := fun p hp' hh => by
      show (addM _ _ _ _ _).toNat = _
      rw [by16 _ (.inr (by omega))]
      exact T p hp' hh
    ls := (lks_add h.good (lks_lay h.ls o h0 (by omega) (by omega) 2 k 1) o (by omega) (by omega) (by omega) hT hn 8).of fun j hj => by
      by_cases c : j = k
      · subst c; rw [if_pos rfl]; exact free_half h.ti e
      · rw [if_neg c]; exact free_half' h.ti e c
    ti := h.ti.half e }
/-- taken: laid as a taken one -/
theorem Bud.take (h : Bud cap G g R x s) (e : R x = some (k, false)) :
    Bud cap G g (layR R x k true) g { s with mm := layM s.mm (256 + x) (2 ^ k) 3 k 1 } := by
  have a := h.addr e
  have o := freeL_off R x g
  have h0 := pow2_pos k
  have c2 := h.c2
  have gG := h.gG
  have fr : ∀ i, i < 16 → layM s.mm (256 + x) (2 ^ k) 3 k 1 i = s.mm i := fun i hi => layM_out _ _ _ h0 _ _ _ _ (by omega)
  have T := lay_tags (cap := cap) (m := s.mm) (y := g) (g' := g) (R' := layR R x k true) (x := x) (k := k) (u := true) a.1 (layR_self _ _ _ _) (fun p p1 p2 => layR_in p1 p2) a.2.1 (fun p hp' hh hc => by
    rw [h.tg p hp' (fun ⟨k', t', q1, q2, q3⟩ => by
      rw [e] at q1
      have := (some_of q1).1
      subst this
      omega)]
    unfold codeR
    rw [layR_out (show p < x ∨ x + 2 ^ k ≤ p by omega)])
  exact { h with
    mr := (front_same fr (by omega)).trans h.mr
    gr := (front_same fr (by omega)).trans h.gr
    tg := fun p hp' hh => T p hp' hh
    ls := (lks_lay h.ls o h0 (by omega) (by omega) 3 k 1).of fun j hj => free_take h.ti e
    ti := h.ti.take e }
/-- a run more of the pages that are committed -/
theorem Bud.more (h : Bud cap G g R g s) (hk : k ≤ 10) (hg : g % 2 ^ k = 0) (hG : g + 2 ^ k ≤ G) : Bud cap G (g + 2 ^ k) (layR R g k false) g s :=
  have h0 := pow2_pos k
  { h with
    gG := ⟨hG, h.gG.2⟩
    tg := fun p hp' hh => by
      rw [h.tg p hp' (hole_none (h.ti.out (Nat.le_refl _)) p)]
      have hx : p < g ∨ g + 2 ^ k ≤ p := by
        by_cases q : p < g ∨ g + 2 ^ k ≤ p
        · exact q
        · exact absurd ⟨k, false, layR_self _ _ _ _, by omega, by omega⟩ hh
      unfold codeR
      rcases hx with c | c
      · rw [if_pos c, if_pos (show p < g + 2 ^ k by omega), layR_out (.inl c)]
      · rw [if_neg (show ¬ p < g by omega), if_neg (show ¬ p < g + 2 ^ k by omega)]
    ls := h.ls.of fun j _ => free_more h.ti
    ti := h.ti.more hk hg }
end
end Go.Proofs.YtfemgekhpcgliaaGreat.Bt
