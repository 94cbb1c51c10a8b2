/- An arena in memory, with all that names its blocks put aside; what a call may turn of it. -/
import Derived.Test.YtmnhpmgffhpoeaaGreatVwFill
namespace Go.Proofs.YtmnhpmgffhpoeaaGreat.Bt
open Go Go.RowKit Go.Shelf
set_option linter.unusedVariables false

/-- the arena in block A is s -/
def On (A : Nat) (s : ASt) (w : World) : Prop := ∃ P ps p n cap, ArX A s P ps p n cap w
/-- a block of its own -/
def OwnW (A : Nat) (w : World) (k : Nat) : Prop := ∃ s P ps p n cap, ArX A s P ps p n cap w ∧ Own A P ps k
/-- the block of its set's edges -/
def EdgW (A : Nat) (w : World) (k : Nat) : Prop := ∃ s P ps p n cap off, ArX A s P ps p n cap w ∧ p = some ⟨k, off, none⟩
structure Went (A : Nat) (w w' : World) : Prop where
  os : w'.os = w.os
  tape : w'.tape = w.tape
  output : w'.output = w.output
  size : w.heap.size ≤ w'.heap.size
  block : ∀ k, k < w.heap.size → ¬ OwnW A w k → w'.heap[k]? = w.heap[k]?
  news : ∀ k, OwnW A w' k → OwnW A w k ∨ w.heap.size ≤ k
  edge : ∀ k, EdgW A w' k → EdgW A w k ∨ w.heap.size ≤ k

theorem ptrV_inj {a b : Option Nat} (h : ptrV a = ptrV b) : a = b := by
  cases a <;> cases b <;> simp_all [ptrV]
theorem rowV_inj {a b : List (Option Nat)} (h : rowV a = rowV b) : a = b := by
  have h1 : a.map ptrV = b.map ptrV := by simpa [rowV] using h
  clear h
  induction a generalizing b with
  | nil => cases b with
    | nil => rfl
    | cons y b => simp at h1
  | cons x a ih => cases b with
    | nil => simp at h1
    | cons y b =>
      simp only [List.map_cons, List.cons.injEq] at h1
      rw [ptrV_inj h1.1, ih h1.2]
theorem ArX.same {A P n cap : Nat} {s : ASt} {ps : List (Option Nat)} {p : Option Addr} {w : World} {P2 n2 cap2 : Nat} {s2 : ASt} {ps2 : List (Option Nat)} {p2 : Option Addr}
    (h : ArX A s P ps p n cap w) (k : ArX A s2 P2 ps2 p2 n2 cap2 w) : P = P2 ∧ ps = ps2 := by
  have h1 := h.hd; rw [k.hd] at h1
  have hP : P2 = P := by
    simp only [Option.some.injEq, Obj.cells.injEq, headV] at h1
    have := congrArg (fun x : Array Value => x[2]?) h1.1
    simp at this
    exact this.1
  subst hP
  have h2 := h.row; rw [k.row] at h2
  simp only [Option.some.injEq, Obj.cells.injEq] at h2
  exact ⟨rfl, (rowV_inj h2.1).symm⟩
theorem ownW_iff {A P n cap : Nat} {s : ASt} {ps : List (Option Nat)} {p : Option Addr} {w : World} (h : ArX A s P ps p n cap w) (k : Nat) : OwnW A w k ↔ Own A P ps k := by
  constructor
  · rintro ⟨s2, P2, ps2, p2, n2, cap2, h2, ho⟩
    obtain ⟨rfl, rfl⟩ := h.same h2
    exact ho
  · intro ho; exact ⟨s, P, ps, p, n, cap, h, ho⟩
theorem ArX.sameP {A P n cap : Nat} {s : ASt} {ps : List (Option Nat)} {p : Option Addr} {w : World} {P2 n2 cap2 : Nat} {s2 : ASt} {ps2 : List (Option Nat)} {p2 : Option Addr}
    (h : ArX A s P ps p n cap w) (k : ArX A s2 P2 ps2 p2 n2 cap2 w) : p = p2 := by
  have h1 := h.hd; rw [k.hd] at h1
  simp only [Option.some.injEq, Obj.cells.injEq, headV] at h1
  have := congrArg (fun x : Array Value => x[1]?) h1.1
  simp at this
  exact this.1.symm
theorem edgW_iff {A P n cap : Nat} {s : ASt} {ps : List (Option Nat)} {p : Option Addr} {w : World} (h : ArX A s P ps p n cap w) (k : Nat) : EdgW A w k ↔ ∃ off, p = some ⟨k, off, none⟩ := by
  constructor
  · rintro ⟨s2, P2, ps2, p2, n2, cap2, off, h2, ho⟩
    exact ⟨off, (h.sameP h2).trans ho⟩
  · rintro ⟨off, ho⟩; exact ⟨s, P, ps, p, n, cap, off, h, ho⟩
theorem On.lt {A : Nat} {s : ASt} {w : World} (h : On A s w) : A < w.heap.size := by obtain ⟨P, ps, p, n, cap, h⟩ := h; exact h.ltA
theorem On.good {A : Nat} {s : ASt} {w : World} (h : On A s w) : Good s.L s.es := by obtain ⟨P, ps, p, n, cap, h⟩ := h; exact h.good
theorem On.below {A : Nat} {s : ASt} {x y : World} (h : On A s x) (hb : Below x.heap.size x y) : On A s y := by
  obtain ⟨P, ps, p, n, cap, h⟩ := h; exact ⟨P, ps, p, n, cap, h.below hb⟩
theorem Went.refl (A : Nat) (w : World) : Went A w w := ⟨rfl, rfl, rfl, Nat.le_refl _, fun _ _ _ => rfl, fun _ h => .inl h, fun _ h => .inl h⟩
theorem Went.of_below {A : Nat} {s : ASt} {w w' : World} (h : On A s w) (hb : Below w.heap.size w w') : Went A w w' := by
  obtain ⟨P, ps, p, n, cap, h⟩ := h
  exact ⟨hb.os, hb.tape, hb.output, hb.size, fun k hk _ => hb.block k hk, fun k hk => .inl ((ownW_iff h k).2 ((ownW_iff (h.below hb) k).1 hk)), fun k hk => .inl ((edgW_iff h k).2 ((edgW_iff (h.below hb) k).1 hk))⟩
theorem Went.trans {A : Nat} {w w1 w2 : World} (h : Went A w w1) (k : Went A w1 w2) : Went A w w2 := by
  refine ⟨k.os.trans h.os, k.tape.trans h.tape, k.output.trans h.output, Nat.le_trans h.size k.size, fun i hi hn => ?_, fun i hi => ?_, fun i hi => ?_⟩
  · refine (k.block i (Nat.lt_of_lt_of_le hi h.size) fun ho => ?_).trans (h.block i hi hn)
    rcases h.news i ho with h1 | h1
    · exact hn h1
    · omega
  · rcases k.news i hi with h1 | h1
    · exact h.news i h1
    · exact .inr (Nat.le_trans h.size h1)
  · rcases k.edge i hi with h1 | h1
    · exact h.edge i h1
    · exact .inr (Nat.le_trans h.size h1)
theorem Went.of_turned {A P n cap : Nat} {s s' : ASt} {ps : List (Option Nat)} {p : Option Addr} {w w' : World} (h : ArX A s P ps p n cap w) (ht : Turned A P ps p s' w w') : On A s' w' ∧ Went A w w' := by
  obtain ⟨ps', p', n', cap', h1, h2, h3⟩ := ht
  refine ⟨⟨P, ps', p', n', cap', h1⟩, ⟨h2.os, h2.tape, h2.output, h2.size, fun k hk hn => h2.block k hk fun ho => hn ((ownW_iff h k).2 ho), fun k hk => ?_, fun k hk => ?_⟩⟩
  rotate_left
  · obtain ⟨off, ho⟩ := (edgW_iff h1 k).1 hk
    rcases h3 k off ho with h4 | h4
    · exact .inl ((edgW_iff h k).2 ⟨off, h4 ▸ ho⟩)
    · exact .inr h4
  rcases (ownW_iff h1 k).1 hk with rfl | rfl | ⟨j, hj⟩
  · exact .inl ((ownW_iff h _).2 (.inl rfl))
  · exact .inl ((ownW_iff h _).2 (.inr (.inl rfl)))
  · rcases h2.news j k hj with h3 | h3
    · exact .inl ((ownW_iff h _).2 (.inr (.inr ⟨j, h3⟩)))
    · exact .inr h3
/-- a block of no type of an arena's lies as it lay -/
theorem Went.keep {A : Nat} {s : ASt} {w w' : World} (h : On A s w) (k : Went A w w') {B : Nat} {c : Array Value} {T : TypeId} {fr : Nat × Nat} (hB : w.heap[B]? = some (.cells c T fr))
    (h1 : T ≠ 76) (h2 : T ≠ 77) (h3 : T ≠ 79) : w'.heap[B]? = some (.cells c T fr) := by
  obtain ⟨P, ps, p, n, cap, h⟩ := h
  exact (k.block B (Array.getElem?_eq_some_iff.1 hB).1 fun ho => own_not h hB h1 h2 h3 ((ownW_iff h _).1 ho)).trans hB
/-- a block that is no arena's: it may be written -/
structure Mine (A R : Nat) (w : World) : Prop where
  lt : R < w.heap.size
  own : ¬ OwnW A w R
  edg : ¬ EdgW A w R
theorem Mine.went {A R : Nat} {w w' : World} (h : Mine A R w) (k : Went A w w') : Mine A R w' := by
  refine ⟨Nat.lt_of_lt_of_le h.lt k.size, fun ho => ?_, fun ho => ?_⟩
  · rcases k.news R ho with h1 | h1
    · exact h.own h1
    · have := h.lt; omega
  · rcases k.edge R ho with h1 | h1
    · exact h.edg h1
    · have := h.lt; omega
theorem Mine.same {A R : Nat} {w w' : World} (h : Mine A R w) (k : Went A w w') : w'.heap[R]? = w.heap[R]? := k.block R h.lt h.own
theorem Mine.at {A R : Nat} {w w' : World} (h : Mine A R w) (k : Went A w w') {o : Obj} (ho : w.heap[R]? = some o) : w'.heap[R]? = some o := (h.same k).trans ho
theorem Mine.new {A : Nat} {s : ASt} {w : World} (h : On A s w) (o : Obj) : Mine A w.heap.size (w.alloc o) := by
  obtain ⟨P, ps, p, n, cap, h⟩ := h
  have h2 := h.below ((Below.refl _ _).alloc (Nat.le_refl _) o)
  refine ⟨by simp, fun ho => ?_, fun ho => ?_⟩
  · rcases (ownW_iff h2 _).1 ho with h3 | h3 | ⟨i, h3⟩
    · have := h.ltA; omega
    · have := h.ltP; omega
    · have := h.ltG h3; omega
  · obtain ⟨off, h3⟩ := (edgW_iff h2 _).1 ho
    have := h.ltE h3; omega
theorem set_other {x : World} {R o k : Nat} (v : Value) (h : k ≠ R) : (x.setCell ⟨R, o, none⟩ v).heap[k]? = x.heap[k]? := Below.heap_setCell _ ⟨R, o, none⟩ _ _ h
theorem Mine.arx {A P n cap R : Nat} {s : ASt} {ps : List (Option Nat)} {p : Option Addr} {w : World} (h : ArX A s P ps p n cap w) (hm : Mine A R w) (o : Nat) (v : Value) : ArX A s P ps p n cap (w.setCell ⟨R, o, none⟩ v) :=
  h.kept (by simp [World.setCell]) (set_other v fun e => hm.own ((ownW_iff h R).2 (.inl e.symm))) (set_other v fun e => hm.own ((ownW_iff h R).2 (.inr (.inl e.symm)))) (fun i b hb => set_other v fun e => hm.own ((ownW_iff h R).2 (.inr (.inr ⟨i, e ▸ hb⟩))))
    (fun b off e => set_other v fun e2 => hm.edg ((edgW_iff h R).2 ⟨off, e2 ▸ e⟩))
theorem On.set {A R : Nat} {s : ASt} {w : World} (h : On A s w) (hm : Mine A R w) (o : Nat) (v : Value) : On A s (w.setCell ⟨R, o, none⟩ v) := by
  obtain ⟨P, ps, p, n, cap, h⟩ := h; exact ⟨P, ps, p, n, cap, Mine.arx h hm o v⟩
theorem own_set {A R : Nat} {s : ASt} {w : World} (h : On A s w) (hm : Mine A R w) (o : Nat) (v : Value) (k : Nat) : (OwnW A (w.setCell ⟨R, o, none⟩ v) k ↔ OwnW A w k) ∧ (EdgW A (w.setCell ⟨R, o, none⟩ v) k ↔ EdgW A w k) := by
  obtain ⟨P, ps, p, n, cap, h⟩ := h
  have h2 := Mine.arx h hm o v
  exact ⟨(ownW_iff h2 k).trans (ownW_iff h k).symm, (edgW_iff h2 k).trans (edgW_iff h k).symm⟩
theorem Mine.set {A R R2 : Nat} {s : ASt} {w : World} (h : On A s w) (hm : Mine A R w) (hm2 : Mine A R2 w) (o : Nat) (v : Value) : Mine A R2 (w.setCell ⟨R, o, none⟩ v) :=
  ⟨by have := hm2.lt; simpa [World.setCell] using this, fun ho => hm2.own ((own_set h hm o v R2).1.1 ho), fun ho => hm2.edg ((own_set h hm o v R2).2.1 ho)⟩
theorem Went.set {A R : Nat} {s : ASt} {w x : World} (k : Went A w x) (h : On A s x) (hm : Mine A R x) (hR : w.heap.size ≤ R) (o : Nat) (v : Value) : Went A w (x.setCell ⟨R, o, none⟩ v) :=
  ⟨k.os, k.tape, k.output, by have := k.size; simpa [World.setCell] using this, fun i hi hn => (set_other v (by omega)).trans (k.block i hi hn), fun i hi => k.news i ((own_set h hm o v i).1.1 hi), fun i hi => k.edge i ((own_set h hm o v i).2.1 hi)⟩
/-- all that lay there ahead of a world w0 lies as it lay, and the arena came later -/
structure Base (A : Nat) (w0 w : World) : Prop where
  bel : Below w0.heap.size w0 w
  own : ∀ k, OwnW A w k → w0.heap.size ≤ k
  edg : ∀ k, EdgW A w k → w0.heap.size ≤ k
theorem Base.rebase {A : Nat} {w0 w1 x : World} (h : Base A w1 x) (hb : Below w0.heap.size w0 w1) : Base A w0 x :=
  ⟨hb.trans (h.bel.mono hb.size), fun k hk => Nat.le_trans hb.size (h.own k hk), fun k hk => Nat.le_trans hb.size (h.edg k hk)⟩
theorem Base.mine {A R : Nat} {w0 x : World} (h : Base A w0 x) (hR : R < w0.heap.size) : Mine A R x :=
  ⟨Nat.lt_of_lt_of_le hR h.bel.size, fun ho => by have := h.own R ho; omega, fun ho => by have := h.edg R ho; omega⟩
theorem Base.went {A : Nat} {w0 w w' : World} (h : Base A w0 w) (k : Went A w w') : Base A w0 w' := by
  refine ⟨h.bel.trans ⟨k.os, k.tape, k.output, k.size, fun i hi => k.block i (Nat.lt_of_lt_of_le hi h.bel.size) fun ho => ?_⟩, fun i hi => ?_, fun i hi => ?_⟩
  rotate_right
  · rcases k.edge i hi with h1 | h1
    · exact h.edg i h1
    · exact Nat.le_trans h.bel.size h1
  · have := h.own i ho; omega
  · rcases k.news i hi with h1 | h1
    · exact h.own i h1
    · exact Nat.le_trans h.bel.size h1
theorem Base.set {A R : Nat} {s : ASt} {w0 x : World} (k : Base A w0 x) (h : On A s x) (hm : Mine A R x) (hR : w0.heap.size ≤ R) (o : Nat) (v : Value) : Base A w0 (x.setCell ⟨R, o, none⟩ v) :=
  ⟨k.bel.setCell (p := ⟨R, o, none⟩) hR v, fun i hi => k.own i ((own_set h hm o v i).1.1 hi), fun i hi => k.edg i ((own_set h hm o v i).2.1 hi)⟩
theorem Base.below {A : Nat} {s : ASt} {w0 w w' : World} (h : Base A w0 w) (hA : On A s w) (hb : Below w.heap.size w w') : Base A w0 w' := h.went (Went.of_below hA hb)

/-- a call that returns r, behind which the arena is s' -/
def Ret (A : Nat) (s' : ASt) (r : Value) (w : World) (e : Ending) (w' : World) : Prop := e = .returned r ∧ On A s' w' ∧ Went A w w'
/-- a call that returns r and makes memory at most -/
def Gives (r : Value) (w : World) (e : Ending) (w' : World) : Prop := e = .returned r ∧ Below w.heap.size w w'

section
variable {A : Nat} {s : ASt} {w : World}
theorem On.ret {s' : ASt} {r : Value} {e : Ending} {w' : World} {P n cap : Nat} {ps : List (Option Nat)} {p : Option Addr} (h : ArX A s P ps p n cap w) (k : e = .returned r ∧ Turned A P ps p s' w w') : Ret A s' r w e w' :=
  ⟨k.1, Went.of_turned h k.2⟩
def ldV (s : ASt) (a k : Int) : Int := if numE s.L s.es a k = 0 then (numV s.mm a.toNat k.toNat : Int) else 0
def byV (s : ASt) (a k : Int) : ByteArray := if thereE s.L s.es a k = 0 then strL (getM s.mm a.toNat k.toNat) else ⟨#[]⟩
abbrev vwV (A va vs : Nat) : Value := .agg #[.pointer (some ⟨A, 0, none⟩), .int .i64 (va : Int), .int .i64 (vs : Int)]

theorem on_load (h : On A s w) (va vs : Nat) (h1 : va ≤ 4294967296) (h2 : vs ≤ 4294967296) (a k : Int) (ha : a ≤ 9223372036854775807) :
    Calls Tryz.prog 52 #[vwV A va vs, .int .i64 a, .int .i64 k] w (Gives (.tuple #[.int .u64 (ldV s (addrV va vs a k) k), .int .i64 (numE s.L s.es (addrV va vs a k) k)]) w) := by
  obtain ⟨P, ps, p, n, cap, h⟩ := h; exact vload_any h va vs h1 h2 a k ha
theorem on_bytes (h : On A s w) (va vs : Nat) (h1 : va ≤ 4294967296) (h2 : vs ≤ 4294967296) (a k : Int) (ha : a ≤ 9223372036854775807) :
    Calls Tryz.prog 67 #[vwV A va vs, .int .i64 a, .int .i64 k] w (Gives (.tuple #[.string (byV s (addrV va vs a k) k), .int .i64 (thereE s.L s.es (addrV va vs a k) k)]) w) := by
  obtain ⟨P, ps, p, n, cap, h⟩ := h; exact vbytes_any h va vs h1 h2 a k ha
theorem on_store (h : On A s w) (va vs : Nat) (h1 : va ≤ 4294967296) (h2 : vs ≤ 4294967296) (a k x : Int) (ha : a ≤ 9223372036854775807) (hx : 0 ≤ x) :
    Calls Tryz.prog 46 #[vwV A va vs, .int .i64 a, .int .i64 k, .int .u64 x] w (Ret A (storeS s (addrV va vs a k) k x) (.int .i64 (numE s.L s.es (addrV va vs a k) k)) w) := by
  obtain ⟨P, ps, p, n, cap, h⟩ := h; exact (vstore_any h va vs h1 h2 a k x ha hx).mono fun e w' k => On.ret h k
theorem on_put (h : On A s w) (va vs : Nat) (h1 : va ≤ 4294967296) (h2 : vs ≤ 4294967296) (a : Int) (ha : a ≤ 9223372036854775807) (x : ByteArray) (hx : x.size ≤ 9223372036854775807) :
    Calls Tryz.prog 80 #[vwV A va vs, .int .i64 a, .string x] w (Ret A (putS s (addrV va vs a x.size) x.data.toList) (.int .i64 (thereE s.L s.es (addrV va vs a x.size) x.data.toList.length)) w) := by
  obtain ⟨P, ps, p, n, cap, h⟩ := h; exact (vput_any h va vs h1 h2 a ha x hx).mono fun e w' k => On.ret h k
theorem on_fill (h : On A s w) (va vs : Nat) (h1 : va ≤ 4294967296) (h2 : vs ≤ 4294967296) (a k : Int) (ha : a ≤ 9223372036854775807) (y : UInt8) :
    Calls Tryz.prog 30 #[vwV A va vs, .int .i64 a, .int .i64 k, .int .u8 (y.toNat : Int)] w (Ret A (fillS s (addrV va vs a k) k y) (.int .i64 (thereE s.L s.es (addrV va vs a k) k)) w) := by
  obtain ⟨P, ps, p, n, cap, h⟩ := h; exact (vfill_any h va vs h1 h2 a k ha y).mono fun e w' k => On.ret h k
theorem on_copy (h : On A s w) (va vs : Nat) (h1 : va ≤ 4294967296) (h2 : vs ≤ 4294967296) (to fr k : Int) (ha : to ≤ 9223372036854775807) (hf : fr ≤ 9223372036854775807) :
    Calls Tryz.prog 29 #[vwV A va vs, .int .i64 to, .int .i64 fr, .int .i64 k] w (Ret A (copyS s (addrV va vs to k) (addrV va vs fr k) k) (.int .i64 (copyE s (addrV va vs to k) (addrV va vs fr k) k)) w) := by
  obtain ⟨P, ps, p, n, cap, h⟩ := h; exact (vcopy_any h va vs h1 h2 to fr k ha hf).mono fun e w' k => On.ret h k
theorem on_part (h : On A s w) (va vs : Nat) (h1 : va ≤ 4294967296) (h2 : vs ≤ 4294967296) (a k : Int) (ha : a ≤ 9223372036854775807) :
    Calls Tryz.prog 43 #[vwV A va vs, .int .i64 a, .int .i64 k] w (Gives (.tuple #[ofV (some ⟨A, 0, none⟩) (addrV va vs a k) k (thereE s.L s.es (addrV va vs a k) k), .int .i64 (thereE s.L s.es (addrV va vs a k) k)]) w) := by
  obtain ⟨P, ps, p, n, cap, h⟩ := h; exact vpart_any h va vs h1 h2 a k ha
theorem on_of (h : On A s w) (a k : Int) (ha : a ≤ 9223372036854775807) :
    Calls Tryz.prog 18 #[.pointer (some ⟨A, 0, none⟩), .int .i64 a, .int .i64 k] w (Gives (.tuple #[ofV (some ⟨A, 0, none⟩) a k (thereE s.L s.es a k), .int .i64 (thereE s.L s.es a k)]) w) := by
  obtain ⟨P, ps, p, n, cap, h⟩ := h; exact vof_any h a k ha
theorem on_commit (h : On A s w) (a k : Int) (ha : a ≤ 9223372036854775807) :
    Calls Tryz.prog 24 #[.pointer (some ⟨A, 0, none⟩), .int .i64 a, .int .i64 k] w (Ret A (commitS s a k) (.int .i64 (commitE s a k)) w) := by
  obtain ⟨P, ps, p, n, cap, h⟩ := h; exact (commit_any h a k ha).mono fun e w' k => On.ret h k
theorem on_aput (h : On A s w) (a : Int) (ha : a ≤ 9223372036854775807) (x : ByteArray) (hx : x.size ≤ 9223372036854775807) :
    Calls Tryz.prog 55 #[.pointer (some ⟨A, 0, none⟩), .int .i64 a, .string x] w (Ret A (putS s a x.data.toList) (.int .i64 (thereE s.L s.es a x.data.toList.length)) w) := by
  obtain ⟨P, ps, p, n, cap, h⟩ := h; exact (put_any h a ha x hx).mono fun e w' k => On.ret h k
theorem on_afill (h : On A s w) (a k : Int) (ha : a ≤ 9223372036854775807) (y : UInt8) :
    Calls Tryz.prog 50 #[.pointer (some ⟨A, 0, none⟩), .int .i64 a, .int .i64 k, .int .u8 (y.toNat : Int)] w (Ret A (fillS s a k y) (.int .i64 (thereE s.L s.es a k)) w) := by
  obtain ⟨P, ps, p, n, cap, h⟩ := h; exact (fill_any h a k ha y).mono fun e w' k => On.ret h k
theorem on_abytes (h : On A s w) (a k : Int) (ha : a ≤ 9223372036854775807) :
    Calls Tryz.prog 54 #[.pointer (some ⟨A, 0, none⟩), .int .i64 a, .int .i64 k] w (Gives (.tuple #[.string (byV s a k), .int .i64 (thereE s.L s.es a k)]) w) := by
  obtain ⟨P, ps, p, n, cap, h⟩ := h; exact bytes_any h a k ha
end
/-- a new arena -/
theorem on_new (c : Int) (w : World) : Calls Tryz.prog 23 #[.int .i64 c] w fun e w' => ∃ A, e = .returned (.pointer (some ⟨A, 0, none⟩)) ∧ w.heap.size ≤ A ∧ On A (newS (lenN c)) w' ∧ Base A w w' ∧ ∀ R, R < w.heap.size → Mine A R w' := by
  refine (arena_new c w).mono ?_
  rintro e w' ⟨A, P, he, hA, hP, hx, hb⟩
  have hO : ∀ k, OwnW A w' k → w.heap.size ≤ k := fun k hk => by
    rcases (ownW_iff hx k).1 hk with rfl | rfl | ⟨i, hi⟩
    · exact hA
    · exact hP
    · rw [List.getElem?_replicate] at hi; split at hi <;> cases hi
  refine ⟨A, he, hA, ⟨_, _, _, _, _, hx⟩, ⟨hb, hO, fun k hk => by obtain ⟨off, h3⟩ := (edgW_iff hx k).1 hk; cases h3⟩, fun R hR => ⟨Nat.lt_of_lt_of_le hR hb.size, fun ho => ?_, fun ho => ?_⟩⟩
  · have := hO R ho; omega
  · obtain ⟨off, h3⟩ := (edgW_iff hx R).1 ho; cases h3
end Go.Proofs.YtmnhpmgffhpoeaaGreat.Bt
