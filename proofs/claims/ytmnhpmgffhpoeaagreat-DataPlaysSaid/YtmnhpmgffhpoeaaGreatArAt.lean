/- An arena in memory, and what a call may turn of it. -/
import Derived.Test.YtmnhpmgffhpoeaaGreatArMath
namespace Go.Proofs.YtmnhpmgffhpoeaaGreat.Bt
set_option linter.unusedVariables false
open Go Go.RowKit

def ptrV : Option Nat → Value
  | none => .pointer none
  | some b => .pointer (some ⟨b, 0, none⟩)
def rowV (ps : List (Option Nat)) : Array Value := (ps.map ptrV).toArray
theorem rowV_get (ps : List (Option Nat)) (i : Nat) : (rowV ps)[i]? = (ps[i]?).map ptrV := by simp [rowV]
theorem rowV_set (ps : List (Option Nat)) (i : Nat) (v : Option Nat) : (rowV ps).setIfInBounds i (ptrV v) = rowV (ps.set i v) := by
  simp [rowV, List.map_set]
def headV (s : ASt) (P : Nat) (p : Option Addr) (n cap : Nat) : Array Value :=
  #[.int .i64 (s.L : Int), .slice p n cap, .slice (some ⟨P, 0, none⟩) s.L s.L, .bool s.rf, .int .i64 (s.lf : Int)]

/-- the arena in block A, its row of pages in block P, the pages ps, its set's edges at p -/
structure ArX (A : Nat) (s : ASt) (P : Nat) (ps : List (Option Nat)) (p : Option Addr) (n cap : Nat) (x : World) : Prop where
  good : Good s.L s.es
  len : ps.length = s.L
  hd : x.heap[A]? = some (.cells (headV s P p n cap) 76 (0, 0))
  row : x.heap[P]? = some (.cells (rowV ps) 77 (0, 0))
  pg : ∀ (i b : Nat), ps[i]? = some (some b) → x.heap[b]? = some (.cells (pgCells s.mm i) 79 (0, 0))
  no : ∀ (i : Nat), ps[i]? = some none → ∀ (j : Nat), j < 4096 → s.mm (i * 4096 + j) = 0
  un : ∀ (i b : Nat), ps[i]? = some (some b) → mem s.es (i : Int) = true
  edges : RowAt x p s.es
  num : n = s.es.length
  room : n ≤ cap
  nil : p = none → cap = 0
  ap : A ≠ P
  apg : ∀ (i b : Nat), ps[i]? = some (some b) → b ≠ A ∧ b ≠ P
  one : ∀ (i j b : Nat), ps[i]? = some (some b) → ps[j]? = some (some b) → i = j
  eap : ∀ b off, p = some ⟨b, off, none⟩ → b ≠ A ∧ b ≠ P ∧ ∀ i : Nat, ps[i]? ≠ some (some b)
  lfb : s.lf ≤ 9223372036854775807

/-- the blocks that a call may write to -/
def Own (A P : Nat) (ps : List (Option Nat)) (k : Nat) : Prop := k = A ∨ k = P ∨ ∃ i : Nat, ps[i]? = some (some k)
structure Step (A P : Nat) (ps ps' : List (Option Nat)) (w w' : World) : Prop where
  os : w'.os = w.os
  tape : w'.tape = w.tape
  output : w'.output = w.output
  size : w.heap.size ≤ w'.heap.size
  block : ∀ k, k < w.heap.size → ¬ Own A P ps k → w'.heap[k]? = w.heap[k]?
  news : ∀ i b : Nat, ps'[i]? = some (some b) → ps[i]? = some (some b) ∨ w.heap.size ≤ b
theorem Step.refl (A P : Nat) (ps : List (Option Nat)) (w : World) : Step A P ps ps w w := ⟨rfl, rfl, rfl, Nat.le_refl _, fun _ _ _ => rfl, fun _ _ h => .inl h⟩
theorem Step.of_below {A P : Nat} {ps : List (Option Nat)} {w w' : World} (h : Below w.heap.size w w') : Step A P ps ps w w' :=
  ⟨h.os, h.tape, h.output, h.size, fun k hk _ => h.block k hk, fun _ _ h => .inl h⟩
theorem Step.trans {A P : Nat} {ps ps1 ps2 : List (Option Nat)} {w w1 w2 : World} (h : Step A P ps ps1 w w1) (k : Step A P ps1 ps2 w1 w2) : Step A P ps ps2 w w2 := by
  refine ⟨k.os.trans h.os, k.tape.trans h.tape, k.output.trans h.output, Nat.le_trans h.size k.size, fun i hi hn => ?_, fun i b hb => ?_⟩
  · refine (k.block i (Nat.lt_of_lt_of_le hi h.size) fun ho => ?_).trans (h.block i hi hn)
    rcases ho with rfl | rfl | ⟨j, hj⟩
    · exact hn (.inl rfl)
    · exact hn (.inr (.inl rfl))
    · rcases h.news j i hj with h1 | h1
      · exact hn (.inr (.inr ⟨j, h1⟩))
      · omega
  · rcases k.news i b hb with h1 | h1
    · exact h.news i b h1
    · exact .inr (Nat.le_trans h.size h1)
theorem Step.below {A P B : Nat} {ps ps' : List (Option Nat)} {w w' : World} (h : Step A P ps ps' w w') (hB : B ≤ w.heap.size) (hA : B ≤ A) (hP : B ≤ P) (hp : ∀ i b : Nat, ps[i]? = some (some b) → B ≤ b) : Below B w w' :=
  ⟨h.os, h.tape, h.output, h.size, fun k hk => h.block k (by omega) fun ho => by
    rcases ho with rfl | rfl | ⟨j, hj⟩
    · omega
    · omega
    · have := hp j k hj; omega⟩

/-- the arena lies as it lay -/
theorem ArX.kept {A P n cap : Nat} {s : ASt} {ps : List (Option Nat)} {p : Option Addr} {x y : World} (h : ArX A s P ps p n cap x)
    (hs : x.heap.size ≤ y.heap.size) (hA : y.heap[A]? = x.heap[A]?) (hP : y.heap[P]? = x.heap[P]?) (hp : ∀ i b : Nat, ps[i]? = some (some b) → y.heap[b]? = x.heap[b]?) (he : ∀ b off, p = some ⟨b, off, none⟩ → y.heap[b]? = x.heap[b]?) : ArX A s P ps p n cap y :=
  { h with
    hd := hA.trans h.hd
    row := hP.trans h.row
    pg := fun i b hb => (hp i b hb).trans (h.pg i b hb)
    edges := h.edges.keep he }
theorem ArX.ltA {A P n cap : Nat} {s : ASt} {ps : List (Option Nat)} {p : Option Addr} {x : World} (h : ArX A s P ps p n cap x) : A < x.heap.size := (Array.getElem?_eq_some_iff.1 h.hd).1
theorem ArX.ltP {A P n cap : Nat} {s : ASt} {ps : List (Option Nat)} {p : Option Addr} {x : World} (h : ArX A s P ps p n cap x) : P < x.heap.size := (Array.getElem?_eq_some_iff.1 h.row).1
theorem ArX.ltG {A P n cap : Nat} {s : ASt} {ps : List (Option Nat)} {p : Option Addr} {x : World} (h : ArX A s P ps p n cap x) {i b : Nat} (hb : ps[i]? = some (some b)) : b < x.heap.size := (Array.getElem?_eq_some_iff.1 (h.pg i b hb)).1
theorem ArX.ltE {A P n cap : Nat} {s : ASt} {ps : List (Option Nat)} {p : Option Addr} {x : World} (h : ArX A s P ps p n cap x) {b off : Nat} (hb : p = some ⟨b, off, none⟩) : b < x.heap.size := by
  have := h.edges; rw [hb] at this; exact this.lt
theorem ArX.below {A P n cap : Nat} {s : ASt} {ps : List (Option Nat)} {p : Option Addr} {x y : World} (h : ArX A s P ps p n cap x) (hb : Below x.heap.size x y) : ArX A s P ps p n cap y :=
  h.kept hb.size (hb.block _ h.ltA) (hb.block _ h.ltP) (fun _ _ e => hb.block _ (h.ltG e)) (fun _ _ e => hb.block _ (h.ltE e))
/-- another arena, apart from it -/
theorem ArX.other {A P n cap : Nat} {s : ASt} {ps : List (Option Nat)} {p : Option Addr} {x y : World} {A2 P2 : Nat} {qs qs' : List (Option Nat)} (h : ArX A s P ps p n cap x) (st : Step A2 P2 qs qs' x y)
    (hA : ¬ Own A2 P2 qs A) (hP : ¬ Own A2 P2 qs P) (hp : ∀ i b : Nat, ps[i]? = some (some b) → ¬ Own A2 P2 qs b) (he : ∀ b off, p = some ⟨b, off, none⟩ → ¬ Own A2 P2 qs b) : ArX A s P ps p n cap y :=
  h.kept st.size (st.block _ h.ltA hA) (st.block _ h.ltP hP) (fun i b e => st.block _ (h.ltG e) (hp i b e)) (fun b off e => st.block _ (h.ltE e) (he b off e))

/-- the cells of its head -/
def Head (A P : Nat) (s : ASt) (p : Option Addr) (n cap : Nat) (x : World) : Prop :=
  x.cell? ⟨A, 0, none⟩ = some (.int .i64 (s.L : Int)) ∧ x.cell? ⟨A, 1, none⟩ = some (.slice p n cap) ∧ x.cell? ⟨A, 2, none⟩ = some (.slice (some ⟨P, 0, none⟩) s.L s.L) ∧ x.cell? ⟨A, 3, none⟩ = some (.bool s.rf) ∧ x.cell? ⟨A, 4, none⟩ = some (.int .i64 (s.lf : Int))
theorem ArX.head {A P n cap : Nat} {s : ASt} {ps : List (Option Nat)} {p : Option Addr} {x : World} (h : ArX A s P ps p n cap x) : Head A P s p n cap x :=
  ⟨(cell_blk h.hd 0).1, (cell_blk h.hd 1).1, (cell_blk h.hd 2).1, (cell_blk h.hd 3).1, (cell_blk h.hd 4).1⟩
theorem ArX.free {A P n cap : Nat} {s : ASt} {ps : List (Option Nat)} {p : Option Addr} {x : World} (h : ArX A s P ps p n cap x) (o : Nat) : x.frozen? ⟨A, o, none⟩ = false := (cell_blk h.hd o).2
theorem ArX.slot {A P n cap : Nat} {s : ASt} {ps : List (Option Nat)} {p : Option Addr} {x : World} (h : ArX A s P ps p n cap x) {i : Nat} {q : Option Nat} (hq : ps[i]? = some q) : x.cell? ⟨P, i, none⟩ = some (ptrV q) := by
  rw [(cell_blk h.row i).1, rowV_get, hq]; rfl
theorem ArX.byte {A P n cap : Nat} {s : ASt} {ps : List (Option Nat)} {p : Option Addr} {x : World} (h : ArX A s P ps p n cap x) {i b j : Nat} (hq : ps[i]? = some (some b)) (hj : j < 4096) : x.cell? ⟨b, j, none⟩ = some (.int .u8 ((s.mm (i * 4096 + j)).toNat : Int)) := by
  rw [(cell_blk (h.pg i b hq) j).1, pg_get _ _ _ hj]

/-- a page written -/
theorem ArX.paged {A P n cap : Nat} {s : ASt} {ps : List (Option Nat)} {p : Option Addr} {x y : World} (h : ArX A s P ps p n cap x) {i b : Nat} (hb : ps[i]? = some (some b)) {m' : Nat → UInt8}
    (hs : x.heap.size ≤ y.heap.size) (hy : y.heap[b]? = some (.cells (pgCells m' i) 79 (0, 0))) (ho : ∀ k, k < x.heap.size → k ≠ b → y.heap[k]? = x.heap[k]?) (hm : ∀ k, k / 4096 ≠ i → m' k = s.mm k) :
    ArX A { s with mm := m' } P ps p n cap y := by
  have hbA := h.apg i b hb
  exact { h with
    hd := (ho A h.ltA (Ne.symm hbA.1)).trans h.hd
    row := (ho P h.ltP (Ne.symm hbA.2)).trans h.row
    pg := fun j c hc => by
      by_cases e : c = b
      · subst e
        have hij := h.one i j c hb hc
        subst hij
        exact hy
      · refine (ho c (h.ltG hc) e).trans ((h.pg j c hc).trans ?_)
        have hij : i ≠ j := fun e2 => by subst e2; rw [hb] at hc; cases hc; exact e rfl
        rw [pg_ext fun k hk => (hm (j * 4096 + k) (by omega)).symm]
    no := fun j hj k hk => by
      have hij : i ≠ j := fun e2 => by subst e2; rw [hb] at hj; cases hj
      show m' _ = 0
      rw [hm _ (by omega)]; exact h.no j hj k hk
    edges := h.edges.keep fun c off e => by
      have hc := h.eap c off e
      exact ho c (h.ltE e) fun e2 => hc.2.2 i (by rw [e2]; exact hb) }

theorem heap_set {x : World} {b o : Nat} {c : Array Value} {T : TypeId} {fr : Nat × Nat} (h : x.heap[b]? = some (.cells c T fr)) (v : Value) : (x.setCell ⟨b, o, none⟩ v).heap[b]? = some (.cells (c.setIfInBounds o v) T fr) := by
  simp [World.setCell, Array.getElem?_modify, h]
theorem heap_new (x : World) (o : Obj) : (x.alloc o).heap[x.heap.size]? = some o := by
  show (x.heap.push o)[x.heap.size]? = _
  simp
theorem set_size (x : World) (a : Addr) (v : Value) : (x.setCell a v).heap.size = x.heap.size := by simp [World.setCell]

/-- the arena in block A, all its own blocks from B on -/
def ArAt (B A : Nat) (s : ASt) (x : World) : Prop := ∃ P ps p n cap, ArX A s P ps p n cap x ∧ B ≤ A ∧ B ≤ P ∧ (∀ i b : Nat, ps[i]? = some (some b) → B ≤ b)
theorem ArAt.below {B A : Nat} {s : ASt} {x y : World} (h : ArAt B A s x) (hb : Below x.heap.size x y) : ArAt B A s y := by
  obtain ⟨P, ps, p, n, cap, h1, h2⟩ := h
  exact ⟨P, ps, p, n, cap, h1.below hb, h2⟩
theorem ArAt.lt {B A : Nat} {s : ASt} {x : World} (h : ArAt B A s x) : A < x.heap.size := by
  obtain ⟨P, ps, p, n, cap, h1, h2⟩ := h
  exact h1.ltA
/-- what a call that turns the arena comes to -/
def Turned (A P : Nat) (ps : List (Option Nat)) (p : Option Addr) (s' : ASt) (w w' : World) : Prop :=
  ∃ ps' p' n' cap', ArX A s' P ps' p' n' cap' w' ∧ Step A P ps ps' w w' ∧ (∀ b off, p' = some ⟨b, off, none⟩ → p' = p ∨ w.heap.size ≤ b)
theorem Turned.at {A P B : Nat} {ps : List (Option Nat)} {p : Option Addr} {s' : ASt} {w w' : World} (h : Turned A P ps p s' w w') (hB : B ≤ w.heap.size) (hA : B ≤ A) (hP : B ≤ P) (hp : ∀ i b : Nat, ps[i]? = some (some b) → B ≤ b) :
    ArAt B A s' w' ∧ Below B w w' := by
  obtain ⟨ps', p', n', cap', h1, h2, _⟩ := h
  refine ⟨⟨P, ps', p', n', cap', h1, hA, hP, fun i b hb => ?_⟩, h2.below hB hA hP hp⟩
  rcases h2.news i b hb with h3 | h3
  · exact hp i b h3
  · omega
theorem Turned.trans {A P : Nat} {ps : List (Option Nat)} {p : Option Addr} {s' s2 : ASt} {w w1 w2 : World} {ps1 : List (Option Nat)} {p1 : Option Addr} (st : Step A P ps ps1 w w1) (hp1 : ∀ b off, p1 = some ⟨b, off, none⟩ → p1 = p ∨ w.heap.size ≤ b)
    (h : Turned A P ps1 p1 s2 w1 w2) : Turned A P ps p s2 w w2 := by
  obtain ⟨ps', p', n', cap', h1, h2, h3⟩ := h
  refine ⟨ps', p', n', cap', h1, st.trans h2, fun b off e => ?_⟩
  rcases h3 b off e with h4 | h4
  · rw [h4] at e ⊢; exact hp1 b off e
  · exact .inr (Nat.le_trans st.size h4)
end Go.Proofs.YtmnhpmgffhpoeaaGreat.Bt
