/- A table of handles in memory, and the contracts of its small functions. (Written by gen_hna.py.) -/
import Derived.Test.YtllghngjnhbmaaaOnB
import Derived.Test.YtllghngjnhbmaaaLsA
import Derived.Test.YtllghngjnhbmaaaArFull
namespace Go.Proofs.Ytllghngjnhbmaaa.Bt
open Go Go.RowKit Go.Shelf
set_option linter.unusedVariables false
set_option linter.unusedSimpArgs false
/-- the arena of the statements: two pages -/
abbrev hS (m : Nat → UInt8) : ASt := fullS 2 m
theorem hS_there {m : Nat → UInt8} {a k : Int} (h0 : 0 ≤ a) (h1 : 0 ≤ k) (h2 : a + k ≤ 8192) : thereE (hS m).L (hS m).es a k = 0 := by
  show thereE 2 [0, 2] a k = 0
  rw [thereE_full (by omega) (by omega), if_pos (by omega)]
theorem hS_not {m : Nat → UInt8} {a k : Int} (h0 : a < 0) : thereE (hS m).L (hS m).es a k = 3 := by
  show thereE 2 [0, 2] a k = 3
  rw [thereE_full (by omega) (by omega), if_neg (by omega)]
abbrev zvV : Value := .agg #[.pointer none, .int .i64 0, .int .i64 0]
theorem ofV_ok (pu : Option Addr) (a k : Int) : ofV pu a k 0 = .agg #[.pointer pu, .int .i64 a, .int .i64 k] := by unfold ofV; rw [if_pos rfl]
theorem ofV_no (pu : Option Addr) (a k : Int) : ofV pu a k 3 = zvV := by unfold ofV; rw [if_neg (by decide)]
/-- how many slots -/
def nS (vs : Nat) : Nat := min (vs / 16) 256
theorem addr_in {va vs : Nat} {a k : Int} (h : 0 ≤ a ∧ 0 ≤ k ∧ k ≤ (vs : Int) - a) : addrV va vs a k = (va : Int) + a := by unfold addrV; rw [if_pos h]
theorem addr_out {va vs : Nat} {a k : Int} (h : ¬ (0 ≤ a ∧ 0 ≤ k ∧ k ≤ (vs : Int) - a)) : addrV va vs a k = -1 := by unfold addrV; rw [if_neg h]
/-- the slots' addresses, and generations -/
structure Hd (m : Nat → UInt8) (n : Nat) (q : Nat → Nat × Nat) : Prop where
  a : ∀ i, i < n → numV m (16 + 16 * i) 8 = (q i).1
  g : ∀ i, i < n → numV m (16 + 16 * i + 8) 8 = (q i).2
  b : ∀ i, (q i).1 < 9223372036854775808 ∧ (q i).2 < 72057594037927936
def upd (q : Nat → Nat × Nat) (i : Nat) (v : Nat × Nat) : Nat → Nat × Nat := fun j => if j = i then v else q j
theorem upd_same (q : Nat → Nat × Nat) (i : Nat) (v : Nat × Nat) : upd q i v i = v := if_pos rfl
theorem upd_other {q : Nat → Nat × Nat} {i j : Nat} {v : Nat × Nat} (h : j ≠ i) : upd q i v j = q j := if_neg h
/-- another address is laid -/
theorem Hd.hold {m : Nat → UInt8} {n i v : Nat} {q : Nat → Nat × Nat} (h : Hd m n q) (hv : v < 9223372036854775808) : Hd (put8 m (16 + 16 * i) v) n (upd q i (v, (q i).2)) := by
  refine ⟨fun j hj => ?_, fun j hj => ?_, fun j => ?_⟩
  · by_cases e : j = i
    · subst e; rw [upd_same]; exact put8_same _ _ _ (by omega)
    · rw [upd_other e, put8_far _ _ (by omega)]; exact h.a j hj
  · by_cases e : j = i
    · subst e; rw [upd_same, put8_far _ _ (by omega)]; exact h.g j hj
    · rw [upd_other e, put8_far _ _ (by omega)]; exact h.g j hj
  · by_cases e : j = i
    · subst e; rw [upd_same]; exact ⟨hv, (h.b j).2⟩
    · rw [upd_other e]; exact h.b j
/-- another generation is laid -/
theorem Hd.gen {m : Nat → UInt8} {n i v : Nat} {q : Nat → Nat × Nat} (h : Hd m n q) (hv : v < 72057594037927936) : Hd (put8 m (16 + 16 * i + 8) v) n (upd q i ((q i).1, v)) := by
  refine ⟨fun j hj => ?_, fun j hj => ?_, fun j => ?_⟩
  · by_cases e : j = i
    · subst e; rw [upd_same, put8_far _ _ (by omega)]; exact h.a j hj
    · rw [upd_other e, put8_far _ _ (by omega)]; exact h.a j hj
  · by_cases e : j = i
    · subst e; rw [upd_same]; exact put8_same _ _ _ (by omega)
    · rw [upd_other e, put8_far _ _ (by omega)]; exact h.g j hj
  · by_cases e : j = i
    · subst e; rw [upd_same]; exact ⟨(h.b j).1, hv⟩
    · rw [upd_other e]; exact h.b j
theorem upd_twice (q : Nat → Nat × Nat) (i a g : Nat) : upd (upd q i ((q i).1, g)) i (a, (upd q i ((q i).1, g) i).2) = upd q i (a, g) := by
  funext j
  by_cases e : j = i
  · subst e; rw [upd_same, upd_same, upd_same]
  · rw [upd_other e, upd_other e, upd_other e]
/-- a slot's view in a variable -/
def VwC (F A a : Nat) (x : World) : Prop := x.heap[F]? = some (.cells #[.pointer (some ⟨A, 0, none⟩), .int .i64 ((a : Nat) : Int), .int .i64 16] 27 (0, 0))
theorem VwC.below {F A a : Nat} {x z : World} (h : VwC F A a x) (hb : Below x.heap.size x z) : VwC F A a z := (hb.block _ (Array.getElem?_eq_some_iff.1 (show x.heap[F]? = _ from h)).1).trans h
theorem VwC.all {F A a : Nat} {x : World} (h : VwC F A a x) : x.cell? ⟨F, 0, none⟩ = some (.pointer (some ⟨A, 0, none⟩)) ∧ x.cell? ⟨F, 1, none⟩ = some (.int .i64 (a : Int)) ∧ x.cell? ⟨F, 2, none⟩ = some (.int .i64 16) :=
  ⟨(cell_blk h 0).1, (cell_blk h 1).1, (cell_blk h 2).1⟩
def ZwC (F : Nat) (x : World) : Prop := x.heap[F]? = some (.cells #[.pointer none, .int .i64 0, .int .i64 0] 27 (0, 0))
theorem ZwC.below {F : Nat} {x z : World} (h : ZwC F x) (hb : Below x.heap.size x z) : ZwC F z := (hb.block _ (Array.getElem?_eq_some_iff.1 (show x.heap[F]? = _ from h)).1).trans h
theorem ZwC.all {F : Nat} {x : World} (h : ZwC F x) : x.cell? ⟨F, 0, none⟩ = some (.pointer none) ∧ x.cell? ⟨F, 1, none⟩ = some (.int .i64 0) ∧ x.cell? ⟨F, 2, none⟩ = some (.int .i64 0) :=
  ⟨(cell_blk h 0).1, (cell_blk h 1).1, (cell_blk h 2).1⟩
theorem hopen (pa : Option Addr) (va vs : Nat) (w : World) : Calls Try.prog 22 #[.agg #[.pointer pa, .int .i64 (va : Int), .int .i64 (vs : Int)]] w (Gives (.agg #[.pointer pa, .int .i64 (va : Int), .int .i64 (vs : Int)]) w) := by
  go_enter Try.func22, Try.ntmps22
  go_wp2_with fail
  exact bodyPost_ret (v := .agg #[.pointer pa, .int .i64 (va : Int), .int .i64 (vs : Int)]) (by simp [results, Try.results22, go_sem]) rfl ⟨rfl, below2 _ _ _⟩
theorem hlen (pa : Option Addr) (va vs : Nat) (h2 : vs ≤ 5000) (w : World) : Calls Try.prog 24 #[.agg #[.pointer pa, .int .i64 (va : Int), .int .i64 (vs : Int)]] w (Gives (.int .i64 (nS vs : Int)) w) := by
  have q1 : IntKind.i64.wrap ((vs : Int).tdiv 16) = ((vs / 16 : Nat) : Int) := by rw [Int.tdiv_eq_ediv_of_nonneg (by omega), IntWalk.i64_in _ (by omega)]; omega
  have q2 : (vs : Int).tdiv 16 = ((vs / 16 : Nat) : Int) := by rw [Int.tdiv_eq_ediv_of_nonneg (by omega)]; omega
  obtain ⟨d, hd⟩ : ∃ d, vs / 16 = d := ⟨_, rfl⟩
  have hN : Hid (nS vs = min d 256) := Lib.hid (by unfold nS; rw [hd])
  rw [hd] at q1 q2
  have hdb : d ≤ 5000 := by omega
  have q3 : IntKind.i64.wrap (d : Int) = (d : Int) := by rw [IntKind.wrap_i64]; omega
  have q4 : wrap64 (d : Int) = (d : Int) := IntWalk.wrap64_in _ ⟨by omega, by omega⟩
  have HQ := Lib.hid (And.intro q1 (And.intro q2 (And.intro q3 q4)))
  clear q1 q2 q3 q4 hd
  by_cases hc : d ≤ 256
  · have hm : nS vs = d := by rw [hN.out]; omega
    rw [hm]
    have hc2 : (d : Int) ≤ 256 := by omega
    go_enter Try.func24, Try.ntmps24
    go_wp2_with fail
    refine (vsize_any pa va vs _).mono ?_
    rintro e w1 ⟨rfl, hb⟩
    obtain ⟨q1, q2, q3, q4⟩ := HQ.out
    go_wp2_with fail
    go_ret
    exact ⟨by first | rfl | (simp [q1, q2]; omega), ((Below.refl w.heap.size w).alloc (Nat.le_refl _) _).trans (hb.mono (by simp))⟩
  · have hm : nS vs = 256 := by rw [hN.out]; omega
    rw [hm]
    have hc2 : ¬ ((d : Int) ≤ 256) := by omega
    go_enter Try.func24, Try.ntmps24
    go_wp2_with fail
    refine (vsize_any pa va vs _).mono ?_
    rintro e w1 ⟨rfl, hb⟩
    obtain ⟨q1, q2, q3, q4⟩ := HQ.out
    go_wp2_with fail
    go_ret
    exact ⟨by first | rfl | (simp [q1, q2]; omega), ((Below.refl w.heap.size w).alloc (Nat.le_refl _) _).trans (hb.mono (by simp))⟩
theorem hname (i g : Nat) (hi : i < 256) (hg : g < 72057594037927936) (w : World) : Calls Try.prog 42 #[.int .i64 (i : Int), .int .u64 (g : Int)] w (Gives (.int .u64 ((256 * g + i : Nat) : Int)) w) := by
  have q1 : IntKind.u64.wrap ((g : Int) * 256) = (g : Int) * 256 := by rw [IntKind.wrap_u64]; omega
  have q2 : IntKind.u64.wrap (i : Int) = (i : Int) := by rw [IntKind.wrap_u64]; omega
  have q3 : IntKind.u64.wrap ((g : Int) * 256 + (i : Int)) = ((256 * g + i : Nat) : Int) := by rw [IntKind.wrap_u64]; omega
  have q4 : IntKind.u64.wrap ((256 * g + i : Nat) : Int) = ((256 * g + i : Nat) : Int) := by rw [IntKind.wrap_u64]; omega
  clear hi hg
  go_enter Try.func42, Try.ntmps42
  go_wp2_with fail
  go_ret
  exact ⟨by first | rfl | simp [q1, q2, q3, q4], Below.refl _ _⟩
theorem hgeneration (h : Nat) (hh : h < 18446744073709551616) (w : World) : Calls Try.prog 37 #[.int .u64 (h : Int)] w (Gives (.int .u64 ((h / 256 : Nat) : Int)) w) := by
  have q0 : (h : Int).tdiv 256 = ((h / 256 : Nat) : Int) := by rw [Int.tdiv_eq_ediv_of_nonneg (by omega)]; omega
  have q1 : IntKind.u64.wrap ((h : Int).tdiv 256) = ((h / 256 : Nat) : Int) := by rw [q0, IntKind.wrap_u64]; omega
  have q2 : IntKind.u64.wrap ((h / 256 : Nat) : Int) = ((h / 256 : Nat) : Int) := by rw [IntKind.wrap_u64]; omega
  have q3 : IntKind.u64.wrap ((h : Int) / 256) = (h : Int) / 256 := by rw [IntKind.wrap_u64]; omega
  clear hh
  go_enter Try.func37, Try.ntmps37
  go_wp2_with fail
  go_ret
  exact ⟨by first | rfl | simp [q0, q1, q2, q3], Below.refl _ _⟩
def st3 (x : World) (O : Nat) (a b c : Value) : World := ((x.setCell ⟨O, 0, none⟩ a).setCell ⟨O, 1, none⟩ b).setCell ⟨O, 2, none⟩ c
theorem st3_at {x : World} {O : Nat} {T : TypeId} {a b c : Value} (h : x.heap[O]? = some (.cells #[a, b, c] T (0, 0))) (v0 v1 v2 : Value) : (st3 x O v0 v1 v2).heap[O]? = some (.cells #[v0, v1, v2] T (0, 0)) := by
  have := heap_set (o := 2) (heap_set (o := 1) (heap_set (o := 0) h v0) v1) v2
  simpa [st3] using this
theorem st3_below {x w : World} {O base : Nat} (h : Below base w x) (hO : base ≤ O) (v0 v1 v2 : Value) : Below base w (st3 x O v0 v1 v2) :=
  ((h.setCell (p := ⟨O, 0, none⟩) hO v0).setCell (p := ⟨O, 1, none⟩) hO v1).setCell (p := ⟨O, 2, none⟩) hO v2
/-- behind the entry: the table's variable in block C, the result's in block O -/
structure EnS (C O A vs : Nat) (m : Nat → UInt8) (w x : World) : Prop where
  c : x.heap[C]? = some (.cells #[.pointer (some ⟨A, 0, none⟩), .int .i64 16, .int .i64 (vs : Int)] 29 (0, 0))
  o : x.heap[O]? = some (.cells #[.pointer none, .int .i64 0, .int .i64 0] 27 (0, 0))
  on : On A (hS m) x
  be : Below w.heap.size w x
  os : w.heap.size ≤ O
theorem EnS.below {C O A vs : Nat} {m : Nat → UInt8} {w x z : World} (h : EnS C O A vs m w x) (hb : Below x.heap.size x z) : EnS C O A vs m w z :=
  ⟨(hb.block _ (Array.getElem?_eq_some_iff.1 h.c).1).trans h.c, (hb.block _ (Array.getElem?_eq_some_iff.1 h.o).1).trans h.o, h.on.below hb, h.be.trans (hb.mono h.be.size), h.os⟩
theorem EnS.start {A vs : Nat} {m : Nat → UInt8} {w : World} (h : On A (hS m) w) : EnS w.heap.size (w.heap.size + 1) A vs m w ((w.alloc (.cells #[.pointer (some ⟨A, 0, none⟩), .int .i64 16, .int .i64 (vs : Int)] 29)).alloc (.cells #[.pointer none, .int .i64 0, .int .i64 0] 27)) :=
  ⟨(pairs_new w _ _ _ _).1, (pairs_new w _ _ _ _).2, h.below (below2 _ _ _), below2 _ _ _, by omega⟩
theorem EnS.all {C O A vs : Nat} {m : Nat → UInt8} {w x : World} (h : EnS C O A vs m w x) : (x.cell? ⟨C, 0, none⟩ = some (.pointer (some ⟨A, 0, none⟩)) ∧ x.cell? ⟨C, 1, none⟩ = some (.int .i64 16) ∧ x.cell? ⟨C, 2, none⟩ = some (.int .i64 (vs : Int))) ∧
    x.frozen? ⟨O, 0, none⟩ = false ∧ x.frozen? ⟨O, 1, none⟩ = false ∧ x.frozen? ⟨O, 2, none⟩ = false :=
  ⟨⟨(cell_blk h.c 0).1, (cell_blk h.c 1).1, (cell_blk h.c 2).1⟩, (cell_blk h.o 0).2, (cell_blk h.o 1).2, (cell_blk h.o 2).2⟩
theorem EnS.old {C O A vs : Nat} {m : Nat → UInt8} {w x : World} (h : EnS C O A vs m w x) : x.cell? ⟨O, 0, none⟩ = some (.pointer none) ∧ x.cell? ⟨O, 1, none⟩ = some (.int .i64 0) ∧ x.cell? ⟨O, 2, none⟩ = some (.int .i64 0) :=
  ⟨(cell_blk h.o 0).1, (cell_blk h.o 1).1, (cell_blk h.o 2).1⟩
section
variable {A vs : Nat} {m : Nat → UInt8} {w : World}
theorem hslot_in (h : On A (hS m) w) (hv : vs ≤ 5000) (i : Nat) (hi : i < vs / 16) : Calls Try.prog 41 #[vwV A 16 vs, .int .i64 (i : Int)] w (Gives (.tuple #[vwV A (16 + 16 * i) 16, .int .i64 0]) w) := by
  have e : addrV 16 vs ((i : Int) * 16) 16 = ((16 + 16 * i : Nat) : Int) := by rw [addr_in (by omega)]; push_cast; omega
  have hp : Hid (∀ X, On A (hS m) X → Calls Try.prog 56 #[vwV A 16 vs, .int .i64 ((i : Int) * 16), .int .i64 16] X (Gives (.tuple #[vwV A (16 + 16 * i) 16, .int .i64 0]) X)) := Lib.hid fun X hX => by
    have := on_part hX 16 vs (by omega) (by omega) ((i : Int) * 16) 16 (by omega)
    rw [e, hS_there (by omega) (by omega) (by omega), ofV_ok] at this
    exact this
  have q1 : IntKind.i64.wrap ((i : Int) * 16) = (i : Int) * 16 := by rw [IntKind.wrap_i64]; omega
  clear hi e
  have HE0 := Lib.hid (EnS.start (vs := vs) h)
  go_enter Try.func41, Try.ntmps41
  go_upto_region 1 with fail
  change Code.wp _ _ _ _ ((w.alloc (.cells #[.pointer (some ⟨A, 0, none⟩), .int .i64 16, .int .i64 (vs : Int)] 29)).alloc (.cells #[.pointer none, .int .i64 0, .int .i64 0] 27))
  obtain ⟨y, hy⟩ : ∃ y, (w.alloc (.cells #[.pointer (some ⟨A, 0, none⟩), .int .i64 16, .int .i64 (vs : Int)] 29)).alloc (.cells #[.pointer none, .int .i64 0, .int .i64 0] 27) = y := ⟨_, rfl⟩
  obtain ⟨C, hC⟩ : ∃ C, w.heap.size = C := ⟨_, rfl⟩
  obtain ⟨O, hO⟩ : ∃ O, w.heap.size + 1 = O := ⟨_, rfl⟩
  have HWC := Lib.hid hC
  have he0 := HE0.out
  rw [hy, hO, hC] at he0
  rw [hy, hO, hC]
  have HE := Lib.hid he0
  clear hy hC hO he0 HE0
  obtain ⟨⟨c0, c1, c2⟩, f0, f1, f2⟩ := HE.out.all
  obtain ⟨u0, u1, u2⟩ := HE.out.old
  go_wp2_with fail
  refine (hp.out _ HE.out.on).mono ?_
  rintro e w1 ⟨rfl, hb⟩
  have HEN := Lib.hid (HE.out.below hb)
  clear hb HE c0 c1 c2 f0 f1 f2 u0 u1 u2
  obtain ⟨_, f0, f1, f2⟩ := HEN.out.all
  obtain ⟨u0, u1, u2⟩ := HEN.out.old
  go_wp2_with fail
  change bodyPost _ _ _ _ _ (st3 w1 O (.pointer (some ⟨A, 0, none⟩)) (.int .i64 ((16 + 16 * i : Nat) : Int)) (.int .i64 16))
  have hz := st3_at (HEN.out.o) (.pointer (some ⟨A, 0, none⟩)) (.int .i64 ((16 + 16 * i : Nat) : Int)) (.int .i64 16)
  have HZB := Lib.hid (st3_below HEN.out.be HEN.out.os (.pointer (some ⟨A, 0, none⟩)) (.int .i64 ((16 + 16 * i : Nat) : Int)) (.int .i64 16))
  obtain ⟨z, hzz⟩ : ∃ z, st3 w1 O (.pointer (some ⟨A, 0, none⟩)) (.int .i64 ((16 + 16 * i : Nat) : Int)) (.int .i64 16) = z := ⟨_, rfl⟩
  rw [hzz] at hz HZB ⊢
  have g0 := (cell_blk hz 0).1; have g1 := (cell_blk hz 1).1; have g2 := (cell_blk hz 2).1
  exact bodyPost_ret (v := .tuple #[.agg #[.pointer (some ⟨A, 0, none⟩), .int .i64 ((16 + 16 * i : Nat) : Int), .int .i64 16], .int .i64 0]) (by simp [results, Try.results41, go_sem, g0, g1, g2]) rfl ⟨rfl, HZB.out⟩
theorem hslot_out (h : On A (hS m) w) (hv : vs ≤ 5000) (i : Nat) (hi : vs / 16 ≤ i) (hi2 : i < 256) : Calls Try.prog 41 #[vwV A 16 vs, .int .i64 (i : Int)] w (Gives (.tuple #[zvV, .int .i64 3]) w) := by
  have e : addrV 16 vs ((i : Int) * 16) 16 = -1 := addr_out (by omega)
  have hp : Hid (∀ X, On A (hS m) X → Calls Try.prog 56 #[vwV A 16 vs, .int .i64 ((i : Int) * 16), .int .i64 16] X (Gives (.tuple #[zvV, .int .i64 3]) X)) := Lib.hid fun X hX => by
    have := on_part hX 16 vs (by omega) (by omega) ((i : Int) * 16) 16 (by omega)
    rw [e, hS_not (by omega), ofV_no] at this
    exact this
  have q1 : IntKind.i64.wrap ((i : Int) * 16) = (i : Int) * 16 := by rw [IntKind.wrap_i64]; omega
  clear hi e hi2
  have HE0 := Lib.hid (EnS.start (vs := vs) h)
  go_enter Try.func41, Try.ntmps41
  go_upto_region 1 with fail
  change Code.wp _ _ _ _ ((w.alloc (.cells #[.pointer (some ⟨A, 0, none⟩), .int .i64 16, .int .i64 (vs : Int)] 29)).alloc (.cells #[.pointer none, .int .i64 0, .int .i64 0] 27))
  obtain ⟨y, hy⟩ : ∃ y, (w.alloc (.cells #[.pointer (some ⟨A, 0, none⟩), .int .i64 16, .int .i64 (vs : Int)] 29)).alloc (.cells #[.pointer none, .int .i64 0, .int .i64 0] 27) = y := ⟨_, rfl⟩
  obtain ⟨C, hC⟩ : ∃ C, w.heap.size = C := ⟨_, rfl⟩
  obtain ⟨O, hO⟩ : ∃ O, w.heap.size + 1 = O := ⟨_, rfl⟩
  have HWC := Lib.hid hC
  have he0 := HE0.out
  rw [hy, hO, hC] at he0
  rw [hy, hO, hC]
  have HE := Lib.hid he0
  clear hy hC hO he0 HE0
  obtain ⟨⟨c0, c1, c2⟩, f0, f1, f2⟩ := HE.out.all
  obtain ⟨u0, u1, u2⟩ := HE.out.old
  go_wp2_with fail
  refine (hp.out _ HE.out.on).mono ?_
  rintro e w1 ⟨rfl, hb⟩
  have HEN := Lib.hid (HE.out.below hb)
  clear hb HE c0 c1 c2 f0 f1 f2 u0 u1 u2
  obtain ⟨_, f0, f1, f2⟩ := HEN.out.all
  obtain ⟨u0, u1, u2⟩ := HEN.out.old
  go_wp2_with fail
  change bodyPost _ _ _ _ _ (st3 w1 O (.pointer none) (.int .i64 0) (.int .i64 0))
  have hz := st3_at (HEN.out.o) (.pointer none) (.int .i64 0) (.int .i64 0)
  have HZB := Lib.hid (st3_below HEN.out.be HEN.out.os (.pointer none) (.int .i64 0) (.int .i64 0))
  obtain ⟨z, hzz⟩ : ∃ z, st3 w1 O (.pointer none) (.int .i64 0) (.int .i64 0) = z := ⟨_, rfl⟩
  rw [hzz] at hz HZB ⊢
  have g0 := (cell_blk hz 0).1; have g1 := (cell_blk hz 1).1; have g2 := (cell_blk hz 2).1
  exact bodyPost_ret (v := .tuple #[.agg #[.pointer none, .int .i64 0, .int .i64 0], .int .i64 3]) (by simp [results, Try.results41, go_sem, g0, g1, g2]) rfl ⟨rfl, HZB.out⟩
theorem htell_in (h : On A (hS m) w) (a x g : Nat) (ha : a + 16 ≤ 8192) (hx : numV m a 8 = x) (hg : numV m (a + 8) 8 = g) (hxb : x < 9223372036854775808) :
    Calls Try.prog 34 #[vwV A a 16] w (Gives (.tuple #[.int .i64 (x : Int), .int .u64 (g : Int)]) w) := by
  have HB := Lib.hid (bel1 w (.cells #[.pointer (some ⟨A, 0, none⟩), .int .i64 (a : Int), .int .i64 16] 27))
  have e0 : addrV a 16 0 8 = ((a : Nat) : Int) := by rw [addr_in (by omega)]; omega
  have e8 : addrV a 16 8 8 = ((a + 8 : Nat) : Int) := by rw [addr_in (by omega)]; push_cast; rfl
  have h0 : Hid (∀ X, On A (hS m) X → Calls Try.prog 50 #[vwV A a 16, .int .i64 0, .int .i64 8] X (Gives (.tuple #[.int .u64 (x : Int), .int .i64 0]) X)) := Lib.hid fun X hX => by
    have := on_load hX a 16 (by omega) (by omega) 0 8 (by omega)
    rw [e0, num8, ld8 (hS_there (by omega) (by omega) (by omega)), hS_there (by omega) (by omega) (by omega)] at this
    rw [← hx]; exact this
  have h8 : Hid (∀ X, On A (hS m) X → Calls Try.prog 50 #[vwV A a 16, .int .i64 8, .int .i64 8] X (Gives (.tuple #[.int .u64 (g : Int), .int .i64 0]) X)) := Lib.hid fun X hX => by
    have := on_load hX a 16 (by omega) (by omega) 8 8 (by omega)
    rw [e8, num8, ld8 (hS_there (by omega) (by omega) (by omega)), hS_there (by omega) (by omega) (by omega)] at this
    rw [← hg]; exact this
  have HO := Lib.hid h
  have q1 : IntKind.i64.wrap (x : Int) = (x : Int) := by rw [IntKind.wrap_i64]; omega
  clear h e0 e8 hx hg hxb
  go_enter Try.func34, Try.ntmps34
  go_upto_region 1 with fail
  change Code.wp _ _ _ _ (w.alloc (.cells #[.pointer (some ⟨A, 0, none⟩), .int .i64 ((a : Nat) : Int), .int .i64 16] 27))
  have HC0 := Lib.hid (show VwC w.heap.size A a (w.alloc (.cells #[.pointer (some ⟨A, 0, none⟩), .int .i64 ((a : Nat) : Int), .int .i64 16] 27)) from heap_new _ _)
  obtain ⟨y, hy⟩ : ∃ y, w.alloc (.cells #[.pointer (some ⟨A, 0, none⟩), .int .i64 ((a : Nat) : Int), .int .i64 16] 27) = y := ⟨_, rfl⟩
  obtain ⟨C, hC⟩ : ∃ C, w.heap.size = C := ⟨_, rfl⟩
  have HWC := Lib.hid hC
  have hc0 := HC0.out
  rw [hy, hC] at hc0
  rw [hy] at HB
  rw [hy, hC]
  have HC := Lib.hid hc0
  clear hy hC hc0 HC0
  obtain ⟨v0, v1, v2⟩ := HC.out.all
  go_wp2_with fail
  refine (h0.out _ (HO.out.below HB.out)).mono ?_
  rintro e w1 ⟨rfl, hb⟩
  have HC1 := Lib.hid (HC.out.below hb)
  have HB1 := Lib.hid (HB.out.trans (hb.mono HB.out.size))
  clear hb v0 v1 v2 HC
  obtain ⟨v0, v1, v2⟩ := HC1.out.all
  go_wp2_with fail
  refine (h8.out _ (HO.out.below HB1.out)).mono ?_
  rintro e w2 ⟨rfl, hb⟩
  have HB2 := Lib.hid (HB1.out.trans (hb.mono HB1.out.size))
  clear hb v0 v1 v2
  go_wp2_with fail
  go_ret2
  exact ⟨by first | rfl | simp [q1], HB2.out⟩
theorem htell_nil (w : World) : Calls Try.prog 34 #[zvV] w (Gives (.tuple #[.int .i64 0, .int .u64 0]) w) := by
  have HB := Lib.hid (bel1 w (.cells #[.pointer none, .int .i64 0, .int .i64 0] 27))
  have HN := Lib.hid fun X a (ha : a ≤ 9223372036854775807) => vload_nil a 8 ha X
  go_enter Try.func34, Try.ntmps34
  go_upto_region 1 with fail
  change Code.wp _ _ _ _ (w.alloc (.cells #[.pointer none, .int .i64 0, .int .i64 0] 27))
  have HC0 := Lib.hid (show ZwC w.heap.size (w.alloc (.cells #[.pointer none, .int .i64 0, .int .i64 0] 27)) from heap_new _ _)
  obtain ⟨y, hy⟩ : ∃ y, w.alloc (.cells #[.pointer none, .int .i64 0, .int .i64 0] 27) = y := ⟨_, rfl⟩
  obtain ⟨C, hC⟩ : ∃ C, w.heap.size = C := ⟨_, rfl⟩
  have HWC := Lib.hid hC
  have hc0 := HC0.out
  rw [hy, hC] at hc0
  rw [hy] at HB
  rw [hy, hC]
  have HC := Lib.hid hc0
  clear hy hC hc0 HC0
  obtain ⟨v0, v1, v2⟩ := HC.out.all
  go_wp2_with fail
  refine (HN.out _ 0 (by omega)).mono ?_
  rintro e w1 ⟨rfl, hb⟩
  have HC1 := Lib.hid (HC.out.below hb)
  have HB1 := Lib.hid (HB.out.trans (hb.mono HB.out.size))
  clear hb v0 v1 v2 HC
  obtain ⟨v0, v1, v2⟩ := HC1.out.all
  go_wp2_with fail
  refine (HN.out _ 8 (by omega)).mono ?_
  rintro e w2 ⟨rfl, hb⟩
  have HB2 := Lib.hid (HB1.out.trans (hb.mono HB1.out.size))
  clear hb v0 v1 v2
  go_wp2_with fail
  go_ret2
  exact ⟨rfl, HB2.out⟩
theorem hstore (h : On A (hS m) w) (a o v : Nat) (ho : o + 8 ≤ 16) (ha : a + 16 ≤ 8192) :
    Calls Try.prog 36 #[vwV A a 16, .int .i64 (o : Int), .int .i64 8, .int .u64 (v : Int)] w (Ret A (hS (put8 m (a + o) v)) (.int .i64 0) w) := by
  have e0 : addrV a 16 (o : Int) 8 = ((a + o : Nat) : Int) := by rw [addr_in (by omega)]; push_cast; rfl
  have := on_store h a 16 (by omega) (by omega) (o : Int) 8 (v : Int) (by omega) (by omega)
  have en : numE (hS m).L (hS m).es (((a + o : Nat)) : Int) 8 = 0 := by rw [num8]; exact hS_there (by omega) (by omega) (by omega)
  have es : storeS (hS m) (((a + o : Nat)) : Int) 8 (v : Int) = hS (put8 m (a + o) v) := by unfold storeS; rw [en, if_pos rfl]; rfl
  rw [e0, en, es] at this
  exact this
theorem hhold (h : On A (hS m) w) (a v : Nat) (ha : a + 16 ≤ 8192) (hv : v < 9223372036854775808) :
    Calls Try.prog 38 #[vwV A a 16, .int .i64 (v : Int)] w (Ret A (hS (put8 m a v)) (.int .i64 0) w) := by
  have HB := Lib.hid (bel1 w (.cells #[.pointer (some ⟨A, 0, none⟩), .int .i64 (a : Int), .int .i64 16] 27))
  have HO := Lib.hid h
  have HS : Hid (∀ X, On A (hS m) X → Calls Try.prog 36 #[vwV A a 16, .int .i64 0, .int .i64 8, .int .u64 (v : Int)] X (Ret A (hS (put8 m a v)) (.int .i64 0) X)) := Lib.hid fun X hX => hstore hX a 0 v (by omega) ha
  have q1 : IntKind.u64.wrap (v : Int) = (v : Int) := by rw [IntKind.wrap_u64]; omega
  clear h ha hv
  go_enter Try.func38, Try.ntmps38
  go_wp2_with fail
  refine (HS.out _ (HO.out.below HB.out)).mono ?_
  rintro e w1 ⟨rfl, hx, hg⟩
  have HX := Lib.hid hx
  have HG := Lib.hid ((Went.of_below HO.out HB.out).trans hg)
  clear hx hg
  go_wp2_with fail
  go_ret
  exact ⟨rfl, HX.out, HG.out⟩
end
end Go.Proofs.Ytllghngjnhbmaaa.Bt
