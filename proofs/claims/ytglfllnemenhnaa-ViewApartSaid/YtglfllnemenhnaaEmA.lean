/- The document's functions upon an arena without pages, and the view of nothing. (Written by gen_ema.py.) -/
import Derived.Test.YtglfllnemenhnaaRfA
namespace Go.Proofs.Ytglfllnemenhnaa.Bt
open Go Go.RowKit Go.Shelf
set_option linter.unusedVariables false
set_option linter.unusedSimpArgs false

theorem nw2 (w : World) (a b : Array Value) (ta tb : TypeId) :
    ((w.alloc (.cells a ta)).alloc (.cells b tb)).heap[w.heap.size]? = some (.cells a ta (0, 0)) ∧ ((w.alloc (.cells a ta)).alloc (.cells b tb)).heap[w.heap.size + 1]? = some (.cells b tb (0, 0)) := by
  refine ⟨?_, ?_⟩
  · exact ((bel1 (w.alloc (.cells a ta)) (.cells b tb)).block _ (by simp)).trans (heap_new w (.cells a ta))
  · have := heap_new (w.alloc (.cells a ta)) (.cells b tb)
    rwa [show (w.alloc (.cells a ta)).heap.size = w.heap.size + 1 by simp] at this
theorem nw3 (w : World) (a b c : Array Value) (ta tb tc : TypeId) :
    (((w.alloc (.cells a ta)).alloc (.cells b tb)).alloc (.cells c tc)).heap[w.heap.size]? = some (.cells a ta (0, 0)) ∧ (((w.alloc (.cells a ta)).alloc (.cells b tb)).alloc (.cells c tc)).heap[w.heap.size + 1]? = some (.cells b tb (0, 0)) ∧
    (((w.alloc (.cells a ta)).alloc (.cells b tb)).alloc (.cells c tc)).heap[w.heap.size + 2]? = some (.cells c tc (0, 0)) := by
  obtain ⟨h1, h2⟩ := nw2 w a b ta tb
  refine ⟨((bel1 _ (.cells c tc)).block _ (by simp; omega)).trans h1, ((bel1 _ (.cells c tc)).block _ (by simp)).trans h2, ?_⟩
  have := heap_new ((w.alloc (.cells a ta)).alloc (.cells b tb)) (.cells c tc)
  rwa [show ((w.alloc (.cells a ta)).alloc (.cells b tb)).heap.size = w.heap.size + 2 by simp] at this
theorem bel2 (w : World) (a b : Obj) : Below w.heap.size w ((w.alloc a).alloc b) := below2 w a b
theorem bel3 (w : World) (a b c : Obj) : Below w.heap.size w (((w.alloc a).alloc b).alloc c) := (below2 w a b).alloc (by simp; omega) _
def QB (V b : Nat) (x : World) : Prop := x.heap[V]? = some (.cells #[.slice (some ⟨b, 0, none⟩) 0 0, .int .i64 (-1)] 39 (0, 0))
def ZB (U : Nat) (x : World) : Prop := x.heap[U]? = some (.cells #[.int .i64 0, .int .i64 0] 42 (0, 0))
def NB (R : Nat) (x : World) : Prop := x.heap[R]? = some (.cells #[.slice none 0 0, .int .i64 0] 39 (0, 0))
section
variable {V U R b : Nat} {x y : World}
theorem QB.below (h : QB V b x) (hb : Below x.heap.size x y) : QB V b y := (hb.block _ (Array.getElem?_eq_some_iff.1 h).1).trans h
theorem ZB.below (h : ZB U x) (hb : Below x.heap.size x y) : ZB U y := (hb.block _ (Array.getElem?_eq_some_iff.1 h).1).trans h
theorem NB.below (h : NB R x) (hb : Below x.heap.size x y) : NB R y := (hb.block _ (Array.getElem?_eq_some_iff.1 h).1).trans h
theorem QB.c0 (h : QB V b x) : x.cell? ⟨V, 0, none⟩ = some (.slice (some ⟨b, 0, none⟩) 0 0) := (cell_blk h 0).1
theorem QB.c1 (h : QB V b x) : x.cell? ⟨V, 1, none⟩ = some (.int .i64 (-1)) := (cell_blk h 1).1
theorem ZB.c0 (h : ZB U x) : x.cell? ⟨U, 0, none⟩ = some (.int .i64 0) := (cell_blk h 0).1
theorem ZB.c1 (h : ZB U x) : x.cell? ⟨U, 1, none⟩ = some (.int .i64 0) := (cell_blk h 1).1
theorem NB.c0 (h : NB R x) : x.cell? ⟨R, 0, none⟩ = some (.slice none 0 0) := (cell_blk h 0).1
theorem NB.c1 (h : NB R x) : x.cell? ⟨R, 1, none⟩ = some (.int .i64 0) := (cell_blk h 1).1
theorem NB.f0 (h : NB R x) : x.frozen? ⟨R, 0, none⟩ = false := (cell_blk h 0).2
theorem NB.f1 (h : NB R x) : x.frozen? ⟨R, 1, none⟩ = false := (cell_blk h 1).2
end
abbrev q0 (b : Nat) : Value := docV (some ⟨b, 0, none⟩) 0 0 (-1)
abbrev z00 : Value := .agg #[.int .i64 0, .int .i64 0]
/-- the arena comes back -/
def DocP (b : Nat) (w : World) (e : Ending) (w' : World) : Prop := ∃ er : Int, e = .returned (.tuple #[q0 b, .int .i64 er]) ∧ Below w.heap.size w w'
section
variable (b : Nat) (w : World)
theorem e_there : Calls Try.prog 99 #[q0 b, .int .i64 0, .int .i64 0] w (Gives (.bool true) w) := by
  go_enter Try.func99, Try.ntmps99
  go_upto_region 1 with fail
  change Code.wp _ _ _ _ (w.alloc (.cells #[.slice (some ⟨b, 0, none⟩) 0 0, .int .i64 (-1)] 39))
  have hbw := bel1 w (.cells #[.slice (some ⟨b, 0, none⟩) 0 0, .int .i64 (-1)] 39)
  have hV := heap_new w (.cells #[.slice (some ⟨b, 0, none⟩) 0 0, .int .i64 (-1)] 39)
  obtain ⟨y, hy⟩ : ∃ y, (w.alloc (.cells #[.slice (some ⟨b, 0, none⟩) 0 0, .int .i64 (-1)] 39)) = y := ⟨_, rfl⟩
  rw [hy] at hV hbw ⊢
  obtain ⟨V, eV⟩ : ∃ v, w.heap.size = v := ⟨_, rfl⟩
  have lV : w.heap.size ≤ V := by omega
  rw [eV] at hV ⊢
  have HV := Lib.hid (show QB V b y from hV); have WV := Lib.hid lV
  have HB := Lib.hid hbw
  clear hy hbw hV eV lV
  have v0 := HV.out.c0; have v1 := HV.out.c1
  go_wp2_with fail
  go_loopw [8] (fun s wr => s = .int .i64 0 ∧ y = wr) (fun _ _ => 0)
  case atStart => exact ⟨rfl, rfl⟩
  case round =>
    obtain ⟨rfl, rfl⟩ := hrel
    go_wp2_with fail
    go_ret
    exact ⟨rfl, HB.out⟩
theorem e_there_no (n : Int) (hn : 0 < n) : Calls Try.prog 99 #[q0 b, .int .i64 0, .int .i64 n] w (Gives (.bool false) w) := by
  go_enter Try.func99, Try.ntmps99
  go_upto_region 1 with fail
  change Code.wp _ _ _ _ (w.alloc (.cells #[.slice (some ⟨b, 0, none⟩) 0 0, .int .i64 (-1)] 39))
  have hbw := bel1 w (.cells #[.slice (some ⟨b, 0, none⟩) 0 0, .int .i64 (-1)] 39)
  have hV := heap_new w (.cells #[.slice (some ⟨b, 0, none⟩) 0 0, .int .i64 (-1)] 39)
  obtain ⟨y, hy⟩ : ∃ y, (w.alloc (.cells #[.slice (some ⟨b, 0, none⟩) 0 0, .int .i64 (-1)] 39)) = y := ⟨_, rfl⟩
  rw [hy] at hV hbw ⊢
  obtain ⟨V, eV⟩ : ∃ v, w.heap.size = v := ⟨_, rfl⟩
  have lV : w.heap.size ≤ V := by omega
  rw [eV] at hV ⊢
  have HV := Lib.hid (show QB V b y from hV); have WV := Lib.hid lV
  have HB := Lib.hid hbw
  clear hy hbw hV eV lV
  have v0 := HV.out.c0; have v1 := HV.out.c1
  go_wp2_with fail
  go_ret
  exact ⟨rfl, HB.out⟩
def inE (a n : Int) : Bool := decide (a = 0 ∧ n = 0)
theorem e_within (a n : Int) : Calls Try.prog 112 #[q0 b, z00, .int .i64 a, .int .i64 n] w (Gives (.bool (inE a n)) w) := by
  have HT := Lib.hid (fun w => e_there b w)
  by_cases h : a = 0 ∧ n = 0
  · obtain ⟨rfl, rfl⟩ := h
    go_enter Try.func112, Try.ntmps112
    go_upto_region 1 with fail
    change Code.wp _ _ _ _ ((w.alloc (.cells #[.slice (some ⟨b, 0, none⟩) 0 0, .int .i64 (-1)] 39)).alloc (.cells #[.int .i64 0, .int .i64 0] 42))
    have hbw := bel2 w (.cells #[.slice (some ⟨b, 0, none⟩) 0 0, .int .i64 (-1)] 39) (.cells #[.int .i64 0, .int .i64 0] 42)
    obtain ⟨hV, hU⟩ := nw2 w #[.slice (some ⟨b, 0, none⟩) 0 0, .int .i64 (-1)] #[.int .i64 0, .int .i64 0] 39 42
    obtain ⟨y, hy⟩ : ∃ y, ((w.alloc (.cells #[.slice (some ⟨b, 0, none⟩) 0 0, .int .i64 (-1)] 39)).alloc (.cells #[.int .i64 0, .int .i64 0] 42)) = y := ⟨_, rfl⟩
    rw [hy] at hV hU hbw ⊢
    obtain ⟨U, eU⟩ : ∃ v, w.heap.size + 1 = v := ⟨_, rfl⟩
    have lU : w.heap.size ≤ U := by omega
    rw [eU] at hU ⊢
    obtain ⟨V, eV⟩ : ∃ v, w.heap.size = v := ⟨_, rfl⟩
    have lV : w.heap.size ≤ V := by omega
    rw [eV] at hV ⊢
    have HV := Lib.hid (show QB V b y from hV); have WV := Lib.hid lV
    have HU := Lib.hid (show ZB U y from hU); have WU := Lib.hid lU
    have HB := Lib.hid hbw
    clear hy hbw hV eV lV hU eU lU
    have v0 := HV.out.c0; have v1 := HV.out.c1
    have z0 := HU.out.c0; have z1 := HU.out.c1
    go_wp2_with fail
    refine (HT.out _).mono ?_
    rintro e w1 ⟨rfl, hb⟩
    have HB1 := Lib.hid (HB.out.trans (hb.mono HB.out.size))
    clear hb
    go_wp2_with fail
    go_ret
    exact ⟨rfl, HB1.out⟩
  · have HI : Hid (inE a n = false) := Lib.hid (decide_eq_false h)
    by_cases h1 : a < 0
    · clear h
      go_enter Try.func112, Try.ntmps112
      go_upto_region 1 with fail
      change Code.wp _ _ _ _ ((w.alloc (.cells #[.slice (some ⟨b, 0, none⟩) 0 0, .int .i64 (-1)] 39)).alloc (.cells #[.int .i64 0, .int .i64 0] 42))
      have hbw := bel2 w (.cells #[.slice (some ⟨b, 0, none⟩) 0 0, .int .i64 (-1)] 39) (.cells #[.int .i64 0, .int .i64 0] 42)
      obtain ⟨hV, hU⟩ := nw2 w #[.slice (some ⟨b, 0, none⟩) 0 0, .int .i64 (-1)] #[.int .i64 0, .int .i64 0] 39 42
      obtain ⟨y, hy⟩ : ∃ y, ((w.alloc (.cells #[.slice (some ⟨b, 0, none⟩) 0 0, .int .i64 (-1)] 39)).alloc (.cells #[.int .i64 0, .int .i64 0] 42)) = y := ⟨_, rfl⟩
      rw [hy] at hV hU hbw ⊢
      obtain ⟨U, eU⟩ : ∃ v, w.heap.size + 1 = v := ⟨_, rfl⟩
      have lU : w.heap.size ≤ U := by omega
      rw [eU] at hU ⊢
      obtain ⟨V, eV⟩ : ∃ v, w.heap.size = v := ⟨_, rfl⟩
      have lV : w.heap.size ≤ V := by omega
      rw [eV] at hV ⊢
      have HV := Lib.hid (show QB V b y from hV); have WV := Lib.hid lV
      have HU := Lib.hid (show ZB U y from hU); have WU := Lib.hid lU
      have HB := Lib.hid hbw
      clear hy hbw hV eV lV hU eU lU
      have v0 := HV.out.c0; have v1 := HV.out.c1
      have z0 := HU.out.c0; have z1 := HU.out.c1
      go_wp2_with fail
      go_ret
      exact ⟨by rw [HI.out]; rfl, HB.out⟩
    · by_cases h2 : n < 0
      · clear h
        go_enter Try.func112, Try.ntmps112
        go_upto_region 1 with fail
        change Code.wp _ _ _ _ ((w.alloc (.cells #[.slice (some ⟨b, 0, none⟩) 0 0, .int .i64 (-1)] 39)).alloc (.cells #[.int .i64 0, .int .i64 0] 42))
        have hbw := bel2 w (.cells #[.slice (some ⟨b, 0, none⟩) 0 0, .int .i64 (-1)] 39) (.cells #[.int .i64 0, .int .i64 0] 42)
        obtain ⟨hV, hU⟩ := nw2 w #[.slice (some ⟨b, 0, none⟩) 0 0, .int .i64 (-1)] #[.int .i64 0, .int .i64 0] 39 42
        obtain ⟨y, hy⟩ : ∃ y, ((w.alloc (.cells #[.slice (some ⟨b, 0, none⟩) 0 0, .int .i64 (-1)] 39)).alloc (.cells #[.int .i64 0, .int .i64 0] 42)) = y := ⟨_, rfl⟩
        rw [hy] at hV hU hbw ⊢
        obtain ⟨U, eU⟩ : ∃ v, w.heap.size + 1 = v := ⟨_, rfl⟩
        have lU : w.heap.size ≤ U := by omega
        rw [eU] at hU ⊢
        obtain ⟨V, eV⟩ : ∃ v, w.heap.size = v := ⟨_, rfl⟩
        have lV : w.heap.size ≤ V := by omega
        rw [eV] at hV ⊢
        have HV := Lib.hid (show QB V b y from hV); have WV := Lib.hid lV
        have HU := Lib.hid (show ZB U y from hU); have WU := Lib.hid lU
        have HB := Lib.hid hbw
        clear hy hbw hV eV lV hU eU lU
        have v0 := HV.out.c0; have v1 := HV.out.c1
        have z0 := HU.out.c0; have z1 := HU.out.c1
        go_wp2_with fail
        go_ret
        exact ⟨by rw [HI.out]; rfl, HB.out⟩
      · by_cases h3 : 0 < n
        · clear h
          go_enter Try.func112, Try.ntmps112
          go_upto_region 1 with fail
          change Code.wp _ _ _ _ ((w.alloc (.cells #[.slice (some ⟨b, 0, none⟩) 0 0, .int .i64 (-1)] 39)).alloc (.cells #[.int .i64 0, .int .i64 0] 42))
          have hbw := bel2 w (.cells #[.slice (some ⟨b, 0, none⟩) 0 0, .int .i64 (-1)] 39) (.cells #[.int .i64 0, .int .i64 0] 42)
          obtain ⟨hV, hU⟩ := nw2 w #[.slice (some ⟨b, 0, none⟩) 0 0, .int .i64 (-1)] #[.int .i64 0, .int .i64 0] 39 42
          obtain ⟨y, hy⟩ : ∃ y, ((w.alloc (.cells #[.slice (some ⟨b, 0, none⟩) 0 0, .int .i64 (-1)] 39)).alloc (.cells #[.int .i64 0, .int .i64 0] 42)) = y := ⟨_, rfl⟩
          rw [hy] at hV hU hbw ⊢
          obtain ⟨U, eU⟩ : ∃ v, w.heap.size + 1 = v := ⟨_, rfl⟩
          have lU : w.heap.size ≤ U := by omega
          rw [eU] at hU ⊢
          obtain ⟨V, eV⟩ : ∃ v, w.heap.size = v := ⟨_, rfl⟩
          have lV : w.heap.size ≤ V := by omega
          rw [eV] at hV ⊢
          have HV := Lib.hid (show QB V b y from hV); have WV := Lib.hid lV
          have HU := Lib.hid (show ZB U y from hU); have WU := Lib.hid lU
          have HB := Lib.hid hbw
          clear hy hbw hV eV lV hU eU lU
          have v0 := HV.out.c0; have v1 := HV.out.c1
          have z0 := HU.out.c0; have z1 := HU.out.c1
          go_wp2_with fail
          go_ret
          exact ⟨by rw [HI.out]; rfl, HB.out⟩
        · obtain rfl : n = 0 := by omega
          have h4 : 0 < a := by omega
          clear h
          go_enter Try.func112, Try.ntmps112
          go_upto_region 1 with fail
          change Code.wp _ _ _ _ ((w.alloc (.cells #[.slice (some ⟨b, 0, none⟩) 0 0, .int .i64 (-1)] 39)).alloc (.cells #[.int .i64 0, .int .i64 0] 42))
          have hbw := bel2 w (.cells #[.slice (some ⟨b, 0, none⟩) 0 0, .int .i64 (-1)] 39) (.cells #[.int .i64 0, .int .i64 0] 42)
          obtain ⟨hV, hU⟩ := nw2 w #[.slice (some ⟨b, 0, none⟩) 0 0, .int .i64 (-1)] #[.int .i64 0, .int .i64 0] 39 42
          obtain ⟨y, hy⟩ : ∃ y, ((w.alloc (.cells #[.slice (some ⟨b, 0, none⟩) 0 0, .int .i64 (-1)] 39)).alloc (.cells #[.int .i64 0, .int .i64 0] 42)) = y := ⟨_, rfl⟩
          rw [hy] at hV hU hbw ⊢
          obtain ⟨U, eU⟩ : ∃ v, w.heap.size + 1 = v := ⟨_, rfl⟩
          have lU : w.heap.size ≤ U := by omega
          rw [eU] at hU ⊢
          obtain ⟨V, eV⟩ : ∃ v, w.heap.size = v := ⟨_, rfl⟩
          have lV : w.heap.size ≤ V := by omega
          rw [eV] at hV ⊢
          have HV := Lib.hid (show QB V b y from hV); have WV := Lib.hid lV
          have HU := Lib.hid (show ZB U y from hU); have WU := Lib.hid lU
          have HB := Lib.hid hbw
          clear hy hbw hV eV lV hU eU lU
          have v0 := HV.out.c0; have v1 := HV.out.c1
          have z0 := HU.out.c0; have z1 := HU.out.c1
          go_wp2_with fail
          go_ret
          exact ⟨by rw [HI.out]; rfl, HB.out⟩
def whE (n : Int) : Bool := decide (n = 1 ∨ n = 2 ∨ n = 4 ∨ n = 8)
theorem e_whole (n : Int) : Calls Try.prog 132 #[.int .i64 n] w fun e w' => e = .returned (.bool (whE n)) ∧ w = w' := by
  unfold whE
  by_cases h1 : n = 1
  · subst h1
    go_enter Try.func132, Try.ntmps132
    go_wp2_with fail
    go_ret
    exact ⟨rfl, rfl⟩
  by_cases h2 : n = 2
  · subst h2
    go_enter Try.func132, Try.ntmps132
    go_wp2_with fail
    go_ret
    exact ⟨rfl, rfl⟩
  by_cases h3 : n = 4
  · subst h3
    go_enter Try.func132, Try.ntmps132
    go_wp2_with fail
    go_ret
    exact ⟨rfl, rfl⟩
  by_cases h4 : n = 8
  · subst h4
    go_enter Try.func132, Try.ntmps132
    go_wp2_with fail
    go_ret
    exact ⟨rfl, rfl⟩
  rw [decide_eq_false (by omega)]
  have d1 : (n == 1) = false := by simpa using h1
  have d2 : (n == 2) = false := by simpa using h2
  have d3 : (n == 4) = false := by simpa using h3
  have d4 : (n == 8) = false := by simpa using h4
  go_enter Try.func132, Try.ntmps132
  go_wp2_with fail
  go_ret
  exact ⟨rfl, rfl⟩
theorem e_bytes3 : Calls Try.prog 118 #[q0 b, .int .i64 0, .int .i64 0] w (Gives (.tuple #[.string ⟨#[]⟩, .int .i64 0]) w) := by
  go_enter Try.func118, Try.ntmps118
  go_upto_region 1 with fail
  change Code.wp _ _ _ _ (w.alloc (.cells #[.slice (some ⟨b, 0, none⟩) 0 0, .int .i64 (-1)] 39))
  have hbw := bel1 w (.cells #[.slice (some ⟨b, 0, none⟩) 0 0, .int .i64 (-1)] 39)
  have hV := heap_new w (.cells #[.slice (some ⟨b, 0, none⟩) 0 0, .int .i64 (-1)] 39)
  obtain ⟨y, hy⟩ : ∃ y, (w.alloc (.cells #[.slice (some ⟨b, 0, none⟩) 0 0, .int .i64 (-1)] 39)) = y := ⟨_, rfl⟩
  rw [hy] at hV hbw ⊢
  obtain ⟨V, eV⟩ : ∃ v, w.heap.size = v := ⟨_, rfl⟩
  have lV : w.heap.size ≤ V := by omega
  rw [eV] at hV ⊢
  have HV := Lib.hid (show QB V b y from hV); have WV := Lib.hid lV
  have HB := Lib.hid hbw
  clear hy hbw hV eV lV
  have v0 := HV.out.c0; have v1 := HV.out.c1
  go_wp2_with fail
  refine (e_there b _).mono ?_
  rintro e w1 ⟨rfl, hb⟩
  have HV1 := Lib.hid (HV.out.below hb)
  have HB1 := Lib.hid (HB.out.trans (hb.mono HB.out.size))
  clear v0 v1
  clear hb HV HB
  have v0 := HV1.out.c0; have v1 := HV1.out.c1
  go_wp2_with fail
  go_loopw [2, 8] (fun s2 s8 wr => s2 = .int .i64 0 ∧ s8 = .string ⟨#[]⟩ ∧ w1 = wr) (fun _ _ _ => 0)
  case atStart => exact ⟨rfl, rfl, rfl⟩
  case round =>
    obtain ⟨rfl, rfl, rfl⟩ := hrel
    go_wp2_with fail
    go_ret2
    exact ⟨rfl, HB1.out⟩
theorem e_bytes3_no (n : Int) (hn : 0 < n) : Calls Try.prog 118 #[q0 b, .int .i64 0, .int .i64 n] w (Gives (.tuple #[.string ⟨#[]⟩, .int .i64 3]) w) := by
  have HT := Lib.hid (fun w => e_there_no b w n hn)
  go_enter Try.func118, Try.ntmps118
  go_upto_region 1 with fail
  change Code.wp _ _ _ _ (w.alloc (.cells #[.slice (some ⟨b, 0, none⟩) 0 0, .int .i64 (-1)] 39))
  have hbw := bel1 w (.cells #[.slice (some ⟨b, 0, none⟩) 0 0, .int .i64 (-1)] 39)
  have hV := heap_new w (.cells #[.slice (some ⟨b, 0, none⟩) 0 0, .int .i64 (-1)] 39)
  obtain ⟨y, hy⟩ : ∃ y, (w.alloc (.cells #[.slice (some ⟨b, 0, none⟩) 0 0, .int .i64 (-1)] 39)) = y := ⟨_, rfl⟩
  rw [hy] at hV hbw ⊢
  obtain ⟨V, eV⟩ : ∃ v, w.heap.size = v := ⟨_, rfl⟩
  have lV : w.heap.size ≤ V := by omega
  rw [eV] at hV ⊢
  have HV := Lib.hid (show QB V b y from hV); have WV := Lib.hid lV
  have HB := Lib.hid hbw
  clear hy hbw hV eV lV
  have v0 := HV.out.c0; have v1 := HV.out.c1
  go_wp2_with fail
  refine (HT.out _).mono ?_
  rintro e w1 ⟨rfl, hb⟩
  have HV1 := Lib.hid (HV.out.below hb)
  have HB1 := Lib.hid (HB.out.trans (hb.mono HB.out.size))
  clear v0 v1
  clear hb HV HB
  have v0 := HV1.out.c0; have v1 := HV1.out.c1
  go_wp2_with fail
  go_ret2
  exact ⟨rfl, HB1.out⟩
theorem e_load3 (n : Int) : Calls Try.prog 116 #[q0 b, .int .i64 0, .int .i64 n] w (Gives (.tuple #[.int .u64 0, .int .i64 (if whE n then 3 else 2)]) w) := by
  have HW := Lib.hid (fun w => e_whole w n)
  cases hw : whE n with
  | false =>
    rw [hw] at HW
    rw [if_neg (by decide)]
    clear hw
    go_enter Try.func116, Try.ntmps116
    go_upto_region 1 with fail
    change Code.wp _ _ _ _ (w.alloc (.cells #[.slice (some ⟨b, 0, none⟩) 0 0, .int .i64 (-1)] 39))
    have hbw := bel1 w (.cells #[.slice (some ⟨b, 0, none⟩) 0 0, .int .i64 (-1)] 39)
    have hV := heap_new w (.cells #[.slice (some ⟨b, 0, none⟩) 0 0, .int .i64 (-1)] 39)
    obtain ⟨y, hy⟩ : ∃ y, (w.alloc (.cells #[.slice (some ⟨b, 0, none⟩) 0 0, .int .i64 (-1)] 39)) = y := ⟨_, rfl⟩
    rw [hy] at hV hbw ⊢
    obtain ⟨V, eV⟩ : ∃ v, w.heap.size = v := ⟨_, rfl⟩
    have lV : w.heap.size ≤ V := by omega
    rw [eV] at hV ⊢
    have HV := Lib.hid (show QB V b y from hV); have WV := Lib.hid lV
    have HB := Lib.hid hbw
    clear hy hbw hV eV lV
    have v0 := HV.out.c0; have v1 := HV.out.c1
    go_wp2_with fail
    refine (HW.out _).mono ?_
    rintro e w1 ⟨rfl, rfl⟩
    go_wp2_with fail
    go_ret2
    exact ⟨rfl, HB.out⟩
  | true =>
    have hn : 0 < n := by unfold whE at hw; have := of_decide_eq_true hw; omega
    have HT := Lib.hid (fun w => e_bytes3_no b w n hn)
    rw [hw] at HW
    rw [if_pos rfl]
    clear hw
    go_enter Try.func116, Try.ntmps116
    go_upto_region 1 with fail
    change Code.wp _ _ _ _ (w.alloc (.cells #[.slice (some ⟨b, 0, none⟩) 0 0, .int .i64 (-1)] 39))
    have hbw := bel1 w (.cells #[.slice (some ⟨b, 0, none⟩) 0 0, .int .i64 (-1)] 39)
    have hV := heap_new w (.cells #[.slice (some ⟨b, 0, none⟩) 0 0, .int .i64 (-1)] 39)
    obtain ⟨y, hy⟩ : ∃ y, (w.alloc (.cells #[.slice (some ⟨b, 0, none⟩) 0 0, .int .i64 (-1)] 39)) = y := ⟨_, rfl⟩
    rw [hy] at hV hbw ⊢
    obtain ⟨V, eV⟩ : ∃ v, w.heap.size = v := ⟨_, rfl⟩
    have lV : w.heap.size ≤ V := by omega
    rw [eV] at hV ⊢
    have HV := Lib.hid (show QB V b y from hV); have WV := Lib.hid lV
    have HB := Lib.hid hbw
    clear hy hbw hV eV lV
    have v0 := HV.out.c0; have v1 := HV.out.c1
    go_wp2_with fail
    refine (HW.out _).mono ?_
    rintro e w0 ⟨rfl, rfl⟩
    go_wp2_with fail
    refine (HT.out _).mono ?_
    rintro e w1 ⟨rfl, hb⟩
    have HV1 := Lib.hid (HV.out.below hb)
    have HB1 := Lib.hid (HB.out.trans (hb.mono HB.out.size))
    clear v0 v1
    clear hb HV HB
    have v0 := HV1.out.c0; have v1 := HV1.out.c1
    go_wp2_with fail
    go_loopw [10, 11] (fun s10 s11 wr => s10 = .int .u64 0 ∧ s11 = .int .i64 (-1) ∧ w1 = wr) (fun _ _ _ => 0)
    case atStart => exact ⟨rfl, rfl, rfl⟩
    case round =>
      obtain ⟨rfl, rfl, rfl⟩ := hrel
      go_wp2_with fail
      go_ret2
      exact ⟨rfl, HB1.out⟩
theorem e_load4 (a n : Int) : Calls Try.prog 72 #[q0 b, z00, .int .i64 a, .int .i64 n] w (Gives (.tuple #[.int .u64 0, .int .i64 (if whE n then 3 else 2)]) w) := by
  have HL := Lib.hid (fun w => e_load3 b w n)
  have HW := Lib.hid (fun w => e_within b w a n)
  cases hw : whE n with
  | false =>
    rw [hw, if_neg (by decide)] at HL
    rw [if_neg (by decide)]
    clear hw
    go_enter Try.func72, Try.ntmps72
    go_upto_region 1 with fail
    change Code.wp _ _ _ _ ((w.alloc (.cells #[.slice (some ⟨b, 0, none⟩) 0 0, .int .i64 (-1)] 39)).alloc (.cells #[.int .i64 0, .int .i64 0] 42))
    have hbw := bel2 w (.cells #[.slice (some ⟨b, 0, none⟩) 0 0, .int .i64 (-1)] 39) (.cells #[.int .i64 0, .int .i64 0] 42)
    obtain ⟨hV, hU⟩ := nw2 w #[.slice (some ⟨b, 0, none⟩) 0 0, .int .i64 (-1)] #[.int .i64 0, .int .i64 0] 39 42
    obtain ⟨y, hy⟩ : ∃ y, ((w.alloc (.cells #[.slice (some ⟨b, 0, none⟩) 0 0, .int .i64 (-1)] 39)).alloc (.cells #[.int .i64 0, .int .i64 0] 42)) = y := ⟨_, rfl⟩
    rw [hy] at hV hU hbw ⊢
    obtain ⟨U, eU⟩ : ∃ v, w.heap.size + 1 = v := ⟨_, rfl⟩
    have lU : w.heap.size ≤ U := by omega
    rw [eU] at hU ⊢
    obtain ⟨V, eV⟩ : ∃ v, w.heap.size = v := ⟨_, rfl⟩
    have lV : w.heap.size ≤ V := by omega
    rw [eV] at hV ⊢
    have HV := Lib.hid (show QB V b y from hV); have WV := Lib.hid lV
    have HU := Lib.hid (show ZB U y from hU); have WU := Lib.hid lU
    have HB := Lib.hid hbw
    clear hy hbw hV eV lV hU eU lU
    have v0 := HV.out.c0; have v1 := HV.out.c1
    have z0 := HU.out.c0; have z1 := HU.out.c1
    go_wp2_with fail
    refine (HL.out _).mono ?_
    rintro e w1 ⟨rfl, hb⟩
    have HV1 := Lib.hid (HV.out.below hb)
    have HU1 := Lib.hid (HU.out.below hb)
    have HB1 := Lib.hid (HB.out.trans (hb.mono HB.out.size))
    clear v0 v1 z0 z1
    clear hb HV HU HB
    have v0 := HV1.out.c0; have v1 := HV1.out.c1
    have z0 := HU1.out.c0; have z1 := HU1.out.c1
    go_wp2_with fail
    go_ret2
    exact ⟨rfl, HB1.out⟩
  | true =>
    have hi : inE a n = false := decide_eq_false (by unfold whE at hw; have := of_decide_eq_true hw; omega)
    rw [hi] at HW
    rw [hw, if_pos rfl] at HL
    rw [if_pos rfl]
    clear hw hi
    go_enter Try.func72, Try.ntmps72
    go_upto_region 1 with fail
    change Code.wp _ _ _ _ ((w.alloc (.cells #[.slice (some ⟨b, 0, none⟩) 0 0, .int .i64 (-1)] 39)).alloc (.cells #[.int .i64 0, .int .i64 0] 42))
    have hbw := bel2 w (.cells #[.slice (some ⟨b, 0, none⟩) 0 0, .int .i64 (-1)] 39) (.cells #[.int .i64 0, .int .i64 0] 42)
    obtain ⟨hV, hU⟩ := nw2 w #[.slice (some ⟨b, 0, none⟩) 0 0, .int .i64 (-1)] #[.int .i64 0, .int .i64 0] 39 42
    obtain ⟨y, hy⟩ : ∃ y, ((w.alloc (.cells #[.slice (some ⟨b, 0, none⟩) 0 0, .int .i64 (-1)] 39)).alloc (.cells #[.int .i64 0, .int .i64 0] 42)) = y := ⟨_, rfl⟩
    rw [hy] at hV hU hbw ⊢
    obtain ⟨U, eU⟩ : ∃ v, w.heap.size + 1 = v := ⟨_, rfl⟩
    have lU : w.heap.size ≤ U := by omega
    rw [eU] at hU ⊢
    obtain ⟨V, eV⟩ : ∃ v, w.heap.size = v := ⟨_, rfl⟩
    have lV : w.heap.size ≤ V := by omega
    rw [eV] at hV ⊢
    have HV := Lib.hid (show QB V b y from hV); have WV := Lib.hid lV
    have HU := Lib.hid (show ZB U y from hU); have WU := Lib.hid lU
    have HB := Lib.hid hbw
    clear hy hbw hV eV lV hU eU lU
    have v0 := HV.out.c0; have v1 := HV.out.c1
    have z0 := HU.out.c0; have z1 := HU.out.c1
    go_wp2_with fail
    refine (HL.out _).mono ?_
    rintro e w1 ⟨rfl, hb⟩
    have HV1 := Lib.hid (HV.out.below hb)
    have HU1 := Lib.hid (HU.out.below hb)
    have HB1 := Lib.hid (HB.out.trans (hb.mono HB.out.size))
    clear v0 v1 z0 z1
    clear hb HV HU HB
    have v0 := HV1.out.c0; have v1 := HV1.out.c1
    have z0 := HU1.out.c0; have z1 := HU1.out.c1
    go_wp2_with fail
    refine (HW.out _).mono ?_
    rintro e w2 ⟨rfl, hb⟩
    have HV2 := Lib.hid (HV1.out.below hb)
    have HU2 := Lib.hid (HU1.out.below hb)
    have HB2 := Lib.hid (HB1.out.trans (hb.mono HB1.out.size))
    clear v0 v1 z0 z1
    clear hb HV1 HU1 HB1
    have v0 := HV2.out.c0; have v1 := HV2.out.c1
    have z0 := HU2.out.c0; have z1 := HU2.out.c1
    go_wp2_with fail
    go_ret2
    exact ⟨rfl, HB2.out⟩
theorem e_bytes4 (a n : Int) : Calls Try.prog 75 #[q0 b, z00, .int .i64 a, .int .i64 n] w (Gives (.tuple #[.string ⟨#[]⟩, .int .i64 (if inE a n then 0 else 3)]) w) := by
  have HW := Lib.hid (fun w => e_within b w a n)
  have HBY := Lib.hid (fun w => e_bytes3 b w)
  cases hw : inE a n with
  | false =>
    rw [hw] at HW
    rw [if_neg (by decide)]
    clear hw
    go_enter Try.func75, Try.ntmps75
    go_upto_region 1 with fail
    change Code.wp _ _ _ _ ((w.alloc (.cells #[.slice (some ⟨b, 0, none⟩) 0 0, .int .i64 (-1)] 39)).alloc (.cells #[.int .i64 0, .int .i64 0] 42))
    have hbw := bel2 w (.cells #[.slice (some ⟨b, 0, none⟩) 0 0, .int .i64 (-1)] 39) (.cells #[.int .i64 0, .int .i64 0] 42)
    obtain ⟨hV, hU⟩ := nw2 w #[.slice (some ⟨b, 0, none⟩) 0 0, .int .i64 (-1)] #[.int .i64 0, .int .i64 0] 39 42
    obtain ⟨y, hy⟩ : ∃ y, ((w.alloc (.cells #[.slice (some ⟨b, 0, none⟩) 0 0, .int .i64 (-1)] 39)).alloc (.cells #[.int .i64 0, .int .i64 0] 42)) = y := ⟨_, rfl⟩
    rw [hy] at hV hU hbw ⊢
    obtain ⟨U, eU⟩ : ∃ v, w.heap.size + 1 = v := ⟨_, rfl⟩
    have lU : w.heap.size ≤ U := by omega
    rw [eU] at hU ⊢
    obtain ⟨V, eV⟩ : ∃ v, w.heap.size = v := ⟨_, rfl⟩
    have lV : w.heap.size ≤ V := by omega
    rw [eV] at hV ⊢
    have HV := Lib.hid (show QB V b y from hV); have WV := Lib.hid lV
    have HU := Lib.hid (show ZB U y from hU); have WU := Lib.hid lU
    have HB := Lib.hid hbw
    clear hy hbw hV eV lV hU eU lU
    have v0 := HV.out.c0; have v1 := HV.out.c1
    have z0 := HU.out.c0; have z1 := HU.out.c1
    go_wp2_with fail
    refine (HW.out _).mono ?_
    rintro e w1 ⟨rfl, hb⟩
    have HV1 := Lib.hid (HV.out.below hb)
    have HU1 := Lib.hid (HU.out.below hb)
    have HB1 := Lib.hid (HB.out.trans (hb.mono HB.out.size))
    clear v0 v1 z0 z1
    clear hb HV HU HB
    have v0 := HV1.out.c0; have v1 := HV1.out.c1
    have z0 := HU1.out.c0; have z1 := HU1.out.c1
    go_wp2_with fail
    go_ret2
    exact ⟨rfl, HB1.out⟩
  | true =>
    obtain ⟨rfl, rfl⟩ : a = 0 ∧ n = 0 := of_decide_eq_true hw
    rw [hw] at HW
    rw [if_pos rfl]
    clear hw
    go_enter Try.func75, Try.ntmps75
    go_upto_region 1 with fail
    change Code.wp _ _ _ _ ((w.alloc (.cells #[.slice (some ⟨b, 0, none⟩) 0 0, .int .i64 (-1)] 39)).alloc (.cells #[.int .i64 0, .int .i64 0] 42))
    have hbw := bel2 w (.cells #[.slice (some ⟨b, 0, none⟩) 0 0, .int .i64 (-1)] 39) (.cells #[.int .i64 0, .int .i64 0] 42)
    obtain ⟨hV, hU⟩ := nw2 w #[.slice (some ⟨b, 0, none⟩) 0 0, .int .i64 (-1)] #[.int .i64 0, .int .i64 0] 39 42
    obtain ⟨y, hy⟩ : ∃ y, ((w.alloc (.cells #[.slice (some ⟨b, 0, none⟩) 0 0, .int .i64 (-1)] 39)).alloc (.cells #[.int .i64 0, .int .i64 0] 42)) = y := ⟨_, rfl⟩
    rw [hy] at hV hU hbw ⊢
    obtain ⟨U, eU⟩ : ∃ v, w.heap.size + 1 = v := ⟨_, rfl⟩
    have lU : w.heap.size ≤ U := by omega
    rw [eU] at hU ⊢
    obtain ⟨V, eV⟩ : ∃ v, w.heap.size = v := ⟨_, rfl⟩
    have lV : w.heap.size ≤ V := by omega
    rw [eV] at hV ⊢
    have HV := Lib.hid (show QB V b y from hV); have WV := Lib.hid lV
    have HU := Lib.hid (show ZB U y from hU); have WU := Lib.hid lU
    have HB := Lib.hid hbw
    clear hy hbw hV eV lV hU eU lU
    have v0 := HV.out.c0; have v1 := HV.out.c1
    have z0 := HU.out.c0; have z1 := HU.out.c1
    go_wp2_with fail
    refine (HW.out _).mono ?_
    rintro e w1 ⟨rfl, hb⟩
    have HV1 := Lib.hid (HV.out.below hb)
    have HU1 := Lib.hid (HU.out.below hb)
    have HB1 := Lib.hid (HB.out.trans (hb.mono HB.out.size))
    clear v0 v1 z0 z1
    clear hb HV HU HB
    have v0 := HV1.out.c0; have v1 := HV1.out.c1
    have z0 := HU1.out.c0; have z1 := HU1.out.c1
    go_wp2_with fail
    refine (HBY.out _).mono ?_
    rintro e w2 ⟨rfl, hb⟩
    have HV2 := Lib.hid (HV1.out.below hb)
    have HU2 := Lib.hid (HU1.out.below hb)
    have HB2 := Lib.hid (HB1.out.trans (hb.mono HB1.out.size))
    clear v0 v1 z0 z1
    clear hb HV1 HU1 HB1
    have v0 := HV2.out.c0; have v1 := HV2.out.c1
    have z0 := HU2.out.c0; have z1 := HU2.out.c1
    go_wp2_with fail
    go_ret2
    exact ⟨rfl, HB2.out⟩
theorem e_put3 : Calls Try.prog 119 #[q0 b, .int .i64 0, .string ⟨#[]⟩] w (DocP b w) := by
  go_enter Try.func119, Try.ntmps119
  go_upto_region 1 with fail
  change Code.wp _ _ _ _ ((w.alloc (.cells #[.slice (some ⟨b, 0, none⟩) 0 0, .int .i64 (-1)] 39)).alloc (.cells #[.slice none 0 0, .int .i64 0] 39))
  have hbw := bel2 w (.cells #[.slice (some ⟨b, 0, none⟩) 0 0, .int .i64 (-1)] 39) (.cells #[.slice none 0 0, .int .i64 0] 39)
  obtain ⟨hV, hR⟩ := nw2 w #[.slice (some ⟨b, 0, none⟩) 0 0, .int .i64 (-1)] #[.slice none 0 0, .int .i64 0] 39 39
  obtain ⟨y, hy⟩ : ∃ y, ((w.alloc (.cells #[.slice (some ⟨b, 0, none⟩) 0 0, .int .i64 (-1)] 39)).alloc (.cells #[.slice none 0 0, .int .i64 0] 39)) = y := ⟨_, rfl⟩
  rw [hy] at hV hR hbw ⊢
  obtain ⟨R, eR⟩ : ∃ v, w.heap.size + 1 = v := ⟨_, rfl⟩
  have lR : w.heap.size ≤ R := by omega
  rw [eR] at hR ⊢
  obtain ⟨V, eV⟩ : ∃ v, w.heap.size = v := ⟨_, rfl⟩
  have lV : w.heap.size ≤ V := by omega
  rw [eV] at hV ⊢
  have HV := Lib.hid (show QB V b y from hV); have WV := Lib.hid lV
  have HR := Lib.hid (show NB R y from hR); have WR := Lib.hid lR
  have HB := Lib.hid hbw
  clear hy hbw hV eV lV hR eR lR
  have v0 := HV.out.c0; have v1 := HV.out.c1
  have r0 := HR.out.c0; have r1 := HR.out.c1; have f0 := HR.out.f0; have f1 := HR.out.f1
  go_wp2_with fail
  refine (e_there b _).mono ?_
  rintro e w1 ⟨rfl, hb⟩
  have HV1 := Lib.hid (HV.out.below hb)
  have HR1 := Lib.hid (HR.out.below hb)
  have HB1 := Lib.hid (HB.out.trans (hb.mono HB.out.size))
  clear v0 v1 r0 r1 f0 f1
  clear hb HV HR HB
  have v0 := HV1.out.c0; have v1 := HV1.out.c1
  have r0 := HR1.out.c0; have r1 := HR1.out.c1; have f0 := HR1.out.f0; have f1 := HR1.out.f1
  go_wp2_with fail
  go_loopw [1, 2] (fun s1 s2 wr => s1 = .int .i64 0 ∧ s2 = .string ⟨#[]⟩ ∧ w1 = wr) (fun _ _ _ => 0)
  case atStart => exact ⟨rfl, rfl, rfl⟩
  case round =>
    obtain ⟨rfl, rfl, rfl⟩ := hrel
    go_wp2_with fail
    have h3 : ((w1.setCell ⟨R, 0, none⟩ (.slice (some ⟨b, 0, none⟩) 0 0)).setCell ⟨R, 1, none⟩ (.int .i64 (-1))).heap[R]? = some (.cells #[.slice (some ⟨b, 0, none⟩) 0 0, .int .i64 (-1)] 39 (0, 0)) := heap_set (heap_set HR1.out _) _
    have g0 := (cell_blk h3 0).1; have g1 := (cell_blk h3 1).1
    exact bodyPost_ret (v := .tuple #[docV (some ⟨b, 0, none⟩) 0 0 (-1), .int .i64 0]) (by simp [results, Try.results119, go_sem, g0, g1]) rfl ⟨_, rfl, (HB1.out.setCell (p := ⟨R, 0, none⟩) WR.out _).setCell (p := ⟨R, 1, none⟩) WR.out _⟩
theorem e_put4 (a : Int) (s : ByteArray) : Calls Try.prog 77 #[q0 b, z00, .int .i64 a, .string s] w (DocP b w) := by
  have HW := Lib.hid (fun w => e_within b w a s.size)
  have HP := Lib.hid (fun w => e_put3 b w)
  cases hw : inE a s.size with
  | false =>
    rw [hw] at HW
    clear hw
    go_enter Try.func77, Try.ntmps77
    go_upto_region 1 with fail
    change Code.wp _ _ _ _ (((w.alloc (.cells #[.slice (some ⟨b, 0, none⟩) 0 0, .int .i64 (-1)] 39)).alloc (.cells #[.int .i64 0, .int .i64 0] 42)).alloc (.cells #[.slice none 0 0, .int .i64 0] 39))
    have hbw := bel3 w (.cells #[.slice (some ⟨b, 0, none⟩) 0 0, .int .i64 (-1)] 39) (.cells #[.int .i64 0, .int .i64 0] 42) (.cells #[.slice none 0 0, .int .i64 0] 39)
    obtain ⟨hV, hU, hR⟩ := nw3 w #[.slice (some ⟨b, 0, none⟩) 0 0, .int .i64 (-1)] #[.int .i64 0, .int .i64 0] #[.slice none 0 0, .int .i64 0] 39 42 39
    obtain ⟨y, hy⟩ : ∃ y, (((w.alloc (.cells #[.slice (some ⟨b, 0, none⟩) 0 0, .int .i64 (-1)] 39)).alloc (.cells #[.int .i64 0, .int .i64 0] 42)).alloc (.cells #[.slice none 0 0, .int .i64 0] 39)) = y := ⟨_, rfl⟩
    rw [hy] at hV hU hR hbw ⊢
    obtain ⟨R, eR⟩ : ∃ v, w.heap.size + 2 = v := ⟨_, rfl⟩
    have lR : w.heap.size ≤ R := by omega
    rw [eR] at hR ⊢
    obtain ⟨U, eU⟩ : ∃ v, w.heap.size + 1 = v := ⟨_, rfl⟩
    have lU : w.heap.size ≤ U := by omega
    rw [eU] at hU ⊢
    obtain ⟨V, eV⟩ : ∃ v, w.heap.size = v := ⟨_, rfl⟩
    have lV : w.heap.size ≤ V := by omega
    rw [eV] at hV ⊢
    have HV := Lib.hid (show QB V b y from hV); have WV := Lib.hid lV
    have HU := Lib.hid (show ZB U y from hU); have WU := Lib.hid lU
    have HR := Lib.hid (show NB R y from hR); have WR := Lib.hid lR
    have HB := Lib.hid hbw
    clear hy hbw hV eV lV hU eU lU hR eR lR
    have v0 := HV.out.c0; have v1 := HV.out.c1
    have z0 := HU.out.c0; have z1 := HU.out.c1
    have r0 := HR.out.c0; have r1 := HR.out.c1; have f0 := HR.out.f0; have f1 := HR.out.f1
    go_wp2_with fail
    refine (HW.out _).mono ?_
    rintro e w1 ⟨rfl, hb⟩
    have HV1 := Lib.hid (HV.out.below hb)
    have HU1 := Lib.hid (HU.out.below hb)
    have HR1 := Lib.hid (HR.out.below hb)
    have HB1 := Lib.hid (HB.out.trans (hb.mono HB.out.size))
    clear v0 v1 z0 z1 r0 r1 f0 f1
    clear hb HV HU HR HB
    have v0 := HV1.out.c0; have v1 := HV1.out.c1
    have z0 := HU1.out.c0; have z1 := HU1.out.c1
    have r0 := HR1.out.c0; have r1 := HR1.out.c1; have f0 := HR1.out.f0; have f1 := HR1.out.f1
    go_wp2_with fail
    have h3 : ((w1.setCell ⟨R, 0, none⟩ (.slice (some ⟨b, 0, none⟩) 0 0)).setCell ⟨R, 1, none⟩ (.int .i64 (-1))).heap[R]? = some (.cells #[.slice (some ⟨b, 0, none⟩) 0 0, .int .i64 (-1)] 39 (0, 0)) := heap_set (heap_set HR1.out _) _
    have g0 := (cell_blk h3 0).1; have g1 := (cell_blk h3 1).1
    exact bodyPost_ret (v := .tuple #[docV (some ⟨b, 0, none⟩) 0 0 (-1), .int .i64 3]) (by simp [results, Try.results77, go_sem, g0, g1]) rfl ⟨_, rfl, (HB1.out.setCell (p := ⟨R, 0, none⟩) WR.out _).setCell (p := ⟨R, 1, none⟩) WR.out _⟩
  | true =>
    obtain ⟨h0, h1⟩ : a = 0 ∧ (s.size : Int) = 0 := of_decide_eq_true hw
    obtain rfl : s = ⟨#[]⟩ := by
      have : s.data.size = 0 := by have : s.data.size = s.size := rfl; omega
      cases s; simp at this; simp [this]
    subst h0
    rw [hw] at HW
    clear hw h1
    go_enter Try.func77, Try.ntmps77
    go_upto_region 1 with fail
    change Code.wp _ _ _ _ (((w.alloc (.cells #[.slice (some ⟨b, 0, none⟩) 0 0, .int .i64 (-1)] 39)).alloc (.cells #[.int .i64 0, .int .i64 0] 42)).alloc (.cells #[.slice none 0 0, .int .i64 0] 39))
    have hbw := bel3 w (.cells #[.slice (some ⟨b, 0, none⟩) 0 0, .int .i64 (-1)] 39) (.cells #[.int .i64 0, .int .i64 0] 42) (.cells #[.slice none 0 0, .int .i64 0] 39)
    obtain ⟨hV, hU, hR⟩ := nw3 w #[.slice (some ⟨b, 0, none⟩) 0 0, .int .i64 (-1)] #[.int .i64 0, .int .i64 0] #[.slice none 0 0, .int .i64 0] 39 42 39
    obtain ⟨y, hy⟩ : ∃ y, (((w.alloc (.cells #[.slice (some ⟨b, 0, none⟩) 0 0, .int .i64 (-1)] 39)).alloc (.cells #[.int .i64 0, .int .i64 0] 42)).alloc (.cells #[.slice none 0 0, .int .i64 0] 39)) = y := ⟨_, rfl⟩
    rw [hy] at hV hU hR hbw ⊢
    obtain ⟨R, eR⟩ : ∃ v, w.heap.size + 2 = v := ⟨_, rfl⟩
    have lR : w.heap.size ≤ R := by omega
    rw [eR] at hR ⊢
    obtain ⟨U, eU⟩ : ∃ v, w.heap.size + 1 = v := ⟨_, rfl⟩
    have lU : w.heap.size ≤ U := by omega
    rw [eU] at hU ⊢
    obtain ⟨V, eV⟩ : ∃ v, w.heap.size = v := ⟨_, rfl⟩
    have lV : w.heap.size ≤ V := by omega
    rw [eV] at hV ⊢
    have HV := Lib.hid (show QB V b y from hV); have WV := Lib.hid lV
    have HU := Lib.hid (show ZB U y from hU); have WU := Lib.hid lU
    have HR := Lib.hid (show NB R y from hR); have WR := Lib.hid lR
    have HB := Lib.hid hbw
    clear hy hbw hV eV lV hU eU lU hR eR lR
    have v0 := HV.out.c0; have v1 := HV.out.c1
    have z0 := HU.out.c0; have z1 := HU.out.c1
    have r0 := HR.out.c0; have r1 := HR.out.c1; have f0 := HR.out.f0; have f1 := HR.out.f1
    go_wp2_with fail
    refine (HW.out _).mono ?_
    rintro e w1 ⟨rfl, hb⟩
    have HV1 := Lib.hid (HV.out.below hb)
    have HU1 := Lib.hid (HU.out.below hb)
    have HR1 := Lib.hid (HR.out.below hb)
    have HB1 := Lib.hid (HB.out.trans (hb.mono HB.out.size))
    clear v0 v1 z0 z1 r0 r1 f0 f1
    clear hb HV HU HR HB
    have v0 := HV1.out.c0; have v1 := HV1.out.c1
    have z0 := HU1.out.c0; have z1 := HU1.out.c1
    have r0 := HR1.out.c0; have r1 := HR1.out.c1; have f0 := HR1.out.f0; have f1 := HR1.out.f1
    go_wp2_with fail
    refine (HP.out _).mono ?_
    rintro e w2 ⟨er, rfl, hb⟩
    have HV2 := Lib.hid (HV1.out.below hb)
    have HU2 := Lib.hid (HU1.out.below hb)
    have HR2 := Lib.hid (HR1.out.below hb)
    have HB2 := Lib.hid (HB1.out.trans (hb.mono HB1.out.size))
    clear v0 v1 z0 z1 r0 r1 f0 f1
    clear hb HV1 HU1 HR1 HB1
    have v0 := HV2.out.c0; have v1 := HV2.out.c1
    have z0 := HU2.out.c0; have z1 := HU2.out.c1
    have r0 := HR2.out.c0; have r1 := HR2.out.c1; have f0 := HR2.out.f0; have f1 := HR2.out.f1
    go_wp2_with fail
    have h3 : ((w2.setCell ⟨R, 0, none⟩ (.slice (some ⟨b, 0, none⟩) 0 0)).setCell ⟨R, 1, none⟩ (.int .i64 (-1))).heap[R]? = some (.cells #[.slice (some ⟨b, 0, none⟩) 0 0, .int .i64 (-1)] 39 (0, 0)) := heap_set (heap_set HR2.out _) _
    have g0 := (cell_blk h3 0).1; have g1 := (cell_blk h3 1).1
    exact bodyPost_ret (v := .tuple #[docV (some ⟨b, 0, none⟩) 0 0 (-1), .int .i64 er]) (by simp [results, Try.results77, go_sem, g0, g1]) rfl ⟨_, rfl, (HB2.out.setCell (p := ⟨R, 0, none⟩) WR.out _).setCell (p := ⟨R, 1, none⟩) WR.out _⟩
theorem e_copy3 : Calls Try.prog 121 #[q0 b, .int .i64 0, .int .i64 0, .int .i64 0] w (DocP b w) := by
  go_enter Try.func121, Try.ntmps121
  go_upto_region 1 with fail
  change Code.wp _ _ _ _ ((w.alloc (.cells #[.slice (some ⟨b, 0, none⟩) 0 0, .int .i64 (-1)] 39)).alloc (.cells #[.slice none 0 0, .int .i64 0] 39))
  have hbw := bel2 w (.cells #[.slice (some ⟨b, 0, none⟩) 0 0, .int .i64 (-1)] 39) (.cells #[.slice none 0 0, .int .i64 0] 39)
  obtain ⟨hV, hR⟩ := nw2 w #[.slice (some ⟨b, 0, none⟩) 0 0, .int .i64 (-1)] #[.slice none 0 0, .int .i64 0] 39 39
  obtain ⟨y, hy⟩ : ∃ y, ((w.alloc (.cells #[.slice (some ⟨b, 0, none⟩) 0 0, .int .i64 (-1)] 39)).alloc (.cells #[.slice none 0 0, .int .i64 0] 39)) = y := ⟨_, rfl⟩
  rw [hy] at hV hR hbw ⊢
  obtain ⟨R, eR⟩ : ∃ v, w.heap.size + 1 = v := ⟨_, rfl⟩
  have lR : w.heap.size ≤ R := by omega
  rw [eR] at hR ⊢
  obtain ⟨V, eV⟩ : ∃ v, w.heap.size = v := ⟨_, rfl⟩
  have lV : w.heap.size ≤ V := by omega
  rw [eV] at hV ⊢
  have HV := Lib.hid (show QB V b y from hV); have WV := Lib.hid lV
  have HR := Lib.hid (show NB R y from hR); have WR := Lib.hid lR
  have HB := Lib.hid hbw
  clear hy hbw hV eV lV hR eR lR
  have v0 := HV.out.c0; have v1 := HV.out.c1
  have r0 := HR.out.c0; have r1 := HR.out.c1; have f0 := HR.out.f0; have f1 := HR.out.f1
  go_wp2_with fail
  refine (e_bytes3 b _).mono ?_
  rintro e w1 ⟨rfl, hb⟩
  have HV1 := Lib.hid (HV.out.below hb)
  have HR1 := Lib.hid (HR.out.below hb)
  have HB1 := Lib.hid (HB.out.trans (hb.mono HB.out.size))
  clear v0 v1 r0 r1 f0 f1
  clear hb HV HR HB
  have v0 := HV1.out.c0; have v1 := HV1.out.c1
  have r0 := HR1.out.c0; have r1 := HR1.out.c1; have f0 := HR1.out.f0; have f1 := HR1.out.f1
  go_wp2_with fail
  refine (e_put3 b _).mono ?_
  rintro e w2 ⟨er, rfl, hb⟩
  have HV2 := Lib.hid (HV1.out.below hb)
  have HR2 := Lib.hid (HR1.out.below hb)
  have HB2 := Lib.hid (HB1.out.trans (hb.mono HB1.out.size))
  clear v0 v1 r0 r1 f0 f1
  clear hb HV1 HR1 HB1
  have v0 := HV2.out.c0; have v1 := HV2.out.c1
  have r0 := HR2.out.c0; have r1 := HR2.out.c1; have f0 := HR2.out.f0; have f1 := HR2.out.f1
  go_wp2_with fail
  have h3 : ((w2.setCell ⟨R, 0, none⟩ (.slice (some ⟨b, 0, none⟩) 0 0)).setCell ⟨R, 1, none⟩ (.int .i64 (-1))).heap[R]? = some (.cells #[.slice (some ⟨b, 0, none⟩) 0 0, .int .i64 (-1)] 39 (0, 0)) := heap_set (heap_set HR2.out _) _
  have g0 := (cell_blk h3 0).1; have g1 := (cell_blk h3 1).1
  exact bodyPost_ret (v := .tuple #[docV (some ⟨b, 0, none⟩) 0 0 (-1), .int .i64 er]) (by simp [results, Try.results121, go_sem, g0, g1]) rfl ⟨_, rfl, (HB2.out.setCell (p := ⟨R, 0, none⟩) WR.out _).setCell (p := ⟨R, 1, none⟩) WR.out _⟩
theorem e_copy4 (tt fr n : Int) : Calls Try.prog 81 #[q0 b, z00, .int .i64 tt, .int .i64 fr, .int .i64 n] w (DocP b w) := by
  have HW := Lib.hid (fun w => e_within b w fr n)
  have HW2 := Lib.hid (fun w => e_within b w tt n)
  have HP := Lib.hid (fun w => e_copy3 b w)
  cases hw : inE fr n with
  | false =>
    rw [hw] at HW
    clear hw
    go_enter Try.func81, Try.ntmps81
    go_upto_region 1 with fail
    change Code.wp _ _ _ _ (((w.alloc (.cells #[.slice (some ⟨b, 0, none⟩) 0 0, .int .i64 (-1)] 39)).alloc (.cells #[.int .i64 0, .int .i64 0] 42)).alloc (.cells #[.slice none 0 0, .int .i64 0] 39))
    have hbw := bel3 w (.cells #[.slice (some ⟨b, 0, none⟩) 0 0, .int .i64 (-1)] 39) (.cells #[.int .i64 0, .int .i64 0] 42) (.cells #[.slice none 0 0, .int .i64 0] 39)
    obtain ⟨hV, hU, hR⟩ := nw3 w #[.slice (some ⟨b, 0, none⟩) 0 0, .int .i64 (-1)] #[.int .i64 0, .int .i64 0] #[.slice none 0 0, .int .i64 0] 39 42 39
    obtain ⟨y, hy⟩ : ∃ y, (((w.alloc (.cells #[.slice (some ⟨b, 0, none⟩) 0 0, .int .i64 (-1)] 39)).alloc (.cells #[.int .i64 0, .int .i64 0] 42)).alloc (.cells #[.slice none 0 0, .int .i64 0] 39)) = y := ⟨_, rfl⟩
    rw [hy] at hV hU hR hbw ⊢
    obtain ⟨R, eR⟩ : ∃ v, w.heap.size + 2 = v := ⟨_, rfl⟩
    have lR : w.heap.size ≤ R := by omega
    rw [eR] at hR ⊢
    obtain ⟨U, eU⟩ : ∃ v, w.heap.size + 1 = v := ⟨_, rfl⟩
    have lU : w.heap.size ≤ U := by omega
    rw [eU] at hU ⊢
    obtain ⟨V, eV⟩ : ∃ v, w.heap.size = v := ⟨_, rfl⟩
    have lV : w.heap.size ≤ V := by omega
    rw [eV] at hV ⊢
    have HV := Lib.hid (show QB V b y from hV); have WV := Lib.hid lV
    have HU := Lib.hid (show ZB U y from hU); have WU := Lib.hid lU
    have HR := Lib.hid (show NB R y from hR); have WR := Lib.hid lR
    have HB := Lib.hid hbw
    clear hy hbw hV eV lV hU eU lU hR eR lR
    have v0 := HV.out.c0; have v1 := HV.out.c1
    have z0 := HU.out.c0; have z1 := HU.out.c1
    have r0 := HR.out.c0; have r1 := HR.out.c1; have f0 := HR.out.f0; have f1 := HR.out.f1
    go_wp2_with fail
    refine (HW.out _).mono ?_
    rintro e w1 ⟨rfl, hb⟩
    have HV1 := Lib.hid (HV.out.below hb)
    have HU1 := Lib.hid (HU.out.below hb)
    have HR1 := Lib.hid (HR.out.below hb)
    have HB1 := Lib.hid (HB.out.trans (hb.mono HB.out.size))
    clear v0 v1 z0 z1 r0 r1 f0 f1
    clear hb HV HU HR HB
    have v0 := HV1.out.c0; have v1 := HV1.out.c1
    have z0 := HU1.out.c0; have z1 := HU1.out.c1
    have r0 := HR1.out.c0; have r1 := HR1.out.c1; have f0 := HR1.out.f0; have f1 := HR1.out.f1
    go_wp2_with fail
    have h3 : ((w1.setCell ⟨R, 0, none⟩ (.slice (some ⟨b, 0, none⟩) 0 0)).setCell ⟨R, 1, none⟩ (.int .i64 (-1))).heap[R]? = some (.cells #[.slice (some ⟨b, 0, none⟩) 0 0, .int .i64 (-1)] 39 (0, 0)) := heap_set (heap_set HR1.out _) _
    have g0 := (cell_blk h3 0).1; have g1 := (cell_blk h3 1).1
    exact bodyPost_ret (v := .tuple #[docV (some ⟨b, 0, none⟩) 0 0 (-1), .int .i64 3]) (by simp [results, Try.results81, go_sem, g0, g1]) rfl ⟨_, rfl, (HB1.out.setCell (p := ⟨R, 0, none⟩) WR.out _).setCell (p := ⟨R, 1, none⟩) WR.out _⟩
  | true =>
    rw [hw] at HW
    obtain ⟨rfl, rfl⟩ : fr = 0 ∧ n = 0 := of_decide_eq_true hw
    cases hw2 : inE tt 0 with
    | false =>
      rw [hw2] at HW2
      clear hw hw2
      go_enter Try.func81, Try.ntmps81
      go_upto_region 1 with fail
      change Code.wp _ _ _ _ (((w.alloc (.cells #[.slice (some ⟨b, 0, none⟩) 0 0, .int .i64 (-1)] 39)).alloc (.cells #[.int .i64 0, .int .i64 0] 42)).alloc (.cells #[.slice none 0 0, .int .i64 0] 39))
      have hbw := bel3 w (.cells #[.slice (some ⟨b, 0, none⟩) 0 0, .int .i64 (-1)] 39) (.cells #[.int .i64 0, .int .i64 0] 42) (.cells #[.slice none 0 0, .int .i64 0] 39)
      obtain ⟨hV, hU, hR⟩ := nw3 w #[.slice (some ⟨b, 0, none⟩) 0 0, .int .i64 (-1)] #[.int .i64 0, .int .i64 0] #[.slice none 0 0, .int .i64 0] 39 42 39
      obtain ⟨y, hy⟩ : ∃ y, (((w.alloc (.cells #[.slice (some ⟨b, 0, none⟩) 0 0, .int .i64 (-1)] 39)).alloc (.cells #[.int .i64 0, .int .i64 0] 42)).alloc (.cells #[.slice none 0 0, .int .i64 0] 39)) = y := ⟨_, rfl⟩
      rw [hy] at hV hU hR hbw ⊢
      obtain ⟨R, eR⟩ : ∃ v, w.heap.size + 2 = v := ⟨_, rfl⟩
      have lR : w.heap.size ≤ R := by omega
      rw [eR] at hR ⊢
      obtain ⟨U, eU⟩ : ∃ v, w.heap.size + 1 = v := ⟨_, rfl⟩
      have lU : w.heap.size ≤ U := by omega
      rw [eU] at hU ⊢
      obtain ⟨V, eV⟩ : ∃ v, w.heap.size = v := ⟨_, rfl⟩
      have lV : w.heap.size ≤ V := by omega
      rw [eV] at hV ⊢
      have HV := Lib.hid (show QB V b y from hV); have WV := Lib.hid lV
      have HU := Lib.hid (show ZB U y from hU); have WU := Lib.hid lU
      have HR := Lib.hid (show NB R y from hR); have WR := Lib.hid lR
      have HB := Lib.hid hbw
      clear hy hbw hV eV lV hU eU lU hR eR lR
      have v0 := HV.out.c0; have v1 := HV.out.c1
      have z0 := HU.out.c0; have z1 := HU.out.c1
      have r0 := HR.out.c0; have r1 := HR.out.c1; have f0 := HR.out.f0; have f1 := HR.out.f1
      go_wp2_with fail
      refine (HW.out _).mono ?_
      rintro e w1 ⟨rfl, hb⟩
      have HV1 := Lib.hid (HV.out.below hb)
      have HU1 := Lib.hid (HU.out.below hb)
      have HR1 := Lib.hid (HR.out.below hb)
      have HB1 := Lib.hid (HB.out.trans (hb.mono HB.out.size))
      clear v0 v1 z0 z1 r0 r1 f0 f1
      clear hb HV HU HR HB
      have v0 := HV1.out.c0; have v1 := HV1.out.c1
      have z0 := HU1.out.c0; have z1 := HU1.out.c1
      have r0 := HR1.out.c0; have r1 := HR1.out.c1; have f0 := HR1.out.f0; have f1 := HR1.out.f1
      go_wp2_with fail
      refine (HW2.out _).mono ?_
      rintro e w2 ⟨rfl, hb⟩
      have HV2 := Lib.hid (HV1.out.below hb)
      have HU2 := Lib.hid (HU1.out.below hb)
      have HR2 := Lib.hid (HR1.out.below hb)
      have HB2 := Lib.hid (HB1.out.trans (hb.mono HB1.out.size))
      clear v0 v1 z0 z1 r0 r1 f0 f1
      clear hb HV1 HU1 HR1 HB1
      have v0 := HV2.out.c0; have v1 := HV2.out.c1
      have z0 := HU2.out.c0; have z1 := HU2.out.c1
      have r0 := HR2.out.c0; have r1 := HR2.out.c1; have f0 := HR2.out.f0; have f1 := HR2.out.f1
      go_wp2_with fail
      have h3 : ((w2.setCell ⟨R, 0, none⟩ (.slice (some ⟨b, 0, none⟩) 0 0)).setCell ⟨R, 1, none⟩ (.int .i64 (-1))).heap[R]? = some (.cells #[.slice (some ⟨b, 0, none⟩) 0 0, .int .i64 (-1)] 39 (0, 0)) := heap_set (heap_set HR2.out _) _
      have g0 := (cell_blk h3 0).1; have g1 := (cell_blk h3 1).1
      exact bodyPost_ret (v := .tuple #[docV (some ⟨b, 0, none⟩) 0 0 (-1), .int .i64 3]) (by simp [results, Try.results81, go_sem, g0, g1]) rfl ⟨_, rfl, (HB2.out.setCell (p := ⟨R, 0, none⟩) WR.out _).setCell (p := ⟨R, 1, none⟩) WR.out _⟩
    | true =>
      rw [hw2] at HW2
      obtain ⟨rfl, _⟩ : tt = 0 ∧ (0 : Int) = 0 := of_decide_eq_true hw2
      clear hw hw2
      go_enter Try.func81, Try.ntmps81
      go_upto_region 1 with fail
      change Code.wp _ _ _ _ (((w.alloc (.cells #[.slice (some ⟨b, 0, none⟩) 0 0, .int .i64 (-1)] 39)).alloc (.cells #[.int .i64 0, .int .i64 0] 42)).alloc (.cells #[.slice none 0 0, .int .i64 0] 39))
      have hbw := bel3 w (.cells #[.slice (some ⟨b, 0, none⟩) 0 0, .int .i64 (-1)] 39) (.cells #[.int .i64 0, .int .i64 0] 42) (.cells #[.slice none 0 0, .int .i64 0] 39)
      obtain ⟨hV, hU, hR⟩ := nw3 w #[.slice (some ⟨b, 0, none⟩) 0 0, .int .i64 (-1)] #[.int .i64 0, .int .i64 0] #[.slice none 0 0, .int .i64 0] 39 42 39
      obtain ⟨y, hy⟩ : ∃ y, (((w.alloc (.cells #[.slice (some ⟨b, 0, none⟩) 0 0, .int .i64 (-1)] 39)).alloc (.cells #[.int .i64 0, .int .i64 0] 42)).alloc (.cells #[.slice none 0 0, .int .i64 0] 39)) = y := ⟨_, rfl⟩
      rw [hy] at hV hU hR hbw ⊢
      obtain ⟨R, eR⟩ : ∃ v, w.heap.size + 2 = v := ⟨_, rfl⟩
      have lR : w.heap.size ≤ R := by omega
      rw [eR] at hR ⊢
      obtain ⟨U, eU⟩ : ∃ v, w.heap.size + 1 = v := ⟨_, rfl⟩
      have lU : w.heap.size ≤ U := by omega
      rw [eU] at hU ⊢
      obtain ⟨V, eV⟩ : ∃ v, w.heap.size = v := ⟨_, rfl⟩
      have lV : w.heap.size ≤ V := by omega
      rw [eV] at hV ⊢
      have HV := Lib.hid (show QB V b y from hV); have WV := Lib.hid lV
      have HU := Lib.hid (show ZB U y from hU); have WU := Lib.hid lU
      have HR := Lib.hid (show NB R y from hR); have WR := Lib.hid lR
      have HB := Lib.hid hbw
      clear hy hbw hV eV lV hU eU lU hR eR lR
      have v0 := HV.out.c0; have v1 := HV.out.c1
      have z0 := HU.out.c0; have z1 := HU.out.c1
      have r0 := HR.out.c0; have r1 := HR.out.c1; have f0 := HR.out.f0; have f1 := HR.out.f1
      go_wp2_with fail
      refine (HW.out _).mono ?_
      rintro e w1 ⟨rfl, hb⟩
      have HV1 := Lib.hid (HV.out.below hb)
      have HU1 := Lib.hid (HU.out.below hb)
      have HR1 := Lib.hid (HR.out.below hb)
      have HB1 := Lib.hid (HB.out.trans (hb.mono HB.out.size))
      clear v0 v1 z0 z1 r0 r1 f0 f1
      clear hb HV HU HR HB
      have v0 := HV1.out.c0; have v1 := HV1.out.c1
      have z0 := HU1.out.c0; have z1 := HU1.out.c1
      have r0 := HR1.out.c0; have r1 := HR1.out.c1; have f0 := HR1.out.f0; have f1 := HR1.out.f1
      go_wp2_with fail
      refine (HW2.out _).mono ?_
      rintro e w2 ⟨rfl, hb⟩
      have HV2 := Lib.hid (HV1.out.below hb)
      have HU2 := Lib.hid (HU1.out.below hb)
      have HR2 := Lib.hid (HR1.out.below hb)
      have HB2 := Lib.hid (HB1.out.trans (hb.mono HB1.out.size))
      clear v0 v1 z0 z1 r0 r1 f0 f1
      clear hb HV1 HU1 HR1 HB1
      have v0 := HV2.out.c0; have v1 := HV2.out.c1
      have z0 := HU2.out.c0; have z1 := HU2.out.c1
      have r0 := HR2.out.c0; have r1 := HR2.out.c1; have f0 := HR2.out.f0; have f1 := HR2.out.f1
      go_wp2_with fail
      refine (HP.out _).mono ?_
      rintro e w3 ⟨er, rfl, hb⟩
      have HV3 := Lib.hid (HV2.out.below hb)
      have HU3 := Lib.hid (HU2.out.below hb)
      have HR3 := Lib.hid (HR2.out.below hb)
      have HB3 := Lib.hid (HB2.out.trans (hb.mono HB2.out.size))
      clear v0 v1 z0 z1 r0 r1 f0 f1
      clear hb HV2 HU2 HR2 HB2
      have v0 := HV3.out.c0; have v1 := HV3.out.c1
      have z0 := HU3.out.c0; have z1 := HU3.out.c1
      have r0 := HR3.out.c0; have r1 := HR3.out.c1; have f0 := HR3.out.f0; have f1 := HR3.out.f1
      go_wp2_with fail
      have h3 : ((w3.setCell ⟨R, 0, none⟩ (.slice (some ⟨b, 0, none⟩) 0 0)).setCell ⟨R, 1, none⟩ (.int .i64 (-1))).heap[R]? = some (.cells #[.slice (some ⟨b, 0, none⟩) 0 0, .int .i64 (-1)] 39 (0, 0)) := heap_set (heap_set HR3.out _) _
      have g0 := (cell_blk h3 0).1; have g1 := (cell_blk h3 1).1
      exact bodyPost_ret (v := .tuple #[docV (some ⟨b, 0, none⟩) 0 0 (-1), .int .i64 er]) (by simp [results, Try.results81, go_sem, g0, g1]) rfl ⟨_, rfl, (HB3.out.setCell (p := ⟨R, 0, none⟩) WR.out _).setCell (p := ⟨R, 1, none⟩) WR.out _⟩
theorem e_store4 (a n x : Int) : Calls Try.prog 73 #[q0 b, z00, .int .i64 a, .int .i64 n, .int .u64 x] w (DocP b w) := by
  have HL := Lib.hid (fun w => e_load4 b w a n)
  obtain ⟨er, her⟩ : ∃ er : Int, (if whE n then (3 : Int) else 2) = er := ⟨_, rfl⟩
  have hne : (er != 0) = true := by rw [← her]; split <;> rfl
  rw [her] at HL
  clear her
  go_enter Try.func73, Try.ntmps73
  go_upto_region 1 with fail
  change Code.wp _ _ _ _ (((w.alloc (.cells #[.slice (some ⟨b, 0, none⟩) 0 0, .int .i64 (-1)] 39)).alloc (.cells #[.int .i64 0, .int .i64 0] 42)).alloc (.cells #[.slice none 0 0, .int .i64 0] 39))
  have hbw := bel3 w (.cells #[.slice (some ⟨b, 0, none⟩) 0 0, .int .i64 (-1)] 39) (.cells #[.int .i64 0, .int .i64 0] 42) (.cells #[.slice none 0 0, .int .i64 0] 39)
  obtain ⟨hV, hU, hR⟩ := nw3 w #[.slice (some ⟨b, 0, none⟩) 0 0, .int .i64 (-1)] #[.int .i64 0, .int .i64 0] #[.slice none 0 0, .int .i64 0] 39 42 39
  obtain ⟨y, hy⟩ : ∃ y, (((w.alloc (.cells #[.slice (some ⟨b, 0, none⟩) 0 0, .int .i64 (-1)] 39)).alloc (.cells #[.int .i64 0, .int .i64 0] 42)).alloc (.cells #[.slice none 0 0, .int .i64 0] 39)) = y := ⟨_, rfl⟩
  rw [hy] at hV hU hR hbw ⊢
  obtain ⟨R, eR⟩ : ∃ v, w.heap.size + 2 = v := ⟨_, rfl⟩
  have lR : w.heap.size ≤ R := by omega
  rw [eR] at hR ⊢
  obtain ⟨U, eU⟩ : ∃ v, w.heap.size + 1 = v := ⟨_, rfl⟩
  have lU : w.heap.size ≤ U := by omega
  rw [eU] at hU ⊢
  obtain ⟨V, eV⟩ : ∃ v, w.heap.size = v := ⟨_, rfl⟩
  have lV : w.heap.size ≤ V := by omega
  rw [eV] at hV ⊢
  have HV := Lib.hid (show QB V b y from hV); have WV := Lib.hid lV
  have HU := Lib.hid (show ZB U y from hU); have WU := Lib.hid lU
  have HR := Lib.hid (show NB R y from hR); have WR := Lib.hid lR
  have HB := Lib.hid hbw
  clear hy hbw hV eV lV hU eU lU hR eR lR
  have v0 := HV.out.c0; have v1 := HV.out.c1
  have z0 := HU.out.c0; have z1 := HU.out.c1
  have r0 := HR.out.c0; have r1 := HR.out.c1; have f0 := HR.out.f0; have f1 := HR.out.f1
  go_wp2_with fail
  refine (HL.out _).mono ?_
  rintro e w1 ⟨rfl, hb⟩
  have HV1 := Lib.hid (HV.out.below hb)
  have HU1 := Lib.hid (HU.out.below hb)
  have HR1 := Lib.hid (HR.out.below hb)
  have HB1 := Lib.hid (HB.out.trans (hb.mono HB.out.size))
  clear v0 v1 z0 z1 r0 r1 f0 f1
  clear hb HV HU HR HB
  have v0 := HV1.out.c0; have v1 := HV1.out.c1
  have z0 := HU1.out.c0; have z1 := HU1.out.c1
  have r0 := HR1.out.c0; have r1 := HR1.out.c1; have f0 := HR1.out.f0; have f1 := HR1.out.f1
  go_wp2_with fail
  have h3 : ((w1.setCell ⟨R, 0, none⟩ (.slice (some ⟨b, 0, none⟩) 0 0)).setCell ⟨R, 1, none⟩ (.int .i64 (-1))).heap[R]? = some (.cells #[.slice (some ⟨b, 0, none⟩) 0 0, .int .i64 (-1)] 39 (0, 0)) := heap_set (heap_set HR1.out _) _
  have g0 := (cell_blk h3 0).1; have g1 := (cell_blk h3 1).1
  exact bodyPost_ret (v := .tuple #[docV (some ⟨b, 0, none⟩) 0 0 (-1), .int .i64 er]) (by simp [results, Try.results73, go_sem, g0, g1]) rfl ⟨_, rfl, (HB1.out.setCell (p := ⟨R, 0, none⟩) WR.out _).setCell (p := ⟨R, 1, none⟩) WR.out _⟩
theorem e_fill3 (x : Int) : Calls Try.prog 120 #[q0 b, .int .i64 0, .int .i64 0, .int .u8 x] w (DocP b w) := by
  have HMK := Lib.hid (fun w => run_bytes (a := 0) 0 (fun _ => 0) (by omega) w)
  go_enter Try.func120, Try.ntmps120
  go_upto_region 1 with fail
  change Code.wp _ _ _ _ ((w.alloc (.cells #[.slice (some ⟨b, 0, none⟩) 0 0, .int .i64 (-1)] 39)).alloc (.cells #[.slice none 0 0, .int .i64 0] 39))
  have hbw := bel2 w (.cells #[.slice (some ⟨b, 0, none⟩) 0 0, .int .i64 (-1)] 39) (.cells #[.slice none 0 0, .int .i64 0] 39)
  obtain ⟨hV, hR⟩ := nw2 w #[.slice (some ⟨b, 0, none⟩) 0 0, .int .i64 (-1)] #[.slice none 0 0, .int .i64 0] 39 39
  obtain ⟨y, hy⟩ : ∃ y, ((w.alloc (.cells #[.slice (some ⟨b, 0, none⟩) 0 0, .int .i64 (-1)] 39)).alloc (.cells #[.slice none 0 0, .int .i64 0] 39)) = y := ⟨_, rfl⟩
  rw [hy] at hV hR hbw ⊢
  obtain ⟨R, eR⟩ : ∃ v, w.heap.size + 1 = v := ⟨_, rfl⟩
  have lR : w.heap.size ≤ R := by omega
  rw [eR] at hR ⊢
  obtain ⟨V, eV⟩ : ∃ v, w.heap.size = v := ⟨_, rfl⟩
  have lV : w.heap.size ≤ V := by omega
  rw [eV] at hV ⊢
  have HV := Lib.hid (show QB V b y from hV); have WV := Lib.hid lV
  have HR := Lib.hid (show NB R y from hR); have WR := Lib.hid lR
  have HB := Lib.hid hbw
  clear hy hbw hV eV lV hR eR lR
  have v0 := HV.out.c0; have v1 := HV.out.c1
  have r0 := HR.out.c0; have r1 := HR.out.c1; have f0 := HR.out.f0; have f1 := HR.out.f1
  go_wp2_with fail
  refine (e_there b _).mono ?_
  rintro e w1 ⟨rfl, hb⟩
  have HV1 := Lib.hid (HV.out.below hb)
  have HR1 := Lib.hid (HR.out.below hb)
  have HB1 := Lib.hid (HB.out.trans (hb.mono HB.out.size))
  clear v0 v1 r0 r1 f0 f1
  clear hb HV HR HB
  have v0 := HV1.out.c0; have v1 := HV1.out.c1
  have r0 := HR1.out.c0; have r1 := HR1.out.c1; have f0 := HR1.out.f0; have f1 := HR1.out.f1
  have hmk : (Instr.makeSlice 114 (.int .i64 0) (.int .i64 0)).run Try.prog w1 = .ok (.slice (some ⟨w1.heap.size, 0, none⟩) 0 0) (w1.alloc (.cells (outV (a := 0) (n := 0) (fun _ => 0) []) 5)) := HMK.out w1
  have hb := bel1 w1 (.cells (outV (a := 0) (n := 0) (fun _ => 0) []) 5)
  have hX := heap_new w1 (.cells (outV (a := 0) (n := 0) (fun _ => 0) []) 5)
  go_upto_region 4 with fail
  obtain ⟨x1, hx1⟩ : ∃ z, w1.alloc (.cells (outV (a := 0) (n := 0) (fun _ => 0) []) 5) = z := ⟨_, rfl⟩
  obtain ⟨B, hBB⟩ : ∃ z, w1.heap.size = z := ⟨_, rfl⟩
  rw [hx1] at hb hX ⊢
  rw [hBB] at hX ⊢
  have HX := Lib.hid hX
  have HV2 := Lib.hid (HV1.out.below hb); have HR2 := Lib.hid (HR1.out.below hb); have HB2 := Lib.hid (HB1.out.trans (hb.mono HB1.out.size))
  clear hb hX hx1 hBB hmk v0 v1 r0 r1 f0 f1 HV1 HR1 HB1 HMK
  have v0 := HV2.out.c0; have v1 := HV2.out.c1
  have r0 := HR2.out.c0; have r1 := HR2.out.c1; have f0 := HR2.out.f0; have f1 := HR2.out.f1
  have hcv : (convert 114 9 (.slice (some ⟨B, 0, none⟩) 0 0)).run Try.prog x1 = .ok (.string ⟨#[]⟩) x1 := by
    have h := run_convert_bytes_arg (P := Try.prog) x1 114 5 Try.underlying114 Try.underlying5 B 0 0 0 [] rfl (fun i hi => by simp at hi) 9 Try.underlying9
    exact h
  go_wp2_with fail
  go_loopw [22] (fun s wr => s = .int .i64 0 ∧ x1 = wr) (fun _ _ => 0)
  case atStart => exact ⟨rfl, rfl⟩
  case round =>
    obtain ⟨rfl, rfl⟩ := hrel
    go_wp2_with fail
    refine (e_put3 b _).mono ?_
    rintro e w3 ⟨er, rfl, hb⟩
    have HV3 := Lib.hid (HV2.out.below hb)
    have HR3 := Lib.hid (HR2.out.below hb)
    have HB3 := Lib.hid (HB2.out.trans (hb.mono HB2.out.size))
    clear v0 v1 r0 r1 f0 f1
    clear hb HV2 HR2 HB2
    have v0 := HV3.out.c0; have v1 := HV3.out.c1
    have r0 := HR3.out.c0; have r1 := HR3.out.c1; have f0 := HR3.out.f0; have f1 := HR3.out.f1
    go_wp2_with fail
    have h3 : ((w3.setCell ⟨R, 0, none⟩ (.slice (some ⟨b, 0, none⟩) 0 0)).setCell ⟨R, 1, none⟩ (.int .i64 (-1))).heap[R]? = some (.cells #[.slice (some ⟨b, 0, none⟩) 0 0, .int .i64 (-1)] 39 (0, 0)) := heap_set (heap_set HR3.out _) _
    have g0 := (cell_blk h3 0).1; have g1 := (cell_blk h3 1).1
    exact bodyPost_ret (v := .tuple #[docV (some ⟨b, 0, none⟩) 0 0 (-1), .int .i64 er]) (by simp [results, Try.results120, go_sem, g0, g1]) rfl ⟨_, rfl, (HB3.out.setCell (p := ⟨R, 0, none⟩) WR.out _).setCell (p := ⟨R, 1, none⟩) WR.out _⟩
theorem e_fill4 (a n x : Int) : Calls Try.prog 79 #[q0 b, z00, .int .i64 a, .int .i64 n, .int .u8 x] w (DocP b w) := by
  have HW := Lib.hid (fun w => e_within b w a n)
  have HP := Lib.hid (fun w => e_fill3 b w x)
  cases hw : inE a n with
  | false =>
    rw [hw] at HW
    clear hw
    go_enter Try.func79, Try.ntmps79
    go_upto_region 1 with fail
    change Code.wp _ _ _ _ (((w.alloc (.cells #[.slice (some ⟨b, 0, none⟩) 0 0, .int .i64 (-1)] 39)).alloc (.cells #[.int .i64 0, .int .i64 0] 42)).alloc (.cells #[.slice none 0 0, .int .i64 0] 39))
    have hbw := bel3 w (.cells #[.slice (some ⟨b, 0, none⟩) 0 0, .int .i64 (-1)] 39) (.cells #[.int .i64 0, .int .i64 0] 42) (.cells #[.slice none 0 0, .int .i64 0] 39)
    obtain ⟨hV, hU, hR⟩ := nw3 w #[.slice (some ⟨b, 0, none⟩) 0 0, .int .i64 (-1)] #[.int .i64 0, .int .i64 0] #[.slice none 0 0, .int .i64 0] 39 42 39
    obtain ⟨y, hy⟩ : ∃ y, (((w.alloc (.cells #[.slice (some ⟨b, 0, none⟩) 0 0, .int .i64 (-1)] 39)).alloc (.cells #[.int .i64 0, .int .i64 0] 42)).alloc (.cells #[.slice none 0 0, .int .i64 0] 39)) = y := ⟨_, rfl⟩
    rw [hy] at hV hU hR hbw ⊢
    obtain ⟨R, eR⟩ : ∃ v, w.heap.size + 2 = v := ⟨_, rfl⟩
    have lR : w.heap.size ≤ R := by omega
    rw [eR] at hR ⊢
    obtain ⟨U, eU⟩ : ∃ v, w.heap.size + 1 = v := ⟨_, rfl⟩
    have lU : w.heap.size ≤ U := by omega
    rw [eU] at hU ⊢
    obtain ⟨V, eV⟩ : ∃ v, w.heap.size = v := ⟨_, rfl⟩
    have lV : w.heap.size ≤ V := by omega
    rw [eV] at hV ⊢
    have HV := Lib.hid (show QB V b y from hV); have WV := Lib.hid lV
    have HU := Lib.hid (show ZB U y from hU); have WU := Lib.hid lU
    have HR := Lib.hid (show NB R y from hR); have WR := Lib.hid lR
    have HB := Lib.hid hbw
    clear hy hbw hV eV lV hU eU lU hR eR lR
    have v0 := HV.out.c0; have v1 := HV.out.c1
    have z0 := HU.out.c0; have z1 := HU.out.c1
    have r0 := HR.out.c0; have r1 := HR.out.c1; have f0 := HR.out.f0; have f1 := HR.out.f1
    go_wp2_with fail
    refine (HW.out _).mono ?_
    rintro e w1 ⟨rfl, hb⟩
    have HV1 := Lib.hid (HV.out.below hb)
    have HU1 := Lib.hid (HU.out.below hb)
    have HR1 := Lib.hid (HR.out.below hb)
    have HB1 := Lib.hid (HB.out.trans (hb.mono HB.out.size))
    clear v0 v1 z0 z1 r0 r1 f0 f1
    clear hb HV HU HR HB
    have v0 := HV1.out.c0; have v1 := HV1.out.c1
    have z0 := HU1.out.c0; have z1 := HU1.out.c1
    have r0 := HR1.out.c0; have r1 := HR1.out.c1; have f0 := HR1.out.f0; have f1 := HR1.out.f1
    go_wp2_with fail
    have h3 : ((w1.setCell ⟨R, 0, none⟩ (.slice (some ⟨b, 0, none⟩) 0 0)).setCell ⟨R, 1, none⟩ (.int .i64 (-1))).heap[R]? = some (.cells #[.slice (some ⟨b, 0, none⟩) 0 0, .int .i64 (-1)] 39 (0, 0)) := heap_set (heap_set HR1.out _) _
    have g0 := (cell_blk h3 0).1; have g1 := (cell_blk h3 1).1
    exact bodyPost_ret (v := .tuple #[docV (some ⟨b, 0, none⟩) 0 0 (-1), .int .i64 3]) (by simp [results, Try.results79, go_sem, g0, g1]) rfl ⟨_, rfl, (HB1.out.setCell (p := ⟨R, 0, none⟩) WR.out _).setCell (p := ⟨R, 1, none⟩) WR.out _⟩
  | true =>
    obtain ⟨rfl, rfl⟩ : a = 0 ∧ n = 0 := of_decide_eq_true hw
    rw [hw] at HW
    clear hw
    go_enter Try.func79, Try.ntmps79
    go_upto_region 1 with fail
    change Code.wp _ _ _ _ (((w.alloc (.cells #[.slice (some ⟨b, 0, none⟩) 0 0, .int .i64 (-1)] 39)).alloc (.cells #[.int .i64 0, .int .i64 0] 42)).alloc (.cells #[.slice none 0 0, .int .i64 0] 39))
    have hbw := bel3 w (.cells #[.slice (some ⟨b, 0, none⟩) 0 0, .int .i64 (-1)] 39) (.cells #[.int .i64 0, .int .i64 0] 42) (.cells #[.slice none 0 0, .int .i64 0] 39)
    obtain ⟨hV, hU, hR⟩ := nw3 w #[.slice (some ⟨b, 0, none⟩) 0 0, .int .i64 (-1)] #[.int .i64 0, .int .i64 0] #[.slice none 0 0, .int .i64 0] 39 42 39
    obtain ⟨y, hy⟩ : ∃ y, (((w.alloc (.cells #[.slice (some ⟨b, 0, none⟩) 0 0, .int .i64 (-1)] 39)).alloc (.cells #[.int .i64 0, .int .i64 0] 42)).alloc (.cells #[.slice none 0 0, .int .i64 0] 39)) = y := ⟨_, rfl⟩
    rw [hy] at hV hU hR hbw ⊢
    obtain ⟨R, eR⟩ : ∃ v, w.heap.size + 2 = v := ⟨_, rfl⟩
    have lR : w.heap.size ≤ R := by omega
    rw [eR] at hR ⊢
    obtain ⟨U, eU⟩ : ∃ v, w.heap.size + 1 = v := ⟨_, rfl⟩
    have lU : w.heap.size ≤ U := by omega
    rw [eU] at hU ⊢
    obtain ⟨V, eV⟩ : ∃ v, w.heap.size = v := ⟨_, rfl⟩
    have lV : w.heap.size ≤ V := by omega
    rw [eV] at hV ⊢
    have HV := Lib.hid (show QB V b y from hV); have WV := Lib.hid lV
    have HU := Lib.hid (show ZB U y from hU); have WU := Lib.hid lU
    have HR := Lib.hid (show NB R y from hR); have WR := Lib.hid lR
    have HB := Lib.hid hbw
    clear hy hbw hV eV lV hU eU lU hR eR lR
    have v0 := HV.out.c0; have v1 := HV.out.c1
    have z0 := HU.out.c0; have z1 := HU.out.c1
    have r0 := HR.out.c0; have r1 := HR.out.c1; have f0 := HR.out.f0; have f1 := HR.out.f1
    go_wp2_with fail
    refine (HW.out _).mono ?_
    rintro e w1 ⟨rfl, hb⟩
    have HV1 := Lib.hid (HV.out.below hb)
    have HU1 := Lib.hid (HU.out.below hb)
    have HR1 := Lib.hid (HR.out.below hb)
    have HB1 := Lib.hid (HB.out.trans (hb.mono HB.out.size))
    clear v0 v1 z0 z1 r0 r1 f0 f1
    clear hb HV HU HR HB
    have v0 := HV1.out.c0; have v1 := HV1.out.c1
    have z0 := HU1.out.c0; have z1 := HU1.out.c1
    have r0 := HR1.out.c0; have r1 := HR1.out.c1; have f0 := HR1.out.f0; have f1 := HR1.out.f1
    go_wp2_with fail
    refine (HP.out _).mono ?_
    rintro e w2 ⟨er, rfl, hb⟩
    have HV2 := Lib.hid (HV1.out.below hb)
    have HU2 := Lib.hid (HU1.out.below hb)
    have HR2 := Lib.hid (HR1.out.below hb)
    have HB2 := Lib.hid (HB1.out.trans (hb.mono HB1.out.size))
    clear v0 v1 z0 z1 r0 r1 f0 f1
    clear hb HV1 HU1 HR1 HB1
    have v0 := HV2.out.c0; have v1 := HV2.out.c1
    have z0 := HU2.out.c0; have z1 := HU2.out.c1
    have r0 := HR2.out.c0; have r1 := HR2.out.c1; have f0 := HR2.out.f0; have f1 := HR2.out.f1
    go_wp2_with fail
    have h3 : ((w2.setCell ⟨R, 0, none⟩ (.slice (some ⟨b, 0, none⟩) 0 0)).setCell ⟨R, 1, none⟩ (.int .i64 (-1))).heap[R]? = some (.cells #[.slice (some ⟨b, 0, none⟩) 0 0, .int .i64 (-1)] 39 (0, 0)) := heap_set (heap_set HR2.out _) _
    have g0 := (cell_blk h3 0).1; have g1 := (cell_blk h3 1).1
    exact bodyPost_ret (v := .tuple #[docV (some ⟨b, 0, none⟩) 0 0 (-1), .int .i64 er]) (by simp [results, Try.results79, go_sem, g0, g1]) rfl ⟨_, rfl, (HB2.out.setCell (p := ⟨R, 0, none⟩) WR.out _).setCell (p := ⟨R, 1, none⟩) WR.out _⟩
end
end Go.Proofs.Ytglfllnemenhnaa.Bt
