/- A table of handles: Next, New, Get, turn, Move, Drop. (Written by gen_hnd.py.) -/
import Derived.Test.YtllghngjnhbmaaaHnC
namespace Go.Proofs.Ytllghngjnhbmaaa.Bt
open Go Go.RowKit Go.Shelf
set_option linter.unusedVariables false
set_option linter.unusedSimpArgs false
/-- behind a function's entry: the table's variable in block C -/
structure BxS (C A vs : Nat) (m : Nat → UInt8) (w x : World) : Prop where
  c : x.heap[C]? = some (.cells #[.pointer (some ⟨A, 0, none⟩), .int .i64 16, .int .i64 (vs : Int)] 29 (0, 0))
  on : On A (hS m) x
  wt : Went A w x
theorem BxS.below {C A vs : Nat} {m : Nat → UInt8} {w x z : World} (h : BxS C A vs m w x) (hb : Below x.heap.size x z) : BxS C A vs m w z :=
  ⟨(hb.block _ (Array.getElem?_eq_some_iff.1 h.c).1).trans h.c, h.on.below hb, h.wt.trans (Went.of_below h.on hb)⟩
theorem BxS.went {C A vs : Nat} {m m' : Nat → UInt8} {w x z : World} (h : BxS C A vs m w x) (ho : On A (hS m') z) (hg : Went A x z) : BxS C A vs m' w z :=
  ⟨hg.keep h.on h.c (by decide) (by decide) (by decide), ho, h.wt.trans hg⟩
theorem BxS.start {A vs : Nat} {m : Nat → UInt8} {w : World} (h : On A (hS m) w) : BxS w.heap.size A vs m w (w.alloc (.cells #[.pointer (some ⟨A, 0, none⟩), .int .i64 16, .int .i64 (vs : Int)] 29)) := ⟨heap_new _ _, h.below (bel1 _ _), Went.of_below h (bel1 _ _)⟩
theorem BxS.all {C A vs : Nat} {m : Nat → UInt8} {w x : World} (h : BxS C A vs m w x) : x.cell? ⟨C, 0, none⟩ = some (.pointer (some ⟨A, 0, none⟩)) ∧ x.cell? ⟨C, 1, none⟩ = some (.int .i64 16) ∧ x.cell? ⟨C, 2, none⟩ = some (.int .i64 (vs : Int)) :=
  ⟨(cell_blk h.c 0).1, (cell_blk h.c 1).1, (cell_blk h.c 2).1⟩
theorem VwC.went {F A a : Nat} {s : ASt} {x z : World} (h : VwC F A a x) (hx : On A s x) (hg : Went A x z) : VwC F A a z := hg.keep hx (show x.heap[F]? = _ from h) (by decide) (by decide) (by decide)
section
variable {A vs : Nat} {m : Nat → UInt8} {q : Nat → Nat × Nat} {w : World}
theorem hmay (h : On A (hS m) w) (a : Int) (er : Int) (he : er = if a < 1 then 2 else 0) : Calls Try.prog 32 #[vwV A 16 vs, .int .i64 a] w (Gives (.int .i64 er) w) := by
  have HB := Lib.hid (bel1 w (.cells #[.pointer (some ⟨A, 0, none⟩), .int .i64 16, .int .i64 (vs : Int)] 29))
  by_cases c : a < 1
  · rw [if_pos c] at he
    subst he
    have HX0 := Lib.hid (BxS.start (vs := vs) h)
    go_enter Try.func32, Try.ntmps32
    go_upto_region 1 with fail
    change Code.wp _ _ _ _ (w.alloc (.cells #[.pointer (some ⟨A, 0, none⟩), .int .i64 16, .int .i64 (vs : Int)] 29))
    obtain ⟨y, hy⟩ : ∃ y, w.alloc (.cells #[.pointer (some ⟨A, 0, none⟩), .int .i64 16, .int .i64 (vs : Int)] 29) = y := ⟨_, rfl⟩
    obtain ⟨C, hC⟩ : ∃ C, w.heap.size = C := ⟨_, rfl⟩
    have hx0 := HX0.out
    rw [hy] at HB
    rw [hy, hC] at hx0
    rw [hy, hC]
    have HX := Lib.hid hx0
    clear hy hC hx0 HX0
    obtain ⟨c0, c1, c2⟩ := HX.out.all
    go_wp2_with fail
    go_ret
    exact ⟨rfl, HB.out⟩

  · rw [if_neg c] at he
    subst he
    have HX0 := Lib.hid (BxS.start (vs := vs) h)
    go_enter Try.func32, Try.ntmps32
    go_upto_region 1 with fail
    change Code.wp _ _ _ _ (w.alloc (.cells #[.pointer (some ⟨A, 0, none⟩), .int .i64 16, .int .i64 (vs : Int)] 29))
    obtain ⟨y, hy⟩ : ∃ y, w.alloc (.cells #[.pointer (some ⟨A, 0, none⟩), .int .i64 16, .int .i64 (vs : Int)] 29) = y := ⟨_, rfl⟩
    obtain ⟨C, hC⟩ : ∃ C, w.heap.size = C := ⟨_, rfl⟩
    have hx0 := HX0.out
    rw [hy] at HB
    rw [hy, hC] at hx0
    rw [hy, hC]
    have HX := Lib.hid hx0
    clear hy hC hx0 HX0
    obtain ⟨c0, c1, c2⟩ := HX.out.all
    go_wp2_with fail
    go_ret
    exact ⟨rfl, HB.out⟩

def NtP (n : Nat) (q : Nat → Nat × Nat) (w : World) (e : Ending) (w' : World) : Prop :=
  ((∃ i, i < n ∧ free q i ∧ (∀ k, k < i → ¬ free q k) ∧ e = .returned (.tuple #[.int .u64 (hOf q i : Int), .int .i64 0])) ∨
   ((∀ k, k < n → ¬ free q k) ∧ e = .returned (.tuple #[.int .u64 0, .int .i64 10]))) ∧ Below w.heap.size w w'
theorem hNext (h : On A (hS m) w) (hv : vs ≤ 5000) (hd : Hd m (nS vs) q) : Calls Try.prog 16 #[vwV A 16 vs] w (NtP (nS vs) q w) := by
  have HB := Lib.hid (bel1 w (.cells #[.pointer (some ⟨A, 0, none⟩), .int .i64 16, .int .i64 (vs : Int)] 29))
  have HN := Lib.hid fun X (hX : On A (hS m) X) => hnext hX hv hd
  have HX0 := Lib.hid (BxS.start (vs := vs) h)
  go_enter Try.func16, Try.ntmps16
  go_upto_region 1 with fail
  change Code.wp _ _ _ _ (w.alloc (.cells #[.pointer (some ⟨A, 0, none⟩), .int .i64 16, .int .i64 (vs : Int)] 29))
  obtain ⟨y, hy⟩ : ∃ y, w.alloc (.cells #[.pointer (some ⟨A, 0, none⟩), .int .i64 16, .int .i64 (vs : Int)] 29) = y := ⟨_, rfl⟩
  obtain ⟨C, hC⟩ : ∃ C, w.heap.size = C := ⟨_, rfl⟩
  have hx0 := HX0.out
  rw [hy] at HB
  rw [hy, hC] at hx0
  rw [hy, hC]
  have HX := Lib.hid hx0
  clear hy hC hx0 HX0
  obtain ⟨c0, c1, c2⟩ := HX.out.all
  go_wp2_with fail
  refine (HN.out _ HX.out.on).mono ?_
  rintro e w1 ⟨⟨i, hi, hf, hk, rfl⟩ | ⟨hk, rfl⟩, hb⟩
  · have HI := Lib.hid (And.intro hi (And.intro hf hk))
    obtain ⟨hh, hhh⟩ : ∃ hh, hOf q i = hh := ⟨_, rfl⟩
    have HHH := Lib.hid hhh
    have hb1 := HB.out.trans (hb.mono HB.out.size)
    have HB1 := Lib.hid (hb1.alloc hb1.size (.cells #[.pointer (some ⟨A, 0, none⟩), .int .i64 ((16 + 16 * i : Nat) : Int), .int .i64 16] 27))
    rw [hhh]
    clear hi hf hk hhh hb hb1 c0 c1 c2
    go_wp2_with fail
    go_ret2
    exact ⟨.inl ⟨i, HI.out.1, HI.out.2.1, HI.out.2.2, by rw [HHH.out]; rfl⟩, HB1.out⟩
  · have HI := Lib.hid hk
    have hb1 := HB.out.trans (hb.mono HB.out.size)
    have HB1 := Lib.hid (hb1.alloc hb1.size (.cells #[.pointer none, .int .i64 0, .int .i64 0] 27))
    clear hk hb hb1 c0 c1 c2
    go_wp2_with fail
    go_ret2
    exact ⟨.inr ⟨HI.out, rfl⟩, HB1.out⟩

def NewP (A n : Nat) (a : Int) (m : Nat → UInt8) (q : Nat → Nat × Nat) (w : World) (e : Ending) (w' : World) : Prop :=
  ∃ m' q' h er, e = .returned (.tuple #[.int .u64 h, .int .i64 er]) ∧ On A (hS m') w' ∧ Hd m' n q' ∧ Went A w w' ∧
    ((a < 1 ∧ q' = q ∧ h = 0 ∧ er = 2) ∨ (1 ≤ a ∧ (∀ k, k < n → ¬ free q k) ∧ q' = q ∧ h = 0 ∧ er = 10) ∨
     (1 ≤ a ∧ ∃ i, i < n ∧ free q i ∧ (∀ k, k < i → ¬ free q k) ∧ q' = upd q i (a.toNat, (q i).2 + 1) ∧ h = (hOf q i : Int) ∧ er = 0))
set_option maxRecDepth 100000 in
set_option maxHeartbeats 8000000 in
theorem hNew (h : On A (hS m) w) (hv : vs ≤ 5000) (hd : Hd m (nS vs) q) (a : Int) (ha : a ≤ 9223372036854775807) : Calls Try.prog 18 #[vwV A 16 vs, .int .i64 a] w (NewP A (nS vs) a m q w) := by
  have HN := Lib.hid fun X (hX : On A (hS m) X) => hnext hX hv hd
  have HD := Lib.hid hd
  have hn2 : nS vs ≤ vs / 16 := Nat.min_le_left _ _
  have hn3 : nS vs ≤ 256 := Nat.min_le_right _ _
  have HN2 := Lib.hid (And.intro hn2 hn3)
  have HVS := Lib.hid hv
  have HMY := Lib.hid fun X (hX : On A (hS m) X) er (he : er = if a < 1 then 2 else 0) => hmay (vs := vs) hX a er he
  have HA := Lib.hid ha
  clear hn2 hn3 hd ha hv
  by_cases c : a < 1
  · have HC := Lib.hid c
    have HX0 := Lib.hid (BxS.start (vs := vs) h)
    go_enter Try.func18, Try.ntmps18
    go_upto_region 1 with fail
    change Code.wp _ _ _ _ (w.alloc (.cells #[.pointer (some ⟨A, 0, none⟩), .int .i64 16, .int .i64 (vs : Int)] 29))
    obtain ⟨y, hy⟩ : ∃ y, w.alloc (.cells #[.pointer (some ⟨A, 0, none⟩), .int .i64 16, .int .i64 (vs : Int)] 29) = y := ⟨_, rfl⟩
    obtain ⟨C, hC⟩ : ∃ C, w.heap.size = C := ⟨_, rfl⟩
    have hx0 := HX0.out
    rw [hy, hC] at hx0
    rw [hy, hC]
    have HX := Lib.hid hx0
    clear hy hC hx0 HX0
    obtain ⟨c0, c1, c2⟩ := HX.out.all
    go_wp2_with fail
    refine (HMY.out _ HX.out.on 2 (by rw [if_pos HC.out])).mono ?_
    rintro e w1 ⟨rfl, hb⟩
    have HX1 := Lib.hid (HX.out.below hb)
    clear hb HX c0 c1 c2
    go_wp2_with fail
    go_ret2
    exact ⟨m, q, 0, 2, rfl, HX1.out.on, HD.out, HX1.out.wt, .inl ⟨HC.out, rfl, rfl, rfl⟩⟩

  · obtain ⟨an, rfl⟩ := Int.eq_ofNat_of_zero_le (show 0 ≤ a by omega)
    have HC : Hid (1 ≤ (an : Int) ∧ an < 9223372036854775808) := Lib.hid ⟨by omega, by have := HA.out; omega⟩
    have HMY2 := Lib.hid fun X (hX : On A (hS m) X) => HMY.out X hX 0 (by rw [if_neg (by omega)])
    clear c HMY
    have HX0 := Lib.hid (BxS.start (vs := vs) h)
    go_enter Try.func18, Try.ntmps18
    go_upto_region 1 with fail
    change Code.wp _ _ _ _ (w.alloc (.cells #[.pointer (some ⟨A, 0, none⟩), .int .i64 16, .int .i64 (vs : Int)] 29))
    obtain ⟨y, hy⟩ : ∃ y, w.alloc (.cells #[.pointer (some ⟨A, 0, none⟩), .int .i64 16, .int .i64 (vs : Int)] 29) = y := ⟨_, rfl⟩
    obtain ⟨C, hC⟩ : ∃ C, w.heap.size = C := ⟨_, rfl⟩
    have hx0 := HX0.out
    rw [hy, hC] at hx0
    rw [hy, hC]
    have HX := Lib.hid hx0
    clear hy hC hx0 HX0
    obtain ⟨c0, c1, c2⟩ := HX.out.all
    go_wp2_with fail
    refine (HMY2.out _ HX.out.on).mono ?_
    rintro e w0 ⟨rfl, hb⟩
    have HX0 := Lib.hid (HX.out.below hb)
    clear hb HX c0 c1 c2 HMY2
    obtain ⟨c0, c1, c2⟩ := HX0.out.all
    go_wp2_with fail
    refine (HN.out _ HX0.out.on).mono ?_
    rintro e w1 ⟨⟨i, hi, hf, hk, rfl⟩ | ⟨hk, rfl⟩, hb⟩
    · have HI := Lib.hid (And.intro hi (And.intro hf hk))
      have HX1 := Lib.hid (HX0.out.below hb)
      have hib : 16 + 16 * i + 16 ≤ 8192 := by have := HN2.out; have := HVS.out; omega
      have hgb := (HD.out.b i).2
      have hfr : (q i).2 < 72057594037927935 := hf.2
      have hi256 : i < 256 := by have := HN2.out; omega
      obtain ⟨g, hg⟩ : ∃ g, (q i).2 = g := ⟨_, rfl⟩
      have hho : hOf q i = 256 * (g + 1) + i := by unfold hOf; rw [hg]
      obtain ⟨hh, hhh⟩ : ∃ hh, hOf q i = hh := ⟨_, rfl⟩
      have HHH := Lib.hid hhh
      have hh2 : hh / 256 = g + 1 := by rw [← hhh, hho]; omega
      have HGE : Hid (∀ X, Calls Try.prog 37 #[.int .u64 (hh : Int)] X (Gives (.int .u64 ((g + 1 : Nat) : Int)) X)) := Lib.hid fun X => hh2 ▸ hgeneration hh (by rw [← hhh, hho]; omega) X
      have HST : Hid (∀ X, On A (hS m) X → Calls Try.prog 36 #[vwV A (16 + 16 * i) 16, .int .i64 8, .int .i64 8, .int .u64 ((g + 1 : Nat) : Int)] X (Ret A (hS (put8 m (16 + 16 * i + 8) (g + 1))) (.int .i64 0) X)) := Lib.hid fun X hX => hstore hX (16 + 16 * i) 8 (g + 1) (by omega) hib
      have HHO : Hid (∀ m2 X, On A (hS m2) X → Calls Try.prog 38 #[vwV A (16 + 16 * i) 16, .int .i64 (an : Int)] X (Ret A (hS (put8 m2 (16 + 16 * i) an)) (.int .i64 0) X)) := Lib.hid fun m2 X hX => hhold hX (16 + 16 * i) an hib HC.out.2
      have HDN : Hid (Hd (put8 (put8 m (16 + 16 * i + 8) (g + 1)) (16 + 16 * i) an) (nS vs) (upd q i (an, (q i).2 + 1))) := Lib.hid (by
        have := (HD.out.gen (i := i) (v := g + 1) (by omega)).hold (i := i) HC.out.2
        rw [upd_twice] at this
        rw [hg]; exact this)
      rw [hhh]
      clear hi hf hk hb HX0 c0 c1 c2 hib hgb hfr hi256 hho hhh hh2 hg
      go_upto_region 5 with fail
      have HX2 : Hid (BxS C A vs m w (w1.alloc (.cells #[.pointer (some ⟨A, 0, none⟩), .int .i64 ((16 + 16 * i : Nat) : Int), .int .i64 16] 27)) ∧ VwC w1.heap.size A (16 + 16 * i) (w1.alloc (.cells #[.pointer (some ⟨A, 0, none⟩), .int .i64 ((16 + 16 * i : Nat) : Int), .int .i64 16] 27))) := Lib.hid ⟨HX1.out.below (bel1 _ _), heap_new _ _⟩
      change Code.wp _ _ _ _ (w1.alloc (.cells #[.pointer (some ⟨A, 0, none⟩), .int .i64 ((16 + 16 * i : Nat) : Int), .int .i64 16] 27))
      obtain ⟨w2, hw2⟩ : ∃ y, w1.alloc (.cells #[.pointer (some ⟨A, 0, none⟩), .int .i64 ((16 + 16 * i : Nat) : Int), .int .i64 16] 27) = y := ⟨_, rfl⟩
      obtain ⟨F, hF⟩ : ∃ F, w1.heap.size = F := ⟨_, rfl⟩
      rw [hw2, hF] at HX2
      rw [hw2, hF]
      clear hw2 hF HX1
      obtain ⟨v0, v1, v2⟩ := HX2.out.2.all
      go_upto_region 7 with fail
      refine wp_region_held_drew (S := VwC F A (16 + 16 * i)) (by kernel_rfl) (HX2.out.2.below (Below.refl w2.heap.size w2).drew) (fun hHeld => ?_)
      have HX3 := Lib.hid (HX2.out.1.below (Below.refl w2.heap.size w2).drew)
      have HF3 := Lib.hid (HX2.out.2.below (Below.refl w2.heap.size w2).drew)
      clear HX2 v0 v1 v2
      generalize w2.drew = x0 at *
      refine wpAnyH_take (i := 0) (v := (vwV A (16 + 16 * i) 16)) rfl (by kernel_rfl) (by kernel_rfl) (by kernel_rfl) (fun _ _ _ h => h) (Or.inl ⟨by rfl, fun X hS => ?_⟩) hHeld ?_
      · obtain ⟨v0, v1, v2⟩ := VwC.all hS
        go_simp
      try simp only [Act.put, List.getElem_toArray, List.getElem_cons_zero, List.getElem_cons_succ, List.setIfInBounds_toArray, List.set_cons_zero, List.set_cons_succ]
      refine wpAnyH_take (i := 1) (v := (.int .u64 (hh : Int))) rfl (by kernel_rfl) (by kernel_rfl) (by kernel_rfl) (fun _ _ _ h => h) (Or.inl ⟨by rfl, fun X hS => ?_⟩) hHeld ?_
      · obtain ⟨v0, v1, v2⟩ := VwC.all hS
        go_simp
      try simp only [Act.put, List.getElem_toArray, List.getElem_cons_zero, List.getElem_cons_succ, List.setIfInBounds_toArray, List.set_cons_zero, List.set_cons_succ]
      refine wpAnyH_ready (rs := [2]) (by kernel_rfl) (by simp) (AllReadyH.cons rfl (fun K1 hK1 => ?_) AllReadyH.nil)
      go_simp
      have HH := Lib.hid hHeld
      clear hHeld
      refine (HGE.out _).mono ?_
      rintro e x1 ⟨rfl, hb⟩
      have HX4 := Lib.hid (HX3.out.below hb)
      have HF4 := Lib.hid (HF3.out.below hb)
      have hrb := HF4.out
      clear HH hb HX3 HF3
      refine hK1.out _ _ hrb (fun hHeld => ?_)
      clear hK1
      try simp only [Act.put, List.getElem_toArray, List.getElem_cons_zero, List.getElem_cons_succ, List.setIfInBounds_toArray, List.set_cons_zero, List.set_cons_succ]
      refine wpAnyH_ready (rs := [3]) (by kernel_rfl) (by simp) (AllReadyH.cons rfl (fun K1 hK1 => ?_) AllReadyH.nil)
      go_simp
      have HH := Lib.hid hHeld
      clear hHeld
      refine (HST.out _ HX4.out.on).mono ?_
      rintro e x2 ⟨rfl, ho, hg⟩
      have HX5 := Lib.hid (HX4.out.went ho hg)
      have HF5 := Lib.hid (HF4.out.went HX4.out.on hg)
      have hrb := HF5.out
      clear HH ho hg HX4 HF4
      refine hK1.out _ _ hrb (fun hHeld => ?_)
      clear hK1
      try simp only [Act.put, List.getElem_toArray, List.getElem_cons_zero, List.getElem_cons_succ, List.setIfInBounds_toArray, List.set_cons_zero, List.set_cons_succ]
      refine wpAnyH_done (by kernel_rfl) ?_ _
      clear hHeld

      obtain ⟨v0, v1, v2⟩ := HF5.out.all
      go_wp2_with fail
      refine (HHO.out _ _ HX5.out.on).mono ?_
      rintro e w6 ⟨rfl, ho, hg⟩
      have HX6 := Lib.hid (HX5.out.went ho hg)
      clear ho hg HX5 HF5 v0 v1 v2
      go_wp2_with fail
      go_ret2
      exact ⟨_, _, (hh : Int), 0, rfl, HX6.out.on, HDN.out, HX6.out.wt, .inr (.inr ⟨HC.out.1, i, HI.out.1, HI.out.2.1, HI.out.2.2, rfl, by rw [HHH.out], rfl⟩)⟩
    · have HI := Lib.hid hk
      have HX1 := Lib.hid (HX0.out.below hb)
      clear hk hb HX0 c0 c1 c2
      go_upto_region 5 with fail
      have HX2 : Hid (BxS C A vs m w (w1.alloc (.cells #[.pointer none, .int .i64 0, .int .i64 0] 27)) ∧ ZwC w1.heap.size (w1.alloc (.cells #[.pointer none, .int .i64 0, .int .i64 0] 27))) := Lib.hid ⟨HX1.out.below (bel1 _ _), heap_new _ _⟩
      change Code.wp _ _ _ _ (w1.alloc (.cells #[.pointer none, .int .i64 0, .int .i64 0] 27))
      obtain ⟨w2, hw2⟩ : ∃ y, w1.alloc (.cells #[.pointer none, .int .i64 0, .int .i64 0] 27) = y := ⟨_, rfl⟩
      obtain ⟨F, hF⟩ : ∃ F, w1.heap.size = F := ⟨_, rfl⟩
      rw [hw2, hF] at HX2
      rw [hw2, hF]
      clear hw2 hF HX1

      go_wp2_with fail
      go_ret2
      exact ⟨m, q, 0, 10, rfl, HX2.out.1.on, HD.out, HX2.out.1.wt, .inr (.inl ⟨HC.out.1, HI.out, rfl, rfl, rfl⟩)⟩

/-- is a handle's slot held by it? -/
def isH (n : Nat) (q : Nat → Nat × Nat) (h : Nat) : Prop := h % 256 < n ∧ 0 < (q (h % 256)).1 ∧ (q (h % 256)).2 = h / 256
theorem hGet_yes (h : On A (hS m) w) (hv : vs ≤ 5000) (hd : Hd m (nS vs) q) (hh : Nat) (hb : hh < 18446744073709551616) (hi : isH (nS vs) q hh) : Calls Try.prog 14 #[vwV A 16 vs, .int .u64 (hh : Int)] w (Gives (.tuple #[.int .i64 ((q (hh % 256)).1 : Int), .int .i64 0]) w) := by
  have HB := Lib.hid (bel1 w (.cells #[.pointer (some ⟨A, 0, none⟩), .int .i64 16, .int .i64 (vs : Int)] 29))
  obtain ⟨i, hii⟩ : ∃ i, hh % 256 = i := ⟨_, rfl⟩
  unfold isH at hi
  rw [hii] at hi ⊢
  have HF := Lib.hid fun X (hX : On A (hS m) X) => hfind_yes hX hv hd hh i hb hii hi.1 hi.2.1 hi.2.2
  have hn2 : nS vs ≤ vs / 16 := Nat.min_le_left _ _
  have HT := Lib.hid fun X (hX : On A (hS m) X) => htell_in hX (16 + 16 * i) (q i).1 (q i).2 (by omega) (hd.a i hi.1) (hd.g i hi.1) (hd.b i).1
  obtain ⟨x, hx⟩ : ∃ x, (q i).1 = x := ⟨_, rfl⟩
  obtain ⟨g, hg⟩ : ∃ g, (q i).2 = g := ⟨_, rfl⟩
  rw [hx, hg] at HT
  rw [hx]
  clear hn2 hi hd hx hg hii hb hv
  have HX0 := Lib.hid (BxS.start (vs := vs) h)
  go_enter Try.func14, Try.ntmps14
  go_upto_region 1 with fail
  change Code.wp _ _ _ _ (w.alloc (.cells #[.pointer (some ⟨A, 0, none⟩), .int .i64 16, .int .i64 (vs : Int)] 29))
  obtain ⟨y, hy⟩ : ∃ y, w.alloc (.cells #[.pointer (some ⟨A, 0, none⟩), .int .i64 16, .int .i64 (vs : Int)] 29) = y := ⟨_, rfl⟩
  obtain ⟨C, hC⟩ : ∃ C, w.heap.size = C := ⟨_, rfl⟩
  have hx0 := HX0.out
  rw [hy] at HB
  rw [hy, hC] at hx0
  rw [hy, hC]
  have HX := Lib.hid hx0
  clear hy hC hx0 HX0
  obtain ⟨c0, c1, c2⟩ := HX.out.all
  go_wp2_with fail
  refine (HF.out _ HX.out.on).mono ?_
  rintro e w1 ⟨rfl, hb⟩
  have HX1 := Lib.hid (HX.out.below hb)
  have HB1 := Lib.hid (HB.out.trans (hb.mono HB.out.size))
  clear hb HX c0 c1 c2
  have HBV := Lib.hid (HB1.out.alloc HB1.out.size (.cells #[.pointer (some ⟨A, 0, none⟩), .int .i64 ((16 + 16 * i : Nat) : Int), .int .i64 16] 27))
  go_upto_region 4 with fail
  have HX2 : Hid (BxS C A vs m w (w1.alloc (.cells #[.pointer (some ⟨A, 0, none⟩), .int .i64 ((16 + 16 * i : Nat) : Int), .int .i64 16] 27)) ∧ VwC w1.heap.size A (16 + 16 * i) (w1.alloc (.cells #[.pointer (some ⟨A, 0, none⟩), .int .i64 ((16 + 16 * i : Nat) : Int), .int .i64 16] 27))) := Lib.hid ⟨HX1.out.below (bel1 _ _), heap_new _ _⟩
  change Code.wp _ _ _ _ (w1.alloc (.cells #[.pointer (some ⟨A, 0, none⟩), .int .i64 ((16 + 16 * i : Nat) : Int), .int .i64 16] 27))
  obtain ⟨w2, hw2⟩ : ∃ y, w1.alloc (.cells #[.pointer (some ⟨A, 0, none⟩), .int .i64 ((16 + 16 * i : Nat) : Int), .int .i64 16] 27) = y := ⟨_, rfl⟩
  obtain ⟨F, hF⟩ : ∃ F, w1.heap.size = F := ⟨_, rfl⟩
  rw [hw2, hF] at HX2
  rw [hw2] at HBV
  rw [hw2, hF]
  clear hw2 hF HX1
  obtain ⟨v0, v1, v2⟩ := HX2.out.2.all
  go_wp2_with fail
  refine (HT.out _ HX2.out.1.on).mono ?_
  rintro e w3 ⟨rfl, hb⟩
  have HB3 := Lib.hid (HBV.out.trans (hb.mono HBV.out.size))
  clear hb
  go_wp2_with fail
  go_ret2
  exact ⟨rfl, HB3.out⟩

theorem hGet_no (h : On A (hS m) w) (hv : vs ≤ 5000) (hd : Hd m (nS vs) q) (hh : Nat) (hb : hh < 18446744073709551616) (hi : ¬ isH (nS vs) q hh) : Calls Try.prog 14 #[vwV A 16 vs, .int .u64 (hh : Int)] w (Gives (.tuple #[.int .i64 0, .int .i64 6]) w) := by
  have HB := Lib.hid (bel1 w (.cells #[.pointer (some ⟨A, 0, none⟩), .int .i64 16, .int .i64 (vs : Int)] 29))
  have HF := Lib.hid fun X (hX : On A (hS m) X) => hfind_no hX hv hd hh (hh % 256) hb rfl hi
  clear hi hd hb hv
  have HX0 := Lib.hid (BxS.start (vs := vs) h)
  go_enter Try.func14, Try.ntmps14
  go_upto_region 1 with fail
  change Code.wp _ _ _ _ (w.alloc (.cells #[.pointer (some ⟨A, 0, none⟩), .int .i64 16, .int .i64 (vs : Int)] 29))
  obtain ⟨y, hy⟩ : ∃ y, w.alloc (.cells #[.pointer (some ⟨A, 0, none⟩), .int .i64 16, .int .i64 (vs : Int)] 29) = y := ⟨_, rfl⟩
  obtain ⟨C, hC⟩ : ∃ C, w.heap.size = C := ⟨_, rfl⟩
  have hx0 := HX0.out
  rw [hy] at HB
  rw [hy, hC] at hx0
  rw [hy, hC]
  have HX := Lib.hid hx0
  clear hy hC hx0 HX0
  obtain ⟨c0, c1, c2⟩ := HX.out.all
  go_wp2_with fail
  refine (HF.out _ HX.out.on).mono ?_
  rintro e w1 ⟨rfl, hb⟩
  have HX1 := Lib.hid (HX.out.below hb)
  have HB1 := Lib.hid (HB.out.trans (hb.mono HB.out.size))
  clear hb HX c0 c1 c2
  have HBV := Lib.hid (HB1.out.alloc HB1.out.size (.cells #[.pointer none, .int .i64 0, .int .i64 0] 27))
  go_wp2_with fail
  go_ret2
  exact ⟨rfl, HBV.out⟩

/-- turn: another address, or none -/
theorem hturn_yes (h : On A (hS m) w) (hv : vs ≤ 5000) (hd : Hd m (nS vs) q) (hh : Nat) (hb : hh < 18446744073709551616) (hi : isH (nS vs) q hh) (an : Nat) (han : an < 9223372036854775808) : Calls Try.prog 29 #[vwV A 16 vs, .int .u64 (hh : Int), .int .i64 (an : Int)] w (Ret A (hS (put8 m (16 + 16 * (hh % 256)) an)) (.int .i64 0) w) := by
  obtain ⟨i, hii⟩ : ∃ i, hh % 256 = i := ⟨_, rfl⟩
  unfold isH at hi
  rw [hii] at hi ⊢
  have HF := Lib.hid fun X (hX : On A (hS m) X) => hfind_yes hX hv hd hh i hb hii hi.1 hi.2.1 hi.2.2
  have hn2 : nS vs ≤ vs / 16 := Nat.min_le_left _ _
  have HT := Lib.hid fun X (hX : On A (hS m) X) => hhold hX (16 + 16 * i) an (by omega) han
  clear hn2 hi hd hii hb hv han
  have HX0 := Lib.hid (BxS.start (vs := vs) h)
  go_enter Try.func29, Try.ntmps29
  go_upto_region 1 with fail
  change Code.wp _ _ _ _ (w.alloc (.cells #[.pointer (some ⟨A, 0, none⟩), .int .i64 16, .int .i64 (vs : Int)] 29))
  obtain ⟨y, hy⟩ : ∃ y, w.alloc (.cells #[.pointer (some ⟨A, 0, none⟩), .int .i64 16, .int .i64 (vs : Int)] 29) = y := ⟨_, rfl⟩
  obtain ⟨C, hC⟩ : ∃ C, w.heap.size = C := ⟨_, rfl⟩
  have hx0 := HX0.out
  rw [hy, hC] at hx0
  rw [hy, hC]
  have HX := Lib.hid hx0
  clear hy hC hx0 HX0
  obtain ⟨c0, c1, c2⟩ := HX.out.all
  go_wp2_with fail
  refine (HF.out _ HX.out.on).mono ?_
  rintro e w1 ⟨rfl, hb⟩
  have HX1 := Lib.hid (HX.out.below hb)
  clear hb HX c0 c1 c2
  go_upto_region 2 with fail
  have HX2 : Hid (BxS C A vs m w (w1.alloc (.cells #[.pointer (some ⟨A, 0, none⟩), .int .i64 ((16 + 16 * i : Nat) : Int), .int .i64 16] 27)) ∧ VwC w1.heap.size A (16 + 16 * i) (w1.alloc (.cells #[.pointer (some ⟨A, 0, none⟩), .int .i64 ((16 + 16 * i : Nat) : Int), .int .i64 16] 27))) := Lib.hid ⟨HX1.out.below (bel1 _ _), heap_new _ _⟩
  change Code.wp _ _ _ _ (w1.alloc (.cells #[.pointer (some ⟨A, 0, none⟩), .int .i64 ((16 + 16 * i : Nat) : Int), .int .i64 16] 27))
  obtain ⟨w2, hw2⟩ : ∃ y, w1.alloc (.cells #[.pointer (some ⟨A, 0, none⟩), .int .i64 ((16 + 16 * i : Nat) : Int), .int .i64 16] 27) = y := ⟨_, rfl⟩
  obtain ⟨F, hF⟩ : ∃ F, w1.heap.size = F := ⟨_, rfl⟩
  rw [hw2, hF] at HX2
  rw [hw2, hF]
  clear hw2 hF HX1
  obtain ⟨v0, v1, v2⟩ := HX2.out.2.all
  go_wp2_with fail
  refine (HT.out _ HX2.out.1.on).mono ?_
  rintro e w3 ⟨rfl, ho, hg⟩
  have HX3 := Lib.hid (HX2.out.1.went ho hg)
  clear ho hg
  go_wp2_with fail
  go_ret
  exact ⟨rfl, HX3.out.on, HX3.out.wt⟩

theorem hturn_no (h : On A (hS m) w) (hv : vs ≤ 5000) (hd : Hd m (nS vs) q) (hh : Nat) (hb : hh < 18446744073709551616) (hi : ¬ isH (nS vs) q hh) (a : Int) : Calls Try.prog 29 #[vwV A 16 vs, .int .u64 (hh : Int), .int .i64 a] w (Ret A (hS m) (.int .i64 6) w) := by
  have HF := Lib.hid fun X (hX : On A (hS m) X) => hfind_no hX hv hd hh (hh % 256) hb rfl hi
  clear hi hd hb hv
  have HX0 := Lib.hid (BxS.start (vs := vs) h)
  go_enter Try.func29, Try.ntmps29
  go_upto_region 1 with fail
  change Code.wp _ _ _ _ (w.alloc (.cells #[.pointer (some ⟨A, 0, none⟩), .int .i64 16, .int .i64 (vs : Int)] 29))
  obtain ⟨y, hy⟩ : ∃ y, w.alloc (.cells #[.pointer (some ⟨A, 0, none⟩), .int .i64 16, .int .i64 (vs : Int)] 29) = y := ⟨_, rfl⟩
  obtain ⟨C, hC⟩ : ∃ C, w.heap.size = C := ⟨_, rfl⟩
  have hx0 := HX0.out
  rw [hy, hC] at hx0
  rw [hy, hC]
  have HX := Lib.hid hx0
  clear hy hC hx0 HX0
  obtain ⟨c0, c1, c2⟩ := HX.out.all
  go_wp2_with fail
  refine (HF.out _ HX.out.on).mono ?_
  rintro e w1 ⟨rfl, hb⟩
  have HX1 := Lib.hid (HX.out.below hb)
  clear hb HX c0 c1 c2
  go_upto_region 2 with fail
  have HX2 : Hid (BxS C A vs m w (w1.alloc (.cells #[.pointer none, .int .i64 0, .int .i64 0] 27)) ∧ ZwC w1.heap.size (w1.alloc (.cells #[.pointer none, .int .i64 0, .int .i64 0] 27))) := Lib.hid ⟨HX1.out.below (bel1 _ _), heap_new _ _⟩
  change Code.wp _ _ _ _ (w1.alloc (.cells #[.pointer none, .int .i64 0, .int .i64 0] 27))
  obtain ⟨w2, hw2⟩ : ∃ y, w1.alloc (.cells #[.pointer none, .int .i64 0, .int .i64 0] 27) = y := ⟨_, rfl⟩
  obtain ⟨F, hF⟩ : ∃ F, w1.heap.size = F := ⟨_, rfl⟩
  rw [hw2, hF] at HX2
  rw [hw2, hF]
  clear hw2 hF HX1
  go_wp2_with fail
  go_ret
  exact ⟨rfl, HX2.out.1.on, HX2.out.1.wt⟩

/-- Drop and Move -/
def TurnP (A n : Nat) (hh an : Nat) (m : Nat → UInt8) (q : Nat → Nat × Nat) (w : World) (e : Ending) (w' : World) : Prop :=
  ∃ m' q' er, e = .returned (.int .i64 er) ∧ On A (hS m') w' ∧ Hd m' n q' ∧ Went A w w' ∧ ((isH n q hh ∧ er = 0 ∧ q' = upd q (hh % 256) (an, (q (hh % 256)).2)) ∨ (¬ isH n q hh ∧ er = 6 ∧ q' = q))
theorem hturn (h : On A (hS m) w) (hv : vs ≤ 5000) (hd : Hd m (nS vs) q) (hh : Nat) (hb : hh < 18446744073709551616) (an : Nat) (han : an < 9223372036854775808) : Calls Try.prog 29 #[vwV A 16 vs, .int .u64 (hh : Int), .int .i64 (an : Int)] w (TurnP A (nS vs) hh an m q w) := by
  by_cases hi : isH (nS vs) q hh
  · refine (hturn_yes h hv hd hh hb hi an han).mono ?_
    rintro e w' ⟨rfl, ho, hg⟩
    exact ⟨_, _, 0, rfl, ho, hd.hold han, hg, .inl ⟨hi, rfl, rfl⟩⟩
  · refine (hturn_no h hv hd hh hb hi _).mono ?_
    rintro e w' ⟨rfl, ho, hg⟩
    exact ⟨_, _, 6, rfl, ho, hd, hg, .inr ⟨hi, rfl, rfl⟩⟩
theorem hDrop (h : On A (hS m) w) (hv : vs ≤ 5000) (hd : Hd m (nS vs) q) (hh : Nat) (hb : hh < 18446744073709551616) : Calls Try.prog 10 #[vwV A 16 vs, .int .u64 (hh : Int)] w (TurnP A (nS vs) hh 0 m q w) := by
  have HT : Hid (∀ X, On A (hS m) X → Calls Try.prog 29 #[vwV A 16 vs, .int .u64 (hh : Int), .int .i64 0] X (TurnP A (nS vs) hh 0 m q X)) := Lib.hid fun X hX => hturn hX hv hd hh hb 0 (by omega)
  clear hd hb hv
  have HX0 := Lib.hid (BxS.start (vs := vs) h)
  go_enter Try.func10, Try.ntmps10
  go_upto_region 1 with fail
  change Code.wp _ _ _ _ (w.alloc (.cells #[.pointer (some ⟨A, 0, none⟩), .int .i64 16, .int .i64 (vs : Int)] 29))
  obtain ⟨y, hy⟩ : ∃ y, w.alloc (.cells #[.pointer (some ⟨A, 0, none⟩), .int .i64 16, .int .i64 (vs : Int)] 29) = y := ⟨_, rfl⟩
  obtain ⟨C, hC⟩ : ∃ C, w.heap.size = C := ⟨_, rfl⟩
  have hx0 := HX0.out
  rw [hy, hC] at hx0
  rw [hy, hC]
  have HX := Lib.hid hx0
  clear hy hC hx0 HX0
  obtain ⟨c0, c1, c2⟩ := HX.out.all
  go_wp2_with fail
  refine (HT.out _ HX.out.on).mono ?_
  rintro e w1 ⟨m', q', er, rfl, ho, hd', hg, hc⟩
  have HF : Hid (TurnP A (nS vs) hh 0 m q w (.returned (.int .i64 er)) w1) := Lib.hid ⟨m', q', er, rfl, ho, hd', HX.out.wt.trans hg, hc⟩
  clear ho hd' hg hc c0 c1 c2
  go_wp2_with fail
  go_ret
  exact HF.out

theorem hMove_arg (h : On A (hS m) w) (hh a : Int) (c : a < 1) : Calls Try.prog 12 #[vwV A 16 vs, .int .u64 hh, .int .i64 a] w (Ret A (hS m) (.int .i64 2) w) := by
  have HMY := Lib.hid fun X (hX : On A (hS m) X) => hmay (vs := vs) hX a 2 (by rw [if_pos c])
  clear c
  have HX0 := Lib.hid (BxS.start (vs := vs) h)
  go_enter Try.func12, Try.ntmps12
  go_upto_region 1 with fail
  change Code.wp _ _ _ _ (w.alloc (.cells #[.pointer (some ⟨A, 0, none⟩), .int .i64 16, .int .i64 (vs : Int)] 29))
  obtain ⟨y, hy⟩ : ∃ y, w.alloc (.cells #[.pointer (some ⟨A, 0, none⟩), .int .i64 16, .int .i64 (vs : Int)] 29) = y := ⟨_, rfl⟩
  obtain ⟨C, hC⟩ : ∃ C, w.heap.size = C := ⟨_, rfl⟩
  have hx0 := HX0.out
  rw [hy, hC] at hx0
  rw [hy, hC]
  have HX := Lib.hid hx0
  clear hy hC hx0 HX0
  obtain ⟨c0, c1, c2⟩ := HX.out.all
  go_wp2_with fail
  refine (HMY.out _ HX.out.on).mono ?_
  rintro e w1 ⟨rfl, hb⟩
  have HX1 := Lib.hid (HX.out.below hb)
  clear hb HX c0 c1 c2
  go_wp2_with fail
  go_ret
  exact ⟨rfl, HX1.out.on, HX1.out.wt⟩

theorem hMove (h : On A (hS m) w) (hv : vs ≤ 5000) (hd : Hd m (nS vs) q) (hh : Nat) (hb : hh < 18446744073709551616) (an : Nat) (h1 : 1 ≤ an) (han : an < 9223372036854775808) : Calls Try.prog 12 #[vwV A 16 vs, .int .u64 (hh : Int), .int .i64 (an : Int)] w (TurnP A (nS vs) hh an m q w) := by
  have HMY := Lib.hid fun X (hX : On A (hS m) X) => hmay (vs := vs) hX (an : Int) 0 (by rw [if_neg (by omega)])
  have HT := Lib.hid fun X (hX : On A (hS m) X) => hturn hX hv hd hh hb an han
  clear hd hb hv h1 han
  have HX0 := Lib.hid (BxS.start (vs := vs) h)
  go_enter Try.func12, Try.ntmps12
  go_upto_region 1 with fail
  change Code.wp _ _ _ _ (w.alloc (.cells #[.pointer (some ⟨A, 0, none⟩), .int .i64 16, .int .i64 (vs : Int)] 29))
  obtain ⟨y, hy⟩ : ∃ y, w.alloc (.cells #[.pointer (some ⟨A, 0, none⟩), .int .i64 16, .int .i64 (vs : Int)] 29) = y := ⟨_, rfl⟩
  obtain ⟨C, hC⟩ : ∃ C, w.heap.size = C := ⟨_, rfl⟩
  have hx0 := HX0.out
  rw [hy, hC] at hx0
  rw [hy, hC]
  have HX := Lib.hid hx0
  clear hy hC hx0 HX0
  obtain ⟨c0, c1, c2⟩ := HX.out.all
  go_wp2_with fail
  refine (HMY.out _ HX.out.on).mono ?_
  rintro e w0 ⟨rfl, hb⟩
  have HX0 := Lib.hid (HX.out.below hb)
  clear hb HX c0 c1 c2
  obtain ⟨c0, c1, c2⟩ := HX0.out.all
  go_wp2_with fail
  refine (HT.out _ HX0.out.on).mono ?_
  rintro e w1 ⟨m', q', er, rfl, ho, hd', hg, hc⟩
  have HF : Hid (TurnP A (nS vs) hh an m q w (.returned (.int .i64 er)) w1) := Lib.hid ⟨m', q', er, rfl, ho, hd', HX0.out.wt.trans hg, hc⟩
  clear ho hd' hg hc c0 c1 c2
  go_wp2_with fail
  go_ret
  exact HF.out

end
end Go.Proofs.Ytllghngjnhbmaaa.Bt
