import Derived.Test.YtfemgekhpcgliaaGreatCmI
/- the document's States. (Written by gen_cnn.py.) -/
namespace Go.Proofs.YtfemgekhpcgliaaGreat.Bt
open Go Go.RowKit Go.Shelf
set_option linter.unusedVariables false
set_option linter.unusedSimpArgs false
/-- what there is behind j pages -/
def basJ (g n j : Nat) : List Nat := (List.range (n + 1)).map fun p => if p < j then (if p = 0 then 1 else if p ≤ g then 2 else 0) else 0
theorem basJ_len (g n j : Nat) : (basJ g n j).length = n + 1 := by simp [basJ]
theorem basJ_zero (g n : Nat) : basJ g n 0 = List.replicate (n + 1) 0 := by
  apply List.ext_getElem?
  intro i
  unfold basJ
  rw [List.getElem?_map, List.getElem?_replicate]
  by_cases h : i < n + 1
  · rw [if_pos h, List.getElem?_range h]; rfl
  · rw [if_neg h, List.getElem?_eq_none (by simp; omega)]; rfl
theorem basJ_get {g n j p : Nat} (hp : p < n + 1) : (basJ g n j)[p]? = some (if p < j then (if p = 0 then 1 else if p ≤ g then 2 else 0) else 0) := by
  unfold basJ
  rw [List.getElem?_map, List.getElem?_range hp]; rfl
theorem basJ_set {g n j v : Nat} (hj : j < n + 1) (hv : v = if j = 0 then 1 else if j ≤ g then 2 else 0) : (basJ g n j).set j v = basJ g n (j + 1) := by
  apply List.ext_getElem?
  intro i
  rw [List.getElem?_set]
  by_cases h : i < n + 1
  · rw [basJ_get h, basJ_get h]
    by_cases e : j = i
    · subst e
      rw [if_pos rfl, if_pos (by rw [basJ_len]; exact hj), if_pos (by omega), hv]
    · rw [if_neg e]
      by_cases c : i < j
      · rw [if_pos c, if_pos (show i < j + 1 by omega)]
      · rw [if_neg c, if_neg (show ¬ i < j + 1 by omega)]
  · rw [List.getElem?_eq_none (by rw [basJ_len]; omega), if_neg (by omega), List.getElem?_eq_none (by rw [basJ_len]; omega)]
theorem basJ_stay {g n j : Nat} (hj : j < n + 1) (h0 : 0 < j) (hg : g < j) : basJ g n j = basJ g n (j + 1) := by
  rw [← basJ_set hj (v := 0) (by rw [if_neg (by omega), if_neg (by omega)])]
  apply List.ext_getElem?
  intro i
  rw [List.getElem?_set]
  by_cases e : j = i
  · subst e
    rw [if_pos rfl, if_pos (by rw [basJ_len]; exact hj), basJ_get hj, if_neg (by omega)]
  · rw [if_neg e]
theorem basJ_end {g n p : Nat} (hp : p < n + 1) : (basJ g n (n + 1)).getD p 0 = if p = 0 then 1 else if p ≤ g then 2 else 0 := by
  rw [List.getD_eq_getElem?_getD, basJ_get hp, if_pos hp]; rfl
def docT (R : Runs) (g n j : Nat) : List Nat := ((tkT R g).take j).foldl (stF g) (basJ g n (n + 1))
theorem docT_len (R : Runs) (g n j : Nat) : (docT R g n j).length = n + 1 := by unfold docT; rw [fold_len, basJ_len]
theorem docT_zero (R : Runs) (g n : Nat) : docT R g n 0 = basJ g n (n + 1) := by unfold docT; rw [List.take_zero]; rfl
theorem docT_succ {R : Runs} {g n j i k : Nat} (hj : j < (tkT R g).length) (h : (tkT R g).getD j r0 = (i, k, true)) : docT R g n (j + 1) = layL g (docT R g n j) (1 + i) 3 (2 ^ k) := by
  unfold docT
  rw [take_snoc hj, List.foldl_append, h]; rfl
theorem docT_all {R : Runs} {g n : Nat} (hT : Til g R g) (hn : g ≤ n) : docT R g n (tkT R g).length = stA R g n := by
  apply List.ext_getElem?
  intro p
  by_cases hp : p < n + 1
  · have hd : ∀ l : List Nat, l.length = n + 1 → l[p]? = some (l.getD p 0) := fun l hl => by
      rw [List.getD_eq_getElem?_getD, List.getElem?_eq_getElem (by omega)]; rfl
    rw [hd _ (docT_len _ _ _ _), hd _ (stA_len _ _ _)]
    congr 1
    unfold docT
    rw [List.take_length]
    have hb : p < (basJ g n (n + 1)).length := by rw [basJ_len]; exact hp
    rcases stA_cases (p := p) hT hn (by omega) with ⟨h, e⟩ | ⟨h, e⟩ | ⟨i, k, t, h, h1, h2, e⟩
    · rw [e, fold_no g p _ _ hb, basJ_end hp, if_pos h]
      rintro ⟨j, l, u⟩ _ c
      unfold covR at c
      simp only at c
      omega
    · rw [e, fold_no g p _ _ hb, basJ_end hp, if_neg (by omega), if_neg (by omega)]
      rintro ⟨j, l, u⟩ hz ⟨c1, c2⟩
      simp only at c1 c2
      have := hT.al _ _ _ (tkT_mem.1 hz).2.2
      omega
    · rw [e]
      have ha := hT.al _ _ _ h
      cases t with
      | true =>
        rw [fold_yes g p (i, k, true) (by omega) ⟨h1, h2⟩ _ _ hb (tkT_mem.2 ⟨rfl, hT.lt h, h⟩)]
        rintro ⟨j, l, u⟩ hz ⟨c1, c2⟩
        simp only at c1 c2
        obtain ⟨rfl, _, hz3⟩ := tkT_mem.1 hz
        obtain ⟨rfl, rfl, _⟩ := hT.one (p := p - 1) h hz3 (by omega) (by omega) (by omega) (by omega)
        rfl
      | false =>
        rw [fold_no g p _ _ hb, basJ_end hp, if_neg (by omega), if_pos (by omega)]
        · rfl
        · rintro ⟨j, l, u⟩ hz ⟨c1, c2⟩
          simp only at c1 c2
          have e3 := hT.one (p := p - 1) h (tkT_mem.1 hz).2.2 (by omega) (by omega) (by omega) (by omega)
          exact absurd e3.2.2 (by decide)
  · rw [List.getElem?_eq_none (by rw [docT_len]; omega), List.getElem?_eq_none (by rw [stA_len]; omega)]
/-- what stands while the row is laid -/
structure RsR (C D n : Nat) (g r : Int) (u : Option Addr) (m tc : Nat) (L : List (Nat × Nat × Bool)) (l : List Nat) (w x : World) : Prop where
  bd : ByAt D l x
  bq : BqAt C 1 (n : Int) g r (.slice u m tc) x
  rn : RnAt x u L
  be : Below w.heap.size w x
  dw : w.heap.size ≤ D
  cd : C ≠ D
  nu : L = [] ∨ ∀ j, u = some ⟨j, 0, none⟩ → j ≠ D
section
variable {C D n m tc : Nat} {g r : Int} {u : Option Addr} {L : List (Nat × Nat × Bool)} {l l' : List Nat} {w x z : World}
theorem ByAt.lt {D : Nat} {l : List Nat} {x : World} (h : ByAt D l x) : D < x.heap.size := (Array.getElem?_eq_some_iff.1 (show x.heap[D]? = _ from h)).1
theorem RsR.below (h : RsR C D n g r u m tc L l w x) (hb : Below x.heap.size x z) : RsR C D n g r u m tc L l w z :=
  ⟨h.bd.below hb, h.bq.below hb, h.rn.below hb, h.be.trans (hb.mono h.be.size), h.dw, h.cd, h.nu⟩
theorem RsR.set (h : RsR C D n g r u m tc L l w x) (i v : Nat) : RsR C D n g r u m tc L (l.set i v) w (x.setCell ⟨D, i, none⟩ (.int .u8 (v : Int))) :=
  ⟨h.bd.set i v, (Below.heap_setCell _ ⟨D, i, none⟩ _ _ h.cd).trans h.bq, by
    rcases h.nu with c | c
    · exact .inl c
    · exact h.rn.set1 c i _, h.be.setCell (p := ⟨D, i, none⟩) h.dw _, h.dw, h.cd, h.nu⟩
end
structure RsI (E C D n : Nat) (g r : Int) (u : Option Addr) (m tc : Nat) (L : List (Nat × Nat × Bool)) (y : Nat × Nat × Bool) (l : List Nat) (w x : World) : Prop where
  r : RsR C D n g r u m tc L l w x
  e : x.heap[E]? = some (.cells (rnA y) 51 (0, 0))
  ne : E ≠ D
section
variable {E C D n m tc : Nat} {g r : Int} {u : Option Addr} {L : List (Nat × Nat × Bool)} {y : Nat × Nat × Bool} {l l' : List Nat} {w x z : World}
theorem RsI.below (h : RsI E C D n g r u m tc L y l w x) (hb : Below x.heap.size x z) : RsI E C D n g r u m tc L y l w z :=
  ⟨h.r.below hb, (hb.block _ (Array.getElem?_eq_some_iff.1 h.e).1).trans h.e, h.ne⟩
theorem RsI.set (h : RsI E C D n g r u m tc L y l w x) (i v : Nat) : RsI E C D n g r u m tc L y (l.set i v) w (x.setCell ⟨D, i, none⟩ (.int .u8 (v : Int))) :=
  ⟨h.r.set i v, (Below.heap_setCell _ ⟨D, i, none⟩ _ _ h.ne).trans h.e, h.ne⟩
theorem RsI.all (h : RsI E C D n g r u m tc L y l w x) : x.cell? ⟨E, 0, none⟩ = some (.int .i64 (y.1 : Int)) ∧ x.cell? ⟨E, 1, none⟩ = some (.int .i64 (y.2.1 : Int)) ∧ x.cell? ⟨E, 2, none⟩ = some (.bool y.2.2) := by
  refine ⟨?_, ?_, ?_⟩ <;> (rw [(cell_blk h.e _).1]; rfl)
end
def RsP (R : Runs) (g n : Nat) (w : World) (e : Ending) (w' : World) : Prop := ∃ D, e = .returned (.slice (some ⟨D, 0, none⟩) (n + 1) (n + 1)) ∧ ByAt D (stA R g n) w' ∧ w.heap.size ≤ D ∧ Below w.heap.size w w'
set_option maxRecDepth 100000 in
set_option maxHeartbeats 16000000 in
theorem rstates {n g : Nat} {R : Runs} {u : Option Addr} {w : World} (hn : n ≤ 80) (hg : g ≤ n) (hT : Til g R g) (hrn : RnAt w u (tkT R g)) (tc : Nat) (r : Int) :
    Calls Tryz.prog 28 #[bqV 1 (n : Int) (g : Int) r (.slice u (tkT R g).length tc)] w (RsP R g n w) := by
  obtain ⟨m, hm⟩ : ∃ m, (tkT R g).length = m := ⟨_, rfl⟩
  have HM := Lib.hid hm
  have hm80 : m ≤ 80 := by have := tkT_len R g; omega
  have HT := Lib.hid hT
  have HG := Lib.hid hg
  rw [hm]
  have hb1 := bel1 w (.cells (bqA 1 (n : Int) (g : Int) r (.slice u m tc)) 33)
  have ha1 : BqAt w.heap.size 1 (n : Int) (g : Int) r (.slice u m tc) (w.alloc (.cells (bqA 1 (n : Int) (g : Int) r (.slice u m tc)) 33)) := heap_new _ _
  have hr1 := hrn.below hb1
  have HRN := Lib.hid hrn
  have HB1 := Lib.hid hb1; have HA1 := Lib.hid ha1; have HR1 := Lib.hid hr1
  clear hb1 ha1 hr1 hm hT hrn
  go_enter Tryz.func28, Tryz.ntmps28
  go_upto_region 1 with fail
  change Code.wp _ _ _ _ (w.alloc (.cells (bqA 1 (n : Int) (g : Int) r (.slice u m tc)) 33))
  obtain ⟨y, hy⟩ : ∃ y, w.alloc (.cells (bqA 1 (n : Int) (g : Int) r (.slice u m tc)) 33) = y := ⟨_, rfl⟩
  obtain ⟨C, hC⟩ : ∃ C, w.heap.size = C := ⟨_, rfl⟩
  have HWC := Lib.hid hC
  rw [hy] at HB1 HA1 HR1 ⊢
  have hd := HA1.out
  rw [hC] at hd ⊢
  have HBQ := Lib.hid hd
  obtain ⟨d0, d1, d2, d3, d4⟩ := hd.all
  clear hy hC hd HA1
  have hmk := run_u8 n (by omega)
  have hw1 : IntKind.i64.wrap (1 + (n : Int)) = (n : Int) + 1 := by rw [IntKind.wrap_i64]; omega
  have hw2 : IntKind.i64.wrap (1 + (g : Int)) = 1 + (g : Int) := by rw [IntKind.wrap_i64]; omega
  go_upto_region 2 with fail
  change Code.wp _ _ _ _ (y.alloc (.cells (rowU (List.replicate (n + 1) 0)) 5))
  have hrs : RsR C y.heap.size n (g : Int) r u m tc (tkT R g) (basJ g n 0) w (y.alloc (.cells (rowU (List.replicate (n + 1) 0)) 5)) := ⟨by rw [basJ_zero]; exact heap_new _ _, HBQ.out.below (bel1 y _), HR1.out.below (bel1 y _), HB1.out.trans ((bel1 y _).mono HB1.out.size), HB1.out.size, Nat.ne_of_lt HBQ.out.lt, by
    rcases HRN.out with c | ⟨gb, e, hgl, _⟩
    · exact .inl c
    · exact .inr fun j hj => by rw [e] at hj; simp at hj; have := HB1.out.size; omega⟩
  have HDW : Hid (w.heap.size ≤ y.heap.size) := Lib.hid HB1.out.size
  obtain ⟨y2, hy2⟩ : ∃ y2, y.alloc (.cells (rowU (List.replicate (n + 1) 0)) 5) = y2 := ⟨_, rfl⟩
  obtain ⟨D, hD⟩ : ∃ D, y.heap.size = D := ⟨_, rfl⟩
  rw [hy2, hD] at hrs
  rw [hD] at HDW
  rw [hy2, hD]
  have HRS := Lib.hid hrs
  clear hy2 hD hrs HB1 HBQ HR1 d0 d1 d2 d3 d4 hmk hw1
  go_wp2_with fail
  go_loopw [16] (fun s16 wr => ∃ j : Nat, j ≤ n + 1 ∧ s16 = .int .i64 (j : Int) ∧ Hid (RsR C D n (g : Int) r u m tc (tkT R g) (basJ g n j) w wr)) (fun s16 _ => n + 1 - (intOf s16).toNat)
  case atStart => exact ⟨0, Nat.zero_le _, rfl, HRS⟩
  case round =>
    clear HRS
    obtain ⟨j, hj, rfl, HL⟩ := hrel
    obtain ⟨d0, d1, d2, d3, d4⟩ := HL.out.bq.all
    by_cases hjn : j < n + 1
    · have hjn2 : (j : Int) < (n : Int) + 1 := by omega
      have i0 : 0 ≤ (j : Int) := by omega
      obtain ⟨c0, c1⟩ := HL.out.bd.cell (show j < (basJ g n j).length by rw [basJ_len]; exact hjn)
      by_cases h0 : j = 0
      · subst h0
        have hst := HL.out.set 0 1
        rw [basJ_set (by omega) (v := 1) rfl] at hst
        have HS2 : Hid (RsR C D n (g : Int) r u m tc (tkT R g) (basJ g n (0 + 1)) w (wr.setCell ⟨D, 0, none⟩ (.int .u8 1))) := Lib.hid hst
        clear hst HL
        go_wp2_with fail
        go_roundw
        case rel => exact ⟨0 + 1, by omega, by go_num, HS2⟩
        case measure => first | (simp [intOf]; omega) | simp [intOf]
      · have hj1 : ¬ ((j : Int) < 1) := by omega
        by_cases hjg : j ≤ g
        · have hjg2 : (j : Int) < 1 + (g : Int) := by omega
          have hst := HL.out.set j 2
          rw [basJ_set hjn (v := 2) (by rw [if_neg h0, if_pos hjg])] at hst
          have HS2 : Hid (RsR C D n (g : Int) r u m tc (tkT R g) (basJ g n (j + 1)) w (wr.setCell ⟨D, j, none⟩ (.int .u8 2))) := Lib.hid hst
          have HJ := Lib.hid hjn
          clear hst HL hjg h0 hjn hj
          go_wp2_with fail
          go_roundw
          case rel => exact ⟨j + 1, by have := HJ.out; omega, by go_num, HS2⟩
          case measure => have := HJ.out; simp [intOf]; omega
        · have hjg2 : ¬ ((j : Int) < 1 + (g : Int)) := by omega
          have hst := HL.out
          rw [basJ_stay hjn (by omega) (by omega)] at hst
          have HS2 := Lib.hid hst
          have HJ := Lib.hid hjn
          clear hst HL hjg h0 hjn hj
          go_wp2_with fail
          go_roundw
          case rel => exact ⟨j + 1, by have := HJ.out; omega, by go_num, HS2⟩
          case measure => have := HJ.out; simp [intOf]; omega
    · have hjn3 : ¬ ((j : Int) < (n : Int) + 1) := by omega
      have hje : j = n + 1 := by omega
      have HL2 : Hid (RsR C D n (g : Int) r u m tc (tkT R g) (docT R g n 0) w wr) := Lib.hid (by rw [docT_zero, ← hje]; exact HL.out)
      clear HL hje hj hjn
      go_wp2_with fail
      clear d0 d1 d2 d3 d4
      go_loopw [40] (fun s40 wr => ∃ j : Nat, j ≤ m ∧ s40 = .int .i64 (j : Int) ∧ Hid (RsR C D n (g : Int) r u m tc (tkT R g) (docT R g n j) w wr)) (fun s40 _ => m - (intOf s40).toNat)
      case atStart => exact ⟨0, Nat.zero_le _, rfl, HL2⟩
      case round =>
        clear HL2 hjn3
        obtain ⟨j, hj, rfl, HL⟩ := hrel
        by_cases hjm : j < m
        · have hjm2 : (j : Int) < (m : Int) := by omega
          have hjL : j < (tkT R g).length := by rw [HM.out]; exact hjm
          obtain ⟨y, hy⟩ : ∃ y, (tkT R g).getD j r0 = y := ⟨_, rfl⟩
          have hmm := tkT_mem.1 (show (y.1, y.2.1, y.2.2) ∈ tkT R g by rw [← hy]; exact getD_mem hjL)
          obtain ⟨i, k, t⟩ := y
          obtain ⟨ht, hig, hRi⟩ := hmm
          simp only at ht hig hRi
          subst ht
          have ha := HT.out.al _ _ _ hRi
          have hgn := HG.out
          have HDS := Lib.hid (docT_succ (n := n) hjL hy)
          have HAL := Lib.hid ha
          rcases HL.out.rn with e | ⟨gb, hu, hgl, hcc⟩
          · rw [e] at hjL; simp at hjL
          obtain ⟨q0, q1, q2⟩ := hcc j hjL
          rw [hy] at q0 q1 q2
          simp only at q0 q1 q2
          obtain ⟨P, hP⟩ : ∃ P, 2 ^ k = P := ⟨_, rfl⟩
          have hPg : i + P ≤ g := by rw [← hP]; exact ha.2.2
          rw [hP] at HDS
          have HPG : Hid (i + P ≤ g ∧ g ≤ n ∧ n ≤ 80) := Lib.hid ⟨hPg, hgn, hn⟩
          have HPA : Hid (∀ X, Calls Tryz.prog 63 #[.int .i64 (k : Int)] X fun e w' => e = .returned (.int .i64 (P : Int)) ∧ X = w') := Lib.hid fun X => hP ▸ bpages_any k ha.1 X
          obtain ⟨l, hl⟩ : ∃ l, docT R g n j = l := ⟨_, rfl⟩
          have hll : l.length = n + 1 := by rw [← hl]; exact docT_len _ _ _ _
          have HLL := Lib.hid hll
          rw [hl] at HDS HL
          have HJ := Lib.hid hjm
          have HM80 := Lib.hid hm80
          subst hu
          clear hcc hjL hgl hy hig hRi ha hgn hP hPg hl hll hj hjm hm80
          go_upto_region 13 with fail
          have htt : (wr.alloc (.cells #[.int .i64 (i : Int), .int .i64 (k : Int), .bool true] 51)).heap[wr.heap.size]? = _ := heap_new wr _
          have HSR : Hid (RsI wr.heap.size C D n (g : Int) r (some ⟨gb, 0, none⟩) m tc (tkT R g) (i, k, true) (layL g l (1 + i) 3 0) w (wr.alloc (.cells #[.int .i64 (i : Int), .int .i64 (k : Int), .bool true] 51))) := Lib.hid ⟨HL.out.below (bel1 wr _), htt, Nat.ne_of_gt HL.out.bd.lt⟩
          obtain ⟨y4, hy4⟩ : ∃ z, wr.alloc (.cells #[.int .i64 (i : Int), .int .i64 (k : Int), .bool true] 51) = z := ⟨_, rfl⟩
          obtain ⟨E, hE⟩ : ∃ T, wr.heap.size = T := ⟨_, rfl⟩
          rw [hy4, hE] at HSR
          rw [hy4, hE]
          clear htt hy4 hE q0 q1 q2 HL
          go_wp2_with fail
          go_loopw [7] (fun s7 wr => ∃ c : Nat, c ≤ P ∧ s7 = .int .i64 (c : Int) ∧ Hid (RsI E C D n (g : Int) r (some ⟨gb, 0, none⟩) m tc (tkT R g) (i, k, true) (layL g l (1 + i) 3 c) w wr)) (fun s7 _ => P - (intOf s7).toNat)
          case atStart => exact ⟨0, Nat.zero_le _, rfl, HSR⟩
          case round =>
            clear HSR
            obtain ⟨c, hc, rfl, HI⟩ := hrel
            obtain ⟨e0, e1, e2⟩ := HI.out.all
            simp only at e0 e1 e2
            by_cases hcP : c < P
            · have hcP2 : (c : Int) < (P : Int) := by omega
              obtain ⟨b1, b2, b3⟩ := HPG.out
              have hw5 : IntKind.i64.wrap (1 + (i : Int)) = ((1 + i : Nat) : Int) := by rw [IntKind.wrap_i64]; omega
              have hw6 : IntKind.i64.wrap (((1 + i : Nat) : Int) + (c : Int)) = ((1 + i + c : Nat) : Int) := by rw [IntKind.wrap_i64]; omega
              have h5 : ((1 + i + c : Nat) : Int) < (n : Int) + 1 := by omega
              have h5b : 1 + i + c < n + 1 := by omega
              have h5c : 0 ≤ ((1 + i + c : Nat) : Int) := by omega
              obtain ⟨d0, d1, d2, d3, d4⟩ := HI.out.r.bq.all
              obtain ⟨c0, c1⟩ := HI.out.r.bd.cell (show 1 + i + c < (layL g l (1 + i) 3 c).length by rw [layL_len, HLL.out]; exact h5b)
              have hst := HI.out.set (1 + i + c) 3
              have HS2 : Hid (RsI E C D n (g : Int) r (some ⟨gb, 0, none⟩) m tc (tkT R g) (i, k, true) (layL g l (1 + i) 3 (c + 1)) w (wr.setCell ⟨D, 1 + i + c, none⟩ (.int .u8 3))) := Lib.hid (by
                have e : layL g l (1 + i) 3 (c + 1) = (layL g l (1 + i) 3 c).set (1 + i + c) 3 := by
                  show (if 1 + i + c ≤ g then _ else _) = _
                  rw [if_pos (by omega)]
                rw [e]; exact hst)
              have HJ2 := Lib.hid hcP
              clear hst HI b1 b2 b3 hc hcP
              go_wp2_with fail
              refine (HPA.out _).mono ?_
              rintro e w5 ⟨rfl, rfl⟩
              go_wp2_with fail
              go_roundw
              case rel => exact ⟨c + 1, by have := HJ2.out; omega, by go_num, HS2⟩
              case measure => have := HJ2.out; first | (simp [intOf]; omega) | simp [intOf]
            · obtain rfl : c = P := by omega
              have HL3 : Hid (RsR C D n (g : Int) r (some ⟨gb, 0, none⟩) m tc (tkT R g) (docT R g n (j + 1)) w wr) := Lib.hid (by rw [HDS.out]; exact HI.out.r)
              clear HI
              go_wp2_with fail
              refine (HPA.out _).mono ?_
              rintro e w5 ⟨rfl, rfl⟩
              clear e0 e1 e2
              have hjm := HJ.out; have hm80 := HM80.out
              go_wp2_with fail
              go_roundw
              case rel => exact ⟨j + 1, by omega, by go_num, HL3⟩
              case measure => simp [intOf]; omega
        · obtain rfl : j = m := by omega
          have HE : Hid (RsP R g n w (.returned (.slice (some ⟨D, 0, none⟩) (n + 1) (n + 1))) wr) := Lib.hid ⟨D, rfl, by rw [← docT_all HT.out HG.out, HM.out]; exact HL.out.bd, HL.out.dw, HL.out.be⟩
          go_wp2_with fail
          go_ret
          exact HE.out
end Go.Proofs.YtfemgekhpcgliaaGreat.Bt
