/- The walk of FieldOf. -/
import Derived.Test.YtolkggpamgjaiaaFdF
namespace Go.Proofs.Ytolkggpamgjaiaa.Bt
open Go Go.RowKit Go.Shelf
set_option linter.unusedVariables false
set_option linter.unusedSimpArgs false

theorem of_chk (p : Option Addr) (n c : Nat) (ws : List Int) (hn : n = ws.length) (hl : n ≤ 9223372036854775807) (w : World) (hw : WsAt w p ws) (hne : chkV ws ≠ 0) :
    Calls Try.prog 45 #[.slice p n c] w (Gives (.tuple #[.agg rec0, .int .i64 (chkV ws)]) w) := by
  unfold chkV at *
  by_cases h0 : n = 0
  · subst h0
    rw [if_pos (by omega)]; exact of_none p c w
  rw [if_neg (by omega)] at hne ⊢
  by_cases h32 : 32 < n
  · rw [if_pos (by omega)]; exact of_many p n c w h32 hl
  rw [if_neg (by omega)] at hne ⊢
  have ha : ¬ ws.all wOk = true := fun h => by rw [if_pos h] at hne; exact hne rfl
  rw [if_neg ha]
  have := of_in p n c ws hn (by omega) (by omega) w hw
  unfold okV at this
  rw [if_neg ha] at this
  exact this
set_option maxRecDepth 100000 in
set_option maxHeartbeats 4000000 in
theorem fieldOf_bad (p : Option Addr) (n c : Nat) (ws : List Int) (a1 : Int) (hn : n = ws.length) (hl : n ≤ 40) (w : World) (hw : WsAt w p ws) (hne : chkV ws ≠ 0) :
    Calls Try.prog 7 #[.slice p n c, .int .i64 a1] w (TrueAt w) := by
  have HW := Lib.hid hw
  have HOC := Lib.hid (fun x (hx : WsAt x p ws) => of_chk p n c ws hn (by omega) x hx hne)
  have HCC := Lib.hid (fun x (hx : WsAt x p ws) => rchk_any p n c ws hn (by omega) x hx)
  obtain ⟨E, hE⟩ : ∃ E, chkV ws = E := ⟨_, rfl⟩
  rw [hE] at HOC HCC hne
  have d1 : (E != 0) = true := by simpa using hne
  have d2 : (E == E) = true := beq_self_eq_true _
  have d3 : (E != E) = false := by simp
  have HAT : Hid (atF 0 (fun _ => 0) a1 = 0) := Lib.hid (by unfold atF hasF; rw [decide_eq_false (by omega)]; rfl)
  have hu := Try.underlying84
  have hi : (Try.prog.info? 84).map (·.size) = some rec0.toList.length := by rw [Array.length_toList, rec0_size]; exact Try.infoRec
  have HSZ : Hid ((Try.prog.info? 84).map (·.size) = some rec0.size) := Lib.hid (by rw [rec0_size]; exact Try.infoRec)
  have hw0 : IntKind.i64.wrap 0 = 0 := by decide
  clear hw hn hE hne
  go_enter Try.func7, Try.ntmps7
  go_wp2_with fail
  refine (awake5_calls _).mono ?_
  rintro e w1 ⟨rfl, hb1⟩
  have HW1 := Lib.hid (HW.out.below hb1)
  have HB1 := Lib.hid hb1
  clear hb1 HW
  go_wp2_with fail
  refine (HOC.out _ HW1.out).mono ?_
  rintro e w2 ⟨rfl, hb⟩
  have HW2 := Lib.hid (HW1.out.below hb)
  have HB2 := Lib.hid (HB1.out.trans (hb.mono HB1.out.size))
  clear hb HB1 HW1
  go_upto_region 6 with (refine wpList_store_row rfl 84 (.tmp 5) (.tmp 16) rfl w2.heap.size rec0 rfl rfl 84 rec0 (heap_new _ _) HSZ.out rfl (rec_one _ _) ?_; simp only [Act.put, List.setIfInBounds_toArray, List.set_cons_zero, List.set_cons_succ])
  obtain ⟨y, hy⟩ : ∃ y, (w2.alloc (.cells rec0 84)).setRow w2.heap.size rec0 = y := ⟨_, rfl⟩
  obtain ⟨T, hT⟩ : ∃ B, w2.heap.size = B := ⟨_, rfl⟩
  have hv : VR T 0 (fun _ => 0) y := by unfold VR; rw [← hy, ← hT]; exact setRow_ad (heap_new _ _) _
  have by2 : Below w2.heap.size w2 y := by rw [← hy]; exact below_setRow (bel1 _ _) (Nat.le_refl _) _
  change Code.wp _ _ _ _ ((w2.alloc (.cells rec0 84)).setRow w2.heap.size rec0)
  rw [hy, hT]
  have HVR := Lib.hid hv; have HBY := Lib.hid (HB2.out.trans (by2.mono HB2.out.size)); have HWY := Lib.hid (HW2.out.below by2)
  clear hv by2 hy hT HB2 HW2
  go_wp2_with fail
  refine (HCC.out _ HWY.out).mono ?_
  rintro e w3 ⟨rfl, rfl⟩
  go_wp2_with fail
  refine wp_region_held_drew (S := (fun x => x.rangeAt T 0 rec0.toList ∧ VR T 0 (fun _ => 0) x ∧ Below w.heap.size w x)) (by kernel_rfl) ⟨VR.range HVR.out, HVR.out.below (Below.refl _ _).drew, HBY.out.drew⟩ (fun hHeld => ?_)
  refine wpAnyH_take (i := 0) (v := .int .i64 E) rfl (by kernel_rfl) (by kernel_rfl) (by kernel_rfl) (fun _ _ _ h => h) (Or.inl ⟨by rfl, fun X hS => ?_⟩) hHeld ?_
  · go_simp
  try simp only [Act.put, List.getElem_toArray, List.getElem_cons_zero, List.getElem_cons_succ, List.setIfInBounds_toArray, List.set_cons_zero, List.set_cons_succ]
  refine wpAnyH_take (i := 1) (v := .int .i64 E) rfl (by kernel_rfl) (by kernel_rfl) (by kernel_rfl) (fun _ _ _ h => h) (Or.inl ⟨by rfl, fun X hS => ?_⟩) hHeld ?_
  · go_simp
  try simp only [Act.put, List.getElem_toArray, List.getElem_cons_zero, List.getElem_cons_succ, List.setIfInBounds_toArray, List.set_cons_zero, List.set_cons_succ]
  refine wpAnyH_take (i := 2) (v := .bool true) rfl (by kernel_rfl) (by kernel_rfl) (by kernel_rfl) (fun _ _ _ h => h) (Or.inl ⟨by rfl, fun X hS => ?_⟩) hHeld ?_
  · go_simp
  try simp only [Act.put, List.getElem_toArray, List.getElem_cons_zero, List.getElem_cons_succ, List.setIfInBounds_toArray, List.set_cons_zero, List.set_cons_succ]
  refine wpAnyH_take (i := 3) (v := .bool true) rfl (by kernel_rfl) (by kernel_rfl) (by kernel_rfl) (fun _ _ _ h => h) (Or.inl ⟨by rfl, fun X hS => ?_⟩) hHeld ?_
  · go_simp
  try simp only [Act.put, List.getElem_toArray, List.getElem_cons_zero, List.getElem_cons_succ, List.setIfInBounds_toArray, List.set_cons_zero, List.set_cons_succ]
  refine wpAnyH_take (i := 4) (v := .agg rec0) rfl (by kernel_rfl) (by kernel_rfl) (by kernel_rfl) (fun _ _ _ h => h) (yieldsIf_load_mid (by rfl) 84 (.tmp 5) rfl T 0 rfl rec0.toList _ (fun X hS => hS.1) hu rfl hi) hHeld ?_
  try simp only [Act.put, List.getElem_toArray, List.getElem_cons_zero, List.getElem_cons_succ, List.setIfInBounds_toArray, List.set_cons_zero, List.set_cons_succ]
  refine wpAnyH_take (i := 6) (v := .agg rec0) rfl (by kernel_rfl) (by kernel_rfl) (by kernel_rfl) (fun _ _ _ h => h) (yieldsIf_load_mid (by rfl) 84 (.tmp 5) rfl T 0 rfl rec0.toList _ (fun X hS => hS.1) hu rfl hi) hHeld ?_
  try simp only [Act.put, List.getElem_toArray, List.getElem_cons_zero, List.getElem_cons_succ, List.setIfInBounds_toArray, List.set_cons_zero, List.set_cons_succ]
  refine wpAnyH_take (i := 9) (v := .agg rec0) rfl (by kernel_rfl) (by kernel_rfl) (by kernel_rfl) (fun _ _ _ h => h) (yieldsIf_load_mid (by rfl) 84 (.tmp 5) rfl T 0 rfl rec0.toList _ (fun X hS => hS.1) hu rfl hi) hHeld ?_
  try simp only [Act.put, List.getElem_toArray, List.getElem_cons_zero, List.getElem_cons_succ, List.setIfInBounds_toArray, List.set_cons_zero, List.set_cons_succ]
  refine wpAnyH_take (i := 10) (v := .int .i64 a1) rfl (by kernel_rfl) (by kernel_rfl) (by kernel_rfl) (fun _ _ _ h => h) (Or.inl ⟨by rfl, fun X hS => ?_⟩) hHeld ?_
  · go_simp
  try simp only [Act.put, List.getElem_toArray, List.getElem_cons_zero, List.getElem_cons_succ, List.setIfInBounds_toArray, List.set_cons_zero, List.set_cons_succ]
  refine wpAnyH_ready (rs := [5]) (by kernel_rfl) (by simp) ?_
  refine AllReadyH.cons rfl (fun K hK => ?_) AllReadyH.nil
  go_simp
  refine (flen_any 0 (fun _ => 0) _).mono ?_
  rintro e x5 ⟨rfl, hbb5⟩
  have hx5 := (show _ ∧ _ ∧ _ from ⟨(VR.below hHeld.2.1 hbb5).range, hHeld.2.1.below hbb5, hHeld.2.2.trans (hbb5.mono hHeld.2.2.size)⟩)
  clear hHeld
  refine hK.out _ _ hx5 (fun hHeld => ?_)
  clear hK hbb5 hx5
  try simp only [Act.put, List.getElem_toArray, List.getElem_cons_zero, List.getElem_cons_succ, List.setIfInBounds_toArray, List.set_cons_zero, List.set_cons_succ]
  refine wpAnyH_ready (rs := [7]) (by kernel_rfl) (by simp) ?_
  refine AllReadyH.cons rfl (fun K hK => ?_) AllReadyH.nil
  go_simp
  refine (fsize_any 0 (fun _ => 0) (by omega) _).mono ?_
  rintro e x7 ⟨rfl, hbb7⟩
  have hx7 := (show _ ∧ _ ∧ _ from ⟨(VR.below hHeld.2.1 hbb7).range, hHeld.2.1.below hbb7, hHeld.2.2.trans (hbb7.mono hHeld.2.2.size)⟩)
  clear hHeld
  refine hK.out _ _ hx7 (fun hHeld => ?_)
  clear hK hbb7 hx7
  try simp only [Act.put, List.getElem_toArray, List.getElem_cons_zero, List.getElem_cons_succ, List.setIfInBounds_toArray, List.set_cons_zero, List.set_cons_succ]
  refine wpAnyH_take (i := 8) (v := .int .i64 0) rfl (by kernel_rfl) (by kernel_rfl) (by kernel_rfl) (fun _ _ _ h => h) (Or.inl ⟨by rfl, fun X hS => ?_⟩) hHeld ?_
  · go_simp
  try simp only [Act.put, List.getElem_toArray, List.getElem_cons_zero, List.getElem_cons_succ, List.setIfInBounds_toArray, List.set_cons_zero, List.set_cons_succ]
  refine wpAnyH_ready (rs := [11]) (by kernel_rfl) (by simp) ?_
  refine AllReadyH.cons rfl (fun K hK => ?_) AllReadyH.nil
  go_simp
  refine (fat_any 0 (fun _ => 0) (by omega) a1 _).mono ?_
  rintro e x11 ⟨rfl, hbb11⟩
  rw [HAT.out]
  have hx11 := (show _ ∧ _ ∧ _ from ⟨(VR.below hHeld.2.1 hbb11).range, hHeld.2.1.below hbb11, hHeld.2.2.trans (hbb11.mono hHeld.2.2.size)⟩)
  clear hHeld
  refine hK.out _ _ hx11 (fun hHeld => ?_)
  clear hK hbb11 hx11
  try simp only [Act.put, List.getElem_toArray, List.getElem_cons_zero, List.getElem_cons_succ, List.setIfInBounds_toArray, List.set_cons_zero, List.set_cons_succ]
  refine wpAnyH_take (i := 12) (v := .int .i64 0) rfl (by kernel_rfl) (by kernel_rfl) (by kernel_rfl) (fun _ _ _ h => h) (Or.inl ⟨by rfl, fun X hS => ?_⟩) hHeld ?_
  · go_simp
  try simp only [Act.put, List.getElem_toArray, List.getElem_cons_zero, List.getElem_cons_succ, List.setIfInBounds_toArray, List.set_cons_zero, List.set_cons_succ]
  refine wpAnyH_take (i := 13) (v := .bool true) rfl (by kernel_rfl) (by kernel_rfl) (by kernel_rfl) (fun _ _ _ h => h) (Or.inl ⟨by rfl, fun X hS => ?_⟩) hHeld ?_
  · go_simp
  try simp only [Act.put, List.getElem_toArray, List.getElem_cons_zero, List.getElem_cons_succ, List.setIfInBounds_toArray, List.set_cons_zero, List.set_cons_succ]
  refine wpAnyH_take (i := 14) (v := .bool true) rfl (by kernel_rfl) (by kernel_rfl) (by kernel_rfl) (fun _ _ _ h => h) (Or.inl ⟨by rfl, fun X hS => ?_⟩) hHeld ?_
  · go_simp
  try simp only [Act.put, List.getElem_toArray, List.getElem_cons_zero, List.getElem_cons_succ, List.setIfInBounds_toArray, List.set_cons_zero, List.set_cons_succ]
  refine wpAnyH_take (i := 15) (v := .bool true) rfl (by kernel_rfl) (by kernel_rfl) (by kernel_rfl) (fun _ _ _ h => h) (Or.inl ⟨by rfl, fun X hS => ?_⟩) hHeld ?_
  · go_simp
  try simp only [Act.put, List.getElem_toArray, List.getElem_cons_zero, List.getElem_cons_succ, List.setIfInBounds_toArray, List.set_cons_zero, List.set_cons_succ]
  refine wpAnyH_done (by kernel_rfl) ?_ _
  have HF := Lib.hid hHeld.2.2
  clear hHeld
  go_wp2_with fail
  go_ret
  exact ⟨rfl, HF.out⟩
set_option maxRecDepth 100000 in
set_option maxHeartbeats 4000000 in
theorem fieldOf_good (p : Option Addr) (n c : Nat) (ws : List Int) (a1 : Int) (hn : n = ws.length) (h0 : 0 < n) (hl : n ≤ 32) (w : World) (hw : WsAt w p ws) (ha : ws.all wOk = true) :
    Calls Try.prog 7 #[.slice p n c, .int .i64 a1] w (TrueAt w) := by
  have HW := Lib.hid hw
  have HOC : Hid (∀ x, WsAt x p ws → Calls Try.prog 45 #[.slice p n c] x (Gives (.tuple #[.agg (recC n (fP ws n)), .int .i64 0]) x)) := Lib.hid (fun x hx => by
    have := of_in p n c ws hn h0 hl x hx
    unfold okV at this
    rw [if_pos ha, ← hn] at this
    exact this)
  have HCC : Hid (∀ x, WsAt x p ws → Calls Try.prog 46 #[.slice p n c] x fun e w' => e = .returned (.int .i64 0) ∧ x = w') := Lib.hid (fun x hx => by
    have := rchk_any p n c ws hn (by omega) x hx
    have hz : chkV ws = 0 := by unfold chkV; rw [if_neg (by omega), if_neg (by omega), if_pos ha]
    rw [hz] at this
    exact this)
  have HSI := Lib.hid (fun x (hx : WsAt x p ws) => rsize_any p n c ws hn hl ha x hx)
  have HAI := Lib.hid (fun x (hx : WsAt x p ws) => rat_any p n c ws hn hl ha a1 x hx)
  have hF : fP ws n n = sumW ws n := by unfold fP; rw [if_pos (Nat.le_refl _)]
  have HF0 := Lib.hid hF
  have HSN : Hid (∀ f, (Try.prog.info? 84).map (·.size) = some (recC n f).size) := Lib.hid (fun f => by rw [recC_size]; exact Try.infoRec)
  clear hw hn ha hF
  generalize fP ws n = F at *
  obtain ⟨Z, hZ⟩ : ∃ Z, atF n F a1 = Z := ⟨_, rfl⟩
  rw [hZ] at HAI
  have HZ := Lib.hid hZ
  clear hZ
  have d2 : (Z == Z) = true := beq_self_eq_true _
  have d3 : (((sumW ws n : Nat) : Int) == ((sumW ws n : Nat) : Int)) = true := beq_self_eq_true _
  have d4 : ((n : Int) == (n : Int)) = true := beq_self_eq_true _
  have h40 : n ≤ 40 := by omega
  go_enter Try.func7, Try.ntmps7
  go_wp2_with fail
  refine (awake5_calls _).mono ?_
  rintro e w1 ⟨rfl, hb1⟩
  have HW1 := Lib.hid (HW.out.below hb1)
  have HB1 := Lib.hid hb1
  clear hb1 HW
  go_wp2_with fail
  refine (HOC.out _ HW1.out).mono ?_
  rintro e w2 ⟨rfl, hb⟩
  have HW2 := Lib.hid (HW1.out.below hb)
  have HB2 := Lib.hid (HB1.out.trans (hb.mono HB1.out.size))
  clear hb HB1 HW1
  go_upto_region 6 with (refine wpList_store_row rfl 84 (.tmp 5) (.tmp 16) rfl w2.heap.size (recC n F) rfl rfl 84 rec0 (heap_new _ _) (HSN.out _) (by rw [rec0_size, recC_size]) (rec_one _ _) ?_; simp only [Act.put, List.setIfInBounds_toArray, List.set_cons_zero, List.set_cons_succ])
  obtain ⟨y, hy⟩ : ∃ y, (w2.alloc (.cells rec0 84)).setRow w2.heap.size (recC n F) = y := ⟨_, rfl⟩
  obtain ⟨T, hT⟩ : ∃ B, w2.heap.size = B := ⟨_, rfl⟩
  have hv : VR T n F y := by unfold VR; rw [← hy, ← hT]; exact setRow_ad (heap_new _ _) _
  have by2 : Below w2.heap.size w2 y := by rw [← hy]; exact below_setRow (bel1 _ _) (Nat.le_refl _) _
  change Code.wp _ _ _ _ ((w2.alloc (.cells rec0 84)).setRow w2.heap.size (recC n F))
  rw [hy, hT]
  have HVR := Lib.hid hv; have HBY := Lib.hid (HB2.out.trans (by2.mono HB2.out.size)); have HWY := Lib.hid (HW2.out.below by2)
  clear hv by2 hy hT HB2 HW2
  go_wp2_with fail
  refine (HCC.out _ HWY.out).mono ?_
  rintro e w3 ⟨rfl, rfl⟩
  go_wp2_with (refine wpList_load_row_if rfl 84 (.tmp 5) rfl T rfl 84 (recC n F) (0, 0) _ HVR.out Try.underlying84 rfl (HSN.out _) ?_)
  refine (flen_any n F _).mono ?_
  rintro e w4 ⟨rfl, hb⟩
  have HVR4 := Lib.hid (HVR.out.below hb); have HB4 := Lib.hid (HBY.out.trans (hb.mono HBY.out.size)); have HW4 := Lib.hid (HWY.out.below hb)
  clear hb HVR HBY HWY
  go_wp2_with (refine wpList_load_row_if rfl 84 (.tmp 5) rfl T rfl 84 (recC n F) (0, 0) _ HVR4.out Try.underlying84 rfl (HSN.out _) ?_)
  refine (fsize_any n F hl _).mono ?_
  rintro e w5 ⟨rfl, hb⟩
  rw [HF0.out]
  have HVR5 := Lib.hid (HVR4.out.below hb); have HB5 := Lib.hid (HB4.out.trans (hb.mono HB4.out.size)); have HW5 := Lib.hid (HW4.out.below hb)
  clear hb HVR4 HB4 HW4
  go_wp2_with fail
  refine (HSI.out _ HW5.out).mono ?_
  rintro e w6 ⟨rfl, rfl⟩
  go_wp2_with (refine wpList_load_row_if rfl 84 (.tmp 5) rfl T rfl 84 (recC n F) (0, 0) _ HVR5.out Try.underlying84 rfl (HSN.out _) ?_)
  refine (fat_any n F hl a1 _).mono ?_
  rintro e w6 ⟨rfl, hb⟩
  rw [HZ.out]
  have HB6 := Lib.hid (HB5.out.trans (hb.mono HB5.out.size)); have HW6 := Lib.hid (HW5.out.below hb)
  clear hb HVR5 HB5 HW5
  go_wp2_with fail
  refine (HAI.out _ HW6.out).mono ?_
  rintro e w7 ⟨rfl, rfl⟩
  go_wp2_with fail
  go_ret
  exact ⟨rfl, HB6.out⟩
theorem fieldOf_all (p : Option Addr) (n c : Nat) (ws : List Int) (a1 : Int) (hn : n = ws.length) (hl : n ≤ 9223372036854775807) (w : World) (hw : WsAt w p ws) :
    Calls Try.prog 7 #[.slice p n c, .int .i64 a1] w (TrueAt w) := by
  by_cases h40 : n ≤ 40
  · by_cases hz : chkV ws = 0
    · have hall : ws.all wOk = true ∧ 0 < n ∧ n ≤ 32 := by
        unfold chkV at hz
        by_cases h0 : ws.length = 0
        · rw [if_pos h0] at hz; cases hz
        rw [if_neg h0] at hz
        by_cases h1 : 32 < ws.length
        · rw [if_pos h1] at hz; cases hz
        rw [if_neg h1] at hz
        refine ⟨?_, by omega, by omega⟩
        cases h : ws.all wOk with
        | true => rfl
        | false => rw [h] at hz; cases hz
      exact fieldOf_good p n c ws a1 hn hall.2.1 hall.2.2 w hw hall.1
    · exact fieldOf_bad p n c ws a1 hn h40 w hw hz
  · have d1 : decide (40 < (n : Int)) = true := by simp; omega
    clear hn hw
    go_enter Try.func7, Try.ntmps7
    go_wp2_with fail
    refine (awake5_calls _).mono ?_
    rintro e w1 ⟨rfl, hb1⟩
    go_wp2_with fail
    go_ret
    exact ⟨rfl, hb1⟩
theorem ws_of_row {w : World} {a : Option Addr} {len cap : Nat} {zs : List Int}
    (h : (a = none ∧ len = 0 ∧ cap = 0 ∧ zs = []) ∨ ∃ x, a = some x ∧ len ≤ cap ∧ cap ≤ maxLen ∧ zs.length = cap ∧ (∀ i, i < zs.length → w.cell? (x.add i) = some (.int .i64 (zs.getD i 0))) ∧ ∀ n ∈ zs, (Lit.int .i64 n).wf = true) :
    ∃ ws : List Int, len = ws.length ∧ len ≤ 9223372036854775807 ∧ WsAt w a ws := by
  rcases h with ⟨_, rfl, _, _⟩ | ⟨x, rfl, h1, h2, h3, h4, _⟩
  · exact ⟨[], rfl, by omega, .inl rfl⟩
  · unfold maxLen at h2
    refine ⟨zs.take len, by rw [List.length_take]; omega, by omega, ?_⟩
    by_cases h0 : len = 0
    · subst h0; exact .inl rfl
    · have k0 := h4 0 (by omega)
      obtain ⟨b, off, spot⟩ := x
      have hspot : spot = none := by simpa [Addr.add] using World.cell?_spot k0
      subst hspot
      have eA : ∀ j, (⟨b, off, none⟩ : Addr).add j = ⟨b, off + j, none⟩ := fun j => by
        simp only [Addr.add]; split <;> simp_all
      refine .inr ⟨b, off, rfl, World.block_lt_of_cell? _ _ k0, fun i hi => ?_⟩
      rw [List.length_take] at hi
      have := h4 i (by omega)
      rw [eA] at this
      rw [this, List.getD_eq_getElem?_getD, List.getD_eq_getElem?_getD, List.getElem?_take, if_pos (by omega)]
end Go.Proofs.Ytolkggpamgjaiaa.Bt
