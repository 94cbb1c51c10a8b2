/- The document's answers on widths. -/
import Derived.Test.YtolkggpamgjaiaaFdE
namespace Go.Proofs.Ytolkggpamgjaiaa.Bt
open Go Go.RowKit Go.Shelf
set_option linter.unusedVariables false
set_option linter.unusedSimpArgs false

def chkV (ws : List Int) : Int := if ws.length = 0 then 17 else if 32 < ws.length then 15 else if ws.all wOk then 0 else 2
theorem all_not {ws : List Int} {j : Nat} (hj : j < ws.length) (h : wOk (ws.getD j 0) = false) : ws.all wOk = false := by
  rw [Bool.eq_false_iff]
  intro hall
  rw [List.all_eq_true] at hall
  have := hall (ws.getD j 0) (by rw [List.getD_eq_getElem?_getD, List.getElem?_eq_getElem hj]; exact List.getElem_mem hj)
  rw [h] at this; cases this
set_option maxRecDepth 100000 in
theorem rchk_any (p : Option Addr) (n c : Nat) (ws : List Int) (hn : n = ws.length) (hl : n ≤ 9223372036854775807) (w : World) (hw : WsAt w p ws) :
    Calls Try.prog 46 #[.slice p n c] w fun e w' => e = .returned (.int .i64 (chkV ws)) ∧ w = w' := by
  by_cases h0 : n = 0
  · have HV : Hid (chkV ws = 17) := Lib.hid (by unfold chkV; rw [if_pos (by omega)])
    subst h0
    clear hn hw
    go_enter Try.func46, Try.ntmps46
    go_wp2_with fail
    go_ret
    exact ⟨by rw [HV.out]; rfl, rfl⟩
  by_cases h32 : 32 < n
  · have HV : Hid (chkV ws = 15) := Lib.hid (by unfold chkV; rw [if_neg (by omega), if_pos (by omega)])
    have d0 : ((n : Int) == 0) = false := by simp; omega
    have d1 : decide (32 < (n : Int)) = true := by simp; omega
    clear hn hw h32 h0
    go_enter Try.func46, Try.ntmps46
    go_wp2_with fail
    go_ret
    exact ⟨by rw [HV.out]; rfl, rfl⟩
  obtain ⟨b, off, rfl, hlt0, hc⟩ : ∃ b off, p = some ⟨b, off, none⟩ ∧ b < w.heap.size ∧ ∀ i, i < ws.length → w.cell? ⟨b, off + i, none⟩ = some (.int .i64 (ws.getD i 0)) := by
    rcases hw with h | h
    · omega
    · exact h
  have HV : Hid (chkV ws = if ws.all wOk then 0 else 2) := Lib.hid (by unfold chkV; rw [if_neg (by omega), if_neg (by omega)])
  have HCW := Lib.hid hc
  have HN := Lib.hid hn
  have d0 : ((n : Int) == 0) = false := by simp; omega
  have d1 : decide (32 < (n : Int)) = false := by simp; omega
  have hn32 : n ≤ 32 := by omega
  clear hn hc hw h32 h0
  go_enter Try.func46, Try.ntmps46
  go_wp2_with fail
  go_loop [13] (fun v => ∃ j : Nat, j ≤ n ∧ v = .int .i64 (j : Int) ∧ (ws.take j).all wOk = true) (fun v => n - (intOf v).toNat)
  case atStart => exact ⟨0, Nat.zero_le _, rfl, by simp⟩
  case round =>
    obtain ⟨j, hj, rfl, ha⟩ := hrel
    have HA := Lib.hid ha
    clear ha
    by_cases hlt : j < n
    · have hjw : j < ws.length := by have := HN.out; omega
      have hcj := HCW.out j hjw
      cases hok : wOk (ws.getD j 0) with
      | true =>
        have HOK := Lib.hid hok
        obtain ⟨g, hg⟩ : ∃ g, ws.getD j 0 = g := ⟨_, rfl⟩
        rw [hg] at hcj hok
        have h4 : g = 1 ∨ g = 2 ∨ g = 4 ∨ g = 8 := by unfold wOk at hok; simpa using hok
        clear hok hg
        rcases h4 with rfl | rfl | rfl | rfl
        all_goals
          go_wp2_with fail
          go_round
          case rel => exact ⟨j + 1, by omega, by go_num, take_all_succ HA.out hjw HOK.out⟩
          case measure => simp [intOf]; omega
      | false =>
        have HF := Lib.hid (all_not hjw hok)
        obtain ⟨g, hg⟩ : ∃ g, ws.getD j 0 = g := ⟨_, rfl⟩
        rw [hg] at hcj hok
        have h4 : ¬ g = 1 ∧ ¬ g = 2 ∧ ¬ g = 4 ∧ ¬ g = 8 := by unfold wOk at hok; simpa [not_or] using hok
        obtain ⟨k1, k2, k3, k4⟩ := h4
        have e1 : (g != 1) = true := by simpa using k1
        have e2 : (g != 2) = true := by simpa using k2
        have e3 : (g != 4) = true := by simpa using k3
        have e4 : (g != 8) = true := by simpa using k4
        clear hok hg k1 k2 k3 k4
        go_wp2_with fail
        go_ret
        exact ⟨by rw [HV.out, HF.out]; rfl, rfl⟩
    · have HT : Hid (ws.all wOk = true) := Lib.hid (by
        have := HA.out; rw [show j = ws.length by have := HN.out; omega, List.take_length] at this; exact this)
      go_wp2_with fail
      go_ret
      exact ⟨by rw [HV.out, HT.out]; rfl, rfl⟩
theorem w_bound {ws : List Int} (ha : ws.all wOk = true) {j : Nat} (hj : j < ws.length) : 1 ≤ ws.getD j 0 ∧ ws.getD j 0 ≤ 8 := by
  rw [List.all_eq_true] at ha
  have h2 := ha (ws.getD j 0) (by rw [List.getD_eq_getElem?_getD, List.getElem?_eq_getElem hj]; exact List.getElem_mem hj)
  have h4 : ws.getD j 0 = 1 ∨ ws.getD j 0 = 2 ∨ ws.getD j 0 = 4 ∨ ws.getD j 0 = 8 := by unfold wOk at h2; simpa using h2
  omega
theorem take_all {ws : List Int} (ha : ws.all wOk = true) (j : Nat) : (ws.take j).all wOk = true := by
  rw [List.all_eq_true] at ha ⊢
  exact fun x hx => ha x (List.take_subset _ _ hx)
theorem sum_step {ws : List Int} (ha : ws.all wOk = true) {j : Nat} (hj : j < ws.length) : ((sumW ws (j + 1) : Nat) : Int) = (sumW ws j : Nat) + ws.getD j 0 := by
  have := w_bound ha hj
  rw [sumW_succ ws j hj]; omega
set_option maxRecDepth 100000 in
theorem rsize_any (p : Option Addr) (n c : Nat) (ws : List Int) (hn : n = ws.length) (hl : n ≤ 32) (ha : ws.all wOk = true) (w : World) (hw : WsAt w p ws) :
    Calls Try.prog 50 #[.slice p n c] w fun e w' => e = .returned (.int .i64 (sumW ws n : Nat)) ∧ w = w' := by
  have HN := Lib.hid hn; have HA := Lib.hid ha; have HW := Lib.hid hw
  clear hn ha hw
  go_enter Try.func50, Try.ntmps50
  go_wp2_with fail
  go_loop [3, 8] (fun v i => ∃ j : Nat, j ≤ n ∧ i = .int .i64 (j : Int) ∧ v = .int .i64 (sumW ws j : Nat)) (fun _ i => n - (intOf i).toNat)
  case atStart => exact ⟨0, Nat.zero_le _, rfl, rfl⟩
  case round =>
    obtain ⟨j, hj, rfl, rfl⟩ := hrel
    by_cases hlt : j < n
    · have hjw : j < ws.length := by have := HN.out; omega
      obtain ⟨b, off, rfl, hlt0, hc⟩ : ∃ b off, p = some ⟨b, off, none⟩ ∧ b < w.heap.size ∧ ∀ i, i < ws.length → w.cell? ⟨b, off + i, none⟩ = some (.int .i64 (ws.getD i 0)) := by
        rcases HW.out with h | h
        · omega
        · exact h
      have hcj := hc j hjw
      have hb := w_bound HA.out hjw
      have hs := sumW_le (take_all HA.out j) (by omega)
      have HS := Lib.hid (sum_step HA.out hjw)
      clear hc
      generalize ws.getD j 0 = g at *
      go_wp2_with fail
      go_round
      case rel => exact ⟨j + 1, by omega, by go_num, by rw [HS.out]⟩
      case measure => simp [intOf]; omega
    · have hje : j = n := by omega
      go_wp2_with fail
      go_ret
      exact ⟨rfl, rfl⟩
set_option maxRecDepth 100000 in
theorem rat_any (p : Option Addr) (n c : Nat) (ws : List Int) (hn : n = ws.length) (hl : n ≤ 32) (ha : ws.all wOk = true) (i : Int) (w : World) (hw : WsAt w p ws) :
    Calls Try.prog 51 #[.slice p n c, .int .i64 i] w fun e w' => e = .returned (.int .i64 (atF n (fP ws n) i)) ∧ w = w' := by
  have HN := Lib.hid hn; have HA := Lib.hid ha; have HW := Lib.hid hw
  by_cases h0 : i < 0
  · have HV : Hid (atF n (fP ws n) i = 0) := Lib.hid (by unfold atF hasF; rw [decide_eq_false (by omega)]; rfl)
    clear hn ha hw
    go_enter Try.func51, Try.ntmps51
    go_wp2_with fail
    go_ret
    exact ⟨by rw [HV.out]; rfl, rfl⟩
  by_cases h1 : (n : Int) ≤ i
  · have HV : Hid (atF n (fP ws n) i = 0) := Lib.hid (by unfold atF hasF; rw [decide_eq_false (by omega)]; rfl)
    clear hn ha hw
    go_enter Try.func51, Try.ntmps51
    go_wp2_with fail
    go_ret
    exact ⟨by rw [HV.out]; rfl, rfl⟩
  obtain ⟨k, rfl⟩ : ∃ k : Nat, i = k := ⟨i.toNat, by omega⟩
  have HV : Hid (atF n (fP ws n) k = (sumW ws k : Nat)) := Lib.hid (by unfold atF hasF; rw [decide_eq_true (by omega), if_pos rfl, Int.toNat_natCast]; unfold fP; rw [if_pos (by omega)])
  have hk : k < n := by omega
  clear hn ha hw
  go_enter Try.func51, Try.ntmps51
  go_wp2_with fail
  go_loop [5, 6] (fun v i => ∃ j : Nat, j ≤ k ∧ i = .int .i64 (j : Int) ∧ v = .int .i64 (sumW ws j : Nat)) (fun _ i => k - (intOf i).toNat)
  case atStart => exact ⟨0, Nat.zero_le _, rfl, rfl⟩
  case round =>
    obtain ⟨j, hj, rfl, rfl⟩ := hrel
    by_cases hlt : j < k
    · have hjw : j < ws.length := by have := HN.out; omega
      obtain ⟨b, off, rfl, hlt0, hc⟩ : ∃ b off, p = some ⟨b, off, none⟩ ∧ b < w.heap.size ∧ ∀ i, i < ws.length → w.cell? ⟨b, off + i, none⟩ = some (.int .i64 (ws.getD i 0)) := by
        rcases HW.out with h | h
        · omega
        · exact h
      have hcj := hc j hjw
      have hb := w_bound HA.out hjw
      have hs := sumW_le (take_all HA.out j) (by omega)
      have HS := Lib.hid (sum_step HA.out hjw)
      clear hc
      generalize ws.getD j 0 = g at *
      go_wp2_with fail
      go_round
      case rel => exact ⟨j + 1, by omega, by go_num, by rw [HS.out]⟩
      case measure => simp [intOf]; omega
    · have hje : j = k := by omega
      go_wp2_with fail
      go_ret
      exact ⟨by rw [HV.out]; rfl, rfl⟩
end Go.Proofs.Ytolkggpamgjaiaa.Bt
