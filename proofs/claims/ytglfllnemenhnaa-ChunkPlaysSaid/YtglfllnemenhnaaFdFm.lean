/- The document's answers on widths. -/
import Derived.Test.YtglfllnemenhnaaFdE
namespace Go.Proofs.Ytglfllnemenhnaa.Bt
open Go Go.RowKit Go.Shelf
set_option linter.unusedVariables false
set_option linter.unusedSimpArgs false

def chkV (ws : List Int) : Int := if ws.length = 0 then 17 else if 32 < ws.length then 15 else if ws.all wOk then 0 else 2
theorem all_not {ws : List Int} {j : Nat} (hj : j < ws.length) (h : wOk (ws.getD j 0) = false) : ws.all wOk = false := by
  rw [Bool.eq_false_iff]
  intro hall
  rw [List.all_eq_true] at hall
  have := hall (ws.getD j 0) (by rw [List.getD_eq_getElem?_getD, List.getElem?_eq_getElem hj]; exact List.getElem_mem hj)
  rw [h] at this; cases this
set_option maxRecDepth 100000 in
theorem rchk_any (p : Option Addr) (n c : Nat) (ws : List Int) (hn : n = ws.length) (hl : n ≤ 9223372036854775807) (w : World) (hw : WsAt w p ws) :
    Calls Try.prog 20 #[.slice p n c] w fun e w' => e = .returned (.int .i64 (chkV ws)) ∧ w = w' := by
  by_cases h0 : n = 0
  · have HV : Hid (chkV ws = 17) := Lib.hid (by unfold chkV; rw [if_pos (by omega)])
    subst h0
    clear hn hw
    go_enter Try.func20, Try.ntmps20
    go_wp2_with fail
    go_ret
    exact ⟨by rw [HV.out]; rfl, rfl⟩
  by_cases h32 : 32 < n
  · have HV : Hid (chkV ws = 15) := Lib.hid (by unfold chkV; rw [if_neg (by omega), if_pos (by omega)])
    have d0 : ((n : Int) == 0) = false := by simp; omega
    have d1 : decide (32 < (n : Int)) = true := by simp; omega
    clear hn hw h32 h0
    go_enter Try.func20, Try.ntmps20
    go_wp2_with fail
    go_ret
    exact ⟨by rw [HV.out]; rfl, rfl⟩
  obtain ⟨b, off, rfl, hlt0, hc⟩ : ∃ b off, p = some ⟨b, off, none⟩ ∧ b < w.heap.size ∧ ∀ i, i < ws.length → w.cell? ⟨b, off + i, none⟩ = some (.int .i64 (ws.getD i 0)) := by
    rcases hw with h | h
    · omega
    · exact h
  have HV : Hid (chkV ws = if ws.all wOk then 0 else 2) := Lib.hid (by unfold chkV; rw [if_neg (by omega), if_neg (by omega)])
  have HCW := Lib.hid hc
  have HN := Lib.hid hn
  have d0 : ((n : Int) == 0) = false := by simp; omega
  have d1 : decide (32 < (n : Int)) = false := by simp; omega
  have hn32 : n ≤ 32 := by omega
  clear hn hc hw h32 h0
  go_enter Try.func20, Try.ntmps20
  go_wp2_with fail
  go_loop [13] (fun v => ∃ j : Nat, j ≤ n ∧ v = .int .i64 (j : Int) ∧ (ws.take j).all wOk = true) (fun v => n - (intOf v).toNat)
  case atStart => exact ⟨0, Nat.zero_le _, rfl, by simp⟩
  case round =>
    obtain ⟨j, hj, rfl, ha⟩ := hrel
    have HA := Lib.hid ha
    clear ha
    by_cases hlt : j < n
    · have hjw : j < ws.length := by have := HN.out; omega
      have hcj := HCW.out j hjw
      cases hok : wOk (ws.getD j 0) with
      | true =>
        have HOK := Lib.hid hok
        obtain ⟨g, hg⟩ : ∃ g, ws.getD j 0 = g := ⟨_, rfl⟩
        rw [hg] at hcj hok
        have h4 : g = 1 ∨ g = 2 ∨ g = 4 ∨ g = 8 := by unfold wOk at hok; simpa using hok
        clear hok hg
        rcases h4 with rfl | rfl | rfl | rfl
        all_goals
          go_wp2_with fail
          go_round
          case rel => exact ⟨j + 1, by omega, by go_num, take_all_succ HA.out hjw HOK.out⟩
          case measure => simp [intOf]; omega
      | false =>
        have HF := Lib.hid (all_not hjw hok)
        obtain ⟨g, hg⟩ : ∃ g, ws.getD j 0 = g := ⟨_, rfl⟩
        rw [hg] at hcj hok
        have h4 : ¬ g = 1 ∧ ¬ g = 2 ∧ ¬ g = 4 ∧ ¬ g = 8 := by unfold wOk at hok; simpa [not_or] using hok
        obtain ⟨k1, k2, k3, k4⟩ := h4
        have e1 : (g != 1) = true := by simpa using k1
        have e2 : (g != 2) = true := by simpa using k2
        have e3 : (g != 4) = true := by simpa using k3
        have e4 : (g != 8) = true := by simpa using k4
        clear hok hg k1 k2 k3 k4
        go_wp2_with fail
        go_ret
        exact ⟨by rw [HV.out, HF.out]; rfl, rfl⟩
    · have HT : Hid (ws.all wOk = true) := Lib.hid (by
        have := HA.out; rw [show j = ws.length by have := HN.out; omega, List.take_length] at this; exact this)
      go_wp2_with fail
      go_ret
      exact ⟨by rw [HV.out, HT.out]; rfl, rfl⟩
theorem w_bound {ws : List Int} (ha : ws.all wOk = true) {j : Nat} (hj : j < ws.length) : 1 ≤ ws.getD j 0 ∧ ws.getD j 0 ≤ 8 := by
  rw [List.all_eq_true] at ha
  have h2 := ha (ws.getD j 0) (by rw [List.getD_eq_getElem?_getD, List.getElem?_eq_getElem hj]; exact List.getElem_mem hj)
  have h4 : ws.getD j 0 = 1 ∨ ws.getD j 0 = 2 ∨ ws.getD j 0 = 4 ∨ ws.getD j 0 = 8 := by unfold wOk at h2; simpa using h2
  omega
theorem take_all {ws : List Int} (ha : ws.all wOk = true) (j : Nat) : (ws.take j).all wOk = true := by
  rw [List.all_eq_true] at ha ⊢
  exact fun x hx => ha x (List.take_subset _ _ hx)
theorem sum_step {ws : List Int} (ha : ws.all wOk = true) {j : Nat} (hj : j < ws.length) : ((sumW ws (j + 1) : Nat) : Int) = (sumW ws j : Nat) + ws.getD j 0 := by
  have := w_bound ha hj
  rw [sumW_succ ws j hj]; omega
end Go.Proofs.Ytglfllnemenhnaa.Bt
