/- The document's answers on widths. -/
import Derived.Test.YtdmaendhkenmgaaFdE
namespace Go.Proofs.Ytdmaendhkenmgaa.Bt
open Go Go.RowKit Go.Shelf
set_option linter.unusedVariables false
set_option linter.unusedSimpArgs false

def chkV (ws : List Int) : Int := if ws.length = 0 then 17 else if 32 < ws.length then 15 else if ws.all wOk then 0 else 2
theorem all_not {ws : List Int} {j : Nat} (hj : j < ws.length) (h : wOk (ws.getD j 0) = false) : ws.all wOk = false := by
  rw [Bool.eq_false_iff]
  intro hall
  rw [List.all_eq_true] at hall
  have := hall (ws.getD j 0) (by rw [List.getD_eq_getElem?_getD, List.getElem?_eq_getElem hj]; exact List.getElem_mem hj)
  rw [h] at this; cases this
theorem w_bound {ws : List Int} (ha : ws.all wOk = true) {j : Nat} (hj : j < ws.length) : 1 ≤ ws.getD j 0 ∧ ws.getD j 0 ≤ 8 := by
  rw [List.all_eq_true] at ha
  have h2 := ha (ws.getD j 0) (by rw [List.getD_eq_getElem?_getD, List.getElem?_eq_getElem hj]; exact List.getElem_mem hj)
  have h4 : ws.getD j 0 = 1 ∨ ws.getD j 0 = 2 ∨ ws.getD j 0 = 4 ∨ ws.getD j 0 = 8 := by unfold wOk at h2; simpa using h2
  omega
theorem take_all {ws : List Int} (ha : ws.all wOk = true) (j : Nat) : (ws.take j).all wOk = true := by
  rw [List.all_eq_true] at ha ⊢
  exact fun x hx => ha x (List.take_subset _ _ hx)
theorem sum_step {ws : List Int} (ha : ws.all wOk = true) {j : Nat} (hj : j < ws.length) : ((sumW ws (j + 1) : Nat) : Int) = (sumW ws j : Nat) + ws.getD j 0 := by
  have := w_bound ha hj
  rw [sumW_succ ws j hj]; omega
end Go.Proofs.Ytdmaendhkenmgaa.Bt
