/- Of's refusals; a row of numbers that came in. -/
import Derived.Test.YtfappdiipflpfaaFdFm
namespace Go.Proofs.Ytfappdiipflpfaa.Bt
open Go Go.RowKit Go.Shelf
set_option linter.unusedVariables false
set_option linter.unusedSimpArgs false

theorem of_chk (p : Option Addr) (n c : Nat) (ws : List Int) (hn : n = ws.length) (hl : n ≤ 9223372036854775807) (w : World) (hw : WsAt w p ws) (hne : chkV ws ≠ 0) :
    Calls Try.prog 57 #[.slice p n c] w (Gives (.tuple #[.agg rec0, .int .i64 (chkV ws)]) w) := by
  unfold chkV at *
  by_cases h0 : n = 0
  · subst h0
    rw [if_pos (by omega)]; exact of_none p c w
  rw [if_neg (by omega)] at hne ⊢
  by_cases h32 : 32 < n
  · rw [if_pos (by omega)]; exact of_many p n c w h32 hl
  rw [if_neg (by omega)] at hne ⊢
  have ha : ¬ ws.all wOk = true := fun h => by rw [if_pos h] at hne; exact hne rfl
  rw [if_neg ha]
  have := of_in p n c ws hn (by omega) (by omega) w hw
  unfold okV at this
  rw [if_neg ha] at this
  exact this
theorem ws_of_row {w : World} {a : Option Addr} {len cap : Nat} {zs : List Int}
    (h : (a = none ∧ len = 0 ∧ cap = 0 ∧ zs = []) ∨ ∃ x, a = some x ∧ len ≤ cap ∧ cap ≤ maxLen ∧ zs.length = cap ∧ (∀ i, i < zs.length → w.cell? (x.add i) = some (.int .i64 (zs.getD i 0))) ∧ ∀ n ∈ zs, (Lit.int .i64 n).wf = true) :
    ∃ ws : List Int, len = ws.length ∧ len ≤ 9223372036854775807 ∧ WsAt w a ws := by
  rcases h with ⟨_, rfl, _, _⟩ | ⟨x, rfl, h1, h2, h3, h4, _⟩
  · exact ⟨[], rfl, by omega, .inl rfl⟩
  · unfold maxLen at h2
    refine ⟨zs.take len, by rw [List.length_take]; omega, by omega, ?_⟩
    by_cases h0 : len = 0
    · subst h0; exact .inl rfl
    · have k0 := h4 0 (by omega)
      obtain ⟨b, off, spot⟩ := x
      have hspot : spot = none := by simpa [Addr.add] using World.cell?_spot k0
      subst hspot
      have eA : ∀ j, (⟨b, off, none⟩ : Addr).add j = ⟨b, off + j, none⟩ := fun j => by
        simp only [Addr.add]; split <;> simp_all
      refine .inr ⟨b, off, rfl, World.block_lt_of_cell? _ _ k0, fun i hi => ?_⟩
      rw [List.length_take] at hi
      have := h4 i (by omega)
      rw [eA] at this
      rw [this, List.getD_eq_getElem?_getD, List.getD_eq_getElem?_getD, List.getElem?_take, if_pos (by omega)]
end Go.Proofs.Ytfappdiipflpfaa.Bt
