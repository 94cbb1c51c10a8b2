/- The document's functions on tags: Pages, Get. -/

import Derived.Test.YtglfllnemenhnaaTgF
namespace Go.Proofs.Ytglfllnemenhnaa.Bt
open Go Go.RowKit Go.Shelf
set_option linter.unusedVariables false
set_option linter.unusedSimpArgs false
set_option maxRecDepth 100000 in
theorem rpages_any (k : Nat) (hk : k ≤ 10) (w : World) :
    Calls Try.prog 92 #[.int .i64 (k : Int)] w fun e w' => e = .returned (.int .i64 ((2 ^ k : Nat) : Int)) ∧ w = w' := by
  go_enter Try.func92, Try.ntmps92
  go_wp2_with fail
  go_loop [3, 4] (fun v i => ∃ j : Nat, j ≤ k ∧ i = .int .i64 (j : Int) ∧ v = .int .i64 ((2 ^ j : Nat) : Int)) (fun _ i => k - (intOf i).toNat)
  case atStart => exact ⟨0, Nat.zero_le _, rfl, rfl⟩
  case round =>
    obtain ⟨j, hj, rfl, rfl⟩ := hrel
    by_cases hlt : j < k
    · have hp : 2 ^ j ≤ 2 ^ 10 := Nat.pow_le_pow_right (by decide) (by omega)
      have hs : 2 ^ (j + 1) = 2 * 2 ^ j := by rw [Nat.pow_succ]; omega
      obtain ⟨P, hP⟩ : ∃ P, 2 ^ j = P := ⟨_, rfl⟩
      rw [hP] at hp hs ⊢
      have HS := Lib.hid hs
      clear hP hs
      go_wp2_with fail
      go_round
      case rel => exact ⟨j + 1, by omega, by go_num, by rw [HS.out]; go_num⟩
      case measure => simp [intOf]; omega
    · have e : j = k := by omega
      subst e
      go_wp2_with fail
      go_ret
      exact ⟨rfl, rfl⟩
/-- a row of tags in a block of their own: of page k the state and the order -/
def TgAt (N n : Nat) (st od : Nat → Int) (w : World) : Prop :=
  N < w.heap.size ∧ ∀ k, k < n → w.cell? ⟨N, k * 2, none⟩ = some (.int .u8 (st k)) ∧ w.cell? ⟨N, k * 2 + 1, none⟩ = some (.int .u8 (od k))
theorem TgAt.below {N n : Nat} {st od : Nat → Int} {w w' : World} (h : TgAt N n st od w) (hb : Below w.heap.size w w') : TgAt N n st od w' :=
  ⟨Nat.lt_of_lt_of_le h.1 hb.size, fun k hk => ⟨(hb.cell (p := ⟨N, k * 2, none⟩) h.1).trans (h.2 k hk).1, (hb.cell (p := ⟨N, k * 2 + 1, none⟩) h.1).trans (h.2 k hk).2⟩⟩
set_option maxRecDepth 100000 in
theorem rget_in (N n : Nat) (hn : n ≤ 2000) (st od : Nat → Int) (k : Nat) (hk : k < n) (w : World) (h : TgAt N n st od w) :
    Calls Try.prog 93 #[.slice (some ⟨N, 0, none⟩) n n, .int .i64 (k : Int)] w
      (Gives (.tuple #[.agg #[.int .u8 (st k), .int .u8 (od k)], .int .i64 0]) w) := by
  obtain ⟨h1, h2⟩ := h.2 k hk
  have hlt := h.1
  have d1 : decide ((k : Int) < 0) = false := by simp
  have d2 : decide ((n : Int) ≤ (k : Int)) = false := by simp; omega
  clear h
  go_enter Try.func93, Try.ntmps93
  go_wp2_with fail
  have hn0 := heap_new w (.cells #[.int .u8 (st k), .int .u8 (od k)] 156)
  have g0 := (cell_blk hn0 0).1; have g1 := (cell_blk hn0 1).1
  exact bodyPost_ret (v := .tuple #[.agg #[.int .u8 (st k), .int .u8 (od k)], .int .i64 0]) (by simp [results, Try.results93, go_sem, g0, g1]) rfl ⟨rfl, bel1 _ _⟩
set_option maxRecDepth 100000 in
theorem rget_out (N n : Nat) (hn : n ≤ 2000) (i : Int) (hi : i < 0 ∨ (n : Int) ≤ i) (w : World) :
    Calls Try.prog 93 #[.slice (some ⟨N, 0, none⟩) n n, .int .i64 i] w
      (Gives (.tuple #[.agg #[.int .u8 0, .int .u8 0], .int .i64 3]) w) := by
  have hd : decide (i < 0) = true ∨ (decide (i < 0) = false ∧ decide ((n : Int) ≤ i) = true) := by simp; omega
  clear hi
  rcases hd with d1 | ⟨d1, d2⟩
  all_goals
    go_enter Try.func93, Try.ntmps93
    go_wp2_with fail
    have hn0 := heap_new w (.cells #[.int .u8 0, .int .u8 0] 156)
    have g0 := (cell_blk hn0 0).1; have g1 := (cell_blk hn0 1).1
    exact bodyPost_ret (v := .tuple #[.agg #[.int .u8 0, .int .u8 0], .int .i64 3]) (by simp [results, Try.results93, go_sem, g0, g1]) rfl ⟨rfl, bel1 _ _⟩
end Go.Proofs.Ytglfllnemenhnaa.Bt
