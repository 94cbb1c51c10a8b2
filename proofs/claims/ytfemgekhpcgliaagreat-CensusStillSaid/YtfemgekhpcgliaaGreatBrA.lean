/- The document's functions on a buddy: Pages, Own, commit, all. -/
import Derived.Test.YtfemgekhpcgliaaGreatBdV
import Derived.Test.YtfemgekhpcgliaaGreatBitsIter
namespace Go.Proofs.YtfemgekhpcgliaaGreat.Bt
open Go Go.RowKit Go.Shelf
set_option linter.unusedVariables false
set_option linter.unusedSimpArgs false
set_option maxRecDepth 100000 in
theorem bpages_any (k : Nat) (hk : k ≤ 10) (w : World) :
    Calls Tryz.prog 63 #[.int .i64 (k : Int)] w fun e w' => e = .returned (.int .i64 ((2 ^ k : Nat) : Int)) ∧ w = w' := by
  go_enter Tryz.func63, Tryz.ntmps63
  go_wp2_with fail
  go_loop [3, 4] (fun v i => ∃ j : Nat, j ≤ k ∧ i = .int .i64 (j : Int) ∧ v = .int .i64 ((2 ^ j : Nat) : Int)) (fun _ i => k - (intOf i).toNat)
  case atStart => exact ⟨0, Nat.zero_le _, rfl, rfl⟩
  case round =>
    obtain ⟨j, hj, rfl, rfl⟩ := hrel
    by_cases hlt : j < k
    · have hp : 2 ^ j ≤ 2 ^ 10 := Nat.pow_le_pow_right (by decide) (by omega)
      have hs : 2 ^ (j + 1) = 2 * 2 ^ j := by rw [Nat.pow_succ]; omega
      obtain ⟨P, hP⟩ : ∃ P, 2 ^ j = P := ⟨_, rfl⟩
      rw [hP] at hp hs ⊢
      have HS := Lib.hid hs
      clear hP hs
      go_wp2_with fail
      go_round
      case rel => exact ⟨j + 1, by omega, by go_num, by rw [HS.out]; go_num⟩
      case measure => simp [intOf]; omega
    · have e : j = k := by omega
      subst e
      go_wp2_with fail
      go_ret
      exact ⟨rfl, rfl⟩
theorem bown_any (n : Nat) (hn : n ≤ 80) (w : World) : Calls Tryz.prog 47 #[.int .i64 (n : Int)] w fun e w' => e = .returned (.int .i64 1) ∧ w = w' := by
  have h1 : Int.tmod (256 + (n : Int)) 4096 = 256 + n := by rw [Int.tmod_eq_of_lt (by omega) (by omega)]
  have h2 : Int.tdiv (256 + (n : Int)) 4096 = 0 := Int.tdiv_eq_zero_of_lt (by omega) (by omega)
  have h3 : IntKind.i64.wrap (256 + (n : Int)) = 256 + n := by rw [IntKind.wrap_i64]; omega
  go_enter Tryz.func47, Tryz.ntmps47
  go_wp2_with fail
  go_ret
  exact ⟨by simp, rfl⟩
/-- a buddy as the document has it -/
abbrev bqV (o p g r : Int) (T : Value) : Value := .agg #[.int .i64 o, .int .i64 p, .int .i64 g, .int .i64 r, T]
def comR (r : Int) : Int := if r = 0 then -1 else if 0 < r then r - 1 else r
def comE (r : Int) : Int := if r = 0 then 4 else 0
set_option maxRecDepth 100000 in
theorem bcommit_any (o p g r : Int) (tp : Option Addr) (tn tc : Nat) (hr : r ≤ 9223372036854775807) (w : World) :
    Calls Tryz.prog 48 #[bqV o p g r (.slice tp tn tc)] w fun e w' => e = .returned (.tuple #[bqV o p g (comR r) (.slice tp tn tc), .int .i64 (comE r)]) ∧ Below w.heap.size w w' := by
  unfold comR comE
  by_cases h0 : r = 0
  · subst h0
    go_enter Tryz.func48, Tryz.ntmps48
    go_wp2_with fail
    have hn0 := heap_new (w.alloc (.cells #[.int .i64 o, .int .i64 p, .int .i64 g, .int .i64 (-1), .slice tp tn tc] 33)) (.cells #[.int .i64 o, .int .i64 p, .int .i64 g, .int .i64 (-1), .slice tp tn tc] 33)
    have g0 := (cell_blk hn0 0).1; have g1 := (cell_blk hn0 1).1; have g2 := (cell_blk hn0 2).1; have g3 := (cell_blk hn0 3).1; have g4 := (cell_blk hn0 4).1
    exact bodyPost_ret (v := .tuple #[bqV o p g (-1) (.slice tp tn tc), .int .i64 4]) (by simp at g0 g1 g2 g3 g4; simp [results, Tryz.results48, go_sem, g0, g1, g2, g3, g4]) rfl ⟨rfl, ((Below.refl _ _).alloc (Nat.le_refl _) _).alloc (by simp) _⟩
  · by_cases h1 : 0 < r
    · rw [if_neg h0, if_pos h1, if_neg h0]
      have hw : IntKind.i64.wrap (r - 1) = r - 1 := by rw [IntKind.wrap_i64]; omega
      go_enter Tryz.func48, Tryz.ntmps48
      go_wp2_with fail
      have hn0 := heap_new (w.alloc (.cells #[.int .i64 o, .int .i64 p, .int .i64 g, .int .i64 (r - 1), .slice tp tn tc] 33)) (.cells #[.int .i64 o, .int .i64 p, .int .i64 g, .int .i64 (r - 1), .slice tp tn tc] 33)
      have g0 := (cell_blk hn0 0).1; have g1 := (cell_blk hn0 1).1; have g2 := (cell_blk hn0 2).1; have g3 := (cell_blk hn0 3).1; have g4 := (cell_blk hn0 4).1
      exact bodyPost_ret (v := .tuple #[bqV o p g (r - 1) (.slice tp tn tc), .int .i64 0]) (by simp at g0 g1 g2 g3 g4; simp [results, Tryz.results48, go_sem, g0, g1, g2, g3, g4]) rfl ⟨rfl, ((Below.refl _ _).alloc (Nat.le_refl _) _).alloc (by simp) _⟩
    · rw [if_neg h0, if_neg h1, if_neg h0]
      go_enter Tryz.func48, Tryz.ntmps48
      go_wp2_with fail
      have hn0 := heap_new (w.alloc (.cells #[.int .i64 o, .int .i64 p, .int .i64 g, .int .i64 (r), .slice tp tn tc] 33)) (.cells #[.int .i64 o, .int .i64 p, .int .i64 g, .int .i64 (r), .slice tp tn tc] 33)
      have g0 := (cell_blk hn0 0).1; have g1 := (cell_blk hn0 1).1; have g2 := (cell_blk hn0 2).1; have g3 := (cell_blk hn0 3).1; have g4 := (cell_blk hn0 4).1
      exact bodyPost_ret (v := .tuple #[bqV o p g (r) (.slice tp tn tc), .int .i64 0]) (by simp at g0 g1 g2 g3 g4; simp [results, Tryz.results48, go_sem, g0, g1, g2, g3, g4]) rfl ⟨rfl, ((Below.refl _ _).alloc (Nat.le_refl _) _).alloc (by simp) _⟩
end Go.Proofs.YtfemgekhpcgliaaGreat.Bt
