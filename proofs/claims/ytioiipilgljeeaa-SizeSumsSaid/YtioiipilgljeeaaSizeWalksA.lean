/- The contracts of isSize, Is, Whole (both), Up (both), Pages (both): each returns what the plain functions of SizeMath give, and leaves the world as it was. No condition but that the integers fit their kind. -/
import Derived.Test.YtioiipilgljeeaaRows
import Derived.Test.YtioiipilgljeeaaSizeMath
import Derived.WalkKit
import Derived.BigQuiet
import Derived.Deep.QuietTactic
import Derived.Lib.Hide
import Derived.Outline
namespace Go.Proofs.Ytioiipilgljeeaa.Sz
open Go Go.RowKit

theorem isSize_any (n : Int) (w : World) : Calls Try.prog 39 #[.int .i64 n] w fun e w' => e = .returned (.bool (isSz n)) ∧ w = w' := by
  by_cases h : 0 ≤ n
  · by_cases h2 : n ≤ 4294967296
    · rw [isSz_mk ⟨h, h2⟩]
      go_enter Try.func39, Try.ntmps39
      go_wp2
      go_ret
      exact ⟨rfl, rfl⟩
    · rw [isSz_no (by omega)]
      go_enter Try.func39, Try.ntmps39
      go_wp2
      go_ret
      exact ⟨rfl, rfl⟩
  · rw [isSz_no (by omega)]
    go_enter Try.func39, Try.ntmps39
    go_wp2
    go_ret
    exact ⟨rfl, rfl⟩

theorem is_any (n : Int) (w : World) : Calls Try.prog 40 #[.int .i64 n] w fun e w' => e = .returned (.bool (isSz n)) ∧ w = w' := by
  by_cases h : 0 ≤ n
  · by_cases h2 : n ≤ 4294967296
    · rw [isSz_mk ⟨h, h2⟩]
      go_enter Try.func40, Try.ntmps40
      go_wp2
      go_ret
      exact ⟨rfl, rfl⟩
    · rw [isSz_no (by omega)]
      go_enter Try.func40, Try.ntmps40
      go_wp2
      go_ret
      exact ⟨rfl, rfl⟩
  · rw [isSz_no (by omega)]
    go_enter Try.func40, Try.ntmps40
    go_wp2
    go_ret
    exact ⟨rfl, rfl⟩

theorem whole_any (a : Int) (w : World) : Calls Try.prog 16 #[.int .i64 a] w fun e w' => e = .returned (.bool (wholeB a)) ∧ w = w' := by
  by_cases h1 : 1 ≤ a
  · by_cases h2 : a ≤ 4096
    · rw [← whole_bits a h1 h2]
      go_enter Try.func16, Try.ntmps16
      go_wp2
      go_ret
      exact ⟨rfl, rfl⟩
    · rw [whole_no a (by omega)]
      go_enter Try.func16, Try.ntmps16
      go_wp2
      go_ret
      exact ⟨rfl, rfl⟩
  · rw [whole_no a (by omega)]
    go_enter Try.func16, Try.ntmps16
    go_wp2
    go_ret
    exact ⟨rfl, rfl⟩

theorem refWhole_any (a : Int) (w : World) : Calls Try.prog 17 #[.int .i64 a] w fun e w' => e = .returned (.bool (wholeB a)) ∧ w = w' := by
  go_enter Try.func17, Try.ntmps17
  go_wp2
  go_loop [3] (fun k => ∃ j : Nat, j ≤ 13 ∧ (∀ i, i < j → pw i ≠ a) ∧ k = .int .i64 (pw j)) (fun k => (8192 - intOf k).toNat)
  case atStart => exact ⟨0, by omega, fun i hi => by omega, rfl⟩
  case round =>
    obtain ⟨j, hj, hn, rfl⟩ := hrel
    have HN := Lib.hid hn; clear hn
    have hp := pw_pos j
    by_cases hlt : j < 13
    · have hm := pw_mono (show j ≤ 12 by omega)
      have h12 : pw 12 ≤ 4096 := by rw [pw_12]; omega
      by_cases he : pw j = a
      · have hw := wholeB_pw j (by omega)
        rw [he] at hw
        have HW := Lib.hid hw; clear hw
        have hle : pw j ≤ 4096 := by omega
        have hbe : (pw j == a) = true := beq_iff_eq.2 he
        clear he
        go_wp2
        go_ret
        exact ⟨by rw [HW.out]; rfl, rfl⟩
      · have hbe : (pw j == a) = false := beq_eq_false_iff_ne.2 he
        have hle : pw j ≤ 4096 := by omega
        have hs : pw (j + 1) = 2 * pw j := pw_succ j
        have HS := Lib.hid hs; clear hs
        have HE := Lib.hid he; clear he
        go_wp2
        go_round
        case rel => exact ⟨j + 1, by omega, fun i hi => by
          by_cases hij : i = j
          · subst hij; exact HE.out
          · exact HN.out i (by omega), by rw [HS.out]⟩
        case measure => simp [intOf]; omega
    · have hj13 : j = 13 := by omega
      subst hj13
      have hw := wholeB_none a HN.out
      have HW := Lib.hid hw; clear hw
      have h13 : 8192 ≤ pw 13 := by rw [pw_13]; omega
      go_wp2
      go_ret
      exact ⟨by rw [HW.out]; rfl, rfl⟩
end Go.Proofs.Ytioiipilgljeeaa.Sz
