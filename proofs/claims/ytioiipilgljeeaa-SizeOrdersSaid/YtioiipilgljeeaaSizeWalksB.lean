/- The contracts of Up, Pages, Order, Span, the program's and the document's: each returns what the plain functions of SizeMath give, and leaves the world as it was, but for draws. -/
import Derived.Test.YtioiipilgljeeaaSizeWalksA
namespace Go.Proofs.Ytioiipilgljeeaa.Sz
open Go Go.RowKit

theorem up_calls (n a : Int) (w : World) : Calls Try.prog 12 #[.int .i64 n, .int .i64 a] w fun e w' => e = .returned (.tuple #[.int .i64 (upV n a), .bool (upB n a)]) ∧ w = w' := by
  unfold upV upB
  cases hs : isSz n with
  | false =>
    have HS := Lib.hid hs; clear hs
    go_enter Try.func12, Try.ntmps12
    go_wp2_with (go_at_call 39; refine (isSize_any _ _).mono ?_; rw [HS.out]; rintro e w' ⟨rfl, rfl⟩)
    go_ret2
    exact ⟨rfl, rfl⟩
  | true =>
    cases ha : wholeB a with
    | false =>
      have HS := Lib.hid hs; clear hs
      have HA := Lib.hid ha; clear ha
      go_enter Try.func12, Try.ntmps12
      go_wp2_with (first | (go_at_call 39; refine (isSize_any _ _).mono ?_; rw [HS.out]; rintro e w' ⟨rfl, rfl⟩) | (go_at_call 16; refine (whole_any _ _).mono ?_; rw [HA.out]; rintro e w' ⟨rfl, rfl⟩))
      go_ret2
      exact ⟨rfl, rfl⟩
    | true =>
      have hr := wholeB_range ha
      have hn := isSz_true hs
      obtain ⟨b1, b2, _, _⟩ := up_bd hs ha
      have HS := Lib.hid hs; clear hs
      have HA := Lib.hid ha; clear ha
      go_enter Try.func12, Try.ntmps12
      go_wp2_with (first | (go_at_call 39; refine (isSize_any _ _).mono ?_; rw [HS.out]; rintro e w' ⟨rfl, rfl⟩) | (go_at_call 16; refine (whole_any _ _).mono ?_; rw [HA.out]; rintro e w' ⟨rfl, rfl⟩))
      go_ret2
      exact ⟨rfl, rfl⟩

theorem refUp_calls (n a : Int) (w : World) : Calls Try.prog 13 #[.int .i64 n, .int .i64 a] w fun e w' => e = .returned (.tuple #[.int .i64 (upV n a), .bool (upB n a)]) ∧ w = w' := by
  unfold upV upB
  cases hs : isSz n with
  | false =>
    have HS := Lib.hid hs; clear hs
    go_enter Try.func13, Try.ntmps13
    go_wp2_with (go_at_call 40; refine (is_any _ _).mono ?_; rw [HS.out]; rintro e w' ⟨rfl, rfl⟩)
    go_ret2
    exact ⟨rfl, rfl⟩
  | true =>
    cases ha : wholeB a with
    | false =>
      have HS := Lib.hid hs; clear hs
      have HA := Lib.hid ha; clear ha
      go_enter Try.func13, Try.ntmps13
      go_wp2_with (first | (go_at_call 40; refine (is_any _ _).mono ?_; rw [HS.out]; rintro e w' ⟨rfl, rfl⟩) | (go_at_call 17; refine (refWhole_any _ _).mono ?_; rw [HA.out]; rintro e w' ⟨rfl, rfl⟩))
      go_ret2
      exact ⟨rfl, rfl⟩
    | true =>
      have hr := wholeB_range ha
      have hn := isSz_true hs
      have hm : 0 ≤ n % a ∧ n % a < a := ⟨Int.emod_nonneg _ (by omega), Int.emod_lt_of_pos _ (by omega)⟩
      by_cases hz : n % a = 0
      · have HR := Lib.hid (up_ref0 hs ha hz)
        have hze : (n % a == 0) = true := beq_iff_eq.2 hz
        have HS := Lib.hid hs; clear hs
        have HA := Lib.hid ha; clear ha
        clear hz
        go_enter Try.func13, Try.ntmps13
        go_wp2_with (first | (go_at_call 40; refine (is_any _ _).mono ?_; rw [HS.out]; rintro e w' ⟨rfl, rfl⟩) | (go_at_call 17; refine (refWhole_any _ _).mono ?_; rw [HA.out]; rintro e w' ⟨rfl, rfl⟩))
        go_ret2
        exact ⟨by simp [HR.out], rfl⟩
      · have HR := Lib.hid (up_ref1 hs ha hz)
        have hze : (n % a == 0) = false := beq_eq_false_iff_ne.2 hz
        have hle : n % a ≤ n := by
          have e1 := Int.emod_add_mul_ediv n a
          have e2 := Int.mul_nonneg (show 0 ≤ a by omega) (Int.ediv_nonneg hn.1 (show 0 ≤ a by omega))
          omega
        have HS := Lib.hid hs; clear hs
        have HA := Lib.hid ha; clear ha
        clear hz
        go_enter Try.func13, Try.ntmps13
        go_wp2_with (first | (go_at_call 40; refine (is_any _ _).mono ?_; rw [HS.out]; rintro e w' ⟨rfl, rfl⟩) | (go_at_call 17; refine (refWhole_any _ _).mono ?_; rw [HA.out]; rintro e w' ⟨rfl, rfl⟩))
        go_ret2
        exact ⟨by simp [HR.out], rfl⟩

theorem pages_calls (n : Int) (w : World) : Calls Try.prog 14 #[.int .i64 n] w fun e w' => e = .returned (.tuple #[.int .i64 (pgV n), .bool (isSz n)]) ∧ w = w' := by
  have hb : 0 ≤ upV n 4096 ∧ upV n 4096 ≤ 4294967296 := by
    unfold upV
    cases hs : isSz n with
    | false => simp
    | true => have := isSz_true hs; have hw : wholeB 4096 = true := by decide
              rw [hw]; simp; omega
  have HE : Hid (upV n 4096 / 4096 = pgV n) := by
    refine Lib.hid ?_
    unfold upV pgV
    cases hs : isSz n with
    | false => simp
    | true => have := isSz_true hs; have hw : wholeB 4096 = true := by decide
              rw [hw]; simp; omega
  have HB : Hid (upB n 4096 = isSz n) := by
    refine Lib.hid ?_
    unfold upB; have hw : wholeB 4096 = true := by decide
    rw [hw]; simp
  go_enter Try.func14, Try.ntmps14
  go_wp2_with (go_at_call 12; refine (up_calls _ _ _).mono ?_; rintro e w' ⟨rfl, rfl⟩)
  go_ret2
  exact ⟨by simp [HE.out, HB.out], rfl⟩

theorem refPages_calls (n : Int) (w : World) : Calls Try.prog 15 #[.int .i64 n] w fun e w' => e = .returned (.tuple #[.int .i64 (pgV n), .bool (isSz n)]) ∧ w = w' := by
  unfold pgV
  cases hs : isSz n with
  | false =>
    have HS := Lib.hid hs; clear hs
    go_enter Try.func15, Try.ntmps15
    go_wp2_with (go_at_call 40; refine (is_any _ _).mono ?_; rw [HS.out]; rintro e w' ⟨rfl, rfl⟩)
    go_ret2
    exact ⟨rfl, rfl⟩
  | true =>
    have hn := isSz_true hs
    have HS := Lib.hid hs; clear hs
    by_cases hz : 0 < n % 4096
    · have HR : Hid ((n + 4095) / 4096 = n / 4096 + 1) := Lib.hid (by omega)
      go_enter Try.func15, Try.ntmps15
      go_wp2_with (go_at_call 40; refine (is_any _ _).mono ?_; rw [HS.out]; rintro e w' ⟨rfl, rfl⟩)
      go_ret2
      exact ⟨by simp [HR.out], rfl⟩
    · have HR : Hid ((n + 4095) / 4096 = n / 4096) := Lib.hid (by omega)
      go_enter Try.func15, Try.ntmps15
      go_wp2_with (go_at_call 40; refine (is_any _ _).mono ?_; rw [HS.out]; rintro e w' ⟨rfl, rfl⟩)
      go_ret2
      exact ⟨by simp [HR.out], rfl⟩
end Go.Proofs.Ytioiipilgljeeaa.Sz
