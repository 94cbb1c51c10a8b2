/- The contracts of Order and Span, the program's and the document's: each returns what the plain functions of SizeMath give, and leaves the world as it was. -/
import Derived.Test.YtioiipilgljeeaaSizeWalksB
namespace Go.Proofs.Ytioiipilgljeeaa.Sz
open Go Go.RowKit

theorem ord_hit (p : Int) (j : Nat) (hj : j ≤ 10) (h1 : 1 ≤ p) (hn : ∀ i, i < j → pw i < p) (hp : p ≤ pw j) : ordV p = j ∧ ordB p = true := by
  have hb : pw j ≤ 1024 := by rw [← pw_10]; exact pw_mono hj
  refine ⟨?_, by simp [ordB]; omega⟩
  have e : ∀ i, pw i = 2 ^ i := fun _ => rfl
  unfold ordV
  match j, hj with
  | 0, _ => have := e 0; simp at this; omega
  | 1, _ => have a := hn 0 (by omega); simp [e] at a hp; omega
  | 2, _ => have a := hn 1 (by omega); simp [e] at a hp; omega
  | 3, _ => have a := hn 2 (by omega); simp [e] at a hp; omega
  | 4, _ => have a := hn 3 (by omega); simp [e] at a hp; omega
  | 5, _ => have a := hn 4 (by omega); simp [e] at a hp; omega
  | 6, _ => have a := hn 5 (by omega); simp [e] at a hp; omega
  | 7, _ => have a := hn 6 (by omega); simp [e] at a hp; omega
  | 8, _ => have a := hn 7 (by omega); simp [e] at a hp; omega
  | 9, _ => have a := hn 8 (by omega); simp [e] at a hp; omega
  | 10, _ => have a := hn 9 (by omega); simp [e] at a hp; omega
  | n + 11, h => omega
theorem ord_none (p : Int) (hn : p < 1 ∨ ∀ i, i < 11 → pw i < p) : ordV p = 0 ∧ ordB p = false := by
  rcases hn with h | h
  · exact ⟨by unfold ordV; omega, by simp [ordB]; omega⟩
  · have a := h 10 (by omega)
    rw [pw_10] at a
    exact ⟨by unfold ordV; omega, by simp [ordB]; omega⟩

theorem order_calls (p : Int) (w : World) : Calls Try.prog 18 #[.int .i64 p] w fun e w' => e = .returned (.tuple #[.int .i64 (ordV p), .bool (ordB p)]) ∧ w = w' := by
  by_cases h1 : p < 1
  · obtain ⟨e1, e2⟩ := ord_none p (.inl h1)
    rw [e1, e2]; clear e1 e2
    go_enter Try.func18, Try.ntmps18
    go_wp2
    go_ret2
    exact ⟨rfl, rfl⟩
  · go_enter Try.func18, Try.ntmps18
    go_wp2
    go_loop [7] (fun k => ∃ j : Nat, j ≤ 11 ∧ (∀ i, i < j → pw i < p) ∧ k = .int .i64 j) (fun k => (11 - intOf k).toNat)
    case atStart => exact ⟨0, by omega, fun i hi => by omega, rfl⟩
    case round =>
      obtain ⟨j, hj, hn, rfl⟩ := hrel
      have HN := Lib.hid hn; clear hn
      by_cases hlt : j < 11
      · have hle : pw j ≤ 1024 := by rw [← pw_10]; exact pw_mono (by omega)
        have hp1 := pw_pos j
        have hw : wrap64 (2 ^ j) = pw j := IntWalk.wrap64_in (pw j) ⟨by omega, by omega⟩
        by_cases hp : p ≤ pw j
        · obtain ⟨e1, e2⟩ := ord_hit p j (by omega) (by omega) HN.out hp
          have E1 := Lib.hid e1; have E2 := Lib.hid e2; clear e1 e2
          go_wp2
          go_ret2
          exact ⟨by simp [E1.out, E2.out], rfl⟩
        · go_wp2
          go_round
          case rel => exact ⟨j + 1, by omega, fun i hi => by
            by_cases hij : i = j
            · subst hij; omega
            · exact HN.out i (by omega), by go_num⟩
          case measure => simp [intOf]; omega
      · obtain ⟨e1, e2⟩ := ord_none p (.inr fun i hi => HN.out i (by omega))
        have E1 := Lib.hid e1; have E2 := Lib.hid e2; clear e1 e2
        go_wp2
        go_ret2
        exact ⟨by simp [E1.out, E2.out], rfl⟩

theorem refOrder_calls (p : Int) (w : World) : Calls Try.prog 19 #[.int .i64 p] w fun e w' => e = .returned (.tuple #[.int .i64 (ordV p), .bool (ordB p)]) ∧ w = w' := by
  go_enter Try.func19, Try.ntmps19
  go_wp2
  go_loop [4, 5] (fun n k => ∃ j : Nat, j ≤ 11 ∧ (p < 1 ∨ ∀ i, i < j → pw i < p) ∧ k = .int .i64 j ∧ n = .int .i64 (pw j)) (fun _ k => (11 - intOf k).toNat)
  case atStart => exact ⟨0, by omega, .inr fun i hi => by omega, rfl, rfl⟩
  case round =>
    obtain ⟨j, hj, hn, rfl, rfl⟩ := hrel
    have HN := Lib.hid hn; clear hn
    have hs : pw (j + 1) = 2 * pw j := pw_succ j
    have HS := Lib.hid hs; clear hs
    by_cases hlt : j < 11
    · have hle : pw j ≤ 1024 := by rw [← pw_10]; exact pw_mono (by omega)
      have hp1 := pw_pos j
      by_cases h1 : p < 1
      · have hd : decide (1 ≤ p) = false := by simpa using h1
        go_wp2
        go_round
        case rel => exact ⟨j + 1, by omega, .inl h1, by go_num, by rw [HS.out]⟩
        case measure => simp [intOf]; omega
      · by_cases hp : p ≤ pw j
        · obtain ⟨e1, e2⟩ := ord_hit p j (by omega) (by omega) (HN.out.resolve_left h1) hp
          have E1 := Lib.hid e1; have E2 := Lib.hid e2; clear e1 e2
          go_wp2
          go_ret2
          exact ⟨by simp [E1.out, E2.out], rfl⟩
        · have HN2 := Lib.hid (HN.out.resolve_left h1)
          go_wp2
          go_round
          case rel => exact ⟨j + 1, by omega, .inr fun i hi => by
            by_cases hij : i = j
            · subst hij; omega
            · exact HN2.out i (by omega), by go_num, by rw [HS.out]⟩
          case measure => simp [intOf]; omega
    · obtain ⟨e1, e2⟩ := ord_none p (HN.out.imp id fun h i hi => h i (by omega))
      have E1 := Lib.hid e1; have E2 := Lib.hid e2; clear e1 e2
      go_wp2
      go_ret2
      exact ⟨by simp [E1.out, E2.out], rfl⟩

theorem span_zero {o : Int} (h : o < 0 ∨ 10 < o) : spanV o = 0 := by
  unfold spanV
  by_cases h1 : o < 0
  · simp [h1]
  · rw [if_neg h1, if_pos (by omega)]
theorem span_pw (j : Nat) (h : j ≤ 10) : spanV j = 4096 * pw j := by
  unfold spanV pw
  rw [if_neg (by omega), if_neg (by omega)]; simp

theorem span_calls (o : Int) (w : World) : Calls Try.prog 20 #[.int .i64 o] w fun e w' => e = .returned (.int .i64 (spanV o)) ∧ w = w' := by
  by_cases h1 : o < 0
  · rw [span_zero (.inl h1)]
    go_enter Try.func20, Try.ntmps20
    go_wp2
    go_ret
    exact ⟨rfl, rfl⟩
  · by_cases h2 : 10 < o
    · rw [span_zero (.inr h2)]
      go_enter Try.func20, Try.ntmps20
      go_wp2
      go_ret
      exact ⟨rfl, rfl⟩
    · obtain ⟨j, rfl⟩ := Int.eq_ofNat_of_zero_le (show 0 ≤ o by omega)
      rw [span_pw j (by omega)]
      have hle : pw j ≤ 1024 := by rw [← pw_10]; exact pw_mono (by omega)
      have hp1 := pw_pos j
      have hw : wrap64 (4096 * 2 ^ j) = 4096 * pw j := IntWalk.wrap64_in (4096 * pw j) ⟨by omega, by omega⟩
      go_enter Try.func20, Try.ntmps20
      go_wp2
      go_ret
      exact ⟨rfl, rfl⟩

theorem refSpan_calls (o : Int) (w : World) : Calls Try.prog 21 #[.int .i64 o] w fun e w' => e = .returned (.int .i64 (spanV o)) ∧ w = w' := by
  by_cases h1 : o < 0
  · rw [span_zero (.inl h1)]
    go_enter Try.func21, Try.ntmps21
    go_wp2
    go_ret
    exact ⟨rfl, rfl⟩
  · by_cases h2 : 10 < o
    · rw [span_zero (.inr h2)]
      go_enter Try.func21, Try.ntmps21
      go_wp2
      go_ret
      exact ⟨rfl, rfl⟩
    · obtain ⟨m, rfl⟩ := Int.eq_ofNat_of_zero_le (show 0 ≤ o by omega)
      have HM := Lib.hid (span_pw m (by omega))
      go_enter Try.func21, Try.ntmps21
      go_wp2
      go_loop [3, 4] (fun n k => ∃ j : Nat, j ≤ m ∧ k = .int .i64 j ∧ n = .int .i64 (4096 * pw j)) (fun _ k => (m - intOf k).toNat)
      case atStart => exact ⟨0, by omega, rfl, rfl⟩
      case round =>
        obtain ⟨j, hj, rfl, rfl⟩ := hrel
        have hs : pw (j + 1) = 2 * pw j := pw_succ j
        have HS := Lib.hid hs; clear hs
        have hp1 := pw_pos j
        have hle : pw j ≤ 1024 := by rw [← pw_10]; exact pw_mono (by omega)
        by_cases hlt : j < m
        · go_wp2
          go_round
          case rel => exact ⟨j + 1, by omega, by go_num, by rw [HS.out]; go_num⟩
          case measure => simp [intOf]; omega
        · obtain rfl : j = m := by omega
          go_wp2
          go_ret
          exact ⟨by rw [HM.out]; rfl, rfl⟩
end Go.Proofs.Ytioiipilgljeeaa.Sz
