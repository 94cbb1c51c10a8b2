/- The contracts of Sum, the program's and the document's, over any slice of integers, the nil one too: each returns what 'sumF' gives, and leaves the world as it was. -/
import Derived.Test.YtioiipilgljeeaaSizeWalksC
namespace Go.Proofs.Ytioiipilgljeeaa.Sz
open Go Go.RowKit

def sumF : Int → List Int → Option Int
  | t, [] => some t
  | t, x :: r => if isSz x && isSz (t + x) then sumF (t + x) r else none
def sumV (l : List Int) : Int := (sumF 0 l).getD 0
def sumB (l : List Int) : Bool := (sumF 0 l).isSome

theorem sum_end {t : Int} {l zs : List Int} (h : sumF 0 zs = sumF t l) (hl : l = []) : sumV zs = t ∧ sumB zs = true := by
  subst hl; unfold sumV sumB; rw [h]; simp [sumF]
theorem sum_bad {t x : Int} {zs : List Int} {k : Nat} (h : sumF 0 zs = sumF t (zs.drop k)) (hk : k < zs.length) (hx : zs.getD k 0 = x) (hb : ¬ (isSz x = true ∧ isSz (t + x) = true)) : sumV zs = 0 ∧ sumB zs = false := by
  have e : zs.drop k = x :: zs.drop (k + 1) := by
    rw [List.drop_eq_getElem_cons hk]; simp [List.getD_eq_getElem?_getD, List.getElem?_eq_getElem hk] at hx; rw [hx]
  have hf : sumF 0 zs = none := by
    rw [h, e, sumF, if_neg]; simpa using hb
  unfold sumV sumB; rw [hf]; simp
theorem sum_next {t x : Int} {zs : List Int} {k : Nat} (h : sumF 0 zs = sumF t (zs.drop k)) (hk : k < zs.length) (hx : zs.getD k 0 = x) (hb : isSz x = true ∧ isSz (t + x) = true) : sumF 0 zs = sumF (t + x) (zs.drop (k + 1)) := by
  have e : zs.drop k = x :: zs.drop (k + 1) := by
    rw [List.drop_eq_getElem_cons hk]; simp [List.getD_eq_getElem?_getD, List.getElem?_eq_getElem hk] at hx; rw [hx]
  rw [h, e, sumF, if_pos]; simpa using hb

theorem sum_calls (b off cap : Nat) (zs : List Int) (w : World) (hlen : zs.length ≤ 9223372036854775807)
    (hc : ∀ k, k < zs.length → w.cell? ⟨b, off + k, none⟩ = some (.int .i64 (zs.getD k 0))) :
    Calls Try.prog 22 #[.slice (some ⟨b, off, none⟩) zs.length cap] w fun e w' => e = .returned (.tuple #[.int .i64 (sumV zs), .bool (sumB zs)]) ∧ w = w' := by
  have HC := Lib.hid hc; clear hc
  go_enter Try.func22, Try.ntmps22
  go_wp2
  go_loop [4, 9] (fun t i => ∃ k : Nat, ∃ n : Int, k ≤ zs.length ∧ 0 ≤ n ∧ n ≤ 4294967296 ∧ sumF 0 zs = sumF n (zs.drop k) ∧ i = .int .i64 k ∧ t = .int .i64 n) (fun _ i => (zs.length - intOf i).toNat)
  case atStart => exact ⟨0, 0, by omega, by omega, by omega, rfl, rfl, rfl⟩
  case round =>
    obtain ⟨k, n, hk, hn0, hn1, hs, rfl, rfl⟩ := hrel
    have HS := Lib.hid hs; clear hs
    by_cases hlt : k < zs.length
    · obtain ⟨x, hx⟩ : ∃ x, zs.getD k 0 = x := ⟨_, rfl⟩
      have hcell : w.cell? ⟨b, off + k, none⟩ = some (.int .i64 x) := by rw [← hx]; exact HC.out k hlt
      have HX := Lib.hid hx; clear hx
      by_cases hneg : x < 0
      · obtain ⟨e1, e2⟩ := sum_bad HS.out hlt HX.out (fun h => by have := isSz_true h.1; omega)
        have E1 := Lib.hid e1; have E2 := Lib.hid e2; clear e1 e2
        go_wp2
        go_ret2
        exact ⟨by rw [E1.out, E2.out]; rfl, rfl⟩
      · by_cases hbig : 4294967296 - n < x
        · obtain ⟨e1, e2⟩ := sum_bad HS.out hlt HX.out (fun h => by have := isSz_true h.2; omega)
          have E1 := Lib.hid e1; have E2 := Lib.hid e2; clear e1 e2
          go_wp2
          go_ret2
          exact ⟨by rw [E1.out, E2.out]; rfl, rfl⟩
        · have hb : isSz x = true ∧ isSz (n + x) = true := ⟨isSz_mk (by omega), isSz_mk (by omega)⟩
          have HN := Lib.hid (sum_next HS.out hlt HX.out hb); clear hb
          go_wp2
          go_round
          case rel => exact ⟨k + 1, n + x, by omega, by omega, by omega, HN.out, by go_num, rfl⟩
          case measure => simp [intOf]; omega
    · obtain ⟨e1, e2⟩ := sum_end HS.out (List.drop_eq_nil_of_le (by omega))
      have E1 := Lib.hid e1; have E2 := Lib.hid e2; clear e1 e2
      go_wp2
      go_ret2
      exact ⟨by rw [E1.out, E2.out]; rfl, rfl⟩
theorem sum_nil (p : Option Addr) (cap : Nat) (w : World) : Calls Try.prog 22 #[.slice p 0 cap] w fun e w' => e = .returned (.tuple #[.int .i64 (sumV []), .bool (sumB [])]) ∧ w = w' := by
  go_enter Try.func22, Try.ntmps22
  go_wp2
  refine wp_loop_rounds 1 ?_; rw [rounds_succ]
  go_wp2
  go_ret2
  exact ⟨rfl, rfl⟩

theorem refSum_calls (b off cap : Nat) (zs : List Int) (w : World) (hlen : zs.length ≤ 9223372036854775807)
    (hc : ∀ k, k < zs.length → w.cell? ⟨b, off + k, none⟩ = some (.int .i64 (zs.getD k 0))) (hwf : ∀ k, k < zs.length → -9223372036854775808 ≤ zs.getD k 0 ∧ zs.getD k 0 ≤ 9223372036854775807) :
    Calls Try.prog 23 #[.slice (some ⟨b, off, none⟩) zs.length cap] w fun e w' => e = .returned (.tuple #[.int .i64 (sumV zs), .bool (sumB zs)]) ∧ w = w' := by
  have HC := Lib.hid hc; clear hc
  have HW := Lib.hid hwf; clear hwf
  go_enter Try.func23, Try.ntmps23
  go_wp2
  go_loop [4, 9] (fun t i => ∃ k : Nat, ∃ n : Int, k ≤ zs.length ∧ 0 ≤ n ∧ n ≤ 4294967296 ∧ sumF 0 zs = sumF n (zs.drop k) ∧ i = .int .i64 k ∧ t = .int .i64 n) (fun _ i => (zs.length - intOf i).toNat)
  case atStart => exact ⟨0, 0, by omega, by omega, by omega, rfl, rfl, rfl⟩
  case round =>
    obtain ⟨k, n, hk, hn0, hn1, hs, rfl, rfl⟩ := hrel
    have HS := Lib.hid hs; clear hs
    by_cases hlt : k < zs.length
    · obtain ⟨x, hx⟩ : ∃ x, zs.getD k 0 = x := ⟨_, rfl⟩
      have hcell : w.cell? ⟨b, off + k, none⟩ = some (.int .i64 x) := by rw [← hx]; exact HC.out k hlt
      have HX := Lib.hid hx; clear hx
      cases hz : isSz x with
      | false =>
        have HZ := Lib.hid hz; clear hz
        obtain ⟨e1, e2⟩ := sum_bad HS.out hlt HX.out (fun h => by have := h.1; rw [HZ.out] at this; simp at this)
        have E1 := Lib.hid e1; have E2 := Lib.hid e2; clear e1 e2
        go_wp2_with (go_at_call 40; refine (is_any _ _).mono ?_; rw [HZ.out]; rintro e w' ⟨rfl, rfl⟩)
        go_ret2
        exact ⟨by rw [E1.out, E2.out]; rfl, rfl⟩
      | true =>
        have hxb := isSz_true hz
        have HZ := Lib.hid hz; clear hz
        cases hz2 : isSz (n + x) with
        | false =>
          have HZ2 := Lib.hid hz2; clear hz2
          obtain ⟨e1, e2⟩ := sum_bad HS.out hlt HX.out (fun h => by have := h.2; rw [HZ2.out] at this; simp at this)
          have E1 := Lib.hid e1; have E2 := Lib.hid e2; clear e1 e2
          go_wp2_with fail
          refine (is_any _ _).mono ?_; rw [HZ.out]; rintro e w' ⟨rfl, rfl⟩
          go_wp2_with fail
          refine (is_any _ _).mono ?_; rw [HZ2.out]; rintro e w' ⟨rfl, rfl⟩
          go_wp2_with fail
          go_ret2
          exact ⟨by rw [E1.out, E2.out]; rfl, rfl⟩
        | true =>
          have hxn := isSz_true hz2
          have HN := Lib.hid (sum_next HS.out hlt HX.out ⟨HZ.out, hz2⟩)
          have HZ2 := Lib.hid hz2; clear hz2
          go_wp2_with fail
          refine (is_any _ _).mono ?_; rw [HZ.out]; rintro e w' ⟨rfl, rfl⟩
          go_wp2_with fail
          refine (is_any _ _).mono ?_; rw [HZ2.out]; rintro e w' ⟨rfl, rfl⟩
          go_wp2_with fail
          go_round
          case rel => exact ⟨k + 1, n + x, by omega, by omega, by omega, HN.out, by go_num, rfl⟩
          case measure => simp [intOf]; omega
    · obtain ⟨e1, e2⟩ := sum_end HS.out (List.drop_eq_nil_of_le (by omega))
      have E1 := Lib.hid e1; have E2 := Lib.hid e2; clear e1 e2
      go_wp2
      go_ret2
      exact ⟨by rw [E1.out, E2.out]; rfl, rfl⟩
theorem refSum_nil (p : Option Addr) (cap : Nat) (w : World) : Calls Try.prog 23 #[.slice p 0 cap] w fun e w' => e = .returned (.tuple #[.int .i64 (sumV []), .bool (sumB [])]) ∧ w = w' := by
  go_enter Try.func23, Try.ntmps23
  go_wp2
  refine wp_loop_rounds 1 ?_; rw [rounds_succ]
  go_wp2
  go_ret2
  exact ⟨rfl, rfl⟩
end Go.Proofs.Ytioiipilgljeeaa.Sz
