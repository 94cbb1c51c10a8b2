/- The walks of awake and of the four laws of layer 1: for every input they return true, and make at most new memory. -/
import Derived.Test.YtioiipilgljeeaaSizeWalksD
import Derived.Below
namespace Go.Proofs.Ytioiipilgljeeaa.Sz
open Go Go.RowKit

theorem awake_calls (w : World) : Calls Try.prog 11 #[] w fun e w' => e = .returned (.bool true) ∧ Below w.heap.size w w' := by
  have u1 : upV 17 16 = 32 := by decide
  have u2 : upB 17 16 = true := by decide
  have u3 : pgV 4097 = 2 := by decide
  have u4 : isSz 4097 = true := by decide
  have u5 : ordV 5 = 3 := by decide
  have u6 : ordB 5 = true := by decide
  have u7 : sumV [1, 2, 3] = 6 := by decide
  have u8 : sumB [1, 2, 3] = true := by decide
  go_enter Try.func11, Try.ntmps11
  go_wp2_with fail
  refine (up_calls _ _ _).mono ?_; rintro e w' ⟨rfl, rfl⟩
  go_wp2_with fail
  refine (pages_calls _ _).mono ?_; rintro e w' ⟨rfl, rfl⟩
  go_wp2_with fail
  refine (order_calls _ _).mono ?_; rintro e w' ⟨rfl, rfl⟩
  go_wp2_with fail
  refine (sum_calls w.heap.size 0 3 [1, 2, 3] _ (by decide) (fun k hk => by
    match k, hk with
    | 0, _ => simp
    | 1, _ => simp
    | 2, _ => simp
    | n + 3, hk => simp at hk; omega)).mono ?_
  rintro e w' ⟨rfl, rfl⟩
  go_wp2_with fail
  go_ret
  exact ⟨rfl, (Below.refl _ _).alloc (Nat.le_refl _) _⟩

def Tr (w : World) (e : Ending) (w' : World) : Prop := e = .returned (.bool true) ∧ Below w.heap.size w w'

theorem ups_walk (a0 : Int) (a1 : Int) (w : World) :
    Calls Try.prog 3 #[.int .i64 a0, .int .i64 a1] w (Tr w) := by
  go_enter Try.func3, Try.ntmps3
  go_wp2_with fail
  refine (awake_calls _).mono ?_; rintro e w1 ⟨rfl, hg⟩
  go_wp2_with fail
  refine (up_calls _ _ _).mono ?_; rintro e w' ⟨rfl, rfl⟩
  go_wp2_with fail
  refine (refUp_calls _ _ _).mono ?_; rintro e w' ⟨rfl, rfl⟩
  go_wp2_with fail
  refine (pages_calls _ _).mono ?_; rintro e w' ⟨rfl, rfl⟩
  go_wp2_with fail
  refine (refPages_calls _ _).mono ?_; rintro e w' ⟨rfl, rfl⟩
  go_wp2_with fail
  refine (whole_any _ _).mono ?_; rintro e w' ⟨rfl, rfl⟩
  go_wp2_with fail
  refine (refWhole_any _ _).mono ?_; rintro e w' ⟨rfl, rfl⟩
  go_wp2_with fail
  go_ret
  exact ⟨rfl, hg⟩

theorem orders_walk (a0 : Int) (a1 : Int) (w : World) :
    Calls Try.prog 4 #[.int .i64 a0, .int .i64 a1] w (Tr w) := by
  go_enter Try.func4, Try.ntmps4
  go_wp2_with fail
  refine (awake_calls _).mono ?_; rintro e w1 ⟨rfl, hg⟩
  go_wp2_with fail
  refine (order_calls _ _).mono ?_; rintro e w' ⟨rfl, rfl⟩
  go_wp2_with fail
  refine (refOrder_calls _ _).mono ?_; rintro e w' ⟨rfl, rfl⟩
  go_wp2_with fail
  refine (span_calls _ _).mono ?_; rintro e w' ⟨rfl, rfl⟩
  go_wp2_with fail
  refine (refSpan_calls _ _).mono ?_; rintro e w' ⟨rfl, rfl⟩
  go_wp2_with fail
  go_ret
  exact ⟨rfl, hg⟩

theorem sums_long (a : Value) (cap : Nat) (len : Nat) (h : ¬ len ≤ 100) (ha : ∃ p, a = .slice p len cap) (w : World) :
    Calls Try.prog 5 #[a] w (Tr w) := by
  obtain ⟨p, rfl⟩ := ha
  go_enter Try.func5, Try.ntmps5
  go_wp2_with fail
  refine (awake_calls _).mono ?_; rintro e w1 ⟨rfl, hg⟩
  go_wp2_with fail
  go_ret
  exact ⟨rfl, hg⟩
theorem sums_short (b off cap : Nat) (zs : List Int) (w : World) (hlen : zs.length ≤ 100)
    (hb : zs.length ≠ 0 → b < w.heap.size) (hc : ∀ k, k < zs.length → w.cell? ⟨b, off + k, none⟩ = some (.int .i64 (zs.getD k 0))) (hwf : ∀ k, k < zs.length → -9223372036854775808 ≤ zs.getD k 0 ∧ zs.getD k 0 ≤ 9223372036854775807) :
    Calls Try.prog 5 #[.slice (some ⟨b, off, none⟩) zs.length cap] w (Tr w) := by
  have HC := Lib.hid hc; clear hc
  have HW := Lib.hid hwf; clear hwf
  go_enter Try.func5, Try.ntmps5
  go_wp2_with fail
  refine (awake_calls _).mono ?_; rintro e w1 ⟨rfl, hg⟩
  have HC1 : Hid (∀ k, k < zs.length → w1.cell? ⟨b, off + k, none⟩ = some (.int .i64 (zs.getD k 0))) :=
    Lib.hid fun k hk => by
      rw [hg.cell (p := ⟨b, off + k, none⟩) (hb (by omega))]; exact HC.out k hk
  go_wp2_with fail
  refine (sum_calls b off cap zs _ (by omega) HC1.out).mono ?_; rintro e w' ⟨rfl, rfl⟩
  go_wp2_with fail
  refine (refSum_calls b off cap zs _ (by omega) HC1.out HW.out).mono ?_; rintro e w' ⟨rfl, rfl⟩
  go_wp2_with fail
  go_ret
  exact ⟨rfl, hg⟩
theorem sums_nil (p : Option Addr) (cap : Nat) (w : World) :
    Calls Try.prog 5 #[.slice p 0 cap] w (Tr w) := by
  go_enter Try.func5, Try.ntmps5
  go_wp2_with fail
  refine (awake_calls _).mono ?_; rintro e w1 ⟨rfl, hg⟩
  go_wp2_with fail
  refine (sum_nil _ _ _).mono ?_; rintro e w' ⟨rfl, rfl⟩
  go_wp2_with fail
  refine (refSum_nil _ _ _).mono ?_; rintro e w' ⟨rfl, rfl⟩
  go_wp2_with fail
  go_ret
  exact ⟨rfl, hg⟩

theorem pg_bd {n : Int} (h : isSz n = true) : n ≤ pgV n * 4096 ∧ pgV n * 4096 ≤ n + 4095 ∧ 0 ≤ pgV n ∧ pgV n ≤ 1048576 := by
  have := isSz_true h
  unfold pgV; rw [h]; simp; omega

/-- of any pages: there is no order, and they are none, or too many; or there is one that is enough, the one below not -/
theorem ord_cases (p : Int) : (ordB p = false ∧ (p < 1 ∨ 1024 < p)) ∨ (ordB p = true ∧ ∃ j : Nat, j ≤ 10 ∧ ordV p = j ∧ p ≤ pw j ∧ (0 < j → pw (j - 1) < p)) := by
  by_cases h : 1 ≤ p ∧ p ≤ 1024
  · right
    have h10 : p ≤ pw 10 := by rw [pw_10]; omega
    have key : ∀ m, m ≤ 10 → p ≤ pw m → ∃ j, j ≤ m ∧ p ≤ pw j ∧ ∀ i, i < j → pw i < p := by
      intro m
      induction m with
      | zero => intro _ hp; exact ⟨0, by omega, hp, fun i hi => by omega⟩
      | succ m ih =>
        intro hm hp
        by_cases hq : p ≤ pw m
        · obtain ⟨j, hj, a, b⟩ := ih (by omega) hq
          exact ⟨j, by omega, a, b⟩
        · refine ⟨m + 1, by omega, hp, fun i hi => ?_⟩
          have := pw_mono (show i ≤ m by omega); omega
    obtain ⟨j, hj, a, b⟩ := key 10 (by omega) h10
    obtain ⟨e1, e2⟩ := ord_hit p j hj h.1 b a
    exact ⟨e2, j, hj, e1, a, fun h0 => b (j - 1) (by omega)⟩
  · left
    exact ⟨by simp [ordB]; omega, by omega⟩

set_option maxHeartbeats 2000000 in
theorem fits_walk (n : Int) (a : Int) (w : World) :
    Calls Try.prog 6 #[.int .i64 n, .int .i64 a] w (Tr w) := by
  cases hu : upB n a with
  | false =>
    have hv : upV n a = 0 := by unfold upV; unfold upB at hu; rw [hu]; rfl
    have HU := Lib.hid hu; have HV := Lib.hid hv; clear hu hv
    go_enter Try.func6, Try.ntmps6
    go_wp2_with fail
    refine (awake_calls _).mono ?_; rintro e w1 ⟨rfl, hg⟩
    go_wp2_with fail
    refine (up_calls _ _ _).mono ?_; rw [HU.out, HV.out]; rintro e w' ⟨rfl, rfl⟩
    go_wp2_with fail
    go_ret
    exact ⟨rfl, hg⟩
  | true =>
    obtain ⟨hs, ha⟩ : isSz n = true ∧ wholeB a = true := by unfold upB at hu; simpa using hu
    have hr := wholeB_range ha
    have hn := isSz_true hs
    obtain ⟨b1, b2, b3, b4⟩ := up_bd hs ha
    have hv : upV n a = (n + a - 1) / a * a := by unfold upV; rw [hs, ha]; rfl
    obtain ⟨c1, c2, c3, c4⟩ := pg_bd hs
    rw [← hv] at b1 b2 b3 b4
    have hs2 : isSz (upV n a) = true := isSz_mk (by omega)
    have hu2 : upB (upV n a) a = true := by unfold upB; rw [hs2, ha]; rfl
    have hv2 : upV (upV n a) a = upV n a := by
      have e := up_ref0 hs2 ha b4
      have e2 : upV (upV n a) a = (upV n a + a - 1) / a * a := by
        generalize upV n a = A at *
        unfold upV; rw [hs2, ha]; rfl
      rw [e2, e]
    have hoc := ord_cases (pgV n)
    have hb4 : (upV n a % a == 0) = true := beq_iff_eq.2 b4
    generalize hA : upV n a = A at *
    generalize hP : pgV n = P at *
    have HU := Lib.hid hu; have HV := Lib.hid hv2; have HU2 := Lib.hid hu2; have HA := Lib.hid hA; have HP := Lib.hid hP; have HS := Lib.hid hs
    clear hu hv2 hu2 hA hP hs hs2 hv b4
    have hb5 : (A % a != 0) = false := by simpa using hb4
    by_cases hn0 : 0 < n
    · have hc2 : (P - 1) * 4096 < n := by omega
      rcases hoc with ⟨ho, hp⟩ | ⟨ho, j, hj, hjv, hjp, hjq⟩
      · have HO := Lib.hid ho; clear ho
        rcases hp with hp | hp
        · omega
        · generalize ordV P = V
          go_enter Try.func6, Try.ntmps6
          go_wp2_with fail
          refine (awake_calls _).mono ?_; rintro e w1 ⟨rfl, hg⟩
          go_wp2_with fail
          refine (up_calls _ _ _).mono ?_; rw [HU.out, HA.out]; rintro e w' ⟨rfl, rfl⟩
          go_wp2_with fail
          refine (up_calls _ _ _).mono ?_; rw [HU2.out, HV.out]; rintro e w' ⟨rfl, rfl⟩
          go_wp2_with fail
          refine (pages_calls _ _).mono ?_; rw [HP.out, HS.out]; rintro e w' ⟨rfl, rfl⟩
          go_wp2_with fail
          refine (order_calls _ _).mono ?_; rw [HO.out]; rintro e w' ⟨rfl, rfl⟩
          go_wp2_with fail
          go_ret
          exact ⟨rfl, hg⟩
      · have HO := Lib.hid ho; have HJ := Lib.hid hjv; clear ho hjv
        have hp10 : pw j ≤ 1024 := by rw [← pw_10]; exact pw_mono hj
        have HSp := Lib.hid (span_pw j hj)
        by_cases hj0 : j = 0
        · subst hj0
          have hz : ((0 : Int) == 0) = true := rfl
          have HSp0 : Hid (spanV 0 = 4096 * pw 0) := Lib.hid (span_pw 0 (by omega))
          go_enter Try.func6, Try.ntmps6
          go_wp2_with fail
          refine (awake_calls _).mono ?_; rintro e w1 ⟨rfl, hg⟩
          go_wp2_with fail
          refine (up_calls _ _ _).mono ?_; rw [HU.out, HA.out]; rintro e w' ⟨rfl, rfl⟩
          go_wp2_with fail
          refine (up_calls _ _ _).mono ?_; rw [HU2.out, HV.out]; rintro e w' ⟨rfl, rfl⟩
          go_wp2_with fail
          refine (pages_calls _ _).mono ?_; rw [HP.out, HS.out]; rintro e w' ⟨rfl, rfl⟩
          go_wp2_with fail
          refine (order_calls _ _).mono ?_; rw [HO.out, HJ.out]; rintro e w' ⟨rfl, rfl⟩
          go_wp2_with fail
          refine (span_calls _ _).mono ?_; rw [HSp0.out]; rintro e w' ⟨rfl, rfl⟩
          go_wp2_with fail
          go_ret
          exact ⟨rfl, hg⟩
        · have hq := hjq (by omega)
          have hd : 4096 * pw (j - 1) < n := by omega
          have HSq := Lib.hid (span_pw (j - 1) (by omega))
          have hz : ((j : Int) == 0) = false := beq_eq_false_iff_ne.2 (by omega)
          have hcast : ((j : Int) - 1) = ((j - 1 : Nat) : Int) := by omega
          have HCa := Lib.hid hcast; clear hcast hjq hj0
          go_enter Try.func6, Try.ntmps6
          go_wp2_with fail
          refine (awake_calls _).mono ?_; rintro e w1 ⟨rfl, hg⟩
          go_wp2_with fail
          refine (up_calls _ _ _).mono ?_; rw [HU.out, HA.out]; rintro e w' ⟨rfl, rfl⟩
          go_wp2_with fail
          refine (up_calls _ _ _).mono ?_; rw [HU2.out, HV.out]; rintro e w' ⟨rfl, rfl⟩
          go_wp2_with fail
          refine (pages_calls _ _).mono ?_; rw [HP.out, HS.out]; rintro e w' ⟨rfl, rfl⟩
          go_wp2_with fail
          refine (order_calls _ _).mono ?_; rw [HO.out, HJ.out]; rintro e w' ⟨rfl, rfl⟩
          go_wp2_with fail
          refine (span_calls _ _).mono ?_; rw [HSp.out]; rintro e w' ⟨rfl, rfl⟩
          go_wp2_with fail
          rw [HCa.out]
          refine (span_calls _ _).mono ?_; rw [HSq.out]; rintro e w' ⟨rfl, rfl⟩
          go_wp2_with fail
          go_ret
          exact ⟨rfl, hg⟩
    · have hn1 : n = 0 := by omega
      have hP0 : P < 1 := by omega
      rcases hoc with ⟨ho, hp⟩ | ⟨ho, j, hj, hjv, hjp, hjq⟩
      · have HO := Lib.hid ho; clear ho hp hn1
        generalize ordV P = V
        go_enter Try.func6, Try.ntmps6
        go_wp2_with fail
        refine (awake_calls _).mono ?_; rintro e w1 ⟨rfl, hg⟩
        go_wp2_with fail
        refine (up_calls _ _ _).mono ?_; rw [HU.out, HA.out]; rintro e w' ⟨rfl, rfl⟩
        go_wp2_with fail
        refine (up_calls _ _ _).mono ?_; rw [HU2.out, HV.out]; rintro e w' ⟨rfl, rfl⟩
        go_wp2_with fail
        refine (pages_calls _ _).mono ?_; rw [HP.out, HS.out]; rintro e w' ⟨rfl, rfl⟩
        go_wp2_with fail
        refine (order_calls _ _).mono ?_; rw [HO.out]; rintro e w' ⟨rfl, rfl⟩
        go_wp2_with fail
        go_ret
        exact ⟨rfl, hg⟩
      · simp [ordB] at ho; omega
end Go.Proofs.Ytioiipilgljeeaa.Sz
