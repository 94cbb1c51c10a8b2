/- The contract of pieces and of the function value that it answers: pieces of some bytes, each in one page, that cover them all, for every loop body that keeps what lay there. -/
import Derived.Test.YtmnhpmgffhpoeaaGreatArWalksF
namespace Go.Proofs.YtmnhpmgffhpoeaaGreat.Bt
open Go Go.RowKit Go.Shelf
set_option linter.unusedVariables false

attribute [local go_sem] Oper.semAt_some

/-- a piece of n bytes at a: how many lie ahead of it, and how many it has -/
abbrev Pc (a n : Nat) := { x : Nat × Nat // 0 < x.2 ∧ x.1 + x.2 ≤ n ∧ (a + x.1) % 4096 + x.2 ≤ 4096 }
def encPc (a n : Nat) (x : Pc a n) : Array Value :=
  #[.int .i64 (x.1.1 : Int), .agg #[.int .i64 (((a + x.1.1) / 4096 : Nat) : Int), .int .i64 (((a + x.1.1) % 4096 : Nat) : Int), .int .i64 (((a + x.1.1) % 4096 + x.1.2 : Nat) : Int)]]
/-- is a byte in one of the pieces? -/
def cov {a n : Nat} (l : List (Pc a n)) (i : Nat) : Bool := l.any fun x => decide (x.1.1 ≤ i ∧ i < x.1.1 + x.1.2)
theorem cov_snoc {a n : Nat} (l : List (Pc a n)) (x : Pc a n) (i : Nat) : cov (l ++ [x]) i = (cov l i || decide (x.1.1 ≤ i ∧ i < x.1.1 + x.1.2)) := by simp [cov]
theorem cov_nil {a n : Nat} (i : Nat) : cov ([] : List (Pc a n)) i = false := rfl

set_option maxRecDepth 100000 in
set_option maxHeartbeats 2000000 in
theorem pieces1_in (nf l Bn Ba a n : Nat) (hn : n ≤ 4294967296) (hb : a ≤ 4294967296) (J Jx : List (Pc a n) → World → Prop)
    (hY : ∀ pre x W, J pre W → pre.length < n → YieldAt Fence.wide (nf - 1) Tryz.prog l (encPc a n x) W fun e W' =>
      (e = .returned (.bool true) ∧ J (pre ++ [x]) W' ∧ K2 Bn Ba W W') ∨ (e = .returned (.bool false) ∧ Jx (pre ++ [x]) W'))
    (W : World) (hN : W.cell? ⟨Bn, 0, none⟩ = some (.int .i64 (n : Int))) (hA : W.cell? ⟨Ba, 0, none⟩ = some (.int .i64 (a : Int))) (h0 : J [] W) :
    CallsIn Fence.wide nf Tryz.prog 83 #[.func (.yield l) #[] #[], .pointer (some ⟨Bn, 0, none⟩), .pointer (some ⟨Ba, 0, none⟩)] W fun e W' => (∃ v, e = .returned v) ∧
      ((∃ ys, (∀ i, i < n → cov ys i = true) ∧ J ys W') ∨ (∃ pre, True ∧ Jx pre W')) := by
  refine callsIn_of_wp Tryz.func83 rfl trivial ?_ rfl
  simp only [Tryz.ntmps83, List.size_toArray, List.length_cons, List.length_nil, Nat.reduceAdd, Nat.reduceSub, Array.replicate_succ, Array.replicate_zero, List.push_toArray, List.append_toArray, List.nil_append, List.cons_append]
  gi_wp2
  gi_loopw [4] (fun i wr => ∃ (d : Nat) (pre : List (Pc a n)), d ≤ n ∧ i = .int .i64 (d : Nat) ∧ pre.length ≤ d ∧ Hid (∀ i, i < d → cov pre i = true) ∧ J pre wr ∧ K2 Bn Ba W wr)
    (fun i _ => n - (intOf i).toNat)
  case atStart => exact ⟨0, [], by omega, rfl, by simp, Lib.hid (fun i hi => by omega), h0, K2.refl _⟩
  case round =>
    obtain ⟨d, pre, hd, rfl, hpl, hcv, hJs, hnx⟩ := hrel
    have cN : wr.cell? ⟨Bn, 0, none⟩ = some (.int .i64 (n : Int)) := (hnx.one 0).trans hN
    have cA : wr.cell? ⟨Ba, 0, none⟩ = some (.int .i64 (a : Int)) := (hnx.two 0).trans hA
    clear hN hA
    by_cases hlt : d < n
    · obtain ⟨lo, hlo⟩ : ∃ lo, (a + d) % 4096 = lo := ⟨_, rfl⟩
      obtain ⟨pg, hpg⟩ : ∃ pg, (a + d) / 4096 = pg := ⟨_, rfl⟩
      have hl4 : lo < 4096 := by omega
      have q1 : ((a : Int) + d) % 4096 = (lo : Int) := by omega
      have q2 : ((a : Int) + d) / 4096 = (pg : Int) := by omega
      obtain ⟨m, hm0, hm1, hm2, hmm⟩ : ∃ m : Nat, 0 < m ∧ d + m ≤ n ∧ lo + m ≤ 4096 ∧ ((m = n - d ∧ (lo : Int) + n - d ≤ 4096) ∨ (lo + m = 4096 ∧ (4096 : Int) < (lo : Int) + n - d)) := by
        by_cases h : (lo : Int) + n - d ≤ 4096
        · exact ⟨n - d, by omega, by omega, by omega, .inl ⟨rfl, h⟩⟩
        · exact ⟨4096 - lo, by omega, by omega, by omega, .inr ⟨by omega, by omega⟩⟩
      obtain ⟨x, hx1, hx2⟩ : ∃ x : Pc a n, x.1.1 = d ∧ x.1.2 = m := ⟨⟨(d, m), hm0, hm1, by rw [hlo]; exact hm2⟩, rfl, rfl⟩
      obtain ⟨fn, tmps, assign, body, hy, hR⟩ := hY pre x wr hJs (by omega)
      simp only [encPc, hx1, hx2, hlo, hpg] at hy
      have HCV : Hid (∀ i, i < d + m → cov (pre ++ [x]) i = true) := Lib.hid fun i hi => by
        rw [cov_snoc, hx1, hx2]
        by_cases h : i < d
        · rw [hcv.out i h]; rfl
        · rw [decide_eq_true (by omega)]; simp
      clear hlo hpg hx1 hx2
      have HKF : Hid (∀ W3, J (pre ++ [x]) W3 → K2 Bn Ba wr W3 → ∃ (d' : Nat) (pre' : List (Pc a n)), d' ≤ n ∧ Value.int .i64 ((d : Int) + m) = .int .i64 (d' : Nat) ∧ pre'.length ≤ d' ∧ Hid (∀ i, i < d' → cov pre' i = true) ∧ J pre' W3 ∧ K2 Bn Ba W W3) := Lib.hid fun W3 hj hk =>
        ⟨d + m, pre ++ [x], by omega, by go_num, by simp; omega, HCV, hj, hnx.trans hk⟩
      rcases hmm with ⟨hm5, h4⟩ | ⟨hm5, h4⟩
      · obtain ⟨H, hH⟩ : ∃ H, lo + m = H := ⟨_, rfl⟩
        rw [hH] at hy
        have e1 : (lo : Int) + n - d = (H : Int) := by omega
        have e2 : (H : Int) - lo = (m : Int) := by omega
        have hH4 : H ≤ 4096 := by omega
        clear hm5 hH h4
        gi_wp2_with fail
        refine ⟨fun hd => by simp [Fence.wide] at hd, hR.mono ?_⟩
        rintro e W3 (⟨rfl, hJ3, hk3⟩ | ⟨rfl, hJx3⟩)
        · have HF := Lib.hid (HKF.out W3 hJ3 hk3)
          clear HKF
          gi_wp2_with fail
          go_roundw
          case rel => exact HF.out
          case measure => simp [intOf]; omega
        · gi_wp2_with fail
          refine bodyPost_ret (results_none rfl _ _ _) rfl ?_
          exact ⟨⟨_, rfl⟩, .inr ⟨_, trivial, hJx3⟩⟩
      · rw [hm5, show (((4096 : Nat) : Int)) = 4096 from rfl] at hy
        have e2 : (4096 : Int) - lo = (m : Int) := by omega
        clear hm5
        gi_wp2_with fail
        refine ⟨fun hd => by simp [Fence.wide] at hd, hR.mono ?_⟩
        rintro e W3 (⟨rfl, hJ3, hk3⟩ | ⟨rfl, hJx3⟩)
        · have HF := Lib.hid (HKF.out W3 hJ3 hk3)
          clear HKF
          gi_wp2_with fail
          go_roundw
          case rel => exact HF.out
          case measure => simp [intOf]; omega
        · gi_wp2_with fail
          refine bodyPost_ret (results_none rfl _ _ _) rfl ?_
          exact ⟨⟨_, rfl⟩, .inr ⟨_, trivial, hJx3⟩⟩
    · have hke : d = n := by omega
      have HK := Lib.hid hke; clear hke
      gi_wp2
      go_end0
      exact ⟨⟨_, rfl⟩, .inl ⟨_, fun i hi => hcv.out i (by rw [HK.out]; exact hi), hJs⟩⟩

theorem pieces_stops (nf Bn Ba a n : Nat) (hn : n ≤ 4294967296) (hb : a ≤ 4294967296) (w : World) (lN : Bn < w.heap.size) (lA : Ba < w.heap.size) (hN : w.cell? ⟨Bn, 0, none⟩ = some (.int .i64 (n : Int))) (hA : w.cell? ⟨Ba, 0, none⟩ = some (.int .i64 (a : Int))) :
    SeqStopsK Fence.wide nf Tryz.prog 83 #[.pointer (some ⟨Bn, 0, none⟩), .pointer (some ⟨Ba, 0, none⟩)] (encPc a n) (K2 Bn Ba) (fun ys => ∀ i, i < n → cov ys i = true) (fun _ => True) n w := fun l J Jx W hW hJ hJx hY h0 =>
  pieces1_in nf l Bn Ba a n hn hb J Jx hY W ((hW.cell (p := ⟨Bn, 0, none⟩) lN).trans hN) ((hW.cell (p := ⟨Ba, 0, none⟩) lA).trans hA) h0

theorem pieces_fn (a n : Int) (w : World) :
    Calls Tryz.prog 66 #[.int .i64 a, .int .i64 n] w fun e w' => e = .returned (.func (.func 83) #[] #[.pointer (some ⟨w.heap.size + 1, 0, none⟩), .pointer (some ⟨w.heap.size, 0, none⟩)]) ∧ w' = (w.alloc (.cells #[.int .i64 a] 3)).alloc (.cells #[.int .i64 n] 3) := by
  have hmf : ∀ (fn : Fn) (first cap : Array Value) (w : World), (Instr.makeFunc fn first cap).run Tryz.prog w = .ok (.func fn first cap) w := fun _ _ _ _ => rfl
  go_enter Tryz.func66, Tryz.ntmps66
  go_wp2
  go_ret
  exact ⟨rfl, rfl⟩
end Go.Proofs.YtmnhpmgffhpoeaaGreat.Bt
