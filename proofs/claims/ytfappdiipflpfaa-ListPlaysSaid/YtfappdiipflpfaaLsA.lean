/- The contracts of a list's small functions: Open, Len, follow, lead. -/
import Derived.Test.YtfappdiipflpfaaOnB
import Derived.Test.YtfappdiipflpfaaLsM
namespace Go.Proofs.Ytfappdiipflpfaa.Bt
open Go Go.RowKit Go.Shelf
set_option linter.unusedVariables false

abbrev lsP (pa : Option Addr) (va vs : Nat) : Value := .agg #[.pointer pa, .int .i64 (va : Int), .int .i64 (vs : Int)]
theorem lopenL (pa : Option Addr) (va vs : Nat) (w : World) : Calls Try.prog 86 #[.agg #[.pointer pa, .int .i64 (va : Int), .int .i64 (vs : Int)]] w (Gives (lsP pa va vs) w) := by
  go_enter Try.func86, Try.ntmps86
  go_wp2_with fail
  exact bodyPost_ret (v := lsP pa va vs) (by simp [results, Try.results86, go_sem]) rfl ⟨rfl, below2 _ _ _⟩
theorem llen_any (pa : Option Addr) (va vs : Nat) (h2 : vs ≤ 4294967296) (w : World) : Calls Try.prog 138 #[lsP pa va vs] w (Gives (.int .i64 ((vs / 8 : Nat) : Int)) w) := by
  have q1 : IntKind.i64.wrap ((vs : Int).tdiv 8) = ((vs / 8 : Nat) : Int) := by rw [Int.tdiv_eq_ediv_of_nonneg (by omega), IntWalk.i64_in _ (by omega)]; omega
  have HQ := Lib.hid q1
  clear q1
  go_enter Try.func138, Try.ntmps138
  go_wp2_with fail
  refine (vsize_any pa va vs _).mono ?_
  rintro e w1 ⟨rfl, hb⟩
  have q1 := HQ.out
  go_wp2_with fail
  go_ret
  exact ⟨by first | rfl | (rw [← HQ.out]; rfl), ((Below.refl w.heap.size w).alloc (Nat.le_refl _) _).trans (hb.mono (by simp))⟩
theorem num8 (L : Nat) (es : List Nat) (a : Int) : numE L es a 8 = thereE L es a 8 := rfl
theorem addr_head {a z : Nat} (h8 : 8 ≤ z) : addrV a z 0 8 = (a : Int) := by unfold addrV; rw [if_pos (by omega)]; omega
section
variable {A : Nat} {s : ASt} {w : World}
theorem ld8 {a : Nat} (hn : thereE s.L s.es a 8 = 0) : ldV s a 8 = (numV s.mm a 8 : Int) := by
  unfold ldV; rw [num8, if_pos hn]; rfl
set_option maxHeartbeats 1000000 in
theorem lfollow (h : On A s w) (a z m : Nat) (h1 : a ≤ 4294967296) (h2 : z ≤ 4294967296) (h8 : 8 ≤ z) (hm : m ≤ 4294967296) (hn : thereE s.L s.es a 8 = 0) (hv : numV s.mm a 8 = m) (b : Int) :
    Calls Try.prog 136 #[vwV A a z, .int .i64 b] w (Gives (.int .i64 (if (m : Int) ≤ b then 0 else (m : Int))) w) := by
  have HL := Lib.hid (on_load (h.below (bel1 w (.cells #[.pointer (some ⟨A, 0, none⟩), .int .i64 (a : Int), .int .i64 (z : Int)] 53))) a z h1 h2 0 8 (by omega))
  have HV : Hid (ldV s (addrV a z 0 8) 8 = (m : Int)) := Lib.hid (by rw [addr_head h8, ld8 hn, hv])
  have q1 : IntKind.i64.wrap (m : Int) = (m : Int) := IntWalk.i64_in _ (by omega)
  clear hn hv h
  have HB := Lib.hid (bel1 w (.cells #[.pointer (some ⟨A, 0, none⟩), .int .i64 (a : Int), .int .i64 (z : Int)] 53))
  by_cases hb : (m : Int) ≤ b
  · rw [if_pos hb]
    go_enter Try.func136, Try.ntmps136
    go_wp2_with fail
    refine HL.out.mono ?_
    rintro e w1 ⟨rfl, hbb⟩
    rw [HV.out]
    have HF := Lib.hid (HB.out.trans (hbb.mono HB.out.size))
    clear hbb
    go_wp2_with fail
    go_ret
    exact ⟨rfl, HF.out⟩
  · rw [if_neg hb]
    go_enter Try.func136, Try.ntmps136
    go_wp2_with fail
    refine HL.out.mono ?_
    rintro e w1 ⟨rfl, hbb⟩
    rw [HV.out]
    have HF := Lib.hid (HB.out.trans (hbb.mono HB.out.size))
    clear hbb
    go_wp2_with fail
    go_ret
    exact ⟨by first | rfl | simp [q1], HF.out⟩
theorem llead (h : On A s w) (a z v : Nat) (h1 : a ≤ 4294967296) (h2 : z ≤ 4294967296) (h8 : 8 ≤ z) (hv : v ≤ 4294967296) (hn : thereE s.L s.es a 8 = 0) :
    Calls Try.prog 135 #[vwV A a z, .int .i64 (v : Int)] w (Ret A { s with mm := put8 s.mm a v } (.int .i64 0) w) := by
  have HB := Lib.hid (bel1 w (.cells #[.pointer (some ⟨A, 0, none⟩), .int .i64 (a : Int), .int .i64 (z : Int)] 53))
  have HO := Lib.hid h
  have HS := Lib.hid (on_store (h.below HB.out) a z h1 h2 0 8 (v : Int) (by omega) (by omega))
  have HN : Hid (numE s.L s.es (addrV a z 0 8) 8 = 0) := Lib.hid (by rw [addr_head h8, num8]; exact hn)
  have HM : Hid (storeS s (addrV a z 0 8) 8 v = { s with mm := put8 s.mm a v }) := Lib.hid (by
    unfold storeS; rw [HN.out, if_pos rfl, addr_head h8]; rfl)
  have q1 : IntKind.u64.wrap (v : Int) = (v : Int) := by rw [IntKind.wrap_u64]; omega
  clear hn h
  go_enter Try.func135, Try.ntmps135
  go_wp2_with fail
  refine HS.out.mono ?_
  rintro e w1 ⟨rfl, hx, hg⟩
  rw [HN.out]; rw [HM.out] at hx
  have HF := Lib.hid (And.intro hx ((Went.of_below HO.out HB.out).trans hg))
  clear hx hg
  go_wp2_with fail
  go_ret
  exact ⟨rfl, HF.out.1, HF.out.2⟩
end
end Go.Proofs.Ytfappdiipflpfaa.Bt
