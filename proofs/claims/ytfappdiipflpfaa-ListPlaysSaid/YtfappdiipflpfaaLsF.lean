/- The contracts of a list's Has, First, Add. -/
import Derived.Test.YtfappdiipflpfaaLsE
namespace Go.Proofs.Ytfappdiipflpfaa.Bt
open Go Go.RowKit Go.Shelf
set_option linter.unusedVariables false

/-- the member that is found, and what find answers -/
def atV (lp : List Lk) (f : Int) : Int := match lp.find? (isF f) with | some x => (x.2.2 : Int) | none => 0
def hasV (lp : List Lk) (at_ : Int) : Bool := decide (0 < at_ ∧ atV lp at_ = at_)
theorem fndV_any (A : Nat) (lp : List Lk) (f : Int) : ∃ p a z e, fndV A lp f = .tuple #[.agg #[.pointer p, .int .i64 a, .int .i64 z], .int .i64 (atV lp f), .int .i64 e] := by
  unfold fndV atV
  cases lp.find? (isF f) with
  | some x => exact ⟨_, _, _, _, rfl⟩
  | none => exact ⟨_, _, _, _, rfl⟩
section
variable {A : Nat} {s : ASt} {w : World}
set_option maxHeartbeats 1000000 in
theorem lhas (h : On A s w) (va vs : Nat) (h1 : va ≤ 4294967296) (h2 : vs ≤ 4294967296) (k f : Int) (lp : List Lk) (hl : LkL s va vs k lp) :
    Calls Try.prog 85 #[lsP (some ⟨A, 0, none⟩) va vs, .int .i64 k, .int .i64 f] w (Gives (.bool (hasV lp f)) w) := by
  have hb0 := bel1 w (.cells #[.pointer (some ⟨A, 0, none⟩), .int .i64 (va : Int), .int .i64 (vs : Int)] 115)
  have HF := Lib.hid (lfind (h.below hb0) va vs h1 h2 k f lp hl)
  have HB := Lib.hid hb0
  clear h hl hb0
  obtain ⟨p, a, z, er, hv⟩ := fndV_any A lp f
  have HV := Lib.hid hv
  clear hv
  go_enter Try.func85, Try.ntmps85
  go_wp2_with fail
  refine HF.out.mono ?_
  rintro e w1 ⟨rfl, hb⟩
  rw [HV.out]
  have HB1 := Lib.hid (HB.out.trans (hb.mono HB.out.size))
  have HR : Hid (hasV lp f = decide (0 < f ∧ atV lp f = f)) := Lib.hid rfl
  clear hb
  generalize atV lp f = m at *
  by_cases h0 : 0 < f
  · by_cases hm : m = f
    · subst hm
      have HQ : Hid (hasV lp m = true) := Lib.hid (by rw [HR.out]; simpa using h0)
      go_wp2_with fail
      go_ret
      exact ⟨by rw [HQ.out]; rfl, HB1.out.alloc HB1.out.size _⟩
    · have HQ : Hid (hasV lp f = false) := Lib.hid (by rw [HR.out]; simp [hm])
      have hm1 : (m == f) = false := by simpa using hm
      clear hm
      go_wp2_with fail
      go_ret
      exact ⟨by rw [HQ.out]; rfl, HB1.out.alloc HB1.out.size _⟩
  · have HQ : Hid (hasV lp f = false) := Lib.hid (by rw [HR.out]; simp [h0])
    go_wp2_with fail
    go_ret
    exact ⟨by rw [HQ.out]; rfl, HB1.out.alloc HB1.out.size _⟩
set_option maxHeartbeats 1000000 in
theorem lfirst (h : On A s w) (va vs : Nat) (h1 : va ≤ 4294967296) (h2 : vs ≤ 4294967296) (k : Int) (lp : List Lk) (hl : LkL s va vs k lp) :
    Calls Try.prog 90 #[lsP (some ⟨A, 0, none⟩) va vs, .int .i64 k] w (Gives (.tuple #[.int .i64 (atV lp 1), .bool (decide (0 < atV lp 1))]) w) := by
  have hb0 := bel1 w (.cells #[.pointer (some ⟨A, 0, none⟩), .int .i64 (va : Int), .int .i64 (vs : Int)] 115)
  have HF := Lib.hid (lfind (h.below hb0) va vs h1 h2 k 1 lp hl)
  have HB := Lib.hid hb0
  clear h hl hb0
  obtain ⟨p, a, z, er, hv⟩ := fndV_any A lp 1
  have HV := Lib.hid hv
  clear hv
  go_enter Try.func90, Try.ntmps90
  go_wp2_with fail
  refine HF.out.mono ?_
  rintro e w1 ⟨rfl, hb⟩
  rw [HV.out]
  have HB1 := Lib.hid (HB.out.trans (hb.mono HB.out.size))
  clear hb
  generalize atV lp 1 = m at *
  go_wp2_with fail
  go_ret2
  exact ⟨rfl, HB1.out.alloc HB1.out.size _⟩

/-! Add: what it refuses -/
set_option maxHeartbeats 1000000 in
theorem ladd_out (h : On A s w) (va vs : Nat) (h1 : va ≤ 4294967296) (h2 : vs ≤ 4294967296) (k f : Int) (hk : k < 0 ∨ ((vs / 8 : Nat) : Int) ≤ k) :
    Calls Try.prog 82 #[lsP (some ⟨A, 0, none⟩) va vs, .int .i64 k, .int .i64 f] w (Gives (.int .i64 3) w) := by
  have hb0 := bel1 w (.cells #[.pointer (some ⟨A, 0, none⟩), .int .i64 (va : Int), .int .i64 (vs : Int)] 115)
  have HF := Lib.hid (lfind (h.below hb0) va vs h1 h2 k f [] (.inl ⟨hk, rfl⟩))
  have HB := Lib.hid hb0
  have HV : Hid (fndV A [] f = .tuple #[.agg #[.pointer none, .int .i64 0, .int .i64 0], .int .i64 0, .int .i64 3]) := Lib.hid rfl
  clear h hk hb0
  go_enter Try.func82, Try.ntmps82
  go_wp2_with fail
  refine HF.out.mono ?_
  rintro e w1 ⟨rfl, hb⟩
  rw [HV.out]
  have HB1 := Lib.hid (HB.out.trans (hb.mono HB.out.size))
  clear hb
  go_wp2_with fail
  go_ret
  exact ⟨rfl, HB1.out.alloc HB1.out.size _⟩
/-- the list k -/
def LsK (s : ASt) (va vs : Nat) (k : Int) (h0 : Nat) (ms : List Nat) : Prop := ∃ kn : Nat, k = (kn : Int) ∧ kn < vs / 8 ∧ h0 = va + 8 * kn ∧ Ch s.L s.es s.mm h0 0 ms
theorem LsK.lk {va vs h0 : Nat} {k : Int} {ms : List Nat} (h : LsK s va vs k h0 ms) : LkL s va vs k (prs h0 8 ms) := by
  obtain ⟨kn, e, hk, rfl, hc⟩ := h; exact .inr ⟨kn, ms, e, hk, hc, rfl⟩
theorem LsK.ch {va vs h0 : Nat} {k : Int} {ms : List Nat} (h : LsK s va vs k h0 ms) : Ch s.L s.es s.mm h0 0 ms := by
  obtain ⟨kn, e, hk, rfl, hc⟩ := h; exact hc
theorem fndV_ch {h0 : Nat} {ms : List Nat} (hc : Ch s.L s.es s.mm h0 0 ms) (f : Int) : fndV A (prs h0 8 ms) f = .tuple #[vwV A (fnd h0 8 ms f).1 (fnd h0 8 ms f).2.1, .int .i64 ((fnd h0 8 ms f).2.2 : Int), .int .i64 0] := by
  unfold fndV; rw [find_prs h0 8 ms f hc.gt]
theorem atV_ch {h0 : Nat} {ms : List Nat} (hc : Ch s.L s.es s.mm h0 0 ms) (f : Int) : atV (prs h0 8 ms) f = ((fnd h0 8 ms f).2.2 : Int) := by
  unfold atV; rw [find_prs h0 8 ms f hc.gt]
theorem hasV_ch {h0 : Nat} {ms : List Nat} (hc : Ch s.L s.es s.mm h0 0 ms) (x : Nat) (hx : 0 < x) : hasV (prs h0 8 ms) x = decide (x ∈ ms) := by
  unfold hasV
  rw [atV_ch hc]
  have := fnd_is hc 8 x hx
  rw [Bool.eq_iff_iff, decide_eq_true_iff, decide_eq_true_iff]
  constructor
  · rintro ⟨_, h⟩; exact this.1 (by omega)
  · intro h; have := this.2 h; omega
set_option maxHeartbeats 1000000 in
theorem ladd_arg (h : On A s w) (va vs : Nat) (h1 : va ≤ 4294967296) (h2 : vs ≤ 4294967296) (k f : Int) (h0 : Nat) (ms : List Nat) (hl : LsK s va vs k h0 ms) (hf : f < 1) :
    Calls Try.prog 82 #[lsP (some ⟨A, 0, none⟩) va vs, .int .i64 k, .int .i64 f] w (Gives (.int .i64 2) w) := by
  have hb0 := bel1 w (.cells #[.pointer (some ⟨A, 0, none⟩), .int .i64 (va : Int), .int .i64 (vs : Int)] 115)
  have HF := Lib.hid (lfind (h.below hb0) va vs h1 h2 k f _ hl.lk)
  have HB := Lib.hid hb0
  have HV := Lib.hid (fndV_ch (A := A) hl.ch f)
  clear h hl hb0
  go_enter Try.func82, Try.ntmps82
  go_wp2_with fail
  refine HF.out.mono ?_
  rintro e w1 ⟨rfl, hb⟩
  rw [HV.out]
  have HB1 := Lib.hid (HB.out.trans (hb.mono HB.out.size))
  clear hb
  go_wp2_with fail
  go_ret
  exact ⟨rfl, HB1.out.alloc HB1.out.size _⟩
set_option maxHeartbeats 2000000 in
theorem ladd_no (h : On A s w) (va vs : Nat) (h1 : va ≤ 4294967296) (h2 : vs ≤ 4294967296) (k f : Int) (h0 : Nat) (ms : List Nat) (hl : LsK s va vs k h0 ms) (hf : 1 ≤ f) (hf2 : f ≤ 9223372036854775807) (ht : thereE s.L s.es f 16 = 3) :
    Calls Try.prog 82 #[lsP (some ⟨A, 0, none⟩) va vs, .int .i64 k, .int .i64 f] w (Gives (.int .i64 3) w) := by
  have hb0 := bel1 w (.cells #[.pointer (some ⟨A, 0, none⟩), .int .i64 (va : Int), .int .i64 (vs : Int)] 115)
  have HF := Lib.hid (lfind (h.below hb0) va vs h1 h2 k f _ hl.lk)
  have HB := Lib.hid hb0
  have HO := Lib.hid h
  have HC := Lib.hid (heap_new w (.cells #[.pointer (some ⟨A, 0, none⟩), .int .i64 (va : Int), .int .i64 (vs : Int)] 115))
  have HV := Lib.hid (fndV_ch (A := A) hl.ch f)
  have HT := Lib.hid ht
  have HV3 : Hid (∀ pu a k, ofV pu a k 3 = .agg #[.pointer none, .int .i64 0, .int .i64 0]) := Lib.hid fun pu a k => by unfold ofV; rw [if_neg (by decide)]
  clear h hl hb0 ht
  have hnf : ¬ f < 1 := by omega
  go_enter Try.func82, Try.ntmps82
  go_wp2_with fail
  refine HF.out.mono ?_
  rintro e w1 ⟨rfl, hb⟩
  rw [HV.out]
  have hc1 := (hb.block _ (by simp)).trans HC.out
  have HB1 := Lib.hid (HB.out.trans (hb.mono HB.out.size))
  generalize (fnd h0 8 ms f).1 = fa at *
  generalize (fnd h0 8 ms f).2.1 = fz at *
  generalize (fnd h0 8 ms f).2.2 = fm at *
  have hc2 := ((bel1 w1 (.cells #[.pointer (some ⟨A, 0, none⟩), .int .i64 (fa : Int), .int .i64 (fz : Int)] 53)).block _ (Array.getElem?_eq_some_iff.1 hc1).1).trans hc1
  have c0 := (cell_blk hc2 0).1
  clear hb hc1 hc2
  have hb2 := HB1.out.alloc HB1.out.size (.cells #[.pointer (some ⟨A, 0, none⟩), .int .i64 (fa : Int), .int .i64 (fz : Int)] 53)
  have HOF := Lib.hid (on_of (HO.out.below hb2) f 16 hf2)
  have HB2 := Lib.hid hb2
  clear hb2
  go_wp2_with fail
  refine HOF.out.mono ?_
  rintro e w2 ⟨rfl, hb⟩
  rw [HT.out, HV3.out]
  have HB3 := Lib.hid (HB2.out.trans (hb.mono HB2.out.size))
  clear hb c0
  go_wp2_with fail
  go_ret
  exact ⟨rfl, HB3.out.alloc HB3.out.size _⟩
end
end Go.Proofs.Ytfappdiipflpfaa.Bt
