/- Several texts in one: FdM; ChM; ChA; ChB; ChC; ChD; ChE; ChO. -/
import Derived.Test.YtdmaendhkenmgaaFbA
import Derived.Test.YtdmaendhkenmgaaFdFm
import Derived.Test.YtdmaendhkenmgaaArKeepM
import Derived.OpenShut
import Derived.Lib.SmallJoins
import Derived.Deep.Slices
import Derived.Deep.Strs
import Derived.ChangeSame
import Derived.WideShapes
/- What is put is told. -/
namespace Go.Proofs.Ytdmaendhkenmgaa.Bt
open Go Go.RowKit Go.Shelf
set_option linter.unusedVariables false

theorem short_val {x : Int} {W : Nat} (h0 : 0 ≤ x) (h : longB x W = false) : ((x.toNat % 2 ^ (8 * W) : Nat) : Int) = x := by
  unfold longB at h
  have h1 : x / 2 ^ (8 * W) = 0 := by simpa using h
  obtain ⟨n, rfl⟩ : ∃ n : Nat, x = n := ⟨x.toNat, by omega⟩
  rw [Int.toNat_natCast]
  have hp : 0 < 2 ^ (8 * W) := Nat.two_pow_pos _
  have h2 : n / 2 ^ (8 * W) = 0 := by
    have : ((n / 2 ^ (8 * W) : Nat) : Int) = 0 := by rw [← h1]; simp
    omega
  rw [Nat.mod_eq_of_lt ((Nat.div_eq_zero_iff_lt hp).1 h2)]
theorem put_val {n : Nat} {f : Nat → Nat} (hr : Rec n f) (m : Nat → UInt8) (an : Nat) (xs : List Int) : ∀ j, j ≤ n → ∀ k, k < j → numV (putR m an f xs j) (an + f k) (f (k + 1) - f k) = (xs.getD k 0).toNat % 2 ^ (8 * (f (k + 1) - f k)) := by
  intro j
  induction j with
  | zero => intro _ k hk; omega
  | succ j ih =>
    intro hj k hk
    by_cases e : k = j
    · subst e; exact numV_store _ _ _ _
    · rw [← ih (by omega) k (by omega)]
      apply numV_congr
      intro i hi
      show putM (putR m an f xs j) (an + f j) _ _ = _
      have h1 := hr.le (show k + 1 ≤ j by omega) (by omega)
      have h2 := hr.mono k (by omega)
      exact putM_out _ _ _ (.inl (by omega))
theorem rec_fP {ws : List Int} {n : Nat} (hn : n = ws.length) (hl : n ≤ 32) (ha : ws.all wOk = true) : Rec n (fP ws n) := by
  have hf : ∀ k, k ≤ n → fP ws n k = sumW ws k := fun k hk => by unfold fP; rw [if_pos hk]
  have hst : ∀ k, k < n → sumW ws (k + 1) = sumW ws k + (ws.getD k 0).toNat ∧ (ws.getD k 0 = 1 ∨ ws.getD k 0 = 2 ∨ ws.getD k 0 = 4 ∨ ws.getD k 0 = 8) := fun k hk => by
    refine ⟨sumW_succ ws k (by omega), ?_⟩
    rw [List.all_eq_true] at ha
    have h2 := ha (ws.getD k 0) (by rw [List.getD_eq_getElem?_getD, List.getElem?_eq_getElem (by omega)]; exact List.getElem_mem (by omega))
    unfold wOk at h2; simpa using h2
  refine ⟨hl, by rw [hf 0 (by omega)]; rfl, fun k hk => ?_, fun k hk => ?_, fun k hk => ?_⟩
  · rw [hf k (by omega), hf (k + 1) (by omega), (hst k hk).1]; omega
  · rw [hf k (by omega), hf (k + 1) (by omega), (hst k hk).1]; have := (hst k hk).2; omega
  · rw [hf k (by omega), hf (k + 1) (by omega), (hst k hk).1]
    rcases (hst k hk).2 with h | h | h | h <;> rw [h, Nat.add_sub_cancel_left] <;> rfl
end Go.Proofs.Ytdmaendhkenmgaa.Bt
/- The plain mathematics of chunks: orders' bytes, a header's fields, what is read of one. -/
namespace Go.Proofs.Ytdmaendhkenmgaa.Bt
open Go Go.RowKit Go.Shelf
set_option linter.unusedVariables false

def spV (o : Int) : Int := if o < 0 then 0 else if 10 < o then 0 else 4096 * 2 ^ o.toNat
def pwI (j : Nat) : Int := 2 ^ j
theorem pwI_succ (j : Nat) : pwI (j + 1) = 2 * pwI j := by unfold pwI; rw [Int.pow_succ]; omega
theorem pwI_pos (j : Nat) : 1 ≤ pwI j := by
  induction j with
  | zero => decide
  | succ j ih => rw [pwI_succ]; omega
theorem pwI_mono {i j : Nat} (h : i ≤ j) : pwI i ≤ pwI j := by
  induction h with
  | refl => omega
  | step _ ih => rw [pwI_succ]; have := pwI_pos ‹_›; omega
theorem pwI_10 : pwI 10 = 1024 := by decide
theorem sp_zero {o : Int} (h : o < 0 ∨ 10 < o) : spV o = 0 := by
  unfold spV
  by_cases h1 : o < 0
  · simp [h1]
  · rw [if_neg h1, if_pos (by omega)]
theorem sp_pw (j : Nat) (h : j ≤ 10) : spV j = 4096 * pwI j := by
  unfold spV pwI
  rw [if_neg (by omega), if_neg (by omega)]; simp
theorem sp_bd (o : Int) : 0 ≤ spV o ∧ spV o ≤ 4194304 := by
  by_cases h : o < 0 ∨ 10 < o
  · rw [sp_zero h]; omega
  · obtain ⟨j, rfl⟩ := Int.eq_ofNat_of_zero_le (show 0 ≤ o by omega)
    rw [sp_pw j (by omega)]
    have := pwI_pos j; have := pwI_mono (show j ≤ 10 by omega); rw [pwI_10] at this; omega
theorem sp_in {o : Int} (h : 0 < spV o) : 0 ≤ o ∧ o ≤ 10 := by
  by_cases h1 : o < 0 ∨ 10 < o
  · rw [sp_zero h1] at h; omega
  · omega
theorem sp_of {o : Int} (h0 : 0 ≤ o) (h1 : o ≤ 10) : 4096 ≤ spV o := by
  obtain ⟨j, rfl⟩ := Int.eq_ofNat_of_zero_le h0
  rw [sp_pw j (by omega)]
  have := pwI_pos j; omega
/-- may a header of it be laid? -/
def mayB (a o x : Int) : Bool := decide (0 ≤ a) && (decide (a % 4096 = 0) && (decide (0 < spV o) && decide (0 ≤ x)))
theorem mayB_iff (a o x : Int) : mayB a o x = true ↔ 0 ≤ a ∧ a % 4096 = 0 ∧ (0 ≤ o ∧ o ≤ 10) ∧ 0 ≤ x := by
  unfold mayB
  constructor
  · intro h
    simp only [Bool.and_eq_true, decide_eq_true_eq] at h
    exact ⟨h.1, h.2.1, sp_in h.2.2.1, h.2.2.2⟩
  · rintro ⟨h1, h2, h3, h4⟩
    have := sp_of h3.1 h3.2
    simp only [Bool.and_eq_true, decide_eq_true_eq]
    exact ⟨h1, h2, by omega, h4⟩
/-- a step of a check's mixing, and the check -/
def mixI (s x : Int) : Int :=
  bits .xor .u64 (IntKind.u64.wrap (bits .xor .u64 s x * 11400714819323198485)) (IntKind.u64.wrap (bits .xor .u64 s x * 11400714819323198485) / 4294967296)
def chkL (xs : List Int) : Int := xs.foldl mixI 7741253900701559149
def u64I (x : Int) : Int := IntKind.u64.wrap x
def chkI (a o u x : Int) : Int := chkL [u64I a, u64I o, u, u64I x]
def cV (a o u x : Int) : Value := .agg #[.int .i64 a, .int .i64 o, .int .u64 u, .int .i64 x]
/-- a header's fields -/
def F4 : Nat → Nat := fP [8, 8, 8, 8] 4
theorem F4_at : F4 0 = 0 ∧ F4 1 = 8 ∧ F4 2 = 16 ∧ F4 3 = 24 ∧ F4 4 = 32 := by decide
theorem rec4 : Rec 4 F4 := rec_fP rfl (by decide) (by decide)
theorem ok4 : okV [8, 8, 8, 8] = .tuple #[.agg (recC 4 F4), .int .i64 0] := rfl
/-- the numbers of a header -/
def hdX (a o u x : Int) : List Int := [chkI a o u x, o + 1, u, x]
def wrM (m : Nat → UInt8) (an : Nat) (a o u x : Int) : Nat → UInt8 := putR m an F4 (hdX a o u x) 4
def n4 (m : Nat → UInt8) (an k : Nat) : Int := (numV m (an + 8 * k) 8 : Nat)
theorem allV_n4 (s : ASt) (an k : Nat) (hk : k < 4) : allV s an F4 k = n4 s.mm an k := by
  unfold allV n4
  have h := F4_at
  have : k = 0 ∨ k = 1 ∨ k = 2 ∨ k = 3 := by omega
  rcases this with rfl | rfl | rfl | rfl <;> simp [h.1, h.2.1, h.2.2.1, h.2.2.2.1, h.2.2.2.2]
/-- what stands at a place: its order, owner, next -/
def rdO (m : Nat → UInt8) (an : Nat) : Int := wrap64 (wrap64 (n4 m an 1) - 1)
def rdU (m : Nat → UInt8) (an : Nat) : Int := n4 m an 2
def rdX (m : Nat → UInt8) (an : Nat) : Int := wrap64 (n4 m an 3)
def stB (m : Nat → UInt8) (a : Int) : Bool := mayB a (rdO m a.toNat) (rdX m a.toNat) && decide (chkI a (rdO m a.toNat) (rdU m a.toNat) (rdX m a.toNat) = n4 m a.toNat 0)
/-- what Read answers -/
def rdV (s : ASt) (a : Int) : Value :=
  if thereE s.L s.es a 32 = 0 then
    if stB s.mm a then .tuple #[cV a (rdO s.mm a.toNat) (rdU s.mm a.toNat) (rdX s.mm a.toNat), .int .i64 0] else .tuple #[cV 0 0 0 0, .int .i64 7]
  else .tuple #[cV 0 0 0 0, .int .i64 3]
theorem numV_non (a k : Nat) : numV (fun _ => 0) a k = 0 := by
  induction k with
  | zero => rfl
  | succ k ih => unfold numV; rw [ih]; simp
theorem u64_bd (x : Int) : 0 ≤ u64I x ∧ u64I x < 18446744073709551616 := by unfold u64I; rw [IntKind.wrap_u64]; omega
theorem n4_bd (m : Nat → UInt8) (an k : Nat) : 0 ≤ n4 m an k ∧ n4 m an k < 18446744073709551616 := by
  unfold n4; have := numV_lt m (an + 8 * k) 8; omega
theorem n4_wr (m : Nat → UInt8) (an k : Nat) (a o u x : Int) (hk : k < 4) : n4 (wrM m an a o u x) an k = ((((hdX a o u x).getD k 0).toNat % 18446744073709551616 : Nat) : Int) := by
  unfold n4 wrM
  have h := put_val rec4 m an (hdX a o u x) 4 (Nat.le_refl _) k hk
  have hF := F4_at
  have e1 : F4 k = 8 * k ∧ F4 (k + 1) - F4 k = 8 := by
    have : k = 0 ∨ k = 1 ∨ k = 2 ∨ k = 3 := by omega
    rcases this with rfl | rfl | rfl | rfl <;> simp [hF.1, hF.2.1, hF.2.2.1, hF.2.2.2.1, hF.2.2.2.2]
  rw [e1.2, e1.1] at h
  rw [h]
theorem wrM_out (m : Nat → UInt8) (an : Nat) (a o u x : Int) (i : Nat) (h : i < an ∨ an + 32 ≤ i) : wrM m an a o u x i = m i := by
  have hF := F4_at
  unfold wrM
  have key : ∀ j, j ≤ 4 → putR m an F4 (hdX a o u x) j i = m i := by
    intro j
    induction j with
    | zero => intro _; rfl
    | succ j ih =>
      intro hj
      show putM (putR m an F4 (hdX a o u x) j) (an + F4 j) (numB ((hdX a o u x).getD j 0) (F4 (j + 1) - F4 j)) i = m i
      have : j = 0 ∨ j = 1 ∨ j = 2 ∨ j = 3 := by omega
      rw [putM_out _ _ _ (by rw [numB_length]; rcases this with rfl | rfl | rfl | rfl <;> simp only [hF.1, hF.2.1, hF.2.2.1, hF.2.2.2.1, hF.2.2.2.2, Nat.zero_add] <;> omega)]
      exact ih (by omega)
  exact key 4 (Nat.le_refl _)
theorem chk_bd (a o u x : Int) : 0 ≤ chkI a o u x ∧ chkI a o u x < 18446744073709551616 := by
  unfold chkI chkL
  simp only [List.foldl_cons, List.foldl_nil]
  have hw : ∀ z : Int, (Lit.int .u64 z).wf = true → 0 ≤ z ∧ z < 18446744073709551616 := fun z hz => by
    have h1 : IntKind.u64.min ≤ z ∧ z ≤ IntKind.u64.max := by simpa [Lit.wf] using hz
    have h2 : IntKind.u64.min = 0 := by decide
    have h3 : IntKind.u64.max = 18446744073709551615 := by decide
    omega
  have h : ∀ p q, 0 ≤ mixI p q ∧ mixI p q < 18446744073709551616 := fun p q => hw _ (wf_bits _ _ _ _)
  exact h _ _
theorem get4 (p q r t : Int) : ([p, q, r, t] : List Int).getD 0 0 = p ∧ ([p, q, r, t] : List Int).getD 1 0 = q ∧ ([p, q, r, t] : List Int).getD 2 0 = r ∧ ([p, q, r, t] : List Int).getD 3 0 = t := ⟨rfl, rfl, rfl, rfl⟩
theorem hdX_get (a o u x : Int) : (hdX a o u x).getD 0 0 = chkI a o u x ∧ (hdX a o u x).getD 1 0 = o + 1 ∧ (hdX a o u x).getD 2 0 = u ∧ (hdX a o u x).getD 3 0 = x := by
  unfold hdX; exact get4 _ _ _ _
theorem nat_in {z : Int} (h : 0 ≤ z ∧ z < 18446744073709551616) : ((z.toNat % 18446744073709551616 : Nat) : Int) = z := by omega
/-- what was written is read -/
theorem rd_wr (m : Nat → UInt8) (a o u x : Int) (hm : mayB a o x = true) (hu : 0 ≤ u ∧ u < 18446744073709551616) (hx : x ≤ 9223372036854775807) :
    rdO (wrM m a.toNat a o u x) a.toNat = o ∧ rdU (wrM m a.toNat a o u x) a.toNat = u ∧ rdX (wrM m a.toNat a o u x) a.toNat = x ∧ stB (wrM m a.toNat a o u x) a = true := by
  obtain ⟨h1, h2, h3, h4⟩ := (mayB_iff a o x).1 hm
  have e0 := n4_wr m a.toNat 0 a o u x (by omega)
  have e1 := n4_wr m a.toNat 1 a o u x (by omega)
  have e2 := n4_wr m a.toNat 2 a o u x (by omega)
  have e3 := n4_wr m a.toNat 3 a o u x (by omega)
  obtain ⟨g0, g1, g2, g3⟩ := hdX_get a o u x
  rw [g0, nat_in (chk_bd a o u x)] at e0
  rw [g1, nat_in (by omega)] at e1
  rw [g2, nat_in hu] at e2
  rw [g3, nat_in (by omega)] at e3
  clear g0 g1 g2 g3
  generalize wrM m a.toNat a o u x = M at *
  have f1 : rdO M a.toNat = o := by
    unfold rdO; rw [e1, IntWalk.wrap64_in (o + 1) ⟨by omega, by omega⟩, IntWalk.wrap64_in _ ⟨by omega, by omega⟩]; omega
  have f2 : rdU M a.toNat = u := by unfold rdU; exact e2
  have f3 : rdX M a.toNat = x := by
    unfold rdX; rw [e3, IntWalk.wrap64_in x ⟨by omega, by omega⟩]
  refine ⟨f1, f2, f3, ?_⟩
  unfold stB
  rw [f1, f2, f3, hm, e0, decide_eq_true rfl]; rfl
/-- noughts are none -/
theorem rd_none (m : Nat → UInt8) (a : Int) (h : ∀ j, j < 32 → m (a.toNat + j) = 0) : stB m a = false := by
  have e1 : n4 m a.toNat 1 = 0 := by
    unfold n4
    rw [numV_congr (m' := fun _ => 0) (fun j hj => by rw [Nat.add_assoc]; exact h _ (by omega))]
    rw [numV_non]; rfl
  have f1 : rdO m a.toNat = -1 := by unfold rdO; rw [e1, IntWalk.wrap64_in 0 ⟨by omega, by omega⟩, IntWalk.wrap64_in _ ⟨by omega, by omega⟩]; omega
  unfold stB mayB
  rw [f1, sp_zero (.inl (by decide))]
  simp
theorem rd_not {m : Nat → UInt8} {a : Int} (h : a < 0 ∨ a % 4096 ≠ 0) : stB m a = false := by
  unfold stB mayB
  rcases h with h | h
  · rw [decide_eq_false (by omega)]; rfl
  · rw [decide_eq_false h]; simp
theorem rd_congr {m m' : Nat → UInt8} {a : Int} (h : ∀ j, j < 32 → m (a.toNat + j) = m' (a.toNat + j)) :
    rdO m a.toNat = rdO m' a.toNat ∧ rdU m a.toNat = rdU m' a.toNat ∧ rdX m a.toNat = rdX m' a.toNat ∧ stB m a = stB m' a := by
  have e : ∀ k, k < 4 → n4 m a.toNat k = n4 m' a.toNat k := fun k hk => by
    unfold n4
    rw [numV_congr (m' := m') (fun j hj => by rw [Nat.add_assoc]; exact h _ (by omega))]
  have f1 : rdO m a.toNat = rdO m' a.toNat := by unfold rdO; rw [e 1 (by omega)]
  have f2 : rdU m a.toNat = rdU m' a.toNat := by unfold rdU; rw [e 2 (by omega)]
  have f3 : rdX m a.toNat = rdX m' a.toNat := by unfold rdX; rw [e 3 (by omega)]
  exact ⟨f1, f2, f3, by unfold stB; rw [f1, f2, f3, e 0 (by omega)]⟩
end Go.Proofs.Ytdmaendhkenmgaa.Bt
/- The contracts of chunk's small functions: Span, End, Has, mayBe, header, check. -/
namespace Go.Proofs.Ytdmaendhkenmgaa.Bt
open Go Go.RowKit Go.Shelf
set_option linter.unusedVariables false
set_option linter.unusedSimpArgs false

theorem wr64 (x : Int) : IntKind.i64.wrap x = wrap64 x := by rw [IntKind.wrap_i64]; unfold wrap64; rfl
theorem sp_any (o : Int) (w : World) : Calls Try.prog 42 #[.int .i64 o] w fun e w' => e = .returned (.int .i64 (spV o)) ∧ w = w' := by
  by_cases h1 : o < 0
  · rw [sp_zero (.inl h1)]
    go_enter Try.func42, Try.ntmps42
    go_wp2
    go_ret
    exact ⟨rfl, rfl⟩
  · by_cases h2 : 10 < o
    · rw [sp_zero (.inr h2)]
      go_enter Try.func42, Try.ntmps42
      go_wp2
      go_ret
      exact ⟨rfl, rfl⟩
    · obtain ⟨j, rfl⟩ := Int.eq_ofNat_of_zero_le (show 0 ≤ o by omega)
      rw [sp_pw j (by omega)]
      have hle : pwI j ≤ 1024 := by rw [← pwI_10]; exact pwI_mono (by omega)
      have hp1 := pwI_pos j
      have hw : wrap64 (4096 * 2 ^ j) = 4096 * pwI j := IntWalk.wrap64_in (4096 * pwI j) ⟨by omega, by omega⟩
      go_enter Try.func42, Try.ntmps42
      go_wp2
      go_ret
      exact ⟨rfl, rfl⟩
theorem refSp_any (o : Int) (w : World) : Calls Try.prog 35 #[.int .i64 o] w fun e w' => e = .returned (.int .i64 (spV o)) ∧ w = w' := by
  by_cases h1 : o < 0
  · rw [sp_zero (.inl h1)]
    go_enter Try.func35, Try.ntmps35
    go_wp2
    go_ret
    exact ⟨rfl, rfl⟩
  · by_cases h2 : 10 < o
    · rw [sp_zero (.inr h2)]
      go_enter Try.func35, Try.ntmps35
      go_wp2
      go_ret
      exact ⟨rfl, rfl⟩
    · obtain ⟨m, rfl⟩ := Int.eq_ofNat_of_zero_le (show 0 ≤ o by omega)
      have HM := Lib.hid (sp_pw m (by omega))
      go_enter Try.func35, Try.ntmps35
      go_wp2
      go_loop [3, 4] (fun n k => ∃ j : Nat, j ≤ m ∧ k = .int .i64 j ∧ n = .int .i64 (4096 * pwI j)) (fun _ k => (m - intOf k).toNat)
      case atStart => exact ⟨0, by omega, rfl, rfl⟩
      case round =>
        obtain ⟨j, hj, rfl, rfl⟩ := hrel
        have hs : pwI (j + 1) = 2 * pwI j := pwI_succ j
        have HS := Lib.hid hs; clear hs
        have hp1 := pwI_pos j
        have hle : pwI j ≤ 1024 := by rw [← pwI_10]; exact pwI_mono (by omega)
        by_cases hlt : j < m
        · go_wp2
          go_round
          case rel => exact ⟨j + 1, by omega, by go_num, by rw [HS.out]; go_num⟩
          case measure => simp [intOf]; omega
        · obtain rfl : j = m := by omega
          go_wp2
          go_ret
          exact ⟨by rw [HM.out]; rfl, rfl⟩
def cC (a o u x : Int) : Array Value := #[.int .i64 a, .int .i64 o, .int .u64 u, .int .i64 x]
def CB (B : Nat) (a o u x : Int) (w : World) : Prop := w.heap[B]? = some (.cells (cC a o u x) 77 (0, 0))
theorem cb_new (w : World) (a o u x : Int) : CB w.heap.size a o u x (w.alloc (.cells (cC a o u x) 77)) := heap_new _ _
theorem CB.all {B : Nat} {a o u x : Int} {w : World} (h : CB B a o u x w) : w.cell? ⟨B, 0, none⟩ = some (.int .i64 a) ∧ w.cell? ⟨B, 1, none⟩ = some (.int .i64 o) ∧ w.cell? ⟨B, 2, none⟩ = some (.int .u64 u) ∧ w.cell? ⟨B, 3, none⟩ = some (.int .i64 x) :=
  ⟨(cell_blk h 0).1, (cell_blk h 1).1, (cell_blk h 2).1, (cell_blk h 3).1⟩
def CBS (B : Nat) (a o u x : Int) (X : World) : Prop :=
  X.cell? ⟨B, 0, none⟩ = some (.int .i64 a) ∧ X.cell? ⟨B, 1, none⟩ = some (.int .i64 o) ∧ X.cell? ⟨B, 2, none⟩ = some (.int .u64 u) ∧ X.cell? ⟨B, 3, none⟩ = some (.int .i64 x) ∧ CB B a o u x X
theorem cbs_mk {B : Nat} {a o u x : Int} {X : World} (h : CB B a o u x X) : CBS B a o u x X := ⟨h.all.1, h.all.2.1, h.all.2.2.1, h.all.2.2.2, h⟩
theorem CBS.below {B : Nat} {a o u x : Int} {X Y : World} (h : CBS B a o u x X) (hb : Below X.heap.size X Y) : CBS B a o u x Y := cbs_mk (blk_at hb h.2.2.2.2)
theorem end_any (a o u x : Int) (ha : 0 ≤ a) (ha2 : a ≤ 4294967296) (w : World) : Calls Try.prog 127 #[cV a o u x] w fun e w' => e = .returned (.int .i64 (a + spV o)) ∧ Below w.heap.size w w' := by
  have HS := Lib.hid (fun w => sp_any o w)
  have hb := sp_bd o
  obtain ⟨S, hS⟩ : ∃ S, spV o = S := ⟨_, rfl⟩
  rw [hS] at hb HS ⊢
  clear hS
  have QW : Hid (IntKind.i64.wrap (a + S) = a + S) := Lib.hid (IntWalk.i64_in _ (by omega))
  go_enter Try.func127, Try.ntmps127
  go_upto_region 1 with fail
  have c := cb_new w a o u x
  have bw := Lib.hid (bel1 w (.cells (cC a o u x) 77))
  obtain ⟨y, hy⟩ : ∃ y, w.alloc (.cells (cC a o u x) 77) = y := ⟨_, rfl⟩
  obtain ⟨B, hB⟩ : ∃ B, w.heap.size = B := ⟨_, rfl⟩
  rw [hy] at c bw
  rw [hB] at c
  change Code.wp _ _ _ _ (w.alloc (.cells (cC a o u x) 77))
  rw [hy, hB]
  clear hy hB
  obtain ⟨c0, c1, c2, c3⟩ := c.all
  have HB := Lib.hid (show Below w.heap.size w y.drew from bw.out.drew)
  have hS0 : CBS B a o u x y.drew := (cbs_mk c).below (Below.refl _ _).drew
  clear c c0 c1 c2 c3
  refine wp_region_held_drew (S := CBS B a o u x) (by kernel_rfl) hS0 (fun hHeld => ?_)
  clear hS0
  refine wpAnyH_take (i := 0) (v := .pointer (some ⟨B, 0, none⟩)) rfl (by kernel_rfl) (by kernel_rfl) (by kernel_rfl) (fun _ _ _ h => h) (Or.inl ⟨by rfl, fun X hS => ?_⟩) hHeld ?_
  · obtain ⟨s0, s1, s2, s3, s4⟩ := hS
    go_simp
  try simp only [Act.put, List.getElem_toArray, List.getElem_cons_zero, List.getElem_cons_succ, List.setIfInBounds_toArray, List.set_cons_zero, List.set_cons_succ]
  refine wpAnyH_take (i := 1) (v := .int .i64 a) rfl (by kernel_rfl) (by kernel_rfl) (by kernel_rfl) (fun _ _ _ h => h) (Or.inl ⟨by rfl, fun X hS => ?_⟩) hHeld ?_
  · obtain ⟨s0, s1, s2, s3, s4⟩ := hS
    go_simp
  try simp only [Act.put, List.getElem_toArray, List.getElem_cons_zero, List.getElem_cons_succ, List.setIfInBounds_toArray, List.set_cons_zero, List.set_cons_succ]
  refine wpAnyH_take (i := 2) (v := .pointer (some ⟨B, 1, none⟩)) rfl (by kernel_rfl) (by kernel_rfl) (by kernel_rfl) (fun _ _ _ h => h) (Or.inl ⟨by rfl, fun X hS => ?_⟩) hHeld ?_
  · obtain ⟨s0, s1, s2, s3, s4⟩ := hS
    go_simp
  try simp only [Act.put, List.getElem_toArray, List.getElem_cons_zero, List.getElem_cons_succ, List.setIfInBounds_toArray, List.set_cons_zero, List.set_cons_succ]
  refine wpAnyH_take (i := 3) (v := .int .i64 o) rfl (by kernel_rfl) (by kernel_rfl) (by kernel_rfl) (fun _ _ _ h => h) (Or.inl ⟨by rfl, fun X hS => ?_⟩) hHeld ?_
  · obtain ⟨s0, s1, s2, s3, s4⟩ := hS
    go_simp
  try simp only [Act.put, List.getElem_toArray, List.getElem_cons_zero, List.getElem_cons_succ, List.setIfInBounds_toArray, List.set_cons_zero, List.set_cons_succ]
  refine wpAnyH_ready (rs := [4]) (by kernel_rfl) (by simp) (AllReadyH.cons rfl (fun K1 hK1 => ?_) AllReadyH.nil)
  go_simp
  refine (HS.out _).mono ?_
  rintro e x1 ⟨rfl, rfl⟩
  have hS1 := hHeld
  clear hHeld
  refine hK1.out _ _ hS1 (fun hHeld => ?_)
  clear hK1 hS1
  try simp only [Act.put, List.getElem_toArray, List.getElem_cons_zero, List.getElem_cons_succ, List.setIfInBounds_toArray, List.set_cons_zero, List.set_cons_succ]
  refine wpAnyH_take (i := 5) (v := .int .i64 (a + S)) rfl (by kernel_rfl) (by kernel_rfl) (by kernel_rfl) (fun _ _ _ h => h) (Or.inl ⟨by rfl, fun X hS => ?_⟩) hHeld ?_
  · obtain ⟨s0, s1, s2, s3, s4⟩ := hS
    have q := QW.out
    go_simp
  try simp only [Act.put, List.getElem_toArray, List.getElem_cons_zero, List.getElem_cons_succ, List.setIfInBounds_toArray, List.set_cons_zero, List.set_cons_succ]
  refine wpAnyH_take (i := 6) (v := .int .i64 (a + S)) rfl (by kernel_rfl) (by kernel_rfl) (by kernel_rfl) (fun _ _ _ h => h) (Or.inl ⟨by rfl, fun X hS => ?_⟩) hHeld ?_
  · obtain ⟨s0, s1, s2, s3, s4⟩ := hS
    go_simp
  try simp only [Act.put, List.getElem_toArray, List.getElem_cons_zero, List.getElem_cons_succ, List.setIfInBounds_toArray, List.set_cons_zero, List.set_cons_succ]
  refine wpAnyH_done (by kernel_rfl) ?_ _
  clear hHeld
  go_wp2_with fail
  go_ret
  exact ⟨rfl, HB.out⟩
theorem may_any (a o u x : Int) (ha : a ≤ 9223372036854775807) (w : World) : Calls Try.prog 134 #[cV a o u x] w (Gives (.bool (mayB a o x)) w) := by
  have HS := Lib.hid (fun w => sp_any o w)
  unfold mayB
  generalize spV o = S at *
  by_cases h1 : 0 ≤ a
  · have d1 : decide (0 ≤ a) = true := decide_eq_true h1
    by_cases h2 : a % 4096 = 0
    · have d2 : (a.tmod 4096 == 0) = true := by rw [Int.tmod_eq_emod_of_nonneg h1]; simpa using h2
      have e2 : decide (a % 4096 = 0) = true := decide_eq_true h2
      cases e3 : decide (0 < S) with
      | false =>
        rw [d1, e2]
        clear h1 h2
        go_enter Try.func134, Try.ntmps134
        go_upto_region 1 with fail
        have c := cb_new w a o u x
        have bw := Lib.hid (bel1 w (.cells (cC a o u x) 77))
        obtain ⟨y, hy⟩ : ∃ y, w.alloc (.cells (cC a o u x) 77) = y := ⟨_, rfl⟩
        obtain ⟨B, hB⟩ : ∃ B, w.heap.size = B := ⟨_, rfl⟩
        rw [hy] at c bw
        rw [hB] at c
        change Code.wp _ _ _ _ (w.alloc (.cells (cC a o u x) 77))
        rw [hy, hB]
        clear hy hB
        obtain ⟨c0, c1, c2, c3⟩ := c.all
        go_wp2_with fail
        refine (HS.out _).mono ?_
        rintro e w' ⟨rfl, rfl⟩
        go_wp2_with fail
        go_ret
        exact ⟨rfl, bw.out⟩
      | true =>
        cases e4 : decide (0 ≤ x) with
        | false =>
          rw [d1, e2]
          clear h1 h2
          go_enter Try.func134, Try.ntmps134
          go_upto_region 1 with fail
          have c := cb_new w a o u x
          have bw := Lib.hid (bel1 w (.cells (cC a o u x) 77))
          obtain ⟨y, hy⟩ : ∃ y, w.alloc (.cells (cC a o u x) 77) = y := ⟨_, rfl⟩
          obtain ⟨B, hB⟩ : ∃ B, w.heap.size = B := ⟨_, rfl⟩
          rw [hy] at c bw
          rw [hB] at c
          change Code.wp _ _ _ _ (w.alloc (.cells (cC a o u x) 77))
          rw [hy, hB]
          clear hy hB
          obtain ⟨c0, c1, c2, c3⟩ := c.all
          go_wp2_with fail
          refine (HS.out _).mono ?_
          rintro e w' ⟨rfl, rfl⟩
          go_wp2_with fail
          go_ret
          exact ⟨rfl, bw.out⟩
        | true =>
          rw [d1, e2]
          clear h1 h2
          go_enter Try.func134, Try.ntmps134
          go_upto_region 1 with fail
          have c := cb_new w a o u x
          have bw := Lib.hid (bel1 w (.cells (cC a o u x) 77))
          obtain ⟨y, hy⟩ : ∃ y, w.alloc (.cells (cC a o u x) 77) = y := ⟨_, rfl⟩
          obtain ⟨B, hB⟩ : ∃ B, w.heap.size = B := ⟨_, rfl⟩
          rw [hy] at c bw
          rw [hB] at c
          change Code.wp _ _ _ _ (w.alloc (.cells (cC a o u x) 77))
          rw [hy, hB]
          clear hy hB
          obtain ⟨c0, c1, c2, c3⟩ := c.all
          go_wp2_with fail
          refine (HS.out _).mono ?_
          rintro e w' ⟨rfl, rfl⟩
          go_wp2_with fail
          go_ret
          exact ⟨rfl, bw.out⟩
    · have d2 : (a.tmod 4096 == 0) = false := by rw [Int.tmod_eq_emod_of_nonneg h1]; simpa using h2
      have e2 : decide (a % 4096 = 0) = false := decide_eq_false h2
      rw [d1, e2]
      clear h1 h2
      go_enter Try.func134, Try.ntmps134
      go_upto_region 1 with fail
      have c := cb_new w a o u x
      have bw := Lib.hid (bel1 w (.cells (cC a o u x) 77))
      obtain ⟨y, hy⟩ : ∃ y, w.alloc (.cells (cC a o u x) 77) = y := ⟨_, rfl⟩
      obtain ⟨B, hB⟩ : ∃ B, w.heap.size = B := ⟨_, rfl⟩
      rw [hy] at c bw
      rw [hB] at c
      change Code.wp _ _ _ _ (w.alloc (.cells (cC a o u x) 77))
      rw [hy, hB]
      clear hy hB
      obtain ⟨c0, c1, c2, c3⟩ := c.all
      go_wp2_with fail
      go_ret
      exact ⟨rfl, bw.out⟩
  · have d1 : decide (0 ≤ a) = false := decide_eq_false h1
    rw [d1]
    clear h1
    go_enter Try.func134, Try.ntmps134
    go_upto_region 1 with fail
    have c := cb_new w a o u x
    have bw := Lib.hid (bel1 w (.cells (cC a o u x) 77))
    obtain ⟨y, hy⟩ : ∃ y, w.alloc (.cells (cC a o u x) 77) = y := ⟨_, rfl⟩
    obtain ⟨B, hB⟩ : ∃ B, w.heap.size = B := ⟨_, rfl⟩
    rw [hy] at c bw
    rw [hB] at c
    change Code.wp _ _ _ _ (w.alloc (.cells (cC a o u x) 77))
    rw [hy, hB]
    clear hy hB
    obtain ⟨c0, c1, c2, c3⟩ := c.all
    go_wp2_with fail
    go_ret
    exact ⟨rfl, bw.out⟩
set_option maxRecDepth 100000 in
theorem check_any (a o u x : Int) (w : World) : Calls Try.prog 136 #[cV a o u x] w (Gives (.int .u64 (chkI a o u x)) w) := by
  obtain ⟨m1, hm1⟩ : ∃ m, mixI 7741253900701559149 (u64I a) = m := ⟨_, rfl⟩
  obtain ⟨m2, hm2⟩ : ∃ m, mixI m1 (u64I o) = m := ⟨_, rfl⟩
  obtain ⟨m3, hm3⟩ : ∃ m, mixI m2 u = m := ⟨_, rfl⟩
  obtain ⟨m4, hm4⟩ : ∃ m, mixI m3 (u64I x) = m := ⟨_, rfl⟩
  have HF : Hid (chkI a o u x = m4) := Lib.hid (by unfold chkI chkL; simp only [List.foldl_cons, List.foldl_nil]; rw [hm1, hm2, hm3, hm4])
  have H1 := Lib.hid hm1; have H2 := Lib.hid hm2; have H3 := Lib.hid hm3; have H4 := Lib.hid hm4
  clear hm1 hm2 hm3 hm4
  unfold mixI at H1 H2 H3 H4
  unfold u64I at H1 H2 H4
  have i0 : ∀ w, (Instr.index 177 (.agg #[.int .u64 (IntKind.u64.wrap a), .int .u64 (IntKind.u64.wrap o), .int .u64 u, .int .u64 (IntKind.u64.wrap x)]) (.int .i64 0)).run Try.prog w = .ok (.int .u64 (IntKind.u64.wrap a)) w := fun _ => by kernel_rfl
  have i1 : ∀ w, (Instr.index 177 (.agg #[.int .u64 (IntKind.u64.wrap a), .int .u64 (IntKind.u64.wrap o), .int .u64 u, .int .u64 (IntKind.u64.wrap x)]) (.int .i64 1)).run Try.prog w = .ok (.int .u64 (IntKind.u64.wrap o)) w := fun _ => by kernel_rfl
  have i2 : ∀ w, (Instr.index 177 (.agg #[.int .u64 (IntKind.u64.wrap a), .int .u64 (IntKind.u64.wrap o), .int .u64 u, .int .u64 (IntKind.u64.wrap x)]) (.int .i64 2)).run Try.prog w = .ok (.int .u64 u) w := fun _ => by kernel_rfl
  have i3 : ∀ w, (Instr.index 177 (.agg #[.int .u64 (IntKind.u64.wrap a), .int .u64 (IntKind.u64.wrap o), .int .u64 u, .int .u64 (IntKind.u64.wrap x)]) (.int .i64 3)).run Try.prog w = .ok (.int .u64 (IntKind.u64.wrap x)) w := fun _ => by kernel_rfl
  go_enter Try.func136, Try.ntmps136
  go_upto_region 1 with fail
  have c := cb_new w a o u x
  have bw := Lib.hid (bel1 w (.cells (cC a o u x) 77))
  obtain ⟨y, hy⟩ : ∃ y, w.alloc (.cells (cC a o u x) 77) = y := ⟨_, rfl⟩
  obtain ⟨B, hB⟩ : ∃ B, w.heap.size = B := ⟨_, rfl⟩
  rw [hy] at c bw
  rw [hB] at c
  change Code.wp _ _ _ _ (w.alloc (.cells (cC a o u x) 77))
  rw [hy, hB]
  clear hy hB
  obtain ⟨c0, c1, c2, c3⟩ := c.all
  go_wp2_with fail
  go_loop [3, 18] (fun s k => ∃ j : Nat, j ≤ 4 ∧ k = .int .i64 j ∧ s = .int .u64 (if j = 0 then 7741253900701559149 else if j = 1 then m1 else if j = 2 then m2 else if j = 3 then m3 else m4)) (fun _ k => (4 - intOf k).toNat)
  case atStart => exact ⟨0, by omega, rfl, rfl⟩
  case round =>
    obtain ⟨j, hj, rfl, rfl⟩ := hrel
    have hjj : j = 0 ∨ j = 1 ∨ j = 2 ∨ j = 3 ∨ j = 4 := by omega
    rcases hjj with rfl | rfl | rfl | rfl | rfl
    · go_wp2_with fail
      go_round
      case rel => exact ⟨1, by omega, rfl, congrArg (Value.int IntKind.u64) H1.out⟩
      case measure => simp [intOf]
    · go_wp2_with fail
      go_round
      case rel => exact ⟨2, by omega, rfl, congrArg (Value.int IntKind.u64) H2.out⟩
      case measure => simp [intOf]
    · go_wp2_with fail
      go_round
      case rel => exact ⟨3, by omega, rfl, congrArg (Value.int IntKind.u64) H3.out⟩
      case measure => simp [intOf]
    · go_wp2_with fail
      go_round
      case rel => exact ⟨4, by omega, rfl, congrArg (Value.int IntKind.u64) H4.out⟩
      case measure => simp [intOf]
    · go_wp2_with fail
      go_ret
      exact ⟨by rw [HF.out]; rfl, bw.out⟩
set_option maxRecDepth 100000 in
theorem header_any (w : World) : Calls Try.prog 135 #[] w (Gives (.agg (recC 4 F4)) w) := by
  have HSZ : Hid (∀ f, (Try.prog.info? 136).map (·.size) = some (recC 4 f).size) := Lib.hid (fun f => by rw [recC_size]; exact Try.infoRec)
  have HX := Lib.hid ok4
  go_enter Try.func135, Try.ntmps135
  go_upto_region 1 with fail
  obtain ⟨x, hx⟩ : ∃ x, w.alloc (.cells rec0 136) = x := ⟨_, rfl⟩
  have hR : x.heap[w.heap.size]? = some (.cells rec0 136 (0, 0)) := by rw [← hx]; exact heap_new _ _
  have bx : Below w.heap.size w x := by rw [← hx]; exact bel1 _ _
  change Code.wp _ _ _ _ (w.alloc (.cells rec0 136))
  rw [hx]
  obtain ⟨R, hRR⟩ : ∃ R, w.heap.size = R := ⟨_, rfl⟩
  rw [hRR] at hR ⊢
  have HR := Lib.hid hR; have BX := Lib.hid bx; have HRR := Lib.hid (show w.heap.size ≤ R by omega)
  clear hR bx hx hRR
  go_wp2_with fail
  have hws : WsAt (x.alloc (.cells #[.int .i64 8, .int .i64 8, .int .i64 8, .int .i64 8] 3)) (some ⟨x.heap.size, 0, none⟩) [8, 8, 8, 8] := by
    refine .inr ⟨x.heap.size, 0, rfl, by simp, fun i hi => ?_⟩
    rw [(cell_blk (heap_new x _) _).1, Nat.zero_add]
    have : i = 0 ∨ i = 1 ∨ i = 2 ∨ i = 3 := by simp at hi; omega
    rcases this with rfl | rfl | rfl | rfl <;> rfl
  refine (of_in _ 4 4 [8, 8, 8, 8] rfl (by omega) (by omega) _ hws).mono ?_
  rintro e w1 ⟨rfl, hb⟩
  rw [HX.out]
  have b1 := (bel1 x (.cells #[.int .i64 8, .int .i64 8, .int .i64 8, .int .i64 8] 3)).trans (hb.mono (by simp))
  have HR1 := Lib.hid (blk_at b1 HR.out)
  have B1 := Lib.hid (BX.out.trans (b1.mono BX.out.size))
  clear hws hb b1 HR BX
  go_upto_region 2 with (refine wpList_store_row rfl 136 (.tmp 1) (.tmp 6) rfl w1.heap.size (recC 4 F4) rfl rfl 136 rec0 (heap_new _ _) (HSZ.out _) (by rw [rec0_size, recC_size]) (rec_one _ _) ?_; simp only [Act.put, List.setIfInBounds_toArray, List.set_cons_zero, List.set_cons_succ])
  obtain ⟨y, hy⟩ : ∃ y, (w1.alloc (.cells rec0 136)).setRow w1.heap.size (recC 4 F4) = y := ⟨_, rfl⟩
  obtain ⟨R1, hR1⟩ : ∃ B, w1.heap.size = B := ⟨_, rfl⟩
  have hv : y.heap[R1]? = some (.cells (recC 4 F4) 136 (0, 0)) := by rw [← hy, ← hR1]; exact setRow_ad (heap_new _ _) _
  have by_ : Below w.heap.size w y := by rw [← hy]; exact below_setRow (B1.out.alloc B1.out.size _) B1.out.size _
  have hr : y.heap[R]? = some (.cells rec0 136 (0, 0)) := by
    have hlt := (Array.getElem?_eq_some_iff.1 HR1.out).1
    rw [← hy, setRow_other _ _ _ _ (by omega)]
    exact (Below.heap_alloc _ _ _ hlt).trans HR1.out
  change Code.wp _ _ _ _ ((w1.alloc (.cells rec0 136)).setRow w1.heap.size (recC 4 F4))
  rw [hy, hR1]
  have HV := Lib.hid hv; have BY := Lib.hid by_; have HR2 := Lib.hid hr
  clear hv by_ hy hR1 hr B1 HR1
  go_wp2_with (first | (refine wpList_load_row rfl 136 (.tmp 1) rfl R1 rfl 136 (recC 4 F4) (0, 0) _ HV.out Try.underlying136 rfl (HSZ.out _) ?_) | (refine wpList_store_row rfl 136 (.tmp 0) (.tmp 8) rfl R (recC 4 F4) rfl rfl 136 rec0 HR2.out (HSZ.out _) (by rw [rec0_size, recC_size]) (rec_one _ _) ?_))
  have hl := run_loadVar_row (P := Try.prog) (y.setRow R (recC 4 F4)) R 136 136 (recC 4 F4) (0, 0) _ (setRow_ad HR2.out _) Try.underlying136 rfl (HSZ.out _)
  exact bodyPost_ret (v := .agg (recC 4 F4)) (by simp [results, Try.results135, asAddr, hl, Act.put]) rfl ⟨rfl, below_setRow BY.out HRR.out _⟩
end Go.Proofs.Ytdmaendhkenmgaa.Bt
/- The contract of chunk.Write. -/
namespace Go.Proofs.Ytdmaendhkenmgaa.Bt
open Go Go.RowKit Go.Shelf
set_option linter.unusedVariables false
set_option linter.unusedSimpArgs false

/-- the variables of Write -/
def WS (B V A : Nat) (a o u x : Int) (an : Nat) (X : World) : Prop :=
  X.cell? ⟨B, 0, none⟩ = some (.int .i64 a) ∧ X.cell? ⟨B, 1, none⟩ = some (.int .i64 o) ∧ X.cell? ⟨B, 2, none⟩ = some (.int .u64 u) ∧ X.cell? ⟨B, 3, none⟩ = some (.int .i64 x) ∧
  X.cell? ⟨V, 0, none⟩ = some (.pointer (some ⟨A, 0, none⟩)) ∧ X.cell? ⟨V, 1, none⟩ = some (.int .i64 (an : Int)) ∧ X.cell? ⟨V, 2, none⟩ = some (.int .i64 32) ∧ CB B a o u x X ∧ VC V (some ⟨A, 0, none⟩) an 32 X
theorem ws_mk {B V A : Nat} {a o u x : Int} {an : Nat} {X : World} (h : CB B a o u x X) (k : VC V (some ⟨A, 0, none⟩) an 32 X) : WS B V A a o u x an X :=
  ⟨(cell_blk h 0).1, (cell_blk h 1).1, (cell_blk h 2).1, (cell_blk h 3).1, (cell_blk k 0).1, (cell_blk k 1).1, (cell_blk k 2).1, h, k⟩
theorem WS.below {B V A : Nat} {a o u x : Int} {an : Nat} {X Y : World} (h : WS B V A a o u x an X) (hb : Below X.heap.size X Y) : WS B V A a o u x an Y :=
  ws_mk (blk_at hb h.2.2.2.2.2.2.2.1) (blk_at hb h.2.2.2.2.2.2.2.2)
theorem WS.went {B V A : Nat} {a o u x : Int} {an : Nat} {s : ASt} {X Y : World} (h : WS B V A a o u x an X) (ho : On A s X) (hg : Went A X Y) : WS B V A a o u x an Y :=
  ws_mk (hg.keep ho h.2.2.2.2.2.2.2.1 (by decide) (by decide) (by decide)) (hg.keep ho h.2.2.2.2.2.2.2.2 (by decide) (by decide) (by decide))
theorem addr_hd (an : Nat) : addrV an 32 0 (F4 4 : Nat) = an := by
  unfold addrV; rw [F4_at.2.2.2.2]; rw [if_pos (by omega)]; omega
theorem hdX_len (a o u x : Int) : (hdX a o u x).length = 4 := by unfold hdX; exact rfl
theorem hd_ns {w : World} (a o u x : Int) : NsAt (w.alloc (.cells #[.int .u64 (chkI a o u x), .int .u64 (o + 1), .int .u64 u, .int .u64 x] 34)) (some ⟨w.heap.size, 0, none⟩) (hdX a o u x) := by
  obtain ⟨g0, g1, g2, g3⟩ := hdX_get a o u x
  have hl := hdX_len a o u x
  generalize hdX a o u x = xs at *
  generalize chkI a o u x = K at *
  refine .inr ⟨w.heap.size, 0, rfl, by simp, fun i hi => ?_⟩
  rw [(cell_blk (heap_new w _) _).1, Nat.zero_add]
  have : i = 0 ∨ i = 1 ∨ i = 2 ∨ i = 3 := by omega
  rcases this with rfl | rfl | rfl | rfl
  · rw [g0]; rfl
  · rw [g1]; rfl
  · rw [g2]; rfl
  · rw [g3]; rfl
theorem hd_bd (a o u x : Int) (ho : 0 ≤ o ∧ o ≤ 10) (hu : 0 ≤ u ∧ u < 18446744073709551616) (hx : 0 ≤ x ∧ x ≤ 9223372036854775807) (k : Nat) (hk : k < 4) : 0 ≤ (hdX a o u x).getD k 0 ∧ (hdX a o u x).getD k 0 < 18446744073709551616 := by
  obtain ⟨g0, g1, g2, g3⟩ := hdX_get a o u x
  have hc := chk_bd a o u x
  generalize hdX a o u x = xs at *
  generalize chkI a o u x = K at *
  have : k = 0 ∨ k = 1 ∨ k = 2 ∨ k = 3 := by omega
  rcases this with rfl | rfl | rfl | rfl
  · rw [g0]; exact hc
  · rw [g1]; omega
  · rw [g2]; omega
  · rw [g3]; omega
theorem hd_short (a o u x : Int) (hb : ∀ k, k < 4 → 0 ≤ (hdX a o u x).getD k 0 ∧ (hdX a o u x).getD k 0 < 18446744073709551616) : allShort F4 (hdX a o u x) 4 := fun k hk => by
  have hF := F4_at
  have e1 : F4 (k + 1) - F4 k = 8 := by
    have : k = 0 ∨ k = 1 ∨ k = 2 ∨ k = 3 := by omega
    rcases this with rfl | rfl | rfl | rfl <;> simp [hF.1, hF.2.1, hF.2.2.1, hF.2.2.2.1, hF.2.2.2.2]
  have := hb k hk
  generalize (hdX a o u x).getD k 0 = y at *
  rw [e1]
  unfold longB
  have : y / 2 ^ (8 * 8) = 0 := by
    have : (2 : Int) ^ (8 * 8) = 18446744073709551616 := by decide
    rw [this]; omega
  rw [this]; rfl
section
variable {A : Nat} {s : ASt} {w : World}
theorem write_arg (h : On A s w) (a o u x : Int) (ha : a ≤ 9223372036854775807) (hm : mayB a o x = false) :
    Calls Try.prog 124 #[.pointer (some ⟨A, 0, none⟩), cV a o u x] w (Gives (.int .i64 2) w) := by
  have HM := Lib.hid (fun w => may_any a o u x ha w)
  rw [hm] at HM
  clear hm h
  go_enter Try.func124, Try.ntmps124
  go_upto_region 1 with fail
  have c := cb_new w a o u x
  have bw := Lib.hid (bel1 w (.cells (cC a o u x) 77))
  obtain ⟨y0, hy⟩ : ∃ y, w.alloc (.cells (cC a o u x) 77) = y := ⟨_, rfl⟩
  obtain ⟨B, hB⟩ : ∃ B, w.heap.size = B := ⟨_, rfl⟩
  rw [hy] at c bw
  rw [hB] at c
  change Code.wp _ _ _ _ (w.alloc (.cells (cC a o u x) 77))
  rw [hy, hB]
  have HBB := Lib.hid hB
  clear hy hB
  obtain ⟨c0, c1, c2, c3⟩ := c.all
  have c := Lib.hid c
  go_wp2_with fail
  refine (HM.out _).mono ?_
  rintro e w1 ⟨rfl, hb⟩
  have HB := Lib.hid (bw.out.trans (hb.mono bw.out.size))
  clear hb HM c0 c1 c2 c3
  go_wp2_with fail
  go_ret
  exact ⟨rfl, HB.out⟩
theorem write_range (h : On A s w) (a o u x : Int) (ha : a ≤ 9223372036854775807) (hm : mayB a o x = true) (he : thereE s.L s.es a 32 ≠ 0) :
    Calls Try.prog 124 #[.pointer (some ⟨A, 0, none⟩), cV a o u x] w (Gives (.int .i64 3) w) := by
  have HM := Lib.hid (fun w => may_any a o u x ha w)
  rw [hm] at HM
  have e3 : thereE s.L s.es a 32 = 3 := by unfold thereE at he ⊢; split <;> simp_all
  have HO := Lib.hid h
  have HE := Lib.hid e3
  clear hm h he e3
  go_enter Try.func124, Try.ntmps124
  go_upto_region 1 with fail
  have c := cb_new w a o u x
  have bw := Lib.hid (bel1 w (.cells (cC a o u x) 77))
  obtain ⟨y0, hy⟩ : ∃ y, w.alloc (.cells (cC a o u x) 77) = y := ⟨_, rfl⟩
  obtain ⟨B, hB⟩ : ∃ B, w.heap.size = B := ⟨_, rfl⟩
  rw [hy] at c bw
  rw [hB] at c
  change Code.wp _ _ _ _ (w.alloc (.cells (cC a o u x) 77))
  rw [hy, hB]
  have HBB := Lib.hid hB
  clear hy hB
  obtain ⟨c0, c1, c2, c3⟩ := c.all
  have c := Lib.hid c
  go_wp2_with fail
  refine (HM.out _).mono ?_
  rintro e w1 ⟨rfl, hb⟩
  have HB := Lib.hid (bw.out.trans (hb.mono bw.out.size))
  have HC := Lib.hid (show CB B a o u x w1 from blk_at hb c.out)
  clear hb HM c0 c1 c2 c3 c
  have c0 := HC.out.all.1
  go_wp2_with fail
  refine (on_of (HO.out.below HB.out) a 32 ha).mono ?_
  rintro e w2 ⟨rfl, hb⟩
  rw [HE.out, show ofV (some ⟨A, 0, none⟩) a 32 3 = .agg #[.pointer none, .int .i64 0, .int .i64 0] from rfl]
  have HB2 := Lib.hid (HB.out.trans (hb.mono HB.out.size))
  clear hb c0 HC HB
  go_wp2_with fail
  go_ret
  exact ⟨rfl, HB2.out.alloc HB2.out.size _⟩
set_option maxRecDepth 100000 in
set_option maxHeartbeats 4000000 in
theorem write_ok (h : On A s w) (a o u x : Int) (ha : a ≤ 9223372036854775807) (hu : 0 ≤ u ∧ u < 18446744073709551616) (hx2 : x ≤ 9223372036854775807) (hm : mayB a o x = true) (he : thereE s.L s.es a 32 = 0) :
    Calls Try.prog 124 #[.pointer (some ⟨A, 0, none⟩), cV a o u x] w (Ret A { s with mm := wrM s.mm a.toNat a o u x } (.int .i64 0) w) := by
  obtain ⟨ha0, hpg, ho, hx⟩ := (mayB_iff a o x).1 hm
  have hbd := hd_bd a o u x ho hu ⟨hx, hx2⟩
  have HBD := Lib.hid hbd
  have HSH := Lib.hid (hd_short a o u x hbd)
  have hh := (there_iff h.good a 32).1 (by unfold thereE at he; cases hq : thereB s.L s.es a 32 with
    | true => rfl
    | false => rw [hq] at he; cases he)
  have hs := h.good.small
  obtain ⟨an, rfl⟩ := Int.eq_ofNat_of_zero_le ha0
  rw [Int.toNat_natCast]
  have han : an ≤ 4294967296 := by omega
  have HM := Lib.hid (fun w => may_any an o u x ha w)
  rw [hm] at HM
  have HK := Lib.hid (fun w => check_any an o u x w)
  have HO := Lib.hid h
  have HE := Lib.hid he
  have HEA : Hid (thereE s.L s.es (addrV an 32 0 (F4 4 : Nat)) (F4 4 : Nat) = 0) := Lib.hid (by rw [addr_hd, F4_at.2.2.2.2]; exact he)
  have q1 : IntKind.i64.wrap (o + 1) = o + 1 := IntWalk.i64_in _ (by omega)
  have q2 : IntKind.u64.wrap (o + 1) = o + 1 := by rw [IntKind.wrap_u64]; omega
  have q3 : IntKind.u64.wrap x = x := by rw [IntKind.wrap_u64]; omega
  have Q1 := Lib.hid q1; have Q2 := Lib.hid q2; have Q3 := Lib.hid q3
  have HNS := Lib.hid (fun y : World => hd_ns (w := y) an o u x)
  have HLN : Hid ((hdX an o u x).length = 4) := Lib.hid (hdX_len _ _ _ _)
  have HWM : Hid ({ s with mm := putR s.mm an F4 (hdX an o u x) 4 } = { s with mm := wrM s.mm an an o u x }) := Lib.hid rfl
  obtain ⟨K, hK⟩ : ∃ K, chkI an o u x = K := ⟨_, rfl⟩
  rw [hK] at HK HNS
  obtain ⟨xs, hxs⟩ : ∃ xs, hdX an o u x = xs := ⟨_, rfl⟩
  rw [hxs] at HNS HLN HWM HBD HSH
  obtain ⟨sW, hsW⟩ : ∃ y : ASt, { s with mm := wrM s.mm an an o u x } = y := ⟨_, rfl⟩
  rw [hsW] at HWM ⊢
  clear hm h he ha0 hpg ho hx hbd hh hs q1 q2 q3 hK hxs hsW hu
  go_enter Try.func124, Try.ntmps124
  go_upto_region 1 with fail
  have c := cb_new w an o u x
  have bw := Lib.hid (bel1 w (.cells (cC an o u x) 77))
  obtain ⟨y0, hy⟩ : ∃ y, w.alloc (.cells (cC an o u x) 77) = y := ⟨_, rfl⟩
  obtain ⟨B, hB⟩ : ∃ B, w.heap.size = B := ⟨_, rfl⟩
  rw [hy] at c bw
  rw [hB] at c
  change Code.wp _ _ _ _ (w.alloc (.cells (cC an o u x) 77))
  rw [hy, hB]
  have HBB := Lib.hid hB
  clear hy hB
  obtain ⟨c0, c1, c2, c3⟩ := c.all
  have c := Lib.hid c
  go_wp2_with fail
  refine (HM.out _).mono ?_
  rintro e w1 ⟨rfl, hb⟩
  have HB := Lib.hid (bw.out.trans (hb.mono bw.out.size))
  have HC := Lib.hid (show CB B an o u x w1 from blk_at hb c.out)
  clear hb HM c0 c1 c2 c3 c
  have c0 := HC.out.all.1
  go_wp2_with fail
  refine (on_of (HO.out.below HB.out) an 32 ha).mono ?_
  rintro e w2 ⟨rfl, hb⟩
  rw [HE.out, show ofV (some ⟨A, 0, none⟩) an 32 0 = .agg #[.pointer (some ⟨A, 0, none⟩), .int .i64 an, .int .i64 32] from rfl]
  have HB2 := Lib.hid (HB.out.trans (hb.mono HB.out.size))
  have HC2 := Lib.hid (show CB B an o u x w2 from blk_at hb HC.out)
  clear hb c0 HC HB
  go_upto_region 8 with fail
  obtain ⟨y, hy⟩ : ∃ y, (w2.alloc (.cells #[.pointer (some ⟨A, 0, none⟩), .int .i64 (an : Int), .int .i64 32] 55)) = y := ⟨_, rfl⟩
  have hlt := (Array.getElem?_eq_some_iff.1 HC2.out).1
  have hv : VC w2.heap.size (some ⟨A, 0, none⟩) an 32 y := by rw [← hy]; exact heap_new _ _
  have hc : CB B an o u x y := by
    unfold CB; rw [← hy]; exact (Below.heap_alloc _ _ _ hlt).trans HC2.out
  have hb : Below w.heap.size w y := by rw [← hy]; exact HB2.out.alloc HB2.out.size _
  change Code.wp _ _ _ _ (w2.alloc (.cells #[.pointer (some ⟨A, 0, none⟩), .int .i64 (an : Int), .int .i64 32] 55))
  rw [hy]
  obtain ⟨V, hV⟩ : ∃ V, w2.heap.size = V := ⟨_, rfl⟩
  rw [hV] at hv ⊢
  have hS0 : WS B V A an o u x an y.drew := (ws_mk hc hv).below (Below.refl _ _).drew
  have HB3 := Lib.hid (show Below w.heap.size w y.drew from hb.drew)
  clear hy hv hc hb hlt hV HB2 HC2 HE
  refine wp_region_held_drew (S := WS B V A an o u x an) (by kernel_rfl) hS0 (fun hHeld => ?_)
  clear hS0
  refine wpAnyH_take (i := 1) (v := .agg #[.pointer (some ⟨A, 0, none⟩), .int .i64 (an : Int), .int .i64 32]) rfl (by kernel_rfl) (by kernel_rfl) (by kernel_rfl) (fun _ _ _ h => h) (Or.inl ⟨by rfl, fun X hS => ?_⟩) hHeld ?_
  · obtain ⟨s0, s1, s2, s3, s4, s5, s6, s7⟩ := hS
    go_simp
  try simp only [Act.put, List.getElem_toArray, List.getElem_cons_zero, List.getElem_cons_succ, List.setIfInBounds_toArray, List.set_cons_zero, List.set_cons_succ]
  refine wpAnyH_take (i := 2) (v := .agg #[.int .i64 an, .int .i64 o, .int .u64 u, .int .i64 x]) rfl (by kernel_rfl) (by kernel_rfl) (by kernel_rfl) (fun _ _ _ h => h) (Or.inl ⟨by rfl, fun X hS => ?_⟩) hHeld ?_
  · obtain ⟨s0, s1, s2, s3, s4, s5, s6, s7⟩ := hS
    go_simp
  try simp only [Act.put, List.getElem_toArray, List.getElem_cons_zero, List.getElem_cons_succ, List.setIfInBounds_toArray, List.set_cons_zero, List.set_cons_succ]
  refine wpAnyH_take (i := 4) (v := (.pointer (some ⟨B, 1, none⟩))) rfl (by kernel_rfl) (by kernel_rfl) (by kernel_rfl) (fun _ _ _ h => h) (Or.inl ⟨by rfl, fun X hS => ?_⟩) hHeld ?_
  · obtain ⟨s0, s1, s2, s3, s4, s5, s6, s7⟩ := hS
    go_simp
  try simp only [Act.put, List.getElem_toArray, List.getElem_cons_zero, List.getElem_cons_succ, List.setIfInBounds_toArray, List.set_cons_zero, List.set_cons_succ]
  refine wpAnyH_take (i := 5) (v := .int .i64 o) rfl (by kernel_rfl) (by kernel_rfl) (by kernel_rfl) (fun _ _ _ h => h) (Or.inl ⟨by rfl, fun X hS => ?_⟩) hHeld ?_
  · obtain ⟨s0, s1, s2, s3, s4, s5, s6, s7⟩ := hS
    go_simp
  try simp only [Act.put, List.getElem_toArray, List.getElem_cons_zero, List.getElem_cons_succ, List.setIfInBounds_toArray, List.set_cons_zero, List.set_cons_succ]
  refine wpAnyH_take (i := 6) (v := .int .i64 (o + 1)) rfl (by kernel_rfl) (by kernel_rfl) (by kernel_rfl) (fun _ _ _ h => h) (Or.inl ⟨by rfl, fun X hS => ?_⟩) hHeld ?_
  · obtain ⟨s0, s1, s2, s3, s4, s5, s6, s7⟩ := hS
    have q1 := Q1.out
    go_simp
  try simp only [Act.put, List.getElem_toArray, List.getElem_cons_zero, List.getElem_cons_succ, List.setIfInBounds_toArray, List.set_cons_zero, List.set_cons_succ]
  refine wpAnyH_take (i := 7) (v := .int .u64 (o + 1)) rfl (by kernel_rfl) (by kernel_rfl) (by kernel_rfl) (fun _ _ _ h => h) (Or.inl ⟨by rfl, fun X hS => ?_⟩) hHeld ?_
  · obtain ⟨s0, s1, s2, s3, s4, s5, s6, s7⟩ := hS
    have q2 := Q2.out
    go_simp
  try simp only [Act.put, List.getElem_toArray, List.getElem_cons_zero, List.getElem_cons_succ, List.setIfInBounds_toArray, List.set_cons_zero, List.set_cons_succ]
  refine wpAnyH_take (i := 8) (v := (.pointer (some ⟨B, 2, none⟩))) rfl (by kernel_rfl) (by kernel_rfl) (by kernel_rfl) (fun _ _ _ h => h) (Or.inl ⟨by rfl, fun X hS => ?_⟩) hHeld ?_
  · obtain ⟨s0, s1, s2, s3, s4, s5, s6, s7⟩ := hS
    go_simp
  try simp only [Act.put, List.getElem_toArray, List.getElem_cons_zero, List.getElem_cons_succ, List.setIfInBounds_toArray, List.set_cons_zero, List.set_cons_succ]
  refine wpAnyH_take (i := 9) (v := .int .u64 u) rfl (by kernel_rfl) (by kernel_rfl) (by kernel_rfl) (fun _ _ _ h => h) (Or.inl ⟨by rfl, fun X hS => ?_⟩) hHeld ?_
  · obtain ⟨s0, s1, s2, s3, s4, s5, s6, s7⟩ := hS
    go_simp
  try simp only [Act.put, List.getElem_toArray, List.getElem_cons_zero, List.getElem_cons_succ, List.setIfInBounds_toArray, List.set_cons_zero, List.set_cons_succ]
  refine wpAnyH_take (i := 10) (v := (.pointer (some ⟨B, 3, none⟩))) rfl (by kernel_rfl) (by kernel_rfl) (by kernel_rfl) (fun _ _ _ h => h) (Or.inl ⟨by rfl, fun X hS => ?_⟩) hHeld ?_
  · obtain ⟨s0, s1, s2, s3, s4, s5, s6, s7⟩ := hS
    go_simp
  try simp only [Act.put, List.getElem_toArray, List.getElem_cons_zero, List.getElem_cons_succ, List.setIfInBounds_toArray, List.set_cons_zero, List.set_cons_succ]
  refine wpAnyH_take (i := 11) (v := .int .i64 x) rfl (by kernel_rfl) (by kernel_rfl) (by kernel_rfl) (fun _ _ _ h => h) (Or.inl ⟨by rfl, fun X hS => ?_⟩) hHeld ?_
  · obtain ⟨s0, s1, s2, s3, s4, s5, s6, s7⟩ := hS
    go_simp
  try simp only [Act.put, List.getElem_toArray, List.getElem_cons_zero, List.getElem_cons_succ, List.setIfInBounds_toArray, List.set_cons_zero, List.set_cons_succ]
  refine wpAnyH_take (i := 12) (v := .int .u64 x) rfl (by kernel_rfl) (by kernel_rfl) (by kernel_rfl) (fun _ _ _ h => h) (Or.inl ⟨by rfl, fun X hS => ?_⟩) hHeld ?_
  · obtain ⟨s0, s1, s2, s3, s4, s5, s6, s7⟩ := hS
    have q3 := Q3.out
    go_simp
  try simp only [Act.put, List.getElem_toArray, List.getElem_cons_zero, List.getElem_cons_succ, List.setIfInBounds_toArray, List.set_cons_zero, List.set_cons_succ]
  refine wpAnyH_ready (rs := [0]) (by kernel_rfl) (by simp) ?_
  refine AllReadyH.cons rfl (fun K1 hK1 => ?_) AllReadyH.nil
  · go_simp
    refine (header_any _).mono ?_
    rintro e x1 ⟨rfl, hb1⟩
    have HB1_ := Lib.hid (HB3.out.trans (hb1.mono HB3.out.size))
    have hS1 := hHeld.below hb1
    clear hHeld hb1
    refine hK1.out _ _ hS1 (fun hHeld => ?_)
    clear hK1 hS1
    try simp only [Act.put, List.getElem_toArray, List.getElem_cons_zero, List.getElem_cons_succ, List.setIfInBounds_toArray, List.set_cons_zero, List.set_cons_succ]
    refine wpAnyH_ready (rs := [3]) (by kernel_rfl) (by simp) (AllReadyH.cons rfl (fun K2 hK2 => ?_) AllReadyH.nil)
    go_simp
    refine (HK.out _).mono ?_
    rintro e x2 ⟨rfl, hb2⟩
    have HB2_ := Lib.hid (HB1_.out.trans (hb2.mono HB1_.out.size))
    have hS2 := hHeld.below hb2
    clear hHeld hb2
    refine hK2.out _ _ hS2 (fun hHeld => ?_)
    clear hK2 hS2
    try simp only [Act.put, List.getElem_toArray, List.getElem_cons_zero, List.getElem_cons_succ, List.setIfInBounds_toArray, List.set_cons_zero, List.set_cons_succ]
    refine wpAnyH_ready (rs := [13]) (by kernel_rfl) (by simp) (AllReadyH.cons rfl (fun K3 hK3 => ?_) AllReadyH.nil)
    go_simp
    have hS3 := hHeld.below (bel1 x2 (.cells #[.int .u64 K, .int .u64 (o + 1), .int .u64 u, .int .u64 x] 34))
    have hNS := HNS.out x2
    have hO2 := HO.out.below HB2_.out
    have hMine := Mine.new hO2 (.cells #[.int .u64 K, .int .u64 (o + 1), .int .u64 u, .int .u64 x] 34)
    have hO3 := hO2.below (bel1 x2 (.cells #[.int .u64 K, .int .u64 (o + 1), .int .u64 u, .int .u64 x] 34))
    have hW3 := Lib.hid (Went.of_below HO.out (HB2_.out.trans ((bel1 x2 (.cells #[.int .u64 K, .int .u64 (o + 1), .int .u64 u, .int .u64 x] 34)).mono HB2_.out.size)))
    obtain ⟨x3, hx3⟩ : ∃ x3, x2.alloc (.cells #[.int .u64 K, .int .u64 (o + 1), .int .u64 u, .int .u64 x] 34) = x3 := ⟨_, rfl⟩
    obtain ⟨Z, hZ⟩ : ∃ Z, x2.heap.size = Z := ⟨_, rfl⟩
    rw [hx3] at hS3 hNS hMine hO3 hW3 ⊢
    rw [hZ] at hNS hMine ⊢
    clear hHeld hO2 hx3 hZ HB2_ HB1_ HB3
    refine hK3.out _ _ hS3 (fun hHeld => ?_)
    clear hK3 hS3
    try simp only [Act.put, List.getElem_toArray, List.getElem_cons_zero, List.getElem_cons_succ, List.setIfInBounds_toArray, List.set_cons_zero, List.set_cons_succ]
    refine wpAnyH_ready (rs := [14]) (by kernel_rfl) (by simp) (AllReadyH.cons rfl (fun K4 hK4 => ?_) AllReadyH.nil)
    go_simp
    refine (fputn_yes hO3 4 F4 rec4 an 32 han (by omega) (some ⟨Z, 0, none⟩) 4 xs HLN.out hNS HBD.out HSH.out (fun b off e => by cases e; exact hMine.own) an (addr_hd an) HEA.out).mono ?_
    rintro e x4 ⟨rfl, hO4, hG4⟩
    rw [HWM.out] at hO4
    have hS4 := hHeld.went hO3 hG4
    have HF := Lib.hid (And.intro hO4 (hW3.out.trans hG4))
    clear hHeld hO3 hG4 hO4 hW3 hNS hMine
    refine hK4.out _ _ hS4 (fun hHeld => ?_)
    clear hK4 hS4
    try simp only [Act.put, List.getElem_toArray, List.getElem_cons_zero, List.getElem_cons_succ, List.setIfInBounds_toArray, List.set_cons_zero, List.set_cons_succ]
    refine wpAnyH_take (i := 15) (v := .int .i64 0) rfl (by kernel_rfl) (by kernel_rfl) (by kernel_rfl) (fun _ _ _ h => h) (Or.inl ⟨by rfl, fun X hS => ?_⟩) hHeld ?_
    · obtain ⟨s0, s1, s2, s3, s4, s5, s6, s7⟩ := hS
      go_simp
    try simp only [Act.put, List.getElem_toArray, List.getElem_cons_zero, List.getElem_cons_succ, List.setIfInBounds_toArray, List.set_cons_zero, List.set_cons_succ]
    refine wpAnyH_done (by kernel_rfl) ?_ _
    go_wp2_with fail
    go_ret
    exact ⟨rfl, HF.out.1, HF.out.2⟩
end
end Go.Proofs.Ytdmaendhkenmgaa.Bt
/- The contract of chunk.Read. -/
namespace Go.Proofs.Ytdmaendhkenmgaa.Bt
open Go Go.RowKit Go.Shelf
set_option linter.unusedVariables false
set_option linter.unusedSimpArgs false

theorem Try.infoChk : (Try.prog.info? 77).map (·.size) = some 4 := by kernel_rfl
theorem cC_size (a o u x : Int) : (cC a o u x).size = 4 := rfl
theorem cC_one (a o u x : Int) : (cC a o u x).all (·.oneCell') = true := by simp [cC, Value.oneCell']
/-- the variables of Read, ahead of the numbers -/
def RS (R V A an : Nat) (X : World) : Prop :=
  X.cell? ⟨V, 0, none⟩ = some (.pointer (some ⟨A, 0, none⟩)) ∧ X.cell? ⟨V, 1, none⟩ = some (.int .i64 (an : Int)) ∧ X.cell? ⟨V, 2, none⟩ = some (.int .i64 32) ∧ CB R 0 0 0 0 X ∧ VC V (some ⟨A, 0, none⟩) an 32 X
theorem rs_mk {R V A an : Nat} {X : World} (h : CB R 0 0 0 0 X) (k : VC V (some ⟨A, 0, none⟩) an 32 X) : RS R V A an X :=
  ⟨(cell_blk k 0).1, (cell_blk k 1).1, (cell_blk k 2).1, h, k⟩
theorem RS.below {R V A an : Nat} {X Y : World} (h : RS R V A an X) (hb : Below X.heap.size X Y) : RS R V A an Y := rs_mk (blk_at hb h.2.2.2.1) (blk_at hb h.2.2.2.2)
/-- behind them -/
def NB4 (N : Nat) (n0 n1 n2 n3 : Int) (X : World) : Prop := X.heap[N]? = some (.cells #[.int .u64 n0, .int .u64 n1, .int .u64 n2, .int .u64 n3] 34 (0, 0))
def RN (R N : Nat) (n0 n1 n2 n3 : Int) (X : World) : Prop :=
  X.cell? ⟨N, 0, none⟩ = some (.int .u64 n0) ∧ X.cell? ⟨N, 1, none⟩ = some (.int .u64 n1) ∧ X.cell? ⟨N, 2, none⟩ = some (.int .u64 n2) ∧ X.cell? ⟨N, 3, none⟩ = some (.int .u64 n3) ∧ CB R 0 0 0 0 X ∧ NB4 N n0 n1 n2 n3 X
theorem rn_mk {R N : Nat} {n0 n1 n2 n3 : Int} {X : World} (h : CB R 0 0 0 0 X) (k : NB4 N n0 n1 n2 n3 X) : RN R N n0 n1 n2 n3 X :=
  ⟨(cell_blk k 0).1, (cell_blk k 1).1, (cell_blk k 2).1, (cell_blk k 3).1, h, k⟩
theorem RN.below {R N : Nat} {n0 n1 n2 n3 : Int} {X Y : World} (h : RN R N n0 n1 n2 n3 X) (hb : Below X.heap.size X Y) : RN R N n0 n1 n2 n3 Y := rn_mk (blk_at hb h.2.2.2.2.1) (blk_at hb h.2.2.2.2.2)
/-- the chunk's variable, too -/
def RC (R N C : Nat) (n0 n1 n2 n3 : Int) (a o u x : Int) (X : World) : Prop :=
  X.cell? ⟨C, 0, none⟩ = some (.int .i64 a) ∧ X.cell? ⟨C, 1, none⟩ = some (.int .i64 o) ∧ X.cell? ⟨C, 2, none⟩ = some (.int .u64 u) ∧ X.cell? ⟨C, 3, none⟩ = some (.int .i64 x) ∧ X.cell? ⟨N, 0, none⟩ = some (.int .u64 n0) ∧ CB R 0 0 0 0 X ∧ NB4 N n0 n1 n2 n3 X ∧ CB C a o u x X
theorem rc_mk {R N C : Nat} {n0 n1 n2 n3 a o u x : Int} {X : World} (h : CB R 0 0 0 0 X) (k : NB4 N n0 n1 n2 n3 X) (l : CB C a o u x X) : RC R N C n0 n1 n2 n3 a o u x X :=
  ⟨l.all.1, l.all.2.1, l.all.2.2.1, l.all.2.2.2, (cell_blk k 0).1, h, k, l⟩
theorem RC.below {R N C : Nat} {n0 n1 n2 n3 a o u x : Int} {X Y : World} (h : RC R N C n0 n1 n2 n3 a o u x X) (hb : Below X.heap.size X Y) : RC R N C n0 n1 n2 n3 a o u x Y := rc_mk (blk_at hb h.2.2.2.2.2.1) (blk_at hb h.2.2.2.2.2.2.1) (blk_at hb h.2.2.2.2.2.2.2)
theorem built0C : (Try.prog.built 77 []).getD #[] = cC 0 0 0 0 := by kernel_rfl
section
variable {A : Nat} {s : ASt} {w : World}
theorem read_range (h : On A s w) (a : Int) (ha : a ≤ 9223372036854775807) (he : thereE s.L s.es a 32 ≠ 0) :
    Calls Try.prog 125 #[.pointer (some ⟨A, 0, none⟩), .int .i64 a] w (Gives (.tuple #[cV 0 0 0 0, .int .i64 3]) w) := by
  have e3 : thereE s.L s.es a 32 = 3 := by unfold thereE at he ⊢; split <;> simp_all
  have HO := Lib.hid (h.below (bel1 w (.cells (cC 0 0 0 0) 77)))
  have HE := Lib.hid e3
  have HR := Lib.hid (cb_new w 0 0 0 0)
  have HB := Lib.hid (bel1 w (.cells (cC 0 0 0 0) 77))
  have HSZ : Hid (∀ a o u x, (Try.prog.info? 77).map (·.size) = some (cC a o u x).size) := Lib.hid (fun a o u x => Try.infoChk)
  clear h he e3
  go_enter Try.func125, Try.ntmps125
  go_upto_region 1 with fail
  obtain ⟨x, hx⟩ : ∃ x, w.alloc (.cells (cC 0 0 0 0) 77) = x := ⟨_, rfl⟩
  obtain ⟨R, hRR⟩ : ∃ R, w.heap.size = R := ⟨_, rfl⟩
  rw [hx] at HO HR HB
  rw [hRR] at HR
  change Code.wp _ _ _ _ (w.alloc (.cells (cC 0 0 0 0) 77))
  rw [hx, hRR]
  have HRR := Lib.hid (show w.heap.size ≤ R by omega)
  clear hx hRR
  go_wp2_with fail
  refine (on_of HO.out a 32 ha).mono ?_
  rintro e w2 ⟨rfl, hb⟩
  rw [HE.out, show ofV (some ⟨A, 0, none⟩) a 32 3 = .agg #[.pointer none, .int .i64 0, .int .i64 0] from rfl]
  have HB2 := Lib.hid (HB.out.trans (hb.mono HB.out.size))
  have HR2 := Lib.hid (show CB R 0 0 0 0 w2 from blk_at hb HR.out)
  clear hb HR HB
  go_upto_region 2 with fail
  obtain ⟨y, hy⟩ : ∃ y, (w2.alloc (.cells #[.pointer none, .int .i64 0, .int .i64 0] 55)) = y := ⟨_, rfl⟩
  have hlt := (Array.getElem?_eq_some_iff.1 HR2.out).1
  have hc : CB R 0 0 0 0 y := by
    unfold CB; rw [← hy]; exact (Below.heap_alloc _ _ _ hlt).trans HR2.out
  have hb : Below w.heap.size w y := by rw [← hy]; exact HB2.out.alloc HB2.out.size _
  change Code.wp _ _ _ _ (w2.alloc (.cells #[.pointer none, .int .i64 0, .int .i64 0] 55))
  rw [hy]
  have HC := Lib.hid hc; have HBY := Lib.hid hb
  clear hlt hc hb hy HR2 HB2
  go_wp2_with (first | (refine wpList_store_row rfl 77 (.tmp 4) (.tmp 18) rfl R (cC 0 0 0 0) rfl rfl 77 (cC 0 0 0 0) HC.out (HSZ.out _ _ _ _) rfl (cC_one _ _ _ _) ?_))
  have hl := run_loadVar_row (P := Try.prog) (y.setRow R (cC 0 0 0 0)) R 77 77 (cC 0 0 0 0) (0, 0) _ (setRow_ad HC.out _) Try.underlying77 rfl (HSZ.out _ _ _ _)
  exact bodyPost_ret (v := .tuple #[cV 0 0 0 0, .int .i64 3]) (by simp [results, Try.results125, asAddr, hl, Act.put]; rfl) rfl ⟨rfl, below_setRow HBY.out HRR.out _⟩
set_option maxRecDepth 100000 in
set_option maxHeartbeats 4000000 in
theorem read_there (h : On A s w) (a : Int) (ha : a ≤ 9223372036854775807) (he : thereE s.L s.es a 32 = 0) :
    Calls Try.prog 125 #[.pointer (some ⟨A, 0, none⟩), .int .i64 a] w (Gives (rdV s a) w) := by
  have hh := (there_iff h.good a 32).1 (by unfold thereE at he; cases hq : thereB s.L s.es a 32 with
    | true => rfl
    | false => rw [hq] at he; cases he)
  have hs := h.good.small
  obtain ⟨an, rfl⟩ := Int.eq_ofNat_of_zero_le hh.1
  have han : an ≤ 4294967296 := by omega
  have hV : rdV s an = (if mayB an (rdO s.mm an) (rdX s.mm an) && decide (chkI an (rdO s.mm an) (rdU s.mm an) (rdX s.mm an) = n4 s.mm an 0) then .tuple #[cV an (rdO s.mm an) (rdU s.mm an) (rdX s.mm an), .int .i64 0] else .tuple #[cV 0 0 0 0, .int .i64 7]) := by
    unfold rdV stB; rw [if_pos he, Int.toNat_natCast]
  have HRV := Lib.hid hV
  have HEA : Hid (thereE s.L s.es (addrV an 32 0 (F4 4 : Nat)) (F4 4 : Nat) = 0) := Lib.hid (by rw [addr_hd, F4_at.2.2.2.2]; exact he)
  have hn : numC 4 (allV s an F4) 4 = #[.int .u64 (n4 s.mm an 0), .int .u64 (n4 s.mm an 1), .int .u64 (n4 s.mm an 2), .int .u64 (n4 s.mm an 3)] := by
    rw [← allV_n4 s an 0 (by omega), ← allV_n4 s an 1 (by omega), ← allV_n4 s an 2 (by omega), ← allV_n4 s an 3 (by omega)]; rfl
  have HNC := Lib.hid hn
  have HO := Lib.hid (h.below (bel1 w (.cells (cC 0 0 0 0) 77)))
  have HOW := Lib.hid h
  have HE := Lib.hid he
  have HR := Lib.hid (cb_new w 0 0 0 0)
  have HB := Lib.hid (bel1 w (.cells (cC 0 0 0 0) 77))
  have HSZ : Hid (∀ a o u x, (Try.prog.info? 77).map (·.size) = some (cC a o u x).size) := Lib.hid (fun a o u x => Try.infoChk)
  have QO : Hid (IntKind.i64.wrap (wrap64 (n4 s.mm an 1) - 1) = rdO s.mm an) := Lib.hid (wr64 _)
  have QN : Hid (IntKind.i64.wrap (n4 s.mm an 1) = wrap64 (n4 s.mm an 1)) := Lib.hid (wr64 _)
  have QX : Hid (IntKind.i64.wrap (n4 s.mm an 3) = rdX s.mm an) := Lib.hid (wr64 _)
  have QU : Hid (n4 s.mm an 2 = rdU s.mm an) := Lib.hid rfl
  obtain ⟨O, hO⟩ : ∃ O, rdO s.mm an = O := ⟨_, rfl⟩
  obtain ⟨U, hU⟩ : ∃ U, rdU s.mm an = U := ⟨_, rfl⟩
  obtain ⟨Z, hZ⟩ : ∃ Z, rdX s.mm an = Z := ⟨_, rfl⟩
  obtain ⟨n0, hn0⟩ : ∃ n, n4 s.mm an 0 = n := ⟨_, rfl⟩
  obtain ⟨n1, hn1⟩ : ∃ n, n4 s.mm an 1 = n := ⟨_, rfl⟩
  obtain ⟨n2, hn2⟩ : ∃ n, n4 s.mm an 2 = n := ⟨_, rfl⟩
  obtain ⟨n3, hn3⟩ : ∃ n, n4 s.mm an 3 = n := ⟨_, rfl⟩
  rw [hO, hU, hZ, hn0] at HRV
  rw [hn0, hn1, hn2, hn3] at HNC
  rw [hn1, hO] at QO
  rw [hn1] at QN
  rw [hn2, hU] at QU
  rw [hn3, hZ] at QX
  have HKM := Lib.hid (fun w => may_any an O U Z ha w)
  have HKC := Lib.hid (fun w => check_any an O U Z w)
  obtain ⟨MB, hMB⟩ : ∃ b, mayB an O Z = b := ⟨_, rfl⟩
  obtain ⟨CK, hCK⟩ : ∃ b, chkI an O U Z = b := ⟨_, rfl⟩
  rw [hMB, hCK] at HRV
  rw [hMB] at HKM
  rw [hCK] at HKC
  clear h he hh hs hV hn hO hU hZ hn0 hn1 hn2 hn3 hMB hCK
  go_enter Try.func125, Try.ntmps125
  go_upto_region 1 with fail
  obtain ⟨x, hx⟩ : ∃ x, w.alloc (.cells (cC 0 0 0 0) 77) = x := ⟨_, rfl⟩
  obtain ⟨R, hRR⟩ : ∃ R, w.heap.size = R := ⟨_, rfl⟩
  rw [hx] at HO HR HB
  rw [hRR] at HR
  change Code.wp _ _ _ _ (w.alloc (.cells (cC 0 0 0 0) 77))
  rw [hx, hRR]
  have HRR := Lib.hid (show w.heap.size ≤ R by omega)
  clear hx hRR
  go_wp2_with fail
  refine (on_of HO.out an 32 ha).mono ?_
  rintro e w2 ⟨rfl, hb⟩
  rw [HE.out, show ofV (some ⟨A, 0, none⟩) an 32 0 = .agg #[.pointer (some ⟨A, 0, none⟩), .int .i64 an, .int .i64 32] from rfl]
  have HB2 := Lib.hid (HB.out.trans (hb.mono HB.out.size))
  have HR2 := Lib.hid (show CB R 0 0 0 0 w2 from blk_at hb HR.out)
  clear hb HR HB HO HE
  go_upto_region 2 with fail
  obtain ⟨y, hy⟩ : ∃ y, (w2.alloc (.cells #[.pointer (some ⟨A, 0, none⟩), .int .i64 (an : Int), .int .i64 32] 55)) = y := ⟨_, rfl⟩
  have hlt := (Array.getElem?_eq_some_iff.1 HR2.out).1
  have hv : VC w2.heap.size (some ⟨A, 0, none⟩) an 32 y := by rw [← hy]; exact heap_new _ _
  have hc : CB R 0 0 0 0 y := by
    unfold CB; rw [← hy]; exact (Below.heap_alloc _ _ _ hlt).trans HR2.out
  have hb : Below w.heap.size w y := by rw [← hy]; exact HB2.out.alloc HB2.out.size _
  change Code.wp _ _ _ _ (w2.alloc (.cells #[.pointer (some ⟨A, 0, none⟩), .int .i64 (an : Int), .int .i64 32] 55))
  rw [hy]
  obtain ⟨V, hV⟩ : ∃ V, w2.heap.size = V := ⟨_, rfl⟩
  rw [hV] at hv ⊢
  have HS := Lib.hid (rs_mk hc hv)
  have HBY := Lib.hid hb
  clear hlt hv hc hb hy hV HR2 HB2
  go_upto_region 4 with fail
  have hS0 : RS R V A an y.drew := HS.out.below (Below.refl _ _).drew
  have HB3 := Lib.hid (show Below w.heap.size w y.drew from HBY.out.drew)
  clear HS HBY
  refine wp_region_held_drew (S := RS R V A an) (by kernel_rfl) hS0 (fun hHeld => ?_)
  clear hS0
  refine wpAnyH_take (i := 1) (v := .agg #[.pointer (some ⟨A, 0, none⟩), .int .i64 (an : Int), .int .i64 32]) rfl (by kernel_rfl) (by kernel_rfl) (by kernel_rfl) (fun _ _ _ h => h) (Or.inl ⟨by rfl, fun X hS => ?_⟩) hHeld ?_
  · obtain ⟨s0, s1, s2, s3⟩ := hS
    go_simp
  try simp only [Act.put, List.getElem_toArray, List.getElem_cons_zero, List.getElem_cons_succ, List.setIfInBounds_toArray, List.set_cons_zero, List.set_cons_succ]
  refine wpAnyH_ready (rs := [0]) (by kernel_rfl) (by simp) (AllReadyH.cons rfl (fun K1 hK1 => ?_) AllReadyH.nil)
  go_simp
  refine (header_any _).mono ?_
  rintro e x1 ⟨rfl, hb1⟩
  have HB4 := Lib.hid (HB3.out.trans (hb1.mono HB3.out.size))
  have hS1 := hHeld.below hb1
  clear hHeld hb1
  refine hK1.out _ _ hS1 (fun hHeld => ?_)
  clear hK1 hS1
  try simp only [Act.put, List.getElem_toArray, List.getElem_cons_zero, List.getElem_cons_succ, List.setIfInBounds_toArray, List.set_cons_zero, List.set_cons_succ]
  refine wpAnyH_ready (rs := [2]) (by kernel_rfl) (by simp) (AllReadyH.cons rfl (fun K2 hK2 => ?_) AllReadyH.nil)
  go_simp
  refine (fall_on (HOW.out.below HB4.out) 4 F4 rec4 an 32 han (by omega) an (addr_hd an) HEA.out).mono ?_
  rintro e x2 ⟨N, rfl, hN, hNlt, hb2⟩
  rw [HNC.out] at hN
  have HB5 := Lib.hid (HB4.out.trans (hb2.mono HB4.out.size))
  have hS2 := hHeld.below hb2
  have HNB := Lib.hid (show NB4 N n0 n1 n2 n3 x2 from hN)
  have HCR := Lib.hid hS2.2.2.2.1
  clear hHeld hb2 hN hNlt HB3 HB4 HOW HEA HNC
  refine hK2.out _ _ hS2 (fun hHeld => ?_)
  clear hK2 hS2
  try simp only [Act.put, List.getElem_toArray, List.getElem_cons_zero, List.getElem_cons_succ, List.setIfInBounds_toArray, List.set_cons_zero, List.set_cons_succ]
  refine wpAnyH_take (i := 3) (v := .tuple #[.slice (some ⟨N, 0, none⟩) 4 4, .int .i64 0]) rfl (by kernel_rfl) (by kernel_rfl) (by kernel_rfl) (fun _ _ _ h => h) (Or.inl ⟨by rfl, fun X hS => ?_⟩) hHeld ?_
  · obtain ⟨s0, s1, s2, s3⟩ := hS
    go_simp
  try simp only [Act.put, List.getElem_toArray, List.getElem_cons_zero, List.getElem_cons_succ, List.setIfInBounds_toArray, List.set_cons_zero, List.set_cons_succ]
  refine wpAnyH_take (i := 4) (v := .slice (some ⟨N, 0, none⟩) 4 4) rfl (by kernel_rfl) (by kernel_rfl) (by kernel_rfl) (fun _ _ _ h => h) (Or.inl ⟨by rfl, fun X hS => ?_⟩) hHeld ?_
  · obtain ⟨s0, s1, s2, s3⟩ := hS
    go_simp
  try simp only [Act.put, List.getElem_toArray, List.getElem_cons_zero, List.getElem_cons_succ, List.setIfInBounds_toArray, List.set_cons_zero, List.set_cons_succ]
  refine wpAnyH_take (i := 5) (v := .int .i64 0) rfl (by kernel_rfl) (by kernel_rfl) (by kernel_rfl) (fun _ _ _ h => h) (Or.inl ⟨by rfl, fun X hS => ?_⟩) hHeld ?_
  · obtain ⟨s0, s1, s2, s3⟩ := hS
    go_simp
  try simp only [Act.put, List.getElem_toArray, List.getElem_cons_zero, List.getElem_cons_succ, List.setIfInBounds_toArray, List.set_cons_zero, List.set_cons_succ]
  refine wpAnyH_take (i := 6) (v := .slice (some ⟨N, 0, none⟩) 4 4) rfl (by kernel_rfl) (by kernel_rfl) (by kernel_rfl) (fun _ _ _ h => h) (Or.inl ⟨by rfl, fun X hS => ?_⟩) hHeld ?_
  · obtain ⟨s0, s1, s2, s3⟩ := hS
    go_simp
  try simp only [Act.put, List.getElem_toArray, List.getElem_cons_zero, List.getElem_cons_succ, List.setIfInBounds_toArray, List.set_cons_zero, List.set_cons_succ]
  refine wpAnyH_take (i := 7) (v := .int .i64 0) rfl (by kernel_rfl) (by kernel_rfl) (by kernel_rfl) (fun _ _ _ h => h) (Or.inl ⟨by rfl, fun X hS => ?_⟩) hHeld ?_
  · obtain ⟨s0, s1, s2, s3⟩ := hS
    go_simp
  try simp only [Act.put, List.getElem_toArray, List.getElem_cons_zero, List.getElem_cons_succ, List.setIfInBounds_toArray, List.set_cons_zero, List.set_cons_succ]
  refine wpAnyH_done (by kernel_rfl) ?_ _
  clear hHeld
  go_upto_region 7 with fail
  have hS0 : RN R N n0 n1 n2 n3 x2.drew := (rn_mk HCR.out HNB.out).below (Below.refl _ _).drew
  have HB6 := Lib.hid (show Below w.heap.size w x2.drew from HB5.out.drew)
  refine wp_region_held_drew (S := RN R N n0 n1 n2 n3) (by kernel_rfl) hS0 (fun hHeld => ?_)
  clear hS0
  refine wpAnyH_take (i := 0) (v := .int .i64 an) rfl (by kernel_rfl) (by kernel_rfl) (by kernel_rfl) (fun _ _ _ h => h) (Or.inl ⟨by rfl, fun X hS => ?_⟩) hHeld ?_
  · obtain ⟨s0, s1, s2, s3, s4⟩ := hS
    go_simp
  try simp only [Act.put, List.getElem_toArray, List.getElem_cons_zero, List.getElem_cons_succ, List.setIfInBounds_toArray, List.set_cons_zero, List.set_cons_succ]
  refine wpAnyH_take (i := 1) (v := .slice (some ⟨N, 0, none⟩) 4 4) rfl (by kernel_rfl) (by kernel_rfl) (by kernel_rfl) (fun _ _ _ h => h) (Or.inl ⟨by rfl, fun X hS => ?_⟩) hHeld ?_
  · obtain ⟨s0, s1, s2, s3, s4⟩ := hS
    go_simp
  try simp only [Act.put, List.getElem_toArray, List.getElem_cons_zero, List.getElem_cons_succ, List.setIfInBounds_toArray, List.set_cons_zero, List.set_cons_succ]
  refine wpAnyH_take (i := 2) (v := .pointer (some ⟨N, 1, none⟩)) rfl (by kernel_rfl) (by kernel_rfl) (by kernel_rfl) (fun _ _ _ h => h) (Or.inl ⟨by rfl, fun X hS => ?_⟩) hHeld ?_
  · obtain ⟨s0, s1, s2, s3, s4⟩ := hS
    go_simp
  try simp only [Act.put, List.getElem_toArray, List.getElem_cons_zero, List.getElem_cons_succ, List.setIfInBounds_toArray, List.set_cons_zero, List.set_cons_succ]
  refine wpAnyH_take (i := 3) (v := .int .u64 n1) rfl (by kernel_rfl) (by kernel_rfl) (by kernel_rfl) (fun _ _ _ h => h) (Or.inl ⟨by rfl, fun X hS => ?_⟩) hHeld ?_
  · obtain ⟨s0, s1, s2, s3, s4⟩ := hS
    go_simp
  try simp only [Act.put, List.getElem_toArray, List.getElem_cons_zero, List.getElem_cons_succ, List.setIfInBounds_toArray, List.set_cons_zero, List.set_cons_succ]
  refine wpAnyH_take (i := 4) (v := .int .i64 (wrap64 n1)) rfl (by kernel_rfl) (by kernel_rfl) (by kernel_rfl) (fun _ _ _ h => h) (Or.inl ⟨by rfl, fun X hS => ?_⟩) hHeld ?_
  · obtain ⟨s0, s1, s2, s3, s4⟩ := hS
    have qn := QN.out
    go_simp
  try simp only [Act.put, List.getElem_toArray, List.getElem_cons_zero, List.getElem_cons_succ, List.setIfInBounds_toArray, List.set_cons_zero, List.set_cons_succ]
  refine wpAnyH_take (i := 5) (v := .int .i64 O) rfl (by kernel_rfl) (by kernel_rfl) (by kernel_rfl) (fun _ _ _ h => h) (Or.inl ⟨by rfl, fun X hS => ?_⟩) hHeld ?_
  · obtain ⟨s0, s1, s2, s3, s4⟩ := hS
    have qo := QO.out
    go_simp
  try simp only [Act.put, List.getElem_toArray, List.getElem_cons_zero, List.getElem_cons_succ, List.setIfInBounds_toArray, List.set_cons_zero, List.set_cons_succ]
  refine wpAnyH_take (i := 6) (v := .slice (some ⟨N, 0, none⟩) 4 4) rfl (by kernel_rfl) (by kernel_rfl) (by kernel_rfl) (fun _ _ _ h => h) (Or.inl ⟨by rfl, fun X hS => ?_⟩) hHeld ?_
  · obtain ⟨s0, s1, s2, s3, s4⟩ := hS
    go_simp
  try simp only [Act.put, List.getElem_toArray, List.getElem_cons_zero, List.getElem_cons_succ, List.setIfInBounds_toArray, List.set_cons_zero, List.set_cons_succ]
  refine wpAnyH_take (i := 7) (v := .pointer (some ⟨N, 2, none⟩)) rfl (by kernel_rfl) (by kernel_rfl) (by kernel_rfl) (fun _ _ _ h => h) (Or.inl ⟨by rfl, fun X hS => ?_⟩) hHeld ?_
  · obtain ⟨s0, s1, s2, s3, s4⟩ := hS
    go_simp
  try simp only [Act.put, List.getElem_toArray, List.getElem_cons_zero, List.getElem_cons_succ, List.setIfInBounds_toArray, List.set_cons_zero, List.set_cons_succ]
  refine wpAnyH_take (i := 8) (v := .int .u64 n2) rfl (by kernel_rfl) (by kernel_rfl) (by kernel_rfl) (fun _ _ _ h => h) (Or.inl ⟨by rfl, fun X hS => ?_⟩) hHeld ?_
  · obtain ⟨s0, s1, s2, s3, s4⟩ := hS
    go_simp
  try simp only [Act.put, List.getElem_toArray, List.getElem_cons_zero, List.getElem_cons_succ, List.setIfInBounds_toArray, List.set_cons_zero, List.set_cons_succ]
  refine wpAnyH_take (i := 9) (v := .slice (some ⟨N, 0, none⟩) 4 4) rfl (by kernel_rfl) (by kernel_rfl) (by kernel_rfl) (fun _ _ _ h => h) (Or.inl ⟨by rfl, fun X hS => ?_⟩) hHeld ?_
  · obtain ⟨s0, s1, s2, s3, s4⟩ := hS
    go_simp
  try simp only [Act.put, List.getElem_toArray, List.getElem_cons_zero, List.getElem_cons_succ, List.setIfInBounds_toArray, List.set_cons_zero, List.set_cons_succ]
  refine wpAnyH_take (i := 10) (v := .pointer (some ⟨N, 3, none⟩)) rfl (by kernel_rfl) (by kernel_rfl) (by kernel_rfl) (fun _ _ _ h => h) (Or.inl ⟨by rfl, fun X hS => ?_⟩) hHeld ?_
  · obtain ⟨s0, s1, s2, s3, s4⟩ := hS
    go_simp
  try simp only [Act.put, List.getElem_toArray, List.getElem_cons_zero, List.getElem_cons_succ, List.setIfInBounds_toArray, List.set_cons_zero, List.set_cons_succ]
  refine wpAnyH_take (i := 11) (v := .int .u64 n3) rfl (by kernel_rfl) (by kernel_rfl) (by kernel_rfl) (fun _ _ _ h => h) (Or.inl ⟨by rfl, fun X hS => ?_⟩) hHeld ?_
  · obtain ⟨s0, s1, s2, s3, s4⟩ := hS
    go_simp
  try simp only [Act.put, List.getElem_toArray, List.getElem_cons_zero, List.getElem_cons_succ, List.setIfInBounds_toArray, List.set_cons_zero, List.set_cons_succ]
  refine wpAnyH_take (i := 12) (v := .int .i64 Z) rfl (by kernel_rfl) (by kernel_rfl) (by kernel_rfl) (fun _ _ _ h => h) (Or.inl ⟨by rfl, fun X hS => ?_⟩) hHeld ?_
  · obtain ⟨s0, s1, s2, s3, s4⟩ := hS
    have qx := QX.out
    go_simp
  try simp only [Act.put, List.getElem_toArray, List.getElem_cons_zero, List.getElem_cons_succ, List.setIfInBounds_toArray, List.set_cons_zero, List.set_cons_succ]
  refine wpAnyH_take (i := 13) (v := .agg #[.int .i64 an, .int .i64 O, .int .u64 U, .int .i64 Z]) rfl (by kernel_rfl) (by kernel_rfl) (by kernel_rfl) (fun _ _ _ h => h) (Or.inl ⟨by rfl, fun X hS => ?_⟩) hHeld ?_
  · obtain ⟨s0, s1, s2, s3, s4⟩ := hS
    have qu := QU.out; subst qu
    go_simp
  try simp only [Act.put, List.getElem_toArray, List.getElem_cons_zero, List.getElem_cons_succ, List.setIfInBounds_toArray, List.set_cons_zero, List.set_cons_succ]
  refine wpAnyH_ready (rs := [14]) (by kernel_rfl) (by simp) (AllReadyH.cons rfl (fun K1 hK1 => ?_) AllReadyH.nil)
  go_simp
  have bz : Below x2.heap.size x2 (x2.alloc (.cells (cC 0 0 0 0) 77)).drew := (bel1 x2 _).drew
  have hC0 : CB x2.heap.size 0 0 0 0 (x2.alloc (.cells (cC 0 0 0 0) 77)).drew := blk_at (Below.refl _ _).drew (cb_new x2 0 0 0 0)
  have hlN := (Array.getElem?_eq_some_iff.1 HNB.out).1
  have hlR := (Array.getElem?_eq_some_iff.1 HCR.out).1
  have hN1 : NB4 N n0 n1 n2 n3 (x2.alloc (.cells (cC 0 0 0 0) 77)).drew := blk_at bz HNB.out
  have hR1 : CB R 0 0 0 0 (x2.alloc (.cells (cC 0 0 0 0) 77)).drew := blk_at bz HCR.out
  have hB1 : Below w.heap.size w (x2.alloc (.cells (cC 0 0 0 0) 77)).drew := HB5.out.trans (bz.mono HB5.out.size)
  have hCw : w.heap.size ≤ x2.heap.size := HB5.out.size
  change K1 _ (x2.alloc (.cells (cC 0 0 0 0) 77)).drew
  obtain ⟨z, hz⟩ : ∃ z, (x2.alloc (.cells (cC 0 0 0 0) 77)).drew = z := ⟨_, rfl⟩
  obtain ⟨C, hC⟩ : ∃ C, x2.heap.size = C := ⟨_, rfl⟩
  rw [hz] at hC0 hN1 hR1 hB1 ⊢
  rw [hC] at hC0 hlN hlR hCw ⊢
  have HN1 := Lib.hid hN1; have HR1 := Lib.hid hR1; have HC1 := Lib.hid hC0; have HB7 := Lib.hid hB1
  have HNE := Lib.hid (show N ≠ C ∧ R ≠ C by omega)
  have HCW := Lib.hid hCw
  have hS1 := rn_mk hR1 hN1
  clear bz hC0 hlN hlR hN1 hR1 hB1 hz hC hHeld HB6 HB5 HNB HCR hCw
  refine hK1.out _ _ hS1 (fun hHeld => ?_)
  clear hK1 hS1
  try simp only [Act.put, List.getElem_toArray, List.getElem_cons_zero, List.getElem_cons_succ, List.setIfInBounds_toArray, List.set_cons_zero, List.set_cons_succ]
  refine wpAnyH_ready (rs := [15]) (by kernel_rfl) (by simp) (AllReadyH.cons rfl (fun K2 hK2 => ?_) AllReadyH.nil)
  rw [if_pos (by rfl)]
  refine wp_store_row 77 (.tmp 9) (.tmp 43) rfl C (cC an O U Z) rfl rfl 77 (cC 0 0 0 0) HC1.out (HSZ.out _ _ _ _) rfl (cC_one _ _ _ _) ?_
  have hC2 : CB C an O U Z (z.setRow C (cC an O U Z)) := setRow_ad HC1.out _
  have hN2 : NB4 N n0 n1 n2 n3 (z.setRow C (cC an O U Z)) := by unfold NB4; rw [setRow_other _ _ _ _ HNE.out.1]; exact HN1.out
  have hR2 : CB R 0 0 0 0 (z.setRow C (cC an O U Z)) := by unfold CB; rw [setRow_other _ _ _ _ HNE.out.2]; exact HR1.out
  have hB2 : Below w.heap.size w (z.setRow C (cC an O U Z)) := below_setRow HB7.out HCW.out _
  have hS2 := rn_mk hR2 hN2
  refine hK2.out _ _ hS2 (fun hHeld => ?_)
  clear hK2 hS2 hHeld HN1 HR1 HC1 HB7 HNE HCW
  try simp only [Act.put, List.getElem_toArray, List.getElem_cons_zero, List.getElem_cons_succ, List.setIfInBounds_toArray, List.set_cons_zero, List.set_cons_succ]
  refine wpAnyH_done (by kernel_rfl) ?_ _
  obtain ⟨z2, hz2⟩ : ∃ z2, z.setRow C (cC an O U Z) = z2 := ⟨_, rfl⟩
  rw [hz2] at hC2 hN2 hR2 hB2 ⊢
  have hS0 : RC R N C n0 n1 n2 n3 an O U Z z2.drew := (rc_mk hR2 hN2 hC2).below (Below.refl _ _).drew
  have HB8 := Lib.hid (show Below w.heap.size w z2.drew from hB2.drew)
  clear hC2 hN2 hR2 hB2 hz2
  go_upto_region 8 with fail
  refine wp_region_held_drew (S := RC R N C n0 n1 n2 n3 an O U Z) (by kernel_rfl) hS0 (fun hHeld => ?_)
  clear hS0
  refine wpAnyH_take (i := 0) (v := .agg #[.int .i64 an, .int .i64 O, .int .u64 U, .int .i64 Z]) rfl (by kernel_rfl) (by kernel_rfl) (by kernel_rfl) (fun _ _ _ h => h) (Or.inl ⟨by rfl, fun X hS => ?_⟩) hHeld ?_
  · obtain ⟨s0, s1, s2, s3, s4, s5, s6, s7⟩ := hS
    go_simp
  try simp only [Act.put, List.getElem_toArray, List.getElem_cons_zero, List.getElem_cons_succ, List.setIfInBounds_toArray, List.set_cons_zero, List.set_cons_succ]
  refine wpAnyH_ready (rs := [1]) (by kernel_rfl) (by simp) (AllReadyH.cons rfl (fun K1 hK1 => ?_) AllReadyH.nil)
  go_simp
  refine (HKM.out _).mono ?_
  rintro e z3 ⟨rfl, hb3⟩
  have HB9 := Lib.hid (HB8.out.trans (hb3.mono HB8.out.size))
  have hS1 := hHeld.below hb3
  have HR3 := Lib.hid hS1.2.2.2.2.2.1
  clear hHeld hb3 HB8 HKM
  refine hK1.out _ _ hS1 (fun hHeld => ?_)
  clear hK1 hS1
  try simp only [Act.put, List.getElem_toArray, List.getElem_cons_zero, List.getElem_cons_succ, List.setIfInBounds_toArray, List.set_cons_zero, List.set_cons_succ]
  cases MB with
  | false =>
    refine wpAnyH_take (i := 2) (v := .bool true) rfl (by kernel_rfl) (by kernel_rfl) (by kernel_rfl) (fun _ _ _ h => h) (Or.inl ⟨by rfl, fun X hS => ?_⟩) hHeld ?_
    · obtain ⟨s0, s1, s2, s3, s4, s5, s6, s7⟩ := hS
      go_simp
    try simp only [Act.put, List.getElem_toArray, List.getElem_cons_zero, List.getElem_cons_succ, List.setIfInBounds_toArray, List.set_cons_zero, List.set_cons_succ]
    refine wpAnyH_take (i := 3) (v := .bool true) rfl (by kernel_rfl) (by kernel_rfl) (by kernel_rfl) (fun _ _ _ h => h) (Or.inl ⟨by rfl, fun X hS => ?_⟩) hHeld ?_
    · obtain ⟨s0, s1, s2, s3, s4, s5, s6, s7⟩ := hS
      go_simp
    try simp only [Act.put, List.getElem_toArray, List.getElem_cons_zero, List.getElem_cons_succ, List.setIfInBounds_toArray, List.set_cons_zero, List.set_cons_succ]
    refine wpAnyH_take (i := 4) (v := undef) rfl (by kernel_rfl) (by kernel_rfl) (by kernel_rfl) (fun _ _ _ h => h) (Or.inr ⟨by rfl, rfl⟩) hHeld ?_
    try simp only [Act.put, List.getElem_toArray, List.getElem_cons_zero, List.getElem_cons_succ, List.setIfInBounds_toArray, List.set_cons_zero, List.set_cons_succ]
    refine wpAnyH_take (i := 5) (v := undef) rfl (by kernel_rfl) (by kernel_rfl) (by kernel_rfl) (fun _ _ _ h => h) (Or.inr ⟨by rfl, rfl⟩) hHeld ?_
    try simp only [Act.put, List.getElem_toArray, List.getElem_cons_zero, List.getElem_cons_succ, List.setIfInBounds_toArray, List.set_cons_zero, List.set_cons_succ]
    refine wpAnyH_take (i := 6) (v := undef) rfl (by kernel_rfl) (by kernel_rfl) (by kernel_rfl) (fun _ _ _ h => h) (Or.inr ⟨by rfl, rfl⟩) hHeld ?_
    try simp only [Act.put, List.getElem_toArray, List.getElem_cons_zero, List.getElem_cons_succ, List.setIfInBounds_toArray, List.set_cons_zero, List.set_cons_succ]
    refine wpAnyH_take (i := 7) (v := undef) rfl (by kernel_rfl) (by kernel_rfl) (by kernel_rfl) (fun _ _ _ h => h) (Or.inr ⟨by rfl, rfl⟩) hHeld ?_
    try simp only [Act.put, List.getElem_toArray, List.getElem_cons_zero, List.getElem_cons_succ, List.setIfInBounds_toArray, List.set_cons_zero, List.set_cons_succ]
    refine wpAnyH_take (i := 8) (v := undef) rfl (by kernel_rfl) (by kernel_rfl) (by kernel_rfl) (fun _ _ _ h => h) (Or.inr ⟨by rfl, rfl⟩) hHeld ?_
    try simp only [Act.put, List.getElem_toArray, List.getElem_cons_zero, List.getElem_cons_succ, List.setIfInBounds_toArray, List.set_cons_zero, List.set_cons_succ]
    refine wpAnyH_take (i := 9) (v := undef) rfl (by kernel_rfl) (by kernel_rfl) (by kernel_rfl) (fun _ _ _ h => h) (Or.inr ⟨by rfl, rfl⟩) hHeld ?_
    try simp only [Act.put, List.getElem_toArray, List.getElem_cons_zero, List.getElem_cons_succ, List.setIfInBounds_toArray, List.set_cons_zero, List.set_cons_succ]
    refine wpAnyH_take (i := 10) (v := .bool true) rfl (by kernel_rfl) (by kernel_rfl) (by kernel_rfl) (fun _ _ _ h => h) (Or.inl ⟨by rfl, fun X hS => ?_⟩) hHeld ?_
    · obtain ⟨s0, s1, s2, s3, s4, s5, s6, s7⟩ := hS
      go_simp
    try simp only [Act.put, List.getElem_toArray, List.getElem_cons_zero, List.getElem_cons_succ, List.setIfInBounds_toArray, List.set_cons_zero, List.set_cons_succ]
    refine wpAnyH_done (by kernel_rfl) ?_ _
    clear hHeld
    have HRF := HR3; have HBF := HB9
    go_wp2_with (first | (refine wpList_store_row rfl 77 (.tmp 4) (.tmp 55) rfl R (cC 0 0 0 0) rfl rfl 77 (cC 0 0 0 0) HRF.out (HSZ.out _ _ _ _) rfl (cC_one _ _ _ _) ?_))
    have hl := run_loadVar_row (P := Try.prog) (z3.setRow R (cC 0 0 0 0)) R 77 77 (cC 0 0 0 0) (0, 0) _ (setRow_ad HRF.out _) Try.underlying77 rfl (HSZ.out _ _ _ _)
    exact bodyPost_ret (v := .tuple #[.agg (cC 0 0 0 0), .int .i64 7]) (by simp [results, Try.results125, asAddr, hl, Act.put]) rfl ⟨by rw [HRV.out]; rfl, below_setRow HBF.out HRR.out _⟩
  | true =>
    refine wpAnyH_take (i := 2) (v := .bool false) rfl (by kernel_rfl) (by kernel_rfl) (by kernel_rfl) (fun _ _ _ h => h) (Or.inl ⟨by rfl, fun X hS => ?_⟩) hHeld ?_
    · obtain ⟨s0, s1, s2, s3, s4, s5, s6, s7⟩ := hS
      go_simp
    try simp only [Act.put, List.getElem_toArray, List.getElem_cons_zero, List.getElem_cons_succ, List.setIfInBounds_toArray, List.set_cons_zero, List.set_cons_succ]
    refine wpAnyH_take (i := 3) (v := .bool false) rfl (by kernel_rfl) (by kernel_rfl) (by kernel_rfl) (fun _ _ _ h => h) (Or.inl ⟨by rfl, fun X hS => ?_⟩) hHeld ?_
    · obtain ⟨s0, s1, s2, s3, s4, s5, s6, s7⟩ := hS
      go_simp
    try simp only [Act.put, List.getElem_toArray, List.getElem_cons_zero, List.getElem_cons_succ, List.setIfInBounds_toArray, List.set_cons_zero, List.set_cons_succ]
    refine wpAnyH_take (i := 4) (v := .agg #[.int .i64 an, .int .i64 O, .int .u64 U, .int .i64 Z]) rfl (by kernel_rfl) (by kernel_rfl) (by kernel_rfl) (fun _ _ _ h => h) (Or.inl ⟨by rfl, fun X hS => ?_⟩) hHeld ?_
    · obtain ⟨s0, s1, s2, s3, s4, s5, s6, s7⟩ := hS
      go_simp
    try simp only [Act.put, List.getElem_toArray, List.getElem_cons_zero, List.getElem_cons_succ, List.setIfInBounds_toArray, List.set_cons_zero, List.set_cons_succ]
    refine wpAnyH_take (i := 6) (v := .slice (some ⟨N, 0, none⟩) 4 4) rfl (by kernel_rfl) (by kernel_rfl) (by kernel_rfl) (fun _ _ _ h => h) (Or.inl ⟨by rfl, fun X hS => ?_⟩) hHeld ?_
    · obtain ⟨s0, s1, s2, s3, s4, s5, s6, s7⟩ := hS
      go_simp
    try simp only [Act.put, List.getElem_toArray, List.getElem_cons_zero, List.getElem_cons_succ, List.setIfInBounds_toArray, List.set_cons_zero, List.set_cons_succ]
    refine wpAnyH_take (i := 7) (v := .pointer (some ⟨N, 0, none⟩)) rfl (by kernel_rfl) (by kernel_rfl) (by kernel_rfl) (fun _ _ _ h => h) (Or.inl ⟨by rfl, fun X hS => ?_⟩) hHeld ?_
    · obtain ⟨s0, s1, s2, s3, s4, s5, s6, s7⟩ := hS
      go_simp
    try simp only [Act.put, List.getElem_toArray, List.getElem_cons_zero, List.getElem_cons_succ, List.setIfInBounds_toArray, List.set_cons_zero, List.set_cons_succ]
    refine wpAnyH_take (i := 8) (v := .int .u64 n0) rfl (by kernel_rfl) (by kernel_rfl) (by kernel_rfl) (fun _ _ _ h => h) (Or.inl ⟨by rfl, fun X hS => ?_⟩) hHeld ?_
    · obtain ⟨s0, s1, s2, s3, s4, s5, s6, s7⟩ := hS
      go_simp
    try simp only [Act.put, List.getElem_toArray, List.getElem_cons_zero, List.getElem_cons_succ, List.setIfInBounds_toArray, List.set_cons_zero, List.set_cons_succ]
    refine wpAnyH_ready (rs := [5]) (by kernel_rfl) (by simp) (AllReadyH.cons rfl (fun K1 hK1 => ?_) AllReadyH.nil)
    go_simp
    refine (HKC.out _).mono ?_
    rintro e z4 ⟨rfl, hb4⟩
    have HBF := Lib.hid (HB9.out.trans (hb4.mono HB9.out.size))
    have hS1 := hHeld.below hb4
    have HRF := Lib.hid hS1.2.2.2.2.2.1
    have HCF := Lib.hid hS1.2.2.2.2.2.2.2
    clear hHeld hb4 HB9 HKC HR3
    refine hK1.out _ _ hS1 (fun hHeld => ?_)
    clear hK1 hS1
    try simp only [Act.put, List.getElem_toArray, List.getElem_cons_zero, List.getElem_cons_succ, List.setIfInBounds_toArray, List.set_cons_zero, List.set_cons_succ]
    by_cases hck : CK = n0
    · have hne : (CK != n0) = false := by simp [hck]
      have hd : decide (CK = n0) = true := decide_eq_true hck
      rw [hd] at HRV
      have HNE := Lib.hid hne
      clear hck hne hd
      refine wpAnyH_take (i := 9) (v := .bool false) rfl (by kernel_rfl) (by kernel_rfl) (by kernel_rfl) (fun _ _ _ h => h) (Or.inl ⟨by rfl, fun X hS => ?_⟩) hHeld ?_
      · obtain ⟨s0, s1, s2, s3, s4, s5, s6, s7⟩ := hS
        have hne := HNE.out
        go_simp
      try simp only [Act.put, List.getElem_toArray, List.getElem_cons_zero, List.getElem_cons_succ, List.setIfInBounds_toArray, List.set_cons_zero, List.set_cons_succ]
      refine wpAnyH_take (i := 10) (v := .bool false) rfl (by kernel_rfl) (by kernel_rfl) (by kernel_rfl) (fun _ _ _ h => h) (Or.inl ⟨by rfl, fun X hS => ?_⟩) hHeld ?_
      · obtain ⟨s0, s1, s2, s3, s4, s5, s6, s7⟩ := hS
        go_simp
      try simp only [Act.put, List.getElem_toArray, List.getElem_cons_zero, List.getElem_cons_succ, List.setIfInBounds_toArray, List.set_cons_zero, List.set_cons_succ]
      refine wpAnyH_done (by kernel_rfl) ?_ _
      clear hHeld
      go_wp2_with (first | (refine wpList_load_row rfl 77 (.tmp 9) rfl C rfl 77 (cC an O U Z) (0, 0) _ HCF.out Try.underlying77 rfl (HSZ.out _ _ _ _) ?_) | (refine wpList_store_row rfl 77 (.tmp 4) (.tmp 56) rfl R (cC an O U Z) rfl rfl 77 (cC 0 0 0 0) HRF.out (HSZ.out _ _ _ _) rfl (cC_one _ _ _ _) ?_))
      have hl := run_loadVar_row (P := Try.prog) (z4.setRow R (cC an O U Z)) R 77 77 (cC an O U Z) (0, 0) _ (setRow_ad HRF.out _) Try.underlying77 rfl (HSZ.out _ _ _ _)
      exact bodyPost_ret (v := .tuple #[.agg (cC an O U Z), .int .i64 0]) (by simp [results, Try.results125, asAddr, hl, Act.put]) rfl ⟨by rw [HRV.out]; rfl, below_setRow HBF.out HRR.out _⟩
    · have hne : (CK != n0) = true := by simp [hck]
      have hd : decide (CK = n0) = false := decide_eq_false hck
      rw [hd] at HRV
      have HNE := Lib.hid hne
      clear hck hne hd
      refine wpAnyH_take (i := 9) (v := .bool true) rfl (by kernel_rfl) (by kernel_rfl) (by kernel_rfl) (fun _ _ _ h => h) (Or.inl ⟨by rfl, fun X hS => ?_⟩) hHeld ?_
      · obtain ⟨s0, s1, s2, s3, s4, s5, s6, s7⟩ := hS
        have hne := HNE.out
        go_simp
      try simp only [Act.put, List.getElem_toArray, List.getElem_cons_zero, List.getElem_cons_succ, List.setIfInBounds_toArray, List.set_cons_zero, List.set_cons_succ]
      refine wpAnyH_take (i := 10) (v := .bool true) rfl (by kernel_rfl) (by kernel_rfl) (by kernel_rfl) (fun _ _ _ h => h) (Or.inl ⟨by rfl, fun X hS => ?_⟩) hHeld ?_
      · obtain ⟨s0, s1, s2, s3, s4, s5, s6, s7⟩ := hS
        go_simp
      try simp only [Act.put, List.getElem_toArray, List.getElem_cons_zero, List.getElem_cons_succ, List.setIfInBounds_toArray, List.set_cons_zero, List.set_cons_succ]
      refine wpAnyH_done (by kernel_rfl) ?_ _
      clear hHeld
      go_wp2_with (first | (refine wpList_store_row rfl 77 (.tmp 4) (.tmp 55) rfl R (cC 0 0 0 0) rfl rfl 77 (cC 0 0 0 0) HRF.out (HSZ.out _ _ _ _) rfl (cC_one _ _ _ _) ?_))
      have hl := run_loadVar_row (P := Try.prog) (z4.setRow R (cC 0 0 0 0)) R 77 77 (cC 0 0 0 0) (0, 0) _ (setRow_ad HRF.out _) Try.underlying77 rfl (HSZ.out _ _ _ _)
      exact bodyPost_ret (v := .tuple #[.agg (cC 0 0 0 0), .int .i64 7]) (by simp [results, Try.results125, asAddr, hl, Act.put]) rfl ⟨by rw [HRV.out]; rfl, below_setRow HBF.out HRR.out _⟩
theorem read_any (h : On A s w) (a : Int) (ha : a ≤ 9223372036854775807) :
    Calls Try.prog 125 #[.pointer (some ⟨A, 0, none⟩), .int .i64 a] w (Gives (rdV s a) w) := by
  by_cases he : thereE s.L s.es a 32 = 0
  · exact read_there h a ha he
  · have e : rdV s a = .tuple #[cV 0 0 0 0, .int .i64 3] := by unfold rdV; rw [if_neg he]
    rw [e]; exact read_range h a ha he
end
end Go.Proofs.Ytdmaendhkenmgaa.Bt
/- What lies in a chunk; the chapter's example; ChunkEnds. -/
namespace Go.Proofs.Ytdmaendhkenmgaa.Bt
open Go Go.RowKit Go.Shelf
set_option linter.unusedVariables false
set_option linter.unusedSimpArgs false

/-- do n bytes at p lie in a chunk of S bytes at a, behind its header? -/
def hasV (a S p n : Int) : Bool := decide (a + 32 ≤ p ∧ 0 ≤ n ∧ n ≤ a + S - p)
def RB (B : Nat) (a o u x : Int) (w : World) : Prop := w.heap[B]? = some (.cells (cC a o u x) 82 (0, 0))
theorem rb_new (w : World) (a o u x : Int) : RB w.heap.size a o u x (w.alloc (.cells (cC a o u x) 82)) := heap_new _ _
theorem RB.all {B : Nat} {a o u x : Int} {w : World} (h : RB B a o u x w) : w.cell? ⟨B, 0, none⟩ = some (.int .i64 a) ∧ w.cell? ⟨B, 1, none⟩ = some (.int .i64 o) ∧ w.cell? ⟨B, 2, none⟩ = some (.int .u64 u) ∧ w.cell? ⟨B, 3, none⟩ = some (.int .i64 x) :=
  ⟨(cell_blk h 0).1, (cell_blk h 1).1, (cell_blk h 2).1, (cell_blk h 3).1⟩
def RBS (B : Nat) (a o u x : Int) (X : World) : Prop :=
  X.cell? ⟨B, 0, none⟩ = some (.int .i64 a) ∧ X.cell? ⟨B, 1, none⟩ = some (.int .i64 o) ∧ X.cell? ⟨B, 2, none⟩ = some (.int .u64 u) ∧ X.cell? ⟨B, 3, none⟩ = some (.int .i64 x) ∧ RB B a o u x X
theorem rbs_mk {B : Nat} {a o u x : Int} {X : World} (h : RB B a o u x X) : RBS B a o u x X := ⟨h.all.1, h.all.2.1, h.all.2.2.1, h.all.2.2.2, h⟩
theorem RBS.below {B : Nat} {a o u x : Int} {X Y : World} (h : RBS B a o u x X) (hb : Below X.heap.size X Y) : RBS B a o u x Y := rbs_mk (blk_at hb h.2.2.2.2)
theorem has10_any (a o u x : Int) (ha : 0 ≤ a) (ha2 : a ≤ 4294967296) (p n : Int) (hp : p ≤ 9223372036854775807) (w : World) :
    Calls Try.prog 93 #[cV a o u x, .int .i64 p, .int .i64 n] w (Gives (.bool (hasV a (spV o) p n)) w) := by
  have HS := Lib.hid (fun w => sp_any o w)
  have hb := sp_bd o
  obtain ⟨S, hS⟩ : ∃ S, spV o = S := ⟨_, rfl⟩
  rw [hS] at hb HS ⊢
  clear hS
  by_cases h1 : a ≤ p
  · have q : wrap64 (p - a) = p - a := IntWalk.wrap64_in _ ⟨by omega, by omega⟩
    by_cases h2 : 32 ≤ p - a
    · by_cases h3 : 0 ≤ n
      · have q2 : wrap64 (S - (p - a)) = S - (p - a) := IntWalk.wrap64_in _ ⟨by omega, by omega⟩
        cases h4 : decide (n ≤ S - (p - a)) with
        | true =>
          have HV : Hid (hasV a S p n = true) := Lib.hid (decide_eq_true (by have := of_decide_eq_true h4; omega))
          have e1 : a ≤ p := h1
          clear ha ha2 hp hb
          go_enter Try.func93, Try.ntmps93
          go_upto_region 1 with fail
          have c := cb_new w a o u x
          have bw := Lib.hid (bel1 w (.cells (cC a o u x) 77))
          obtain ⟨y, hy⟩ : ∃ y, w.alloc (.cells (cC a o u x) 77) = y := ⟨_, rfl⟩
          obtain ⟨B, hB⟩ : ∃ B, w.heap.size = B := ⟨_, rfl⟩
          rw [hy] at c bw
          rw [hB] at c
          change Code.wp _ _ _ _ (w.alloc (.cells (cC a o u x) 77))
          rw [hy, hB]
          clear hy hB
          obtain ⟨c0, c1, c2, c3⟩ := c.all
          go_wp2_with fail
          refine (HS.out _).mono ?_
          rintro e w' ⟨rfl, rfl⟩
          go_wp2_with fail
          go_ret
          exact ⟨by rw [HV.out]; rfl, bw.out⟩
        | false =>
          have HV : Hid (hasV a S p n = false) := Lib.hid (decide_eq_false (by have := of_decide_eq_false h4; omega))
          clear ha ha2 hp hb
          go_enter Try.func93, Try.ntmps93
          go_upto_region 1 with fail
          have c := cb_new w a o u x
          have bw := Lib.hid (bel1 w (.cells (cC a o u x) 77))
          obtain ⟨y, hy⟩ : ∃ y, w.alloc (.cells (cC a o u x) 77) = y := ⟨_, rfl⟩
          obtain ⟨B, hB⟩ : ∃ B, w.heap.size = B := ⟨_, rfl⟩
          rw [hy] at c bw
          rw [hB] at c
          change Code.wp _ _ _ _ (w.alloc (.cells (cC a o u x) 77))
          rw [hy, hB]
          clear hy hB
          obtain ⟨c0, c1, c2, c3⟩ := c.all
          go_wp2_with fail
          refine (HS.out _).mono ?_
          rintro e w' ⟨rfl, rfl⟩
          go_wp2_with fail
          go_ret
          exact ⟨by rw [HV.out]; rfl, bw.out⟩
      · have HV : Hid (hasV a S p n = false) := Lib.hid (decide_eq_false (by omega))
        clear ha ha2 hp hb
        go_enter Try.func93, Try.ntmps93
        go_upto_region 1 with fail
        have c := cb_new w a o u x
        have bw := Lib.hid (bel1 w (.cells (cC a o u x) 77))
        obtain ⟨y, hy⟩ : ∃ y, w.alloc (.cells (cC a o u x) 77) = y := ⟨_, rfl⟩
        obtain ⟨B, hB⟩ : ∃ B, w.heap.size = B := ⟨_, rfl⟩
        rw [hy] at c bw
        rw [hB] at c
        change Code.wp _ _ _ _ (w.alloc (.cells (cC a o u x) 77))
        rw [hy, hB]
        clear hy hB
        obtain ⟨c0, c1, c2, c3⟩ := c.all
        go_wp2_with fail
        go_ret
        exact ⟨by rw [HV.out]; rfl, bw.out⟩
    · have HV : Hid (hasV a S p n = false) := Lib.hid (decide_eq_false (by omega))
      clear ha ha2 hp hb
      go_enter Try.func93, Try.ntmps93
      go_upto_region 1 with fail
      have c := cb_new w a o u x
      have bw := Lib.hid (bel1 w (.cells (cC a o u x) 77))
      obtain ⟨y, hy⟩ : ∃ y, w.alloc (.cells (cC a o u x) 77) = y := ⟨_, rfl⟩
      obtain ⟨B, hB⟩ : ∃ B, w.heap.size = B := ⟨_, rfl⟩
      rw [hy] at c bw
      rw [hB] at c
      change Code.wp _ _ _ _ (w.alloc (.cells (cC a o u x) 77))
      rw [hy, hB]
      clear hy hB
      obtain ⟨c0, c1, c2, c3⟩ := c.all
      go_wp2_with fail
      go_ret
      exact ⟨by rw [HV.out]; rfl, bw.out⟩
  · have HV : Hid (hasV a S p n = false) := Lib.hid (decide_eq_false (by omega))
    obtain ⟨q, hq⟩ : ∃ q, wrap64 (p - a) = q := ⟨_, rfl⟩
    clear ha ha2 hp hb
    go_enter Try.func93, Try.ntmps93
    go_upto_region 1 with fail
    have c := cb_new w a o u x
    have bw := Lib.hid (bel1 w (.cells (cC a o u x) 77))
    obtain ⟨y, hy⟩ : ∃ y, w.alloc (.cells (cC a o u x) 77) = y := ⟨_, rfl⟩
    obtain ⟨B, hB⟩ : ∃ B, w.heap.size = B := ⟨_, rfl⟩
    rw [hy] at c bw
    rw [hB] at c
    change Code.wp _ _ _ _ (w.alloc (.cells (cC a o u x) 77))
    rw [hy, hB]
    clear hy hB
    obtain ⟨c0, c1, c2, c3⟩ := c.all
    go_wp2_with fail
    go_ret
    exact ⟨by rw [HV.out]; rfl, bw.out⟩
theorem awake5' (w : World) : Calls Try.prog 126 #[] w (Gives (.bool true) w) := by
  go_enter Try.func126, Try.ntmps126
  go_wp2_with fail
  refine (awake5_calls _).mono ?_
  rintro e w1 ⟨rfl, hb⟩
  go_wp2_with fail
  go_ret
  exact ⟨rfl, hb⟩
end Go.Proofs.Ytdmaendhkenmgaa.Bt
/- The chapter's example; ChunkEnds. -/
namespace Go.Proofs.Ytdmaendhkenmgaa.Bt
open Go Go.RowKit Go.Shelf
set_option linter.unusedVariables false
set_option linter.unusedSimpArgs false

def s10 : ASt := commitS (newS 2) 1 1
theorem s10_there : thereE s10.L s10.es 4096 32 = 0 := by decide
theorem s10_commit : commitE (newS 2) 1 1 = 0 := by decide
theorem ex10_may : mayB 4096 1 0 = true := by decide
set_option maxRecDepth 100000 in
theorem awake10_calls (w : World) : Calls Try.prog 110 #[] w (Gives (.bool true) w) := by
  have L1 : Hid (lenN 2 = 2) := Lib.hid (by decide)
  have E1 : Hid (commitE (newS 2) 1 1 = 0) := Lib.hid s10_commit
  have S1 : Hid (commitS (newS 2) 1 1 = s10) := Lib.hid rfl
  have EX : Hid (rdV { s10 with mm := wrM s10.mm (4096 : Int).toNat 4096 1 7 0 } 4096 = .tuple #[.agg #[.int .i64 4096, .int .i64 1, .int .u64 7, .int .i64 0], .int .i64 0]) := Lib.hid (by
    have h := rd_wr s10.mm 4096 1 7 0 ex10_may (by omega) (by omega)
    unfold rdV
    rw [if_pos (show thereE s10.L s10.es 4096 32 = 0 from s10_there), h.2.2.2, h.1, h.2.1, h.2.2.1]; rfl)
  have HH : Hid (hasV 4096 (spV 1) 4128 8160 = true ∧ hasV 4096 (spV 1) 4127 1 = false ∧ (4096 : Int) + spV 1 = 12288) := Lib.hid (by decide)
  have HEQ : Hid (∀ w, (binOp .eql 77 (cV 4096 1 7 0) (cV 4096 1 7 0)).run Try.prog w = .ok (.bool true) w) := Lib.hid (fun _ => by kernel_rfl)
  have HEND := Lib.hid (fun w => end_any 4096 1 7 0 (by omega) (by omega) w)
  have HH1 := Lib.hid (fun w => has10_any 4096 1 7 0 (by omega) (by omega) 4128 8160 (by omega) w)
  have HH2 := Lib.hid (fun w => has10_any 4096 1 7 0 (by omega) (by omega) 4127 1 (by omega) w)
  rw [HH.out.1] at HH1; rw [HH.out.2.1] at HH2; rw [HH.out.2.2] at HEND
  go_enter Try.func110, Try.ntmps110
  go_wp2_with fail
  refine (on_new 2 _).mono ?_
  rintro e w1 ⟨A, rfl, hA, hx, hb, hm⟩
  rw [L1.out] at hx
  have HX1 := Lib.hid hx
  have HB1 := Lib.hid hb
  clear hx hb hA hm
  go_wp2_with fail
  refine (on_commit HX1.out 1 1 (by omega)).mono ?_
  rintro e w2 ⟨rfl, hx, hg⟩
  rw [E1.out]; rw [S1.out] at hx
  have HX2 := Lib.hid hx
  have HB2 := Lib.hid (HB1.out.went hg)
  clear hx hg HX1 HB1
  go_upto_region 4 with fail
  have hc := cb_new w2 4096 1 7 0
  have hxy := HX2.out.below (bel1 w2 (.cells (cC 4096 1 7 0) 77))
  have hby := HB2.out.below HX2.out (bel1 w2 (.cells (cC 4096 1 7 0) 77))
  obtain ⟨y, hy⟩ : ∃ y, w2.alloc (.cells (cC 4096 1 7 0) 77) = y := ⟨_, rfl⟩
  obtain ⟨C, hC⟩ : ∃ C, w2.heap.size = C := ⟨_, rfl⟩
  rw [hy] at hc hxy hby
  rw [hC] at hc
  change Code.wp _ _ _ _ (w2.alloc (.cells (cC 4096 1 7 0) 77))
  rw [hy, hC]
  have HC := Lib.hid hc; have HX3 := Lib.hid hxy; have HB3 := Lib.hid hby
  clear hy hC hc hxy hby HX2 HB2
  obtain ⟨c0, c1, c2, c3⟩ := HC.out.all
  go_wp2_with fail
  refine (write_ok HX3.out 4096 1 7 0 (by omega) (by omega) (by omega) ex10_may s10_there).mono ?_
  rintro e w4 ⟨rfl, hx, hg⟩
  have HX4 := Lib.hid hx
  have HB4 := Lib.hid (HB3.out.went hg)
  have HC4 := Lib.hid (show CB C 4096 1 7 0 w4 from hg.keep HX3.out HC.out (by decide) (by decide) (by decide))
  clear hx hg HX3 HB3 HC c0 c1 c2 c3
  go_wp2_with fail
  refine (read_any HX4.out 4096 (by omega)).mono ?_
  rintro e w5 ⟨rfl, hb⟩
  rw [EX.out]
  have HX5 := Lib.hid (HX4.out.below hb)
  have HB5 := Lib.hid (HB4.out.below HX4.out hb)
  have HC5 := Lib.hid (show CB C 4096 1 7 0 w5 from blk_at hb HC4.out)
  clear hb HX4 HB4 HC4
  go_upto_region 6 with fail
  have hd := cb_new w5 4096 1 7 0
  have hb := (bel1 w5 (.cells (cC 4096 1 7 0) 77))
  have hc := show CB C 4096 1 7 0 (w5.alloc (.cells (cC 4096 1 7 0) 77)) from blk_at hb HC5.out
  have hB := HB5.out.bel.trans (hb.mono HB5.out.bel.size)
  obtain ⟨z, hz⟩ : ∃ y, w5.alloc (.cells (cC 4096 1 7 0) 77) = y := ⟨_, rfl⟩
  obtain ⟨D, hD⟩ : ∃ C, w5.heap.size = C := ⟨_, rfl⟩
  rw [hz] at hd hc hB
  rw [hD] at hd
  change Code.wp _ _ _ _ (w5.alloc (.cells (cC 4096 1 7 0) 77))
  rw [hz, hD]
  have HC := Lib.hid hc; have HD := Lib.hid hd; have HB6 := Lib.hid hB
  clear hz hD hc hd hB hb HX5 HB5 HC5
  go_wp2_with fail
  refine (awake5' _).mono ?_
  rintro e w6 ⟨rfl, hb⟩
  have HC6 := Lib.hid (show CB C 4096 1 7 0 w6 from blk_at hb HC.out)
  have HD6 := Lib.hid (show CB D 4096 1 7 0 w6 from blk_at hb HD.out)
  have HB7 := Lib.hid (HB6.out.trans (hb.mono HB6.out.size))
  clear hb HC HD HB6
  obtain ⟨c0, c1, c2, c3⟩ := HC6.out.all
  obtain ⟨d0, d1, d2, d3⟩ := HD6.out.all
  have heq := HEQ.out
  unfold cV at heq
  go_wp2_with fail
  refine (HEND.out _).mono ?_
  rintro e w7 ⟨rfl, hb⟩
  have HC7 := Lib.hid (show CB C 4096 1 7 0 w7 from blk_at hb HC6.out)
  have HB8 := Lib.hid (HB7.out.trans (hb.mono HB7.out.size))
  clear hb HC6 HD6 HB7 c0 c1 c2 c3 d0 d1 d2 d3 heq
  obtain ⟨c0, c1, c2, c3⟩ := HC7.out.all
  go_wp2_with fail
  refine (HH1.out _).mono ?_
  rintro e w8 ⟨rfl, hb⟩
  have HC8 := Lib.hid (show CB C 4096 1 7 0 w8 from blk_at hb HC7.out)
  have HB9 := Lib.hid (HB8.out.trans (hb.mono HB8.out.size))
  clear hb HC7 HB8 c0 c1 c2 c3
  obtain ⟨c0, c1, c2, c3⟩ := HC8.out.all
  go_wp2_with fail
  refine (HH2.out _).mono ?_
  rintro e w9 ⟨rfl, hb⟩
  have HB10 := Lib.hid (HB9.out.trans (hb.mono HB9.out.size))
  clear hb HC8 HB9 c0 c1 c2 c3
  go_wp2_with fail
  go_ret
  exact ⟨rfl, HB10.out⟩
end Go.Proofs.Ytdmaendhkenmgaa.Bt
/- A chunk that came in, opened; acts of chunks that came in, opened. -/
namespace Go.Proofs.Ytdmaendhkenmgaa.Bt
open Go Go.RowKit Go.Shelf
open Go.ChangeShapes Go.WideShapes Go.ChangeAt
set_option linter.unusedVariables false
set_option linter.unusedSimpArgs false

theorem Try.cellsChk : Try.prog.cellsOf 77 = 4 := by kernel_rfl
theorem Try.cellsU64c : Try.prog.cellsOf 34 = 1 := by kernel_rfl
theorem Try.cellsU8c : Try.prog.cellsOf 5 = 1 := by kernel_rfl
structure CkB (a o u x : Int) : Prop where
  a1 : a ≤ 9223372036854775807
  a0 : -9223372036854775808 ≤ a
  o1 : o ≤ 9223372036854775807
  o0 : -9223372036854775808 ≤ o
  u0 : 0 ≤ u
  u1 : u < 18446744073709551616
  x1 : x ≤ 9223372036854775807
  x0 : -9223372036854775808 ≤ x
set_option maxRecDepth 100000 in
theorem chunk_cells {H : Type} {enc : TypeId × Value → H} {w : World} {fuel : Nat} {cs : List Value} {x : DataW H × List MemPlace} (hl : cs.length = 4)
    (h : DataW.trod enc Try.prog w 0 (fun _ => true) true fuel 77 cs = some x) : ∃ a o u z, cs = [.int .i64 a, .int .i64 o, .int .u64 u, .int .i64 z] ∧ CkB a o u z := by
  obtain ⟨y0, y1, y2, y3, k, _, _, e0, e1, e2, e3⟩ := Go.Joins.trod_struct4 Try.underlying77 h
  match cs, hl with
  | [c0, c1, c2, c3], _ =>
    simp only [Try.cellsInt, Try.cellsU64c, List.drop_zero, List.drop_succ_cons, List.take_succ_cons, List.take_zero] at e0 e1 e2 e3
    obtain ⟨a, ha, _, wa⟩ := DataW.trod_int Try.underlying3 e0
    obtain ⟨o, ho, _, wo⟩ := DataW.trod_int Try.underlying3 e1
    obtain ⟨u, hu, _, wu⟩ := DataW.trod_int Try.underlying34 e2
    obtain ⟨z, hz, _, wz⟩ := DataW.trod_int Try.underlying3 e3
    simp only [List.cons.injEq, and_true] at ha ho hu hz
    subst ha ho hu hz
    have b1 := bounds_i64 wa; have b2 := bounds_i64 wo; have b3 := bounds_u64 wu; have b4 := bounds_i64 wz
    exact ⟨a, o, u, z, rfl, ⟨b1.2, b1.1, b2.2, b2.1, b3.1, by omega, b4.2, b4.1⟩⟩
theorem chunk_open {H : Type} {enc : TypeId × Value → H} {w : World} {fuel : Nat} {cs : Array Value} {x : DataW H × List MemPlace} (hl : cs.size = Try.prog.cellsOf 77)
    (h : DataW.trod enc Try.prog w 0 (fun _ => true) true fuel 77 (Value.agg cs).cells.toList = some x) : ∃ a o u z, cs = cC a o u z ∧ CkB a o u z := by
  rw [Try.cellsChk] at hl
  obtain ⟨a, o, u, z, e, hb⟩ := chunk_cells (cs := cs.toList) (by simpa using hl) h
  exact ⟨a, o, u, z, by rw [← cs.toArray_toList, e]; rfl, hb⟩
end Go.Proofs.Ytdmaendhkenmgaa.Bt
