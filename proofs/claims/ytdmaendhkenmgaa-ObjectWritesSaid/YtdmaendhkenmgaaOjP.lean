/- Several texts in one: OjM; OjA; OjB; OjC; OjD. -/
import Derived.Test.YtdmaendhkenmgaaChP
import Derived.Laws.BitsAllLaws
/- The plain mathematics of objects in chunks: alignments, where an object fits, the order that it needs. -/
namespace Go.Proofs.Ytdmaendhkenmgaa.Bt
open Go Go.RowKit Go.Shelf
set_option linter.unusedVariables false
set_option linter.unusedSimpArgs false

def whB (a : Int) : Bool := decide (a ∈ [1, 2, 4, 8, 16, 32, 64, 128, 256, 512, 1024, 2048, 4096])
def alB (a : Int) : Bool := decide (a ∈ [1, 2, 4, 8, 16, 32, 64])
theorem whB_cases {a : Int} (h : whB a = true) : a = 1 ∨ a = 2 ∨ a = 4 ∨ a = 8 ∨ a = 16 ∨ a = 32 ∨ a = 64 ∨ a = 128 ∨ a = 256 ∨ a = 512 ∨ a = 1024 ∨ a = 2048 ∨ a = 4096 := by
  simpa [whB] using h
theorem alB_cases {a : Int} (h : alB a = true) : a = 1 ∨ a = 2 ∨ a = 4 ∨ a = 8 ∨ a = 16 ∨ a = 32 ∨ a = 64 := by
  simpa [alB] using h
theorem whB_range {a : Int} (h : whB a = true) : 1 ≤ a ∧ a ≤ 4096 := by
  rcases whB_cases h with h | h | h | h | h | h | h | h | h | h | h | h | h <;> omega
theorem alB_wh (a : Int) : alB a = (whB a && decide (a ≤ 64)) := by
  cases hw : whB a with
  | true => rcases whB_cases hw with rfl | rfl | rfl | rfl | rfl | rfl | rfl | rfl | rfl | rfl | rfl | rfl | rfl <;> decide
  | false =>
    cases ha : alB a with
    | false => rfl
    | true => rcases alB_cases ha with rfl | rfl | rfl | rfl | rfl | rfl | rfl <;> exact absurd hw (by decide)
theorem alB_range {a : Int} (h : alB a = true) : 1 ≤ a ∧ a ≤ 64 := by
  rcases alB_cases h with h | h | h | h | h | h | h <;> omega
theorem whB_pw (j : Nat) (h : j ≤ 12) : whB (pwI j) = true := by
  match j, h with
  | 0, _ | 1, _ | 2, _ | 3, _ | 4, _ | 5, _ | 6, _ | 7, _ | 8, _ | 9, _ | 10, _ | 11, _ | 12, _ => decide
  | n + 13, h => omega
theorem whB_none (a : Int) (h : ∀ i, i < 13 → pwI i ≠ a) : whB a = false := by
  cases hw : whB a with
  | false => rfl
  | true =>
    exfalso
    rcases whB_cases hw with rfl | rfl | rfl | rfl | rfl | rfl | rfl | rfl | rfl | rfl | rfl | rfl | rfl
    · exact h 0 (by omega) (by decide)
    · exact h 1 (by omega) (by decide)
    · exact h 2 (by omega) (by decide)
    · exact h 3 (by omega) (by decide)
    · exact h 4 (by omega) (by decide)
    · exact h 5 (by omega) (by decide)
    · exact h 6 (by omega) (by decide)
    · exact h 7 (by omega) (by decide)
    · exact h 8 (by omega) (by decide)
    · exact h 9 (by omega) (by decide)
    · exact h 10 (by omega) (by decide)
    · exact h 11 (by omega) (by decide)
    · exact h 12 (by omega) (by decide)
theorem wh_bits_nat : ∀ i : Fin 64, ∀ j : Fin 64, (bits .and .i64 ((64 * i.val + j.val + 1 : Nat) : Int) (((64 * i.val + j.val + 1 : Nat) : Int) - 1) == 0) = whB ((64 * i.val + j.val + 1 : Nat) : Int) := by decide +kernel
theorem wh_bits (a : Int) (h1 : 1 ≤ a) (h2 : a ≤ 4096) : (bits .and .i64 a (a - 1) == 0) = whB a := by
  obtain ⟨k, rfl⟩ : ∃ k : Nat, a = ((k + 1 : Nat) : Int) := ⟨(a - 1).toNat, by omega⟩
  have h := wh_bits_nat ⟨k / 64, by omega⟩ ⟨k % 64, by omega⟩
  simpa [show 64 * (k / 64) + k % 64 = k from by omega] using h
theorem wh_no (a : Int) (h : a < 1 ∨ 4096 < a) : whB a = false := by
  cases hw : whB a with
  | false => rfl
  | true => have := whB_range hw; omega

theorem ofInt_u64' (x : Nat) (hx : x < 18446744073709551616) : (BitVec.ofInt 64 (x : Int)).toNat = x := by
  rw [BitVec.ofInt_natCast, BitVec.toNat_ofNat, Nat.mod_eq_of_lt (by simpa using hx)]
theorem and_high (x k : Nat) (hk : k ≤ 64) (hx : x < 2 ^ 64) : x &&& (2 ^ 64 - 1 - (2 ^ k - 1)) = x / 2 ^ k * 2 ^ k := by
  apply Nat.eq_of_testBit_eq
  intro i
  have e1 : 2 ^ 64 - 1 - (2 ^ k - 1) = (2 ^ (64 - k) - 1) * 2 ^ k := by
    have h1 : 1 ≤ 2 ^ k := Nat.one_le_two_pow
    rw [Nat.sub_mul, Nat.one_mul, ← Nat.pow_add, show 64 - k + k = 64 by omega]
    omega
  rw [e1, Nat.testBit_and, Nat.testBit_mul_two_pow, Nat.testBit_mul_two_pow, Nat.testBit_two_pow_sub_one, Nat.testBit_div_two_pow]
  by_cases hki : k ≤ i
  · simp only [hki, decide_true, Bool.true_and]
    rw [show i - k + k = i by omega]
    by_cases h64 : i < 64
    · simp [show i - k < 64 - k by omega]
    · have : x.testBit i = false := Nat.testBit_lt_two_pow (Nat.lt_of_lt_of_le hx (Nat.pow_le_pow_right (by omega) (by omega)))
      simp [this]
  · simp [hki]
theorem i64_up_nat (x k : Nat) (hk : k ≤ 6) (hx : x < 9223372036854775808) : bits .andNot .i64 (x : Int) ((2 ^ k - 1 : Nat) : Int) = ((x / 2 ^ k * 2 ^ k : Nat) : Int) := by
  have hp : 2 ^ k ≤ 64 := Nat.pow_le_pow_right (n := 2) (by omega) hk
  show IntKind.i64.wrap ((BitVec.ofInt 64 (x : Int) &&& ~~~BitVec.ofInt 64 ((2 ^ k - 1 : Nat) : Int)).toNat : Int) = _
  rw [BitVec.toNat_and, BitVec.toNat_not, ofInt_u64' x (by omega), ofInt_u64' _ (by omega), and_high x k (by omega) (by omega)]
  have h1 : x / 2 ^ k * 2 ^ k ≤ x := Nat.div_mul_le_self _ _
  exact IntWalk.i64_in _ (by omega)
/-- the least multiple of l that is at least 16 above f -/
def atV (f l : Int) : Int := (f + 15 + l) / l * l
theorem i64_up {x l : Int} (h : alB l = true) (h0 : 0 ≤ x) (h1 : x ≤ 9223372036854775807) : bits .andNot .i64 x (l - 1) = x / l * l := by
  obtain ⟨X, rfl⟩ := Int.eq_ofNat_of_zero_le h0
  rcases alB_cases h with rfl | rfl | rfl | rfl | rfl | rfl | rfl
  · exact (i64_up_nat X 0 (by omega) (by omega)).trans (by omega)
  · exact (i64_up_nat X 1 (by omega) (by omega)).trans (by omega)
  · exact (i64_up_nat X 2 (by omega) (by omega)).trans (by omega)
  · exact (i64_up_nat X 3 (by omega) (by omega)).trans (by omega)
  · exact (i64_up_nat X 4 (by omega) (by omega)).trans (by omega)
  · exact (i64_up_nat X 5 (by omega) (by omega)).trans (by omega)
  · exact (i64_up_nat X 6 (by omega) (by omega)).trans (by omega)
theorem atV_bd {f l : Int} (h : alB l = true) : f + 16 ≤ atV f l ∧ atV f l < f + 16 + l ∧ atV f l % l = 0 := by
  unfold atV
  rcases alB_cases h with rfl | rfl | rfl | rfl | rfl | rfl | rfl <;> omega
/-- the only multiple there -/
theorem atV_only {f l z : Int} (h : alB l = true) (h1 : f + 16 ≤ z) (h2 : z < f + 16 + l) (h3 : z % l = 0) : z = atV f l := by
  unfold atV
  rcases alB_cases h with rfl | rfl | rfl | rfl | rfl | rfl | rfl <;> omega
theorem atV_shift {a f l : Int} (h : alB l = true) (ha : a % 4096 = 0) : atV (a + f) l = a + atV f l := by
  unfold atV
  rcases alB_cases h with rfl | rfl | rfl | rfl | rfl | rfl | rfl <;> omega
/-- does an object of n bytes fit in a chunk of S bytes at a, from f on, aligned to l? -/
def fitB (a S f n l : Int) : Bool := alB l && (hasV a S f 0 && hasV a S (atV f l) n)
def fitA (a S f n l : Int) : Int := if fitB a S f n l then atV f l else 0
def fitV (a S f n l : Int) : Value := .tuple #[.int .i64 (fitA a S f n l), .bool (fitB a S f n l)]
theorem fit_no {a S f n l : Int} (h : fitB a S f n l = false) : fitV a S f n l = .tuple #[.int .i64 0, .bool false] := by
  unfold fitV fitA; rw [h]; rfl
theorem fit_yes {a S f n l : Int} (h : fitB a S f n l = true) : fitV a S f n l = .tuple #[.int .i64 (atV f l), .bool true] := by
  unfold fitV fitA; rw [h]; rfl
theorem fitB_al {a S f n l : Int} (h : alB l = false) : fitB a S f n l = false := by unfold fitB; rw [h]; rfl
theorem fitB_from {a S f n l : Int} (h : hasV a S f 0 = false) : fitB a S f n l = false := by unfold fitB; rw [h]; cases alB l <;> rfl
theorem fitB_room {a S f n l : Int} (h : hasV a S (atV f l) n = false) : fitB a S f n l = false := by unfold fitB; rw [h]; cases alB l <;> cases hasV a S f 0 <;> rfl
theorem fitB_mk {a S f n l : Int} (h : alB l = true) (h1 : hasV a S f 0 = true) (h2 : hasV a S (atV f l) n = true) : fitB a S f n l = true := by unfold fitB; rw [h, h1, h2]; rfl
theorem hasV_iff (a S p n : Int) : hasV a S p n = true ↔ (a + 32 ≤ p ∧ 0 ≤ n ∧ n ≤ a + S - p) := by unfold hasV; exact decide_eq_true_iff
theorem fitB_iff (a S f n l : Int) : fitB a S f n l = true ↔ alB l = true ∧ (a + 32 ≤ f ∧ f ≤ a + S) ∧ 0 ≤ n ∧ n ≤ a + S - atV f l := by
  unfold fitB
  rw [Bool.and_eq_true, Bool.and_eq_true, hasV_iff, hasV_iff]
  constructor
  · rintro ⟨h1, h2, h3⟩; exact ⟨h1, ⟨by omega, by omega⟩, by omega, by omega⟩
  · rintro ⟨h1, h2, h3, h4⟩
    have := (atV_bd (f := f) h1).1
    exact ⟨h1, ⟨by omega, by omega, by omega⟩, by omega, by omega, by omega⟩
/-- wherever it lies -/
theorem fitB_shift {a : Int} (S f n l : Int) (ha : a % 4096 = 0) : fitB a S (a + f) n l = fitB 0 S f n l := by
  apply Bool.eq_iff_iff.2
  rw [fitB_iff, fitB_iff]
  constructor
  · rintro ⟨h1, h2, h3, h4⟩
    rw [atV_shift h1 ha] at h4
    exact ⟨h1, ⟨by omega, by omega⟩, h3, by omega⟩
  · rintro ⟨h1, h2, h3, h4⟩
    refine ⟨h1, ⟨by omega, by omega⟩, h3, ?_⟩
    rw [atV_shift h1 ha]; omega
/-- the least number below j + m, from j on, of which something is so -/
def lstQ (p : Nat → Bool) : Nat → Nat → Option Nat
  | 0, _ => none
  | m + 1, j => if p j then some j else lstQ p m (j + 1)
theorem lstQ_none {p : Nat → Bool} : ∀ {m j : Nat}, lstQ p m j = none → ∀ i, j ≤ i → i < j + m → p i = false := by
  intro m
  induction m with
  | zero => intro j _ i h1 h2; omega
  | succ m ih =>
    intro j h i h1 h2
    unfold lstQ at h
    cases e : p j with
    | true => rw [e] at h; simp at h
    | false =>
      rw [e] at h
      by_cases hij : i = j
      · rw [hij]; exact e
      · exact ih (j := j + 1) (by simpa using h) i (by omega) (by omega)
theorem lstQ_some {p : Nat → Bool} : ∀ {m j k : Nat}, lstQ p m j = some k → p k = true ∧ j ≤ k ∧ k < j + m ∧ ∀ i, j ≤ i → i < k → p i = false := by
  intro m
  induction m with
  | zero => intro j k h; simp [lstQ] at h
  | succ m ih =>
    intro j k h
    unfold lstQ at h
    cases e : p j with
    | true =>
      rw [e] at h
      have : j = k := by simpa using h
      subst this
      exact ⟨e, by omega, by omega, fun i h1 h2 => by omega⟩
    | false =>
      rw [e] at h
      obtain ⟨h1, h2, h3, h4⟩ := ih (j := j + 1) (k := k) (by simpa using h)
      refine ⟨h1, by omega, by omega, fun i h5 h6 => ?_⟩
      by_cases hij : i = j
      · rw [hij]; exact e
      · exact h4 i (by omega) h6
def fitK (f n l : Int) (k : Nat) : Bool := fitB 0 (spV k) (max f 32) n l
def needQ (f n l : Int) : Option Nat := lstQ (fitK f n l) 11 0
def needN (o : Option Nat) : Int := match o with | some k => (k : Int) | none => 0
def needV (o : Option Nat) : Value := .tuple #[.int .i64 (needN o), .bool o.isSome]
theorem max_ite (f : Int) : (if f < 32 then 32 else f) = max f 32 := by split <;> omega
end Go.Proofs.Ytdmaendhkenmgaa.Bt
/- The contracts of what asks where objects fit: Whole, Aligned, Fit, Need, the program's and the document's. (Written by gen_oja.py.) -/
namespace Go.Proofs.Ytdmaendhkenmgaa.Bt
open Go Go.RowKit Go.Shelf
set_option linter.unusedVariables false
set_option linter.unusedSimpArgs false

theorem owh_any (a : Int) (w : World) : Calls Try.prog 95 #[.int .i64 a] w fun e w' => e = .returned (.bool (whB a)) ∧ w = w' := by
  by_cases h1 : 1 ≤ a
  · by_cases h2 : a ≤ 4096
    · rw [← wh_bits a h1 h2]
      go_enter Try.func95, Try.ntmps95
      go_wp2
      go_ret
      exact ⟨rfl, rfl⟩
    · rw [wh_no a (by omega)]
      go_enter Try.func95, Try.ntmps95
      go_wp2
      go_ret
      exact ⟨rfl, rfl⟩
  · rw [wh_no a (by omega)]
    go_enter Try.func95, Try.ntmps95
    go_wp2
    go_ret
    exact ⟨rfl, rfl⟩
theorem orw_any (a : Int) (w : World) : Calls Try.prog 96 #[.int .i64 a] w fun e w' => e = .returned (.bool (whB a)) ∧ w = w' := by
  go_enter Try.func96, Try.ntmps96
  go_wp2
  go_loop [3] (fun k => ∃ j : Nat, j ≤ 13 ∧ (∀ i, i < j → pwI i ≠ a) ∧ k = .int .i64 (pwI j)) (fun k => (8192 - intOf k).toNat)
  case atStart => exact ⟨0, by omega, fun i hi => by omega, rfl⟩
  case round =>
    obtain ⟨j, hj, hn, rfl⟩ := hrel
    have HN := Lib.hid hn; clear hn
    have hp := pwI_pos j
    by_cases hlt : j < 13
    · have hm := pwI_mono (show j ≤ 12 by omega)
      have h12 : pwI 12 ≤ 4096 := by decide
      by_cases he : pwI j = a
      · have hw := whB_pw j (by omega)
        rw [he] at hw
        have HW := Lib.hid hw; clear hw
        have hle : pwI j ≤ 4096 := by omega
        have hbe : (pwI j == a) = true := beq_iff_eq.2 he
        clear he
        go_wp2
        go_ret
        exact ⟨by rw [HW.out]; rfl, rfl⟩
      · have hbe : (pwI j == a) = false := beq_eq_false_iff_ne.2 he
        have hle : pwI j ≤ 4096 := by omega
        have hs : pwI (j + 1) = 2 * pwI j := pwI_succ j
        have HS := Lib.hid hs; clear hs
        have HE := Lib.hid he; clear he
        go_wp2
        go_round
        case rel => exact ⟨j + 1, by omega, fun i hi => by
          by_cases hij : i = j
          · subst hij; exact HE.out
          · exact HN.out i (by omega), by rw [HS.out]⟩
        case measure => simp [intOf]; omega
    · have hj13 : j = 13 := by omega
      subst hj13
      have hw := whB_none a HN.out
      have HW := Lib.hid hw; clear hw
      have h13 : 8192 ≤ pwI 13 := by decide
      go_wp2
      go_ret
      exact ⟨by rw [HW.out]; rfl, rfl⟩
theorem oal_any (a : Int) (w : World) : Calls Try.prog 40 #[.int .i64 a] w fun e w' => e = .returned (.bool (alB a)) ∧ w = w' := by
  have HW := Lib.hid (fun w => owh_any a w)
  rw [alB_wh]
  cases e1 : whB a with
  | false =>
    rw [e1] at HW
    go_enter Try.func40, Try.ntmps40
    go_wp2_with fail
    refine (HW.out _).mono ?_
    rintro e w1 ⟨rfl, rfl⟩
    go_wp2_with fail
    go_ret
    exact ⟨rfl, rfl⟩
  | true =>
    rw [e1] at HW
    cases e2 : decide (a ≤ 64) with
    | _ =>
      go_enter Try.func40, Try.ntmps40
      go_wp2_with fail
      refine (HW.out _).mono ?_
      rintro e w1 ⟨rfl, rfl⟩
      go_wp2_with fail
      go_ret
      exact ⟨rfl, rfl⟩
theorem ora_any (a : Int) (w : World) : Calls Try.prog 41 #[.int .i64 a] w fun e w' => e = .returned (.bool (alB a)) ∧ w = w' := by
  have HW := Lib.hid (fun w => orw_any a w)
  rw [alB_wh, Bool.and_comm]
  by_cases e2 : a ≤ 64
  · rw [decide_eq_true e2, Bool.true_and]
    generalize whB a = V at *
    go_enter Try.func41, Try.ntmps41
    go_wp2_with fail
    refine (HW.out _).mono ?_
    rintro e w1 ⟨rfl, rfl⟩
    go_wp2_with fail
    go_ret
    exact ⟨rfl, rfl⟩
  · rw [decide_eq_false e2, Bool.false_and]
    clear HW
    go_enter Try.func41, Try.ntmps41
    go_wp2_with fail
    go_ret
    exact ⟨rfl, rfl⟩
set_option maxRecDepth 100000 in
theorem ofit_any (a o u x : Int) (ha : 0 ≤ a) (ha2 : a ≤ 4294967296) (f n l : Int) (hf : f ≤ 9223372036854775807) (w : World) :
    Calls Try.prog 36 #[cV a o u x, .int .i64 f, .int .i64 n, .int .i64 l] w (Gives (fitV a (spV o) f n l) w) := by
  have HA := Lib.hid (fun w => oal_any l w)
  have HH := Lib.hid (fun w => has10_any a o u x ha ha2 f 0 hf w)
  have hsb := sp_bd o
  cases e1 : alB l with
  | false =>
    rw [e1] at HA
    rw [fit_no (fitB_al e1)]
    clear HH hsb
    go_enter Try.func36, Try.ntmps36
    go_upto_region 1 with fail
    have c := cb_new w a o u x
    have bw := Lib.hid (bel1 w (.cells (cC a o u x) 77))
    obtain ⟨y, hy⟩ : ∃ y, w.alloc (.cells (cC a o u x) 77) = y := ⟨_, rfl⟩
    obtain ⟨B, hB⟩ : ∃ B, w.heap.size = B := ⟨_, rfl⟩
    rw [hy] at c bw
    rw [hB] at c
    change Code.wp _ _ _ _ (w.alloc (.cells (cC a o u x) 77))
    rw [hy, hB]
    clear hy hB
    obtain ⟨c0, c1, c2, c3⟩ := c.all
    go_wp2_with fail
    refine (HA.out _).mono ?_
    rintro e w1 ⟨rfl, rfl⟩
    go_wp2_with fail
    go_ret2
    exact ⟨rfl, bw.out⟩
  | true =>
    rw [e1] at HA
    cases e2 : hasV a (spV o) f 0 with
    | false =>
      rw [e2] at HH
      rw [fit_no (fitB_from e2)]
      clear hsb
      go_enter Try.func36, Try.ntmps36
      go_upto_region 1 with fail
      have c := cb_new w a o u x
      have bw := Lib.hid (bel1 w (.cells (cC a o u x) 77))
      obtain ⟨y, hy⟩ : ∃ y, w.alloc (.cells (cC a o u x) 77) = y := ⟨_, rfl⟩
      obtain ⟨B, hB⟩ : ∃ B, w.heap.size = B := ⟨_, rfl⟩
      rw [hy] at c bw
      rw [hB] at c
      change Code.wp _ _ _ _ (w.alloc (.cells (cC a o u x) 77))
      rw [hy, hB]
      clear hy hB
      obtain ⟨c0, c1, c2, c3⟩ := c.all
      go_wp2_with fail
      refine (HA.out _).mono ?_
      rintro e w1 ⟨rfl, rfl⟩
      go_wp2_with fail
      refine (HH.out _).mono ?_
      rintro e w1 ⟨rfl, hb⟩
      have HB := Lib.hid (bw.out.trans (hb.mono bw.out.size))
      clear hb
      go_wp2_with fail
      go_ret2
      exact ⟨rfl, HB.out⟩
    | true =>
      rw [e2] at HH
      obtain ⟨h1, h2, h3⟩ := (hasV_iff _ _ _ _).1 e2
      have hl := alB_range e1
      have hu := i64_up (x := f + 16 + l - 1) e1 (by omega) (by omega)
      have hav : (f + 16 + l - 1) / l * l = atV f l := by unfold atV; rw [show f + 16 + l - 1 = f + 15 + l by omega]
      rw [hav] at hu
      have hbd := atV_bd (f := f) e1
      have q1 : wrap64 (f + 16) = f + 16 := IntWalk.wrap64_in _ ⟨by omega, by omega⟩
      have q2 : wrap64 (f + 16 + l) = f + 16 + l := IntWalk.wrap64_in _ ⟨by omega, by omega⟩
      have q3 : wrap64 (f + 16 + l - 1) = f + 16 + l - 1 := IntWalk.wrap64_in _ ⟨by omega, by omega⟩
      have q4 : wrap64 (l - 1) = l - 1 := IntWalk.wrap64_in _ ⟨by omega, by omega⟩
      have HH2 := Lib.hid (fun w => has10_any a o u x ha ha2 (atV f l) n (by omega) w)
      cases e3 : hasV a (spV o) (atV f l) n with
      | false =>
        rw [e3] at HH2
        rw [fit_no (fitB_room e3)]
        obtain ⟨Z, hZ⟩ : ∃ Z, atV f l = Z := ⟨_, rfl⟩
        rw [hZ] at hu HH2
        have HU := Lib.hid hu
        clear hsb h1 h2 h3 hl hav hbd ha ha2 hf hZ hu e1 e2 e3
        go_enter Try.func36, Try.ntmps36
        go_upto_region 1 with fail
        have c := cb_new w a o u x
        have bw := Lib.hid (bel1 w (.cells (cC a o u x) 77))
        obtain ⟨y, hy⟩ : ∃ y, w.alloc (.cells (cC a o u x) 77) = y := ⟨_, rfl⟩
        obtain ⟨B, hB⟩ : ∃ B, w.heap.size = B := ⟨_, rfl⟩
        rw [hy] at c bw
        rw [hB] at c
        change Code.wp _ _ _ _ (w.alloc (.cells (cC a o u x) 77))
        rw [hy, hB]
        clear hy hB
        obtain ⟨c0, c1, c2, c3⟩ := c.all
        have HC := Lib.hid c
        go_wp2_with fail
        refine (HA.out _).mono ?_
        rintro e w1 ⟨rfl, rfl⟩
        go_wp2_with fail
        refine (HH.out _).mono ?_
        rintro e w1 ⟨rfl, hb⟩
        have HC1 := Lib.hid (show CB B a o u x w1 from blk_at hb HC.out)
        have HB := Lib.hid (bw.out.trans (hb.mono bw.out.size))
        clear hb c0 c1 c2 c3 c HC bw
        obtain ⟨c0, c1, c2, c3⟩ := HC1.out.all
        have hu := HU.out
        go_wp2_with fail
        refine (HH2.out _).mono ?_
        rintro e w2 ⟨rfl, hb⟩
        have HB2 := Lib.hid (HB.out.trans (hb.mono HB.out.size))
        clear hb c0 c1 c2 c3
        go_wp2_with fail
        go_ret2
        exact ⟨rfl, HB2.out⟩
      | true =>
        rw [e3] at HH2
        rw [fit_yes (fitB_mk e1 e2 e3)]
        obtain ⟨Z, hZ⟩ : ∃ Z, atV f l = Z := ⟨_, rfl⟩
        rw [hZ] at hu HH2 ⊢
        have HU := Lib.hid hu
        clear hsb h1 h2 h3 hl hav hbd ha ha2 hf hZ hu e1 e2 e3
        go_enter Try.func36, Try.ntmps36
        go_upto_region 1 with fail
        have c := cb_new w a o u x
        have bw := Lib.hid (bel1 w (.cells (cC a o u x) 77))
        obtain ⟨y, hy⟩ : ∃ y, w.alloc (.cells (cC a o u x) 77) = y := ⟨_, rfl⟩
        obtain ⟨B, hB⟩ : ∃ B, w.heap.size = B := ⟨_, rfl⟩
        rw [hy] at c bw
        rw [hB] at c
        change Code.wp _ _ _ _ (w.alloc (.cells (cC a o u x) 77))
        rw [hy, hB]
        clear hy hB
        obtain ⟨c0, c1, c2, c3⟩ := c.all
        have HC := Lib.hid c
        go_wp2_with fail
        refine (HA.out _).mono ?_
        rintro e w1 ⟨rfl, rfl⟩
        go_wp2_with fail
        refine (HH.out _).mono ?_
        rintro e w1 ⟨rfl, hb⟩
        have HC1 := Lib.hid (show CB B a o u x w1 from blk_at hb HC.out)
        have HB := Lib.hid (bw.out.trans (hb.mono bw.out.size))
        clear hb c0 c1 c2 c3 c HC bw
        obtain ⟨c0, c1, c2, c3⟩ := HC1.out.all
        have hu := HU.out
        go_wp2_with fail
        refine (HH2.out _).mono ?_
        rintro e w2 ⟨rfl, hb⟩
        have HB2 := Lib.hid (HB.out.trans (hb.mono HB.out.size))
        clear hb c0 c1 c2 c3
        go_wp2_with fail
        go_ret2
        exact ⟨rfl, HB2.out⟩
end Go.Proofs.Ytdmaendhkenmgaa.Bt
/- The document's Fit, and the order that is needed, the program's and the document's. (Written by gen_ojb.py.) -/
namespace Go.Proofs.Ytdmaendhkenmgaa.Bt
open Go Go.RowKit Go.Shelf
set_option linter.unusedVariables false
set_option linter.unusedSimpArgs false

/-- what the document's Fit comes to: nothing ahead of the loop, or what fits tells of the least multiple -/
inductive FitCase (a S f n l : Int) : Prop
  | al (h : alB l = false) (e : fitB a S f n l = false)
  | neg (h : alB l = true) (h0 : n < 0) (e : fitB a S f n l = false)
  | front (h : alB l = true) (h0 : 0 ≤ n) (h1 : f < a + 32) (e : fitB a S f n l = false)
  | back (h : alB l = true) (h0 : 0 ≤ n) (h1 : a + 32 ≤ f) (h2 : a + S < f) (e : fitB a S f n l = false)
  | go (h : alB l = true) (h0 : 0 ≤ n) (h1 : a + 32 ≤ f) (h2 : f ≤ a + S)
theorem fitCase (a S f n l : Int) : FitCase a S f n l := by
  have no : ¬ (alB l = true ∧ (a + 32 ≤ f ∧ f ≤ a + S) ∧ 0 ≤ n ∧ n ≤ a + S - atV f l) → fitB a S f n l = false := fun h => by
    cases e : fitB a S f n l with
    | false => rfl
    | true => exact absurd ((fitB_iff a S f n l).1 e) h
  cases h : alB l with
  | false => exact .al h (no fun k => by rw [h] at k; cases k.1)
  | true =>
    by_cases h0 : 0 ≤ n
    · by_cases h1 : a + 32 ≤ f
      · by_cases h2 : f ≤ a + S
        · exact .go h h0 h1 h2
        · exact .back h h0 h1 (by omega) (no (by omega))
      · exact .front h h0 (by omega) (no (by omega))
    · exact .neg h (by omega) (no (by omega))
/-- the document's fits -/
theorem ofits_any (z n E : Int) (hz : 0 ≤ z) (hz2 : z ≤ 9223372036854775807) (hE : 0 ≤ E) (hE2 : E ≤ 9223372036854775807) (w : World) :
    Calls Try.prog 94 #[.int .i64 z, .int .i64 n, .int .i64 E] w fun e w' => e = .returned (.tuple #[.int .i64 (if z ≤ E ∧ n ≤ E - z then z else 0), .bool (decide (z ≤ E ∧ n ≤ E - z))]) ∧ w = w' := by
  by_cases h1 : z ≤ E
  · have q : wrap64 (E - z) = E - z := IntWalk.wrap64_in _ ⟨by omega, by omega⟩
    by_cases h2 : n ≤ E - z
    · rw [if_pos ⟨h1, h2⟩, decide_eq_true ⟨h1, h2⟩]
      go_enter Try.func94, Try.ntmps94
      go_wp2_with fail
      go_ret2
      exact ⟨rfl, rfl⟩
    · rw [if_neg (fun h => h2 h.2), decide_eq_false (fun h => h2 h.2)]
      go_enter Try.func94, Try.ntmps94
      go_wp2_with fail
      go_ret2
      exact ⟨rfl, rfl⟩
  · rw [if_neg (fun h => h1 h.1), decide_eq_false (fun h => h1 h.1)]
    go_enter Try.func94, Try.ntmps94
    go_wp2_with fail
    go_ret2
    exact ⟨rfl, rfl⟩
set_option maxRecDepth 100000 in
theorem orfit_any (a o u x : Int) (ha : 0 ≤ a) (ha2 : a ≤ 4294967296) (f n l : Int) (hf : f ≤ 9223372036854775807) (w : World) :
    Calls Try.prog 37 #[cV a o u x, .int .i64 f, .int .i64 n, .int .i64 l] w (Gives (fitV a (spV o) f n l) w) := by
  have HS := Lib.hid (fun w => refSp_any o w)
  have HA := Lib.hid (fun w => ora_any l w)
  have hb := sp_bd o
  obtain ⟨S, hS⟩ : ∃ S, spV o = S := ⟨_, rfl⟩
  rw [hS] at hb HS ⊢
  have QW : Hid (IntKind.i64.wrap (a + S) = a + S) := Lib.hid (IntWalk.i64_in _ (by omega))
  have q1 : wrap64 (a + 32) = a + 32 := IntWalk.wrap64_in _ ⟨by omega, by omega⟩
  have HAB : Hid (0 ≤ a ∧ a ≤ 4294967296 ∧ 0 ≤ S ∧ S ≤ 4194304) := Lib.hid ⟨ha, ha2, hb⟩
  have HCASE := Lib.hid (fitCase a S f n l)
  clear hS hb ha ha2 hf
  go_enter Try.func37, Try.ntmps37
  go_upto_region 1 with fail
  have c := rb_new w a o u x
  have bw := Lib.hid (bel1 w (.cells (cC a o u x) 82))
  obtain ⟨y, hy⟩ : ∃ y, w.alloc (.cells (cC a o u x) 82) = y := ⟨_, rfl⟩
  obtain ⟨B, hB⟩ : ∃ B, w.heap.size = B := ⟨_, rfl⟩
  rw [hy] at c bw
  rw [hB] at c
  change Code.wp _ _ _ _ (w.alloc (.cells (cC a o u x) 82))
  rw [hy, hB]
  clear hy hB
  obtain ⟨c0, c1, c2, c3⟩ := c.all
  have HB := Lib.hid (show Below w.heap.size w y.drew from bw.out.drew)
  have hS0 : RBS B a o u x y.drew := (rbs_mk c).below (Below.refl _ _).drew
  clear c c0 c1 c2 c3
  refine wp_region_held_drew (S := RBS B a o u x) (by kernel_rfl) hS0 (fun hHeld => ?_)
  clear hS0
  refine wpAnyH_take (i := 0) (v := (.pointer (some ⟨B, 0, none⟩))) rfl (by kernel_rfl) (by kernel_rfl) (by kernel_rfl) (fun _ _ _ h => h) (Or.inl ⟨by rfl, fun X hS => ?_⟩) hHeld ?_
  · obtain ⟨s0, s1, s2, s3, s4⟩ := hS
    go_simp
  try simp only [Act.put, List.getElem_toArray, List.getElem_cons_zero, List.getElem_cons_succ, List.setIfInBounds_toArray, List.set_cons_zero, List.set_cons_succ]
  refine wpAnyH_take (i := 1) (v := (.int .i64 a)) rfl (by kernel_rfl) (by kernel_rfl) (by kernel_rfl) (fun _ _ _ h => h) (Or.inl ⟨by rfl, fun X hS => ?_⟩) hHeld ?_
  · obtain ⟨s0, s1, s2, s3, s4⟩ := hS
    go_simp
  try simp only [Act.put, List.getElem_toArray, List.getElem_cons_zero, List.getElem_cons_succ, List.setIfInBounds_toArray, List.set_cons_zero, List.set_cons_succ]
  refine wpAnyH_take (i := 2) (v := (.pointer (some ⟨B, 1, none⟩))) rfl (by kernel_rfl) (by kernel_rfl) (by kernel_rfl) (fun _ _ _ h => h) (Or.inl ⟨by rfl, fun X hS => ?_⟩) hHeld ?_
  · obtain ⟨s0, s1, s2, s3, s4⟩ := hS
    go_simp
  try simp only [Act.put, List.getElem_toArray, List.getElem_cons_zero, List.getElem_cons_succ, List.setIfInBounds_toArray, List.set_cons_zero, List.set_cons_succ]
  refine wpAnyH_take (i := 3) (v := (.int .i64 o)) rfl (by kernel_rfl) (by kernel_rfl) (by kernel_rfl) (fun _ _ _ h => h) (Or.inl ⟨by rfl, fun X hS => ?_⟩) hHeld ?_
  · obtain ⟨s0, s1, s2, s3, s4⟩ := hS
    go_simp
  try simp only [Act.put, List.getElem_toArray, List.getElem_cons_zero, List.getElem_cons_succ, List.setIfInBounds_toArray, List.set_cons_zero, List.set_cons_succ]
  refine wpAnyH_ready (rs := [4]) (by kernel_rfl) (by simp) (AllReadyH.cons rfl (fun K1 hK1 => ?_) AllReadyH.nil)
  go_simp
  refine (HS.out _).mono ?_
  rintro e x1 ⟨rfl, rfl⟩
  have hS1 := hHeld
  clear hHeld
  refine hK1.out _ _ hS1 (fun hHeld => ?_)
  have HSS := Lib.hid hS1.2.2.2.2
  clear hK1 hS1
  try simp only [Act.put, List.getElem_toArray, List.getElem_cons_zero, List.getElem_cons_succ, List.setIfInBounds_toArray, List.set_cons_zero, List.set_cons_succ]
  refine wpAnyH_take (i := 5) (v := (.int .i64 (a + S))) rfl (by kernel_rfl) (by kernel_rfl) (by kernel_rfl) (fun _ _ _ h => h) (Or.inl ⟨by rfl, fun X hS => ?_⟩) hHeld ?_
  · obtain ⟨s0, s1, s2, s3, s4⟩ := hS
    have q := QW.out
    go_simp
  try simp only [Act.put, List.getElem_toArray, List.getElem_cons_zero, List.getElem_cons_succ, List.setIfInBounds_toArray, List.set_cons_zero, List.set_cons_succ]
  refine wpAnyH_take (i := 6) (v := (.int .i64 (a + S))) rfl (by kernel_rfl) (by kernel_rfl) (by kernel_rfl) (fun _ _ _ h => h) (Or.inl ⟨by rfl, fun X hS => ?_⟩) hHeld ?_
  · obtain ⟨s0, s1, s2, s3, s4⟩ := hS
    go_simp
  try simp only [Act.put, List.getElem_toArray, List.getElem_cons_zero, List.getElem_cons_succ, List.setIfInBounds_toArray, List.set_cons_zero, List.set_cons_succ]
  refine wpAnyH_done (by kernel_rfl) ?_ _
  clear hHeld
  obtain ⟨c0, c1, c2, c3⟩ := HSS.out.all
  clear HSS
  obtain ⟨E, hE⟩ : ∃ E, a + S = E := ⟨_, rfl⟩
  have HEE := Lib.hid hE
  rw [hE]
  rcases HCASE.out with ⟨h, e⟩ | ⟨h, h0, e⟩ | ⟨h, h0, h1, e⟩ | ⟨h, h0, h1, h2, e⟩ | ⟨h, h0, h1, h2⟩
  · have HFV := Lib.hid (fit_no e)
    rw [h] at HA
    clear HCASE h e hE HAB QW
    go_wp2_with fail
    refine (HA.out _).mono ?_
    rintro e w1 ⟨rfl, rfl⟩
    go_wp2_with fail
    go_ret2
    exact ⟨by rw [HFV.out]; rfl, HB.out⟩
  · have HFV := Lib.hid (fit_no e)
    rw [h] at HA
    clear HCASE h e hE HAB QW
    go_wp2_with fail
    refine (HA.out _).mono ?_
    rintro e w1 ⟨rfl, rfl⟩
    go_wp2_with fail
    go_ret2
    exact ⟨by rw [HFV.out]; rfl, HB.out⟩
  · have HFV := Lib.hid (fit_no e)
    rw [h] at HA
    clear HCASE h e hE HAB QW
    go_wp2_with fail
    refine (HA.out _).mono ?_
    rintro e w1 ⟨rfl, rfl⟩
    go_wp2_with fail
    go_ret2
    exact ⟨by rw [HFV.out]; rfl, HB.out⟩
  · have HFV := Lib.hid (fit_no e)
    rw [h] at HA
    rw [hE] at h2
    clear HCASE h e hE HAB QW
    go_wp2_with fail
    refine (HA.out _).mono ?_
    rintro e w1 ⟨rfl, rfl⟩
    go_wp2_with fail
    go_ret2
    exact ⟨by rw [HFV.out]; rfl, HB.out⟩
  · have hr := alB_range h
    have hbd := atV_bd (f := f) h
    obtain ⟨b1, b2, b3, b4⟩ := HAB.out
    have HZ : Hid (fitV a S f n l = .tuple #[.int .i64 (if atV f l ≤ E ∧ n ≤ E - atV f l then atV f l else 0), .bool (decide (atV f l ≤ E ∧ n ≤ E - atV f l))]) := Lib.hid (by
      by_cases g : atV f l ≤ E ∧ n ≤ E - atV f l
      · rw [if_pos g, decide_eq_true g, fit_yes ((fitB_iff _ _ _ _ _).2 ⟨h, ⟨h1, h2⟩, h0, by rw [hE]; exact g.2⟩)]
      · rw [if_neg g, decide_eq_false g]
        refine fit_no ?_
        cases e : fitB a S f n l with
        | false => rfl
        | true => exact absurd ((fitB_iff _ _ _ _ _).1 e) (by rw [hE]; rintro ⟨_, _, k1, k2⟩; exact g ⟨by omega, k2⟩))
    have HON := Lib.hid (fun z (k1 : f + 16 ≤ z) (k2 : z < f + 16 + l) (k3 : z % l = 0) => atV_only h k1 k2 k3)
    have HMZ := Lib.hid hbd.2.2
    obtain ⟨Z, hZ⟩ : ∃ Z, atV f l = Z := ⟨_, rfl⟩
    rw [hZ] at HZ HON HMZ hbd
    have HFI := Lib.hid (fun w => ofits_any Z n E (by omega) (by omega) (by omega) (by omega) w)
    have hZ1 := hbd.1
    have hZ2 := hbd.2.1
    have hE1 : f ≤ E := by omega
    have hE2 : E ≤ 4299161600 := by omega
    have hf1 : 32 ≤ f := by omega
    rw [h] at HA
    obtain ⟨V1, hV1⟩ : ∃ V1 : Int, (if Z ≤ E ∧ n ≤ E - Z then Z else 0) = V1 := ⟨_, rfl⟩
    obtain ⟨V2, hV2⟩ : ∃ V2 : Bool, decide (Z ≤ E ∧ n ≤ E - Z) = V2 := ⟨_, rfl⟩
    rw [hV1, hV2] at HFI HZ
    clear HCASE h hE HAB QW hZ hV1 hV2 hbd h2 b1 b2 b3 b4
    go_wp2_with fail
    refine (HA.out _).mono ?_
    rintro e w1 ⟨rfl, rfl⟩
    go_wp2_with fail
    go_loop [11] (fun k => ∃ j : Nat, f + 16 + (j : Int) ≤ Z ∧ k = .int .i64 (f + 16 + (j : Int))) (fun k => (Z + 1 - intOf k).toNat)
    case atStart => exact ⟨0, by omega, by simp⟩
    case round =>
      obtain ⟨j, hj, rfl⟩ := hrel
      obtain ⟨z, hz⟩ : ∃ z, f + 16 + (j : Int) = z := ⟨_, rfl⟩
      rw [hz] at hj ⊢
      have hz0 : f + 16 ≤ z := by omega
      have HJ := Lib.hid hz
      clear hz
      by_cases he : z = Z
      · subst he
        have hm : (z % l == 0) = true := beq_iff_eq.2 HMZ.out
        have hm2 : z % l = 0 := HMZ.out
        go_wp2_with fail
        refine (HFI.out _).mono ?_
        rintro e w2 ⟨rfl, rfl⟩
        go_wp2_with fail
        go_ret2
        exact ⟨by rw [HZ.out]; rfl, HB.out⟩
      · have hlt : z < Z := by omega
        have hm0 : ¬ z % l = 0 := fun k => he (HON.out z hz0 (by omega) k)
        have hm : (z % l == 0) = false := beq_eq_false_iff_ne.2 hm0
        have hmb : 0 ≤ z % l ∧ z % l < l := ⟨Int.emod_nonneg _ (by omega), Int.emod_lt_of_pos _ (by omega)⟩
        have HE := Lib.hid he
        clear he hm0
        go_wp2_with fail
        go_round
        case rel => exact ⟨j + 1, by have := HJ.out; omega, by rw [← HJ.out]; congr 1; omega⟩
        case measure => simp [intOf]; omega
def NdR (p : Nat → Bool) (w : World) (s : Value) (wr : World) : Prop := ∃ j : Nat, j ≤ 11 ∧ s = .int .i64 (j : Int) ∧ lstQ p 11 0 = lstQ p (11 - j) j ∧ Below w.heap.size w wr
set_option maxRecDepth 100000 in
theorem oneed_any (f n l : Int) (hf : f ≤ 9223372036854775807) (w : World) :
    Calls Try.prog 38 #[.int .i64 f, .int .i64 n, .int .i64 l] w (Gives (needV (needQ f n l)) w) := by
  have HF := Lib.hid (fun (k : Nat) w => ofit_any 0 (k : Int) 0 0 (by omega) (by omega) (max f 32) n l (by omega) w)
  have hmx := max_ite f
  obtain ⟨M, hM⟩ : ∃ M, max f 32 = M := ⟨_, rfl⟩
  rw [hM] at HF hmx
  obtain ⟨p, hp⟩ : ∃ p : Nat → Bool, (fun k : Nat => fitB 0 (spV (k : Int)) M n l) = p := ⟨_, rfl⟩
  have HP : Hid (∀ k : Nat, fitB 0 (spV (k : Int)) M n l = p k) := Lib.hid (fun k => congrFun hp k)
  have HQ : Hid (needQ f n l = lstQ p 11 0) := Lib.hid (by unfold needQ; rw [← hp]; congr 1; funext k; unfold fitK; rw [hM])
  rw [HQ.out]
  clear hM hp HQ
  go_enter Try.func38, Try.ntmps38
  go_wp2_with fail
  go_loopw [11] (fun s wr => NdR p w s wr) (fun s _ => 11 - (intOf s).toNat)
  case atStart => exact ⟨0, by omega, rfl, rfl, Below.refl _ _⟩
  case round =>
    obtain ⟨j, hj, rfl, hq, hb0⟩ := hrel
    have HB := Lib.hid hb0; have HQ := Lib.hid hq
    clear hb0 hq
    by_cases hlt : j < 11
    · have HFJ := Lib.hid (HF.out j)
      cases e : p j with
      | true =>
        have HFE : Hid (fitV 0 (spV (j : Int)) M n l = .tuple #[.int .i64 (atV M l), .bool true]) := Lib.hid (fit_yes (by rw [HP.out, e]))
        rw [HFE.out] at HFJ
        have HRES : Hid (lstQ p 11 0 = some j) := Lib.hid (by rw [HQ.out, show 11 - j = (10 - j) + 1 by omega]; unfold lstQ; rw [e]; rfl)
        clear e HFE
        go_wp2_with fail
        refine (HFJ.out _).mono ?_
        rintro e w2 ⟨rfl, hb⟩
        have HB2 := Lib.hid (HB.out.trans (hb.mono HB.out.size))
        clear hb
        go_wp2_with fail
        go_ret2
        exact ⟨by rw [HRES.out]; rfl, HB2.out⟩
      | false =>
        have HFE : Hid (fitV 0 (spV (j : Int)) M n l = .tuple #[.int .i64 0, .bool false]) := Lib.hid (fit_no (by rw [HP.out, e]))
        rw [HFE.out] at HFJ
        have HRES : Hid (lstQ p 11 0 = lstQ p (11 - (j + 1)) (j + 1)) := Lib.hid (by rw [HQ.out, show 11 - j = (11 - (j + 1)) + 1 by omega]; conv => lhs; unfold lstQ
                                                                                     rw [e]; rfl)
        clear e HFE
        go_wp2_with fail
        refine (HFJ.out _).mono ?_
        rintro e w2 ⟨rfl, hb⟩
        have HB2 := Lib.hid (HB.out.trans (hb.mono HB.out.size))
        clear hb
        go_wp2_with fail
        go_roundw
        case rel => exact ⟨j + 1, by omega, by go_num, HRES.out, HB2.out⟩
        case measure => simp [intOf]; omega
    · obtain rfl : j = 11 := by omega
      have HRES : Hid (lstQ p 11 0 = none) := Lib.hid (by rw [HQ.out]; rfl)
      go_wp2_with fail
      go_ret2
      exact ⟨by rw [HRES.out]; rfl, HB.out⟩
set_option maxRecDepth 100000 in
theorem orneed_any (f n l : Int) (hf : f ≤ 9223372036854775807) (w : World) :
    Calls Try.prog 39 #[.int .i64 f, .int .i64 n, .int .i64 l] w (Gives (needV (needQ f n l)) w) := by
  have HF := Lib.hid (fun (k : Nat) w => orfit_any 0 (k : Int) 0 0 (by omega) (by omega) (max f 32) n l (by omega) w)
  have hmx := max_ite f
  obtain ⟨M, hM⟩ : ∃ M, max f 32 = M := ⟨_, rfl⟩
  rw [hM] at HF hmx
  obtain ⟨p, hp⟩ : ∃ p : Nat → Bool, (fun k : Nat => fitB 0 (spV (k : Int)) M n l) = p := ⟨_, rfl⟩
  have HP : Hid (∀ k : Nat, fitB 0 (spV (k : Int)) M n l = p k) := Lib.hid (fun k => congrFun hp k)
  have HQ : Hid (needQ f n l = lstQ p 11 0) := Lib.hid (by unfold needQ; rw [← hp]; congr 1; funext k; unfold fitK; rw [hM])
  rw [HQ.out]
  clear hM hp HQ
  go_enter Try.func39, Try.ntmps39
  go_wp2_with fail
  go_loopw [8] (fun s wr => NdR p w s wr) (fun s _ => 11 - (intOf s).toNat)
  case atStart => exact ⟨0, by omega, rfl, rfl, Below.refl _ _⟩
  case round =>
    obtain ⟨j, hj, rfl, hq, hb0⟩ := hrel
    have HB := Lib.hid hb0; have HQ := Lib.hid hq
    clear hb0 hq
    by_cases hlt : j < 11
    · have HFJ := Lib.hid (HF.out j)
      cases e : p j with
      | true =>
        have HFE : Hid (fitV 0 (spV (j : Int)) M n l = .tuple #[.int .i64 (atV M l), .bool true]) := Lib.hid (fit_yes (by rw [HP.out, e]))
        rw [HFE.out] at HFJ
        have HRES : Hid (lstQ p 11 0 = some j) := Lib.hid (by rw [HQ.out, show 11 - j = (10 - j) + 1 by omega]; unfold lstQ; rw [e]; rfl)
        clear e HFE
        go_wp2_with fail
        refine (HFJ.out _).mono ?_
        rintro e w2 ⟨rfl, hb⟩
        have HB2 := Lib.hid (HB.out.trans (hb.mono HB.out.size))
        clear hb
        go_wp2_with fail
        go_ret2
        exact ⟨by rw [HRES.out]; rfl, HB2.out⟩
      | false =>
        have HFE : Hid (fitV 0 (spV (j : Int)) M n l = .tuple #[.int .i64 0, .bool false]) := Lib.hid (fit_no (by rw [HP.out, e]))
        rw [HFE.out] at HFJ
        have HRES : Hid (lstQ p 11 0 = lstQ p (11 - (j + 1)) (j + 1)) := Lib.hid (by rw [HQ.out, show 11 - j = (11 - (j + 1)) + 1 by omega]; conv => lhs; unfold lstQ
                                                                                     rw [e]; rfl)
        clear e HFE
        go_wp2_with fail
        refine (HFJ.out _).mono ?_
        rintro e w2 ⟨rfl, hb⟩
        have HB2 := Lib.hid (HB.out.trans (hb.mono HB.out.size))
        clear hb
        go_wp2_with fail
        go_roundw
        case rel => exact ⟨j + 1, by omega, by go_num, HRES.out, HB2.out⟩
        case measure => simp [intOf]; omega
    · obtain rfl : j = 11 := by omega
      have HRES : Hid (lstQ p 11 0 = none) := Lib.hid (by rw [HQ.out]; rfl)
      go_wp2_with fail
      go_ret2
      exact ⟨by rw [HRES.out]; rfl, HB.out⟩
end Go.Proofs.Ytdmaendhkenmgaa.Bt
/- The chapter's examples; where an object fits, and what it needs, for any numbers. -/
namespace Go.Proofs.Ytdmaendhkenmgaa.Bt
open Go Go.RowKit Go.Shelf
set_option linter.unusedVariables false
set_option linter.unusedSimpArgs false

theorem awake10u_calls (w : World) : Calls Try.prog 85 #[] w (Gives (.bool true) w) := by
  go_enter Try.func85, Try.ntmps85
  go_wp2_with fail
  refine (awake10_calls _).mono ?_
  rintro e w1 ⟨rfl, hb⟩
  go_wp2_with fail
  go_ret
  exact ⟨rfl, hb⟩
theorem need_1 : needV (needQ 32 4048 16) = .tuple #[.int .i64 0, .bool true] := by
  have : needQ 32 4048 16 = some 0 := by decide
  rw [this]; rfl
theorem need_2 : needV (needQ 32 4049 16) = .tuple #[.int .i64 1, .bool true] := by
  have : needQ 32 4049 16 = some 1 := by decide
  rw [this]; rfl
theorem fit_1 : fitV 4096 (spV 0) 4128 10 8 = .tuple #[.int .i64 4144, .bool true] := by
  rw [fit_yes (by decide), show atV 4128 8 = 4144 by decide]
theorem awake14_calls (w : World) : Calls Try.prog 29 #[] w (Gives (.bool true) w) := by
  have H1 := Lib.hid (fun w => ofit_any 4096 0 0 0 (by omega) (by omega) 4128 10 8 (by omega) w)
  have H2 := Lib.hid (fun w => oneed_any 32 4048 16 (by omega) w)
  have H3 := Lib.hid (fun w => oneed_any 32 4049 16 (by omega) w)
  rw [need_1] at H2
  rw [need_2] at H3
  rw [fit_1] at H1
  go_enter Try.func29, Try.ntmps29
  go_wp2_with fail
  refine (H1.out _).mono ?_
  rintro e w1 ⟨rfl, hb⟩
  have HB := Lib.hid hb
  clear hb
  go_wp2_with fail
  refine (H2.out _).mono ?_
  rintro e w2 ⟨rfl, hb⟩
  have HB2 := Lib.hid (HB.out.trans (hb.mono HB.out.size))
  clear hb
  go_wp2_with fail
  refine (H3.out _).mono ?_
  rintro e w3 ⟨rfl, hb⟩
  have HB3 := Lib.hid (HB2.out.trans (hb.mono HB2.out.size))
  clear hb
  go_wp2_with fail
  refine (awake10u_calls _).mono ?_
  rintro e w4 ⟨rfl, hb⟩
  have HB4 := Lib.hid (HB3.out.trans (hb.mono HB3.out.size))
  clear hb
  go_wp2_with fail
  go_ret
  exact ⟨rfl, HB4.out⟩
/- CASES -/
set_option maxRecDepth 100000 in
theorem ofits_walk (a o u x f n l : Int) (hf : f ≤ 9223372036854775807) (w : World) :
    Calls Try.prog 6 #[cV a o u x, .int .i64 f, .int .i64 n, .int .i64 l] w (TrueAt w) := by
  have HSP := Lib.hid (fun w => refSp_any o w)
  by_cases h1 : 0 ≤ a
  · by_cases h2 : a ≤ 4294967296
    · by_cases h3 : a % 4096 = 0
      · have d2 : (a.tmod 4096 != 0) = false := by rw [Int.tmod_eq_emod_of_nonneg h1]; simpa using h3
        have d3 : (a % 4096 != 0) = false := by simpa using h3
        by_cases h4 : spV o = 0
        · rw [h4] at HSP
          clear h4 hf
          go_enter Try.func6, Try.ntmps6
          go_upto_region 1 with fail
          have c := cb_new w a o u x
          have bw := Lib.hid (bel1 w (.cells (cC a o u x) 77))
          obtain ⟨y, hy⟩ : ∃ y, w.alloc (.cells (cC a o u x) 77) = y := ⟨_, rfl⟩
          obtain ⟨B, hB⟩ : ∃ B, w.heap.size = B := ⟨_, rfl⟩
          rw [hy] at c bw
          rw [hB] at c
          change Code.wp _ _ _ _ (w.alloc (.cells (cC a o u x) 77))
          rw [hy, hB]
          clear hy hB
          obtain ⟨c0, c1, c2, c3⟩ := c.all
          go_wp2_with fail
          refine (awake14_calls _).mono ?_
          rintro e w1 ⟨rfl, hb⟩
          have HC := Lib.hid (show CB B a o u x w1 from blk_at hb c)
          have HB := Lib.hid (bw.out.trans (hb.mono bw.out.size))
          clear hb c c0 c1 c2 c3 bw
          obtain ⟨c0, c1, c2, c3⟩ := HC.out.all
          go_wp2_with fail
          refine (HSP.out _).mono ?_
          rintro e w2 ⟨rfl, rfl⟩
          go_wp2_with fail
          go_ret
          exact ⟨rfl, HB.out⟩
        · have HF1 := Lib.hid (fun w => ofit_any a o u x h1 h2 f n l hf w)
          have HF2 := Lib.hid (fun w => orfit_any a o u x h1 h2 f n l hf w)
          have HN1 := Lib.hid (fun w => oneed_any f n l hf w)
          have HN2 := Lib.hid (fun w => orneed_any f n l hf w)
          have HA1 := Lib.hid (fun w => oal_any l w)
          have HA2 := Lib.hid (fun w => ora_any l w)
          unfold fitV at HF1 HF2
          unfold needV at HN1 HN2
          obtain ⟨S, hS⟩ : ∃ S, spV o = S := ⟨_, rfl⟩
          obtain ⟨F, hF⟩ : ∃ F, fitA a (spV o) f n l = F := ⟨_, rfl⟩
          obtain ⟨G, hG⟩ : ∃ G, fitB a (spV o) f n l = G := ⟨_, rfl⟩
          obtain ⟨M, hM⟩ : ∃ M, needN (needQ f n l) = M := ⟨_, rfl⟩
          obtain ⟨Q, hQ⟩ : ∃ Q, (needQ f n l).isSome = Q := ⟨_, rfl⟩
          obtain ⟨L, hL⟩ : ∃ L, alB l = L := ⟨_, rfl⟩
          rw [hF, hG] at HF1 HF2
          rw [hM, hQ] at HN1 HN2
          rw [hL] at HA1 HA2
          rw [hS] at HSP h4
          have hS0 : (S == 0) = false := by simpa using h4
          clear h4 hf hS hF hG hM hQ hL
          go_enter Try.func6, Try.ntmps6
          go_upto_region 1 with fail
          have c := cb_new w a o u x
          have bw := Lib.hid (bel1 w (.cells (cC a o u x) 77))
          obtain ⟨y, hy⟩ : ∃ y, w.alloc (.cells (cC a o u x) 77) = y := ⟨_, rfl⟩
          obtain ⟨B, hB⟩ : ∃ B, w.heap.size = B := ⟨_, rfl⟩
          rw [hy] at c bw
          rw [hB] at c
          change Code.wp _ _ _ _ (w.alloc (.cells (cC a o u x) 77))
          rw [hy, hB]
          clear hy hB
          obtain ⟨c0, c1, c2, c3⟩ := c.all
          go_wp2_with fail
          refine (awake14_calls _).mono ?_
          rintro e w1 ⟨rfl, hb⟩
          have HC := Lib.hid (show CB B a o u x w1 from blk_at hb c)
          have HB := Lib.hid (bw.out.trans (hb.mono bw.out.size))
          clear hb c c0 c1 c2 c3 bw
          obtain ⟨c0, c1, c2, c3⟩ := HC.out.all
          go_wp2_with fail
          refine (HSP.out _).mono ?_
          rintro e w2 ⟨rfl, rfl⟩
          go_wp2_with fail
          refine (HF1.out _).mono ?_
          rintro e w2 ⟨rfl, hb⟩
          have HC2 := Lib.hid (show CB B a o u x w2 from blk_at hb HC.out)
          have HB2 := Lib.hid (HB.out.trans (hb.mono HB.out.size))
          clear hb c0 c1 c2 c3 HC HB
          obtain ⟨c0, c1, c2, c3⟩ := HC2.out.all
          go_wp2_with fail
          refine (HF2.out _).mono ?_
          rintro e w3 ⟨rfl, hb⟩
          have HB3 := Lib.hid (HB2.out.trans (hb.mono HB2.out.size))
          clear hb c0 c1 c2 c3 HC2 HB2
          go_wp2_with fail
          refine (HN1.out _).mono ?_
          rintro e w4 ⟨rfl, hb⟩
          have HB4 := Lib.hid (HB3.out.trans (hb.mono HB3.out.size))
          clear hb HB3
          go_wp2_with fail
          refine (HN2.out _).mono ?_
          rintro e w5 ⟨rfl, hb⟩
          have HB5 := Lib.hid (HB4.out.trans (hb.mono HB4.out.size))
          clear hb HB4
          have e1 : (F == F) = true := by simp
          have e2 : (G == G) = true := by simp
          have e3 : (M == M) = true := by simp
          have e4 : (Q == Q) = true := by simp
          have e5 : (L == L) = true := by simp
          go_wp2_with fail
          refine (HA1.out _).mono ?_
          rintro e w6 ⟨rfl, rfl⟩
          go_wp2_with fail
          refine (HA2.out _).mono ?_
          rintro e w7 ⟨rfl, rfl⟩
          go_wp2_with fail
          go_ret
          exact ⟨rfl, HB5.out⟩
      · have d2 : (a.tmod 4096 != 0) = true := by rw [Int.tmod_eq_emod_of_nonneg h1]; simpa using h3
        have d3 : (a % 4096 != 0) = true := by simpa using h3
        go_enter Try.func6, Try.ntmps6
        go_upto_region 1 with fail
        have c := cb_new w a o u x
        have bw := Lib.hid (bel1 w (.cells (cC a o u x) 77))
        obtain ⟨y, hy⟩ : ∃ y, w.alloc (.cells (cC a o u x) 77) = y := ⟨_, rfl⟩
        obtain ⟨B, hB⟩ : ∃ B, w.heap.size = B := ⟨_, rfl⟩
        rw [hy] at c bw
        rw [hB] at c
        change Code.wp _ _ _ _ (w.alloc (.cells (cC a o u x) 77))
        rw [hy, hB]
        clear hy hB
        obtain ⟨c0, c1, c2, c3⟩ := c.all
        go_wp2_with fail
        refine (awake14_calls _).mono ?_
        rintro e w1 ⟨rfl, hb⟩
        have HC := Lib.hid (show CB B a o u x w1 from blk_at hb c)
        have HB := Lib.hid (bw.out.trans (hb.mono bw.out.size))
        clear hb c c0 c1 c2 c3 bw
        obtain ⟨c0, c1, c2, c3⟩ := HC.out.all
        go_wp2_with fail
        go_ret
        exact ⟨rfl, HB.out⟩
    · clear HSP
      go_enter Try.func6, Try.ntmps6
      go_upto_region 1 with fail
      have c := cb_new w a o u x
      have bw := Lib.hid (bel1 w (.cells (cC a o u x) 77))
      obtain ⟨y, hy⟩ : ∃ y, w.alloc (.cells (cC a o u x) 77) = y := ⟨_, rfl⟩
      obtain ⟨B, hB⟩ : ∃ B, w.heap.size = B := ⟨_, rfl⟩
      rw [hy] at c bw
      rw [hB] at c
      change Code.wp _ _ _ _ (w.alloc (.cells (cC a o u x) 77))
      rw [hy, hB]
      clear hy hB
      obtain ⟨c0, c1, c2, c3⟩ := c.all
      go_wp2_with fail
      refine (awake14_calls _).mono ?_
      rintro e w1 ⟨rfl, hb⟩
      have HC := Lib.hid (show CB B a o u x w1 from blk_at hb c)
      have HB := Lib.hid (bw.out.trans (hb.mono bw.out.size))
      clear hb c c0 c1 c2 c3 bw
      obtain ⟨c0, c1, c2, c3⟩ := HC.out.all
      go_wp2_with fail
      go_ret
      exact ⟨rfl, HB.out⟩
  · clear HSP
    go_enter Try.func6, Try.ntmps6
    go_upto_region 1 with fail
    have c := cb_new w a o u x
    have bw := Lib.hid (bel1 w (.cells (cC a o u x) 77))
    obtain ⟨y, hy⟩ : ∃ y, w.alloc (.cells (cC a o u x) 77) = y := ⟨_, rfl⟩
    obtain ⟨B, hB⟩ : ∃ B, w.heap.size = B := ⟨_, rfl⟩
    rw [hy] at c bw
    rw [hB] at c
    change Code.wp _ _ _ _ (w.alloc (.cells (cC a o u x) 77))
    rw [hy, hB]
    clear hy hB
    obtain ⟨c0, c1, c2, c3⟩ := c.all
    go_wp2_with fail
    refine (awake14_calls _).mono ?_
    rintro e w1 ⟨rfl, hb⟩
    have HC := Lib.hid (show CB B a o u x w1 from blk_at hb c)
    have HB := Lib.hid (bw.out.trans (hb.mono bw.out.size))
    clear hb c c0 c1 c2 c3 bw
    obtain ⟨c0, c1, c2, c3⟩ := HC.out.all
    go_wp2_with fail
    go_ret
    exact ⟨rfl, HB.out⟩
end Go.Proofs.Ytdmaendhkenmgaa.Bt
/- What an object needs is enough, and less isn't, for any numbers. (Written by gen_ojd.py.) -/
namespace Go.Proofs.Ytdmaendhkenmgaa.Bt
open Go Go.RowKit Go.Shelf
set_option linter.unusedVariables false
set_option linter.unusedSimpArgs false

theorem fitK_at {A : Int} (f n l : Int) (k : Nat) (hA : A % 4096 = 0) : fitB A (spV (k : Int)) (A + max f 32) n l = fitK f n l k := fitB_shift _ _ _ _ hA
set_option maxRecDepth 100000 in
set_option maxHeartbeats 8000000 in
theorem oneeds_walk (g f n l : Int) (hg : 0 ≤ g ∧ g ≤ 65535) (hf : 0 ≤ f ∧ f ≤ 65535) (w : World) :
    Calls Try.prog 7 #[.int .u16 g, .int .u16 f, .int .i64 n, .int .i64 l] w (TrueAt w) := by
  have HN := Lib.hid (fun w => oneed_any f n l (by omega) w)
  have QG : wrap64 (g * 4096) = g * 4096 := IntWalk.wrap64_in _ ⟨by omega, by omega⟩
  have QF : wrap64 f = f := IntWalk.wrap64_in _ ⟨by omega, by omega⟩
  have QG0 : wrap64 g = g := IntWalk.wrap64_in _ ⟨by omega, by omega⟩
  have hmx := max_ite f
  have hA4 : (g * 4096) % 4096 = 0 := by omega
  have hMb : 32 ≤ max f 32 ∧ max f 32 ≤ 65535 := by omega
  have HK := Lib.hid (fun k : Nat => fitK_at (A := g * 4096) f n l k hA4)
  have HAb : Hid (0 ≤ g * 4096 ∧ g * 4096 ≤ 268431360) := Lib.hid (by omega)
  obtain ⟨M, hM⟩ : ∃ M, max f 32 = M := ⟨_, rfl⟩
  obtain ⟨A, hA⟩ : ∃ A, g * 4096 = A := ⟨_, rfl⟩
  rw [hM] at hmx hMb HK
  rw [hA] at HK HAb
  replace QG : wrap64 (g * 4096) = A := QG.trans hA
  have QAM : wrap64 (A + M) = A + M := IntWalk.wrap64_in _ ⟨by have := HAb.out; omega, by have := HAb.out; omega⟩
  clear hM hA4
  cases hq : needQ f n l with
  | none =>
    have h10 : fitK f n l 10 = false := lstQ_none hq 10 (by omega) (by omega)
    have HF := Lib.hid (fun w => ofit_any A 10 0 0 (by have := HAb.out; omega) (by have := HAb.out; omega) (A + M) n l (by have := HAb.out; omega) w)
    have e10 : fitB A (spV 10) (A + M) n l = fitK f n l 10 := HK.out 10
    rw [h10] at e10
    rw [fit_no e10] at HF
    rw [hq, show needV none = .tuple #[.int .i64 0, .bool false] from rfl] at HN
    clear hq h10 HK HAb e10 hg hf hMb hA
    go_enter Try.func7, Try.ntmps7
    go_wp2_with fail
    refine (awake14_calls _).mono ?_
    rintro e w1 ⟨rfl, hb⟩
    have HB := Lib.hid hb
    clear hb
    go_wp2_with fail
    refine (HN.out _).mono ?_
    rintro e w2 ⟨rfl, hb⟩
    have HB2 := Lib.hid (HB.out.trans (hb.mono HB.out.size))
    clear hb HB
    go_wp2_with fail
    refine (HF.out _).mono ?_
    rintro e w3 ⟨rfl, hb⟩
    have HB3 := Lib.hid (HB2.out.trans (hb.mono HB2.out.size))
    clear hb HB2
    go_wp2_with fail
    go_ret
    exact ⟨rfl, HB3.out⟩
  | some k =>
    obtain ⟨hk1, -, hk2, hk3⟩ := lstQ_some hq
    have HF := Lib.hid (fun w => ofit_any A k 0 0 (by have := HAb.out; omega) (by have := HAb.out; omega) (A + M) n l (by have := HAb.out; omega) w)
    have HL := Lib.hid (fun w => ofit_any A ((k : Int) - 1) 0 0 (by have := HAb.out; omega) (by have := HAb.out; omega) (A + M) n l (by have := HAb.out; omega) w)
    have HSP := Lib.hid (fun w => sp_any k w)
    have ek := HK.out k
    rw [hk1] at ek
    rw [fit_yes ek] at HF
    obtain ⟨r1, r2, r3, r4⟩ := (fitB_iff _ _ _ _ _).1 ek
    have hl := alB_range r1
    obtain ⟨b1, b2, b3⟩ := atV_bd (f := A + M) r1
    have hsb := sp_bd (k : Int)
    obtain ⟨Z, hZ⟩ : ∃ Z, atV (A + M) l = Z := ⟨_, rfl⟩
    obtain ⟨S, hS⟩ : ∃ S, spV (k : Int) = S := ⟨_, rfl⟩
    rw [hZ] at HF r4 b1 b2 b3
    rw [hS] at r2 r4 hsb HSP
    obtain ⟨c1, c2⟩ := HAb.out
    have QK : wrap64 ((k : Int) - 1) = (k : Int) - 1 := IntWalk.wrap64_in _ ⟨by omega, by omega⟩
    obtain ⟨P, hP⟩ : ∃ P, A + M = P := ⟨_, rfl⟩
    rw [hP] at HF HL b1 b2
    replace QAM : wrap64 (A + M) = P := QAM.trans hP
    obtain ⟨P1, hP1⟩ : ∃ P1, P + 16 = P1 := ⟨_, rfl⟩
    obtain ⟨P2, hP2⟩ : ∃ P2, P1 + l = P2 := ⟨_, rfl⟩
    obtain ⟨Y, hY⟩ : ∃ Y, Z + n = Y := ⟨_, rfl⟩
    obtain ⟨X, hX⟩ : ∃ X, A + S = X := ⟨_, rfl⟩
    have QP1 : wrap64 (P + 16) = P1 := (IntWalk.wrap64_in _ ⟨by omega, by omega⟩).trans hP1
    have QP2 : wrap64 (P1 + l) = P2 := (IntWalk.wrap64_in _ ⟨by omega, by omega⟩).trans hP2
    have QZ : wrap64 (Z + n) = Y := (IntWalk.wrap64_in _ ⟨by omega, by omega⟩).trans hY
    have QS : wrap64 (A + S) = X := (IntWalk.wrap64_in _ ⟨by omega, by omega⟩).trans hX
    have t0 : (Z % l == 0) = true := beq_iff_eq.2 b3
    have t1 : (Z.tmod l == 0) = true := by rw [Int.tmod_eq_emod_of_nonneg (by omega)]; exact t0
    have t2 : decide (P1 ≤ Z) = true := decide_eq_true (by omega)
    have t3 : decide (Z < P2) = true := decide_eq_true (by omega)
    have t4 : decide (Y ≤ X) = true := decide_eq_true (by omega)
    have t5 : P1 ≤ Z := by omega
    have t6 : Z < P2 := by omega
    have t7 : Y ≤ X := by omega
    have t8 : (l == 0) = false := by simpa using (show l ≠ 0 by omega)
    have t9 : l ≠ 0 := by omega
    have hFB : Hid (∀ j : Nat, fitB A (spV (j : Int)) P n l = fitK f n l j) := Lib.hid (fun j => by rw [← hP]; exact HK.out j)
    have HG : Hid ((((k : Int) == 0) = true) ∨ ((((k : Int) == 0) = false) ∧ fitB A (spV ((k : Int) - 1)) P n l = false)) := Lib.hid (by
      by_cases h0 : k = 0
      · exact .inl (by simp [h0])
      · refine .inr ⟨by simp; omega, ?_⟩
        have := hFB.out (k - 1)
        rw [hk3 (k - 1) (by omega) (by omega)] at this
        rw [show ((k : Int) - 1) = ((k - 1 : Nat) : Int) by omega]; exact this)
    rw [hq, show needV (some k) = .tuple #[.int .i64 (k : Int), .bool true] from rfl] at HN
    clear hq HK HAb ek r1 r2 r3 r4 hk1 hk3 hZ hS hl hP hP1 hP2 hY hX b1 b2 b3 c1 c2 hFB hsb hMb hA hg hf
    have HLATE := Lib.hid (And.intro QP1 (And.intro QP2 (And.intro QZ (And.intro QS (And.intro t0 (And.intro t1 (And.intro t2 (And.intro t3 (And.intro t4 (And.intro t5 (And.intro t6 (And.intro t7 (And.intro t8 t9)))))))))))))
    have HQK := Lib.hid QK
    have HQA := Lib.hid QAM
    clear QP1 QP2 QZ QS t0 t1 t2 t3 t4 t5 t6 t7 t8 t9 QK QAM
    obtain ⟨K, hK⟩ : ∃ K : Int, (k : Int) = K := ⟨_, rfl⟩
    obtain ⟨K1, hK1⟩ : ∃ K1 : Int, K - 1 = K1 := ⟨_, rfl⟩
    rw [hK] at HN HF HL HSP HG HQK
    rw [hK1] at HL HG
    replace HQK : Hid (wrap64 (K - 1) = K1) := Lib.hid (HQK.out.trans hK1)
    clear hK hK1
    rcases HG.out with d0 | ⟨d0, hj⟩
    · obtain ⟨G1, hG1⟩ : ∃ G, fitA A (spV K1) P n l = G := ⟨_, rfl⟩
      obtain ⟨G2, hG2⟩ : ∃ G, fitB A (spV K1) P n l = G := ⟨_, rfl⟩
      unfold fitV at HL
      rw [hG1, hG2] at HL
      clear HG hG1 hG2
      go_enter Try.func7, Try.ntmps7
      go_wp2_with fail
      refine (awake14_calls _).mono ?_
      rintro e w1 ⟨rfl, hb⟩
      have HB := Lib.hid hb
      clear hb
      go_wp2_with fail
      refine (HN.out _).mono ?_
      rintro e w2 ⟨rfl, hb⟩
      have HB2 := Lib.hid (HB.out.trans (hb.mono HB.out.size))
      clear hb HB
      have QAM := HQA.out
      go_wp2_with fail
      refine (HF.out _).mono ?_
      rintro e w3 ⟨rfl, hb⟩
      have HB3 := Lib.hid (HB2.out.trans (hb.mono HB2.out.size))
      clear hb HB2
      have QK := HQK.out
      go_wp2_with fail
      refine (HL.out _).mono ?_
      rintro e w4 ⟨rfl, hb⟩
      have HB4 := Lib.hid (HB3.out.trans (hb.mono HB3.out.size))
      clear hb HB3
      obtain ⟨QP1, QP2, QZ, QS, t0, t1, t2, t3, t4, t5, t6, t7, t8, t9⟩ := HLATE.out
      clear QG QF QG0 hmx QK
      go_wp2_with fail
      refine (HSP.out _).mono ?_
      rintro e w5 ⟨rfl, rfl⟩
      go_wp2_with fail
      go_ret
      exact ⟨rfl, HB4.out⟩
    · rw [fit_no hj] at HL
      clear HG hj
      go_enter Try.func7, Try.ntmps7
      go_wp2_with fail
      refine (awake14_calls _).mono ?_
      rintro e w1 ⟨rfl, hb⟩
      have HB := Lib.hid hb
      clear hb
      go_wp2_with fail
      refine (HN.out _).mono ?_
      rintro e w2 ⟨rfl, hb⟩
      have HB2 := Lib.hid (HB.out.trans (hb.mono HB.out.size))
      clear hb HB
      have QAM := HQA.out
      go_wp2_with fail
      refine (HF.out _).mono ?_
      rintro e w3 ⟨rfl, hb⟩
      have HB3 := Lib.hid (HB2.out.trans (hb.mono HB2.out.size))
      clear hb HB2
      have QK := HQK.out
      go_wp2_with fail
      refine (HL.out _).mono ?_
      rintro e w4 ⟨rfl, hb⟩
      have HB4 := Lib.hid (HB3.out.trans (hb.mono HB3.out.size))
      clear hb HB3
      obtain ⟨QP1, QP2, QZ, QS, t0, t1, t2, t3, t4, t5, t6, t7, t8, t9⟩ := HLATE.out
      clear QG QF QG0 hmx QK
      go_wp2_with fail
      refine (HSP.out _).mono ?_
      rintro e w5 ⟨rfl, rfl⟩
      go_wp2_with fail
      go_ret
      exact ⟨rfl, HB4.out⟩
end Go.Proofs.Ytdmaendhkenmgaa.Bt
