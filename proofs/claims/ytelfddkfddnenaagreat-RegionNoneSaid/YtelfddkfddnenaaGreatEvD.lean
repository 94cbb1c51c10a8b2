/- What the machine's values and memory stand for. -/
import Derived.Test.YtelfddkfddnenaaGreatEvC
import Derived.Laws.CopyRow
namespace Ev
open Go Go.RowKit
set_option linter.unusedVariables false
set_option linter.unusedSimpArgs false
/-! sixteen at a time -/
section
variable {α : Type}
theorem lt16 {n : Nat} (h : n < 16) : n = 0 ∨ n = 1 ∨ n = 2 ∨ n = 3 ∨ n = 4 ∨ n = 5 ∨ n = 6 ∨ n = 7 ∨ n = 8 ∨ n = 9 ∨ n = 10 ∨ n = 11 ∨ n = 12 ∨ n = 13 ∨ n = 14 ∨ n = 15 := by omega
noncomputable def A6.s (t : A6 α) (n : Nat) (v : α) : A6 α := match t with
  | .mk a0 a1 a2 a3 a4 a5 a6 a7 a8 a9 a10 a11 a12 a13 a14 a15 => match n with
    | 0 => .mk v a1 a2 a3 a4 a5 a6 a7 a8 a9 a10 a11 a12 a13 a14 a15
    | 1 => .mk a0 v a2 a3 a4 a5 a6 a7 a8 a9 a10 a11 a12 a13 a14 a15
    | 2 => .mk a0 a1 v a3 a4 a5 a6 a7 a8 a9 a10 a11 a12 a13 a14 a15
    | 3 => .mk a0 a1 a2 v a4 a5 a6 a7 a8 a9 a10 a11 a12 a13 a14 a15
    | 4 => .mk a0 a1 a2 a3 v a5 a6 a7 a8 a9 a10 a11 a12 a13 a14 a15
    | 5 => .mk a0 a1 a2 a3 a4 v a6 a7 a8 a9 a10 a11 a12 a13 a14 a15
    | 6 => .mk a0 a1 a2 a3 a4 a5 v a7 a8 a9 a10 a11 a12 a13 a14 a15
    | 7 => .mk a0 a1 a2 a3 a4 a5 a6 v a8 a9 a10 a11 a12 a13 a14 a15
    | 8 => .mk a0 a1 a2 a3 a4 a5 a6 a7 v a9 a10 a11 a12 a13 a14 a15
    | 9 => .mk a0 a1 a2 a3 a4 a5 a6 a7 a8 v a10 a11 a12 a13 a14 a15
    | 10 => .mk a0 a1 a2 a3 a4 a5 a6 a7 a8 a9 v a11 a12 a13 a14 a15
    | 11 => .mk a0 a1 a2 a3 a4 a5 a6 a7 a8 a9 a10 v a12 a13 a14 a15
    | 12 => .mk a0 a1 a2 a3 a4 a5 a6 a7 a8 a9 a10 a11 v a13 a14 a15
    | 13 => .mk a0 a1 a2 a3 a4 a5 a6 a7 a8 a9 a10 a11 a12 v a14 a15
    | 14 => .mk a0 a1 a2 a3 a4 a5 a6 a7 a8 a9 a10 a11 a12 a13 v a15
    | _ => .mk a0 a1 a2 a3 a4 a5 a6 a7 a8 a9 a10 a11 a12 a13 a14 v
theorem seN_s (t : A6 α) (v : α) {n m : Nat} (h : n < 16) (k : m < 16) : seN m (t.s n v) = if m = n then v else seN m t := by
  cases t
  rcases lt16 h with rfl | rfl | rfl | rfl | rfl | rfl | rfl | rfl | rfl | rfl | rfl | rfl | rfl | rfl | rfl | rfl <;>
  rcases lt16 k with rfl | rfl | rfl | rfl | rfl | rfl | rfl | rfl | rfl | rfl | rfl | rfl | rfl | rfl | rfl | rfl <;> rfl
theorem upN_s (t : A6 α) (v : α) (k : A6 α → R) {n : Nat} (h : n < 16) : upN n v t k = k (t.s n v) := by
  cases t
  rcases lt16 h with rfl | rfl | rfl | rfl | rfl | rfl | rfl | rfl | rfl | rfl | rfl | rfl | rfl | rfl | rfl | rfl <;> rfl
theorem moN_s (t : A6 α) (f : α → (α → R) → R) (k : A6 α → R) {n : Nat} (h : n < 16) : moN n f t k = f (seN n t) fun v => k (t.s n v) := by
  cases t
  rcases lt16 h with rfl | rfl | rfl | rfl | rfl | rfl | rfl | rfl | rfl | rfl | rfl | rfl | rfl | rfl | rfl | rfl <;> rfl
theorem seN_all (v : α) {n : Nat} (h : n < 16) : seN n (all6 v) = v := by
  rcases lt16 h with rfl | rfl | rfl | rfl | rfl | rfl | rfl | rfl | rfl | rfl | rfl | rfl | rfl | rfl | rfl | rfl <;> rfl
end
theorem m16_lt (n : Nat) : m16 n < 16 := Nat.mod_lt _ (by decide)
theorem m16_eq (n : Nat) : m16 n = n % 16 := rfl
/-! the heap -/
noncomputable def hs (h : HP) (a : Nat) (b : Blk) : HP :=
  h.s (m16 (a / 4096)) ((seN (m16 (a / 4096)) h).s (m16 (a / 256)) ((seN (m16 (a / 256)) (seN (m16 (a / 4096)) h)).s (m16 (a / 16)) ((seN (m16 (a / 16)) (seN (m16 (a / 256)) (seN (m16 (a / 4096)) h))).s (m16 a) b)))
theorem hset_eq (b : Blk) (h : HP) (a : Nat) (k : HP → R) : hset b h a k = k (hs h a b) := by
  unfold hset hs
  rw [moN_s _ _ _ (m16_lt _), moN_s _ _ _ (m16_lt _), moN_s _ _ _ (m16_lt _), upN_s _ _ _ (m16_lt _)]
  rfl
theorem hget_hs (b : Blk) (h : HP) {a c : Nat} (ha : a < 65536) (hc : c < 65536) : hget (hs h a b) c = if c = a then b else hget h c := by
  have e1 : ∀ n : Nat, Nat.div n 4096 = n / 4096 := fun _ => rfl
  have e2 : ∀ n : Nat, Nat.div n 256 = n / 256 := fun _ => rfl
  have e3 : ∀ n : Nat, Nat.div n 16 = n / 16 := fun _ => rfl
  unfold hget hs
  simp only [e1, e2, e3]
  rw [seN_s _ _ (m16_lt _) (m16_lt _)]
  split
  · rename_i h1
    rw [seN_s _ _ (m16_lt _) (m16_lt _)]
    split
    · rename_i h2
      rw [seN_s _ _ (m16_lt _) (m16_lt _)]
      split
      · rename_i h3
        rw [seN_s _ _ (m16_lt _) (m16_lt _)]
        split
        · rename_i h4
          rw [if_pos (by simp only [m16_eq] at h1 h2 h3 h4; omega)]
        · rename_i h4
          rw [if_neg (by intro e; exact h4 (by rw [e]))]
          rw [h1, h2, h3]
      · rename_i h3
        rw [if_neg (by intro e; exact h3 (by rw [e]))]
        rw [h1, h2]
    · rename_i h2
      rw [if_neg (by intro e; exact h2 (by rw [e]))]
      rw [h1]
  · rename_i h1
    rw [if_neg (by intro e; exact h1 (by rw [e]))]
theorem hget_h0 (a : Nat) : hget h0 a = .x := by
  unfold hget h0
  rw [seN_all _ (m16_lt _), seN_all _ (m16_lt _), seN_all _ (m16_lt _), seN_all _ (m16_lt _)]
/-! cells -/
noncomputable def c3s (t : A6 (A6 (A6 V))) (o : Nat) (v : V) : A6 (A6 (A6 V)) :=
  t.s (m16 (o / 256)) ((seN (m16 (o / 256)) t).s (m16 (o / 16)) ((seN (m16 (o / 16)) (seN (m16 (o / 256)) t)).s (m16 o) v))
theorem c3set_eq (v : V) (t : A6 (A6 (A6 V))) (o : Nat) (k : A6 (A6 (A6 V)) → R) : c3set v t o k = k (c3s t o v) := by
  unfold c3set c3s
  rw [moN_s _ _ _ (m16_lt _), moN_s _ _ _ (m16_lt _), upN_s _ _ _ (m16_lt _)]
  rfl
theorem c3get_c3s (v : V) (t : A6 (A6 (A6 V))) {a c : Nat} (ha : a < 4096) (hc : c < 4096) : c3get (c3s t a v) c = if c = a then v else c3get t c := by
  have e2 : ∀ n : Nat, Nat.div n 256 = n / 256 := fun _ => rfl
  have e3 : ∀ n : Nat, Nat.div n 16 = n / 16 := fun _ => rfl
  unfold c3get c3s
  simp only [e2, e3]
  rw [seN_s _ _ (m16_lt _) (m16_lt _)]
  split
  · rename_i h2
    rw [seN_s _ _ (m16_lt _) (m16_lt _)]
    split
    · rename_i h3
      rw [seN_s _ _ (m16_lt _) (m16_lt _)]
      split
      · rename_i h4
        rw [if_pos (by simp only [m16_eq] at h2 h3 h4; omega)]
      · rename_i h4
        rw [if_neg (by intro e; exact h4 (by rw [e]))]
        rw [h2, h3]
    · rename_i h3
      rw [if_neg (by intro e; exact h3 (by rw [e]))]
      rw [h2]
  · rename_i h2
    rw [if_neg (by intro e; exact h2 (by rw [e]))]
/-- how many cells there may be -/
def Ce.cap : Ce → Nat
  | .b _ => 4096
  | .s _ => 16
noncomputable def Ce.set (c : Ce) (o : Nat) (v : V) : Ce := match c with
  | .b t => .b (c3s t o v)
  | .s t => .s (t.s o v)
theorem Ce.cap_set (c : Ce) (o : Nat) (v : V) : (c.set o v).cap = c.cap := by cases c <;> rfl
theorem cset_eq (v : V) (c : Ce) {o : Nat} (k : Ce → R) (h : o < c.cap) : cset v c o k = k (c.set o v) := by
  cases c with
  | b t => exact c3set_eq v t o _
  | s t => exact upN_s t v _ h
theorem cget_set (v : V) (c : Ce) {a o : Nat} (ha : a < c.cap) (ho : o < c.cap) : cget (c.set a v) o = if o = a then v else cget c o := by
  cases c with
  | b t => exact c3get_c3s v t ha ho
  | s t => exact seN_s t v ha ho
theorem ceB_iff (n : Nat) (c : Ce) : ceB n c = true ↔ n ≤ c.cap := by
  cases c <;> simp [ceB, Ce.cap]
theorem cget_cb0 (o : Nat) : cget (.b cb0) o = .u := by
  show c3get cb0 o = .u
  unfold c3get cb0; rw [seN_all _ (m16_lt _), seN_all _ (m16_lt _), seN_all _ (m16_lt _)]
theorem cget_ce0 (n o : Nat) (h : o < (ce0 n).cap) : cget (ce0 n) o = .u := by
  unfold ce0 at *
  cases hb : Nat.ble n (nat_lit 16) with
  | true => rw [hb] at h; exact seN_all _ h
  | false => exact cget_cb0 o
/-! slots -/
noncomputable def tg (t : TM) (n : Nat) : V := seN (n % 16) (seN (n / 16) t)
noncomputable def ts (t : TM) (n : Nat) (v : V) : TM := t.s (n / 16) ((seN (n / 16) t).s (n % 16) v)
theorem tg_ts (t : TM) (v : V) {n m : Nat} (hn : n < 256) (hm : m < 256) : tg (ts t n v) m = if m = n then v else tg t m := by
  unfold tg ts
  rw [seN_s _ _ (by omega) (by omega)]
  split
  · rename_i h1
    rw [seN_s _ _ (by omega) (by omega)]
    split
    · rename_i h2; rw [if_pos (by omega)]
    · rename_i h2; rw [if_neg (by intro e; exact h2 (by rw [e]))]; rw [h1]
  · rename_i h1; rw [if_neg (by intro e; exact h1 (by rw [e]))]
theorem tg_t0 {n : Nat} (h : n < 256) : tg t0 n = .u := by
  unfold tg t0; rw [seN_all _ (by omega), seN_all _ (by omega)]
theorem gOp_eq {n : Nat} (h : n < 256) {o : OP} (ho : gOp (i6N (n / 16)) (i6N (n % 16)) = .mk o) (t : TM) : o t = tg t n := by
  have h1 : n / 16 < 16 := by omega
  have h2 : n % 16 < 16 := by omega
  unfold tg
  generalize n / 16 = i at *; generalize n % 16 = j at *
  rcases lt16 h1 with rfl | rfl | rfl | rfl | rfl | rfl | rfl | rfl | rfl | rfl | rfl | rfl | rfl | rfl | rfl | rfl <;>
  rcases lt16 h2 with rfl | rfl | rfl | rfl | rfl | rfl | rfl | rfl | rfl | rfl | rfl | rfl | rfl | rfl | rfl | rfl <;>
  (cases ho; rfl)
theorem dOp_eq {n : Nat} (h : n < 256) {d : DS} (hd : dOp (i6N (n / 16)) (i6N (n % 16)) = .mk d) (v : V) (t : TM) (k : TM → R) : d v t k = k (ts t n v) := by
  have h1 : n / 16 < 16 := by omega
  have h2 : n % 16 < 16 := by omega
  unfold ts
  generalize n / 16 = i at *; generalize n % 16 = j at *
  cases t
  rcases lt16 h1 with rfl | rfl | rfl | rfl | rfl | rfl | rfl | rfl | rfl | rfl | rfl | rfl | rfl | rfl | rfl | rfl <;>
  (rename_i b0 b1 b2 b3 b4 b5 b6 b7 b8 b9 b10 b11 b12 b13 b14 b15
   (first | cases b0 | skip); cases b1; cases b2; cases b3; cases b4; cases b5; cases b6; cases b7; cases b8; cases b9; cases b10; cases b11; cases b12; cases b13; cases b14; cases b15
   rcases lt16 h2 with rfl | rfl | rfl | rfl | rfl | rfl | rfl | rfl | rfl | rfl | rfl | rfl | rfl | rfl | rfl | rfl <;>
   (cases hd; rfl))
end Ev
