/- BitsMath, BitsWalksA, BitsWalksB. -/
import GoSem.Claim
import Derived.WalkKit
import Derived.Test.YtbeldoiaecjkgaaGreatDoorRows
import Derived.Below
import Derived.BigQuiet
import Derived.Deep.QuietTactic
import Derived.Lib.Hide
import Derived.Outline
section
namespace Go.Proofs.YtbeldoiaecjkgaaGreatDoor.Bt
open Go

/-- how many edges are less than a number -/
def cnt (es : List Nat) (x : Int) : Nat := es.countP (fun (e : Nat) => decide ((e : Int) < x))
/-- behind so many edges: in a row? -/
def insB (k : Nat) : Bool := decide (k % 2 = 1)
def mem (es : List Nat) (i : Int) : Bool := insB (cnt es (i + 1))
def Rising (es : List Nat) : Prop := es.Pairwise (· < ·)
structure Good (L : Nat) (es : List Nat) : Prop where
  rising : Rising es
  even : es.length % 2 = 0
  le : ∀ e ∈ es, e ≤ L
  small : L ≤ 1048576

theorem cnt_nil (x : Int) : cnt [] x = 0 := rfl
theorem cnt_cons (e : Nat) (es : List Nat) (x : Int) : cnt (e :: es) x = (if (e : Int) < x then 1 else 0) + cnt es x := by
  unfold cnt; rw [List.countP_cons]; by_cases h : (e : Int) < x <;> simp [h]; omega
theorem cnt_append (a b : List Nat) (x : Int) : cnt (a ++ b) x = cnt a x + cnt b x := by unfold cnt; rw [List.countP_append]
theorem cnt_le (es : List Nat) (x : Int) : cnt es x ≤ es.length := List.countP_le_length
theorem cnt_all {es : List Nat} {x : Int} (h : ∀ e ∈ es, (e : Int) < x) : cnt es x = es.length := by
  unfold cnt; rw [List.countP_eq_length]; intro e he; simpa using h e he
theorem cnt_none {es : List Nat} {x : Int} (h : ∀ e ∈ es, x ≤ (e : Int)) : cnt es x = 0 := by
  unfold cnt; rw [List.countP_eq_zero]; intro e he; have := h e he; simp; omega
theorem cnt_mono (es : List Nat) {x y : Int} (h : x ≤ y) : cnt es x ≤ cnt es y := by
  unfold cnt; apply List.countP_mono_left; intro e _ he; simp at he ⊢; omega

theorem rising_get {es : List Nat} (h : Rising es) {i j : Nat} (hij : i < j) (hj : j < es.length) : es.getD i 0 < es.getD j 0 := by
  have := List.pairwise_iff_getElem.1 h i j (by omega) hj hij
  rw [List.getD_eq_getElem?_getD, List.getD_eq_getElem?_getD, List.getElem?_eq_getElem (by omega), List.getElem?_eq_getElem hj]
  simpa using this

/-- what a search finds -/
theorem cnt_of {es : List Nat} {x : Int} {k : Nat} (hk : k ≤ es.length) (h1 : ∀ i, i < k → (es.getD i 0 : Int) < x) (h2 : ∀ i, k ≤ i → i < es.length → x ≤ (es.getD i 0 : Int)) : cnt es x = k := by
  have e : es = es.take k ++ es.drop k := (List.take_append_drop k es).symm
  rw [e, cnt_append, cnt_all, cnt_none]
  · simp; omega
  · intro e he
    obtain ⟨i, hi, rfl⟩ := List.getElem_of_mem he
    have := h2 (k + i) (by omega) (by simp at hi; omega)
    rw [List.getElem_drop]
    rw [List.getD_eq_getElem?_getD, List.getElem?_eq_getElem (by simp at hi; omega)] at this
    simpa using this
  · intro e he
    obtain ⟨i, hi, rfl⟩ := List.getElem_of_mem he
    have := h1 i (by simp at hi; omega)
    rw [List.getElem_take]
    rw [List.getD_eq_getElem?_getD, List.getElem?_eq_getElem (by simp at hi; omega)] at this
    simpa using this

theorem take_cnt {es : List Nat} (h : Rising es) (x : Int) : (∀ e ∈ es.take (cnt es x), (e : Int) < x) ∧ (∀ e ∈ es.drop (cnt es x), x ≤ (e : Int)) := by
  induction es with
  | nil => simp
  | cons a r ih =>
    have hr : Rising r := (List.pairwise_cons.1 h).2
    have ha := (List.pairwise_cons.1 h).1
    rw [cnt_cons]
    by_cases hx : (a : Int) < x
    · rw [if_pos hx, Nat.add_comm]
      obtain ⟨h1, h2⟩ := ih hr
      exact ⟨fun e he => by
        rw [List.take_succ_cons] at he
        rcases List.mem_cons.1 he with rfl | he
        · exact hx
        · exact h1 e he, h2⟩
    · rw [if_neg hx]
      have hz : cnt r x = 0 := cnt_none fun e he => by have := ha e he; omega
      rw [hz]
      exact ⟨by simp, fun e he => by
        rcases List.mem_cons.1 he with rfl | he
        · omega
        · have := ha e he; omega⟩

theorem get_lt {es : List Nat} (h : Rising es) {x : Int} {i : Nat} (hi : i < cnt es x) : (es.getD i 0 : Int) < x := by
  have hl := cnt_le es x
  apply (take_cnt h x).1
  rw [List.getD_eq_getElem?_getD, List.getElem?_eq_getElem (by omega)]
  simp only [Option.getD_some]
  have : (es.take (cnt es x))[i]'(by simp; omega) = es[i] := List.getElem_take
  rw [← this]; exact List.getElem_mem _
theorem get_ge {es : List Nat} (h : Rising es) {x : Int} {i : Nat} (hi : cnt es x ≤ i) (hl : i < es.length) : x ≤ (es.getD i 0 : Int) := by
  apply (take_cnt h x).2
  rw [List.getD_eq_getElem?_getD, List.getElem?_eq_getElem (by omega)]
  simp only [Option.getD_some]
  have : (es.drop (cnt es x))[i - cnt es x]'(by simp; omega) = es[i] := by rw [List.getElem_drop]; congr 1; omega
  rw [← this]; exact List.getElem_mem _

theorem insB_add (a b : Nat) : insB (a + b) = (insB a != insB b) := by
  unfold insB
  rcases Nat.mod_two_eq_zero_or_one a with h | h <;> rcases Nat.mod_two_eq_zero_or_one b with g | g <;> simp [Nat.add_mod, h, g]
theorem insB_even {k : Nat} (h : k % 2 = 0) : insB k = false := by unfold insB; simp; omega
theorem even_of {k : Nat} (h : insB k = false) : k % 2 = 0 := by unfold insB at h; simp at h; omega

/-- the row laid in, or out -/
def laidE (es : List Nat) (fr n : Nat) (inn : Bool) : List Nat :=
  es.take (cnt es fr) ++ ((if insB (cnt es fr) != inn then [fr] else []) ++ ((if insB (cnt es (fr + n + 1)) != inn then [fr + n] else []) ++ es.drop (cnt es (fr + n + 1))))

theorem cnt_laid {es : List Nat} (h : Rising es) (fr n : Nat) (inn : Bool) (x : Int) :
    insB (cnt (laidE es fr n inn) x) = if x ≤ fr then insB (cnt es x) else if x ≤ fr + n then inn else insB (cnt es x) := by
  have hb := take_cnt h fr
  have hu := take_cnt h (fr + n + 1)
  have hs : ∀ y, cnt es x = cnt (es.take (cnt es y)) x + cnt (es.drop (cnt es y)) x := fun y => by rw [← cnt_append, List.take_append_drop]
  have hlb := cnt_le es fr
  have hlu := cnt_le es (fr + n + 1)
  unfold laidE
  rw [cnt_append, cnt_append, cnt_append]
  by_cases h1 : x ≤ fr
  · rw [if_pos h1, hs fr]
    have z1 : cnt (es.drop (cnt es fr)) x = 0 := cnt_none fun e he => by have := hb.2 e he; omega
    have z2 : cnt (es.drop (cnt es (fr + n + 1))) x = 0 := cnt_none fun e he => by have := hu.2 e he; omega
    have z3 : cnt (if insB (cnt es fr) != inn then [fr] else []) x = 0 := cnt_none fun e he => by split at he <;> simp at he; omega
    have z4 : cnt (if insB (cnt es (fr + n + 1)) != inn then [fr + n] else []) x = 0 := cnt_none fun e he => by split at he <;> simp at he; omega
    rw [z1, z2, z3, z4]
  · rw [if_neg h1]
    have z1 : cnt (es.take (cnt es fr)) x = cnt es fr := by
      rw [cnt_all fun e he => by have := hb.1 e he; omega]; simp; omega
    have z3 : insB (cnt es fr + cnt (if insB (cnt es fr) != inn then [fr] else []) x) = inn := by
      rw [insB_add]
      have hlt : (fr : Int) < x := by omega
      cases hi : insB (cnt es fr) <;> cases inn <;> simp [cnt_nil, cnt_cons, insB, hlt]
    rw [z1, ← Nat.add_assoc, insB_add, z3]
    by_cases h2 : x ≤ fr + n
    · rw [if_pos h2]
      have z2 : cnt (es.drop (cnt es (fr + n + 1))) x = 0 := cnt_none fun e he => by have := hu.2 e he; omega
      have z4 : cnt (if insB (cnt es (fr + n + 1)) != inn then [fr + n] else []) x = 0 := cnt_none fun e he => by split at he <;> simp at he; omega
      rw [z2, z4]; simp [insB]
    · rw [if_neg h2, hs (fr + n + 1)]
      have z2 : cnt (es.take (cnt es (fr + n + 1))) x = cnt es (fr + n + 1) := by
        rw [cnt_all fun e he => by have := hu.1 e he; omega]; simp; omega
      rw [z2, insB_add, insB_add]
      have hlt : (fr : Int) + n < x := by omega
      cases hi : insB (cnt es (fr + n + 1)) <;> cases inn <;> cases insB (cnt (es.drop (cnt es (fr + n + 1))) x) <;> simp [cnt_nil, cnt_cons, insB, hlt]

theorem laid_good {L : Nat} {es : List Nat} (g : Good L es) {fr n : Nat} (hn : 0 < n) (hl : fr + n ≤ L) (inn : Bool) : Good L (laidE es fr n inn) := by
  have hb := take_cnt g.rising fr
  have hu := take_cnt g.rising (fr + n + 1)
  have hle : ∀ e ∈ laidE es fr n inn, e ≤ L := by
    intro e he
    unfold laidE at he
    rcases List.mem_append.1 he with he | he
    · exact g.le e (List.mem_of_mem_take he)
    · rcases List.mem_append.1 he with he | he
      · split at he <;> simp at he; omega
      · rcases List.mem_append.1 he with he | he
        · split at he <;> simp at he; omega
        · exact g.le e (List.mem_of_mem_drop he)
  refine ⟨?_, ?_, hle, g.small⟩
  · unfold laidE Rising
    rw [List.pairwise_append, List.pairwise_append, List.pairwise_append]
    refine ⟨g.rising.sublist (List.take_sublist _ _), ⟨by split <;> simp, ⟨by split <;> simp, g.rising.sublist (List.drop_sublist _ _), ?_⟩, ?_⟩, ?_⟩
    · intro a ha b hb'
      have := hu.2 b hb'
      split at ha <;> simp at ha; omega
    · intro a ha b hb'
      rcases List.mem_append.1 hb' with hb' | hb'
      · split at ha <;> simp at ha; split at hb' <;> simp at hb'; omega
      · have := hu.2 b hb'
        split at ha <;> simp at ha; omega
    · intro a ha b hb'
      have h1 := hb.1 a ha
      rcases List.mem_append.1 hb' with hb' | hb'
      · split at hb' <;> simp at hb'; omega
      · rcases List.mem_append.1 hb' with hb' | hb'
        · split at hb' <;> simp at hb'; omega
        · have := hu.2 b hb'; omega
  · have e := cnt_laid g.rising fr n inn (L + 1)
    rw [cnt_all fun e he => by have := hle e he; omega, if_neg (by omega), if_neg (by omega), cnt_all fun e he => by have := g.le e he; omega, insB_even g.even] at e
    exact even_of e

theorem mem_laid {es : List Nat} (h : Rising es) (fr n : Nat) (inn : Bool) (i : Int) :
    mem (laidE es fr n inn) i = if fr ≤ i ∧ i < fr + n then inn else mem es i := by
  unfold mem
  rw [cnt_laid h]
  by_cases h1 : i + 1 ≤ fr
  · rw [if_pos h1, if_neg (by omega)]
  · rw [if_neg h1]
    by_cases h2 : i + 1 ≤ fr + n
    · rw [if_pos h2, if_pos (by omega)]
    · rw [if_neg h2, if_neg (by omega)]

theorem good_len {L : Nat} {es : List Nat} (g : Good L es) : es.length ≤ 1048577 := by
  have key : ∀ (r : List Nat) (m : Nat), Rising r → (∀ e ∈ r, m ≤ e) → (∀ e ∈ r, e ≤ 1048576) → r.length + m ≤ 1048577 ∨ r = [] := by
    intro r
    induction r with
    | nil => intro m _ _ _; right; rfl
    | cons a t ih =>
      intro m hr hm hle
      left
      have ha := (List.pairwise_cons.1 hr).1
      have h1 := hm a (by simp)
      have h2 := hle a (by simp)
      rcases ih (a + 1) (List.pairwise_cons.1 hr).2 (fun e he => ha e he) (fun e he => hle e (by simp [he])) with h | h
      · simp; omega
      · subst h; simp; omega
  rcases key es 0 g.rising (fun _ _ => Nat.zero_le _) (fun e he => by have := g.le e he; have := g.small; omega) with h | h
  · omega
  · subst h; simp

theorem laid_len (es : List Nat) (fr n : Nat) (inn : Bool) : (laidE es fr n inn).length ≤ es.length + 2 := by
  unfold laidE
  have h1 := cnt_le es fr
  have h2 := cnt_mono es (show (fr : Int) ≤ (fr : Int) + n + 1 by omega)
  have h3 := cnt_le es (fr + n + 1)
  simp only [List.length_append, List.length_take, List.length_drop]
  split <;> split <;> simp <;> omega

/-- one set has one form alone -/
theorem rising_ext : ∀ {a b : List Nat}, Rising a → Rising b → (∀ e, e ∈ a ↔ e ∈ b) → a = b := by
  intro a
  induction a with
  | nil => intro b _ _ h; cases b with
    | nil => rfl
    | cons x t => have := (h x).2 (by simp); simp at this
  | cons x t ih =>
    intro b ha hb h
    cases b with
    | nil => have := (h x).1 (by simp); simp at this
    | cons y u =>
      have hx := (List.pairwise_cons.1 ha).1
      have hy := (List.pairwise_cons.1 hb).1
      have hxy : x = y := by
        rcases List.mem_cons.1 ((h x).1 (by simp)) with e | e
        · exact e
        · rcases List.mem_cons.1 ((h y).2 (by simp)) with e' | e'
          · exact e'.symm
          · have := hx y e'; have := hy x e; omega
      subst hxy
      rw [ih (List.pairwise_cons.1 ha).2 (List.pairwise_cons.1 hb).2 fun e => ?_]
      constructor
      · intro he
        rcases List.mem_cons.1 ((h e).1 (by simp [he])) with e' | e'
        · have := hx e he; omega
        · exact e'
      · intro he
        rcases List.mem_cons.1 ((h e).2 (by simp [he])) with e' | e'
        · have := hy e he; omega
        · exact e'
theorem mem_iff_jump : ∀ {es : List Nat}, Rising es → ∀ (e : Nat), e ∈ es ↔ insB (cnt es (e + 1)) ≠ insB (cnt es e) := by
  intro es
  induction es with
  | nil => intro _ e; simp [cnt_nil]
  | cons a t ih =>
    intro h e
    have ha := (List.pairwise_cons.1 h).1
    have ht := (List.pairwise_cons.1 h).2
    rw [cnt_cons, cnt_cons, insB_add, insB_add, List.mem_cons]
    by_cases hae : e = a
    · subst hae
      have z1 : cnt t (e + 1) = 0 := cnt_none fun x hx => by have := ha x hx; omega
      have z2 : cnt t e = 0 := cnt_none fun x hx => by have := ha x hx; omega
      rw [z1, z2, if_pos (by omega), if_neg (by omega)]; simp [insB]
    · have e1 : (if (a : Int) < (e : Int) + 1 then 1 else 0) = (if (a : Int) < (e : Int) then 1 else 0) := by
        by_cases h1 : (a : Int) < e
        · rw [if_pos h1, if_pos (by omega)]
        · rw [if_neg h1, if_neg (by omega)]
      rw [e1]
      have := ih ht e
      constructor
      · intro hh
        rcases hh with hh | hh
        · omega
        · have h2 := this.1 hh
          intro h3; apply h2
          revert h3; cases insB (cnt t (e + 1)) <;> cases insB (cnt t e) <;> simp
      · intro hh
        right; apply this.2; intro h3; apply hh; rw [h3]
theorem good_ext {L : Nat} {a b : List Nat} (ga : Good L a) (gb : Good L b) (h : ∀ i : Nat, i < L → mem a i = mem b i) : a = b := by
  have hp : ∀ x : Int, insB (cnt a x) = insB (cnt b x) := by
    intro x
    by_cases h0 : x ≤ 0
    · rw [cnt_none fun e he => by omega, cnt_none fun e he => by omega]
    · by_cases h1 : x ≤ L
      · have := h (x - 1).toNat (by omega)
        unfold mem at this
        rwa [show (((x - 1).toNat : Nat) : Int) + 1 = x from by omega] at this
      · rw [cnt_all fun e he => by have := ga.le e he; omega, cnt_all fun e he => by have := gb.le e he; omega, insB_even ga.even, insB_even gb.even]
  exact rising_ext ga.rising gb.rising fun e => by rw [mem_iff_jump ga.rising, mem_iff_jump gb.rising, hp, hp]
end Go.Proofs.YtbeldoiaecjkgaaGreatDoor.Bt
end
section
namespace Go.Proofs.YtbeldoiaecjkgaaGreatDoor.Bt
open Go Go.RowKit

/-- the edges' row in memory -/
def RowAt (w : World) (p : Option Addr) (es : List Nat) : Prop :=
  (p = none ∧ es = []) ∨ ∃ b off, p = some ⟨b, off, none⟩ ∧ b < w.heap.size ∧ ∀ k, k < es.length → w.cell? ⟨b, off + k, none⟩ = some (.int .i64 ((es.getD k 0 : Nat) : Int))
theorem RowAt.below {w w' : World} {p : Option Addr} {es : List Nat} (h : RowAt w p es) (hb : Below w.heap.size w w') : RowAt w' p es := by
  rcases h with h | ⟨b, off, rfl, hlt, hc⟩
  · exact .inl h
  · exact .inr ⟨b, off, rfl, Nat.lt_of_lt_of_le hlt hb.size, fun k hk => by rw [hb.cell (p := ⟨b, off + k, none⟩) hlt]; exact hc k hk⟩
def setV (L : Nat) (p : Option Addr) (n cap : Nat) : Value := .agg #[.int .i64 L, .slice p n cap]

theorem inside_any (k : Nat) (hk : k ≤ 9223372036854775807) (w : World) : Calls Tryz.prog 242 #[.int .i64 k] w fun e w' => e = .returned (.bool (insB k)) ∧ w = w' := by
  unfold insB
  by_cases h : k % 2 = 1
  · have h1 : ((k : Int) % 2 == 1) = true := beq_iff_eq.2 (by omega)
    have HR : Hid (decide (k % 2 = 1) = true) := Lib.hid (by simpa using h)
    clear h
    go_enter Tryz.func242, Tryz.ntmps242
    go_wp2
    go_ret
    exact ⟨by rw [HR.out]; rfl, rfl⟩
  · have h1 : ((k : Int) % 2 == 1) = false := beq_eq_false_iff_ne.2 (by omega)
    have HR : Hid (decide (k % 2 = 1) = false) := Lib.hid (by simpa using h)
    clear h
    go_enter Tryz.func242, Tryz.ntmps242
    go_wp2
    go_ret
    exact ⟨by rw [HR.out]; rfl, rfl⟩
theorem cmpNaN_any (x : Int) (w : World) : Calls Tryz.prog 325 #[.int .i64 x] w fun e w' => e = .returned (.bool false) ∧ w = w' := by
  go_enter Tryz.func325, Tryz.ntmps325
  go_wp2
  go_ret
  exact ⟨rfl, rfl⟩
theorem slNaN_any (x : Int) (w : World) : Calls Tryz.prog 307 #[.int .i64 x] w fun e w' => e = .returned (.bool false) ∧ w = w' := by
  go_enter Tryz.func307, Tryz.ntmps307
  go_wp2
  go_ret
  exact ⟨rfl, rfl⟩
theorem less_any (x y : Int) (w : World) : Calls Tryz.prog 306 #[.int .i64 x, .int .i64 y] w fun e w' => e = .returned (.bool (decide (x < y))) ∧ w = w' := by
  go_enter Tryz.func306, Tryz.ntmps306
  go_wp2_with (go_at_call 325; refine (cmpNaN_any _ _).mono ?_; rintro e w' ⟨rfl, rfl⟩)
  go_ret
  exact ⟨rfl, rfl⟩

def Srch (n : Int) (w : World) (e : Ending) (w' : World) : Prop := ∃ t : Bool, e = .returned (.tuple #[.int .i64 n, .bool t]) ∧ w = w'
theorem search_some (b off cap : Nat) (es : List Nat) (x : Int) (w : World) (hr : Rising es) (hlen : es.length ≤ 1048577)
    (hc : ∀ k, k < es.length → w.cell? ⟨b, off + k, none⟩ = some (.int .i64 ((es.getD k 0 : Nat) : Int))) :
    Calls Tryz.prog 278 #[.slice (some ⟨b, off, none⟩) es.length cap, .int .i64 x] w (Srch (cnt es x) w) := by
  have HC := Lib.hid hc; clear hc
  go_enter Tryz.func278, Tryz.ntmps278
  go_wp2
  go_loop [7, 8] (fun i j => ∃ p q : Nat, p ≤ cnt es x ∧ cnt es x ≤ q ∧ q ≤ es.length ∧ i = .int .i64 p ∧ j = .int .i64 q) (fun i j => (intOf j - intOf i).toNat)
  case atStart => exact ⟨0, es.length, by omega, cnt_le _ _, by omega, rfl, rfl⟩
  case round =>
    obtain ⟨p, q, h1, h2, h3, rfl, rfl⟩ := hrel
    by_cases hlt : p < q
    · obtain ⟨v, hv⟩ : ∃ v : Nat, es.getD ((p + q) / 2) 0 = v := ⟨_, rfl⟩
      have hcell : w.cell? ⟨b, off + (p + q) / 2, none⟩ = some (.int .i64 (v : Int)) := by rw [← hv]; exact HC.out _ (by omega)
      by_cases hx : (v : Int) < x
      · have hn : (p + q) / 2 + 1 ≤ cnt es x := by
          refine Classical.byContradiction fun h => ?_
          have := get_ge hr (x := x) (i := (p + q) / 2) (by omega) (by omega)
          omega
        have HV := Lib.hid hv; clear hv
        have hd : decide ((v : Int) < x) = true := by simpa using hx
        go_wp2_with (go_at_call 306; refine (less_any _ _ _).mono ?_; rintro e w' ⟨rfl, rfl⟩)
        go_round
        case rel => exact ⟨(p + q) / 2 + 1, q, hn, h2, h3, by go_num, rfl⟩
        case measure => simp [intOf]; omega
      · have hn : cnt es x ≤ (p + q) / 2 := by
          refine Classical.byContradiction fun h => ?_
          have := get_lt hr (x := x) (i := (p + q) / 2) (by omega)
          omega
        have HV := Lib.hid hv; clear hv
        have hd : decide ((v : Int) < x) = false := by simpa using hx
        go_wp2_with (go_at_call 306; refine (less_any _ _ _).mono ?_; rintro e w' ⟨rfl, rfl⟩)
        go_round
        case rel => exact ⟨p, (p + q) / 2, h1, hn, by omega, rfl, by go_num⟩
        case measure => simp [intOf]; omega
    · have hp : p = cnt es x := by omega
      have HP := Lib.hid hp; clear hp
      by_cases hl : p < es.length
      · obtain ⟨v, hv⟩ : ∃ v : Nat, es.getD p 0 = v := ⟨_, rfl⟩
        have hcell : w.cell? ⟨b, off + p, none⟩ = some (.int .i64 (v : Int)) := by rw [← hv]; exact HC.out _ hl
        have HV := Lib.hid hv; clear hv
        by_cases hx : (v : Int) = x
        · have hd : ((v : Int) == x) = true := beq_iff_eq.2 hx
          clear hx
          go_wp2_with (go_at_call 307; refine (slNaN_any _ _).mono ?_; rintro e w' ⟨rfl, rfl⟩)
          go_ret2
          exact ⟨_, by rw [← HP.out]; rfl, rfl⟩
        · have hd : ((v : Int) == x) = false := beq_eq_false_iff_ne.2 hx
          go_wp2_with (go_at_call 307; refine (slNaN_any _ _).mono ?_; rintro e w' ⟨rfl, rfl⟩)
          go_ret2
          exact ⟨_, by rw [← HP.out]; rfl, rfl⟩
      · go_wp2_with (go_at_call 307; refine (slNaN_any _ _).mono ?_; rintro e w' ⟨rfl, rfl⟩)
        go_ret2
        exact ⟨_, by rw [← HP.out]; rfl, rfl⟩
theorem search_none (p : Option Addr) (cap : Nat) (x : Int) (w : World) :
    Calls Tryz.prog 278 #[.slice p 0 cap, .int .i64 x] w (Srch 0 w) := by
  go_enter Tryz.func278, Tryz.ntmps278
  go_wp2
  refine wp_loop_rounds 1 ?_; rw [rounds_succ]
  go_wp2
  go_ret2
  exact ⟨_, rfl, rfl⟩
theorem search_any (p : Option Addr) (cap : Nat) (es : List Nat) (x : Int) (w : World) (hr : Rising es) (hlen : es.length ≤ 1048577) (hrow : RowAt w p es) (n : Nat) (hn : n = es.length) :
    Calls Tryz.prog 278 #[.slice p n cap, .int .i64 x] w (Srch (cnt es x) w) := by
  subst hn
  rcases hrow with ⟨rfl, rfl⟩ | ⟨b, off, rfl, _, hc⟩
  · exact search_none none cap x w
  · exact search_some b off cap es x w hr hlen hc
end Go.Proofs.YtbeldoiaecjkgaaGreatDoor.Bt
end
section
namespace Go.Proofs.YtbeldoiaecjkgaaGreatDoor.Bt
open Go Go.RowKit

theorem edges_any (L : Nat) (p : Option Addr) (n cap : Nat) (es : List Nat) (x : Int) (w : World) (hr : Rising es) (hlen : es.length ≤ 1048577) (hrow : RowAt w p es) (hn : n = es.length) :
    Calls Tryz.prog 241 #[.agg #[.int .i64 L, .slice p n cap], .int .i64 x] w fun e w' => e = .returned (.int .i64 (cnt es x)) ∧ Below w.heap.size w w' := by
  have HN := Lib.hid hn; clear hn
  go_enter Tryz.func241, Tryz.ntmps241
  go_wp2_with fail
  refine (search_any p cap es x _ hr hlen (hrow.below ((Below.refl _ _).alloc (Nat.le_refl _) _)) n HN.out).mono ?_
  rintro e w' ⟨t, rfl, rfl⟩
  go_wp2_with fail
  go_ret
  exact ⟨rfl, (Below.refl _ _).alloc (Nat.le_refl _) _⟩

def withinB (L : Nat) (fr n : Int) : Bool := decide (0 ≤ fr ∧ 0 ≤ n ∧ n ≤ L - fr)
theorem within_any (L : Nat) (hL : L ≤ 1048576) (p : Option Addr) (m cap : Nat) (fr n : Int) (hf : fr ≤ 9223372036854775807) (w : World) :
    Calls Tryz.prog 239 #[.agg #[.int .i64 L, .slice p m cap], .int .i64 fr, .int .i64 n] w fun e w' => e = .returned (.bool (withinB L fr n)) ∧ Below w.heap.size w w' := by
  by_cases h1 : 0 ≤ fr
  · by_cases h2 : 0 ≤ n
    · have HR : Hid (withinB L fr n = decide (n ≤ L - fr)) := Lib.hid (by unfold withinB; simp [h1, h2])
      go_enter Tryz.func239, Tryz.ntmps239
      go_wp2_with fail
      go_ret
      exact ⟨by rw [HR.out]; rfl, (Below.refl _ _).alloc (Nat.le_refl _) _⟩
    · have HR : Hid (withinB L fr n = false) := Lib.hid (by unfold withinB; simp [h2])
      have hd : decide (0 ≤ n) = false := by simpa using h2
      go_enter Tryz.func239, Tryz.ntmps239
      go_wp2_with fail
      go_ret
      exact ⟨by rw [HR.out]; rfl, (Below.refl _ _).alloc (Nat.le_refl _) _⟩
  · have HR : Hid (withinB L fr n = false) := Lib.hid (by unfold withinB; simp [h1])
    have hd : decide (0 ≤ fr) = false := by simpa using h1
    go_enter Tryz.func239, Tryz.ntmps239
    go_wp2_with fail
    go_ret
    exact ⟨by rw [HR.out]; rfl, (Below.refl _ _).alloc (Nat.le_refl _) _⟩
theorem len_any (L : Nat) (p : Option Addr) (m cap : Nat) (w : World)  :
    Calls Tryz.prog 28 #[.agg #[.int .i64 L, .slice p m cap]] w fun e w' => e = .returned (.int .i64 L) ∧ Below w.heap.size w w' := by
  go_enter Tryz.func28, Tryz.ntmps28
  go_wp2_with fail
  go_ret
  exact ⟨rfl, (Below.refl _ _).alloc (Nat.le_refl _) _⟩
def lenN (x : Int) : Nat := (min (max x 0) 1048576).toNat
theorem new_any (x : Int) (w : World) :
    Calls Tryz.prog 27 #[.int .i64 x] w fun e w' => e = .returned (.agg #[.int .i64 (lenN x), .slice none 0 0]) ∧ Below w.heap.size w w' := by
  by_cases h1 : x < 0
  · have HL : Hid ((lenN x : Int) = 0) := Lib.hid (by unfold lenN; omega)
    go_enter Tryz.func27, Tryz.ntmps27
    go_wp2_with fail
    exact bodyPost_ret (v := .agg #[.int .i64 0, .slice none 0 0]) (by simp [results, Tryz.results27, go_sem]) rfl ⟨by rw [HL.out], (Below.refl _ _).alloc (Nat.le_refl _) _⟩
  · by_cases h2 : 1048576 < x
    · have HL : Hid ((lenN x : Int) = 1048576) := Lib.hid (by unfold lenN; omega)
      go_enter Tryz.func27, Tryz.ntmps27
      go_wp2_with fail
      exact bodyPost_ret (v := .agg #[.int .i64 1048576, .slice none 0 0]) (by simp [results, Tryz.results27, go_sem]) rfl ⟨by rw [HL.out], (Below.refl _ _).alloc (Nat.le_refl _) _⟩
    · have HL : Hid ((lenN x : Int) = x) := Lib.hid (by unfold lenN; omega)
      go_enter Tryz.func27, Tryz.ntmps27
      go_wp2_with fail
      exact bodyPost_ret (v := .agg #[.int .i64 x, .slice none 0 0]) (by simp [results, Tryz.results27, go_sem]) rfl ⟨by rw [HL.out], (Below.refl _ _).alloc (Nat.le_refl _) _⟩

/-- is a number in it -/
def hasB (L : Nat) (es : List Nat) (i : Int) : Bool := decide (0 ≤ i ∧ i < L) && mem es i
theorem has_any (L : Nat) (p : Option Addr) (n cap : Nat) (es : List Nat) (i : Int) (w : World) (g : Good L es) (hrow : RowAt w p es) (hn : n = es.length) :
    Calls Tryz.prog 391 #[.agg #[.int .i64 L, .slice p n cap], .int .i64 i] w fun e w' => e = .returned (.bool (hasB L es i)) ∧ Below w.heap.size w w' := by
  have HN := Lib.hid hn; clear hn
  have hL := g.small
  by_cases h1 : 0 ≤ i
  · by_cases h2 : i < L
    · have HR : Hid (hasB L es i = insB (cnt es (i + 1))) := Lib.hid (by unfold hasB mem; simp [h1, h2])
      have hcl := cnt_le es (i + 1)
      have hgl := good_len g
      have hd : decide (i < (L : Int)) = true := by simpa using h2
      go_enter Tryz.func391, Tryz.ntmps391
      go_wp2_with fail
      refine (edges_any L p n cap es _ _ g.rising hgl (hrow.below ((Below.refl _ _).alloc (Nat.le_refl _) _)) HN.out).mono ?_
      rintro e w1 ⟨rfl, hb⟩
      have hb2 : Below w.heap.size w w1 := ((Below.refl _ _).alloc (Nat.le_refl _) _).trans (hb.mono (by simp))
      go_wp2_with fail
      refine (inside_any _ (by omega) _).mono ?_
      rintro e w2 ⟨rfl, rfl⟩
      go_wp2_with fail
      go_ret
      exact ⟨by rw [HR.out]; rfl, hb2⟩
    · have HR : Hid (hasB L es i = false) := Lib.hid (by unfold hasB; simp [h2])
      have hd : decide (i < (L : Int)) = false := by simpa using h2
      go_enter Tryz.func391, Tryz.ntmps391
      go_wp2_with fail
      go_ret
      exact ⟨by rw [HR.out]; rfl, (Below.refl _ _).alloc (Nat.le_refl _) _⟩
  · have HR : Hid (hasB L es i = false) := Lib.hid (by unfold hasB; simp [h1])
    have hd : decide (0 ≤ i) = false := by simpa using h1
    go_enter Tryz.func391, Tryz.ntmps391
    go_wp2_with fail
    go_ret
    exact ⟨by rw [HR.out]; rfl, (Below.refl _ _).alloc (Nat.le_refl _) _⟩
end Go.Proofs.YtbeldoiaecjkgaaGreatDoor.Bt
end
