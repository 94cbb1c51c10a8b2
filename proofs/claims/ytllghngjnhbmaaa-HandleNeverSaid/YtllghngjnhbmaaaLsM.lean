/- The plain mathematics of a list in memory: its links, what is found, members more and less. -/
import Derived.Test.YtllghngjnhbmaaaArNumM
namespace Go.Proofs.Ytllghngjnhbmaaa.Bt
open Go Go.RowKit Go.Shelf
set_option linter.unusedVariables false

/-- a number of 8 bytes laid -/
def put8 (m : Nat → UInt8) (a : Nat) (v : Nat) : Nat → UInt8 := putM m a (numB (v : Int) 8)
theorem put8_same (m : Nat → UInt8) (a v : Nat) (hv : v < 18446744073709551616) : numV (put8 m a v) a 8 = v := by
  unfold put8
  rw [numV_store, Int.toNat_natCast]
  exact Nat.mod_eq_of_lt (by rw [show 8 * 8 = 64 from rfl]; exact hv)
theorem put8_far (m : Nat → UInt8) {a c : Nat} (v : Nat) (h : a + 8 ≤ c ∨ c + 8 ≤ a) : numV (put8 m a v) c 8 = numV m c 8 :=
  numV_congr fun j hj => putM_out _ _ _ (by rw [numB_length]; omega)
/-- the members behind a link -/
def Ch (L : Nat) (es : List Nat) (mm : Nat → UInt8) : Nat → Nat → List Nat → Prop
  | h, _, [] => thereE L es h 8 = 0 ∧ numV mm h 8 = 0
  | h, b, m :: t => thereE L es h 8 = 0 ∧ numV mm h 8 = m ∧ b < m ∧ thereE L es m 16 = 0 ∧ Ch L es mm m m t
/-- no two of them lie over one another -/
def Apart (l : List Nat) : Prop := l.Pairwise fun a b => a + 8 ≤ b ∨ b + 8 ≤ a
/-- the links, and where each leads to -/
def prs : Nat → Nat → List Nat → List (Nat × Nat × Nat)
  | h, z, [] => [(h, z, 0)]
  | h, z, m :: t => (h, z, m) :: prs m 16 t
def fnd : Nat → Nat → List Nat → Int → Nat × Nat × Nat
  | h, z, [], _ => (h, z, 0)
  | h, z, m :: t, f => if f ≤ m then (h, z, m) else fnd m 16 t f
def ins (x : Nat) : List Nat → List Nat
  | [] => [x]
  | m :: t => if x ≤ m then x :: m :: t else m :: ins x t
theorem there_is {L : Nat} {es : List Nat} {a k : Int} (h : thereE L es a k = 0) : thereB L es a k = true := by
  unfold thereE at h; cases hq : thereB L es a k with
  | true => rfl
  | false => rw [hq] at h; cases h
theorem there_lt {L : Nat} {es : List Nat} (g : Good L es) {a : Nat} {k : Int} (h : thereE L es a k = 0) : (a : Int) + k ≤ 4294967296 := by
  have h1 := (there_iff g a k).1 (there_is h)
  have := g.small
  omega
theorem there_sub {L : Nat} {es : List Nat} (g : Good L es) {a : Nat} {k j : Int} (h : thereE L es a k = 0) (h0 : 0 ≤ j) (hj : j ≤ k) : thereE L es a j = 0 := by
  have h1 := (there_iff g a k).1 (there_is h)
  unfold thereE
  rw [if_pos]
  exact (there_iff g a j).2 ⟨h1.1, by omega, by omega, fun i h2 h3 => h1.2.2.2 i h2 (by omega)⟩
section
variable {L : Nat} {es : List Nat} {mm mm' : Nat → UInt8}
theorem Ch.there : ∀ {h b : Nat} {ms : List Nat}, Ch L es mm h b ms → thereE L es h 8 = 0
  | _, _, [], k => k.1
  | _, _, _ :: _, k => k.1
theorem Ch.far (e : ∀ c, c ∈ ([] : List Nat) → True) : ∀ {h b : Nat} {ms : List Nat}, Ch L es mm h b ms → (∀ c ∈ h :: ms, numV mm' c 8 = numV mm c 8) → Ch L es mm' h b ms
  | h, b, [], k, f => ⟨k.1, (f h (by simp)).trans k.2⟩
  | h, b, m :: t, k, f => ⟨k.1, (f h (by simp)).trans k.2.1, k.2.2.1, k.2.2.2.1, Ch.far e k.2.2.2.2 fun c hc => f c (List.mem_cons_of_mem _ hc)⟩
theorem Ch.keep {h b : Nat} {ms : List Nat} (k : Ch L es mm h b ms) (f : ∀ c ∈ h :: ms, numV mm' c 8 = numV mm c 8) : Ch L es mm' h b ms := Ch.far (fun _ h => by cases h) k f
theorem Ch.gt : ∀ {h b : Nat} {ms : List Nat}, Ch L es mm h b ms → ∀ c ∈ ms, b < c
  | _, _, [], _, c, hc => by cases hc
  | _, _, m :: t, k, c, hc => by
    rcases List.mem_cons.1 hc with rfl | hc
    · exact k.2.2.1
    · exact Nat.lt_trans k.2.2.1 (Ch.gt k.2.2.2.2 c hc)
theorem Ch.mems : ∀ {h b : Nat} {ms : List Nat}, Ch L es mm h b ms → ∀ c ∈ ms, thereE L es c 16 = 0
  | _, _, [], _, c, hc => by cases hc
  | _, _, m :: t, k, c, hc => by
    rcases List.mem_cons.1 hc with rfl | hc
    · exact k.2.2.2.1
    · exact Ch.mems k.2.2.2.2 c hc
theorem Ch.sorted : ∀ {h b : Nat} {ms : List Nat}, Ch L es mm h b ms → ms.Pairwise (· < ·)
  | _, _, [], _ => .nil
  | _, _, m :: t, k => .cons (Ch.gt k.2.2.2.2) (Ch.sorted k.2.2.2.2)
theorem Ch.lt (g : Good L es) {h b : Nat} {ms : List Nat} (k : Ch L es mm h b ms) : ∀ c ∈ ms, c + 16 ≤ 4294967296 := fun c hc => by have := there_lt g (k.mems c hc); omega
/-- the list and the memory fix the members -/
theorem Ch.unique : ∀ {h b : Nat} {ms ns : List Nat}, Ch L es mm h b ms → Ch L es mm h b ns → ms = ns
  | _, _, [], [], _, _ => rfl
  | _, _, [], n :: _, k, j => by have := k.2.symm.trans j.2.1; have := j.2.2.1; omega
  | _, _, m :: _, [], k, j => by have := j.2.symm.trans k.2.1; have := k.2.2.1; omega
  | _, _, m :: t, n :: u, k, j => by
    obtain rfl : m = n := k.2.1.symm.trans j.2.1
    rw [Ch.unique k.2.2.2.2 j.2.2.2.2]
theorem fnd_mem : ∀ (h z : Nat) (ms : List Nat) (f : Int), (fnd h z ms f).1 ∈ h :: ms
  | h, z, [], f => by simp [fnd]
  | h, z, m :: t, f => by
    unfold fnd
    split
    · simp
    · exact List.mem_cons_of_mem _ (fnd_mem m 16 t f)
theorem fnd_size : ∀ (h z : Nat) (ms : List Nat) (f : Int), (fnd h z ms f).2.1 = z ∨ (fnd h z ms f).2.1 = 16
  | h, z, [], f => by simp [fnd]
  | h, z, m :: t, f => by
    unfold fnd
    split
    · exact .inl rfl
    · exact .inr ((fnd_size m 16 t f).elim id id)
theorem fnd_there (g : Good L es) : ∀ {h b : Nat} {ms : List Nat}, Ch L es mm h b ms → ∀ (z : Nat) (f : Int), thereE L es (fnd h z ms f).1 8 = 0 := fun {h b ms} k z f => by
  rcases List.mem_cons.1 (fnd_mem h z ms f) with e | e
  · rw [e]; exact k.there
  · exact there_sub g (k.mems _ e) (by omega) (by omega)
/-- what is found: 0, or a member not below -/
theorem fnd_val : ∀ (h z : Nat) (ms : List Nat) (f : Int), (fnd h z ms f).2.2 = 0 ∧ (∀ c ∈ ms, (c : Int) < f) ∨ ((fnd h z ms f).2.2 ∈ ms ∧ f ≤ ((fnd h z ms f).2.2 : Int))
  | h, z, [], f => by simp [fnd]
  | h, z, m :: t, f => by
    unfold fnd
    split
    · rename_i hf; exact .inr ⟨by simp, hf⟩
    · rename_i hf
      rcases fnd_val m 16 t f with ⟨e, k⟩ | ⟨e, k⟩
      · refine .inl ⟨e, fun c hc => ?_⟩
        rcases List.mem_cons.1 hc with rfl | hc
        · omega
        · exact k c hc
      · exact .inr ⟨List.mem_cons_of_mem _ e, k⟩
/-- a member's number is found just if it is one -/
theorem fnd_is {h b : Nat} {ms : List Nat} (k : Ch L es mm h b ms) (z : Nat) (x : Nat) (hx : 0 < x) : (fnd h z ms x).2.2 = x ↔ x ∈ ms := by
  constructor
  · intro e
    rcases fnd_val h z ms x with ⟨e2, _⟩ | ⟨e2, _⟩
    · omega
    · rw [e] at e2; exact e2
  · clear hx
    induction ms generalizing h b z with
    | nil => intro h; cases h
    | cons m t ih =>
      intro hm
      unfold fnd
      rcases List.mem_cons.1 hm with rfl | hm
      · rw [if_pos (Int.le_refl _)]
      · have := Ch.gt k.2.2.2.2 x hm
        rw [if_neg (by omega)]
        exact ih k.2.2.2.2 16 hm
theorem add_ch (g : Good L es) {x : Nat} (hx : thereE L es x 16 = 0) : ∀ {h b : Nat} {ms : List Nat} (z : Nat), Ch L es mm h b ms → b < x → x ∉ ms → Apart (h :: ms) → (∀ c ∈ h :: ms, x + 8 ≤ c ∨ c + 8 ≤ x) →
    Ch L es (put8 (put8 mm x (fnd h z ms x).2.2) (fnd h z ms x).1 x) h b (ins x ms)
  | h, b, [], z, k, hb, hn, ha, hf => by
    have hlt := there_lt g hx
    have h1 := hf h (by simp)
    show Ch L es (put8 (put8 mm x 0) h x) h b [x]
    refine ⟨k.1, put8_same _ _ _ (by omega), hb, hx, there_sub g hx (by omega) (by omega), ?_⟩
    rw [put8_far _ _ (by omega)]
    exact put8_same _ _ _ (by omega)
  | h, b, m :: t, z, k, hb, hn, ha, hf => by
    have hlt := there_lt g hx
    have h1 := hf h (by simp)
    have h2 := hf m (by simp)
    have hlm := there_lt g k.2.2.2.1
    have hc := List.pairwise_cons.1 ha
    have hne : x ≠ m := fun e => hn (by simp [e])
    unfold fnd ins
    by_cases hxm : x ≤ m
    · rw [if_pos (by omega), if_pos hxm]
      refine ⟨k.1, put8_same _ _ _ (by omega), hb, hx, there_sub g hx (by omega) (by omega), ?_, by omega, k.2.2.2.1, ?_⟩
      · rw [put8_far _ _ (show h + 8 ≤ x ∨ x + 8 ≤ h by omega)]; exact put8_same _ _ _ (show m < _ by omega)
      · refine k.2.2.2.2.keep fun c hcm => ?_
        have h3 := hc.1 c hcm
        have h4 := hf c (List.mem_cons_of_mem _ hcm)
        rw [put8_far _ _ (by omega), put8_far _ _ (by omega)]
    · rw [if_neg (by omega), if_neg hxm]
      have ih := add_ch g hx 16 k.2.2.2.2 (by omega) (fun e => hn (List.mem_cons_of_mem _ e)) hc.2 (fun c hcm => hf c (List.mem_cons_of_mem _ hcm))
      have h3 := hc.1 _ (fnd_mem m 16 t x)
      refine ⟨k.1, ?_, k.2.2.1, k.2.2.2.1, ih⟩
      rw [put8_far _ _ (by omega), put8_far _ _ (by omega)]
      exact k.2.1
/-- where a link leads to -/
def nxt (mm : Nat → UInt8) (a : Nat) : Nat := numV mm a 8
theorem del_ch (g : Good L es) {x : Nat} : ∀ {h b : Nat} {ms : List Nat} (z : Nat), Ch L es mm h b ms → x ∈ ms → Apart (h :: ms) →
    Ch L es (put8 mm (fnd h z ms x).1 (nxt mm x)) h b (ms.erase x)
  | h, b, [], z, k, hm, ha => by cases hm
  | h, b, m :: t, z, k, hm, ha => by
    have hc := List.pairwise_cons.1 ha
    have hlm := there_lt g k.2.2.2.1
    unfold fnd
    by_cases hxm : x ≤ m
    · have e : x = m := by
        rcases List.mem_cons.1 hm with e | e
        · exact e
        · have := Ch.gt k.2.2.2.2 x e; omega
      subst e
      rw [if_pos (by omega), List.erase_cons_head]
      cases t with
      | nil =>
        refine ⟨k.1, ?_⟩
        unfold nxt
        rw [k.2.2.2.2.2]; exact put8_same _ _ _ (by omega)
      | cons m2 t2 =>
        have k2 := k.2.2.2.2
        have hl2 := there_lt g k2.2.2.2.1
        refine ⟨k.1, ?_, ?_, k2.2.2.2.1, k2.2.2.2.2.keep fun c hcm => ?_⟩
        · unfold nxt
          rw [k2.2.1]; exact put8_same _ _ _ (by omega)
        · have := k.2.2.1; have := k2.2.2.1; omega
        · have h3 := hc.1 c (List.mem_cons_of_mem _ hcm)
          rw [put8_far _ _ (by omega)]
    · have hne : x ≠ m := by omega
      have hmt : x ∈ t := by
        rcases List.mem_cons.1 hm with e | e
        · exact absurd e hne
        · exact e
      rw [if_neg (by omega), List.erase_cons_tail (by simpa using fun e => hne e.symm)]
      have h3 := hc.1 _ (fnd_mem m 16 t x)
      refine ⟨k.1, ?_, k.2.2.1, k.2.2.2.1, del_ch g 16 k.2.2.2.2 hmt hc.2⟩
      rw [put8_far _ _ (by omega)]
      exact k.2.1
theorem ins_mem (x c : Nat) : ∀ ms : List Nat, c ∈ ins x ms ↔ c = x ∨ c ∈ ms
  | [] => by simp [ins]
  | m :: t => by
    unfold ins
    split
    · simp
    · rw [List.mem_cons, ins_mem x c t, List.mem_cons]
      constructor
      · rintro (h | h | h)
        · exact .inr (.inl h)
        · exact .inl h
        · exact .inr (.inr h)
      · rintro (h | h | h)
        · exact .inr (.inl h)
        · exact .inl h
        · exact .inr (.inr h)
theorem ins_length (x : Nat) : ∀ ms : List Nat, (ins x ms).length = ms.length + 1
  | [] => rfl
  | m :: t => by
    unfold ins
    split
    · rfl
    · rw [List.length_cons, ins_length x t, List.length_cons]
end
end Go.Proofs.Ytllghngjnhbmaaa.Bt
