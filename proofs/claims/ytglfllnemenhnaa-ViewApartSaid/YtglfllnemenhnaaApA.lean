/- What is done to a view stays in it. -/
import Derived.Test.YtglfllnemenhnaaEmA
import Derived.Test.YtglfllnemenhnaaVwTexts
import Derived.Test.YtglfllnemenhnaaActs3
namespace Go.Proofs.Ytglfllnemenhnaa.Bt
open Go Go.RowKit Go.Shelf
set_option linter.unusedVariables false
set_option linter.unusedSimpArgs false

/-- no byte that isn't in the view is another one -/
def OkF (va vs : Nat) (m m' : Nat → UInt8) : Prop := ∀ i, i < va ∨ va + vs ≤ i → m' i = m i
theorem OkF.refl (va vs : Nat) (m : Nat → UInt8) : OkF va vs m m := fun _ _ => rfl
theorem OkF.trans {va vs : Nat} {m m1 m2 : Nat → UInt8} (h : OkF va vs m m1) (k : OkF va vs m1 m2) : OkF va vs m m2 := fun i hi => (k i hi).trans (h i hi)
theorem there4f (m : Nat → UInt8) (a k : Int) : thereE (fullS 4 m).L (fullS 4 m).es a k = if 0 ≤ a ∧ 0 ≤ k ∧ a + k ≤ 16384 then 0 else 3 := by
  show thereE 4 [0, 4] a k = _
  rw [thereE_full (by omega) (by omega)]; rfl
theorem put_out {va vs : Nat} (m : Nat → UInt8) (a k : Int) (l : List UInt8) (hl : l.length = k.toNat) (h : thereE (fullS 4 m).L (fullS 4 m).es (addrV va vs a k) k = 0) : OkF va vs m (putM m (addrV va vs a k).toNat l) := by
  rw [there4f] at h
  have h2 : 0 ≤ addrV va vs a k ∧ 0 ≤ k := by
    by_cases hh : 0 ≤ addrV va vs a k ∧ 0 ≤ k ∧ addrV va vs a k + k ≤ 16384
    · exact ⟨hh.1, hh.2.1⟩
    · rw [if_neg hh] at h; cases h
  have h3 : 0 ≤ a ∧ 0 ≤ k ∧ k ≤ (vs : Int) - a := by
    by_cases hh : 0 ≤ a ∧ 0 ≤ k ∧ k ≤ (vs : Int) - a
    · exact hh
    · unfold addrV at h2; rw [if_neg hh] at h2; omega
  have h4 : addrV va vs a k = (va : Int) + a := by unfold addrV; rw [if_pos h3]
  rw [h4]
  intro i hi
  exact putM_out _ _ _ (by omega)
theorem store_out {va vs : Nat} (m : Nat → UInt8) (a k x : Int) : ∃ m', storeS (fullS 4 m) (addrV va vs a k) k x = fullS 4 m' ∧ OkF va vs m m' := by
  unfold storeS
  by_cases h : numE (fullS 4 m).L (fullS 4 m).es (addrV va vs a k) k = 0
  · rw [if_pos h]
    refine ⟨_, rfl, put_out m a k _ (by rw [numB_length]) ?_⟩
    unfold numE at h
    split at h
    · exact h
    · cases h
  · rw [if_neg h]; exact ⟨m, rfl, OkF.refl _ _ _⟩
theorem puts_out {va vs : Nat} (m : Nat → UInt8) (a k : Int) (l : List UInt8) (hl : (l.length : Int) = k) : ∃ m', putS (fullS 4 m) (addrV va vs a k) l = fullS 4 m' ∧ OkF va vs m m' := by
  unfold putS
  rw [hl]
  by_cases h : thereE (fullS 4 m).L (fullS 4 m).es (addrV va vs a k) k = 0
  · rw [if_pos h]; exact ⟨_, rfl, put_out m a k l (by omega) h⟩
  · rw [if_neg h]; exact ⟨m, rfl, OkF.refl _ _ _⟩
theorem fill_out {va vs : Nat} (m : Nat → UInt8) (a k : Int) (y : UInt8) : ∃ m', fillS (fullS 4 m) (addrV va vs a k) k y = fullS 4 m' ∧ OkF va vs m m' := by
  unfold fillS
  by_cases h : thereE (fullS 4 m).L (fullS 4 m).es (addrV va vs a k) k = 0
  · rw [if_pos h]; exact ⟨_, rfl, put_out m a k _ (by rw [List.length_replicate]) h⟩
  · rw [if_neg h]; exact ⟨m, rfl, OkF.refl _ _ _⟩
theorem cpy_out {va vs : Nat} (m : Nat → UInt8) (tt fr k : Int) : ∃ m', copyS (fullS 4 m) (addrV va vs tt k) (addrV va vs fr k) k = fullS 4 m' ∧ OkF va vs m m' := by
  unfold copyS
  by_cases h : copyE (fullS 4 m) (addrV va vs tt k) (addrV va vs fr k) k = 0
  · rw [if_pos h]
    by_cases e : addrV va vs tt k = addrV va vs fr k
    · rw [if_pos e]; exact ⟨m, rfl, OkF.refl _ _ _⟩
    · rw [if_neg e]
      refine ⟨_, rfl, put_out m tt k _ (by rw [getM_length]) ?_⟩
      unfold copyE at h
      by_cases h2 : thereE (fullS 4 m).L (fullS 4 m).es (addrV va vs tt k) k = 0
      · exact h2
      · rw [if_pos h2] at h; cases h
  · rw [if_neg h]; exact ⟨m, rfl, OkF.refl _ _ _⟩
/-- a call upon the view that returns one number -/
def PgP (A va vs : Nat) (m : Nat → UInt8) (w : World) (e : Ending) (w' : World) : Prop := ∃ (er : Int) (m' : Nat → UInt8), e = .returned (.int .i64 er) ∧ On A (fullS 4 m') w' ∧ Went A w w' ∧ OkF va vs m m'
section
variable {A va vs : Nat} {m : Nat → UInt8} {w : World}
theorem pg_store (h : On A (fullS 4 m) w) (h1 : va ≤ 4294967296) (h2 : vs ≤ 4294967296) (a k x : Int) (ha : a ≤ 9223372036854775807) (hx : 0 ≤ x) :
    Calls Try.prog 52 #[vwV A va vs, .int .i64 a, .int .i64 k, .int .u64 x] w (PgP A va vs m w) := by
  refine (on_store h va vs h1 h2 a k x ha hx).mono ?_
  rintro e w' ⟨rfl, ho, hg⟩
  obtain ⟨m', e, hf⟩ := store_out (va := va) (vs := vs) m a k x
  rw [e] at ho
  exact ⟨_, m', rfl, ho, hg, hf⟩
theorem pg_put (h : On A (fullS 4 m) w) (h1 : va ≤ 4294967296) (h2 : vs ≤ 4294967296) (a : Int) (ha : a ≤ 9223372036854775807) (x : ByteArray) (hx : x.size ≤ 9223372036854775807) :
    Calls Try.prog 76 #[vwV A va vs, .int .i64 a, .string x] w (PgP A va vs m w) := by
  refine (on_put h va vs h1 h2 a ha x hx).mono ?_
  rintro e w' ⟨rfl, ho, hg⟩
  obtain ⟨m', e, hf⟩ := puts_out (va := va) (vs := vs) m a x.size x.data.toList (by rw [Array.length_toList]; rfl)
  rw [e] at ho
  exact ⟨_, m', rfl, ho, hg, hf⟩
theorem pg_fill (h : On A (fullS 4 m) w) (h1 : va ≤ 4294967296) (h2 : vs ≤ 4294967296) (a k : Int) (ha : a ≤ 9223372036854775807) (y : UInt8) :
    Calls Try.prog 78 #[vwV A va vs, .int .i64 a, .int .i64 k, .int .u8 (y.toNat : Int)] w (PgP A va vs m w) := by
  refine (on_fill h va vs h1 h2 a k ha y).mono ?_
  rintro e w' ⟨rfl, ho, hg⟩
  obtain ⟨m', e, hf⟩ := fill_out (va := va) (vs := vs) m a k y
  rw [e] at ho
  exact ⟨_, m', rfl, ho, hg, hf⟩
theorem pg_copy (h : On A (fullS 4 m) w) (h1 : va ≤ 4294967296) (h2 : vs ≤ 4294967296) (tt fr k : Int) (ha : tt ≤ 9223372036854775807) (hf : fr ≤ 9223372036854775807) :
    Calls Try.prog 80 #[vwV A va vs, .int .i64 tt, .int .i64 fr, .int .i64 k] w (PgP A va vs m w) := by
  refine (on_copy h va vs h1 h2 tt fr k ha hf).mono ?_
  rintro e w' ⟨rfl, ho, hg⟩
  obtain ⟨m', e, hf⟩ := cpy_out (va := va) (vs := vs) m tt fr k
  rw [e] at ho
  exact ⟨_, m', rfl, ho, hg, hf⟩
theorem pg_texts (h : On A (fullS 4 m) w) (h1 : va ≤ 4294967296) (h2 : vs ≤ 4294967296) (q : Option Addr) (c : Nat) (xs : List ByteArray) (hs : StrsAt w q xs) (hN : xs.length ≤ 140737488355328) (hcap : xs.length ≤ c) (hj : (joinB xs).size ≤ 140737488355328) :
    Calls Try.prog 82 #[vwV A va vs, .slice q xs.length c] w (PgP A va vs m w) := by
  obtain ⟨P, ps, p, n, cap, hx⟩ := h
  refine (vtexts_any hx va vs h1 h2 q c xs hs hN hcap hj).mono ?_
  rintro e w' hp
  have hp2 := On.ret hx hp
  obtain ⟨rfl, ho, hg⟩ := hp2
  obtain ⟨m', e, hf⟩ := puts_out (va := va) (vs := vs) m 0 (joinB xs).size (joinB xs).data.toList (by rw [Array.length_toList]; rfl)
  rw [e] at ho
  exact ⟨_, m', rfl, ho, hg, hf⟩
end
end Go.Proofs.Ytglfllnemenhnaa.Bt
