/- Several texts in one: BnP; BnR. -/
import Derived.Test.YtoineackmpafdaaChP
import Derived.Deep.DeepCutAuto
import Derived.Laws.StructEq
import Derived.OpenShut
import Derived.OwnWalk
import Derived.Maps.AppendAt
import Derived.WalkSmall
import Derived.Lib.SmallJoins
import Derived.Deep.Slices
import Derived.Deep.Strs
import Derived.ChangeSame
import Derived.WideShapes
/- Several texts in one: BnM; BnA; BnB; BnC; BnD; BnE; BnF. -/
/- The plain mathematics of bins: heads in a view, headers one behind the other. -/
namespace Go.Proofs.Ytoineackmpafdaa.Bt
open Go Go.RowKit Go.Shelf
set_option linter.unusedVariables false

/-- a bin's head: the page of its newest chunk, how many it has -/
def hdP (m : Nat → UInt8) (va k : Nat) : Nat := numV m (va + 8 * k) 4
def hdC (m : Nat → UInt8) (va k : Nat) : Nat := numV m (va + 8 * k + 4) 4
def setH (m : Nat → UInt8) (va k : Nat) (x c : Int) : Nat → UInt8 := putM (putM m (va + 8 * k) (numB x 4)) (va + 8 * k + 4) (numB c 4)
theorem hd_lt (m : Nat → UInt8) (va k : Nat) : hdP m va k < 4294967296 ∧ hdC m va k < 4294967296 := by
  unfold hdP hdC
  have := numV_lt m (va + 8 * k) 4; have := numV_lt m (va + 8 * k + 4) 4; omega
theorem setH_out (m : Nat → UInt8) (va k : Nat) (x c : Int) {i : Nat} (h : i < va + 8 * k ∨ va + 8 * k + 8 ≤ i) : setH m va k x c i = m i := by
  unfold setH
  rw [putM_out _ _ _ (by rw [numB_length]; omega), putM_out _ _ _ (by rw [numB_length]; omega)]
theorem setH_P (m : Nat → UInt8) (va k : Nat) (x c : Int) : hdP (setH m va k x c) va k = x.toNat % 4294967296 := by
  unfold hdP setH
  rw [numV_congr (m' := putM m (va + 8 * k) (numB x 4)) (fun j hj => putM_out _ _ _ (by rw [numB_length]; omega)), numV_store]
theorem setH_C (m : Nat → UInt8) (va k : Nat) (x c : Int) : hdC (setH m va k x c) va k = c.toNat % 4294967296 := by
  unfold hdC setH
  rw [numV_store]
theorem setH_far (m : Nat → UInt8) (va k : Nat) (x c : Int) {j : Nat} (h : j ≠ k) : hdP (setH m va k x c) va j = hdP m va j ∧ hdC (setH m va k x c) va j = hdC m va j := by
  unfold hdP hdC
  exact ⟨numV_congr fun i hi => setH_out _ _ _ _ _ (by omega), numV_congr fun i hi => setH_out _ _ _ _ _ (by omega)⟩
theorem hd_congr {m m' : Nat → UInt8} {va : Nat} (h : ∀ i, va ≤ i → i < va + 40 → m' i = m i) {k : Nat} (hk : k < 5) : hdP m' va k = hdP m va k ∧ hdC m' va k = hdC m va k := by
  unfold hdP hdC
  exact ⟨numV_congr fun i hi => h _ (by omega) (by omega), numV_congr fun i hi => h _ (by omega) (by omega)⟩
/-- the header of a chunk of an order that nobody owns stands at a page -/
structure ChAt (L : Nat) (es : List Nat) (m : Nat → UInt8) (p k : Nat) : Prop where
  there : thereE L es ((4096 * p : Nat) : Int) 32 = 0
  st : stB m ((4096 * p : Nat) : Int) = true
  ord : rdO m (4096 * p) = (k : Int)
  own : rdU m (4096 * p) = 0
/-- each tells the next one -/
def Lnk (m : Nat → UInt8) : List Nat → Prop
  | [] => True
  | p :: l => (∀ p' l', l = p' :: l' → rdX m (4096 * p) = ((4096 * p' : Nat) : Int)) ∧ Lnk m l
theorem rd_same {m m' : Nat → UInt8} {p : Nat} (h : ∀ i, 4096 * p ≤ i → i < 4096 * p + 32 → m' i = m i) :
    rdO m' (4096 * p) = rdO m (4096 * p) ∧ rdU m' (4096 * p) = rdU m (4096 * p) ∧ rdX m' (4096 * p) = rdX m (4096 * p) ∧ stB m' ((4096 * p : Nat) : Int) = stB m ((4096 * p : Nat) : Int) := by
  have k := rd_congr (m := m') (m' := m) (a := ((4096 * p : Nat) : Int)) (fun j hj => h _ (by simp only [Int.toNat_natCast]; omega) (by simp only [Int.toNat_natCast]; omega))
  simpa only [Int.toNat_natCast] using k
theorem ChAt.same {L : Nat} {es : List Nat} {m m' : Nat → UInt8} {p k : Nat} (c : ChAt L es m p k) (h : ∀ i, 4096 * p ≤ i → i < 4096 * p + 32 → m' i = m i) : ChAt L es m' p k := by
  obtain ⟨e1, e2, _, e4⟩ := rd_same h
  exact ⟨c.there, e4.trans c.st, e1.trans c.ord, e2.trans c.own⟩
theorem Lnk.same {m m' : Nat → UInt8} : ∀ {l : List Nat}, Lnk m l → (∀ p ∈ l, ∀ i, 4096 * p ≤ i → i < 4096 * p + 32 → m' i = m i) → Lnk m' l
  | [], _, _ => trivial
  | p :: l, h, k => ⟨fun p' l' e => (rd_same (k p (by simp))).2.2.1.trans (h.1 p' l' e), h.2.same fun q hq => k q (by simp [hq])⟩
/-- the bins in a view at va: q k has the pages of bin k, the newest first -/
structure Bn (L : Nat) (es : List Nat) (m : Nat → UInt8) (va : Nat) (q : Nat → List Nat) : Prop where
  view : thereE L es (va : Int) 40 = 0
  many : ∀ k, k < 5 → hdC m va k = (q k).length
  top : ∀ k, k < 5 → ∀ p l, q k = p :: l → hdP m va k = p
  at_ : ∀ k, k < 5 → ∀ p ∈ q k, ChAt L es m p k
  link : ∀ k, k < 5 → Lnk m (q k)
  nd : ∀ k, k < 5 → (q k).Nodup
  far : ∀ k, k < 5 → ∀ p ∈ q k, va + 40 ≤ 4096 * p ∨ 4096 * p + 32 ≤ va
def updQ (q : Nat → List Nat) (k : Nat) (l : List Nat) : Nat → List Nat := fun j => if j = k then l else q j
theorem updQ_at (q : Nat → List Nat) (k : Nat) (l : List Nat) : updQ q k l k = l := by unfold updQ; rw [if_pos rfl]
theorem updQ_ne (q : Nat → List Nat) {k j : Nat} (l : List Nat) (h : j ≠ k) : updQ q k l j = q j := by unfold updQ; rw [if_neg h]
theorem Bn.in_one {L : Nat} {es : List Nat} {m : Nat → UInt8} {va : Nat} {q : Nat → List Nat} (b : Bn L es m va q) {p k j : Nat} (hj : j < 5) (h : p ∈ q j) (c : ChAt L es m p k) : j = k := by
  have h1 := (b.at_ j hj p h).ord
  rw [c.ord] at h1; omega
theorem Bn.same {L : Nat} {es : List Nat} {m m' : Nat → UInt8} {va : Nat} {q : Nat → List Nat} (b : Bn L es m va q) (hv : ∀ i, va ≤ i → i < va + 40 → m' i = m i)
    (hm : ∀ k, k < 5 → ∀ p ∈ q k, ∀ i, 4096 * p ≤ i → i < 4096 * p + 32 → m' i = m i) : Bn L es m' va q :=
  ⟨b.view, fun k hk => ((hd_congr hv hk).2).trans (b.many k hk), fun k hk p l e => ((hd_congr hv hk).1).trans (b.top k hk p l e), fun k hk p hp => (b.at_ k hk p hp).same (hm k hk p hp),
    fun k hk => (b.link k hk).same (hm k hk), b.nd, b.far⟩
/-- a header is written where no chunk of a bin is -/
theorem Bn.wr {L : Nat} {es : List Nat} {m : Nat → UInt8} {va : Nat} {q : Nat → List Nat} (b : Bn L es m va q) {p : Nat} (o u x : Int) (hp : ∀ k, k < 5 → p ∉ q k) (hf : va + 40 ≤ 4096 * p ∨ 4096 * p + 32 ≤ va) :
    Bn L es (wrM m (4096 * p) ((4096 * p : Nat) : Int) o u x) va q :=
  b.same (fun i h1 h2 => wrM_out _ _ _ _ _ _ _ (by omega)) fun k hk p2 h2 i h3 h4 => wrM_out _ _ _ _ _ _ _ (by
    have : p2 ≠ p := fun e => hp k hk (e ▸ h2)
    omega)
/-- the memory behind a Push, and behind a Pop -/
def pushM (m : Nat → UInt8) (va k p : Nat) : Nat → UInt8 := setH (wrM m (4096 * p) ((4096 * p : Nat) : Int) (k : Int) 0 ((4096 * hdP m va k : Nat) : Int)) va k (p : Int) ((hdC m va k + 1 : Nat) : Int)
def popM (m : Nat → UInt8) (va k p : Nat) : Nat → UInt8 := setH (wrM m (4096 * p) ((4096 * p : Nat) : Int) (k : Int) 0 0) va k (rdX m (4096 * p) / 4096) ((hdC m va k - 1 : Nat) : Int)
theorem may_page {p k : Nat} {x : Int} (hk : k < 5) (hx : 0 ≤ x) : mayB ((4096 * p : Nat) : Int) (k : Int) x = true := (mayB_iff _ _ _).2 ⟨by omega, by omega, by omega, hx⟩
theorem wr_at {L : Nat} {es : List Nat} (m : Nat → UInt8) {p k : Nat} {x : Int} (hk : k < 5) (hx : 0 ≤ x) (hx2 : x ≤ 9223372036854775807) (ht : thereE L es ((4096 * p : Nat) : Int) 32 = 0) :
    ChAt L es (wrM m (4096 * p) ((4096 * p : Nat) : Int) (k : Int) 0 x) p k ∧ rdX (wrM m (4096 * p) ((4096 * p : Nat) : Int) (k : Int) 0 x) (4096 * p) = x := by
  have h := rd_wr m ((4096 * p : Nat) : Int) (k : Int) 0 x (may_page hk hx) (by omega) hx2
  simp only [Int.toNat_natCast] at h
  exact ⟨⟨ht, h.2.2.2, h.1, h.2.1⟩, h.2.2.1⟩
theorem Bn.push {L : Nat} {es : List Nat} {m : Nat → UInt8} {va : Nat} {q : Nat → List Nat} (b : Bn L es m va q) {p k : Nat} (hk : k < 5) (c : ChAt L es m p k) (hp : p ∉ q k) (hf : va + 40 ≤ 4096 * p ∨ 4096 * p + 32 ≤ va)
    (hpb : p < 4294967296) (hl : (q k).length < 4294967295) : Bn L es (pushM m va k p) va (updQ q k (p :: q k)) := by
  have hpn : ∀ j, j < 5 → p ∉ q j := fun j hj h => by have := b.in_one hj h c; subst this; exact hp h
  have b1 := b.wr (k : Int) 0 ((4096 * hdP m va k : Nat) : Int) hpn hf
  have hP := (hd_lt m va k).1
  have w1 := wr_at (L := L) (es := es) m (x := ((4096 * hdP m va k : Nat) : Int)) hk (by omega) (by omega) c.there
  unfold pushM
  generalize hM : wrM m (4096 * p) ((4096 * p : Nat) : Int) (k : Int) 0 ((4096 * hdP m va k : Nat) : Int) = M at *
  have hS : ∀ p2, (va + 40 ≤ 4096 * p2 ∨ 4096 * p2 + 32 ≤ va) → ∀ i, 4096 * p2 ≤ i → i < 4096 * p2 + 32 → setH M va k (p : Int) ((hdC m va k + 1 : Nat) : Int) i = M i := fun p2 h2 i h3 h4 => setH_out _ _ _ _ _ (by omega)
  have hat : ∀ j, j < 5 → ∀ p2 ∈ updQ q k (p :: q k) j, ChAt L es M p2 j ∧ (va + 40 ≤ 4096 * p2 ∨ 4096 * p2 + 32 ≤ va) := by
    intro j hj p2 h2
    by_cases e : j = k
    · subst e
      rw [updQ_at] at h2
      rcases List.mem_cons.1 h2 with rfl | h2
      · exact ⟨w1.1, hf⟩
      · exact ⟨b1.at_ j hj p2 h2, b1.far j hj p2 h2⟩
    · rw [updQ_ne _ _ e] at h2
      exact ⟨b1.at_ j hj p2 h2, b1.far j hj p2 h2⟩
  refine ⟨b.view, ?_, ?_, ?_, ?_, ?_, fun j hj p2 h2 => (hat j hj p2 h2).2⟩
  · intro j hj
    by_cases e : j = k
    · subst e
      rw [setH_C, updQ_at, b.many j hj]; simp; omega
    · rw [(setH_far _ _ _ _ _ e).2, updQ_ne _ _ e]; exact b1.many j hj
  · intro j hj p2 l e2
    by_cases e : j = k
    · subst e
      rw [updQ_at] at e2
      rw [setH_P]
      obtain ⟨rfl, -⟩ := List.cons.inj e2
      simp; omega
    · rw [(setH_far _ _ _ _ _ e).1]
      rw [updQ_ne _ _ e] at e2
      exact b1.top j hj p2 l e2
  · intro j hj p2 h2
    obtain ⟨h3, h4⟩ := hat j hj p2 h2
    exact h3.same (hS p2 h4)
  · intro j hj
    refine Lnk.same ?_ fun p2 h2 => hS p2 (hat j hj p2 h2).2
    by_cases e : j = k
    · subst e
      rw [updQ_at]
      refine ⟨fun p' l' e2 => ?_, b1.link j hj⟩
      rw [w1.2, b.top j hj p' l' e2]
    · rw [updQ_ne _ _ e]; exact b1.link j hj
  · intro j hj
    by_cases e : j = k
    · subst e
      rw [updQ_at]
      exact List.nodup_cons.2 ⟨hp, b.nd j hj⟩
    · rw [updQ_ne _ _ e]; exact b.nd j hj
theorem st_next {m : Nat → UInt8} {a : Int} (h : stB m a = true) : 0 ≤ rdX m a.toNat := by
  unfold stB at h
  have h1 : mayB a (rdO m a.toNat) (rdX m a.toNat) = true := by
    cases hq : mayB a (rdO m a.toNat) (rdX m a.toNat) with
    | true => rfl
    | false => rw [hq] at h; cases h
  exact ((mayB_iff _ _ _).1 h1).2.2.2
theorem Bn.pop {L : Nat} {es : List Nat} {m : Nat → UInt8} {va : Nat} {q : Nat → List Nat} (b : Bn L es m va q) {p k : Nat} {l : List Nat} (hk : k < 5) (e : q k = p :: l) (hl : (q k).length < 4294967295) (hpb : ∀ p ∈ q k, p < 4294967296) :
    Bn L es (popM m va k p) va (updQ q k l) ∧ ChAt L es (popM m va k p) p k ∧ rdX (popM m va k p) (4096 * p) = 0 := by
  have hmp : p ∈ q k := by rw [e]; simp
  have c := b.at_ k hk p hmp
  have hf := b.far k hk p hmp
  have w1 := wr_at (L := L) (es := es) m (x := 0) hk (by omega) (by omega) c.there
  have hn := b.nd k hk
  rw [e] at hn
  have hpl := (List.nodup_cons.1 hn).1
  have hlk := b.link k hk
  rw [e] at hlk
  unfold popM
  generalize hX : rdX m (4096 * p) / 4096 = X
  generalize hM : wrM m (4096 * p) ((4096 * p : Nat) : Int) (k : Int) 0 0 = M at *
  have hO : ∀ i, i < 4096 * p ∨ 4096 * p + 32 ≤ i → M i = m i := fun i hi => by rw [← hM]; exact wrM_out _ _ _ _ _ _ _ hi
  have hsub : ∀ j, j < 5 → ∀ p2 ∈ updQ q k l j, p2 ∈ q j ∧ p2 ≠ p := by
    intro j hj p2 h2
    by_cases ej : j = k
    · subst ej
      rw [updQ_at] at h2
      exact ⟨by rw [e]; simp [h2], fun e2 => hpl (e2 ▸ h2)⟩
    · rw [updQ_ne _ _ ej] at h2
      exact ⟨h2, fun e2 => ej (b.in_one hj (e2 ▸ h2) c)⟩
  have hS : ∀ p2, (va + 40 ≤ 4096 * p2 ∨ 4096 * p2 + 32 ≤ va) → ∀ i, 4096 * p2 ≤ i → i < 4096 * p2 + 32 → setH M va k X ((hdC m va k - 1 : Nat) : Int) i = M i := fun p2 h2 i h3 h4 => setH_out _ _ _ _ _ (by omega)
  have hT : ∀ p2, (va + 40 ≤ 4096 * p2 ∨ 4096 * p2 + 32 ≤ va) → p2 ≠ p → ∀ i, 4096 * p2 ≤ i → i < 4096 * p2 + 32 → setH M va k X ((hdC m va k - 1 : Nat) : Int) i = m i := fun p2 h2 h5 i h3 h4 => (hS p2 h2 i h3 h4).trans (hO i (by omega))
  have hv : ∀ i, va ≤ i → i < va + 40 → M i = m i := fun i h1 h2 => hO i (by omega)
  refine ⟨⟨b.view, ?_, ?_, ?_, ?_, ?_, ?_⟩, w1.1.same (hS p hf), (rd_same (hS p hf)).2.2.1.trans w1.2⟩
  · intro j hj
    by_cases ej : j = k
    · subst ej
      rw [setH_C, updQ_at, b.many j hj, e]; rw [e] at hl; simp at hl ⊢; omega
    · rw [(setH_far _ _ _ _ _ ej).2, updQ_ne _ _ ej, (hd_congr hv hj).2]; exact b.many j hj
  · intro j hj p2 l2 e2
    by_cases ej : j = k
    · subst ej
      rw [updQ_at] at e2
      rw [setH_P]
      have h1 := hlk.1 p2 l2 e2
      have h2 := hpb p2 (by rw [e, e2]; simp)
      rw [h1] at hX
      omega
    · rw [(setH_far _ _ _ _ _ ej).1, (hd_congr hv hj).1]
      rw [updQ_ne _ _ ej] at e2
      exact b.top j hj p2 l2 e2
  · intro j hj p2 h2
    obtain ⟨h3, h4⟩ := hsub j hj p2 h2
    exact (b.at_ j hj p2 h3).same (hT p2 (b.far j hj p2 h3) h4)
  · intro j hj
    refine Lnk.same ?_ fun p2 h2 => hT p2 (b.far j hj p2 (hsub j hj p2 h2).1) (hsub j hj p2 h2).2
    by_cases ej : j = k
    · subst ej; rw [updQ_at]; exact hlk.2
    · rw [updQ_ne _ _ ej]; exact b.link j hj
  · intro j hj
    by_cases ej : j = k
    · subst ej; rw [updQ_at]; exact (List.nodup_cons.1 hn).2
    · rw [updQ_ne _ _ ej]; exact b.nd j hj
  · intro j hj p2 h2
    exact b.far j hj p2 (hsub j hj p2 h2).1
/-- noughts are empty bins -/
theorem Bn.zero {L : Nat} {es : List Nat} {m : Nat → UInt8} {va : Nat} (hv : thereE L es (va : Int) 40 = 0) (h : ∀ i, va ≤ i → i < va + 40 → m i = 0) : Bn L es m va fun _ => [] := by
  refine ⟨hv, fun k hk => ?_, fun k hk p l e => ?_, fun k hk p hp => ?_, fun k hk => trivial, fun k hk => List.nodup_nil, fun k hk p hp => ?_⟩
  · unfold hdC
    rw [numV_congr (m' := fun _ => 0) (fun j hj => h _ (by omega) (by omega)), numV_non]; rfl
  · cases e
  · cases hp
  · cases hp
/-- the pages of all bins -/
def cntM (m : Nat → UInt8) (va : Nat) : Nat → Nat
  | 0 => 0
  | k + 1 => cntM m va k + hdC m va k * 2 ^ k
def cntQ (q : Nat → List Nat) : Nat → Nat
  | 0 => 0
  | k + 1 => cntQ q k + (q k).length * 2 ^ k
theorem Bn.cnt {L : Nat} {es : List Nat} {m : Nat → UInt8} {va : Nat} {q : Nat → List Nat} (b : Bn L es m va q) : ∀ k, k ≤ 5 → cntM m va k = cntQ q k
  | 0, _ => rfl
  | k + 1, h => by unfold cntM cntQ; rw [b.cnt k (by omega), b.many k (by omega)]
theorem cntM_lt (m : Nat → UInt8) (va k : Nat) : cntM m va k ≤ (2 ^ k - 1) * 4294967295 := by
  induction k with
  | zero => simp [cntM]
  | succ k ih =>
    unfold cntM
    have h := (hd_lt m va k).2
    have h2 : hdC m va k * 2 ^ k ≤ 4294967295 * 2 ^ k := Nat.mul_le_mul_right _ (by omega)
    have h3 : 1 ≤ 2 ^ k := Nat.one_le_two_pow
    rw [Nat.pow_succ]
    have h4 : (2 ^ k * 2 - 1) * 4294967295 = (2 ^ k - 1) * 4294967295 + 4294967295 * 2 ^ k := by
      obtain ⟨t, ht⟩ : ∃ t, 2 ^ k = t + 1 := ⟨2 ^ k - 1, by omega⟩
      rw [ht]; omega
    omega
/-- the least bin from an order on that has one -/
def lstM (m : Nat → UInt8) (va : Nat) (o : Int) : Nat → Nat → Option Nat
  | 0, _ => none
  | n + 1, k => if o ≤ (k : Int) ∧ 0 < hdC m va k then some k else lstM m va o n (k + 1)
/-- the bins when i chunks of any orders came, one behind the other, at the pages from 1 on -/
def bq (o : Nat → Nat) : Nat → Nat → List Nat
  | 0 => fun _ => []
  | i + 1 => updQ (bq o i) (o i % 5) ((i + 1) :: bq o i (o i % 5))
theorem bq_mem (o : Nat → Nat) : ∀ {i j p : Nat}, p ∈ bq o i j → 1 ≤ p ∧ p ≤ i
  | 0, _, _, h => by cases h
  | i + 1, j, p, h => by
    unfold bq updQ at h
    split at h
    · rcases List.mem_cons.1 h with rfl | h
      · omega
      · have := bq_mem o h; omega
    · have := bq_mem o h; omega
theorem bq_len (o : Nat → Nat) : ∀ (i j : Nat), (bq o i j).length ≤ i
  | 0, _ => by simp [bq]
  | i + 1, j => by
    unfold bq updQ
    split
    · have := bq_len o i (o i % 5); simp; omega
    · have := bq_len o i j; omega
theorem bq_back (o : Nat → Nat) (i : Nat) : bq o (i + 1) (o i % 5) = (i + 1) :: bq o i (o i % 5) ∧ updQ (bq o (i + 1)) (o i % 5) (bq o i (o i % 5)) = bq o i := by
  refine ⟨by rw [show bq o (i + 1) = updQ (bq o i) (o i % 5) ((i + 1) :: bq o i (o i % 5)) from rfl, updQ_at], ?_⟩
  funext j
  by_cases e : j = o i % 5
  · subst e; rw [updQ_at]
  · rw [updQ_ne _ _ e, show bq o (i + 1) = updQ (bq o i) (o i % 5) ((i + 1) :: bq o i (o i % 5)) from rfl, updQ_ne _ _ e]
end Go.Proofs.Ytoineackmpafdaa.Bt
/- The contracts of a bin's small functions: isBin, place, head. -/
namespace Go.Proofs.Ytoineackmpafdaa.Bt
open Go Go.RowKit Go.Shelf
set_option linter.unusedVariables false
set_option linter.unusedSimpArgs false

theorem isbin_any (k : Int) (w : World) : Calls Try.prog 88 #[.int .i64 k] w fun e w' => e = .returned (.bool (decide (0 ≤ k ∧ k ≤ 4))) ∧ w = w' := by
  by_cases h0 : 0 ≤ k
  · cases h4 : decide (k ≤ 4) with
    | true =>
      have h := of_decide_eq_true h4
      rw [decide_eq_true (show 0 ≤ k ∧ k ≤ 4 from ⟨h0, h⟩)]
      go_enter Try.func88, Try.ntmps88
      go_wp2
      go_ret
      exact ⟨rfl, rfl⟩
    | false =>
      have h := of_decide_eq_false h4
      rw [decide_eq_false (show ¬ (0 ≤ k ∧ k ≤ 4) from fun c => h c.2)]
      go_enter Try.func88, Try.ntmps88
      go_wp2
      go_ret
      exact ⟨rfl, rfl⟩
  · rw [decide_eq_false (show ¬ (0 ≤ k ∧ k ≤ 4) from fun c => h0 c.1)]
    go_enter Try.func88, Try.ntmps88
    go_wp2
    go_ret
    exact ⟨rfl, rfl⟩
/-- a variable of three cells: a pointer, two numbers -/
def B3 (T : TypeId) (B : Nat) (pa : Option Addr) (a z : Int) (x : World) : Prop := x.heap[B]? = some (.cells #[.pointer pa, .int .i64 a, .int .i64 z] T (0, 0))
theorem B3.all {T : TypeId} {B : Nat} {pa : Option Addr} {a z : Int} {x : World} (h : B3 T B pa a z x) :
    (x.cell? ⟨B, 0, none⟩ = some (.pointer pa) ∧ x.cell? ⟨B, 1, none⟩ = some (.int .i64 a) ∧ x.cell? ⟨B, 2, none⟩ = some (.int .i64 z)) ∧ x.frozen? ⟨B, 0, none⟩ = false ∧ x.frozen? ⟨B, 1, none⟩ = false ∧ x.frozen? ⟨B, 2, none⟩ = false :=
  ⟨⟨(cell_blk h 0).1, (cell_blk h 1).1, (cell_blk h 2).1⟩, (cell_blk h 0).2, (cell_blk h 1).2, (cell_blk h 2).2⟩
theorem B3.below {T : TypeId} {B : Nat} {pa : Option Addr} {a z : Int} {x y : World} (h : B3 T B pa a z x) (hb : Below x.heap.size x y) : B3 T B pa a z y := blk_at hb h
theorem B3.new (T : TypeId) (pa : Option Addr) (a z : Int) (x : World) : B3 T x.heap.size pa a z (x.alloc (.cells #[.pointer pa, .int .i64 a, .int .i64 z] T)) := heap_new _ _
theorem B3.went {A : Nat} {s : ASt} {T : TypeId} {B : Nat} {pa : Option Addr} {a z : Int} {x y : World} (h : B3 T B pa a z x) (ho : On A s x) (hg : Went A x y) (h1 : T ≠ 137) (h2 : T ≠ 155) (h3 : T ≠ 157) : B3 T B pa a z y := hg.keep ho h h1 h2 h3
/-- a view's result in a cell -/
theorem b3_set {T : TypeId} {B : Nat} {pa : Option Addr} {a z : Int} {x : World} {b0 : Nat} (h : B3 T B pa a z x) {w : World} (hb : Below b0 w x) (hB : b0 ≤ B) (u v y : Value) :
    let X := (((x.setCell ⟨B, 0, none⟩ u).setCell ⟨B, 1, none⟩ v).setCell ⟨B, 2, none⟩ y)
    X.cell? ⟨B, 0, none⟩ = some u ∧ X.cell? ⟨B, 1, none⟩ = some v ∧ X.cell? ⟨B, 2, none⟩ = some y ∧ Below b0 w X := by
  have h3 := three_set h rfl u v y
  exact ⟨(cell_blk h3 0).1, (cell_blk h3 1).1, (cell_blk h3 2).1, ((hb.setCell (p := ⟨B, 0, none⟩) hB _).setCell (p := ⟨B, 1, none⟩) hB _).setCell (p := ⟨B, 2, none⟩) hB _⟩
section
variable {A : Nat} {s : ASt} {w : World}
theorem addr_at {va vs a n : Nat} (h : a + n ≤ vs) : addrV va vs (a : Int) (n : Int) = ((va + a : Nat) : Int) := by unfold addrV; rw [if_pos (by omega)]; omega
set_option maxHeartbeats 1000000 in
set_option maxRecDepth 100000 in
theorem bplace_in (h : On A s w) (va vs k : Nat) (h1 : va ≤ 4294967296) (h2 : vs ≤ 4294967296) (h40 : 40 ≤ vs) (hk : k < 5) (hv : thereE s.L s.es (va : Int) 40 = 0) :
    Calls Try.prog 148 #[vwV A va vs, .int .i64 (k : Int)] w (Gives (.tuple #[vwV A (va + 8 * k) 8, .int .i64 0]) w) := by
  have HI := Lib.hid (fun w => isbin_any (k : Int) w)
  rw [decide_eq_true (show 0 ≤ (k : Int) ∧ (k : Int) ≤ 4 by omega)] at HI
  have e1 : addrV va vs 0 40 = (va : Int) := by have := addr_at (va := va) (a := 0) (n := 40) (vs := vs) (by omega); simpa using this
  have e2 : addrV va 40 (8 * k : Nat) 8 = ((va + 8 * k : Nat) : Int) := addr_at (va := va) (vs := 40) (a := 8 * k) (n := 8) (by omega)
  have hv2 : thereE s.L s.es ((va + 8 * k : Nat) : Int) 8 = 0 := there_part h.good hv (by omega) (by omega) (by omega)
  have E1 : Hid (ofV (some ⟨A, 0, none⟩) (addrV va vs 0 40) 40 (thereE s.L s.es (addrV va vs 0 40) 40) = vwV A va 40 ∧ thereE s.L s.es (addrV va vs 0 40) 40 = 0) := Lib.hid (by rw [e1, hv]; exact ⟨rfl, rfl⟩)
  have E2 : Hid (ofV (some ⟨A, 0, none⟩) (addrV va 40 (8 * k : Nat) 8) 8 (thereE s.L s.es (addrV va 40 (8 * k : Nat) 8) 8) = vwV A (va + 8 * k) 8 ∧ thereE s.L s.es (addrV va 40 (8 * k : Nat) 8) 8 = 0) := Lib.hid (by rw [e2, hv2]; exact ⟨rfl, rfl⟩)
  obtain ⟨Z, hZ⟩ : ∃ Z : Nat, va + 8 * k = Z := ⟨_, rfl⟩
  rw [hZ] at E2 ⊢
  have q1 : IntKind.i64.wrap ((k : Int) * 8) = ((8 * k : Nat) : Int) := by rw [IntWalk.i64_in _ (by omega)]; omega
  have q2 : wrap64 ((k : Int) * 8) = ((8 * k : Nat) : Int) := by rw [IntWalk.wrap64_in _ ⟨by omega, by omega⟩]; omega
  have HQ := Lib.hid (And.intro q1 q2)
  have HK : Hid (((8 * k : Nat) : Int) ≤ 9223372036854775807) := Lib.hid (by omega)
  have HX := Lib.hid (h.below (below2 w (.cells #[.pointer (some ⟨A, 0, none⟩), .int .i64 (va : Int), .int .i64 (vs : Int)] 26) (.cells #[.pointer none, .int .i64 0, .int .i64 0] 24)))
  have HB := Lib.hid (below2 w (.cells #[.pointer (some ⟨A, 0, none⟩), .int .i64 (va : Int), .int .i64 (vs : Int)] 26) (.cells #[.pointer none, .int .i64 0, .int .i64 0] 24))
  have HP := Lib.hid (pairs_new w #[.pointer (some ⟨A, 0, none⟩), .int .i64 (va : Int), .int .i64 (vs : Int)] #[.pointer none, .int .i64 0, .int .i64 0] 26 24)
  clear h e1 e2 hv hv2 q1 q2 hZ
  go_enter Try.func148, Try.ntmps148
  go_upto_region 1 with fail
  obtain ⟨x, hx⟩ : ∃ x, (w.alloc (.cells #[.pointer (some ⟨A, 0, none⟩), .int .i64 (va : Int), .int .i64 (vs : Int)] 26)).alloc (.cells #[.pointer none, .int .i64 0, .int .i64 0] 24) = x := ⟨_, rfl⟩
  obtain ⟨B, hB⟩ : ∃ B, w.heap.size = B := ⟨_, rfl⟩
  have hBR := Lib.hid (show w.heap.size ≤ B + 1 by omega)
  rw [hx] at HX HB HP
  rw [hB] at HP
  change Code.wp _ _ _ _ ((w.alloc (.cells #[.pointer (some ⟨A, 0, none⟩), .int .i64 (va : Int), .int .i64 (vs : Int)] 26)).alloc (.cells #[.pointer none, .int .i64 0, .int .i64 0] 24))
  try simp only [World.size_alloc]
  rw [hx, hB]
  clear hx hB
  have HP1 : Hid (B3 26 B (some ⟨A, 0, none⟩) va vs x) := Lib.hid HP.out.1
  have HP2 : Hid (B3 24 (B + 1) none 0 0 x) := Lib.hid HP.out.2
  clear HP
  obtain ⟨⟨b0, b1, b2⟩, -, -, -⟩ := HP1.out.all
  go_wp2_with fail
  refine (HI.out _).mono ?_
  rintro e w1 ⟨rfl, rfl⟩
  go_wp2_with fail
  refine (on_part HX.out va vs h1 h2 0 40 (by omega)).mono ?_
  rintro e w2 ⟨rfl, hb⟩
  rw [E1.out.1, E1.out.2]
  clear b0 b1 b2
  have HX2 := Lib.hid (HX.out.below hb)
  have HB2 := Lib.hid (HB.out.trans (hb.mono HB.out.size))
  have HR2 := Lib.hid (HP2.out.below hb)
  clear hb HX HB HP1 HP2
  go_upto_region 4 with fail
  have hv := B3.new 24 (some ⟨A, 0, none⟩) va (40 : Nat) w2
  have hb := bel1 w2 (.cells #[.pointer (some ⟨A, 0, none⟩), .int .i64 (va : Int), .int .i64 ((40 : Nat) : Int)] 24)
  have hxy := HX2.out.below hb
  have hby := HB2.out.trans (hb.mono HB2.out.size)
  have hry := HR2.out.below hb
  obtain ⟨y, hy⟩ : ∃ y, w2.alloc (.cells #[.pointer (some ⟨A, 0, none⟩), .int .i64 (va : Int), .int .i64 ((40 : Nat) : Int)] 24) = y := ⟨_, rfl⟩
  obtain ⟨O, hO⟩ : ∃ O, w2.heap.size = O := ⟨_, rfl⟩
  rw [hy] at hv hxy hby hry
  rw [hO] at hv
  change Code.wp _ _ _ _ (w2.alloc (.cells #[.pointer (some ⟨A, 0, none⟩), .int .i64 (va : Int), .int .i64 ((40 : Nat) : Int)] 24))
  rw [hy, hO]
  have HX3 := Lib.hid hxy; have HB3 := Lib.hid hby; have HR3 := Lib.hid hry
  obtain ⟨⟨v0, v1, v2⟩, -, -, -⟩ := hv.all
  clear hy hO hxy hby hry hb hv HX2 HB2 HR2
  have q1 := HQ.out.1
  have q2 := HQ.out.2
  go_wp2_with fail
  try rw [HQ.out.1]
  try rw [HQ.out.2]
  refine (on_part HX3.out va 40 h1 (by omega) (8 * k : Nat) 8 HK.out).mono ?_
  rintro e w4 ⟨rfl, hb⟩
  rw [E2.out.1, E2.out.2]
  have hr := HR3.out.below hb
  have HB4 := Lib.hid (HB3.out.trans (hb.mono HB3.out.size))
  have HR4 := Lib.hid hr
  obtain ⟨⟨r0, r1, r2⟩, f0, f1, f2⟩ := hr.all
  clear hb hr HX3 HB3 HR3 v0 v1 v2 q1 q2
  go_wp2_with fail
  obtain ⟨g0, g1, g2, hbf⟩ := b3_set HR4.out HB4.out hBR.out (.pointer (some ⟨A, 0, none⟩)) (.int .i64 (Z : Int)) (.int .i64 8)
  exact bodyPost_ret (v := .tuple #[vwV A Z 8, .int .i64 0]) (by simp [results, Try.results148, go_sem, g0, g1, g2]) rfl ⟨rfl, hbf⟩
end
end Go.Proofs.Ytoineackmpafdaa.Bt
/- The contracts of a bin's head: told, laid. (Written by gen_bnb.py.) -/
namespace Go.Proofs.Ytoineackmpafdaa.Bt
open Go Go.RowKit Go.Shelf
set_option linter.unusedVariables false
set_option linter.unusedSimpArgs false
section
variable {A : Nat} {s : ASt} {w : World}
theorem num4 (L : Nat) (es : List Nat) (a : Int) : numE L es a 4 = thereE L es a 4 := rfl
theorem hd_lt32 (h : On A s w) {va : Nat} (hv : thereE s.L s.es (va : Int) 40 = 0) : va + 40 ≤ 4294967296 := by
  have hh := (there_iff h.good (va : Int) 40).1 (by unfold thereE at hv; cases hq : thereB s.L s.es (va : Int) 40 with
    | true => rfl
    | false => rw [hq] at hv; cases hv)
  have := h.good.small
  omega
theorem hd_there (h : On A s w) {va k : Nat} (hk : k < 5) (hv : thereE s.L s.es (va : Int) 40 = 0) : thereE s.L s.es ((va + 8 * k : Nat) : Int) 4 = 0 ∧ thereE s.L s.es ((va + 8 * k + 4 : Nat) : Int) 4 = 0 :=
  ⟨there_part h.good hv (by omega) (by omega) (by omega), there_part h.good hv (by omega) (by omega) (by omega)⟩
theorem ld4 {s : ASt} {a : Nat} (hn : thereE s.L s.es (a : Int) 4 = 0) : ldV s (a : Int) 4 = (numV s.mm a 4 : Int) := by unfold ldV; rw [num4, if_pos hn]; rfl
set_option maxHeartbeats 1000000 in
set_option maxRecDepth 100000 in
theorem bhead_in (h : On A s w) (va vs k : Nat) (h1 : va ≤ 4294967296) (h2 : vs ≤ 4294967296) (h40 : 40 ≤ vs) (hk : k < 5) (hv : thereE s.L s.es (va : Int) 40 = 0) :
    Calls Try.prog 85 #[vwV A va vs, .int .i64 (k : Int)] w (Gives (.tuple #[.int .i64 ((4096 * hdP s.mm va k : Nat) : Int), .int .i64 ((hdC s.mm va k : Nat) : Int)]) w) := by
  have h32 := hd_lt32 h hv
  obtain ⟨t1, t2⟩ := hd_there h hk hv
  have e1 : addrV (va + 8 * k) 8 0 4 = ((va + 8 * k : Nat) : Int) := by have := addr_at (va := va + 8 * k) (a := 0) (n := 4) (vs := 8) (by omega); simpa using this
  have e2 : addrV (va + 8 * k) 8 4 4 = ((va + 8 * k + 4 : Nat) : Int) := addr_at (va := va + 8 * k) (a := 4) (n := 4) (vs := 8) (by omega)
  have L1 : ldV s (addrV (va + 8 * k) 8 0 4) 4 = ((hdP s.mm va k : Nat) : Int) ∧ numE s.L s.es (addrV (va + 8 * k) 8 0 4) 4 = 0 := by rw [e1, ld4 t1, num4]; exact ⟨rfl, t1⟩
  have L2 : ldV s (addrV (va + 8 * k) 8 4 4) 4 = ((hdC s.mm va k : Nat) : Int) ∧ numE s.L s.es (addrV (va + 8 * k) 8 4 4) 4 = 0 := by rw [e2, ld4 t2, num4]; exact ⟨rfl, t2⟩
  have hlt := hd_lt s.mm va k
  generalize hdP s.mm va k = P at *
  generalize hdC s.mm va k = C at *
  have HL1 := Lib.hid L1; have HL2 := Lib.hid L2
  have q1 : IntKind.i64.wrap (P : Int) = (P : Int) := IntWalk.i64_in _ (by omega)
  have q2 : IntKind.i64.wrap ((P : Int) * 4096) = ((4096 * P : Nat) : Int) := by rw [IntWalk.i64_in _ (by omega)]; omega
  have q3 : IntKind.i64.wrap (C : Int) = (C : Int) := IntWalk.i64_in _ (by omega)
  have q4 : wrap64 ((P : Int) * 4096) = ((4096 * P : Nat) : Int) := by rw [IntWalk.wrap64_in _ ⟨by omega, by omega⟩]; omega
  have HQ := Lib.hid (And.intro q1 (And.intro q2 (And.intro q3 q4)))
  have hx := h.below (bel1 w (.cells #[.pointer (some ⟨A, 0, none⟩), .int .i64 (va : Int), .int .i64 (vs : Int)] 26))
  have HPL := Lib.hid (bplace_in hx va vs k h1 h2 h40 hk hv)
  have HX := Lib.hid hx
  have HB := Lib.hid (bel1 w (.cells #[.pointer (some ⟨A, 0, none⟩), .int .i64 (va : Int), .int .i64 (vs : Int)] 26))
  have H8 : Hid (va + 8 * k ≤ 4294967296) := Lib.hid (by omega)
  clear h h32 t1 t2 e1 e2 L1 L2 hlt q1 q2 q3 q4 hx hv
  go_enter Try.func85, Try.ntmps85
  go_wp2_with fail
  refine HPL.out.mono ?_
  rintro e w2 ⟨rfl, hb⟩
  have HX2 := Lib.hid (HX.out.below hb)
  have HB2 := Lib.hid (HB.out.trans (hb.mono HB.out.size))
  clear hb HX HB HPL
  go_upto_region 2 with fail
  have hv := B3.new 24 (some ⟨A, 0, none⟩) ((va + 8 * k : Nat) : Int) (8 : Nat) w2
  have hb := bel1 w2 (.cells #[.pointer (some ⟨A, 0, none⟩), .int .i64 ((va + 8 * k : Nat) : Int), .int .i64 ((8 : Nat) : Int)] 24)
  have hxy := HX2.out.below hb
  have hby := HB2.out.trans (hb.mono HB2.out.size)
  obtain ⟨y, hy⟩ : ∃ y, w2.alloc (.cells #[.pointer (some ⟨A, 0, none⟩), .int .i64 ((va + 8 * k : Nat) : Int), .int .i64 ((8 : Nat) : Int)] 24) = y := ⟨_, rfl⟩
  obtain ⟨O, hO⟩ : ∃ O, w2.heap.size = O := ⟨_, rfl⟩
  rw [hy] at hv hxy hby
  rw [hO] at hv
  change Code.wp _ _ _ _ (w2.alloc (.cells #[.pointer (some ⟨A, 0, none⟩), .int .i64 ((va + 8 * k : Nat) : Int), .int .i64 ((8 : Nat) : Int)] 24))
  rw [hy, hO]
  have HX3 := Lib.hid hxy; have HB3 := Lib.hid hby; have HV3 := Lib.hid hv
  obtain ⟨⟨v0, v1, v2⟩, -, -, -⟩ := hv.all
  clear hy hO hxy hby hb hv HX2 HB2
  go_wp2_with fail
  refine (on_load HX3.out (va + 8 * k) 8 H8.out (by omega) 0 4 (by omega)).mono ?_
  rintro e w4 ⟨rfl, hb⟩
  rw [HL1.out.1, HL1.out.2]
  have HX4 := Lib.hid (HX3.out.below hb)
  have HB4 := Lib.hid (HB3.out.trans (hb.mono HB3.out.size))
  have hv := HV3.out.below hb
  clear hb HX3 HB3 HV3 v0 v1 v2
  obtain ⟨⟨v0, v1, v2⟩, -, -, -⟩ := hv.all
  clear hv
  go_wp2_with fail
  refine (on_load HX4.out (va + 8 * k) 8 H8.out (by omega) 4 4 (by omega)).mono ?_
  rintro e w5 ⟨rfl, hb⟩
  rw [HL2.out.1, HL2.out.2]
  have HB5 := Lib.hid (HB4.out.trans (hb.mono HB4.out.size))
  clear hb HX4 HB4 v0 v1 v2
  obtain ⟨q1, q2, q3, q4⟩ := HQ.out
  go_wp2_with fail
  go_ret2
  first | exact ⟨rfl, HB5.out⟩ | (refine ⟨?_, HB5.out⟩; simp only [q1, q2, q3, q4])
/-- the empty head -/
def hd00 : Value := .tuple #[.int .i64 0, .int .i64 0]
set_option maxHeartbeats 1000000 in
set_option maxRecDepth 100000 in
theorem bhead_gen (pa : Option Addr) (va vs : Nat) (k er : Int) (her : (er != 0) = true)
    (HPL : ∀ X, Below w.heap.size w X → Calls Try.prog 148 #[.agg #[.pointer pa, .int .i64 (va : Int), .int .i64 (vs : Int)], .int .i64 k] X (Gives (.tuple #[.agg #[.pointer none, .int .i64 0, .int .i64 0], .int .i64 er]) X)) :
    Calls Try.prog 85 #[.agg #[.pointer pa, .int .i64 (va : Int), .int .i64 (vs : Int)], .int .i64 k] w (Gives hd00 w) := by
  have HP := Lib.hid (HPL _ (bel1 w (.cells #[.pointer pa, .int .i64 (va : Int), .int .i64 (vs : Int)] 26)))
  have HB := Lib.hid (bel1 w (.cells #[.pointer pa, .int .i64 (va : Int), .int .i64 (vs : Int)] 26))
  clear HPL
  go_enter Try.func85, Try.ntmps85
  go_wp2_with fail
  refine HP.out.mono ?_
  rintro e w2 ⟨rfl, hb⟩
  have HB2 := Lib.hid (HB.out.trans (hb.mono HB.out.size))
  clear hb HB HP
  go_upto_region 2 with fail
  have hb := bel1 w2 (.cells #[.pointer none, .int .i64 0, .int .i64 0] 24)
  have hby := HB2.out.trans (hb.mono HB2.out.size)
  obtain ⟨y, hy⟩ : ∃ y, w2.alloc (.cells #[.pointer none, .int .i64 0, .int .i64 0] 24) = y := ⟨_, rfl⟩
  rw [hy] at hby
  change Code.wp _ _ _ _ (w2.alloc (.cells #[.pointer none, .int .i64 0, .int .i64 0] 24))
  rw [hy]
  have HB3 := Lib.hid hby
  clear hy hby hb HB2
  go_wp2_with fail
  go_ret2
  exact ⟨rfl, HB3.out⟩
set_option maxHeartbeats 1000000 in
set_option maxRecDepth 100000 in
theorem bset_in (h : On A s w) (va vs k : Nat) (h1 : va ≤ 4294967296) (h2 : vs ≤ 4294967296) (h40 : 40 ≤ vs) (hk : k < 5) (hv : thereE s.L s.es (va : Int) 40 = 0) (a x : Int) (c : Nat) (ha : 0 ≤ a) (ha2 : a ≤ 9223372036854775807) (hx : a / 4096 = x) (hc : c < 4294967296) :
    Calls Try.prog 86 #[vwV A va vs, .int .i64 (k : Int), .int .i64 a, .int .i64 (c : Int)] w fun e w' => e = .returned (.tuple #[]) ∧ On A { s with mm := setH s.mm va k x (c : Int) } w' ∧ Went A w w' := by
  have h32 := hd_lt32 h hv
  obtain ⟨t1, t2⟩ := hd_there h hk hv
  have e1 : addrV (va + 8 * k) 8 0 4 = ((va + 8 * k : Nat) : Int) := by have := addr_at (va := va + 8 * k) (a := 0) (n := 4) (vs := 8) (by omega); simpa using this
  have e2 : addrV (va + 8 * k) 8 4 4 = ((va + 8 * k + 4 : Nat) : Int) := addr_at (va := va + 8 * k) (a := 4) (n := 4) (vs := 8) (by omega)
  have S1 : storeS s (addrV (va + 8 * k) 8 0 4) 4 x = { s with mm := putM s.mm (va + 8 * k) (numB x 4) } ∧ numE s.L s.es (addrV (va + 8 * k) 8 0 4) 4 = 0 := by
    rw [e1]; unfold storeS; rw [num4, if_pos t1]; exact ⟨rfl, t1⟩
  have S2 : storeS { s with mm := putM s.mm (va + 8 * k) (numB x 4) } (addrV (va + 8 * k) 8 4 4) 4 (c : Int) = { s with mm := setH s.mm va k x (c : Int) } ∧ numE s.L s.es (addrV (va + 8 * k) 8 4 4) 4 = 0 := by
    rw [e2]; unfold storeS; rw [num4, if_pos t2]; exact ⟨rfl, t2⟩
  have hx0 : 0 ≤ x := by omega
  have hxb : x ≤ 9223372036854775807 := by omega
  have H8 : Hid (va + 8 * k ≤ 4294967296) := Lib.hid (by omega)
  have HX0 := Lib.hid hx0
  have HS1 := Lib.hid S1; have HS2 := Lib.hid S2
  have q0 : a.tdiv 4096 = x := by rw [Int.tdiv_eq_ediv_of_nonneg ha]; exact hx
  have q1 : IntKind.i64.wrap x = x := IntWalk.i64_in _ (by omega)
  have q2 : IntKind.u64.wrap x = x := by rw [IntKind.wrap_u64]; omega
  have q3 : IntKind.u64.wrap (c : Int) = (c : Int) := by rw [IntKind.wrap_u64]; omega
  have q4 : wrap64 x = x := IntWalk.wrap64_in _ ⟨by omega, by omega⟩
  have HQ := Lib.hid (And.intro q0 (And.intro q1 (And.intro q2 (And.intro q3 q4))))
  have hxx := h.below (bel1 w (.cells #[.pointer (some ⟨A, 0, none⟩), .int .i64 (va : Int), .int .i64 (vs : Int)] 26))
  have HPL := Lib.hid (bplace_in hxx va vs k h1 h2 h40 hk hv)
  have HX := Lib.hid hxx
  have HG := Lib.hid (Went.of_below h (bel1 w (.cells #[.pointer (some ⟨A, 0, none⟩), .int .i64 (va : Int), .int .i64 (vs : Int)] 26)))
  clear h h32 t1 t2 e1 e2 S1 S2 q0 q1 q2 q3 q4 hxx hv hx hx0 hxb ha ha2
  go_enter Try.func86, Try.ntmps86
  go_wp2_with fail
  refine HPL.out.mono ?_
  rintro e w2 ⟨rfl, hb⟩
  have HX2 := Lib.hid (HX.out.below hb)
  have HG2 := Lib.hid (HG.out.trans (Went.of_below HX.out hb))
  clear hb HX HG HPL
  go_upto_region 2 with fail
  have hv := B3.new 24 (some ⟨A, 0, none⟩) ((va + 8 * k : Nat) : Int) (8 : Nat) w2
  have hb := bel1 w2 (.cells #[.pointer (some ⟨A, 0, none⟩), .int .i64 ((va + 8 * k : Nat) : Int), .int .i64 ((8 : Nat) : Int)] 24)
  have hxy := HX2.out.below hb
  have hgy := HG2.out.trans (Went.of_below HX2.out hb)
  obtain ⟨y, hy⟩ : ∃ y, w2.alloc (.cells #[.pointer (some ⟨A, 0, none⟩), .int .i64 ((va + 8 * k : Nat) : Int), .int .i64 ((8 : Nat) : Int)] 24) = y := ⟨_, rfl⟩
  obtain ⟨O, hO⟩ : ∃ O, w2.heap.size = O := ⟨_, rfl⟩
  rw [hy] at hv hxy hgy
  rw [hO] at hv
  change Code.wp _ _ _ _ (w2.alloc (.cells #[.pointer (some ⟨A, 0, none⟩), .int .i64 ((va + 8 * k : Nat) : Int), .int .i64 ((8 : Nat) : Int)] 24))
  rw [hy, hO]
  have HX3 := Lib.hid hxy; have HG3 := Lib.hid hgy; have HV3 := Lib.hid hv
  obtain ⟨⟨v0, v1, v2⟩, -, -, -⟩ := hv.all
  clear hy hO hxy hgy hb hv HX2 HG2
  obtain ⟨q0, q1, q2, q3, q4⟩ := HQ.out
  go_wp2_with fail
  try simp only [q1, q4, q2]
  refine (on_store HX3.out (va + 8 * k) 8 H8.out (by omega) 0 4 x (by omega) HX0.out).mono ?_
  rintro e w4 ⟨rfl, hx, hg⟩
  rw [HS1.out.2]
  rw [HS1.out.1] at hx
  have HX4 := Lib.hid hx
  have HG4 := Lib.hid (HG3.out.trans hg)
  have hv := HV3.out.went HX3.out hg (by decide) (by decide) (by decide)
  clear hx hg HX3 HG3 HV3 v0 v1 v2
  obtain ⟨⟨v0, v1, v2⟩, -, -, -⟩ := hv.all
  clear hv
  go_wp2_with fail
  try simp only [q3]
  refine (on_store HX4.out (va + 8 * k) 8 H8.out (by omega) 4 4 (c : Int) (by omega) (by omega)).mono ?_
  rintro e w5 ⟨rfl, hx, hg⟩
  rw [HS2.out.2]
  rw [HS2.out.1] at hx
  have HX5 := Lib.hid hx
  have HG5 := Lib.hid (HG4.out.trans hg)
  clear hx hg HX4 HG4 v0 v1 v2 q0 q1 q2 q3 q4
  go_wp2_with fail
  go_end0
  exact ⟨rfl, HX5.out, HG5.out⟩
end
end Go.Proofs.Ytoineackmpafdaa.Bt
/- The contracts of Push and Pop, where they are done. (Written by gen_bnc.py.) -/
namespace Go.Proofs.Ytoineackmpafdaa.Bt
open Go Go.RowKit Go.Shelf
set_option linter.unusedVariables false
set_option linter.unusedSimpArgs false

theorem Mine.arxR {A P n cap R : Nat} {s : ASt} {ps : List (Option Nat)} {p : Option Addr} {w : World} (h : ArX A s P ps p n cap w) (hm : Mine A R w) (cs : Array Value) : ArX A s P ps p n cap (w.setRow R cs) :=
  h.kept (by rw [setRow_size]; exact Nat.le_refl _) (setRow_other _ _ _ _ fun e => hm.own ((ownW_iff h R).2 (.inl e.symm))) (setRow_other _ _ _ _ fun e => hm.own ((ownW_iff h R).2 (.inr (.inl e.symm)))) (fun i b hb => setRow_other _ _ _ _ fun e => hm.own ((ownW_iff h R).2 (.inr (.inr ⟨i, e ▸ hb⟩))))
    (fun b off e => setRow_other _ _ _ _ fun e2 => hm.edg ((edgW_iff h R).2 ⟨off, e2 ▸ e⟩))
theorem On.row {A R : Nat} {s : ASt} {w : World} (h : On A s w) (hm : Mine A R w) (cs : Array Value) : On A s (w.setRow R cs) := by
  obtain ⟨P, ps, p, n, cap, h⟩ := h; exact ⟨P, ps, p, n, cap, Mine.arxR h hm cs⟩
theorem ownRow_iff {A R : Nat} {s : ASt} {w : World} (h : On A s w) (hm : Mine A R w) (cs : Array Value) (k : Nat) : (OwnW A (w.setRow R cs) k ↔ OwnW A w k) ∧ (EdgW A (w.setRow R cs) k ↔ EdgW A w k) := by
  obtain ⟨P, ps, p, n, cap, h⟩ := h
  have h2 := Mine.arxR h hm cs
  exact ⟨(ownW_iff h2 k).trans (ownW_iff h k).symm, (edgW_iff h2 k).trans (edgW_iff h k).symm⟩
theorem Went.row {A R : Nat} {s : ASt} {w x : World} (k : Went A w x) (h : On A s x) (hm : Mine A R x) (hR : w.heap.size ≤ R) (cs : Array Value) : Went A w (x.setRow R cs) :=
  ⟨k.os, k.tape, k.output, by rw [setRow_size]; exact k.size, fun i hi hn => (setRow_other _ _ _ _ (by omega)).trans (k.block i hi hn), fun i hi => k.news i ((ownRow_iff h hm cs i).1.1 hi), fun i hi => k.edge i ((ownRow_iff h hm cs i).2.1 hi)⟩
/-- the variables of Push and Pop: the bins, the chunk -/
structure PuV (A : Nat) (s : ASt) (w : World) (B Cb va vs : Nat) (a o u x : Int) (W : World) : Prop where
  on : On A s W
  wt : Went A w W
  bb : B3 26 B (some ⟨A, 0, none⟩) va vs W
  cc : CB Cb a o u x W
  mi : Mine A Cb W
  cs : w.heap.size ≤ Cb
  ne : B ≠ Cb
section
variable {A B Cb va vs : Nat} {s s' : ASt} {a o u x : Int} {w W W' : World}
theorem PuV.below (h : PuV A s w B Cb va vs a o u x W) (hb : Below W.heap.size W W') : PuV A s w B Cb va vs a o u x W' :=
  ⟨h.on.below hb, h.wt.trans (Went.of_below h.on hb), h.bb.below hb, blk_at hb h.cc, h.mi.went (Went.of_below h.on hb), h.cs, h.ne⟩
theorem PuV.went (h : PuV A s w B Cb va vs a o u x W) (ho : On A s' W') (hg : Went A W W') : PuV A s' w B Cb va vs a o u x W' :=
  ⟨ho, h.wt.trans hg, h.bb.went h.on hg (by decide) (by decide) (by decide), hg.keep h.on h.cc (by decide) (by decide) (by decide), h.mi.went hg, h.cs, h.ne⟩
theorem PuV.set (h : PuV A s w B Cb va vs a o u x W) (v : Int) : PuV A s w B Cb va vs a o u v (W.setCell ⟨Cb, 3, none⟩ (.int .i64 v)) :=
  ⟨h.on.set h.mi 3 _, h.wt.set h.on h.mi h.cs 3 _, (set_other _ h.ne).trans h.bb, heap_set h.cc _, h.mi.set h.on h.mi 3 _, h.cs, h.ne⟩
theorem PuV.all (h : PuV A s w B Cb va vs a o u x W) :
    (W.cell? ⟨B, 0, none⟩ = some (.pointer (some ⟨A, 0, none⟩)) ∧ W.cell? ⟨B, 1, none⟩ = some (.int .i64 (va : Int)) ∧ W.cell? ⟨B, 2, none⟩ = some (.int .i64 (vs : Int))) ∧
    (W.cell? ⟨Cb, 0, none⟩ = some (.int .i64 a) ∧ W.cell? ⟨Cb, 1, none⟩ = some (.int .i64 o) ∧ W.cell? ⟨Cb, 2, none⟩ = some (.int .u64 u) ∧ W.cell? ⟨Cb, 3, none⟩ = some (.int .i64 x)) ∧ W.frozen? ⟨Cb, 3, none⟩ = false :=
  ⟨h.bb.all.1, h.cc.all, (cell_blk h.cc 3).2⟩
theorem PuV.new (ho : On A s W) (hw : Went A w W) (hb : B3 26 B (some ⟨A, 0, none⟩) va vs W) (hB : B < W.heap.size) (a o u x : Int) : PuV A s w B W.heap.size va vs a o u x (W.alloc (.cells (cC a o u x) 35)) :=
  ⟨ho.below (bel1 _ _), hw.trans (Went.of_below ho (bel1 _ _)), hb.below (bel1 _ _), cb_new _ _ _ _ _, Mine.new ho _, hw.size, by omega⟩
end
theorem rd_is {s : ASt} {p k : Nat} (c : ChAt s.L s.es s.mm p k) : rdV s ((4096 * p : Nat) : Int) = .tuple #[.agg #[.int .i64 ((4096 * p : Nat) : Int), .int .i64 (k : Int), .int .u64 0, .int .i64 (rdX s.mm (4096 * p))], .int .i64 0] := by
  unfold rdV
  rw [if_pos c.there, if_pos c.st, Int.toNat_natCast, c.ord, c.own]; rfl
section
variable {A : Nat} {s : ASt} {w : World}
theorem wr_page (h : On A s w) {p k : Nat} {x : Int} (hk : k < 5) (hx : 0 ≤ x) (hx2 : x ≤ 9223372036854775807) (ht : thereE s.L s.es ((4096 * p : Nat) : Int) 32 = 0) (hp : 4096 * p ≤ 4294967296) :
    Calls Try.prog 24 #[.pointer (some ⟨A, 0, none⟩), cV ((4096 * p : Nat) : Int) (k : Int) 0 x] w (Ret A { s with mm := wrM s.mm (4096 * p) ((4096 * p : Nat) : Int) (k : Int) 0 x } (.int .i64 0) w) := by
  have := write_ok h ((4096 * p : Nat) : Int) (k : Int) 0 x (by omega) (by omega) hx2 (may_page hk hx) ht
  rwa [Int.toNat_natCast] at this
set_option maxHeartbeats 2000000 in
set_option maxRecDepth 100000 in
theorem bpush_ok (h : On A s w) (va vs p k : Nat) (h1 : va ≤ 4294967296) (h2 : vs ≤ 4294967296) (h40 : 40 ≤ vs) (hk : k < 5) (hv : thereE s.L s.es (va : Int) 40 = 0) (c : ChAt s.L s.es s.mm p k) (hC : hdC s.mm va k < 4294967295) (hp : 4096 * p ≤ 4294967296) :
    Calls Try.prog 20 #[vwV A va vs, .int .i64 ((4096 * p : Nat) : Int)] w (Ret A { s with mm := pushM s.mm va k p } (.int .i64 0) w) := by
  have HI := Lib.hid (fun w => isbin_any (k : Int) w)
  rw [decide_eq_true (show 0 ≤ (k : Int) ∧ (k : Int) ≤ 4 by omega)] at HI
  have e1 : addrV va vs 0 40 = (va : Int) := by have := addr_at (va := va) (a := 0) (n := 40) (vs := vs) (by omega); simpa using this
  have E1 : Hid (ofV (some ⟨A, 0, none⟩) (addrV va vs 0 40) 40 (thereE s.L s.es (addrV va vs 0 40) 40) = vwV A va 40 ∧ thereE s.L s.es (addrV va vs 0 40) 40 = 0) := Lib.hid (by rw [e1, hv]; exact ⟨rfl, rfl⟩)
  have HRD := Lib.hid (rd_is c)
  obtain ⟨X, hX⟩ : ∃ X, rdX s.mm (4096 * p) = X := ⟨_, rfl⟩
  rw [hX] at HRD
  have HH := Lib.hid (fun (y : World) (hy : On A s y) => bhead_in hy va vs k h1 h2 h40 hk hv)
  have hP := (hd_lt s.mm va k).1
  have HW := Lib.hid (fun (y : World) (hy : On A s y) => wr_page hy (x := ((4096 * hdP s.mm va k : Nat) : Int)) hk (by omega) (by omega) c.there hp)
  have HS := Lib.hid (fun (y : World) (hy : On A { s with mm := wrM s.mm (4096 * p) ((4096 * p : Nat) : Int) (k : Int) 0 ((4096 * hdP s.mm va k : Nat) : Int) } y) => bset_in hy va vs k h1 h2 h40 hk hv ((4096 * p : Nat) : Int) (p : Int) (hdC s.mm va k + 1) (by omega) (by omega) (by omega) (by omega))
  have ep : pushM s.mm va k p = setH (wrM s.mm (4096 * p) ((4096 * p : Nat) : Int) (k : Int) 0 ((4096 * hdP s.mm va k : Nat) : Int)) va k (p : Int) ((hdC s.mm va k + 1 : Nat) : Int) := rfl
  rw [ep]
  generalize hdP s.mm va k = Q at *
  generalize hdC s.mm va k = Cn at *
  obtain ⟨N, hN⟩ : ∃ N : Nat, 4096 * Q = N := ⟨_, rfl⟩
  rw [hN] at HH HW HS ⊢
  obtain ⟨a, ha⟩ : ∃ a : Int, ((4096 * p : Nat) : Int) = a := ⟨_, rfl⟩
  rw [ha] at HRD HW HS ⊢
  obtain ⟨m1, hm1⟩ : ∃ m1, wrM s.mm (4096 * p) a (k : Int) 0 (N : Int) = m1 := ⟨_, rfl⟩
  rw [hm1] at HW HS ⊢
  have q1 : IntKind.i64.wrap ((Cn : Int) + 1) = ((Cn + 1 : Nat) : Int) := by rw [IntWalk.i64_in _ (by omega)]; omega
  have q2 : wrap64 ((Cn : Int) + 1) = ((Cn + 1 : Nat) : Int) := by rw [IntWalk.wrap64_in _ ⟨by omega, by omega⟩]; omega
  have HQ := Lib.hid (And.intro q1 q2)
  have HA : Hid (a ≤ 9223372036854775807) := Lib.hid (by omega)
  have hx := h.below (bel1 w (.cells #[.pointer (some ⟨A, 0, none⟩), .int .i64 (va : Int), .int .i64 (vs : Int)] 26))
  have hg := Went.of_below h (bel1 w (.cells #[.pointer (some ⟨A, 0, none⟩), .int .i64 (va : Int), .int .i64 (vs : Int)] 26))
  have hb := B3.new 26 (some ⟨A, 0, none⟩) va vs w
  clear h e1 hv c hC hP hX ep hN hm1 q1 q2
  go_enter Try.func20, Try.ntmps20
  go_upto_region 1 with fail
  obtain ⟨x, hxx⟩ : ∃ x, w.alloc (.cells #[.pointer (some ⟨A, 0, none⟩), .int .i64 (va : Int), .int .i64 (vs : Int)] 26) = x := ⟨_, rfl⟩
  obtain ⟨B, hB⟩ : ∃ B, w.heap.size = B := ⟨_, rfl⟩
  rw [hxx] at hx hg hb
  rw [hB] at hb
  change Code.wp _ _ _ _ (w.alloc (.cells #[.pointer (some ⟨A, 0, none⟩), .int .i64 (va : Int), .int .i64 (vs : Int)] 26))
  rw [hxx, hB]
  clear hxx hB
  have HX := Lib.hid hx; have HG := Lib.hid hg; have HBB := Lib.hid hb
  obtain ⟨⟨b0, b1, b2⟩, -, -, -⟩ := hb.all
  clear hx hg hb ha hp
  go_wp2_with fail
  refine (on_part HX.out va vs h1 h2 0 40 (by omega)).mono ?_
  rintro e w2 ⟨rfl, hb⟩
  rw [E1.out.1, E1.out.2]
  have HX2 := Lib.hid (HX.out.below hb); have HG2 := Lib.hid (HG.out.trans (Went.of_below HX.out hb)); have HBB2 := Lib.hid (HBB.out.below hb)
  clear hb HX HG HBB b0 b1 b2
  go_upto_region 2 with fail
  have hb := bel1 w2 (.cells #[.pointer (some ⟨A, 0, none⟩), .int .i64 (va : Int), .int .i64 ((40 : Nat) : Int)] 24)
  have hx := HX2.out.below hb
  have hg := HG2.out.trans (Went.of_below HX2.out hb)
  have hbb := HBB2.out.below hb
  obtain ⟨y, hy⟩ : ∃ y, w2.alloc (.cells #[.pointer (some ⟨A, 0, none⟩), .int .i64 (va : Int), .int .i64 ((40 : Nat) : Int)] 24) = y := ⟨_, rfl⟩
  rw [hy] at hx hg hbb
  change Code.wp _ _ _ _ (w2.alloc (.cells #[.pointer (some ⟨A, 0, none⟩), .int .i64 (va : Int), .int .i64 ((40 : Nat) : Int)] 24))
  rw [hy]
  have HX := Lib.hid hx; have HG := Lib.hid hg; have HBB := Lib.hid hbb
  obtain ⟨⟨b0, b1, b2⟩, -, -, -⟩ := hbb.all
  clear hx hg hbb hb hy HX2 HG2 HBB2
  go_wp2_with fail
  refine (read_any HX.out a HA.out).mono ?_
  rintro e w4 ⟨rfl, hb⟩
  rw [HRD.out]
  have HX4 := Lib.hid (HX.out.below hb); have HG4 := Lib.hid (HG.out.trans (Went.of_below HX.out hb)); have HBB4 := Lib.hid (HBB.out.below hb)
  clear hb HX HG HBB b0 b1 b2
  go_upto_region 5 with fail
  have hpv := PuV.new HX4.out HG4.out HBB4.out (Array.getElem?_eq_some_iff.1 HBB4.out).1 a (k : Int) 0 X
  obtain ⟨z, hz⟩ : ∃ z, w4.alloc (.cells (cC a (k : Int) 0 X) 35) = z := ⟨_, rfl⟩
  obtain ⟨Cb, hCb⟩ : ∃ Cb, w4.heap.size = Cb := ⟨_, rfl⟩
  rw [hz, hCb] at hpv
  change Code.wp _ _ _ _ (w4.alloc (.cells (cC a (k : Int) 0 X) 35))
  rw [hz, hCb]
  have HP := Lib.hid hpv
  obtain ⟨⟨b0, b1, b2⟩, ⟨c0, c1, c2, c3⟩, f3⟩ := hpv.all
  clear hpv hz hCb HX4 HG4 HBB4
  go_wp2_with fail
  refine (HI.out _).mono ?_
  rintro e w5 ⟨rfl, rfl⟩
  go_wp2_with fail
  refine (HH.out _ HP.out.on).mono ?_
  rintro e w6 ⟨rfl, hb⟩
  have hpv := HP.out.below hb
  have HP6 := Lib.hid hpv
  clear b0 b1 b2 c0 c1 c2 c3 f3 hb HP
  obtain ⟨⟨b0, b1, b2⟩, ⟨c0, c1, c2, c3⟩, f3⟩ := hpv.all
  clear hpv
  go_upto_region 13 with fail
  have hpv := HP6.out.set (N : Int)
  obtain ⟨v, hv⟩ : ∃ v, w6.setCell ⟨Cb, 3, none⟩ (.int .i64 (N : Int)) = v := ⟨_, rfl⟩
  rw [hv] at hpv
  change Code.wp _ _ _ _ (w6.setCell ⟨Cb, 3, none⟩ (.int .i64 (N : Int)))
  rw [hv]
  have HP7 := Lib.hid hpv
  clear b0 b1 b2 c0 c1 c2 c3 f3 hv HP6
  obtain ⟨⟨b0, b1, b2⟩, ⟨c0, c1, c2, c3⟩, f3⟩ := hpv.all
  clear hpv
  go_wp2_with fail
  refine (HW.out _ HP7.out.on).mono ?_
  rintro e w8 ⟨rfl, hx, hg⟩
  have hpv := HP7.out.went hx hg
  have HP8 := Lib.hid hpv
  clear b0 b1 b2 c0 c1 c2 c3 f3 hx hg HP7
  obtain ⟨⟨b0, b1, b2⟩, ⟨c0, c1, c2, c3⟩, f3⟩ := hpv.all
  clear hpv
  have q1 := HQ.out.1
  have q2 := HQ.out.2
  go_wp2_with fail
  try simp only [HQ.out.1]
  refine (HS.out _ HP8.out.on).mono ?_
  rintro e w9 ⟨rfl, hx, hg⟩
  have HF := Lib.hid (And.intro hx (HP8.out.wt.trans hg))
  clear b0 b1 b2 c0 c1 c2 c3 f3 hx hg HP8 q1 q2
  go_wp2_with fail
  go_ret
  exact ⟨rfl, HF.out.1, HF.out.2⟩
set_option maxHeartbeats 2000000 in
set_option maxRecDepth 100000 in
theorem bpop_ok (h : On A s w) (va vs p k : Nat) (h1 : va ≤ 4294967296) (h2 : vs ≤ 4294967296) (h40 : 40 ≤ vs) (hk : k < 5) (hv : thereE s.L s.es (va : Int) 40 = 0) (c : ChAt s.L s.es s.mm p k) (hC : hdC s.mm va k ≠ 0) (hP : hdP s.mm va k = p) (hp : 4096 * p ≤ 4294967296) :
    Calls Try.prog 17 #[vwV A va vs, .int .i64 (k : Int)] w (Ret A { s with mm := popM s.mm va k p } (.tuple #[cV ((4096 * p : Nat) : Int) (k : Int) 0 0, .bool true]) w) := by
  have HH := Lib.hid (fun (y : World) (hy : On A s y) => bhead_in hy va vs k h1 h2 h40 hk hv)
  rw [hP] at HH
  have HRD := Lib.hid (rd_is c)
  have hX0 : 0 ≤ rdX s.mm (4096 * p) := by have := st_next c.st; rwa [Int.toNat_natCast] at this
  have hX1 : rdX s.mm (4096 * p) ≤ 9223372036854775807 := by unfold rdX wrap64; omega
  have hCl := (hd_lt s.mm va k).2
  have HW := Lib.hid (fun (y : World) (hy : On A s y) => wr_page hy (x := 0) hk (by omega) (by omega) c.there hp)
  have HS := Lib.hid (fun (y : World) (hy : On A { s with mm := wrM s.mm (4096 * p) ((4096 * p : Nat) : Int) (k : Int) 0 0 } y) => bset_in hy va vs k h1 h2 h40 hk hv (rdX s.mm (4096 * p)) (rdX s.mm (4096 * p) / 4096) (hdC s.mm va k - 1) hX0 hX1 rfl (by omega))
  have ep : popM s.mm va k p = setH (wrM s.mm (4096 * p) ((4096 * p : Nat) : Int) (k : Int) 0 0) va k (rdX s.mm (4096 * p) / 4096) ((hdC s.mm va k - 1 : Nat) : Int) := rfl
  rw [ep]
  generalize hdC s.mm va k = Cn at *
  obtain ⟨X, hX⟩ : ∃ X, rdX s.mm (4096 * p) = X := ⟨_, rfl⟩
  rw [hX] at HRD HS ⊢
  obtain ⟨a, ha⟩ : ∃ a : Int, ((4096 * p : Nat) : Int) = a := ⟨_, rfl⟩
  rw [ha] at HH HRD HW HS ⊢
  obtain ⟨m1, hm1⟩ : ∃ m1, wrM s.mm (4096 * p) a (k : Int) 0 0 = m1 := ⟨_, rfl⟩
  rw [hm1] at HW HS ⊢
  have q1 : IntKind.i64.wrap ((Cn : Int) - 1) = ((Cn - 1 : Nat) : Int) := by rw [IntWalk.i64_in _ (by omega)]; omega
  have q2 : wrap64 ((Cn : Int) - 1) = ((Cn - 1 : Nat) : Int) := by rw [IntWalk.wrap64_in _ ⟨by omega, by omega⟩]; omega
  have HQ := Lib.hid (And.intro q1 q2)
  have d0 : ((Cn : Int) == 0) = false := by simpa using hC
  have HD : Hid (decide ((Cn : Int) = 0) = false) := Lib.hid (by simpa using hC)
  have HA : Hid (a ≤ 9223372036854775807) := Lib.hid (by omega)
  have hx := h.below (below2 w (.cells #[.pointer (some ⟨A, 0, none⟩), .int .i64 (va : Int), .int .i64 (vs : Int)] 26) (.cells (cC 0 0 0 0) 35))
  have hg := Went.of_below h (below2 w (.cells #[.pointer (some ⟨A, 0, none⟩), .int .i64 (va : Int), .int .i64 (vs : Int)] 26) (.cells (cC 0 0 0 0) 35))
  have hmi : Mine A (w.heap.size + 1) ((w.alloc (.cells #[.pointer (some ⟨A, 0, none⟩), .int .i64 (va : Int), .int .i64 (vs : Int)] 26)).alloc (.cells (cC 0 0 0 0) 35)) := by
    have := Mine.new (h.below (bel1 w (.cells #[.pointer (some ⟨A, 0, none⟩), .int .i64 (va : Int), .int .i64 (vs : Int)] 26))) (.cells (cC 0 0 0 0) 35)
    simpa only [World.size_alloc] using this
  have hpr := pairs_new w #[.pointer (some ⟨A, 0, none⟩), .int .i64 (va : Int), .int .i64 (vs : Int)] (cC 0 0 0 0) 26 35
  have HSZ : Hid (∀ a o u x, (Try.prog.info? 35).map (·.size) = some (cC a o u x).size) := Lib.hid (fun a o u x => Try.infoChk)
  clear h hv c hC hP hX ep hm1 q1 q2 hX0 hX1 hCl
  go_enter Try.func17, Try.ntmps17
  go_upto_region 1 with fail
  obtain ⟨x, hxx⟩ : ∃ x, (w.alloc (.cells #[.pointer (some ⟨A, 0, none⟩), .int .i64 (va : Int), .int .i64 (vs : Int)] 26)).alloc (.cells (cC 0 0 0 0) 35) = x := ⟨_, rfl⟩
  obtain ⟨B, hB⟩ : ∃ B, w.heap.size = B := ⟨_, rfl⟩
  have hBR := Lib.hid (show w.heap.size ≤ B + 1 by omega)
  rw [hxx] at hx hg hpr hmi
  rw [hB] at hpr hmi
  change Code.wp _ _ _ _ ((w.alloc (.cells #[.pointer (some ⟨A, 0, none⟩), .int .i64 (va : Int), .int .i64 (vs : Int)] 26)).alloc (.cells (cC 0 0 0 0) 35))
  try simp only [World.size_alloc]
  rw [hxx, hB]
  clear hxx hB
  have hb : B3 26 B (some ⟨A, 0, none⟩) va vs x := hpr.1
  have hr : CB (B + 1) 0 0 0 0 x := hpr.2
  have hmr : Mine A (B + 1) x := hmi
  have HX := Lib.hid hx; have HG := Lib.hid hg; have HBB := Lib.hid hb; have HR := Lib.hid hr; have HMR := Lib.hid hmr
  obtain ⟨⟨b0, b1, b2⟩, -, -, -⟩ := hb.all
  clear hx hg hb ha hp hpr hr hmr hmi
  go_wp2_with fail
  refine (HH.out _ HX.out).mono ?_
  rintro e w2 ⟨rfl, hb⟩
  have HX2 := Lib.hid (HX.out.below hb); have HG2 := Lib.hid (HG.out.trans (Went.of_below HX.out hb)); have HBB2 := Lib.hid (HBB.out.below hb)
  have HR2 := Lib.hid (show CB (B + 1) 0 0 0 0 w2 from blk_at hb HR.out)
  have HM2 := Lib.hid (HMR.out.went (Went.of_below HX.out hb))
  have hbb := HBB2.out
  clear hb HX HG HBB HR b0 b1 b2
  obtain ⟨⟨b0, b1, b2⟩, -, -, -⟩ := hbb.all
  clear hbb
  have hd := HD.out
  go_wp2_with fail
  refine (read_any HX2.out a HA.out).mono ?_
  rintro e w4 ⟨rfl, hb⟩
  rw [HRD.out]
  have HX4 := Lib.hid (HX2.out.below hb); have HG4 := Lib.hid (HG2.out.trans (Went.of_below HX2.out hb)); have HBB4 := Lib.hid (HBB2.out.below hb)
  have HR4 := Lib.hid (show CB (B + 1) 0 0 0 0 w4 from blk_at hb HR2.out)
  have HM4 := Lib.hid (HM2.out.went (Went.of_below HX2.out hb))
  clear hb HX2 HG2 HBB2 HR2 b0 b1 b2 hd d0
  go_upto_region 5 with fail
  have hpv := PuV.new HX4.out HG4.out HBB4.out (Array.getElem?_eq_some_iff.1 HBB4.out).1 a (k : Int) 0 X
  have hr := (show CB (B + 1) 0 0 0 0 (w4.alloc (.cells (cC a (k : Int) 0 X) 35)) from blk_at (bel1 _ _) HR4.out)
  have hm5 := HM4.out.went (Went.of_below HX4.out (bel1 w4 (.cells (cC a (k : Int) 0 X) 35)))
  have hne : B + 1 ≠ w4.heap.size := by have := (Array.getElem?_eq_some_iff.1 HR4.out).1; omega
  obtain ⟨z, hz⟩ : ∃ z, w4.alloc (.cells (cC a (k : Int) 0 X) 35) = z := ⟨_, rfl⟩
  obtain ⟨Cb, hCb⟩ : ∃ Cb, w4.heap.size = Cb := ⟨_, rfl⟩
  rw [hz, hCb] at hpv
  rw [hz] at hr hm5
  rw [hCb] at hne
  change Code.wp _ _ _ _ (w4.alloc (.cells (cC a (k : Int) 0 X) 35))
  rw [hz, hCb]
  have HP := Lib.hid hpv; have HR5 := Lib.hid hr; have HNE := Lib.hid hne; have HM5 := Lib.hid hm5
  obtain ⟨⟨b0, b1, b2⟩, ⟨c0, c1, c2, c3⟩, f3⟩ := hpv.all
  clear hpv hz hCb HX4 HG4 HBB4 HR4 hr hne hm5
  go_upto_region 9 with fail
  have hpv := HP.out.set 0
  have hm6 := Mine.set HP.out.on HP.out.mi HM5.out 3 (.int .i64 0)
  have hr : CB (B + 1) 0 0 0 0 (z.setCell ⟨Cb, 3, none⟩ (.int .i64 0)) := (set_other _ HNE.out).trans HR5.out
  obtain ⟨v, hv⟩ : ∃ v, z.setCell ⟨Cb, 3, none⟩ (.int .i64 0) = v := ⟨_, rfl⟩
  rw [hv] at hpv hr hm6
  have HM6 := Lib.hid hm6
  clear hm6
  change Code.wp _ _ _ _ (z.setCell ⟨Cb, 3, none⟩ (.int .i64 0))
  rw [hv]
  have HP7 := Lib.hid hpv; have HR7 := Lib.hid hr
  clear b0 b1 b2 c0 c1 c2 c3 f3 hv HP HR5 hr
  obtain ⟨⟨b0, b1, b2⟩, ⟨c0, c1, c2, c3⟩, f3⟩ := hpv.all
  clear hpv
  go_wp2_with fail
  refine (HW.out _ HP7.out.on).mono ?_
  rintro e w8 ⟨rfl, hx, hg⟩
  have hpv := HP7.out.went hx hg
  have HP8 := Lib.hid hpv
  have HM8 := Lib.hid (HM6.out.went hg)
  have HR8 := Lib.hid (show CB (B + 1) 0 0 0 0 w8 from hg.keep HP7.out.on HR7.out (by decide) (by decide) (by decide))
  clear b0 b1 b2 c0 c1 c2 c3 f3 hx hg HP7 HR7
  obtain ⟨⟨b0, b1, b2⟩, ⟨c0, c1, c2, c3⟩, f3⟩ := hpv.all
  clear hpv
  have q1 := HQ.out.1
  have q2 := HQ.out.2
  go_wp2_with fail
  try simp only [HQ.out.1]
  refine (HS.out _ HP8.out.on).mono ?_
  rintro e w9 ⟨rfl, hx, hg⟩
  have hpv := HP8.out.went hx hg
  have HP9 := Lib.hid hpv
  have HM9 := Lib.hid (HM8.out.went hg)
  have HR9 := Lib.hid (show CB (B + 1) 0 0 0 0 w9 from hg.keep HP8.out.on HR8.out (by decide) (by decide) (by decide))
  clear b0 b1 b2 c0 c1 c2 c3 f3 hx hg HP8 HR8 q1 q2
  obtain ⟨⟨b0, b1, b2⟩, ⟨c0, c1, c2, c3⟩, f3⟩ := hpv.all
  clear hpv
  have hrow := HR9.out
  go_wp2_with (first | (refine wpList_store_row rfl 35 (.tmp 4) (.tmp 49) rfl (B + 1) (cC a (k : Int) 0 0) rfl rfl 35 (cC 0 0 0 0) HR9.out (HSZ.out _ _ _ _) rfl (cC_one _ _ _ _) ?_))
  have hl := run_loadVar_row (P := Try.prog) (w9.setRow (B + 1) (cC a (k : Int) 0 0)) (B + 1) 35 35 (cC a (k : Int) 0 0) (0, 0) _ (setRow_ad HR9.out _) Try.underlying35 rfl (HSZ.out _ _ _ _)
  exact bodyPost_ret (v := .tuple #[cV a (k : Int) 0 0, .bool true]) (by simp [results, Try.results17, asAddr, hl, Act.put]; rfl) rfl ⟨rfl, HP9.out.on.row HM9.out _, HP9.out.wt.row HP9.out.on HM9.out hBR.out _⟩
end
end Go.Proofs.Ytoineackmpafdaa.Bt
/- The contracts of a bin's Least, Count, and of All where there is none. (Written by gen_bnd.py.) -/
namespace Go.Proofs.Ytoineackmpafdaa.Bt
open Go Go.RowKit Go.Shelf
set_option linter.unusedVariables false
set_option linter.unusedSimpArgs false

def lsP (C : Nat → Nat) (o : Int) (k : Nat) : Bool := decide (o ≤ (k : Int)) && decide (0 < C k)
def lsV (C : Nat → Nat) (o : Int) : Value := match (List.range 5).find? (lsP C o) with
  | some k => .tuple #[.int .i64 (k : Int), .bool true]
  | none => .tuple #[.int .i64 0, .bool false]
theorem lsV_at {C : Nat → Nat} {o : Int} {i : Nat} (hi : i < 5) (h : lsP C o i = true) (hj : ∀ j, j < i → lsP C o j = false) : lsV C o = .tuple #[.int .i64 (i : Int), .bool true] := by
  have : (List.range 5).find? (lsP C o) = some i := List.find?_range_eq_some.2 ⟨h, List.mem_range.2 hi, fun j hj' => by rw [hj j hj']; rfl⟩
  unfold lsV; rw [this]
theorem lsV_none {C : Nat → Nat} {o : Int} (hj : ∀ j, j < 5 → lsP C o j = false) : lsV C o = .tuple #[.int .i64 0, .bool false] := by
  have : (List.range 5).find? (lsP C o) = none := List.find?_range_eq_none.2 fun j hj' => by rw [hj j hj']; rfl
  unfold lsV; rw [this]
theorem nall_succ {C : Nat → Nat} {o : Int} {i : Nat} (h : lsP C o i = false) (k : ∀ j, j < i → lsP C o j = false) : ∀ j, j < i + 1 → lsP C o j = false := fun j hj => by
  by_cases e : j = i
  · rw [e]; exact h
  · exact k j (by omega)
def cntF (C : Nat → Nat) : Nat → Nat
  | 0 => 0
  | k + 1 => cntF C k + C k * 2 ^ k
theorem cntF_lt {C : Nat → Nat} (h : ∀ k, C k < 4294967296) : ∀ k, k ≤ 5 → cntF C k ≤ k * 68719476736
  | 0, _ => by simp [cntF]
  | k + 1, hk => by
    unfold cntF
    have h1 := cntF_lt h k (by omega)
    have h2 := h k
    have h3 : 2 ^ k ≤ 2 ^ 4 := Nat.pow_le_pow_right (by omega) (by omega)
    have h4 : C k * 2 ^ k ≤ 4294967296 * 2 ^ 4 := Nat.mul_le_mul (by omega) h3
    omega
def LstR (C : Nat → Nat) (o : Int) (B : Nat) (pa : Option Addr) (va vs : Nat) (w : World) (s9 : Value) (wr : World) : Prop :=
  ∃ i : Nat, i ≤ 5 ∧ s9 = .int .i64 (i : Int) ∧ (∀ j, j < i → lsP C o j = false) ∧ Below w.heap.size w wr ∧ B3 26 B pa va vs wr
def CntR (C : Nat → Nat) (B : Nat) (pa : Option Addr) (va vs : Nat) (w : World) (s7 s3 : Value) (wr : World) : Prop :=
  ∃ i : Nat, i ≤ 5 ∧ s7 = .int .i64 (i : Int) ∧ s3 = .int .i64 ((cntF C i : Nat) : Int) ∧ Below w.heap.size w wr ∧ B3 26 B pa va vs wr
section
variable {w : World}
set_option maxHeartbeats 2000000 in
set_option maxRecDepth 100000 in
theorem bleast_gen (pa : Option Addr) (va vs : Nat) (N C : Nat → Nat) (o : Int)
    (HH : ∀ (X : World) (k : Nat), Below w.heap.size w X → k < 5 → Calls Try.prog 85 #[.agg #[.pointer pa, .int .i64 (va : Int), .int .i64 (vs : Int)], .int .i64 (k : Int)] X (Gives (.tuple #[.int .i64 ((N k : Nat) : Int), .int .i64 ((C k : Nat) : Int)]) X)) :
    Calls Try.prog 18 #[.agg #[.pointer pa, .int .i64 (va : Int), .int .i64 (vs : Int)], .int .i64 o] w (Gives (lsV C o) w) := by
  have HHH := Lib.hid HH
  have hb := bel1 w (.cells #[.pointer pa, .int .i64 (va : Int), .int .i64 (vs : Int)] 26)
  have hv := B3.new 26 pa va vs w
  clear HH
  go_enter Try.func18, Try.ntmps18
  go_upto_region 1 with fail
  obtain ⟨x, hxx⟩ : ∃ x, w.alloc (.cells #[.pointer pa, .int .i64 (va : Int), .int .i64 (vs : Int)] 26) = x := ⟨_, rfl⟩
  obtain ⟨B, hB⟩ : ∃ B, w.heap.size = B := ⟨_, rfl⟩
  rw [hxx] at hb hv
  rw [hB] at hv
  change Code.wp _ _ _ _ (w.alloc (.cells #[.pointer pa, .int .i64 (va : Int), .int .i64 (vs : Int)] 26))
  rw [hxx, hB]
  have HST : Hid (LstR C o B pa va vs w (.int .i64 0) x) := Lib.hid ⟨0, by omega, rfl, fun j hj => by omega, hb, hv⟩
  clear hxx hB hb hv
  go_wp2_with fail
  go_loopw [9] (fun s9 wr => LstR C o B pa va vs w s9 wr) (fun s9 _ => 5 - (intOf s9).toNat)
  case atStart => exact HST.out
  case round =>
    obtain ⟨i, hi, rfl, hall, hbel, hvar⟩ := hrel
    have HALL := Lib.hid hall; have HB := Lib.hid hbel; have HV := Lib.hid hvar
    clear hall hbel
    by_cases h5 : i < 5
    · obtain ⟨⟨b0, b1, b2⟩, -, -, -⟩ := hvar.all
      clear hvar
      have HC := Lib.hid (HHH.out wr i HB.out h5)
      obtain ⟨n, hn⟩ : ∃ n, N i = n := ⟨_, rfl⟩
      obtain ⟨c, hc⟩ : ∃ c, C i = c := ⟨_, rfl⟩
      rw [hn, hc] at HC
      have HCI := Lib.hid hc
      clear hn hc
      cases h1 : decide (o ≤ (i : Int)) with
      | true =>
        have h1' := of_decide_eq_true h1
        cases h2 : decide (0 < c) with
        | true =>
          have hp : lsP C o i = true := by unfold lsP; rw [HCI.out, h1, h2]; rfl
          have HRES := Lib.hid (lsV_at h5 hp HALL.out)
          clear hp
          go_wp2_with fail
          refine HC.out.mono ?_
          rintro e w2 ⟨rfl, hb⟩
          have HB2 := Lib.hid (HB.out.trans (hb.mono HB.out.size))
          clear hb b0 b1 b2
          go_wp2_with fail
          go_ret2
          exact ⟨by rw [HRES.out]; rfl, HB2.out⟩
        | false =>
          have hp : lsP C o i = false := by unfold lsP; rw [HCI.out, h2]; simp
          have HNP := Lib.hid hp
          clear hp
          go_wp2_with fail
          refine HC.out.mono ?_
          rintro e w2 ⟨rfl, hb⟩
          have HB2 := Lib.hid (HB.out.trans (hb.mono HB.out.size))
          have HV2 := Lib.hid (HV.out.below hb)
          clear hb b0 b1 b2
          go_wp2_with fail
          go_roundw
          case rel => exact ⟨i + 1, by omega, by go_num, nall_succ HNP.out HALL.out, HB2.out, HV2.out⟩
          case measure => simp [intOf]; omega
      | false =>
        have hp : lsP C o i = false := by unfold lsP; rw [h1]; simp
        have HNP := Lib.hid hp
        clear hp
        go_wp2_with fail
        refine HC.out.mono ?_
        rintro e w2 ⟨rfl, hb⟩
        have HB2 := Lib.hid (HB.out.trans (hb.mono HB.out.size))
        have HV2 := Lib.hid (HV.out.below hb)
        clear hb b0 b1 b2
        go_wp2_with fail
        go_roundw
        case rel => exact ⟨i + 1, by omega, by go_num, nall_succ HNP.out HALL.out, HB2.out, HV2.out⟩
        case measure => simp [intOf]; omega
    · have e5 : i = 5 := by omega
      subst e5
      have HRES := Lib.hid (lsV_none HALL.out)
      clear hvar h5 hi
      go_wp2_with fail
      go_ret2
      exact ⟨by rw [HRES.out]; rfl, HB.out⟩
set_option maxHeartbeats 2000000 in
set_option maxRecDepth 100000 in
theorem bcount_gen (pa : Option Addr) (va vs : Nat) (N C : Nat → Nat) (hC : ∀ k, C k < 4294967296)
    (HH : ∀ (X : World) (k : Nat), Below w.heap.size w X → k < 5 → Calls Try.prog 85 #[.agg #[.pointer pa, .int .i64 (va : Int), .int .i64 (vs : Int)], .int .i64 (k : Int)] X (Gives (.tuple #[.int .i64 ((N k : Nat) : Int), .int .i64 ((C k : Nat) : Int)]) X)) :
    Calls Try.prog 22 #[.agg #[.pointer pa, .int .i64 (va : Int), .int .i64 (vs : Int)]] w (Gives (.int .i64 ((cntF C 5 : Nat) : Int)) w) := by
  have HHH := Lib.hid HH
  have HLT := Lib.hid hC
  have hb := bel1 w (.cells #[.pointer pa, .int .i64 (va : Int), .int .i64 (vs : Int)] 26)
  have hv := B3.new 26 pa va vs w
  clear HH hC
  go_enter Try.func22, Try.ntmps22
  go_upto_region 1 with fail
  obtain ⟨x, hxx⟩ : ∃ x, w.alloc (.cells #[.pointer pa, .int .i64 (va : Int), .int .i64 (vs : Int)] 26) = x := ⟨_, rfl⟩
  obtain ⟨B, hB⟩ : ∃ B, w.heap.size = B := ⟨_, rfl⟩
  rw [hxx] at hb hv
  rw [hB] at hv
  change Code.wp _ _ _ _ (w.alloc (.cells #[.pointer pa, .int .i64 (va : Int), .int .i64 (vs : Int)] 26))
  rw [hxx, hB]
  have HST : Hid (CntR C B pa va vs w (.int .i64 0) (.int .i64 0) x) := Lib.hid ⟨0, by omega, rfl, rfl, hb, hv⟩
  clear hxx hB hb hv
  go_wp2_with fail
  go_loopw [7, 3] (fun s7 s3 wr => CntR C B pa va vs w s7 s3 wr) (fun s7 _ _ => 5 - (intOf s7).toNat)
  case atStart => exact HST.out
  case round =>
    obtain ⟨i, hi, rfl, rfl, hbel, hvar⟩ := hrel
    have HB := Lib.hid hbel; have HV := Lib.hid hvar
    clear hbel
    by_cases h5 : i < 5
    · obtain ⟨⟨b0, b1, b2⟩, -, -, -⟩ := hvar.all
      clear hvar
      have HC := Lib.hid (HHH.out wr i HB.out h5)
      obtain ⟨n, hn⟩ : ∃ n, N i = n := ⟨_, rfl⟩
      have hl1 := cntF_lt HLT.out i (by omega)
      have hl2 := cntF_lt HLT.out (i + 1) (by omega)
      have hs : cntF C (i + 1) = cntF C i + C i * 2 ^ i := rfl
      have h3 : 2 ^ i ≤ 2 ^ 4 := Nat.pow_le_pow_right (by omega) (by omega)
      have h4 : C i * 2 ^ i ≤ 4294967296 * 2 ^ 4 := Nat.mul_le_mul (Nat.le_of_lt (HLT.out i)) h3
      have hpc : ((C i : Nat) : Int) * 2 ^ i = ((C i * 2 ^ i : Nat) : Int) := by push_cast; rfl
      obtain ⟨t, ht⟩ : ∃ t, C i * 2 ^ i = t := ⟨_, rfl⟩
      obtain ⟨c, hc⟩ : ∃ c, C i = c := ⟨_, rfl⟩
      obtain ⟨g, hg⟩ : ∃ g, cntF C i = g := ⟨_, rfl⟩
      obtain ⟨g2, hg2⟩ : ∃ g, cntF C (i + 1) = g := ⟨_, rfl⟩
      rw [ht] at hs h4 hpc
      rw [hn, hc] at HC
      rw [hc] at hpc
      rw [hg] at hs hl1 ⊢
      rw [hg2] at hs hl2
      have HG2 := Lib.hid hg2
      have q1 : IntKind.i64.wrap ((c : Int) * 2 ^ i) = (t : Int) := by rw [hpc]; exact IntWalk.i64_in _ (by omega)
      have q2 : wrap64 ((c : Int) * 2 ^ i) = (t : Int) := by rw [hpc]; exact IntWalk.wrap64_in _ ⟨by omega, by omega⟩
      have q3 : wrap64 ((g : Int) + (t : Int)) = (g2 : Int) := by rw [IntWalk.wrap64_in _ ⟨by omega, by omega⟩]; omega
      have HQ := Lib.hid (And.intro q1 (And.intro q2 q3))
      clear hn hc hg hg2 ht hpc hl1 hl2 hs h3 h4 q1 q2 q3
      go_wp2_with fail
      refine HC.out.mono ?_
      rintro e w2 ⟨rfl, hb⟩
      have HB2 := Lib.hid (HB.out.trans (hb.mono HB.out.size))
      have HV2 := Lib.hid (HV.out.below hb)
      clear hb b0 b1 b2
      obtain ⟨q1, q2, q3⟩ := HQ.out
      go_wp2_with fail
      go_roundw
      case rel => exact ⟨i + 1, by omega, by go_num, by rw [HG2.out]; first | rfl | (congr 1) | trace_state, HB2.out, HV2.out⟩
      case measure => simp [intOf]; omega
    · have e5 : i = 5 := by omega
      subst e5
      obtain ⟨g, hg⟩ : ∃ g, cntF C 5 = g := ⟨_, rfl⟩
      have HGG := Lib.hid hg
      rw [hg]
      clear hvar h5 hi hg
      go_wp2_with fail
      go_ret
      exact ⟨by rw [HGG.out]; rfl, HB.out⟩
set_option maxHeartbeats 2000000 in
set_option maxRecDepth 100000 in
theorem ball_none (pa : Option Addr) (va vs : Nat) (n k : Int)
    (HH : ∀ (X : World), Below w.heap.size w X → Calls Try.prog 85 #[.agg #[.pointer pa, .int .i64 (va : Int), .int .i64 (vs : Int)], .int .i64 k] X (Gives (.tuple #[.int .i64 n, .int .i64 0]) X)) :
    Calls Try.prog 21 #[.agg #[.pointer pa, .int .i64 (va : Int), .int .i64 (vs : Int)], .int .i64 k] w (Gives (.slice none 0 0) w) := by
  have HC := Lib.hid (HH _ (bel1 w (.cells #[.pointer pa, .int .i64 (va : Int), .int .i64 (vs : Int)] 26)))
  have HB := Lib.hid (bel1 w (.cells #[.pointer pa, .int .i64 (va : Int), .int .i64 (vs : Int)] 26))
  clear HH
  go_enter Try.func21, Try.ntmps21
  go_wp2_with fail
  refine HC.out.mono ?_
  rintro e w2 ⟨rfl, hb⟩
  have HB2 := Lib.hid (HB.out.trans (hb.mono HB.out.size))
  clear hb HB HC
  go_wp2_with fail
  have HST : Hid (Below w.heap.size w w2) := HB2
  go_loopw [17, 5] (fun s17 s5 wr => s17 = .int .i64 0 ∧ s5 = .slice none 0 0 ∧ Below w.heap.size w wr) (fun _ _ _ => 0)
  case atStart => exact ⟨rfl, rfl, HST.out⟩
  case round =>
    obtain ⟨rfl, rfl, hbel⟩ := hrel
    have HB3 := Lib.hid hbel
    clear hbel
    go_wp2_with fail
    go_ret
    exact ⟨rfl, HB3.out⟩
end
end Go.Proofs.Ytoineackmpafdaa.Bt
/- The statements' open and example. (Written by gen_bne.py.) -/
namespace Go.Proofs.Ytoineackmpafdaa.Bt
open Go Go.RowKit Go.Shelf
set_option linter.unusedVariables false
set_option linter.unusedSimpArgs false

theorem bopenL (pa : Option Addr) (va vs : Nat) (w : World) : Calls Try.prog 13 #[.agg #[.pointer pa, .int .i64 (va : Int), .int .i64 (vs : Int)]] w (Gives (.agg #[.pointer pa, .int .i64 (va : Int), .int .i64 (vs : Int)]) w) := by
  go_enter Try.func13, Try.ntmps13
  go_wp2_with fail
  exact bodyPost_ret (v := .agg #[.pointer pa, .int .i64 (va : Int), .int .i64 (vs : Int)]) (by simp [results, Try.results13, go_sem]) rfl ⟨rfl, below2 _ _ _⟩
/-- an arena of 13 pages, of which twelve are committed -/
def s13 (m : Nat → UInt8) : ASt := ⟨13, [0, 12], m, false, 0⟩
theorem good13 : Good 13 [0, 12] := ⟨by simp [Rising], by simp, (fun e h => by simp at h; omega), by omega⟩
theorem there13 {a k : Int} (h0 : 0 ≤ a) (h1 : 0 ≤ k) (h2 : a + k ≤ 49152) : thereE 13 [0, 12] a k = 0 := by
  unfold thereE
  rw [if_pos]
  exact (there_iff good13 a k).2 ⟨h0, h1, by omega, fun i i1 i2 => by have := mem_full (L := 12) (by omega) (i / 4096); rw [this]; simp; omega⟩
theorem new13 : commitE (newS 13) 0 12 = 0 ∧ commitS (newS 13) 0 12 = s13 (fun _ => 0) := by
  have he : commitE (newS 13) 0 12 = 0 := by decide
  refine ⟨he, ?_⟩
  unfold commitE at he
  unfold commitS
  have hn : ¬ (countE (newS 13).L 0 12 ≠ 0 ∨ 0 < countR (newS 13).L (newS 13).es 0 12) := by decide
  rw [if_neg hn, show refB (newS 13) = false from rfl]
  show ASt.mk _ _ _ _ _ = _
  rw [show laidS (newS 13).L (newS 13).es 0 12 true = [0, 12] from by decide]; rfl
/-- bins in it -/
def Bn13 (m : Nat → UInt8) (q : Nat → List Nat) : Prop := Bn 13 [0, 12] m 100 q
theorem bn13_new : Bn13 (fun _ => 0) fun _ => [] := Bn.zero (there13 (by omega) (by omega) (by omega)) fun _ _ _ => rfl
def wr13 (m : Nat → UInt8) (o : Nat → Nat) (i : Nat) (x : Int) : Nat → UInt8 := wrM m (4096 * (i + 1)) ((4096 * (i + 1) : Nat) : Int) ((o i % 5 : Nat) : Int) 0 x
/-- a chunk more -/
theorem bn13_step {m : Nat → UInt8} {o : Nat → Nat} {i : Nat} (b : Bn13 m (bq o i)) (hi : i < 11) {x : Int} (hx : 0 ≤ x) (hx2 : x ≤ 9223372036854775807) :
    ChAt 13 [0, 12] (wr13 m o i x) (i + 1) (o i % 5) ∧ hdC (wr13 m o i x) 100 (o i % 5) < 4294967295 ∧ Bn13 (pushM (wr13 m o i x) 100 (o i % 5) (i + 1)) (bq o (i + 1)) := by
  have hk : o i % 5 < 5 := Nat.mod_lt _ (by omega)
  have hn : ∀ j, j < 5 → i + 1 ∉ bq o i j := fun j _ h => by have := bq_mem o h; omega
  have c := (wr_at (L := 13) (es := [0, 12]) m (p := i + 1) (x := x) hk hx hx2 (there13 (by omega) (by omega) (by omega))).1
  have b1 := Bn.wr b ((o i % 5 : Nat) : Int) 0 x hn (.inl (by omega))
  have hl := bq_len o i (o i % 5)
  refine ⟨c, ?_, ?_⟩
  · show hdC (wrM _ _ _ _ _ _) 100 _ < _
    rw [b1.many _ hk]; omega
  · exact b1.push hk c (hn _ hk) (.inl (by omega)) (by omega) (by omega)
/-- the newest one less -/
theorem bn13_back {m : Nat → UInt8} {o : Nat → Nat} {i : Nat} (b : Bn13 m (bq o (i + 1))) (hi : i < 11) :
    ChAt 13 [0, 12] m (i + 1) (o i % 5) ∧ hdC m 100 (o i % 5) ≠ 0 ∧ hdP m 100 (o i % 5) = i + 1 ∧ Bn13 (popM m 100 (o i % 5) (i + 1)) (bq o i) ∧ ChAt 13 [0, 12] (popM m 100 (o i % 5) (i + 1)) (i + 1) (o i % 5) ∧ rdX (popM m 100 (o i % 5) (i + 1)) (4096 * (i + 1)) = 0 := by
  have hk : o i % 5 < 5 := Nat.mod_lt _ (by omega)
  obtain ⟨e1, e2⟩ := bq_back o i
  have hm : i + 1 ∈ bq o (i + 1) (o i % 5) := by rw [e1]; simp
  have hl := bq_len o (i + 1) (o i % 5)
  have hp := Bn.pop b hk e1 (by omega) (fun p hp => by have := bq_mem o hp; omega)
  rw [e2] at hp
  refine ⟨b.at_ _ hk _ hm, ?_, b.top _ hk _ _ e1, hp.1, hp.2.1, hp.2.2⟩
  rw [b.many _ hk, e1]; simp
/-- the statement's variable, and its arena -/
structure LawB (A R : Nat) (s : ASt) (w0 x : World) : Prop where
  v : B3 26 R (some ⟨A, 0, none⟩) (100 : Nat) (44 : Nat) x
  o : On A s x
  b : Base A w0 x
theorem LawB.below {R A : Nat} {s : ASt} {w0 x y : World} (h : LawB A R s w0 x) (hb : Below x.heap.size x y) : LawB A R s w0 y := ⟨h.v.below hb, h.o.below hb, h.b.below h.o hb⟩
theorem LawB.went {R A : Nat} {s s' : ASt} {w0 x y : World} (h : LawB A R s w0 x) (ho : On A s' y) (hg : Went A x y) : LawB A R s' w0 y := ⟨h.v.went h.o hg (by decide) (by decide) (by decide), ho, h.b.went hg⟩
theorem LawB.all {R A : Nat} {s : ASt} {w0 x : World} (h : LawB A R s w0 x) : x.cell? ⟨R, 0, none⟩ = some (.pointer (some ⟨A, 0, none⟩)) ∧ x.cell? ⟨R, 1, none⟩ = some (.int .i64 100) ∧ x.cell? ⟨R, 2, none⟩ = some (.int .i64 44) := h.v.all.1
theorem LawB.start {A : Nat} {s : ASt} {w0 x : World} (ho : On A s x) (hb : Base A w0 x) : LawB A x.heap.size s w0 (x.alloc (.cells #[.pointer (some ⟨A, 0, none⟩), .int .i64 100, .int .i64 44] 26)) :=
  ⟨heap_new _ _, ho.below (bel1 _ _), hb.below ho (bel1 _ _)⟩
def OpenB (w : World) (e : Ending) (w' : World) : Prop :=
  ∃ A, e = .returned (.tuple #[.pointer (some ⟨A, 0, none⟩), .agg #[.pointer (some ⟨A, 0, none⟩), .int .i64 100, .int .i64 44], .bool true]) ∧ On A (s13 (fun _ => 0)) w' ∧ Base A w w'
set_option maxHeartbeats 2000000 in
theorem open11 (w : World) : Calls Try.prog 23 #[] w (OpenB w) := by
  have L1 : Hid (lenN 13 = 13) := Lib.hid (by decide)
  have E1 : Hid (commitE (newS 13) 0 12 = 0) := Lib.hid new13.1
  have S1 : Hid (commitS (newS 13) 0 12 = s13 (fun _ => 0)) := Lib.hid new13.2
  have T1 : Hid (thereE (s13 fun _ => 0).L (s13 fun _ => 0).es 100 44 = 0) := Lib.hid (there13 (by omega) (by omega) (by omega))
  have HV : Hid (∀ pu a k, ofV pu a k 0 = .agg #[.pointer pu, .int .i64 a, .int .i64 k]) := Lib.hid fun pu a k => by unfold ofV; rw [if_pos rfl]
  unfold OpenB
  go_enter Try.func23, Try.ntmps23
  go_wp2_with fail
  refine (on_new 13 _).mono ?_
  rintro e w1 ⟨A, rfl, hA, hx, hb, hm⟩
  rw [L1.out] at hx
  have HX1 := Lib.hid hx
  have HB1 := Lib.hid (show Base A w w1 from hb.rebase (bel1 w (.cells #[.pointer none, .int .i64 0, .int .i64 0] 26)))
  have HM1 := Lib.hid (hm w.heap.size (by simp))
  have HR1 := Lib.hid ((hb.bel.block w.heap.size (by simp)).trans (heap_new w (.cells #[.pointer none, .int .i64 0, .int .i64 0] 26)))
  clear hx hb hA hm
  go_wp2_with fail
  refine (on_commit HX1.out 0 12 (by omega)).mono ?_
  rintro e w2 ⟨rfl, hx, hg⟩
  rw [E1.out]; rw [S1.out] at hx
  have HX2 := Lib.hid hx
  have HB2 := Lib.hid (HB1.out.went hg)
  have HR2 := Lib.hid (HM1.out.at hg HR1.out)
  have HM2 := Lib.hid (HM1.out.went hg)
  clear hx hg
  go_wp2_with fail
  refine (on_of HX2.out 100 44 (by omega)).mono ?_
  rintro e w3 ⟨rfl, hb⟩
  rw [T1.out, HV.out]
  have HX3 := Lib.hid (HX2.out.below hb)
  have HB3 := Lib.hid (HB2.out.below HX2.out hb)
  have HR3 := Lib.hid ((hb.block _ (Array.getElem?_eq_some_iff.1 HR2.out).1).trans HR2.out)
  have HM3 := Lib.hid (HM2.out.went (Went.of_below HX2.out hb))
  clear hb
  go_wp2_with fail
  have bV := Lib.hid (bel1 w3 (.cells #[.pointer (some ⟨A, 0, none⟩), .int .i64 100, .int .i64 44] 24))
  refine (bopenL (some ⟨A, 0, none⟩) 100 44 _).mono ?_
  rintro e w4 ⟨rfl, hb⟩
  have HX4 := Lib.hid ((HX3.out.below bV.out).below hb)
  have HB4 := Lib.hid ((HB3.out.below HX3.out bV.out).below (HX3.out.below bV.out) hb)
  have hr3 := HR3.out
  have hr4 := (hb.block w.heap.size (Nat.lt_of_lt_of_le (Array.getElem?_eq_some_iff.1 hr3).1 bV.out.size)).trans ((bV.out.block _ (Array.getElem?_eq_some_iff.1 hr3).1).trans hr3)
  have HR4 := Lib.hid hr4
  have HM4 := Lib.hid ((HM3.out.went (Went.of_below HX3.out bV.out)).went (Went.of_below (HX3.out.below bV.out) hb))
  have c0 := (cell_blk hr4 0).1; have c1 := (cell_blk hr4 1).1; have c2 := (cell_blk hr4 2).1
  have f0 := (cell_blk hr4 0).2; have f1 := (cell_blk hr4 1).2; have f2 := (cell_blk hr4 2).2
  clear hr3 hr4 hb
  go_wp2_with fail
  have h3 := three_set HR4.out rfl (.pointer (some ⟨A, 0, none⟩)) (.int .i64 100) (.int .i64 44)
  have g0 := (cell_blk h3 0).1; have g1 := (cell_blk h3 1).1; have g2 := (cell_blk h3 2).1
  have hF := set3 (w0 := w) HX4.out HB4.out HM4.out (Nat.le_refl _) (.pointer (some ⟨A, 0, none⟩)) (.int .i64 100) (.int .i64 44)
  have HF := Lib.hid hF
  clear hF
  exact bodyPost_ret (v := .tuple #[.pointer (some ⟨A, 0, none⟩), .agg #[.pointer (some ⟨A, 0, none⟩), .int .i64 100, .int .i64 44], .bool true]) (by simp [results, Try.results23, go_sem, g0, g1, g2]) rfl ⟨A, rfl, HF.out.1, HF.out.2⟩
theorem awake10' (w : World) : Calls Try.prog 87 #[] w (Gives (.bool true) w) := by
  go_enter Try.func87, Try.ntmps87
  go_wp2_with fail
  refine (awake10_calls _).mono ?_
  rintro e w1 ⟨rfl, hb⟩
  go_wp2_with fail
  go_ret
  exact ⟨rfl, hb⟩
/-- Push and Pop of the statements' bins -/
theorem push13 {A : Nat} {m : Nat → UInt8} {w : World} (h : On A (s13 m) w) {p k : Nat} (hk : k < 5) (c : ChAt 13 [0, 12] m p k) (hC : hdC m 100 k < 4294967295) (hp : p ≤ 1000) :
    Calls Try.prog 20 #[.agg #[.pointer (some ⟨A, 0, none⟩), .int .i64 100, .int .i64 44], .int .i64 ((4096 * p : Nat) : Int)] w (Ret A (s13 (pushM m 100 k p)) (.int .i64 0) w) :=
  bpush_ok h 100 44 p k (by omega) (by omega) (by omega) hk (there13 (by omega) (by omega) (by omega)) c hC (by omega)
theorem pop13 {A : Nat} {m : Nat → UInt8} {w : World} (h : On A (s13 m) w) {p k : Nat} (hk : k < 5) (c : ChAt 13 [0, 12] m p k) (hC : hdC m 100 k ≠ 0) (hP : hdP m 100 k = p) (hp : p ≤ 1000) :
    Calls Try.prog 17 #[.agg #[.pointer (some ⟨A, 0, none⟩), .int .i64 100, .int .i64 44], .int .i64 (k : Int)] w (Ret A (s13 (popM m 100 k p)) (.tuple #[.agg #[.int .i64 ((4096 * p : Nat) : Int), .int .i64 (k : Int), .int .u64 0, .int .i64 0], .bool true]) w) :=
  bpop_ok h 100 44 p k (by omega) (by omega) (by omega) hk (there13 (by omega) (by omega) (by omega)) c hC hP (by omega)
theorem write13 {A : Nat} {m : Nat → UInt8} {w : World} (h : On A (s13 m) w) {p k : Nat} {x : Int} (hk : k < 5) (hx : 0 ≤ x) (hx2 : x ≤ 9223372036854775807) (hp : p ≤ 11) :
    Calls Try.prog 24 #[.pointer (some ⟨A, 0, none⟩), .agg #[.int .i64 ((4096 * p : Nat) : Int), .int .i64 (k : Int), .int .u64 0, .int .i64 x]] w (Ret A (s13 (wrM m (4096 * p) ((4096 * p : Nat) : Int) (k : Int) 0 x)) (.int .i64 0) w) :=
  wr_page h hk hx hx2 (there13 (by omega) (by omega) (by omega)) (by omega)
/-- between two rounds of the example's loop -/
def AwB (A R N : Nat) (w : World) (s15 s3 : Value) (wr : World) : Prop :=
  ∃ (i : Nat) (m : Nat → UInt8), i ≤ 2 ∧ s15 = .int .i64 (i : Int) ∧ s3 = .bool true ∧ LawB A R (s13 m) w wr ∧ Bn13 m (bq (fun _ => 0) i) ∧ wr.heap[N]? = some (.cells #[.int .i64 4096, .int .i64 8192] 3 (0, 0))
set_option maxHeartbeats 4000000 in
set_option maxRecDepth 100000 in
theorem awake11_calls (w : World) : Calls Try.prog 19 #[] w (Gives (.bool true) w) := by
  have N0 := Lib.hid bn13_new
  go_enter Try.func19, Try.ntmps19
  go_wp2_with fail
  refine (open11 _).mono ?_
  rintro e w1 ⟨A, rfl, hx, hb⟩
  obtain ⟨R, hRR⟩ : ∃ R, w1.heap.size = R := ⟨_, rfl⟩
  obtain ⟨w2, hw2⟩ : ∃ w2, w1.alloc (.cells #[.pointer (some ⟨A, 0, none⟩), .int .i64 100, .int .i64 44] 26) = w2 := ⟨_, rfl⟩
  have hl := LawB.start hx hb
  rw [hw2, hRR] at hl
  have HV2 := Lib.hid hl
  have HW2 := Lib.hid hw2
  clear hx hb hw2 hl
  go_upto_region 2 with fail
  change Code.wp _ _ _ _ (w1.alloc (.cells #[.pointer (some ⟨A, 0, none⟩), .int .i64 100, .int .i64 44] 26))
  rw [HW2.out]
  clear HW2 hRR
  go_upto_region 3 with fail
  have hl := HV2.out.below (bel1 w2 (.cells #[.int .i64 4096, .int .i64 8192] 3))
  have hn := heap_new w2 (.cells #[.int .i64 4096, .int .i64 8192] 3)
  obtain ⟨w3, hw3⟩ : ∃ w3, w2.alloc (.cells #[.int .i64 4096, .int .i64 8192] 3) = w3 := ⟨_, rfl⟩
  obtain ⟨N, hN⟩ : ∃ N, w2.heap.size = N := ⟨_, rfl⟩
  rw [hw3] at hl hn
  rw [hN] at hn
  change Code.wp _ _ _ _ (w2.alloc (.cells #[.int .i64 4096, .int .i64 8192] 3))
  rw [hw3, hN]
  have HST : Hid (AwB A R N w (.int .i64 0) (.bool true) w3) := Lib.hid ⟨0, _, by omega, rfl, rfl, hl, N0.out, hn⟩
  clear hw3 hl hn HV2 hN
  go_loopw [15, 3] (fun s15 s3 wr => AwB A R N w s15 s3 wr) (fun s15 _ _ => 2 - (intOf s15).toNat)
  case atStart => exact HST.out
  case round =>
    obtain ⟨i, m, hi, rfl, rfl, hv, hbn, hn⟩ := hrel
    have HV := Lib.hid hv
    have HBN := Lib.hid hbn
    have HN := Lib.hid hn
    by_cases h2 : i < 2
    · have c3 : wr.cell? ⟨N, i, none⟩ = some (.int .i64 ((4096 * (i + 1) : Nat) : Int)) := by
        have : i = 0 ∨ i = 1 := by omega
        rcases this with rfl | rfl
        · exact (cell_blk hn 0).1
        · exact (cell_blk hn 1).1
      obtain ⟨c0, c1, c2⟩ := hv.all
      obtain ⟨s1, s2, s3⟩ := bn13_step hbn (by omega) (x := 0) (by omega) (by omega)
      have HW := Lib.hid (write13 hv.o (p := i + 1) (k := 0) (x := 0) (by omega) (by omega) (by omega) (by omega))
      have HP := Lib.hid (fun (y : World) (hy : On A (s13 (wr13 m (fun _ => 0) i 0)) y) => push13 hy (p := i + 1) (k := 0) (by omega) s1 s2 (by omega))
      have HB3 := Lib.hid s3
      have hm : wrM m (4096 * (i + 1)) ((4096 * (i + 1) : Nat) : Int) ((0 : Nat) : Int) 0 0 = wr13 m (fun _ => 0) i 0 := rfl
      rw [hm] at HW
      have hm2 : pushM (wr13 m (fun _ => 0) i 0) 100 ((fun _ => 0) i % 5) (i + 1) = pushM (wr13 m (fun _ => 0) i 0) 100 0 (i + 1) := rfl
      rw [hm2] at HB3
      obtain ⟨m1, hm1⟩ : ∃ m1, wr13 m (fun _ => 0) i 0 = m1 := ⟨_, rfl⟩
      rw [hm1] at HW HP HB3
      obtain ⟨m2, hm2⟩ : ∃ m2, pushM m1 100 0 (i + 1) = m2 := ⟨_, rfl⟩
      rw [hm2] at HP HB3
      obtain ⟨a, ha⟩ : ∃ a : Int, ((4096 * (i + 1) : Nat) : Int) = a := ⟨_, rfl⟩
      rw [ha] at c3 HW HP
      clear hv hbn hn s1 s2 s3 hm hm1 hm2 ha
      go_wp2_with fail
      refine HW.out.mono ?_
      rintro e w4 ⟨rfl, hx, hg⟩
      have HV4 := Lib.hid (HV.out.went hx hg)
      have HN4 := Lib.hid (hg.keep HV.out.o HN.out (by decide) (by decide) (by decide))
      clear hx hg c0 c1 c2 c3
      obtain ⟨c0, c1, c2⟩ := HV4.out.all
      go_wp2_with fail
      refine (HP.out _ HV4.out.o).mono ?_
      rintro e w5 ⟨rfl, hx, hg⟩
      have HV5 := Lib.hid (HV4.out.went hx hg)
      have HN5 := Lib.hid (hg.keep HV4.out.o HN4.out (by decide) (by decide) (by decide))
      clear hx hg c0 c1 c2
      go_wp2_with fail
      go_roundw
      case rel => exact ⟨i + 1, m2, by omega, by go_num, rfl, HV5.out, HB3.out, HN5.out⟩
      case measure => simp [intOf]; omega
    · have e2 : i = 1 + 1 := by omega
      subst e2
      obtain ⟨p1, p2, p3, p4, p5, p6⟩ := bn13_back hbn (by omega)
      have HP := Lib.hid (pop13 hv.o (p := 2) (k := 0) (by omega) p1 p2 p3 (by omega))
      obtain ⟨m2, hm2⟩ : ∃ m2, popM m 100 0 2 = m2 := ⟨_, rfl⟩
      rw [hm2] at HP
      have HA : Hid (((4096 * 2 : Nat) : Int) = 8192) := Lib.hid rfl
      rw [HA.out] at HP
      obtain ⟨c0, c1, c2⟩ := hv.all
      clear hv hbn hn hi h2 p1 p2 p3 p4 p5 p6 hm2
      go_wp2_with fail
      refine HP.out.mono ?_
      rintro e w4 ⟨rfl, hx, hg⟩
      have HV4 := Lib.hid (HV.out.went hx hg)
      clear hx hg c0 c1 c2
      go_upto_region 8 with fail
      have hb4 := bel1 w4 (.cells (cC 8192 ((0 : Nat) : Int) 0 0) 35)
      have hc := cb_new w4 8192 ((0 : Nat) : Int) 0 0
      have hl := HV4.out.below hb4
      obtain ⟨y, hy⟩ : ∃ y, w4.alloc (.cells (cC 8192 ((0 : Nat) : Int) 0 0) 35) = y := ⟨_, rfl⟩
      obtain ⟨D, hD⟩ : ∃ C, w4.heap.size = C := ⟨_, rfl⟩
      rw [hy] at hc hl
      rw [hD] at hc
      change Code.wp _ _ _ _ (w4.alloc (.cells (cC 8192 ((0 : Nat) : Int) 0 0) 35))
      rw [hy, hD]
      have HC := Lib.hid hc; have HL := Lib.hid hl
      clear hy hD hc hl hb4 HV4
      go_wp2_with fail
      refine (awake10' _).mono ?_
      rintro e w6 ⟨rfl, hb⟩
      have HB6 := Lib.hid (HL.out.b.bel.trans (hb.mono HL.out.b.bel.size))
      have hc := (show CB D 8192 ((0 : Nat) : Int) 0 0 w6 from blk_at hb HC.out)
      obtain ⟨c0, c1, c2, c3⟩ := hc.all
      clear hb HC HL hc
      go_wp2_with fail
      go_ret
      exact ⟨rfl, HB6.out⟩
end Go.Proofs.Ytoineackmpafdaa.Bt
/- The walk of BinsTurn. (Written by gen_bnf.py.) -/
namespace Go.Proofs.Ytoineackmpafdaa.Bt
open Go Go.RowKit Go.Shelf Go.ChangeShapes Go.WideShapes
set_option linter.unusedVariables false
set_option linter.unusedSimpArgs false

set_option maxRecDepth 100000 in
theorem chk_same (a o u x : Int) (w : World) : (binOp .neq 35 (.agg #[.int .i64 a, .int .i64 o, .int .u64 u, .int .i64 x]) (.agg #[.int .i64 a, .int .i64 o, .int .u64 u, .int .i64 x])).run Try.prog w = .ok (.bool false) w := by
  have hf : Try.prog.underlying 35 = some (.struct (Try.prog.fieldsOf 35)) := by kernel_rfl
  have hs : Try.prog.stoodInHeld 35 = false := by kernel_rfl
  rw [run_neq_struct, run_equalIn_agg w 9999 _ _ _ hf hs]
  simp [go_sem]
theorem least13 {A : Nat} {m : Nat → UInt8} {w : World} (h : On A (s13 m) w) (o : Int) :
    Calls Try.prog 18 #[.agg #[.pointer (some ⟨A, 0, none⟩), .int .i64 100, .int .i64 44], .int .i64 o] w (Gives (lsV (hdC m 100) o) w) :=
  bleast_gen (some ⟨A, 0, none⟩) 100 44 (fun k => 4096 * hdP m 100 k) (hdC m 100) o fun X k hX hk => bhead_in (h.below hX) 100 44 k (by omega) (by omega) (by omega) hk (there13 (by omega) (by omega) (by omega))
theorem count13 {A : Nat} {m : Nat → UInt8} {w : World} (h : On A (s13 m) w) :
    Calls Try.prog 22 #[.agg #[.pointer (some ⟨A, 0, none⟩), .int .i64 100, .int .i64 44]] w (Gives (.int .i64 ((cntF (hdC m 100) 5 : Nat) : Int)) w) :=
  bcount_gen (some ⟨A, 0, none⟩) 100 44 (fun k => 4096 * hdP m 100 k) (hdC m 100) (fun k => (hd_lt m 100 k).2) fun X k hX hk => bhead_in (h.below hX) 100 44 k (by omega) (by omega) (by omega) hk (there13 (by omega) (by omega) (by omega))
theorem Bn.cntF {L : Nat} {es : List Nat} {m : Nat → UInt8} {va : Nat} {q : Nat → List Nat} (b : Bn L es m va q) (h : ∀ k, k < 5 → q k = []) : cntF (hdC m va) 5 = 0 := by
  have e : ∀ k, k < 5 → hdC m va k = 0 := fun k hk => by rw [b.many k hk, h k hk]; rfl
  simp [Bt.cntF, e]
theorem Bn.lsV {L : Nat} {es : List Nat} {m : Nat → UInt8} {va : Nat} {q : Nat → List Nat} (b : Bn L es m va q) (h : ∀ k, k < 5 → q k = []) (o : Int) : lsV (hdC m va) o = .tuple #[.int .i64 0, .bool false] :=
  lsV_none fun j hj => by unfold lsP; rw [b.many j hj, h j hj]; simp
theorem read13 {A : Nat} {m : Nat → UInt8} {w : World} (h : On A (s13 m) w) {p k : Nat} (c : ChAt 13 [0, 12] m p k) (hx : rdX m (4096 * p) = 0) (hp : p ≤ 1000) :
    Calls Try.prog 25 #[.pointer (some ⟨A, 0, none⟩), .int .i64 ((4096 * p : Nat) : Int)] w (Gives (.tuple #[.agg #[.int .i64 ((4096 * p : Nat) : Int), .int .i64 (k : Int), .int .u64 0, .int .i64 0], .int .i64 0]) w) := by
  have := read_any h ((4096 * p : Nat) : Int) (by omega)
  rw [rd_is (s := s13 m) c, show rdX (s13 m).mm (4096 * p) = 0 from hx] at this
  exact this
/-- bytes that came in -/
def U8Row (w : World) (p : Option Addr) (len : Nat) (z : Nat → Nat) : Prop := len = 0 ∨ ∃ b off, p = some ⟨b, off, none⟩ ∧ b < w.heap.size ∧ ∀ k, k < len → w.cell? ⟨b, off + k, none⟩ = some (.int .u8 (z k : Int)) ∧ z k < 256
theorem u8s_of_row {w : World} {a : Option Addr} {len cap : Nat} {zs : List Int}
    (h : (a = none ∧ len = 0 ∧ cap = 0 ∧ zs = []) ∨ ∃ x, a = some x ∧ len ≤ cap ∧ cap ≤ maxLen ∧ zs.length = cap ∧ (∀ i, i < zs.length → w.cell? (x.add i) = some (.int .u8 (zs.getD i 0))) ∧ ∀ n ∈ zs, (Lit.int .u8 n).wf = true) :
    len ≤ 9223372036854775807 ∧ U8Row w a len fun k => (zs.getD k 0).toNat := by
  rcases h with ⟨_, rfl, _, _⟩ | ⟨x, rfl, h1, h2, h3, h4, h5⟩
  · exact ⟨by omega, .inl rfl⟩
  · unfold maxLen at h2
    refine ⟨by omega, ?_⟩
    by_cases h0 : len = 0
    · exact .inl h0
    · have k0 := h4 0 (by omega)
      obtain ⟨b, off, spot⟩ := x
      have hspot : spot = none := by simpa [Addr.add] using World.cell?_spot k0
      subst hspot
      have eA : ∀ j, (⟨b, off, none⟩ : Addr).add j = ⟨b, off + j, none⟩ := fun j => by
        simp only [Addr.add]; split <;> simp_all
      refine .inr ⟨b, off, rfl, World.block_lt_of_cell? _ _ k0, fun i hi => ?_⟩
      have h6 := h4 i (by omega)
      rw [eA] at h6
      have h7 := h5 (zs.getD i 0) (by rw [List.getD_eq_getElem?_getD, List.getElem?_eq_getElem (show i < zs.length by omega)]; exact List.getElem_mem _)
      have h8 := bounds_u8 h7
      refine ⟨?_, by show (zs.getD i 0).toNat < 256; omega⟩
      rw [h6]
      show _ = some (Value.int .u8 ((zs.getD i 0).toNat : Int))
      rw [Int.toNat_of_nonneg h8.1]
def TurA (A R : Nat) (z : Nat → Nat) (len : Nat) (w : World) (s30 s5 : Value) (wr : World) : Prop :=
  ∃ (i : Nat) (m : Nat → UInt8), i ≤ len ∧ s30 = .int .i64 (i : Int) ∧ s5 = .bool true ∧ LawB A R (s13 m) w wr ∧ Bn13 m (bq z i)
def TurB (A R : Nat) (z : Nat → Nat) (len : Nat) (w : World) (s61 : Value) (wr : World) : Prop :=
  ∃ (i : Nat) (m : Nat → UInt8), i ≤ len ∧ s61 = .int .i64 (i : Int) ∧ LawB A R (s13 m) w wr ∧ Bn13 m (bq z (len - i))
set_option maxHeartbeats 8000000 in
set_option maxRecDepth 100000 in
theorem turn_all (p : Option Addr) (len cap : Nat) (z : Nat → Nat) (hlen : len ≤ 9223372036854775807) (w : World) (hrow : U8Row w p len z) : Calls Try.prog 4 #[.slice p len cap] w (TrueAt w) := by
  have HR := Lib.hid hrow
  have N0 := Lib.hid bn13_new
  have HNE := Lib.hid chk_same
  clear hrow
  go_enter Try.func4, Try.ntmps4
  go_wp2_with fail
  refine (awake11_calls _).mono ?_
  rintro e w0 ⟨rfl, hb0⟩
  by_cases hl80 : 11 < len
  · have h80 : 11 < (len : Int) := by omega
    have HB0 := Lib.hid hb0
    clear hb0
    go_wp2_with fail
    go_ret
    exact ⟨rfl, HB0.out⟩
  have h80 : (len : Int) ≤ 11 := by omega
  have hlen80 : len ≤ 11 := by omega
  go_wp2_with fail
  refine (open11 _).mono ?_
  rintro e w1 ⟨A, rfl, hx, hb⟩
  obtain ⟨R, hRR⟩ : ∃ R, w1.heap.size = R := ⟨_, rfl⟩
  obtain ⟨w2, hw2⟩ : ∃ w2, w1.alloc (.cells #[.pointer (some ⟨A, 0, none⟩), .int .i64 100, .int .i64 44] 26) = w2 := ⟨_, rfl⟩
  have hl := LawB.start hx (hb.rebase hb0)
  rw [hw2, hRR] at hl
  have HV2 := Lib.hid hl
  have HW2 := Lib.hid hw2
  clear hx hb hw2 hl hb0 hl80 hlen
  go_upto_region 6 with fail
  change Code.wp _ _ _ _ (w1.alloc (.cells #[.pointer (some ⟨A, 0, none⟩), .int .i64 100, .int .i64 44] 26))
  rw [HW2.out]
  clear HW2 hRR
  have HST : Hid (TurA A R z len w (.int .i64 0) (.bool true) w2) := Lib.hid ⟨0, _, Nat.zero_le _, rfl, rfl, HV2.out, N0.out⟩
  clear HV2 N0
  go_wp2_with fail
  go_loopw [30, 5] (fun s30 s5 wr => TurA A R z len w s30 s5 wr) (fun s30 _ _ => len - (intOf s30).toNat)
  case atStart => exact HST.out
  case round =>
    obtain ⟨i, m, hi, rfl, rfl, hv, hbn⟩ := hrel
    have HV := Lib.hid hv
    have HBN := Lib.hid hbn
    by_cases hlt : i < len
    · rcases HR.out with he | ⟨b, off, rfl, hbl, hc⟩
      · omega
      obtain ⟨hc1, hz1⟩ := hc i hlt
      have c3 := (hv.b.bel.cell (p := ⟨b, off + i, none⟩) hbl).trans hc1
      obtain ⟨s1, s2, s3⟩ := bn13_step hbn (by omega) (x := 8192) (by omega) (by omega)
      have hk : z i % 5 < 5 := Nat.mod_lt _ (by omega)
      have HW := Lib.hid (fun (y : World) (hy : On A (s13 m) y) => write13 hy (p := i + 1) (k := z i % 5) (x := 8192) hk (by omega) (by omega) (by omega))
      have HP := Lib.hid (fun (y : World) (hy : On A (s13 (wr13 m z i 8192)) y) => push13 hy (p := i + 1) hk s1 s2 (by omega))
      have hm : wrM m (4096 * (i + 1)) ((4096 * (i + 1) : Nat) : Int) ((z i % 5 : Nat) : Int) 0 8192 = wr13 m z i 8192 := rfl
      rw [hm] at HW
      have HB3 := Lib.hid s3
      obtain ⟨r, hr⟩ : ∃ r, z i % 5 = r := ⟨_, rfl⟩
      have q0 : ((z i : Nat) : Int) % 5 = (r : Int) := by omega
      have q1 : ((z i : Nat) : Int).tmod 5 = (r : Int) := by rw [Int.tmod_eq_emod_of_nonneg (by omega)]; exact q0
      have qr : r < 5 := by omega
      have q2 : (4096 : Int) * ((i : Int) + 1) = ((4096 * (i + 1) : Nat) : Int) := by omega
      obtain ⟨zi, hzi⟩ : ∃ zi, z i = zi := ⟨_, rfl⟩
      rw [hr] at HW HP HB3
      obtain ⟨m1, hm1⟩ : ∃ m1, wr13 m z i 8192 = m1 := ⟨_, rfl⟩
      rw [hm1] at HW HP HB3
      obtain ⟨m2, hm2⟩ : ∃ m2, pushM m1 100 r (i + 1) = m2 := ⟨_, rfl⟩
      rw [hm2] at HP HB3
      obtain ⟨a, ha⟩ : ∃ a : Int, ((4096 * (i + 1) : Nat) : Int) = a := ⟨_, rfl⟩
      rw [ha] at HW HP q2
      rw [hzi] at c3 q0 q1
      have HQ := Lib.hid q2
      obtain ⟨c0, c1, c2⟩ := hv.all
      clear hv hbn s1 s2 s3 hm hm1 hm2 ha hc hc1 hz1 hk hr hzi q0
      go_upto_region 10 with fail
      try rw [HQ.out]
      have hb4 := bel1 wr (.cells (cC a (r : Int) 0 8192) 35)
      have hcb := cb_new wr a (r : Int) 0 8192
      have hl := HV.out.below hb4
      change Code.wp _ _ _ _ (wr.alloc (.cells (cC a (r : Int) 0 8192) 35))
      obtain ⟨y, hy⟩ : ∃ y, wr.alloc (.cells (cC a (r : Int) 0 8192) 35) = y := ⟨_, rfl⟩
      obtain ⟨D, hD⟩ : ∃ C, wr.heap.size = C := ⟨_, rfl⟩
      rw [hy] at hcb hl
      rw [hD] at hcb
      rw [hy, hD]
      have HC := Lib.hid hcb; have HL := Lib.hid hl
      clear hy hD hcb hl hb4 c0 c1 c2 c3 q1 q2
      obtain ⟨c0, c1, c2⟩ := HL.out.all
      obtain ⟨d0, d1, d2, d3⟩ := HC.out.all
      go_wp2_with fail
      refine (HW.out _ HL.out.o).mono ?_
      rintro e w4 ⟨rfl, hx, hg⟩
      have HV4 := Lib.hid (HL.out.went hx hg)
      have HC4 := Lib.hid (show CB D a (r : Int) 0 8192 w4 from hg.keep HL.out.o HC.out (by decide) (by decide) (by decide))
      clear hx hg c0 c1 c2 d0 d1 d2 d3 HL HC
      obtain ⟨c0, c1, c2⟩ := HV4.out.all
      obtain ⟨d0, d1, d2, d3⟩ := HC4.out.all
      go_wp2_with fail
      refine (HP.out _ HV4.out.o).mono ?_
      rintro e w5 ⟨rfl, hx, hg⟩
      have HV5 := Lib.hid (HV4.out.went hx hg)
      clear hx hg c0 c1 c2 d0 d1 d2 d3
      go_wp2_with fail
      go_roundw
      case rel => exact ⟨i + 1, m2, by omega, by go_num, rfl, HV5.out, HB3.out⟩
      case measure => simp [intOf]; omega
    · have ei : i = len := by omega
      have HS2 : Hid (TurB A R z len w (.int .i64 0) wr) := Lib.hid ⟨0, m, Nat.zero_le _, rfl, HV.out, by rw [Nat.sub_zero, ← ei]; exact HBN.out⟩
      clear hv hbn ei
      go_wp2_with fail
      clear HST HV HBN hlt hi
      go_loopw [61] (fun s61 wr => TurB A R z len w s61 wr) (fun s61 _ => len - (intOf s61).toNat)
      case atStart => exact HS2.out
      case round =>
        clear HS2
        obtain ⟨i, m, hi, rfl, hv, hbn⟩ := hrel
        have HV := Lib.hid hv
        by_cases hlt : i < len
        · rcases HR.out with he | ⟨b, off, rfl, hbl, hc⟩
          · omega
          obtain ⟨j, hj⟩ : ∃ j, len - 1 - i = j := ⟨_, rfl⟩
          have hbn' : Bn13 m (bq z (j + 1)) := by rw [show j + 1 = len - i by omega]; exact hbn
          obtain ⟨hc1, hz1⟩ := hc j (by omega)
          have c3 := (hv.b.bel.cell (p := ⟨b, off + j, none⟩) hbl).trans hc1
          obtain ⟨p1, p2, p3, p4, p5, p6⟩ := bn13_back hbn' (by omega)
          have hk : z j % 5 < 5 := Nat.mod_lt _ (by omega)
          have HP := Lib.hid (fun (y : World) (hy : On A (s13 m) y) => pop13 hy hk p1 p2 p3 (by omega))
          have HRD := Lib.hid (fun (y : World) (hy : On A (s13 (popM m 100 (z j % 5) (j + 1))) y) => read13 hy p5 p6 (by omega))
          have HB3 : Hid (Bn13 (popM m 100 (z j % 5) (j + 1)) (bq z (len - (i + 1)))) := Lib.hid (by rw [show len - (i + 1) = j by omega]; exact p4)
          obtain ⟨r, hr⟩ : ∃ r, z j % 5 = r := ⟨_, rfl⟩
          have q0 : ((z j : Nat) : Int) % 5 = (r : Int) := by omega
          have q1 : ((z j : Nat) : Int).tmod 5 = (r : Int) := by rw [Int.tmod_eq_emod_of_nonneg (by omega)]; exact q0
          have qr : r < 5 := by omega
          have q4 : (len : Int) - 1 - (i : Int) = (j : Int) := by omega
          have q5 : j < len := by omega
          have q2 : (4096 : Int) * ((j : Int) + 1) = ((4096 * (j + 1) : Nat) : Int) := by omega
          have hj11 : j ≤ 10 := by omega
          obtain ⟨zi, hzi⟩ : ∃ zi, z j = zi := ⟨_, rfl⟩
          rw [hr] at HP HRD HB3
          obtain ⟨m2, hm2⟩ : ∃ m2, popM m 100 r (j + 1) = m2 := ⟨_, rfl⟩
          rw [hm2] at HP HRD HB3
          obtain ⟨a, ha⟩ : ∃ a : Int, ((4096 * (j + 1) : Nat) : Int) = a := ⟨_, rfl⟩
          rw [ha] at HP HRD q2
          have hab : a ≤ 1000000 := by omega
          rw [hzi] at c3 q0 q1
          have HQ := Lib.hid q2
          obtain ⟨c0, c1, c2⟩ := hv.all
          clear hv hbn hbn' p1 p2 p3 p4 p5 p6 hm2 ha hc hc1 hz1 hk hr hzi q0 hj q2
          go_wp2_with fail
          refine (HP.out _ HV.out.o).mono ?_
          rintro e w4 ⟨rfl, hx, hg⟩
          have HV4 := Lib.hid (HV.out.went hx hg)
          clear hx hg c0 c1 c2 c3 q1 q4
          go_upto_region 20 with fail
          have hb4 := bel1 w4 (.cells (cC a (r : Int) 0 0) 35)
          have hcb := cb_new w4 a (r : Int) 0 0
          have hl := HV4.out.below hb4
          obtain ⟨y, hy⟩ : ∃ y, w4.alloc (.cells (cC a (r : Int) 0 0) 35) = y := ⟨_, rfl⟩
          obtain ⟨D, hD⟩ : ∃ C, w4.heap.size = C := ⟨_, rfl⟩
          rw [hy] at hcb hl
          rw [hD] at hcb
          change Code.wp _ _ _ _ (w4.alloc (.cells (cC a (r : Int) 0 0) 35))
          rw [hy, hD]
          have HC := Lib.hid hcb; have HL := Lib.hid hl
          clear hy hD hcb hl hb4 HV4
          obtain ⟨d0, d1, d2, d3⟩ := HC.out.all
          go_wp2_with fail
          refine (HRD.out _ HL.out.o).mono ?_
          rintro e w5 ⟨rfl, hb⟩
          have HL5 := Lib.hid (HL.out.below hb)
          have HC5 := Lib.hid (show CB D a (r : Int) 0 0 w5 from blk_at hb HC.out)
          clear hb HL HC d0 d1 d2 d3
          go_upto_region 21 with fail
          have hb4 := bel1 w5 (.cells (cC a (r : Int) 0 0) 35)
          have hce := cb_new w5 a (r : Int) 0 0
          have hcd := (show CB D a (r : Int) 0 0 (w5.alloc (.cells (cC a (r : Int) 0 0) 35)) from blk_at hb4 HC5.out)
          have hl := HL5.out.below hb4
          obtain ⟨y2, hy⟩ : ∃ y, w5.alloc (.cells (cC a (r : Int) 0 0) 35) = y := ⟨_, rfl⟩
          obtain ⟨E, hE⟩ : ∃ C, w5.heap.size = C := ⟨_, rfl⟩
          rw [hy] at hce hcd hl
          rw [hE] at hce
          change Code.wp _ _ _ _ (w5.alloc (.cells (cC a (r : Int) 0 0) 35))
          rw [hy, hE]
          have HL6 := Lib.hid hl
          obtain ⟨d0, d1, d2, d3⟩ := hcd.all
          obtain ⟨e0, e1, e2, e3⟩ := hce.all
          clear hy hE hce hcd hl hb4 HL5 HC5
          have hne := HNE.out a (r : Int) 0 0
          have q2 := HQ.out
          go_wp2_with fail
          go_roundw
          case rel => exact ⟨i + 1, m2, by omega, by go_num, HL6.out, HB3.out⟩
          case measure => simp [intOf]; omega
        · have hbn' : Bn13 m (bq z 0) := by rw [show 0 = len - i by omega]; exact hbn
          have HL := Lib.hid (least13 hv.o (-5))
          rw [Bn.lsV hbn' (fun _ _ => rfl) (-5)] at HL
          have HCN := Lib.hid (fun (y : World) (hy : On A (s13 m) y) => count13 hy)
          rw [Bn.cntF hbn' (fun _ _ => rfl)] at HCN
          obtain ⟨c0, c1, c2⟩ := hv.all
          clear hv hbn hbn'
          go_wp2_with fail
          refine HL.out.mono ?_
          rintro e w4 ⟨rfl, hb⟩
          have HV4 := Lib.hid (HV.out.below hb)
          clear hb c0 c1 c2
          obtain ⟨c0, c1, c2⟩ := HV4.out.all
          go_wp2_with fail
          refine (HCN.out _ HV4.out.o).mono ?_
          rintro e w5 ⟨rfl, hb⟩
          have HV5 := Lib.hid (HV4.out.below hb)
          clear hb c0 c1 c2
          go_wp2_with fail
          go_ret
          exact ⟨rfl, HV5.out.b.bel⟩
end Go.Proofs.Ytoineackmpafdaa.Bt
/- Several texts in one: BnG; BnH; BnI; BnJ; BnK; BnL; BnN. -/
/- Bins of no view, or of one that is too small; the walk of BinsNone. (Written by gen_bng.py.) -/
namespace Go.Proofs.Ytoineackmpafdaa.Bt
open Go Go.RowKit Go.Shelf
set_option linter.unusedVariables false
set_option linter.unusedSimpArgs false
section
variable {w : World}
/-- a view's Part that gives none -/
def NoPart (pa : Option Addr) (va vs : Nat) (er : Int) (w : World) : Prop :=
  ∀ X : World, Below w.heap.size w X → Calls Try.prog 51 #[.agg #[.pointer pa, .int .i64 (va : Int), .int .i64 (vs : Int)], .int .i64 0, .int .i64 40] X (Gives (.tuple #[.agg #[.pointer none, .int .i64 0, .int .i64 0], .int .i64 er]) X)
theorem NoPart.below {pa : Option Addr} {va vs : Nat} {er : Int} {x : World} (h : NoPart pa va vs er w) (hb : Below w.heap.size w x) : NoPart pa va vs er x := fun X hX => h X (hb.trans (hX.mono hb.size))
set_option maxHeartbeats 1000000 in
set_option maxRecDepth 100000 in
theorem bplace_gen (pa : Option Addr) (va vs k : Nat) (hk : k < 5) (er : Int) (her : (er != 0) = true) (HP : NoPart pa va vs er w) :
    Calls Try.prog 148 #[.agg #[.pointer pa, .int .i64 (va : Int), .int .i64 (vs : Int)], .int .i64 (k : Int)] w (Gives (.tuple #[.agg #[.pointer none, .int .i64 0, .int .i64 0], .int .i64 er]) w) := by
  have HI := Lib.hid (fun w => isbin_any (k : Int) w)
  rw [decide_eq_true (show 0 ≤ (k : Int) ∧ (k : Int) ≤ 4 by omega)] at HI
  have hB := below2 w (.cells #[.pointer pa, .int .i64 (va : Int), .int .i64 (vs : Int)] 26) (.cells #[.pointer none, .int .i64 0, .int .i64 0] 24)
  have HPP := Lib.hid (HP.below hB)
  have HB := Lib.hid hB
  have HP := Lib.hid (pairs_new w #[.pointer pa, .int .i64 (va : Int), .int .i64 (vs : Int)] #[.pointer none, .int .i64 0, .int .i64 0] 26 24)
  clear hB
  go_enter Try.func148, Try.ntmps148
  go_upto_region 1 with fail
  obtain ⟨x, hx⟩ : ∃ x, (w.alloc (.cells #[.pointer pa, .int .i64 (va : Int), .int .i64 (vs : Int)] 26)).alloc (.cells #[.pointer none, .int .i64 0, .int .i64 0] 24) = x := ⟨_, rfl⟩
  obtain ⟨B, hB⟩ : ∃ B, w.heap.size = B := ⟨_, rfl⟩
  have hBR := Lib.hid (show w.heap.size ≤ B + 1 by omega)
  rw [hx] at HPP HB HP
  rw [hB] at HP
  change Code.wp _ _ _ _ ((w.alloc (.cells #[.pointer pa, .int .i64 (va : Int), .int .i64 (vs : Int)] 26)).alloc (.cells #[.pointer none, .int .i64 0, .int .i64 0] 24))
  try simp only [World.size_alloc]
  rw [hx, hB]
  clear hx hB
  have HP1 : Hid (B3 26 B pa va vs x) := Lib.hid HP.out.1
  have HP2 : Hid (B3 24 (B + 1) none 0 0 x) := Lib.hid HP.out.2
  clear HP
  obtain ⟨⟨b0, b1, b2⟩, -, -, -⟩ := HP1.out.all
  go_wp2_with fail
  refine (HI.out _).mono ?_
  rintro e w1 ⟨rfl, rfl⟩
  go_wp2_with fail
  refine (HPP.out _ (Below.refl _ _)).mono ?_
  rintro e w2 ⟨rfl, hb⟩
  clear b0 b1 b2
  have HB2 := Lib.hid (HB.out.trans (hb.mono HB.out.size))
  have HR2 := Lib.hid (HP2.out.below hb)
  clear hb HB HP1 HP2
  go_upto_region 4 with fail
  have hb := bel1 w2 (.cells #[.pointer none, .int .i64 0, .int .i64 0] 24)
  have hby := HB2.out.trans (hb.mono HB2.out.size)
  have hry := HR2.out.below hb
  obtain ⟨y, hy⟩ : ∃ y, w2.alloc (.cells #[.pointer none, .int .i64 0, .int .i64 0] 24) = y := ⟨_, rfl⟩
  rw [hy] at hby hry
  change Code.wp _ _ _ _ (w2.alloc (.cells #[.pointer none, .int .i64 0, .int .i64 0] 24))
  rw [hy]
  have HB3 := Lib.hid hby; have HR3 := Lib.hid hry
  obtain ⟨⟨r0, r1, r2⟩, f0, f1, f2⟩ := hry.all
  clear hy hby hry hb HB2 HR2
  go_wp2_with fail
  obtain ⟨g0, g1, g2, hbf⟩ := b3_set HR3.out HB3.out hBR.out (.pointer none) (.int .i64 0) (.int .i64 0)
  exact bodyPost_ret (v := .tuple #[.agg #[.pointer none, .int .i64 0, .int .i64 0], .int .i64 er]) (by simp [results, Try.results148, go_sem, g0, g1, g2]) rfl ⟨rfl, hbf⟩
theorem bhead_no (pa : Option Addr) (va vs k : Nat) (hk : k < 5) (er : Int) (her : (er != 0) = true) (HP : NoPart pa va vs er w) :
    Calls Try.prog 85 #[.agg #[.pointer pa, .int .i64 (va : Int), .int .i64 (vs : Int)], .int .i64 (k : Int)] w (Gives (.tuple #[.int .i64 0, .int .i64 0]) w) :=
  bhead_gen pa va vs (k : Int) er her fun X hX => bplace_gen pa va vs k hk er her (HP.below hX)
theorem bleast_no (pa : Option Addr) (va vs : Nat) (er : Int) (her : (er != 0) = true) (HP : NoPart pa va vs er w) (o : Int) :
    Calls Try.prog 18 #[.agg #[.pointer pa, .int .i64 (va : Int), .int .i64 (vs : Int)], .int .i64 o] w (Gives (.tuple #[.int .i64 0, .bool false]) w) := by
  have := bleast_gen (w := w) pa va vs (fun _ => 0) (fun _ => 0) o fun X k hX hk => bhead_no pa va vs k hk er her (HP.below hX)
  rwa [lsV_none (fun j _ => by unfold lsP; simp)] at this
theorem bcount_no (pa : Option Addr) (va vs : Nat) (er : Int) (her : (er != 0) = true) (HP : NoPart pa va vs er w) :
    Calls Try.prog 22 #[.agg #[.pointer pa, .int .i64 (va : Int), .int .i64 (vs : Int)]] w (Gives (.int .i64 0) w) :=
  bcount_gen (w := w) pa va vs (fun _ => 0) (fun _ => 0) (fun _ => by omega) fun X k hX hk => bhead_no pa va vs k hk er her (HP.below hX)
theorem ball_no (pa : Option Addr) (va vs k : Nat) (hk : k < 5) (er : Int) (her : (er != 0) = true) (HP : NoPart pa va vs er w) :
    Calls Try.prog 21 #[.agg #[.pointer pa, .int .i64 (va : Int), .int .i64 (vs : Int)], .int .i64 (k : Int)] w (Gives (.slice none 0 0) w) :=
  ball_none pa va vs 0 (k : Int) fun X hX => bhead_no pa va vs k hk er her (HP.below hX)
set_option maxHeartbeats 1000000 in
set_option maxRecDepth 100000 in
theorem bpush_no (pa : Option Addr) (va vs : Nat) (at_ er : Int) (her : (er != 0) = true) (HP : NoPart pa va vs er w) :
    Calls Try.prog 20 #[.agg #[.pointer pa, .int .i64 (va : Int), .int .i64 (vs : Int)], .int .i64 at_] w (Gives (.int .i64 er) w) := by
  have hB := bel1 w (.cells #[.pointer pa, .int .i64 (va : Int), .int .i64 (vs : Int)] 26)
  have HPP := Lib.hid (HP _ hB)
  have HB := Lib.hid hB
  clear hB HP
  go_enter Try.func20, Try.ntmps20
  go_wp2_with fail
  refine HPP.out.mono ?_
  rintro e w2 ⟨rfl, hb⟩
  have HB2 := Lib.hid (HB.out.trans (hb.mono HB.out.size))
  clear hb HB HPP
  go_upto_region 2 with fail
  have hb := bel1 w2 (.cells #[.pointer none, .int .i64 0, .int .i64 0] 24)
  have hby := HB2.out.trans (hb.mono HB2.out.size)
  obtain ⟨y, hy⟩ : ∃ y, w2.alloc (.cells #[.pointer none, .int .i64 0, .int .i64 0] 24) = y := ⟨_, rfl⟩
  rw [hy] at hby
  change Code.wp _ _ _ _ (w2.alloc (.cells #[.pointer none, .int .i64 0, .int .i64 0] 24))
  rw [hy]
  have HB3 := Lib.hid hby
  clear hy hby hb HB2
  go_wp2_with fail
  go_ret
  exact ⟨rfl, HB3.out⟩
set_option maxHeartbeats 1000000 in
set_option maxRecDepth 100000 in
theorem bpop_gen (pa : Option Addr) (va vs : Nat) (n k : Int)
    (HH : ∀ (X : World), Below w.heap.size w X → Calls Try.prog 85 #[.agg #[.pointer pa, .int .i64 (va : Int), .int .i64 (vs : Int)], .int .i64 k] X (Gives (.tuple #[.int .i64 n, .int .i64 0]) X)) :
    Calls Try.prog 17 #[.agg #[.pointer pa, .int .i64 (va : Int), .int .i64 (vs : Int)], .int .i64 k] w (Gives (.tuple #[.agg #[.int .i64 0, .int .i64 0, .int .u64 0, .int .i64 0], .bool false]) w) := by
  have hB := below2 w (.cells #[.pointer pa, .int .i64 (va : Int), .int .i64 (vs : Int)] 26) (.cells (cC 0 0 0 0) 35)
  have hpr := (pairs_new w #[.pointer pa, .int .i64 (va : Int), .int .i64 (vs : Int)] (cC 0 0 0 0) 26 35).2
  have HHH := Lib.hid (HH _ hB)
  have HSZ : Hid (∀ a o u x, (Try.prog.info? 35).map (·.size) = some (cC a o u x).size) := Lib.hid (fun a o u x => Try.infoChk)
  have hpb := (pairs_new w #[.pointer pa, .int .i64 (va : Int), .int .i64 (vs : Int)] (cC 0 0 0 0) 26 35).1
  clear HH
  go_enter Try.func17, Try.ntmps17
  go_upto_region 1 with fail
  obtain ⟨x, hxx⟩ : ∃ x, (w.alloc (.cells #[.pointer pa, .int .i64 (va : Int), .int .i64 (vs : Int)] 26)).alloc (.cells (cC 0 0 0 0) 35) = x := ⟨_, rfl⟩
  obtain ⟨B, hBB⟩ : ∃ B, w.heap.size = B := ⟨_, rfl⟩
  have hBR := Lib.hid (show w.heap.size ≤ B + 1 by omega)
  rw [hxx] at hB hpr HHH hpb
  rw [hBB] at hpr hpb
  change Code.wp _ _ _ _ ((w.alloc (.cells #[.pointer pa, .int .i64 (va : Int), .int .i64 (vs : Int)] 26)).alloc (.cells (cC 0 0 0 0) 35))
  try simp only [World.size_alloc]
  rw [hxx, hBB]
  have HR : Hid (CB (B + 1) 0 0 0 0 x) := Lib.hid hpr
  have HB := Lib.hid hB
  have hb3 : B3 26 B pa va vs x := hpb
  obtain ⟨⟨b0, b1, b2⟩, -, -, -⟩ := hb3.all
  clear hxx hBB hpr hB hpb hb3
  go_wp2_with fail
  refine HHH.out.mono ?_
  rintro e w2 ⟨rfl, hb⟩
  have HR2 := Lib.hid (show CB (B + 1) 0 0 0 0 w2 from blk_at hb HR.out)
  have HB2 := Lib.hid (HB.out.trans (hb.mono HB.out.size))
  clear hb HB HR HHH b0 b1 b2
  go_wp2_with (first | (refine wpList_store_row rfl 35 (.tmp 4) (.tmp 20) rfl (B + 1) (cC 0 0 0 0) rfl rfl 35 (cC 0 0 0 0) HR2.out (HSZ.out _ _ _ _) rfl (cC_one _ _ _ _) ?_))
  have hl := run_loadVar_row (P := Try.prog) (w2.setRow (B + 1) (cC 0 0 0 0)) (B + 1) 35 35 (cC 0 0 0 0) (0, 0) _ (setRow_ad HR2.out _) Try.underlying35 rfl (HSZ.out _ _ _ _)
  exact bodyPost_ret (v := .tuple #[cV 0 0 0 0, .bool false]) (by simp [results, Try.results17, asAddr, hl, Act.put]; rfl) rfl ⟨rfl, below_setRow HB2.out hBR.out _⟩
theorem bpop_no (pa : Option Addr) (va vs k : Nat) (hk : k < 5) (er : Int) (her : (er != 0) = true) (HP : NoPart pa va vs er w) :
    Calls Try.prog 17 #[.agg #[.pointer pa, .int .i64 (va : Int), .int .i64 (vs : Int)], .int .i64 (k : Int)] w (Gives (.tuple #[.agg #[.int .i64 0, .int .i64 0, .int .u64 0, .int .i64 0], .bool false]) w) :=
  bpop_gen pa va vs 0 (k : Int) fun X hX => bhead_no pa va vs k hk er her (HP.below hX)
/-- of no view, and of one that is too small -/
theorem nopart_nil : NoPart none 0 0 1 w := fun X _ => vpart_nil 0 40 (by omega) X
theorem nopart_small {A : Nat} {s : ASt} (h : On A s w) (va vs : Nat) (h1 : va ≤ 4294967296) (h40 : vs < 40) : NoPart (some ⟨A, 0, none⟩) va vs 3 w := fun X hX => by
  have k := on_part (h.below hX) va vs h1 (by omega) 0 40 (by omega)
  have e : addrV va vs 0 40 = -1 := by unfold addrV; rw [if_neg (by omega)]
  have e3 : thereE s.L s.es (-1) 40 = 3 := by
    unfold thereE; rw [if_neg]
    intro hh
    have := ((there_iff h.good (-1) 40).1 hh).1; omega
  rw [e, e3] at k
  exact k
end
/-- the variables of the statement -/
def NoV (B C A : Nat) (X : World) : Prop :=
  X.cell? ⟨B, 0, none⟩ = some (.pointer none) ∧ X.cell? ⟨B, 1, none⟩ = some (.int .i64 0) ∧ X.cell? ⟨B, 2, none⟩ = some (.int .i64 0) ∧ X.cell? ⟨C, 0, none⟩ = some (.pointer (some ⟨A, 0, none⟩)) ∧ X.cell? ⟨C, 1, none⟩ = some (.int .i64 0) ∧ X.cell? ⟨C, 2, none⟩ = some (.int .i64 39) ∧
  B3 26 B none 0 0 X ∧ B3 26 C (some ⟨A, 0, none⟩) 0 39 X
theorem nov_mk {B C A : Nat} {X : World} (h : B3 26 B none 0 0 X) (k : B3 26 C (some ⟨A, 0, none⟩) 0 39 X) : NoV B C A X :=
  ⟨h.all.1.1, h.all.1.2.1, h.all.1.2.2, k.all.1.1, k.all.1.2.1, k.all.1.2.2, h, k⟩
theorem NoV.below {B C A : Nat} {X Y : World} (h : NoV B C A X) (hb : Below X.heap.size X Y) : NoV B C A Y := nov_mk (h.2.2.2.2.2.2.1.below hb) (h.2.2.2.2.2.2.2.below hb)
theorem new2_39 : thereE (fullS 2 fun _ => 0).L (fullS 2 fun _ => 0).es 0 39 = 0 := by
  show thereE 2 [0, 2] 0 39 = 0
  rw [thereE_full (by omega) (by omega), if_pos (by omega)]
set_option maxHeartbeats 4000000 in
set_option maxRecDepth 100000 in
theorem bnone_all (w : World) : Calls Try.prog 3 #[] w (Gives (.bool true) w) := by
  have L1 : Hid (lenN 2 = 2) := Lib.hid (by decide)
  have E1 : Hid (commitE (newS 2) 0 2 = 0) := Lib.hid (by decide)
  have S1 : Hid (commitS (newS 2) 0 2 = fullS 2 (fun _ => 0)) := Lib.hid (full_new 2 2 (by decide) (by decide) (by decide))
  have T1 := Lib.hid new2_39
  have HV : Hid (∀ pu a k, ofV pu a k 0 = .agg #[.pointer pu, .int .i64 a, .int .i64 k]) := Lib.hid fun pu a k => by unfold ofV; rw [if_pos rfl]
  go_enter Try.func3, Try.ntmps3
  go_wp2_with fail
  refine (bopenL none 0 0 _).mono ?_
  rintro e w1 ⟨rfl, hb⟩
  have HB1 := Lib.hid hb
  clear hb
  go_upto_region 2 with fail
  have hb := bel1 w1 (.cells #[.pointer none, .int .i64 0, .int .i64 0] 26)
  have hv := B3.new 26 none 0 0 w1
  have hB := HB1.out.trans (hb.mono HB1.out.size)
  obtain ⟨x, hx⟩ : ∃ x, w1.alloc (.cells #[.pointer none, .int .i64 0, .int .i64 0] 26) = x := ⟨_, rfl⟩
  obtain ⟨B, hBB⟩ : ∃ B, w1.heap.size = B := ⟨_, rfl⟩
  rw [hx] at hv hB
  rw [hBB] at hv
  change Code.wp _ _ _ _ (w1.alloc (.cells #[.pointer none, .int .i64 0, .int .i64 0] 26))
  rw [hx, hBB]
  have HBX := Lib.hid hB; have HVX := Lib.hid hv
  clear hx hBB hb hv hB HB1
  go_wp2_with fail
  refine (on_new 2 _).mono ?_
  rintro e w2 ⟨A, rfl, hA, hx, hb, hm⟩
  rw [L1.out] at hx
  have HX2 := Lib.hid hx
  have HB2 := Lib.hid (hb.rebase HBX.out)
  have HV2 := Lib.hid (HVX.out.below hb.bel)
  clear hx hb hA hm HBX HVX
  go_wp2_with fail
  refine (on_commit HX2.out 0 2 (by omega)).mono ?_
  rintro e w3 ⟨rfl, hx, hg⟩
  rw [E1.out]; rw [S1.out] at hx
  have HX3 := Lib.hid hx
  have HB3 := Lib.hid (HB2.out.went hg)
  have HV3 := Lib.hid (HV2.out.went HX2.out hg (by decide) (by decide) (by decide))
  clear hx hg HX2 HB2 HV2
  go_wp2_with fail
  refine (on_of HX3.out 0 39 (by omega)).mono ?_
  rintro e w4 ⟨rfl, hb⟩
  rw [T1.out, HV.out]
  have HX4 := Lib.hid (HX3.out.below hb)
  have HB4 := Lib.hid (HB3.out.below HX3.out hb)
  have HV4 := Lib.hid (HV3.out.below hb)
  clear hb HX3 HB3 HV3
  go_upto_region 5 with fail
  have hb := bel1 w4 (.cells #[.pointer (some ⟨A, 0, none⟩), .int .i64 0, .int .i64 39] 24)
  have hu := B3.new 24 (some ⟨A, 0, none⟩) 0 39 w4
  have hxo := HX4.out.below hb
  have hbo := HB4.out.below HX4.out hb
  have hvo := HV4.out.below hb
  obtain ⟨x, hx⟩ : ∃ x, w4.alloc (.cells #[.pointer (some ⟨A, 0, none⟩), .int .i64 0, .int .i64 39] 24) = x := ⟨_, rfl⟩
  obtain ⟨U, hUU⟩ : ∃ B, w4.heap.size = B := ⟨_, rfl⟩
  rw [hx] at hu hxo hbo hvo
  rw [hUU] at hu
  change Code.wp _ _ _ _ (w4.alloc (.cells #[.pointer (some ⟨A, 0, none⟩), .int .i64 0, .int .i64 39] 24))
  rw [hx, hUU]
  have HX5 := Lib.hid hxo; have HB5 := Lib.hid hbo; have HV5 := Lib.hid hvo
  obtain ⟨⟨u0, u1, u2⟩, -, -, -⟩ := hu.all
  clear hx hUU hb hu hxo hbo hvo HX4 HB4 HV4
  go_wp2_with fail
  refine (bopenL (some ⟨A, 0, none⟩) 0 39 _).mono ?_
  rintro e w6 ⟨rfl, hb⟩
  have HX6 := Lib.hid (HX5.out.below hb)
  have HB6 := Lib.hid (HB5.out.below HX5.out hb)
  have HV6 := Lib.hid (HV5.out.below hb)
  clear hb HX5 HB5 HV5 u0 u1 u2
  go_upto_region 6 with fail
  have hb := bel1 w6 (.cells #[.pointer (some ⟨A, 0, none⟩), .int .i64 0, .int .i64 39] 26)
  have hu := B3.new 26 (some ⟨A, 0, none⟩) 0 39 w6
  have hxo := HX6.out.below hb
  have hbo := (HB6.out.below HX6.out hb).bel
  have hvo := HV6.out.below hb
  obtain ⟨x, hx⟩ : ∃ x, w6.alloc (.cells #[.pointer (some ⟨A, 0, none⟩), .int .i64 0, .int .i64 39] 26) = x := ⟨_, rfl⟩
  obtain ⟨C, hCC⟩ : ∃ B, w6.heap.size = B := ⟨_, rfl⟩
  rw [hx] at hu hxo hbo hvo
  rw [hCC] at hu
  change Code.wp _ _ _ _ (w6.alloc (.cells #[.pointer (some ⟨A, 0, none⟩), .int .i64 0, .int .i64 39] 26))
  rw [hx, hCC]
  have HN := Lib.hid (nov_mk hvo hu)
  have HO := Lib.hid hxo; have HB := Lib.hid hbo
  obtain ⟨s1, s2, s3, s4, s5, s6, -, -⟩ := HN.out
  clear hx hCC hb hu hxo hbo hvo HX6 HB6 HV6
  go_wp2_with fail
  refine (bpop_no none 0 0 0 (by omega) 1 rfl nopart_nil).mono ?_
  rintro e w7 ⟨rfl, hb⟩
  have HN7 := Lib.hid (HN.out.below hb); have HO7 := Lib.hid (HO.out.below hb); have HB7 := Lib.hid (HB.out.trans (hb.mono HB.out.size))
  clear hb HN HO HB s1 s2 s3 s4 s5 s6
  go_upto_region 7 with fail
  have hb := bel1 w7 (.cells (cC 0 0 0 0) 35)
  have hn := HN7.out.below hb; have ho := HO7.out.below hb; have hb2 := HB7.out.trans (hb.mono HB7.out.size)
  obtain ⟨x, hx⟩ : ∃ x, w7.alloc (.cells (cC 0 0 0 0) 35) = x := ⟨_, rfl⟩
  rw [hx] at hn ho hb2
  change Code.wp _ _ _ _ (w7.alloc (.cells (cC 0 0 0 0) 35))
  rw [hx]
  have HN := Lib.hid hn; have HO := Lib.hid ho; have HB := Lib.hid hb2
  obtain ⟨s1, s2, s3, s4, s5, s6, -, -⟩ := HN.out
  clear hx hb hn ho hb2 HN7 HO7 HB7
  go_wp2_with fail
  refine (bpop_no (some ⟨A, 0, none⟩) 0 39 0 (by omega) 3 rfl (nopart_small HO.out 0 39 (by omega) (by omega))).mono ?_
  rintro e w8 ⟨rfl, hb⟩
  have HN7 := Lib.hid (HN.out.below hb); have HO7 := Lib.hid (HO.out.below hb); have HB7 := Lib.hid (HB.out.trans (hb.mono HB.out.size))
  clear hb HN HO HB s1 s2 s3 s4 s5 s6
  go_upto_region 8 with fail
  have hb := bel1 w8 (.cells (cC 0 0 0 0) 35)
  have hn := HN7.out.below hb; have ho := HO7.out.below hb; have hb2 := HB7.out.trans (hb.mono HB7.out.size)
  obtain ⟨x, hx⟩ : ∃ x, w8.alloc (.cells (cC 0 0 0 0) 35) = x := ⟨_, rfl⟩
  rw [hx] at hn ho hb2
  change Code.wp _ _ _ _ (w8.alloc (.cells (cC 0 0 0 0) 35))
  rw [hx]
  have HN := Lib.hid hn; have HO := Lib.hid ho; have HB := Lib.hid hb2
  obtain ⟨s1, s2, s3, s4, s5, s6, -, -⟩ := HN.out
  clear hx hb hn ho hb2 HN7 HO7 HB7
  go_wp2_with fail
  refine (bleast_no (some ⟨A, 0, none⟩) 0 39 3 rfl (nopart_small HO.out 0 39 (by omega) (by omega)) 0).mono ?_
  rintro e w9 ⟨rfl, hb⟩
  have HN7 := Lib.hid (HN.out.below hb); have HO7 := Lib.hid (HO.out.below hb); have HB7 := Lib.hid (HB.out.trans (hb.mono HB.out.size))
  clear hb HN HO HB s1 s2 s3 s4 s5 s6
  go_upto_region 9 with fail
  have hS0 : NoV B C A w9.drew := HN7.out.below (Below.refl _ _).drew
  have HO := Lib.hid (HO7.out.below (Below.refl w9.heap.size w9).drew)
  have HB := Lib.hid (HB7.out.trans ((Below.refl w9.heap.size w9).drew.mono HB7.out.size))
  clear HN7 HO7 HB7
  refine wp_region_held_drew (S := NoV B C A) (by kernel_rfl) hS0 (fun hHeld => ?_)
  clear hS0
  refine wpAnyH_ready (rs := [0]) (by kernel_rfl) (by simp) (AllReadyH.cons rfl (fun K1 hK1 => ?_) AllReadyH.nil)
  go_simp
  refine (awake11_calls _).mono ?_
  rintro e x1 ⟨rfl, hb1⟩
  have hS1 := hHeld.below hb1
  have HO2 := Lib.hid (HO.out.below hb1); have HB2 := Lib.hid (HB.out.trans (hb1.mono HB.out.size))
  clear hb1 hHeld HO HB
  refine hK1.out _ _ hS1 (fun hHeld => ?_)
  clear hK1 hS1
  have HO := HO2; have HB := HB2
  clear HO2 HB2
  try simp only [Act.put, List.getElem_toArray, List.getElem_cons_zero, List.getElem_cons_succ, List.setIfInBounds_toArray, List.set_cons_zero, List.set_cons_succ]
  refine wpAnyH_take (i := 1) (v := (.bool true)) rfl (by kernel_rfl) (by kernel_rfl) (by kernel_rfl) (fun _ _ _ h => h) (Or.inl ⟨by rfl, fun X hS => ?_⟩) hHeld ?_
  · obtain ⟨s1, s2, s3, s4, s5, s6, _, _⟩ := hS
    go_simp
  try simp only [Act.put, List.getElem_toArray, List.getElem_cons_zero, List.getElem_cons_succ, List.setIfInBounds_toArray, List.set_cons_zero, List.set_cons_succ]
  refine wpAnyH_take (i := 2) (v := (.int .i64 0)) rfl (by kernel_rfl) (by kernel_rfl) (by kernel_rfl) (fun _ _ _ h => h) (Or.inl ⟨by rfl, fun X hS => ?_⟩) hHeld ?_
  · obtain ⟨s1, s2, s3, s4, s5, s6, _, _⟩ := hS
    go_simp
  try simp only [Act.put, List.getElem_toArray, List.getElem_cons_zero, List.getElem_cons_succ, List.setIfInBounds_toArray, List.set_cons_zero, List.set_cons_succ]
  refine wpAnyH_take (i := 3) (v := (.bool true)) rfl (by kernel_rfl) (by kernel_rfl) (by kernel_rfl) (fun _ _ _ h => h) (Or.inl ⟨by rfl, fun X hS => ?_⟩) hHeld ?_
  · obtain ⟨s1, s2, s3, s4, s5, s6, _, _⟩ := hS
    go_simp
  try simp only [Act.put, List.getElem_toArray, List.getElem_cons_zero, List.getElem_cons_succ, List.setIfInBounds_toArray, List.set_cons_zero, List.set_cons_succ]
  refine wpAnyH_take (i := 4) (v := (.bool true)) rfl (by kernel_rfl) (by kernel_rfl) (by kernel_rfl) (fun _ _ _ h => h) (Or.inl ⟨by rfl, fun X hS => ?_⟩) hHeld ?_
  · obtain ⟨s1, s2, s3, s4, s5, s6, _, _⟩ := hS
    go_simp
  try simp only [Act.put, List.getElem_toArray, List.getElem_cons_zero, List.getElem_cons_succ, List.setIfInBounds_toArray, List.set_cons_zero, List.set_cons_succ]
  refine wpAnyH_take (i := 5) (v := (.bool true)) rfl (by kernel_rfl) (by kernel_rfl) (by kernel_rfl) (fun _ _ _ h => h) (Or.inl ⟨by rfl, fun X hS => ?_⟩) hHeld ?_
  · obtain ⟨s1, s2, s3, s4, s5, s6, _, _⟩ := hS
    go_simp
  try simp only [Act.put, List.getElem_toArray, List.getElem_cons_zero, List.getElem_cons_succ, List.setIfInBounds_toArray, List.set_cons_zero, List.set_cons_succ]
  refine wpAnyH_take (i := 6) (v := (.int .i64 0)) rfl (by kernel_rfl) (by kernel_rfl) (by kernel_rfl) (fun _ _ _ h => h) (Or.inl ⟨by rfl, fun X hS => ?_⟩) hHeld ?_
  · obtain ⟨s1, s2, s3, s4, s5, s6, _, _⟩ := hS
    go_simp
  try simp only [Act.put, List.getElem_toArray, List.getElem_cons_zero, List.getElem_cons_succ, List.setIfInBounds_toArray, List.set_cons_zero, List.set_cons_succ]
  refine wpAnyH_take (i := 7) (v := (.bool true)) rfl (by kernel_rfl) (by kernel_rfl) (by kernel_rfl) (fun _ _ _ h => h) (Or.inl ⟨by rfl, fun X hS => ?_⟩) hHeld ?_
  · obtain ⟨s1, s2, s3, s4, s5, s6, _, _⟩ := hS
    go_simp
  try simp only [Act.put, List.getElem_toArray, List.getElem_cons_zero, List.getElem_cons_succ, List.setIfInBounds_toArray, List.set_cons_zero, List.set_cons_succ]
  refine wpAnyH_take (i := 8) (v := (.bool true)) rfl (by kernel_rfl) (by kernel_rfl) (by kernel_rfl) (fun _ _ _ h => h) (Or.inl ⟨by rfl, fun X hS => ?_⟩) hHeld ?_
  · obtain ⟨s1, s2, s3, s4, s5, s6, _, _⟩ := hS
    go_simp
  try simp only [Act.put, List.getElem_toArray, List.getElem_cons_zero, List.getElem_cons_succ, List.setIfInBounds_toArray, List.set_cons_zero, List.set_cons_succ]
  refine wpAnyH_take (i := 9) (v := (.bool true)) rfl (by kernel_rfl) (by kernel_rfl) (by kernel_rfl) (fun _ _ _ h => h) (Or.inl ⟨by rfl, fun X hS => ?_⟩) hHeld ?_
  · obtain ⟨s1, s2, s3, s4, s5, s6, _, _⟩ := hS
    go_simp
  try simp only [Act.put, List.getElem_toArray, List.getElem_cons_zero, List.getElem_cons_succ, List.setIfInBounds_toArray, List.set_cons_zero, List.set_cons_succ]
  refine wpAnyH_take (i := 10) (v := (.agg #[.pointer none, .int .i64 0, .int .i64 0])) rfl (by kernel_rfl) (by kernel_rfl) (by kernel_rfl) (fun _ _ _ h => h) (Or.inl ⟨by rfl, fun X hS => ?_⟩) hHeld ?_
  · obtain ⟨s1, s2, s3, s4, s5, s6, _, _⟩ := hS
    go_simp
  try simp only [Act.put, List.getElem_toArray, List.getElem_cons_zero, List.getElem_cons_succ, List.setIfInBounds_toArray, List.set_cons_zero, List.set_cons_succ]
  refine wpAnyH_ready (rs := [11]) (by kernel_rfl) (by simp) (AllReadyH.cons rfl (fun K1 hK1 => ?_) AllReadyH.nil)
  go_simp
  refine (bpush_no none 0 0 0 1 rfl nopart_nil).mono ?_
  rintro e x1 ⟨rfl, hb1⟩
  have hS1 := hHeld.below hb1
  have HO2 := Lib.hid (HO.out.below hb1); have HB2 := Lib.hid (HB.out.trans (hb1.mono HB.out.size))
  clear hb1 hHeld HO HB
  refine hK1.out _ _ hS1 (fun hHeld => ?_)
  clear hK1 hS1
  have HO := HO2; have HB := HB2
  clear HO2 HB2
  try simp only [Act.put, List.getElem_toArray, List.getElem_cons_zero, List.getElem_cons_succ, List.setIfInBounds_toArray, List.set_cons_zero, List.set_cons_succ]
  refine wpAnyH_take (i := 12) (v := (.bool true)) rfl (by kernel_rfl) (by kernel_rfl) (by kernel_rfl) (fun _ _ _ h => h) (Or.inl ⟨by rfl, fun X hS => ?_⟩) hHeld ?_
  · obtain ⟨s1, s2, s3, s4, s5, s6, _, _⟩ := hS
    go_simp
  try simp only [Act.put, List.getElem_toArray, List.getElem_cons_zero, List.getElem_cons_succ, List.setIfInBounds_toArray, List.set_cons_zero, List.set_cons_succ]
  refine wpAnyH_take (i := 13) (v := (.bool true)) rfl (by kernel_rfl) (by kernel_rfl) (by kernel_rfl) (fun _ _ _ h => h) (Or.inl ⟨by rfl, fun X hS => ?_⟩) hHeld ?_
  · obtain ⟨s1, s2, s3, s4, s5, s6, _, _⟩ := hS
    go_simp
  try simp only [Act.put, List.getElem_toArray, List.getElem_cons_zero, List.getElem_cons_succ, List.setIfInBounds_toArray, List.set_cons_zero, List.set_cons_succ]
  refine wpAnyH_take (i := 14) (v := (.bool true)) rfl (by kernel_rfl) (by kernel_rfl) (by kernel_rfl) (fun _ _ _ h => h) (Or.inl ⟨by rfl, fun X hS => ?_⟩) hHeld ?_
  · obtain ⟨s1, s2, s3, s4, s5, s6, _, _⟩ := hS
    go_simp
  try simp only [Act.put, List.getElem_toArray, List.getElem_cons_zero, List.getElem_cons_succ, List.setIfInBounds_toArray, List.set_cons_zero, List.set_cons_succ]
  refine wpAnyH_take (i := 15) (v := (.agg #[.pointer (some ⟨A, 0, none⟩), .int .i64 0, .int .i64 39])) rfl (by kernel_rfl) (by kernel_rfl) (by kernel_rfl) (fun _ _ _ h => h) (Or.inl ⟨by rfl, fun X hS => ?_⟩) hHeld ?_
  · obtain ⟨s1, s2, s3, s4, s5, s6, _, _⟩ := hS
    go_simp
  try simp only [Act.put, List.getElem_toArray, List.getElem_cons_zero, List.getElem_cons_succ, List.setIfInBounds_toArray, List.set_cons_zero, List.set_cons_succ]
  refine wpAnyH_ready (rs := [16]) (by kernel_rfl) (by simp) (AllReadyH.cons rfl (fun K1 hK1 => ?_) AllReadyH.nil)
  go_simp
  refine (bpush_no (some ⟨A, 0, none⟩) 0 39 0 3 rfl (nopart_small HO.out 0 39 (by omega) (by omega))).mono ?_
  rintro e x1 ⟨rfl, hb1⟩
  have hS1 := hHeld.below hb1
  have HO2 := Lib.hid (HO.out.below hb1); have HB2 := Lib.hid (HB.out.trans (hb1.mono HB.out.size))
  clear hb1 hHeld HO HB
  refine hK1.out _ _ hS1 (fun hHeld => ?_)
  clear hK1 hS1
  have HO := HO2; have HB := HB2
  clear HO2 HB2
  try simp only [Act.put, List.getElem_toArray, List.getElem_cons_zero, List.getElem_cons_succ, List.setIfInBounds_toArray, List.set_cons_zero, List.set_cons_succ]
  refine wpAnyH_take (i := 17) (v := (.bool true)) rfl (by kernel_rfl) (by kernel_rfl) (by kernel_rfl) (fun _ _ _ h => h) (Or.inl ⟨by rfl, fun X hS => ?_⟩) hHeld ?_
  · obtain ⟨s1, s2, s3, s4, s5, s6, _, _⟩ := hS
    go_simp
  try simp only [Act.put, List.getElem_toArray, List.getElem_cons_zero, List.getElem_cons_succ, List.setIfInBounds_toArray, List.set_cons_zero, List.set_cons_succ]
  refine wpAnyH_take (i := 18) (v := (.bool true)) rfl (by kernel_rfl) (by kernel_rfl) (by kernel_rfl) (fun _ _ _ h => h) (Or.inl ⟨by rfl, fun X hS => ?_⟩) hHeld ?_
  · obtain ⟨s1, s2, s3, s4, s5, s6, _, _⟩ := hS
    go_simp
  try simp only [Act.put, List.getElem_toArray, List.getElem_cons_zero, List.getElem_cons_succ, List.setIfInBounds_toArray, List.set_cons_zero, List.set_cons_succ]
  refine wpAnyH_take (i := 19) (v := (.bool true)) rfl (by kernel_rfl) (by kernel_rfl) (by kernel_rfl) (fun _ _ _ h => h) (Or.inl ⟨by rfl, fun X hS => ?_⟩) hHeld ?_
  · obtain ⟨s1, s2, s3, s4, s5, s6, _, _⟩ := hS
    go_simp
  try simp only [Act.put, List.getElem_toArray, List.getElem_cons_zero, List.getElem_cons_succ, List.setIfInBounds_toArray, List.set_cons_zero, List.set_cons_succ]
  refine wpAnyH_take (i := 20) (v := (.bool false)) rfl (by kernel_rfl) (by kernel_rfl) (by kernel_rfl) (fun _ _ _ h => h) (Or.inl ⟨by rfl, fun X hS => ?_⟩) hHeld ?_
  · obtain ⟨s1, s2, s3, s4, s5, s6, _, _⟩ := hS
    go_simp
  try simp only [Act.put, List.getElem_toArray, List.getElem_cons_zero, List.getElem_cons_succ, List.setIfInBounds_toArray, List.set_cons_zero, List.set_cons_succ]
  refine wpAnyH_take (i := 21) (v := (.bool true)) rfl (by kernel_rfl) (by kernel_rfl) (by kernel_rfl) (fun _ _ _ h => h) (Or.inl ⟨by rfl, fun X hS => ?_⟩) hHeld ?_
  · obtain ⟨s1, s2, s3, s4, s5, s6, _, _⟩ := hS
    go_simp
  try simp only [Act.put, List.getElem_toArray, List.getElem_cons_zero, List.getElem_cons_succ, List.setIfInBounds_toArray, List.set_cons_zero, List.set_cons_succ]
  refine wpAnyH_take (i := 22) (v := (.bool true)) rfl (by kernel_rfl) (by kernel_rfl) (by kernel_rfl) (fun _ _ _ h => h) (Or.inl ⟨by rfl, fun X hS => ?_⟩) hHeld ?_
  · obtain ⟨s1, s2, s3, s4, s5, s6, _, _⟩ := hS
    go_simp
  try simp only [Act.put, List.getElem_toArray, List.getElem_cons_zero, List.getElem_cons_succ, List.setIfInBounds_toArray, List.set_cons_zero, List.set_cons_succ]
  refine wpAnyH_take (i := 23) (v := (.bool true)) rfl (by kernel_rfl) (by kernel_rfl) (by kernel_rfl) (fun _ _ _ h => h) (Or.inl ⟨by rfl, fun X hS => ?_⟩) hHeld ?_
  · obtain ⟨s1, s2, s3, s4, s5, s6, _, _⟩ := hS
    go_simp
  try simp only [Act.put, List.getElem_toArray, List.getElem_cons_zero, List.getElem_cons_succ, List.setIfInBounds_toArray, List.set_cons_zero, List.set_cons_succ]
  refine wpAnyH_take (i := 24) (v := (.bool false)) rfl (by kernel_rfl) (by kernel_rfl) (by kernel_rfl) (fun _ _ _ h => h) (Or.inl ⟨by rfl, fun X hS => ?_⟩) hHeld ?_
  · obtain ⟨s1, s2, s3, s4, s5, s6, _, _⟩ := hS
    go_simp
  try simp only [Act.put, List.getElem_toArray, List.getElem_cons_zero, List.getElem_cons_succ, List.setIfInBounds_toArray, List.set_cons_zero, List.set_cons_succ]
  refine wpAnyH_take (i := 25) (v := (.bool true)) rfl (by kernel_rfl) (by kernel_rfl) (by kernel_rfl) (fun _ _ _ h => h) (Or.inl ⟨by rfl, fun X hS => ?_⟩) hHeld ?_
  · obtain ⟨s1, s2, s3, s4, s5, s6, _, _⟩ := hS
    go_simp
  try simp only [Act.put, List.getElem_toArray, List.getElem_cons_zero, List.getElem_cons_succ, List.setIfInBounds_toArray, List.set_cons_zero, List.set_cons_succ]
  refine wpAnyH_take (i := 26) (v := (.bool true)) rfl (by kernel_rfl) (by kernel_rfl) (by kernel_rfl) (fun _ _ _ h => h) (Or.inl ⟨by rfl, fun X hS => ?_⟩) hHeld ?_
  · obtain ⟨s1, s2, s3, s4, s5, s6, _, _⟩ := hS
    go_simp
  try simp only [Act.put, List.getElem_toArray, List.getElem_cons_zero, List.getElem_cons_succ, List.setIfInBounds_toArray, List.set_cons_zero, List.set_cons_succ]
  refine wpAnyH_take (i := 27) (v := (.bool true)) rfl (by kernel_rfl) (by kernel_rfl) (by kernel_rfl) (fun _ _ _ h => h) (Or.inl ⟨by rfl, fun X hS => ?_⟩) hHeld ?_
  · obtain ⟨s1, s2, s3, s4, s5, s6, _, _⟩ := hS
    go_simp
  try simp only [Act.put, List.getElem_toArray, List.getElem_cons_zero, List.getElem_cons_succ, List.setIfInBounds_toArray, List.set_cons_zero, List.set_cons_succ]
  refine wpAnyH_take (i := 28) (v := (.bool false)) rfl (by kernel_rfl) (by kernel_rfl) (by kernel_rfl) (fun _ _ _ h => h) (Or.inl ⟨by rfl, fun X hS => ?_⟩) hHeld ?_
  · obtain ⟨s1, s2, s3, s4, s5, s6, _, _⟩ := hS
    go_simp
  try simp only [Act.put, List.getElem_toArray, List.getElem_cons_zero, List.getElem_cons_succ, List.setIfInBounds_toArray, List.set_cons_zero, List.set_cons_succ]
  refine wpAnyH_take (i := 29) (v := (.bool true)) rfl (by kernel_rfl) (by kernel_rfl) (by kernel_rfl) (fun _ _ _ h => h) (Or.inl ⟨by rfl, fun X hS => ?_⟩) hHeld ?_
  · obtain ⟨s1, s2, s3, s4, s5, s6, _, _⟩ := hS
    go_simp
  try simp only [Act.put, List.getElem_toArray, List.getElem_cons_zero, List.getElem_cons_succ, List.setIfInBounds_toArray, List.set_cons_zero, List.set_cons_succ]
  refine wpAnyH_take (i := 30) (v := (.bool true)) rfl (by kernel_rfl) (by kernel_rfl) (by kernel_rfl) (fun _ _ _ h => h) (Or.inl ⟨by rfl, fun X hS => ?_⟩) hHeld ?_
  · obtain ⟨s1, s2, s3, s4, s5, s6, _, _⟩ := hS
    go_simp
  try simp only [Act.put, List.getElem_toArray, List.getElem_cons_zero, List.getElem_cons_succ, List.setIfInBounds_toArray, List.set_cons_zero, List.set_cons_succ]
  refine wpAnyH_take (i := 31) (v := (.bool true)) rfl (by kernel_rfl) (by kernel_rfl) (by kernel_rfl) (fun _ _ _ h => h) (Or.inl ⟨by rfl, fun X hS => ?_⟩) hHeld ?_
  · obtain ⟨s1, s2, s3, s4, s5, s6, _, _⟩ := hS
    go_simp
  try simp only [Act.put, List.getElem_toArray, List.getElem_cons_zero, List.getElem_cons_succ, List.setIfInBounds_toArray, List.set_cons_zero, List.set_cons_succ]
  refine wpAnyH_take (i := 32) (v := (.agg #[.pointer none, .int .i64 0, .int .i64 0])) rfl (by kernel_rfl) (by kernel_rfl) (by kernel_rfl) (fun _ _ _ h => h) (Or.inl ⟨by rfl, fun X hS => ?_⟩) hHeld ?_
  · obtain ⟨s1, s2, s3, s4, s5, s6, _, _⟩ := hS
    go_simp
  try simp only [Act.put, List.getElem_toArray, List.getElem_cons_zero, List.getElem_cons_succ, List.setIfInBounds_toArray, List.set_cons_zero, List.set_cons_succ]
  refine wpAnyH_take (i := 35) (v := (.agg #[.pointer (some ⟨A, 0, none⟩), .int .i64 0, .int .i64 39])) rfl (by kernel_rfl) (by kernel_rfl) (by kernel_rfl) (fun _ _ _ h => h) (Or.inl ⟨by rfl, fun X hS => ?_⟩) hHeld ?_
  · obtain ⟨s1, s2, s3, s4, s5, s6, _, _⟩ := hS
    go_simp
  try simp only [Act.put, List.getElem_toArray, List.getElem_cons_zero, List.getElem_cons_succ, List.setIfInBounds_toArray, List.set_cons_zero, List.set_cons_succ]
  refine wpAnyH_take (i := 39) (v := (.agg #[.pointer none, .int .i64 0, .int .i64 0])) rfl (by kernel_rfl) (by kernel_rfl) (by kernel_rfl) (fun _ _ _ h => h) (Or.inl ⟨by rfl, fun X hS => ?_⟩) hHeld ?_
  · obtain ⟨s1, s2, s3, s4, s5, s6, _, _⟩ := hS
    go_simp
  try simp only [Act.put, List.getElem_toArray, List.getElem_cons_zero, List.getElem_cons_succ, List.setIfInBounds_toArray, List.set_cons_zero, List.set_cons_succ]
  refine wpAnyH_take (i := 42) (v := (.agg #[.pointer (some ⟨A, 0, none⟩), .int .i64 0, .int .i64 39])) rfl (by kernel_rfl) (by kernel_rfl) (by kernel_rfl) (fun _ _ _ h => h) (Or.inl ⟨by rfl, fun X hS => ?_⟩) hHeld ?_
  · obtain ⟨s1, s2, s3, s4, s5, s6, _, _⟩ := hS
    go_simp
  try simp only [Act.put, List.getElem_toArray, List.getElem_cons_zero, List.getElem_cons_succ, List.setIfInBounds_toArray, List.set_cons_zero, List.set_cons_succ]
  refine wpAnyH_ready (rs := [33]) (by kernel_rfl) (by simp) (AllReadyH.cons rfl (fun K1 hK1 => ?_) AllReadyH.nil)
  go_simp
  refine (ball_no none 0 0 0 (by omega) 1 rfl nopart_nil).mono ?_
  rintro e x1 ⟨rfl, hb1⟩
  have hS1 := hHeld.below hb1
  have HO2 := Lib.hid (HO.out.below hb1); have HB2 := Lib.hid (HB.out.trans (hb1.mono HB.out.size))
  clear hb1 hHeld HO HB
  refine hK1.out _ _ hS1 (fun hHeld => ?_)
  clear hK1 hS1
  have HO := HO2; have HB := HB2
  clear HO2 HB2
  try simp only [Act.put, List.getElem_toArray, List.getElem_cons_zero, List.getElem_cons_succ, List.setIfInBounds_toArray, List.set_cons_zero, List.set_cons_succ]
  refine wpAnyH_take (i := 34) (v := (.int .i64 0)) rfl (by kernel_rfl) (by kernel_rfl) (by kernel_rfl) (fun _ _ _ h => h) (Or.inl ⟨by rfl, fun X hS => ?_⟩) hHeld ?_
  · obtain ⟨s1, s2, s3, s4, s5, s6, _, _⟩ := hS
    go_simp
  try simp only [Act.put, List.getElem_toArray, List.getElem_cons_zero, List.getElem_cons_succ, List.setIfInBounds_toArray, List.set_cons_zero, List.set_cons_succ]
  refine wpAnyH_ready (rs := [36]) (by kernel_rfl) (by simp) (AllReadyH.cons rfl (fun K1 hK1 => ?_) AllReadyH.nil)
  go_simp
  refine (ball_no (some ⟨A, 0, none⟩) 0 39 0 (by omega) 3 rfl (nopart_small HO.out 0 39 (by omega) (by omega))).mono ?_
  rintro e x1 ⟨rfl, hb1⟩
  have hS1 := hHeld.below hb1
  have HO2 := Lib.hid (HO.out.below hb1); have HB2 := Lib.hid (HB.out.trans (hb1.mono HB.out.size))
  clear hb1 hHeld HO HB
  refine hK1.out _ _ hS1 (fun hHeld => ?_)
  clear hK1 hS1
  have HO := HO2; have HB := HB2
  clear HO2 HB2
  try simp only [Act.put, List.getElem_toArray, List.getElem_cons_zero, List.getElem_cons_succ, List.setIfInBounds_toArray, List.set_cons_zero, List.set_cons_succ]
  refine wpAnyH_take (i := 37) (v := (.int .i64 0)) rfl (by kernel_rfl) (by kernel_rfl) (by kernel_rfl) (fun _ _ _ h => h) (Or.inl ⟨by rfl, fun X hS => ?_⟩) hHeld ?_
  · obtain ⟨s1, s2, s3, s4, s5, s6, _, _⟩ := hS
    go_simp
  try simp only [Act.put, List.getElem_toArray, List.getElem_cons_zero, List.getElem_cons_succ, List.setIfInBounds_toArray, List.set_cons_zero, List.set_cons_succ]
  refine wpAnyH_take (i := 38) (v := (.int .i64 0)) rfl (by kernel_rfl) (by kernel_rfl) (by kernel_rfl) (fun _ _ _ h => h) (Or.inl ⟨by rfl, fun X hS => ?_⟩) hHeld ?_
  · obtain ⟨s1, s2, s3, s4, s5, s6, _, _⟩ := hS
    go_simp; rfl
  try simp only [Act.put, List.getElem_toArray, List.getElem_cons_zero, List.getElem_cons_succ, List.setIfInBounds_toArray, List.set_cons_zero, List.set_cons_succ]
  refine wpAnyH_ready (rs := [40]) (by kernel_rfl) (by simp) (AllReadyH.cons rfl (fun K1 hK1 => ?_) AllReadyH.nil)
  go_simp
  refine (bcount_no none 0 0 1 rfl nopart_nil).mono ?_
  rintro e x1 ⟨rfl, hb1⟩
  have hS1 := hHeld.below hb1
  have HO2 := Lib.hid (HO.out.below hb1); have HB2 := Lib.hid (HB.out.trans (hb1.mono HB.out.size))
  clear hb1 hHeld HO HB
  refine hK1.out _ _ hS1 (fun hHeld => ?_)
  clear hK1 hS1
  have HO := HO2; have HB := HB2
  clear HO2 HB2
  try simp only [Act.put, List.getElem_toArray, List.getElem_cons_zero, List.getElem_cons_succ, List.setIfInBounds_toArray, List.set_cons_zero, List.set_cons_succ]
  refine wpAnyH_take (i := 41) (v := (.int .i64 0)) rfl (by kernel_rfl) (by kernel_rfl) (by kernel_rfl) (fun _ _ _ h => h) (Or.inl ⟨by rfl, fun X hS => ?_⟩) hHeld ?_
  · obtain ⟨s1, s2, s3, s4, s5, s6, _, _⟩ := hS
    go_simp; rfl
  try simp only [Act.put, List.getElem_toArray, List.getElem_cons_zero, List.getElem_cons_succ, List.setIfInBounds_toArray, List.set_cons_zero, List.set_cons_succ]
  refine wpAnyH_ready (rs := [43]) (by kernel_rfl) (by simp) (AllReadyH.cons rfl (fun K1 hK1 => ?_) AllReadyH.nil)
  go_simp
  refine (bcount_no (some ⟨A, 0, none⟩) 0 39 3 rfl (nopart_small HO.out 0 39 (by omega) (by omega))).mono ?_
  rintro e x1 ⟨rfl, hb1⟩
  have hS1 := hHeld.below hb1
  have HO2 := Lib.hid (HO.out.below hb1); have HB2 := Lib.hid (HB.out.trans (hb1.mono HB.out.size))
  clear hb1 hHeld HO HB
  refine hK1.out _ _ hS1 (fun hHeld => ?_)
  clear hK1 hS1
  have HO := HO2; have HB := HB2
  clear HO2 HB2
  try simp only [Act.put, List.getElem_toArray, List.getElem_cons_zero, List.getElem_cons_succ, List.setIfInBounds_toArray, List.set_cons_zero, List.set_cons_succ]
  refine wpAnyH_take (i := 44) (v := (.int .i64 0)) rfl (by kernel_rfl) (by kernel_rfl) (by kernel_rfl) (fun _ _ _ h => h) (Or.inl ⟨by rfl, fun X hS => ?_⟩) hHeld ?_
  · obtain ⟨s1, s2, s3, s4, s5, s6, _, _⟩ := hS
    go_simp; rfl
  try simp only [Act.put, List.getElem_toArray, List.getElem_cons_zero, List.getElem_cons_succ, List.setIfInBounds_toArray, List.set_cons_zero, List.set_cons_succ]
  refine wpAnyH_take (i := 45) (v := (.bool true)) rfl (by kernel_rfl) (by kernel_rfl) (by kernel_rfl) (fun _ _ _ h => h) (Or.inl ⟨by rfl, fun X hS => ?_⟩) hHeld ?_
  · obtain ⟨s1, s2, s3, s4, s5, s6, _, _⟩ := hS
    go_simp
  try simp only [Act.put, List.getElem_toArray, List.getElem_cons_zero, List.getElem_cons_succ, List.setIfInBounds_toArray, List.set_cons_zero, List.set_cons_succ]
  refine wpAnyH_take (i := 46) (v := (.bool true)) rfl (by kernel_rfl) (by kernel_rfl) (by kernel_rfl) (fun _ _ _ h => h) (Or.inl ⟨by rfl, fun X hS => ?_⟩) hHeld ?_
  · obtain ⟨s1, s2, s3, s4, s5, s6, _, _⟩ := hS
    go_simp
  try simp only [Act.put, List.getElem_toArray, List.getElem_cons_zero, List.getElem_cons_succ, List.setIfInBounds_toArray, List.set_cons_zero, List.set_cons_succ]
  refine wpAnyH_take (i := 47) (v := (.bool true)) rfl (by kernel_rfl) (by kernel_rfl) (by kernel_rfl) (fun _ _ _ h => h) (Or.inl ⟨by rfl, fun X hS => ?_⟩) hHeld ?_
  · obtain ⟨s1, s2, s3, s4, s5, s6, _, _⟩ := hS
    go_simp
  try simp only [Act.put, List.getElem_toArray, List.getElem_cons_zero, List.getElem_cons_succ, List.setIfInBounds_toArray, List.set_cons_zero, List.set_cons_succ]
  refine wpAnyH_done (by kernel_rfl) ?_ _
  clear hHeld
  go_wp2_with fail
  go_ret
  exact ⟨rfl, HB.out⟩
end Go.Proofs.Ytoineackmpafdaa.Bt
/- Bins where a call does nothing: no such bin, a chunk that isn't one, or may not be put in; All. (Written by gen_bnh.py.) -/
namespace Go.Proofs.Ytoineackmpafdaa.Bt
open Go Go.RowKit Go.Shelf
set_option linter.unusedVariables false
set_option linter.unusedSimpArgs false
section
variable {w : World}
set_option maxHeartbeats 1000000 in
set_option maxRecDepth 100000 in
theorem bplace_arg (pa : Option Addr) (va vs : Nat) (k : Int) (hk : ¬ (0 ≤ k ∧ k ≤ 4)) :
    Calls Try.prog 148 #[.agg #[.pointer pa, .int .i64 (va : Int), .int .i64 (vs : Int)], .int .i64 k] w (Gives (.tuple #[.agg #[.pointer none, .int .i64 0, .int .i64 0], .int .i64 2]) w) := by
  have HI := Lib.hid (fun w => isbin_any k w)
  rw [decide_eq_false hk] at HI
  have hB := below2 w (.cells #[.pointer pa, .int .i64 (va : Int), .int .i64 (vs : Int)] 26) (.cells #[.pointer none, .int .i64 0, .int .i64 0] 24)
  have HB := Lib.hid hB
  have HP := Lib.hid (pairs_new w #[.pointer pa, .int .i64 (va : Int), .int .i64 (vs : Int)] #[.pointer none, .int .i64 0, .int .i64 0] 26 24)
  clear hB hk
  go_enter Try.func148, Try.ntmps148
  go_upto_region 1 with fail
  obtain ⟨x, hx⟩ : ∃ x, (w.alloc (.cells #[.pointer pa, .int .i64 (va : Int), .int .i64 (vs : Int)] 26)).alloc (.cells #[.pointer none, .int .i64 0, .int .i64 0] 24) = x := ⟨_, rfl⟩
  obtain ⟨B, hB⟩ : ∃ B, w.heap.size = B := ⟨_, rfl⟩
  have hBR := Lib.hid (show w.heap.size ≤ B + 1 by omega)
  rw [hx] at HB HP
  rw [hB] at HP
  change Code.wp _ _ _ _ ((w.alloc (.cells #[.pointer pa, .int .i64 (va : Int), .int .i64 (vs : Int)] 26)).alloc (.cells #[.pointer none, .int .i64 0, .int .i64 0] 24))
  try simp only [World.size_alloc]
  rw [hx, hB]
  clear hx hB
  have hP2 : B3 24 (B + 1) none 0 0 x := HP.out.2
  have HP2 := Lib.hid hP2
  obtain ⟨⟨r0, r1, r2⟩, f0, f1, f2⟩ := hP2.all
  clear HP hP2
  go_wp2_with fail
  refine (HI.out _).mono ?_
  rintro e w1 ⟨rfl, rfl⟩
  go_wp2_with fail
  obtain ⟨g0, g1, g2, hbf⟩ := b3_set HP2.out HB.out hBR.out (.pointer none) (.int .i64 0) (.int .i64 0)
  exact bodyPost_ret (v := .tuple #[.agg #[.pointer none, .int .i64 0, .int .i64 0], .int .i64 2]) (by simp [results, Try.results148, go_sem, g0, g1, g2]) rfl ⟨rfl, hbf⟩
theorem bhead_arg (pa : Option Addr) (va vs : Nat) (k : Int) (hk : ¬ (0 ≤ k ∧ k ≤ 4)) :
    Calls Try.prog 85 #[.agg #[.pointer pa, .int .i64 (va : Int), .int .i64 (vs : Int)], .int .i64 k] w (Gives (.tuple #[.int .i64 0, .int .i64 0]) w) :=
  bhead_gen pa va vs k 2 rfl fun X hX => bplace_arg pa va vs k hk
theorem bpop_arg (pa : Option Addr) (va vs : Nat) (k : Int) (hk : ¬ (0 ≤ k ∧ k ≤ 4)) :
    Calls Try.prog 17 #[.agg #[.pointer pa, .int .i64 (va : Int), .int .i64 (vs : Int)], .int .i64 k] w (Gives (.tuple #[.agg #[.int .i64 0, .int .i64 0, .int .u64 0, .int .i64 0], .bool false]) w) :=
  bpop_gen pa va vs 0 k fun X hX => bhead_arg pa va vs k hk
theorem ball_arg (pa : Option Addr) (va vs : Nat) (k : Int) (hk : ¬ (0 ≤ k ∧ k ≤ 4)) :
    Calls Try.prog 21 #[.agg #[.pointer pa, .int .i64 (va : Int), .int .i64 (vs : Int)], .int .i64 k] w (Gives (.slice none 0 0) w) :=
  ball_none pa va vs 0 k fun X hX => bhead_arg pa va vs k hk
end
section
variable {A : Nat} {s : ASt} {w : World}
theorem bpop_empty (h : On A s w) (va vs k : Nat) (h1 : va ≤ 4294967296) (h2 : vs ≤ 4294967296) (h40 : 40 ≤ vs) (hk : k < 5) (hv : thereE s.L s.es (va : Int) 40 = 0) (hC : hdC s.mm va k = 0) :
    Calls Try.prog 17 #[vwV A va vs, .int .i64 (k : Int)] w (Gives (.tuple #[.agg #[.int .i64 0, .int .i64 0, .int .u64 0, .int .i64 0], .bool false]) w) :=
  bpop_gen (some ⟨A, 0, none⟩) va vs ((4096 * hdP s.mm va k : Nat) : Int) (k : Int) fun X hX => by
    have := bhead_in (h.below hX) va vs k h1 h2 h40 hk hv
    rw [hC] at this; exact this
set_option maxHeartbeats 2000000 in
set_option maxRecDepth 100000 in
theorem bpush_rd (h : On A s w) (va vs : Nat) (h1 : va ≤ 4294967296) (h2 : vs ≤ 4294967296) (h40 : 40 ≤ vs) (hv : thereE s.L s.es (va : Int) 40 = 0) (a : Int) (ha : a ≤ 9223372036854775807) (er : Int) (her : (er != 0) = true) (c1 : Int) (hr : rdV s a = .tuple #[.agg #[.int .i64 0, .int .i64 0, .int .u64 0, .int .i64 0], .int .i64 er]) :
    Calls Try.prog 20 #[vwV A va vs, .int .i64 a] w (Gives (.int .i64 er) w) := by
  have e1 : addrV va vs 0 40 = (va : Int) := by have := addr_at (va := va) (a := 0) (n := 40) (vs := vs) (by omega); simpa using this
  have E1 : Hid (ofV (some ⟨A, 0, none⟩) (addrV va vs 0 40) 40 (thereE s.L s.es (addrV va vs 0 40) 40) = vwV A va 40 ∧ thereE s.L s.es (addrV va vs 0 40) 40 = 0) := Lib.hid (by rw [e1, hv]; exact ⟨rfl, rfl⟩)
  have HRD := Lib.hid hr
  have HI := Lib.hid (fun w => isbin_any c1 w)
  have hx := h.below (bel1 w (.cells #[.pointer (some ⟨A, 0, none⟩), .int .i64 (va : Int), .int .i64 (vs : Int)] 26))
  have hg := bel1 w (.cells #[.pointer (some ⟨A, 0, none⟩), .int .i64 (va : Int), .int .i64 (vs : Int)] 26)
  have hb := B3.new 26 (some ⟨A, 0, none⟩) va vs w
  clear h e1 hv hr
  go_enter Try.func20, Try.ntmps20
  go_upto_region 1 with fail
  obtain ⟨x, hxx⟩ : ∃ x, w.alloc (.cells #[.pointer (some ⟨A, 0, none⟩), .int .i64 (va : Int), .int .i64 (vs : Int)] 26) = x := ⟨_, rfl⟩
  obtain ⟨B, hB⟩ : ∃ B, w.heap.size = B := ⟨_, rfl⟩
  rw [hxx] at hx hg hb
  rw [hB] at hb
  change Code.wp _ _ _ _ (w.alloc (.cells #[.pointer (some ⟨A, 0, none⟩), .int .i64 (va : Int), .int .i64 (vs : Int)] 26))
  rw [hxx, hB]
  clear hxx hB
  have HX := Lib.hid hx; have HG := Lib.hid hg; have HBB := Lib.hid hb
  obtain ⟨⟨b0, b1, b2⟩, -, -, -⟩ := hb.all
  clear hx hg hb
  go_wp2_with fail
  refine (on_part HX.out va vs h1 h2 0 40 (by omega)).mono ?_
  rintro e w2 ⟨rfl, hb⟩
  rw [E1.out.1, E1.out.2]
  have HX2 := Lib.hid (HX.out.below hb); have HG2 := Lib.hid (HG.out.trans (hb.mono HG.out.size)); have HBB2 := Lib.hid (HBB.out.below hb)
  clear hb HX HG HBB b0 b1 b2
  go_upto_region 2 with fail
  have hb := bel1 w2 (.cells #[.pointer (some ⟨A, 0, none⟩), .int .i64 (va : Int), .int .i64 ((40 : Nat) : Int)] 24)
  have hx := HX2.out.below hb
  have hg := HG2.out.trans (hb.mono HG2.out.size)
  have hbb := HBB2.out.below hb
  obtain ⟨y, hy⟩ : ∃ y, w2.alloc (.cells #[.pointer (some ⟨A, 0, none⟩), .int .i64 (va : Int), .int .i64 ((40 : Nat) : Int)] 24) = y := ⟨_, rfl⟩
  rw [hy] at hx hg hbb
  change Code.wp _ _ _ _ (w2.alloc (.cells #[.pointer (some ⟨A, 0, none⟩), .int .i64 (va : Int), .int .i64 ((40 : Nat) : Int)] 24))
  rw [hy]
  have HX := Lib.hid hx; have HG := Lib.hid hg; have HBB := Lib.hid hbb
  obtain ⟨⟨b0, b1, b2⟩, -, -, -⟩ := hbb.all
  clear hx hg hbb hb hy HX2 HG2 HBB2
  go_wp2_with fail
  refine (read_any HX.out a ha).mono ?_
  rintro e w4 ⟨rfl, hb⟩
  rw [HRD.out]
  have HG4 := Lib.hid (HG.out.trans (hb.mono HG.out.size))
  clear hb HX HG HBB b0 b1 b2
  go_upto_region 5 with fail
  have hb := bel1 w4 (.cells (cC 0 0 0 0) 35)
  have hg := HG4.out.trans (hb.mono HG4.out.size)
  have hc := cb_new w4 0 0 0 0
  obtain ⟨z, hz⟩ : ∃ z, w4.alloc (.cells (cC 0 0 0 0) 35) = z := ⟨_, rfl⟩
  obtain ⟨Cb, hCb⟩ : ∃ Cb, w4.heap.size = Cb := ⟨_, rfl⟩
  rw [hz] at hg hc
  rw [hCb] at hc
  change Code.wp _ _ _ _ (w4.alloc (.cells (cC 0 0 0 0) 35))
  rw [hz, hCb]
  have HF := Lib.hid hg
  obtain ⟨c0, c1', c2, c3⟩ := hc.all
  clear hb hg hc hz hCb HG4
  go_wp2_with fail
  go_ret
  exact ⟨rfl, HF.out⟩
set_option maxHeartbeats 2000000 in
set_option maxRecDepth 100000 in
theorem bpush_ord (h : On A s w) (va vs : Nat) (h1 : va ≤ 4294967296) (h2 : vs ≤ 4294967296) (h40 : 40 ≤ vs) (hv : thereE s.L s.es (va : Int) 40 = 0) (a : Int) (ha : a ≤ 9223372036854775807) (c0 c1 c2 c3 : Int) (ho : ¬ (0 ≤ c1 ∧ c1 ≤ 4)) (hr : rdV s a = .tuple #[.agg #[.int .i64 c0, .int .i64 c1, .int .u64 c2, .int .i64 c3], .int .i64 0]) :
    Calls Try.prog 20 #[vwV A va vs, .int .i64 a] w (Gives (.int .i64 2) w) := by
  have e1 : addrV va vs 0 40 = (va : Int) := by have := addr_at (va := va) (a := 0) (n := 40) (vs := vs) (by omega); simpa using this
  have E1 : Hid (ofV (some ⟨A, 0, none⟩) (addrV va vs 0 40) 40 (thereE s.L s.es (addrV va vs 0 40) 40) = vwV A va 40 ∧ thereE s.L s.es (addrV va vs 0 40) 40 = 0) := Lib.hid (by rw [e1, hv]; exact ⟨rfl, rfl⟩)
  have HRD := Lib.hid hr
  have HI := Lib.hid (fun w => isbin_any c1 w)
  rw [decide_eq_false ho] at HI
  have hx := h.below (bel1 w (.cells #[.pointer (some ⟨A, 0, none⟩), .int .i64 (va : Int), .int .i64 (vs : Int)] 26))
  have hg := bel1 w (.cells #[.pointer (some ⟨A, 0, none⟩), .int .i64 (va : Int), .int .i64 (vs : Int)] 26)
  have hb := B3.new 26 (some ⟨A, 0, none⟩) va vs w
  clear h e1 hv hr
  go_enter Try.func20, Try.ntmps20
  go_upto_region 1 with fail
  obtain ⟨x, hxx⟩ : ∃ x, w.alloc (.cells #[.pointer (some ⟨A, 0, none⟩), .int .i64 (va : Int), .int .i64 (vs : Int)] 26) = x := ⟨_, rfl⟩
  obtain ⟨B, hB⟩ : ∃ B, w.heap.size = B := ⟨_, rfl⟩
  rw [hxx] at hx hg hb
  rw [hB] at hb
  change Code.wp _ _ _ _ (w.alloc (.cells #[.pointer (some ⟨A, 0, none⟩), .int .i64 (va : Int), .int .i64 (vs : Int)] 26))
  rw [hxx, hB]
  clear hxx hB
  have HX := Lib.hid hx; have HG := Lib.hid hg; have HBB := Lib.hid hb
  obtain ⟨⟨b0, b1, b2⟩, -, -, -⟩ := hb.all
  clear hx hg hb
  go_wp2_with fail
  refine (on_part HX.out va vs h1 h2 0 40 (by omega)).mono ?_
  rintro e w2 ⟨rfl, hb⟩
  rw [E1.out.1, E1.out.2]
  have HX2 := Lib.hid (HX.out.below hb); have HG2 := Lib.hid (HG.out.trans (hb.mono HG.out.size)); have HBB2 := Lib.hid (HBB.out.below hb)
  clear hb HX HG HBB b0 b1 b2
  go_upto_region 2 with fail
  have hb := bel1 w2 (.cells #[.pointer (some ⟨A, 0, none⟩), .int .i64 (va : Int), .int .i64 ((40 : Nat) : Int)] 24)
  have hx := HX2.out.below hb
  have hg := HG2.out.trans (hb.mono HG2.out.size)
  have hbb := HBB2.out.below hb
  obtain ⟨y, hy⟩ : ∃ y, w2.alloc (.cells #[.pointer (some ⟨A, 0, none⟩), .int .i64 (va : Int), .int .i64 ((40 : Nat) : Int)] 24) = y := ⟨_, rfl⟩
  rw [hy] at hx hg hbb
  change Code.wp _ _ _ _ (w2.alloc (.cells #[.pointer (some ⟨A, 0, none⟩), .int .i64 (va : Int), .int .i64 ((40 : Nat) : Int)] 24))
  rw [hy]
  have HX := Lib.hid hx; have HG := Lib.hid hg; have HBB := Lib.hid hbb
  obtain ⟨⟨b0, b1, b2⟩, -, -, -⟩ := hbb.all
  clear hx hg hbb hb hy HX2 HG2 HBB2
  go_wp2_with fail
  refine (read_any HX.out a ha).mono ?_
  rintro e w4 ⟨rfl, hb⟩
  rw [HRD.out]
  have HG4 := Lib.hid (HG.out.trans (hb.mono HG.out.size))
  clear hb HX HG HBB b0 b1 b2
  go_upto_region 5 with fail
  have hb := bel1 w4 (.cells (cC c0 c1 c2 c3) 35)
  have hg := HG4.out.trans (hb.mono HG4.out.size)
  have hc := cb_new w4 c0 c1 c2 c3
  obtain ⟨z, hz⟩ : ∃ z, w4.alloc (.cells (cC c0 c1 c2 c3) 35) = z := ⟨_, rfl⟩
  obtain ⟨Cb, hCb⟩ : ∃ Cb, w4.heap.size = Cb := ⟨_, rfl⟩
  rw [hz] at hg hc
  rw [hCb] at hc
  change Code.wp _ _ _ _ (w4.alloc (.cells (cC c0 c1 c2 c3) 35))
  rw [hz, hCb]
  have HF := Lib.hid hg
  obtain ⟨c0, c1', c2, c3⟩ := hc.all
  clear hb hg hc hz hCb HG4
  go_wp2_with fail
  refine (HI.out _).mono ?_
  rintro e w5 ⟨rfl, rfl⟩
  go_wp2_with fail
  go_ret
  exact ⟨rfl, HF.out⟩
set_option maxHeartbeats 2000000 in
set_option maxRecDepth 100000 in
theorem bpush_own (h : On A s w) (va vs : Nat) (h1 : va ≤ 4294967296) (h2 : vs ≤ 4294967296) (h40 : 40 ≤ vs) (hv : thereE s.L s.es (va : Int) 40 = 0) (a : Int) (ha : a ≤ 9223372036854775807) (c0 c1 c2 c3 : Int) (ho : 0 ≤ c1 ∧ c1 ≤ 4) (hu : (c2 != 0) = true) (hr : rdV s a = .tuple #[.agg #[.int .i64 c0, .int .i64 c1, .int .u64 c2, .int .i64 c3], .int .i64 0]) :
    Calls Try.prog 20 #[vwV A va vs, .int .i64 a] w (Gives (.int .i64 11) w) := by
  have e1 : addrV va vs 0 40 = (va : Int) := by have := addr_at (va := va) (a := 0) (n := 40) (vs := vs) (by omega); simpa using this
  have E1 : Hid (ofV (some ⟨A, 0, none⟩) (addrV va vs 0 40) 40 (thereE s.L s.es (addrV va vs 0 40) 40) = vwV A va 40 ∧ thereE s.L s.es (addrV va vs 0 40) 40 = 0) := Lib.hid (by rw [e1, hv]; exact ⟨rfl, rfl⟩)
  have HRD := Lib.hid hr
  have HI := Lib.hid (fun w => isbin_any c1 w)
  rw [decide_eq_true ho] at HI
  have hx := h.below (bel1 w (.cells #[.pointer (some ⟨A, 0, none⟩), .int .i64 (va : Int), .int .i64 (vs : Int)] 26))
  have hg := bel1 w (.cells #[.pointer (some ⟨A, 0, none⟩), .int .i64 (va : Int), .int .i64 (vs : Int)] 26)
  have hb := B3.new 26 (some ⟨A, 0, none⟩) va vs w
  clear h e1 hv hr
  go_enter Try.func20, Try.ntmps20
  go_upto_region 1 with fail
  obtain ⟨x, hxx⟩ : ∃ x, w.alloc (.cells #[.pointer (some ⟨A, 0, none⟩), .int .i64 (va : Int), .int .i64 (vs : Int)] 26) = x := ⟨_, rfl⟩
  obtain ⟨B, hB⟩ : ∃ B, w.heap.size = B := ⟨_, rfl⟩
  rw [hxx] at hx hg hb
  rw [hB] at hb
  change Code.wp _ _ _ _ (w.alloc (.cells #[.pointer (some ⟨A, 0, none⟩), .int .i64 (va : Int), .int .i64 (vs : Int)] 26))
  rw [hxx, hB]
  clear hxx hB
  have HX := Lib.hid hx; have HG := Lib.hid hg; have HBB := Lib.hid hb
  obtain ⟨⟨b0, b1, b2⟩, -, -, -⟩ := hb.all
  clear hx hg hb
  go_wp2_with fail
  refine (on_part HX.out va vs h1 h2 0 40 (by omega)).mono ?_
  rintro e w2 ⟨rfl, hb⟩
  rw [E1.out.1, E1.out.2]
  have HX2 := Lib.hid (HX.out.below hb); have HG2 := Lib.hid (HG.out.trans (hb.mono HG.out.size)); have HBB2 := Lib.hid (HBB.out.below hb)
  clear hb HX HG HBB b0 b1 b2
  go_upto_region 2 with fail
  have hb := bel1 w2 (.cells #[.pointer (some ⟨A, 0, none⟩), .int .i64 (va : Int), .int .i64 ((40 : Nat) : Int)] 24)
  have hx := HX2.out.below hb
  have hg := HG2.out.trans (hb.mono HG2.out.size)
  have hbb := HBB2.out.below hb
  obtain ⟨y, hy⟩ : ∃ y, w2.alloc (.cells #[.pointer (some ⟨A, 0, none⟩), .int .i64 (va : Int), .int .i64 ((40 : Nat) : Int)] 24) = y := ⟨_, rfl⟩
  rw [hy] at hx hg hbb
  change Code.wp _ _ _ _ (w2.alloc (.cells #[.pointer (some ⟨A, 0, none⟩), .int .i64 (va : Int), .int .i64 ((40 : Nat) : Int)] 24))
  rw [hy]
  have HX := Lib.hid hx; have HG := Lib.hid hg; have HBB := Lib.hid hbb
  obtain ⟨⟨b0, b1, b2⟩, -, -, -⟩ := hbb.all
  clear hx hg hbb hb hy HX2 HG2 HBB2
  go_wp2_with fail
  refine (read_any HX.out a ha).mono ?_
  rintro e w4 ⟨rfl, hb⟩
  rw [HRD.out]
  have HG4 := Lib.hid (HG.out.trans (hb.mono HG.out.size))
  clear hb HX HG HBB b0 b1 b2
  go_upto_region 5 with fail
  have hb := bel1 w4 (.cells (cC c0 c1 c2 c3) 35)
  have hg := HG4.out.trans (hb.mono HG4.out.size)
  have hc := cb_new w4 c0 c1 c2 c3
  obtain ⟨z, hz⟩ : ∃ z, w4.alloc (.cells (cC c0 c1 c2 c3) 35) = z := ⟨_, rfl⟩
  obtain ⟨Cb, hCb⟩ : ∃ Cb, w4.heap.size = Cb := ⟨_, rfl⟩
  rw [hz] at hg hc
  rw [hCb] at hc
  change Code.wp _ _ _ _ (w4.alloc (.cells (cC c0 c1 c2 c3) 35))
  rw [hz, hCb]
  have HF := Lib.hid hg
  obtain ⟨c0, c1', c2, c3⟩ := hc.all
  clear hb hg hc hz hCb HG4
  go_wp2_with fail
  refine (HI.out _).mono ?_
  rintro e w5 ⟨rfl, rfl⟩
  go_wp2_with fail
  go_ret
  exact ⟨rfl, HF.out⟩
end
/-- addresses of pages -/
def adI (l : List Nat) : List Int := l.map fun p => ((4096 * p : Nat) : Int)
def adV (l : List Nat) : List Value := (adI l).map (Value.int .i64)
/-- a row of its own that is told -/
def OwnI (b0 : Nat) (v : Value) (l : List Nat) (x : World) : Prop := x.ownsRow b0 3 1 v l.length (adV l)
theorem own_below {W w1 w : World} {base n k : Nat} {e : TypeId} {v : Value} {xs : List Value} (hrow : W.ownsRow base e k v n xs) (hgrow : W.grownBy w1 v.ownBlock) (hs : base ≤ W.heap.size) (hb : Below base w W) : Below base w w1 :=
  hb.grown hgrow (by omega) fun j ej => by
    rcases hrow.2 with ⟨rfl, _⟩ | ⟨g, cap, cur, rfl, h, _⟩
    · simp [Value.ownBlock] at ej
    · obtain rfl : g = j := by simpa [Value.ownBlock] using ej
      exact h
theorem take_one {l : List Nat} {j p : Nat} (h : j < l.length) (e : l.getD j 0 = p) : adV (l.take (j + 1)) = adV (l.take j) ++ [.int .i64 ((4096 * p : Nat) : Int)] := by
  rw [List.take_add_one, List.getElem?_eq_getElem h]
  rw [List.getD_eq_getElem?_getD, List.getElem?_eq_getElem h] at e
  simp only [Option.getD_some] at e
  rw [e]; simp [adV, adI]
def AlP (l : List Nat) (w : World) (e : Ending) (w' : World) : Prop := ∃ v, e = .returned v ∧ IntsAt w' v (adI l) ∧ Below w.heap.size w w'
theorem Lnk.get {m : Nat → UInt8} : ∀ {l : List Nat}, Lnk m l → ∀ j, j + 1 < l.length → rdX m (4096 * l.getD j 0) = ((4096 * l.getD (j + 1) 0 : Nat) : Int)
  | [], _, j, h => by simp at h
  | [_], _, j, h => by simp at h
  | p :: p' :: l, hl, 0, _ => by simpa using hl.1 p' l rfl
  | p :: p' :: l, hl, j + 1, h => by simpa using Lnk.get hl.2 j (by simpa using h)
theorem ChAt.le {L : Nat} {es : List Nat} {m : Nat → UInt8} {p k : Nat} (c : ChAt L es m p k) (g : Good L es) : 4096 * p ≤ 4294967296 := by
  have hh := (there_iff g ((4096 * p : Nat) : Int) 32).1 (by
    have hv := c.there
    unfold thereE at hv
    cases hq : thereB L es ((4096 * p : Nat) : Int) 32 with
    | true => rfl
    | false => rw [hq] at hv; cases hv)
  have := g.small
  omega
structure AlK (B b0 va vs A : Nat) (l : List Nat) (j : Nat) (v : Value) (x y : World) : Prop where
  ow : OwnI b0 v (l.take j) y
  bl : Below b0 x y
  sz : b0 ≤ y.heap.size
  bb : B3 26 B (some ⟨A, 0, none⟩) va vs y
theorem grown_none {W W' : World} (h : Below W.heap.size W W') : W.grownBy W' none := ⟨h.os, h.tape, h.output, h.size, fun k hk _ => h.block k hk⟩
theorem AlK.below {B b0 va vs A j : Nat} {l : List Nat} {v : Value} {x y z : World} (h : AlK B b0 va vs A l j v x y) (hb : Below y.heap.size y z) : AlK B b0 va vs A l j v x z :=
  ⟨h.ow.kept (grown_none hb) (by cases e : v.ownBlock with
    | none => exact .inl rfl
    | some g => exact .inr (by simp)), h.bl.trans (hb.mono h.sz), Nat.le_trans h.sz hb.size, h.bb.below hb⟩
theorem one_new (w : World) (a : Value) (T : TypeId) : ∀ j u, [a][j]? = some u → (w.alloc (.cells #[a] T)).cell? ((⟨w.heap.size, 0, none⟩ : Addr).add j) = some u := fun j u h => by
  match j, h with
  | 0, h =>
    have e : (⟨w.heap.size, 0, none⟩ : Addr).add 0 = ⟨w.heap.size, 0, none⟩ := by simp only [Addr.add]; split <;> simp_all
    rw [e, (cell_blk (heap_new w _) _).1]
    simpa using h
theorem row_far {W : World} {b0 n C : Nat} {v : Value} {xs : List Value} {c : Array Value} {T : TypeId} {fr : Nat × Nat} (h : W.ownsRow b0 3 1 v n xs) (hC : W.heap[C]? = some (.cells c T fr)) (hT : T ≠ 3) : v.ownBlock ≠ some C := fun e => by
  rcases h.2 with ⟨rfl, _⟩ | ⟨g, cap, cur, rfl, _, hg, _⟩
  · simp [Value.ownBlock] at e
  · have : g = C := by simpa [Value.ownBlock] using e
    subst this
    rw [hC] at hg; cases hg; exact hT rfl
theorem AlK.app {B b0 va vs A j p : Nat} {l : List Nat} {v v' : Value} {x y z : World} (h : AlK B b0 va vs A l j v x y) (hB : B < b0) (hj : j < l.length) {tmp : Obj} (hg : (y.alloc tmp).grownBy z v.ownBlock)
    (ho : z.ownsRow b0 3 1 v' ((l.take j).length + 1) (adV (l.take j) ++ [.int .i64 ((4096 * p : Nat) : Int)])) (e : adV (l.take (j + 1)) = adV (l.take j) ++ [.int .i64 ((4096 * p : Nat) : Int)]) : AlK B b0 va vs A l (j + 1) v' x z := by
  have hz := h.sz
  have hs := hg.size
  simp at hs
  have hle : (l.take (j + 1)).length = (l.take j).length + 1 := by simp [List.length_take]; omega
  refine ⟨by unfold OwnI; rw [hle, e]; exact ho, own_below (h.ow.alloc tmp) hg (by simp; omega) (h.bl.alloc hz tmp), by omega, ?_⟩
  have hbl := (Array.getElem?_eq_some_iff.1 h.bb).1
  exact ((hg.block B (by simp; omega) (row_far h.ow h.bb (by decide)).symm).trans (Below.heap_alloc _ _ _ hbl)).trans h.bb
def AlR (B b0 va vs A : Nat) (l : List Nat) (x : World) (s17 s5 s6 : Value) (y : World) : Prop :=
  ∃ (j : Nat) (z : Int), j ≤ l.length ∧ s17 = .int .i64 (j : Int) ∧ s6 = .int .i64 z ∧ (j < l.length → z = ((4096 * l.getD j 0 : Nat) : Int)) ∧ AlK B b0 va vs A l j s5 x y
section
variable {A : Nat} {s : ASt} {w : World}
set_option maxHeartbeats 4000000 in
set_option maxRecDepth 100000 in
theorem ball_in (h : On A s w) (va vs k : Nat) (h1 : va ≤ 4294967296) (h2 : vs ≤ 4294967296) (h40 : 40 ≤ vs) (hk : k < 5) {q : Nat → List Nat} (b : Bn s.L s.es s.mm va q) (hl : (q k).length ≤ 1000) :
    Calls Try.prog 21 #[vwV A va vs, .int .i64 (k : Int)] w (AlP (q k) w) := by
  obtain ⟨i0, hi0, hz0, hz1, hz2⟩ := info_parts Try.info3
  have HI := Lib.hid hi0; have HZ0 := Lib.hid hz0; have HZ1 := Lib.hid hz1; have HZ2 := Lib.hid hz2
  clear hi0 hz0 hz1 hz2
  have HC := Lib.hid (fun j (hj : j < (q k).length) => b.at_ k hk ((q k).getD j 0) (by rw [List.getD_eq_getElem?_getD, List.getElem?_eq_getElem hj]; exact List.getElem_mem _))
  have HLK := Lib.hid (fun j hj => (b.link k hk).get j hj)
  have HTOP := Lib.hid (fun (hj : 0 < (q k).length) => (by
    cases e : q k with
    | nil => rw [e] at hj; simp at hj
    | cons p l => rw [b.top k hk p l e]; rfl : hdP s.mm va k = (q k).getD 0 0))
  have HH := Lib.hid (fun (X : World) (hX : On A s X) => bhead_in hX va vs k h1 h2 h40 hk b.view)
  rw [b.many k hk] at HH
  obtain ⟨l, hll⟩ : ∃ l, q k = l := ⟨_, rfl⟩
  rw [hll] at HC HLK HTOP HH hl ⊢
  obtain ⟨P, hP⟩ : ∃ P, hdP s.mm va k = P := ⟨_, rfl⟩
  rw [hP] at HTOP HH
  obtain ⟨n, hn⟩ : ∃ n, l.length = n := ⟨_, rfl⟩
  have HN := Lib.hid hn
  rw [hn] at HC HLK HTOP HH hl
  have hx := h.below (bel1 w (.cells #[.pointer (some ⟨A, 0, none⟩), .int .i64 (va : Int), .int .i64 (vs : Int)] 26))
  have hg := bel1 w (.cells #[.pointer (some ⟨A, 0, none⟩), .int .i64 (va : Int), .int .i64 (vs : Int)] 26)
  have hb := B3.new 26 (some ⟨A, 0, none⟩) va vs w
  clear h b hll hP hn
  go_enter Try.func21, Try.ntmps21
  go_upto_region 1 with fail
  obtain ⟨x, hxx⟩ : ∃ x, w.alloc (.cells #[.pointer (some ⟨A, 0, none⟩), .int .i64 (va : Int), .int .i64 (vs : Int)] 26) = x := ⟨_, rfl⟩
  obtain ⟨B, hB⟩ : ∃ B, w.heap.size = B := ⟨_, rfl⟩
  rw [hxx] at hx hg hb
  rw [hB] at hb
  change Code.wp _ _ _ _ (w.alloc (.cells #[.pointer (some ⟨A, 0, none⟩), .int .i64 (va : Int), .int .i64 (vs : Int)] 26))
  rw [hxx, hB]
  clear hxx hB
  obtain ⟨b0, hb0⟩ : ∃ b0, x.heap.size = b0 := ⟨_, rfl⟩
  have HB0 := Lib.hid hb0
  have HBB : Hid (B < b0) := Lib.hid (by have := (Array.getElem?_eq_some_iff.1 hb).1; omega)
  have HX := Lib.hid hx; have HG := Lib.hid hg; have HV := Lib.hid hb
  obtain ⟨⟨c0, c1, c2⟩, -, -, -⟩ := hb.all
  clear hx hg hb hb0
  go_wp2_with fail
  refine (HH.out _ HX.out).mono ?_
  rintro e w2 ⟨rfl, hb⟩
  have HST : Hid (AlR B b0 va vs A l x (.int .i64 0) (.slice none 0 0) (.int .i64 ((4096 * P : Nat) : Int)) w2) := Lib.hid ⟨0, _, Nat.zero_le _, rfl, rfl, fun hj => by rw [HTOP.out (by have := HN.out; omega)], ⟨World.ownsRow_nil _ _ _ _, by rw [← HB0.out]; exact hb, by rw [← HB0.out]; exact hb.size, HV.out.below hb⟩⟩
  clear hb HH HTOP HV c0 c1 c2
  go_wp2_with fail
  go_loopw [17, 5, 6] (fun s17 s5 s6 wr => AlR B b0 va vs A l x s17 s5 s6 wr) (fun s17 _ _ _ => n - (intOf s17).toNat)
  case atStart => exact HST.out
  case round =>
    clear HST
    obtain ⟨j, z, hj, rfl, rfl, hz, hak⟩ := hrel
    have HK := Lib.hid hak
    have hjn : j ≤ n := by have := HN.out; omega
    by_cases hlt : j < n
    · have hjl : j < l.length := by have := HN.out; omega
      have hze := hz hjl
      obtain ⟨p, hp⟩ : ∃ p, l.getD j 0 = p := ⟨_, rfl⟩
      have hc := HC.out j hlt
      have HLJ := Lib.hid (HLK.out j)
      rw [hp] at hze hc HLJ
      have HT1 := Lib.hid (take_one hjl hp)
      have hox : On A s wr := HX.out.below (by rw [HB0.out]; exact hak.bl)
      have HRD := Lib.hid (rd_is hc)
      have hple := hc.le hox.good
      have HOX := Lib.hid hox
      have hpos : 0 ≤ rdX s.mm (4096 * p) := by have := st_next hc.st; rwa [Int.toNat_natCast] at this
      obtain ⟨X, hXX⟩ : ∃ X, rdX s.mm (4096 * p) = X := ⟨_, rfl⟩
      rw [hXX] at HRD HLJ
      have HRR := Lib.hid (read_any hox ((4096 * p : Nat) : Int) (by omega))
      rw [HRD.out] at HRR
      subst hze
      obtain ⟨⟨c0, c1, c2⟩, -, -, -⟩ := hak.bb.all
      obtain ⟨a, ha⟩ : ∃ a : Int, ((4096 * p : Nat) : Int) = a := ⟨_, rfl⟩
      rw [ha] at HRR
      have HAE := Lib.hid ha
      rw [ha]
      clear hak hz hp hc hox hple hpos hXX ha
      go_wp2_with fail
      refine HRR.out.mono ?_
      rintro e w4 ⟨rfl, hb⟩
      have hk4 := HK.out.below hb
      clear hb c0 c1 c2 HRR HK
      go_upto_region 6 with fail
      have hb := bel1 w4 (.cells (cC a (k : Int) 0 X) 35)
      have hk5 := hk4.below hb
      have hc := cb_new w4 a (k : Int) 0 X
      obtain ⟨y, hy⟩ : ∃ y, w4.alloc (.cells (cC a (k : Int) 0 X) 35) = y := ⟨_, rfl⟩
      obtain ⟨C, hC⟩ : ∃ C, w4.heap.size = C := ⟨_, rfl⟩
      rw [hy] at hk5 hc
      rw [hC] at hc
      change Code.wp _ _ _ _ (w4.alloc (.cells (cC a (k : Int) 0 X) 35))
      rw [hy, hC]
      have HK5 := Lib.hid hk5; have HC5 := Lib.hid hc
      have HRA := Lib.hid (show (y.alloc (.cells #[.int .i64 a] 3)).ownsRow b0 3 1 _ _ _ from World.ownsRow.alloc hk5.ow (.cells #[.int .i64 a] 3))
      have hsz := hk5.sz
      have hlj : (l.take j).length ≤ 1000 := by simp [List.length_take]; omega
      clear hb hk4 hy hC hc hk5
      go_wp2_with (at_builtin; refine wpList_append_own _ rfl _ _ 42 rfl b0 3 i0 (.int .i64 0) 1 8 Try.underlying42 HI.out HZ0.out HZ1.out HZ2.out rfl (by decide) _ _ _ rfl HRA.out ⟨_, 0, none⟩ 1 1 [.int .i64 a] rfl rfl (one_new _ _ _) (by simp [Value.oneCell']) (by unfold maxLen; omega) (by omega) (by simp; omega) ?_; intro v' w6 hown' hgrow _; have hc6 := ((hgrow.block C (by have := (Array.getElem?_eq_some_iff.1 HC5.out).1; simp; omega) (row_far HK5.out.ow HC5.out (by decide)).symm).trans (Below.heap_alloc _ _ _ (Array.getElem?_eq_some_iff.1 HC5.out).1)).trans HC5.out; have hc63 := (CB.all hc6).2.2.2)
      have HF := Lib.hid (HK5.out.app HBB.out hjl hgrow (by rw [HAE.out]; exact hown') HT1.out)
      clear hown' hgrow hc6 hc63
      go_roundw
      case rel => exact ⟨j + 1, X, by omega, by go_num, rfl, fun h => HLJ.out (by have := HN.out; omega), HF.out⟩
      case measure => simp [intOf]; omega
    · have HT : Hid (l.take j = l) := Lib.hid (List.take_of_length_le (by have := HN.out; omega))
      have hfin := own_ints (zs := adI l) (by have := hak.ow; unfold OwnI at this; rw [HT.out] at this; exact this)
      have HF := Lib.hid hfin
      have HL : Hid (Below w.heap.size w wr) := Lib.hid (HG.out.trans (by rw [← HB0.out] at hak; exact hak.bl.mono HG.out.size))
      clear hak hz hfin
      go_wp2_with fail
      go_ret
      exact ⟨_, rfl, HF.out, HL.out⟩
end
end Go.Proofs.Ytoineackmpafdaa.Bt
/- The document's bins: Least, Count, Has. -/
namespace Go.Proofs.Ytoineackmpafdaa.Bt
open Go Go.RowKit Go.Shelf
set_option linter.unusedVariables false
set_option linter.unusedSimpArgs false

/-- five rows as a value -/
def qC (P : Nat → Option Addr) (n C : Nat → Nat) : Array Value := #[.slice (P 0) (n 0) (C 0), .slice (P 1) (n 1) (C 1), .slice (P 2) (n 2) (C 2), .slice (P 3) (n 3) (C 3), .slice (P 4) (n 4) (C 4)]
theorem qC_get (P : Nat → Option Addr) (n C : Nat → Nat) {i : Nat} (h : i < 5) : (qC P n C)[i]? = some (.slice (P i) (n i) (C i)) := by
  match i, h with
  | 0, _ => rfl
  | 1, _ => rfl
  | 2, _ => rfl
  | 3, _ => rfl
  | 4, _ => rfl
/-- the rows in memory are the bins -/
def QAt (P : Nat → Option Addr) (q : Nat → List Nat) (w : World) : Prop := ∀ k, k < 5 → IntsRow w (P k) (adI (q k))
theorem IntsRow.belowB {w w' : World} {p : Option Addr} {zs : List Int} (h : IntsRow w p zs) (hb : Below w.heap.size w w') : IntsRow w' p zs := by
  rcases h with h | ⟨b, off, h1, h2, h3⟩
  · exact .inl h
  · exact .inr ⟨b, off, h1, Nat.lt_of_lt_of_le h2 hb.size, fun j hj => (hb.cell (p := ⟨b, off + j, none⟩) h2).trans (h3 j hj)⟩
theorem QAt.below {P : Nat → Option Addr} {q : Nat → List Nat} {w w' : World} (h : QAt P q w) (hb : Below w.heap.size w w') : QAt P q w' := fun k hk => (h k hk).belowB hb
def QBx (B : Nat) (P : Nat → Option Addr) (n C : Nat → Nat) (w : World) : Prop := w.heap[B]? = some (.cells (qC P n C) 54 (0, 0))
theorem QBx.cell {B : Nat} {P : Nat → Option Addr} {n C : Nat → Nat} {w : World} (h : QBx B P n C w) {i : Nat} (hi : i < 5) : w.cell? ⟨B, i, none⟩ = some (.slice (P i) (n i) (C i)) := by
  exact ((cell_blk h i).1).trans (qC_get P n C hi)
set_option maxHeartbeats 2000000 in
set_option maxRecDepth 100000 in
theorem qleast_any (P : Nat → Option Addr) (n C : Nat → Nat) (o : Int) (w : World) :
    Calls Try.prog 95 #[.agg (qC P n C), .int .i64 o] w (Gives (lsV n o) w) := by
  have hb := bel1 w (.cells (qC P n C) 54)
  have hx : QBx w.heap.size P n C (w.alloc (.cells (qC P n C) 54)) := heap_new _ _
  go_enter Try.func95, Try.ntmps95
  go_upto_region 1 with fail
  obtain ⟨x, hxx⟩ : ∃ x, w.alloc (.cells (qC P n C) 54) = x := ⟨_, rfl⟩
  obtain ⟨B, hB⟩ : ∃ B, w.heap.size = B := ⟨_, rfl⟩
  rw [hxx] at hb hx
  rw [hB] at hx
  change Code.wp _ _ _ _ (w.alloc (.cells (qC P n C) 54))
  rw [hxx, hB]
  have HB := Lib.hid hb; have HX := Lib.hid hx
  clear hxx hB hb hx
  go_wp2_with fail
  go_loop [6] (fun s6 => ∃ i : Nat, i ≤ 5 ∧ s6 = .int .i64 (i : Int) ∧ Hid (∀ j, j < i → lsP n o j = false)) (fun s6 => 5 - (intOf s6).toNat)
  case atStart => exact ⟨0, by omega, rfl, Lib.hid fun j hj => by omega⟩
  case round =>
    obtain ⟨i, hi, rfl, HALL⟩ := hrel
    by_cases h5 : i < 5
    · have h5' : (i : Int) ≤ 4 := by omega
      have hcell := HX.out.cell h5
      obtain ⟨c, hc⟩ : ∃ c, n i = c := ⟨_, rfl⟩
      rw [hc] at hcell
      have HCI := Lib.hid hc
      clear hc
      cases h1 : decide (o ≤ (i : Int)) with
      | true =>
        have h1' := of_decide_eq_true h1
        cases h2 : decide (0 < c) with
        | true =>
          have hp : lsP n o i = true := by unfold lsP; rw [HCI.out, h1, h2]; rfl
          have HRES := Lib.hid (lsV_at h5 hp HALL.out)
          clear hp
          go_wp2_with fail
          go_ret2
          exact ⟨by rw [HRES.out]; rfl, HB.out⟩
        | false =>
          have HNP : Hid (lsP n o i = false) := Lib.hid (by unfold lsP; rw [HCI.out, h2]; simp)
          go_wp2_with fail
          go_round
          case rel => exact ⟨i + 1, by omega, by go_num, Lib.hid (nall_succ HNP.out HALL.out)⟩
          case measure => simp [intOf]; omega
      | false =>
        have HNP : Hid (lsP n o i = false) := Lib.hid (by unfold lsP; rw [h1]; simp)
        go_wp2_with fail
        go_round
        case rel => exact ⟨i + 1, by omega, by go_num, Lib.hid (nall_succ HNP.out HALL.out)⟩
        case measure => simp [intOf]; omega
    · have h5' : ¬ (i : Int) ≤ 4 := by omega
      have e5 : i = 5 := by omega
      have HRES := Lib.hid (lsV_none (by rw [← e5]; exact HALL.out))
      go_wp2_with fail
      go_ret2
      exact ⟨by rw [HRES.out]; rfl, HB.out⟩
set_option maxHeartbeats 2000000 in
set_option maxRecDepth 100000 in
theorem qcount_any (P : Nat → Option Addr) (n C : Nat → Nat) (hn : ∀ k, n k < 4294967296) (w : World) :
    Calls Try.prog 96 #[.agg (qC P n C)] w (Gives (.int .i64 ((cntF n 5 : Nat) : Int)) w) := by
  have HLT := Lib.hid hn
  have hb := bel1 w (.cells (qC P n C) 54)
  have hx : QBx w.heap.size P n C (w.alloc (.cells (qC P n C) 54)) := heap_new _ _
  clear hn
  go_enter Try.func96, Try.ntmps96
  go_upto_region 1 with fail
  obtain ⟨x, hxx⟩ : ∃ x, w.alloc (.cells (qC P n C) 54) = x := ⟨_, rfl⟩
  obtain ⟨B, hB⟩ : ∃ B, w.heap.size = B := ⟨_, rfl⟩
  rw [hxx] at hb hx
  rw [hB] at hx
  change Code.wp _ _ _ _ (w.alloc (.cells (qC P n C) 54))
  rw [hxx, hB]
  have HB := Lib.hid hb; have HX := Lib.hid hx
  clear hxx hB hb hx
  go_wp2_with fail
  go_loop [3, 4, 5] (fun s3 s4 s5 => ∃ i : Nat, i ≤ 5 ∧ s5 = .int .i64 (i : Int) ∧ s3 = .int .i64 ((cntF n i : Nat) : Int) ∧ s4 = .int .i64 ((2 ^ i : Nat) : Int)) (fun _ _ s5 => 5 - (intOf s5).toNat)
  case atStart => exact ⟨0, by omega, rfl, rfl, rfl⟩
  case round =>
    obtain ⟨i, hi, rfl, rfl, rfl⟩ := hrel
    by_cases h5 : i < 5
    · have h5' : (i : Int) ≤ 4 := by omega
      have hcell := HX.out.cell h5
      have hl1 := cntF_lt HLT.out i (by omega)
      have hl2 := cntF_lt HLT.out (i + 1) (by omega)
      have hs : cntF n (i + 1) = cntF n i + n i * 2 ^ i := rfl
      have h3 : 2 ^ i ≤ 2 ^ 4 := Nat.pow_le_pow_right (by omega) (by omega)
      have h4 : n i * 2 ^ i ≤ 4294967296 * 2 ^ 4 := Nat.mul_le_mul (Nat.le_of_lt (HLT.out i)) h3
      have h6 : 2 ^ (i + 1) = 2 * 2 ^ i := by rw [Nat.pow_succ]; omega
      have hpc : ((2 ^ i : Nat) : Int) * ((n i : Nat) : Int) = ((n i * 2 ^ i : Nat) : Int) := by rw [Int.natCast_mul, Int.mul_comm]
      obtain ⟨t, ht⟩ : ∃ t, n i * 2 ^ i = t := ⟨_, rfl⟩
      obtain ⟨c, hc⟩ : ∃ c, n i = c := ⟨_, rfl⟩
      obtain ⟨g, hg⟩ : ∃ g, cntF n i = g := ⟨_, rfl⟩
      obtain ⟨g2, hg2⟩ : ∃ g, cntF n (i + 1) = g := ⟨_, rfl⟩
      obtain ⟨pw, hpw⟩ : ∃ pw, 2 ^ i = pw := ⟨_, rfl⟩
      obtain ⟨pw2, hpw2⟩ : ∃ pw, 2 ^ (i + 1) = pw := ⟨_, rfl⟩
      rw [ht] at hs h4 hpc
      rw [hc] at hpc hcell
      rw [hg] at hs hl1 ⊢
      rw [hg2] at hs hl2
      rw [hpw] at h3 h6 hpc ⊢
      rw [hpw2] at h6
      have HG2 := Lib.hid hg2; have HP2 := Lib.hid hpw2
      have q1 : wrap64 ((pw : Int) * (c : Int)) = (t : Int) := by rw [hpc]; exact IntWalk.wrap64_in _ ⟨by omega, by omega⟩
      have q2 : wrap64 ((g : Int) + (t : Int)) = (g2 : Int) := by rw [IntWalk.wrap64_in _ ⟨by omega, by omega⟩]; omega
      have q3 : wrap64 (2 * (pw : Int)) = (pw2 : Int) := by rw [IntWalk.wrap64_in _ ⟨by omega, by omega⟩]; omega
      clear hc hg hg2 ht hpc hl1 hl2 hs h3 h4 h6 hpw hpw2
      go_wp2_with fail
      go_round
      case rel => exact ⟨i + 1, by omega, by go_num, by rw [HG2.out]; first | rfl | rw [q2], by rw [HP2.out]; first | rfl | rw [q3]⟩
      case measure => simp [intOf]; omega
    · have h5' : ¬ (i : Int) ≤ 4 := by omega
      have e5 : i = 5 := by omega
      subst e5
      obtain ⟨g, hg⟩ : ∃ g, cntF n 5 = g := ⟨_, rfl⟩
      have HGG := Lib.hid hg
      rw [hg]
      clear hg
      go_wp2_with fail
      go_ret
      exact ⟨by rw [HGG.out]; rfl, HB.out⟩
theorem q_index0 (P : Nat → Option Addr) (n C : Nat → Nat) (w : World) : (Instr.index 54 (.agg #[.slice (P 0) (n 0) (C 0), .slice (P 1) (n 1) (C 1), .slice (P 2) (n 2) (C 2), .slice (P 3) (n 3) (C 3), .slice (P 4) (n 4) (C 4)]) (.int .i64 0)).run Try.prog w = .ok (.slice (P 0) (n 0) (C 0)) w := by kernel_rfl
theorem q_index1 (P : Nat → Option Addr) (n C : Nat → Nat) (w : World) : (Instr.index 54 (.agg #[.slice (P 0) (n 0) (C 0), .slice (P 1) (n 1) (C 1), .slice (P 2) (n 2) (C 2), .slice (P 3) (n 3) (C 3), .slice (P 4) (n 4) (C 4)]) (.int .i64 1)).run Try.prog w = .ok (.slice (P 1) (n 1) (C 1)) w := by kernel_rfl
theorem q_index2 (P : Nat → Option Addr) (n C : Nat → Nat) (w : World) : (Instr.index 54 (.agg #[.slice (P 0) (n 0) (C 0), .slice (P 1) (n 1) (C 1), .slice (P 2) (n 2) (C 2), .slice (P 3) (n 3) (C 3), .slice (P 4) (n 4) (C 4)]) (.int .i64 2)).run Try.prog w = .ok (.slice (P 2) (n 2) (C 2)) w := by kernel_rfl
theorem q_index3 (P : Nat → Option Addr) (n C : Nat → Nat) (w : World) : (Instr.index 54 (.agg #[.slice (P 0) (n 0) (C 0), .slice (P 1) (n 1) (C 1), .slice (P 2) (n 2) (C 2), .slice (P 3) (n 3) (C 3), .slice (P 4) (n 4) (C 4)]) (.int .i64 3)).run Try.prog w = .ok (.slice (P 3) (n 3) (C 3)) w := by kernel_rfl
theorem q_index4 (P : Nat → Option Addr) (n C : Nat → Nat) (w : World) : (Instr.index 54 (.agg #[.slice (P 0) (n 0) (C 0), .slice (P 1) (n 1) (C 1), .slice (P 2) (n 2) (C 2), .slice (P 3) (n 3) (C 3), .slice (P 4) (n 4) (C 4)]) (.int .i64 4)).run Try.prog w = .ok (.slice (P 4) (n 4) (C 4)) w := by kernel_rfl
theorem q_index (P : Nat → Option Addr) (n C : Nat → Nat) (k : Nat) (h : k < 5) (w : World) : (Instr.index 54 (.agg #[.slice (P 0) (n 0) (C 0), .slice (P 1) (n 1) (C 1), .slice (P 2) (n 2) (C 2), .slice (P 3) (n 3) (C 3), .slice (P 4) (n 4) (C 4)]) (.int .i64 (k : Int))).run Try.prog w = .ok (.slice (P k) (n k) (C k)) w :=
  match k, h with
  | 0, _ => q_index0 P n C w
  | 1, _ => q_index1 P n C w
  | 2, _ => q_index2 P n C w
  | 3, _ => q_index3 P n C w
  | 4, _ => q_index4 P n C w
/-- is an address in a bin? -/
def hasQ (q : Nat → List Nat) (a : Int) : Bool := (List.range 5).any fun k => (adI (q k)).any fun z => z == a
theorem hasQ_true {q : Nat → List Nat} {a : Int} {k j : Nat} (hk : k < 5) (hj : j < (q k).length) (h : (adI (q k)).getD j 0 = a) : hasQ q a = true := by
  unfold hasQ
  rw [List.any_eq_true]
  refine ⟨k, List.mem_range.2 hk, ?_⟩
  rw [List.any_eq_true]
  have hl : j < (adI (q k)).length := by simpa [adI] using hj
  exact ⟨(adI (q k))[j], List.getElem_mem hl, by rw [List.getD_eq_getElem?_getD, List.getElem?_eq_getElem hl] at h; simpa using h⟩
def NoneQ (q : Nat → List Nat) (a : Int) (k : Nat) : Prop := ∀ i, i < k → ∀ j, j < (q i).length → (adI (q i)).getD j 0 ≠ a
def NoneJ (q : Nat → List Nat) (a : Int) (k j : Nat) : Prop := ∀ i, i < j → (adI (q k)).getD i 0 ≠ a
theorem hasQ_false {q : Nat → List Nat} {a : Int} (h : NoneQ q a 5) : hasQ q a = false := by
  unfold hasQ
  rw [List.any_eq_false]
  intro k hk
  rw [Bool.not_eq_true, List.any_eq_false]
  intro z hz
  obtain ⟨j, hj, e⟩ := List.mem_iff_getElem.1 hz
  have hl : j < (q k).length := by simpa [adI] using hj
  have := h k (List.mem_range.1 hk) j hl
  rw [List.getD_eq_getElem?_getD, List.getElem?_eq_getElem hj] at this
  simp only [Option.getD_some] at this
  rw [← e]; simpa using this
theorem NoneJ.succ {q : Nat → List Nat} {a : Int} {k j : Nat} (h : NoneJ q a k j) (e : (adI (q k)).getD j 0 ≠ a) : NoneJ q a k (j + 1) := fun i hi => by
  by_cases c : i = j
  · rw [c]; exact e
  · exact h i (by omega)
theorem NoneQ.succ {q : Nat → List Nat} {a : Int} {k : Nat} (h : NoneQ q a k) (e : NoneJ q a k (q k).length) : NoneQ q a (k + 1) := fun i hi => by
  by_cases c : i = k
  · subst c; exact fun j hj => e j hj
  · exact h i (by omega)
set_option maxHeartbeats 4000000 in
set_option maxRecDepth 100000 in
theorem qhas_any (P : Nat → Option Addr) (n C : Nat → Nat) (q : Nat → List Nat) (a : Int) (w : World) (h : QAt P q w) (hn : ∀ k, n k = (q k).length) (hl : ∀ k, (q k).length ≤ 1000) :
    Calls Try.prog 27 #[.agg (qC P n C), .int .i64 a] w (Gives (.bool (hasQ q a)) w) := by
  have HN := Lib.hid hn; have HLE := Lib.hid hl
  have hb := bel1 w (.cells (qC P n C) 54)
  have hx : QBx w.heap.size P n C (w.alloc (.cells (qC P n C) 54)) := heap_new _ _
  have HQ := Lib.hid (h.below hb)
  clear hn hl h
  go_enter Try.func27, Try.ntmps27
  go_upto_region 1 with fail
  obtain ⟨x, hxx⟩ : ∃ x, w.alloc (.cells (qC P n C) 54) = x := ⟨_, rfl⟩
  obtain ⟨B, hB⟩ : ∃ B, w.heap.size = B := ⟨_, rfl⟩
  rw [hxx] at hb hx HQ
  rw [hB] at hx
  change Code.wp _ _ _ _ (w.alloc (.cells (qC P n C) 54))
  rw [hxx, hB]
  have HB := Lib.hid hb; have HX := Lib.hid hx
  clear hxx hB hb hx
  have c0 := HX.out.cell (i := 0) (by omega); have c1 := HX.out.cell (i := 1) (by omega); have c2 := HX.out.cell (i := 2) (by omega); have c3 := HX.out.cell (i := 3) (by omega); have c4 := HX.out.cell (i := 4) (by omega)
  go_wp2_with fail
  go_loopw [10] (fun s10 wr => ∃ k : Nat, k ≤ 5 ∧ s10 = .int .i64 (k : Int) ∧ NoneQ q a k ∧ wr = x) (fun s10 _ => 5 - (intOf s10).toNat)
  case atStart => exact ⟨0, by omega, rfl, fun j hj => by omega, rfl⟩
  case round =>
    obtain ⟨k, hk, rfl, hNQ, rfl⟩ := hrel
    have HNQ := Lib.hid hNQ
    clear hNQ c0 c1 c2 c3 c4
    by_cases h5 : k < 5
    · have hidx := q_index P n C k h5 wr
      obtain ⟨nk, hnk⟩ : ∃ nk, n k = nk := ⟨_, rfl⟩
      obtain ⟨ck, hck⟩ : ∃ ck, C k = ck := ⟨_, rfl⟩
      obtain ⟨pk, hpk⟩ : ∃ pk, P k = pk := ⟨_, rfl⟩
      have HR := Lib.hid (HQ.out k h5)
      have HNK : Hid (nk = (q k).length) := Lib.hid (by rw [← hnk]; exact HN.out k)
      rw [hpk] at HR
      rw [hnk, hck, hpk] at hidx
      have HNB : Hid (nk ≤ 1000) := Lib.hid (by rw [HNK.out]; exact HLE.out k)
      clear hnk hck hpk
      go_wp2_with fail
      go_loopw [15] (fun s15 wr' => ∃ j : Nat, j ≤ nk ∧ s15 = .int .i64 (j : Int) ∧ NoneJ q a k j ∧ wr' = wr) (fun s15 _ => nk - (intOf s15).toNat)
      case atStart => exact ⟨0, by omega, rfl, fun i hi => absurd hi (Nat.not_lt_zero i), rfl⟩
      case round =>
        obtain ⟨j, hj, rfl, hNJ, rfl⟩ := hrel
        have HNJ := Lib.hid hNJ
        have hnb := HNB.out
        clear hNJ
        by_cases hlt : j < nk
        · rcases HR.out with he | ⟨b, off, rfl, hbl, hcl⟩
          · have := HNK.out; have e2 := congrArg List.length he; simp [adI] at e2; rw [e2] at this; simp at this; omega
          · have hc := hcl j (by simp [adI]; have := HNK.out; omega)
            obtain ⟨z, hz⟩ : ∃ z, (adI (q k)).getD j 0 = z := ⟨_, rfl⟩
            rw [hz] at hc
            have HZ := Lib.hid hz
            clear hcl hz
            by_cases hza : z = a
            · have d : (z == a) = true := by simpa using hza
              have HT : Hid (hasQ q a = true) := Lib.hid (hasQ_true (k := k) (j := j) h5 (by have := HNK.out; omega) (by rw [HZ.out]; exact hza))
              go_wp2_with fail
              go_ret
              exact ⟨by rw [HT.out]; rfl, HB.out⟩
            · have d : (z == a) = false := by simpa using hza
              have HJ2 := Lib.hid (HNJ.out.succ (by rw [HZ.out]; exact hza))
              go_wp2_with fail
              go_roundw
              case rel => exact ⟨j + 1, by omega, by go_num, HJ2.out, by first | rfl | trivial⟩
              case measure => simp [intOf]; omega
        · have e : j = nk := by omega
          have HQ2 : Hid (NoneQ q a (k + 1)) := Lib.hid (HNQ.out.succ (by rw [← HNK.out, ← e]; exact HNJ.out))
          clear hidx
          go_wp2_with fail
          go_roundw
          case rel => exact ⟨k + 1, by omega, by go_num, HQ2.out, by first | rfl | trivial⟩
          case measure => simp [intOf]; omega
    · have e5 : k = 5 := by omega
      have HF : Hid (hasQ q a = false) := Lib.hid (hasQ_false (by rw [← e5]; exact HNQ.out))
      go_wp2_with fail
      go_ret
      exact ⟨by rw [HF.out]; rfl, HB.out⟩
end Go.Proofs.Ytoineackmpafdaa.Bt
/- The document's bins: Push, Pop. -/
namespace Go.Proofs.Ytoineackmpafdaa.Bt
open Go Go.RowKit Go.Shelf
set_option linter.unusedVariables false
set_option linter.unusedSimpArgs false

def up {α : Type} (f : Nat → α) (k : Nat) (v : α) (j : Nat) : α := if j = k then v else f j
theorem up_at {α : Type} (f : Nat → α) (k : Nat) (v : α) : up f k v k = v := if_pos rfl
theorem up_ne {α : Type} (f : Nat → α) {k j : Nat} (v : α) (h : j ≠ k) : up f k v j = f j := if_neg h
theorem qC_set (P : Nat → Option Addr) (n C : Nat → Nat) {k : Nat} (h : k < 5) (p : Option Addr) (m c : Nat) : (qC P n C).setIfInBounds k (.slice p m c) = qC (up P k p) (up n k m) (up C k c) := by
  match k, h with
  | 0, _ => simp [qC, up]
  | 1, _ => simp [qC, up]
  | 2, _ => simp [qC, up]
  | 3, _ => simp [qC, up]
  | 4, _ => simp [qC, up]
theorem QBx.set {B : Nat} {P : Nat → Option Addr} {n C : Nat → Nat} {w : World} (h : QBx B P n C w) {k : Nat} (hk : k < 5) (p : Option Addr) (m c : Nat) : QBx B (up P k p) (up n k m) (up C k c) (w.setCell ⟨B, k, none⟩ (.slice p m c)) := by
  unfold QBx
  rw [← qC_set P n C hk]
  exact heap_set h _
theorem QBx.all {B : Nat} {P : Nat → Option Addr} {n C : Nat → Nat} {w : World} (h : QBx B P n C w) : (w.cell? ⟨B, 0, none⟩ = some (.slice (P 0) (n 0) (C 0)) ∧ w.cell? ⟨B, 1, none⟩ = some (.slice (P 1) (n 1) (C 1)) ∧ w.cell? ⟨B, 2, none⟩ = some (.slice (P 2) (n 2) (C 2)) ∧ w.cell? ⟨B, 3, none⟩ = some (.slice (P 3) (n 3) (C 3)) ∧ w.cell? ⟨B, 4, none⟩ = some (.slice (P 4) (n 4) (C 4))) ∧
    w.frozen? ⟨B, 0, none⟩ = false ∧ w.frozen? ⟨B, 1, none⟩ = false ∧ w.frozen? ⟨B, 2, none⟩ = false ∧ w.frozen? ⟨B, 3, none⟩ = false ∧ w.frozen? ⟨B, 4, none⟩ = false :=
  ⟨⟨h.cell (by omega), h.cell (by omega), h.cell (by omega), h.cell (by omega), h.cell (by omega)⟩, (cell_blk h 0).2, (cell_blk h 1).2, (cell_blk h 2).2, (cell_blk h 3).2, (cell_blk h 4).2⟩
/-- five cells stored -/
def st5 (x : World) (B : Nat) (a b c d e : Value) : World := ((((x.setCell ⟨B, 0, none⟩ a).setCell ⟨B, 1, none⟩ b).setCell ⟨B, 2, none⟩ c).setCell ⟨B, 3, none⟩ d).setCell ⟨B, 4, none⟩ e
theorem st5_at {x : World} {B : Nat} {cs : Array Value} {T : TypeId} (h : x.heap[B]? = some (.cells cs T (0, 0))) (hc : cs.size = 5) (a b c d e : Value) : (st5 x B a b c d e).heap[B]? = some (.cells #[a, b, c, d, e] T (0, 0)) := by
  unfold st5
  rw [heap_set (heap_set (heap_set (heap_set (heap_set h a) b) c) d) e]
  match cs, hc with
  | ⟨[_, _, _, _, _]⟩, _ => rfl
theorem st5_far (x : World) {B k : Nat} (h : k ≠ B) (a b c d e : Value) : (st5 x B a b c d e).heap[k]? = x.heap[k]? := by
  unfold st5
  rw [set_other _ h, set_other _ h, set_other _ h, set_other _ h, set_other _ h]
theorem st5_below {b0 B : Nat} {w x : World} (h : Below b0 w x) (hB : b0 ≤ B) (a b c d e : Value) : Below b0 w (st5 x B a b c d e) :=
  ((((h.setCell (p := ⟨B, 0, none⟩) hB a).setCell (p := ⟨B, 1, none⟩) hB b).setCell (p := ⟨B, 2, none⟩) hB c).setCell (p := ⟨B, 3, none⟩) hB d).setCell (p := ⟨B, 4, none⟩) hB e
def q0P : Nat → Option Addr := fun _ => none
def q0N : Nat → Nat := fun _ => 0
theorem app_none (g n c : Nat) (h : n ≤ c) (w : World) (ty : TypeId) : (Builtin.append_ #[42, 42] ty #[.slice (some ⟨g, 0, none⟩) n c, .slice none 0 0]).run Try.prog w = .ok (.slice (some ⟨g, 0, none⟩) n c) w := by
  simp [go_sem]
  intro h2; omega
theorem src_cells {w : World} {ad : Addr} {zs : List Int} (h : IntsRow w (some ad) zs) : ∀ j u, (zs.map (Value.int .i64))[j]? = some u → w.cell? (ad.add j) = some u := fun j u e => by
  rcases h with rfl | ⟨b, off, h1, h2, h3⟩
  · simp at e
  · cases h1
    rw [List.getElem?_map] at e
    have hj : j < zs.length := by
      by_cases c : j < zs.length
      · exact c
      · rw [List.getElem?_eq_none (by omega)] at e; simp at e
    have eA : (⟨b, off, none⟩ : Addr).add j = ⟨b, off + j, none⟩ := by simp only [Addr.add]; split <;> simp_all
    rw [eA, h3 j hj, ← e, List.getElem?_eq_getElem hj, List.getD_eq_getElem?_getD, List.getElem?_eq_getElem hj]; rfl
theorem own_row_ints {W : World} {base : Nat} {v : Value} {k : Nat} {zs : List Int} (h : W.ownsRow base 3 1 v k (zs.map (Value.int .i64))) (hz : zs ≠ []) : ∃ g cap, v = .slice (some ⟨g, 0, none⟩) k cap ∧ k ≤ cap ∧ base ≤ g ∧ IntsRow W (some ⟨g, 0, none⟩) zs := by
  have hk : zs.length = k := by have := h.1; simpa using this
  have hl : 0 < zs.length := List.length_pos_iff.2 hz
  rcases h.2 with ⟨_, h0⟩ | ⟨g, cap, cur, rfl, hg, hb, hc, _⟩
  · omega
  · refine ⟨g, cap, rfl, hc, hg, .inr ⟨g, 0, rfl, (Array.getElem?_eq_some_iff.1 hb).1, fun j hj => ?_⟩⟩
    rw [Nat.zero_add, World.ownsRow.cellAt h j (by omega)]
    simp [List.getD_eq_getElem?_getD, List.getElem?_eq_getElem hj]
theorem ints_far {w w' : World} {g : Nat} {zs : List Int} (h : IntsRow w (some ⟨g, 0, none⟩) zs) {B : Nat} (hg : g ≠ B) (_ : Unit := ()) (hk : ∀ k, k ≠ B → w'.heap[k]? = w.heap[k]?) (hs : w'.heap.size = w.heap.size) : IntsRow w' (some ⟨g, 0, none⟩) zs := by
  rcases h with h | ⟨b, off, h1, h2, h3⟩
  · exact .inl h
  · cases h1
    exact .inr ⟨g, 0, rfl, by omega, fun j hj => (World.cell?_of_block (w := w) (a := ⟨g, 0 + j, none⟩) (hk g hg)).trans (h3 j hj)⟩
def QPushP (P : Nat → Option Addr) (n C : Nat → Nat) (q : Nat → List Nat) (k p : Nat) (w : World) (e : Ending) (w' : World) : Prop :=
  ∃ p' c', e = .returned (.agg (qC (up P k p') (up n k (n k + 1)) (up C k c'))) ∧ IntsRow w' p' (adI (p :: q k)) ∧ n k + 1 ≤ c' ∧ (p' ≠ none ∧ ∀ g off, p' = some ⟨g, off, none⟩ → w.heap.size ≤ g) ∧ Below w.heap.size w w'
set_option maxHeartbeats 4000000 in
set_option maxRecDepth 100000 in
theorem qpush_any (P : Nat → Option Addr) (n C : Nat → Nat) (q : Nat → List Nat) (k p : Nat) (hk : k < 5) (w : World) (h : QAt P q w) (hn : n k = (q k).length) (hl : (q k).length ≤ 1000) (h0 : P k = none → C k = 0) :
    Calls Try.prog 28 #[.agg (qC P n C), .int .i64 (k : Int), .int .i64 ((4096 * p : Nat) : Int)] w (QPushP P n C q k p w) := by
  obtain ⟨i0, hi0, hz0, hz1, hz2⟩ := info_parts Try.info3
  have HI := Lib.hid hi0; have HZ0 := Lib.hid hz0; have HZ1 := Lib.hid hz1; have HZ2 := Lib.hid hz2
  clear hi0 hz0 hz1 hz2
  have hb := below2 w (.cells (qC P n C) 54) (.cells (qC q0P q0N q0N) 54)
  have hp := pairs_new w (qC P n C) (qC q0P q0N q0N) 54 54
  have HQ := Lib.hid ((h.below hb) k hk)
  have HN := Lib.hid hn
  clear h
  go_enter Try.func28, Try.ntmps28
  go_upto_region 1 with fail
  obtain ⟨x, hxx⟩ : ∃ x, (w.alloc (.cells (qC P n C) 54)).alloc (.cells (qC q0P q0N q0N) 54) = x := ⟨_, rfl⟩
  obtain ⟨B, hB⟩ : ∃ B, w.heap.size = B := ⟨_, rfl⟩
  rw [hxx] at hb hp HQ
  rw [hB] at hp
  change Code.wp _ _ _ _ ((w.alloc (.cells (qC P n C) 54)).alloc (.cells (qC q0P q0N q0N) 54))
  rw [hxx, hB]
  have HWB : Hid (w.heap.size ≤ B + 1) := Lib.hid (by omega)
  have HWS : Hid (w.heap.size ≤ B) := Lib.hid (by omega)
  have hx : QBx B P n C x := hp.1
  have hr : QBx (B + 1) q0P q0N q0N x := hp.2
  obtain ⟨b0, hb0⟩ : ∃ b0, x.heap.size = b0 := ⟨_, rfl⟩
  have HBB : Hid (B + 1 < b0) := Lib.hid (by have := (Array.getElem?_eq_some_iff.1 hr).1; omega)
  have HX := Lib.hid hx; have HR := Lib.hid hr; have HB := Lib.hid hb; have HB0 := Lib.hid hb0
  obtain ⟨a, ha⟩ : ∃ a : Int, ((4096 * p : Nat) : Int) = a := ⟨_, rfl⟩
  have HA := Lib.hid ha
  rw [ha]
  have HR0 := Lib.hid (show (x.alloc (.cells #[.int .i64 a] 3)).ownsRow b0 3 1 (.slice none 0 0) 0 [] from World.ownsRow_nil _ _ _ _)
  obtain ⟨nk, hnk⟩ : ∃ nk, n k = nk := ⟨_, rfl⟩
  obtain ⟨ck, hck⟩ : ∃ ck, C k = ck := ⟨_, rfl⟩
  obtain ⟨pk, hpk⟩ : ∃ pk, P k = pk := ⟨_, rfl⟩
  have HE := Lib.hid (And.intro hpk (And.intro hnk hck))
  have HNK : Hid (nk = (q k).length) := Lib.hid (by rw [← hnk]; exact hn)
  have HLQ := Lib.hid hl
  rw [hpk] at HQ h0
  rw [hck] at h0
  have HXA : Hid (Below b0 x (x.alloc (.cells #[.int .i64 a] 3))) := Lib.hid ((Below.refl b0 x).alloc (by omega) _)
  have HX2 : Hid (∀ y, Below b0 x y → QBx B P n C y) := Lib.hid fun y hy => (hy.block B (by have := HBB.out; omega)).trans HX.out
  have HR2 : Hid (∀ y, Below b0 x y → QBx (B + 1) q0P q0N q0N y) := Lib.hid fun y hy => (hy.block (B + 1) (by have := HBB.out; omega)).trans HR.out
  have HQ2 : Hid (∀ y, Below b0 x y → IntsRow y pk (adI (q k))) := Lib.hid fun y hy => HQ.out.belowB (by rw [HB0.out]; exact hy)
  have HFB : Hid (∀ y, Below b0 x y → Below w.heap.size w y) := Lib.hid fun y hy => HB.out.trans (by rw [← HB0.out] at hy; exact hy.mono HB.out.size)
  clear hb hp hxx hB hx hr hb0 ha hnk hck hpk hn hl HN
  have hbb := HBB.out
  rcases pk with _ | ad
  · have hck0 := h0 rfl
    have hnk0 : nk = 0 := by
      rcases HQ.out with e | ⟨b, off, e, _⟩
      · have h1 := HNK.out
        have e2 := congrArg List.length e
        simp [adI] at e2
        rw [e2] at h1; simpa using h1
      · cases e
    have HQE : Hid (q k = []) := Lib.hid (List.eq_nil_of_length_eq_zero (by rw [← HNK.out]; exact hnk0))
    subst hck0; subst hnk0
    clear h0
    go_upto_region 4 with (at_builtin; refine wpList_append_own _ rfl _ _ 42 rfl b0 3 i0 (.int .i64 0) 1 8 Try.underlying42 HI.out HZ0.out HZ1.out HZ2.out rfl (by decide) _ _ _ rfl HR0.out ⟨_, 0, none⟩ 1 1 [.int .i64 a] rfl rfl (one_new _ _ _) (by simp [Value.oneCell']) (by unfold maxLen; omega) (by omega) (by have := HB0.out; simp; omega) ?_; intro v1 w2 hown1 hgrow1 _; obtain ⟨g1, cap1, rfl, hgc1, hgb1, hir1⟩ := own_row_ints (zs := [a]) hown1 (by simp); have hb2 := own_below HR0.out hgrow1 (by have := HB0.out; simp; omega) HXA.out; have hx2 := HX2.out w2 hb2; have hc2 := hx2.cell hk; rw [HE.out.1, HE.out.2.1, HE.out.2.2] at hc2; have hf2 := (cell_blk hx2 k).2; have hap := fun ty => app_none g1 1 cap1 hgc1 w2 ty)
    have hg1 : g1 ≠ B := by have := HBB.out; omega
    have hx5 := hx2.set hk (some ⟨g1, 0, none⟩) 1 cap1
    have hr5 : QBx (B + 1) q0P q0N q0N (w2.setCell ⟨B, k, none⟩ (.slice (some ⟨g1, 0, none⟩) 1 cap1)) := (set_other _ (by omega)).trans (HR2.out _ hb2)
    have hi5 : IntsRow (w2.setCell ⟨B, k, none⟩ (.slice (some ⟨g1, 0, none⟩) 1 cap1)) (some ⟨g1, 0, none⟩) (adI (p :: q k)) := by
          rw [HQE.out, show adI [p] = [a] by simp [adI, ← HA.out]]
          exact ints_far hir1 hg1 () (fun j hj => set_other _ hj) (by simp [World.setCell])
    have hb5 : Below w.heap.size w (w2.setCell ⟨B, k, none⟩ (.slice (some ⟨g1, 0, none⟩) 1 cap1)) := (HFB.out _ hb2).setCell (p := ⟨B, k, none⟩) (by have := HWS.out; show _ ≤ B; omega) _
    obtain ⟨y, hy⟩ : ∃ y, w2.setCell ⟨B, k, none⟩ (.slice (some ⟨g1, 0, none⟩) 1 cap1) = y := ⟨_, rfl⟩
    rw [hy] at hx5 hr5 hi5 hb5
    change Code.wp _ _ _ _ (w2.setCell ⟨B, k, none⟩ (.slice (some ⟨g1, 0, none⟩) 1 cap1))
    rw [hy]
    obtain ⟨P', hP'⟩ : ∃ P', up P k (some ⟨g1, 0, none⟩) = P' := ⟨_, rfl⟩
    obtain ⟨n', hn'⟩ : ∃ n', up n k 1 = n' := ⟨_, rfl⟩
    obtain ⟨C', hC'⟩ : ∃ C', up C k cap1 = C' := ⟨_, rfl⟩
    rw [hP', hn', hC'] at hx5
    have HEQ := Lib.hid (And.intro hP' (And.intro hn' hC'))
    have HR5 := Lib.hid hr5; have HI5 := Lib.hid hi5; have HB5 := Lib.hid hb5
    obtain ⟨⟨e0, e1, e2, e3, e4⟩, -, -, -, -, -⟩ := hx5.all
    obtain ⟨⟨r0, r1, r2, r3, r4⟩, z0, z1, z2, z3, z4⟩ := hr5.all
    have HGB : Hid (w.heap.size ≤ g1) := Lib.hid (by have h1 := HB.out.size; have h2 := HB0.out; omega)
    have HCC := Lib.hid hgc1
    clear hP' hn' hC' hx5 hr5 hi5 hb5 hy hap hc2 hf2 hx2 hb2 hir1 hgrow1 hown1
    go_wp2_with fail
    change bodyPost _ _ _ _ _ (st5 y (B + 1) (.slice (P' 0) (n' 0) (C' 0)) (.slice (P' 1) (n' 1) (C' 1)) (.slice (P' 2) (n' 2) (C' 2)) (.slice (P' 3) (n' 3) (C' 3)) (.slice (P' 4) (n' 4) (C' 4)))
    have hz := st5_at HR5.out rfl (.slice (P' 0) (n' 0) (C' 0)) (.slice (P' 1) (n' 1) (C' 1)) (.slice (P' 2) (n' 2) (C' 2)) (.slice (P' 3) (n' 3) (C' 3)) (.slice (P' 4) (n' 4) (C' 4))
    have hbz := st5_below (b0 := w.heap.size) HB5.out HWB.out (.slice (P' 0) (n' 0) (C' 0)) (.slice (P' 1) (n' 1) (C' 1)) (.slice (P' 2) (n' 2) (C' 2)) (.slice (P' 3) (n' 3) (C' 3)) (.slice (P' 4) (n' 4) (C' 4))
    have hiz : IntsRow (st5 y (B + 1) (.slice (P' 0) (n' 0) (C' 0)) (.slice (P' 1) (n' 1) (C' 1)) (.slice (P' 2) (n' 2) (C' 2)) (.slice (P' 3) (n' 3) (C' 3)) (.slice (P' 4) (n' 4) (C' 4))) (some ⟨g1, 0, none⟩) _ := ints_far HI5.out (by have := HBB.out; omega) () (fun k hk => st5_far y hk _ _ _ _ _) (by simp [st5, World.setCell])
    generalize st5 y (B + 1) (.slice (P' 0) (n' 0) (C' 0)) (.slice (P' 1) (n' 1) (C' 1)) (.slice (P' 2) (n' 2) (C' 2)) (.slice (P' 3) (n' 3) (C' 3)) (.slice (P' 4) (n' 4) (C' 4)) = Z at *
    have g0 := (cell_blk hz 0).1; have g1' := (cell_blk hz 1).1; have g2 := (cell_blk hz 2).1; have g3' := (cell_blk hz 3).1; have g4 := (cell_blk hz 4).1
    simp at g0 g1' g2 g3' g4
    exact bodyPost_ret (v := .agg (qC P' n' C')) (by simp [results, Try.results28, go_sem, g0, g1', g2, g3', g4, qC]) rfl ⟨some ⟨g1, 0, none⟩, cap1, by rw [← HEQ.out.1, ← HEQ.out.2.1, ← HEQ.out.2.2, HE.out.2.1], hiz, by rw [HE.out.2.1]; have := HCC.out; omega, ⟨(by simp), (fun g off e => by cases e; exact HGB.out)⟩, hbz⟩
  · have HNB : Hid (nk ≤ 1000) := Lib.hid (by rw [HNK.out]; exact HLQ.out)
    clear h0
    go_upto_region 4 with (at_builtin; first | (refine wpList_append_own _ rfl _ _ 42 rfl b0 3 i0 (.int .i64 0) 1 8 Try.underlying42 HI.out HZ0.out HZ1.out HZ2.out rfl (by decide) _ _ _ rfl HR0.out ⟨_, 0, none⟩ 1 1 [.int .i64 a] rfl rfl (one_new _ _ _) (by simp [Value.oneCell']) (by unfold maxLen; omega) (by omega) (by have := HB0.out; simp; omega) ?_; intro v1 w2 hown1 hgrow1 _; obtain ⟨g1, cap1, rfl, hgc1, hgb1, hir1⟩ := own_row_ints (zs := [a]) hown1 (by simp); have hb2 := own_below HR0.out hgrow1 (by have := HB0.out; simp; omega) HXA.out; have hx2 := HX2.out w2 hb2; have hc2 := hx2.cell hk; rw [HE.out.1, HE.out.2.1, HE.out.2.2] at hc2; have hf2 := (cell_blk hx2 k).2) | (refine wpList_append_own _ rfl _ _ 42 rfl b0 3 i0 (.int .i64 0) 1 8 Try.underlying42 HI.out HZ0.out HZ1.out HZ2.out rfl (by decide) _ _ _ rfl hown1 ad nk ck ((adI (q k)).map (Value.int .i64)) rfl (by simp [adI]; exact HNK.out.symm) (src_cells (HQ2.out _ hb2)) (by simp [Value.oneCell']) (by unfold maxLen; have := HNB.out; omega) (by have := HNB.out; omega) (by have hgz := hgrow1.size; have hbz := HB0.out; simp at hgz; omega) ?_; intro v3 w3 hown3 hgrow3 _; obtain ⟨g3, cap3, rfl, hgc3, hgb3, hir3⟩ := own_row_ints (zs := a :: adI (q k)) (by simpa using hown3) (by simp); have hb3 := own_below hown1 hgrow3 (by have hgz := hgrow1.size; have hbz := HB0.out; simp at hgz; omega) hb2; have hx3 := HX2.out w3 hb3; have hc3 := hx3.cell hk; rw [HE.out.1, HE.out.2.1, HE.out.2.2] at hc3; have hf3 := (cell_blk hx3 k).2))
    have hg3 : g3 ≠ B := by have := HBB.out; omega
    have hx5 := hx3.set hk (some ⟨g3, 0, none⟩) (1 + nk) cap3
    have hr5 : QBx (B + 1) q0P q0N q0N (w3.setCell ⟨B, k, none⟩ (.slice (some ⟨g3, 0, none⟩) (1 + nk) cap3)) := (set_other _ (by omega)).trans (HR2.out _ hb3)
    have hi5 : IntsRow (w3.setCell ⟨B, k, none⟩ (.slice (some ⟨g3, 0, none⟩) (1 + nk) cap3)) (some ⟨g3, 0, none⟩) (adI (p :: q k)) := by
          rw [show adI (p :: q k) = a :: adI (q k) by simp [adI, ← HA.out]]
          exact ints_far hir3 hg3 () (fun j hj => set_other _ hj) (by simp [World.setCell])
    have hb5 : Below w.heap.size w (w3.setCell ⟨B, k, none⟩ (.slice (some ⟨g3, 0, none⟩) (1 + nk) cap3)) := (HFB.out _ hb3).setCell (p := ⟨B, k, none⟩) (by have := HWS.out; show _ ≤ B; omega) _
    obtain ⟨y, hy⟩ : ∃ y, w3.setCell ⟨B, k, none⟩ (.slice (some ⟨g3, 0, none⟩) (1 + nk) cap3) = y := ⟨_, rfl⟩
    rw [hy] at hx5 hr5 hi5 hb5
    change Code.wp _ _ _ _ (w3.setCell ⟨B, k, none⟩ (.slice (some ⟨g3, 0, none⟩) (1 + nk) cap3))
    rw [hy]
    obtain ⟨P', hP'⟩ : ∃ P', up P k (some ⟨g3, 0, none⟩) = P' := ⟨_, rfl⟩
    obtain ⟨n', hn'⟩ : ∃ n', up n k (1 + nk) = n' := ⟨_, rfl⟩
    obtain ⟨C', hC'⟩ : ∃ C', up C k cap3 = C' := ⟨_, rfl⟩
    rw [hP', hn', hC'] at hx5
    have HEQ := Lib.hid (And.intro hP' (And.intro hn' hC'))
    have HR5 := Lib.hid hr5; have HI5 := Lib.hid hi5; have HB5 := Lib.hid hb5
    obtain ⟨⟨e0, e1, e2, e3, e4⟩, -, -, -, -, -⟩ := hx5.all
    obtain ⟨⟨r0, r1, r2, r3, r4⟩, z0, z1, z2, z3, z4⟩ := hr5.all
    have HGB : Hid (w.heap.size ≤ g3) := Lib.hid (by have h1 := HB.out.size; have h2 := HB0.out; omega)
    have HCC := Lib.hid hgc3
    clear hP' hn' hC' hx5 hr5 hi5 hb5 hy hc2 hf2 hx2 hb2 hir1 hc3 hf3 hx3 hb3 hir3 hgrow3 hown3 hgrow1 hown1
    go_wp2_with fail
    change bodyPost _ _ _ _ _ (st5 y (B + 1) (.slice (P' 0) (n' 0) (C' 0)) (.slice (P' 1) (n' 1) (C' 1)) (.slice (P' 2) (n' 2) (C' 2)) (.slice (P' 3) (n' 3) (C' 3)) (.slice (P' 4) (n' 4) (C' 4)))
    have hz := st5_at HR5.out rfl (.slice (P' 0) (n' 0) (C' 0)) (.slice (P' 1) (n' 1) (C' 1)) (.slice (P' 2) (n' 2) (C' 2)) (.slice (P' 3) (n' 3) (C' 3)) (.slice (P' 4) (n' 4) (C' 4))
    have hbz := st5_below (b0 := w.heap.size) HB5.out HWB.out (.slice (P' 0) (n' 0) (C' 0)) (.slice (P' 1) (n' 1) (C' 1)) (.slice (P' 2) (n' 2) (C' 2)) (.slice (P' 3) (n' 3) (C' 3)) (.slice (P' 4) (n' 4) (C' 4))
    have hiz : IntsRow (st5 y (B + 1) (.slice (P' 0) (n' 0) (C' 0)) (.slice (P' 1) (n' 1) (C' 1)) (.slice (P' 2) (n' 2) (C' 2)) (.slice (P' 3) (n' 3) (C' 3)) (.slice (P' 4) (n' 4) (C' 4))) (some ⟨g3, 0, none⟩) _ := ints_far HI5.out (by have := HBB.out; omega) () (fun k hk => st5_far y hk _ _ _ _ _) (by simp [st5, World.setCell])
    generalize st5 y (B + 1) (.slice (P' 0) (n' 0) (C' 0)) (.slice (P' 1) (n' 1) (C' 1)) (.slice (P' 2) (n' 2) (C' 2)) (.slice (P' 3) (n' 3) (C' 3)) (.slice (P' 4) (n' 4) (C' 4)) = Z at *
    have g0 := (cell_blk hz 0).1; have g1' := (cell_blk hz 1).1; have g2 := (cell_blk hz 2).1; have g3' := (cell_blk hz 3).1; have g4 := (cell_blk hz 4).1
    simp at g0 g1' g2 g3' g4
    exact bodyPost_ret (v := .agg (qC P' n' C')) (by simp [results, Try.results28, go_sem, g0, g1', g2, g3', g4, qC]) rfl ⟨some ⟨g3, 0, none⟩, cap3, by rw [← HEQ.out.1, ← HEQ.out.2.1, ← HEQ.out.2.2, HE.out.2.1, Nat.add_comm nk 1], hiz, by rw [HE.out.2.1]; have := HCC.out; omega, ⟨(by simp), (fun g off e => by cases e; exact HGB.out)⟩, hbz⟩
end Go.Proofs.Ytoineackmpafdaa.Bt
/- The document's bins: Pop. (Written by gen_bnk.py.) -/
namespace Go.Proofs.Ytoineackmpafdaa.Bt
open Go Go.RowKit Go.Shelf
set_option linter.unusedVariables false
set_option linter.unusedSimpArgs false
def QPopN (P : Nat → Option Addr) (n C : Nat → Nat) (w : World) (e : Ending) (w' : World) : Prop := e = .returned (.tuple #[.agg (qC P n C), .int .i64 0, .bool false]) ∧ Below w.heap.size w w'
def QPopS (P : Nat → Option Addr) (n C : Nat → Nat) (k a : Nat) (l : List Nat) (w : World) (e : Ending) (w' : World) : Prop :=
  ∃ p' c', e = .returned (.tuple #[.agg (qC (up P k p') (up n k (n k - 1)) (up C k c')), .int .i64 ((4096 * a : Nat) : Int), .bool true]) ∧ IntsRow w' p' (adI l) ∧ (p' = none → c' = 0) ∧ l.length ≤ c' ∧ (∀ g off, p' = some ⟨g, off, none⟩ → w.heap.size ≤ g) ∧ Below w.heap.size w w'
set_option maxHeartbeats 2000000 in
set_option maxRecDepth 100000 in
theorem qpop_out (P : Nat → Option Addr) (n C : Nat → Nat) (k : Int) (hk : ¬ (0 ≤ k ∧ k ≤ 4)) (w : World) :
    Calls Try.prog 26 #[.agg (qC P n C), .int .i64 k] w (QPopN P n C w) := by
  have hb := below2 w (.cells (qC P n C) 54) (.cells (qC q0P q0N q0N) 54)
  have hp := pairs_new w (qC P n C) (qC q0P q0N q0N) 54 54
  go_enter Try.func26, Try.ntmps26
  go_upto_region 1 with fail
  obtain ⟨x, hxx⟩ : ∃ x, (w.alloc (.cells (qC P n C) 54)).alloc (.cells (qC q0P q0N q0N) 54) = x := ⟨_, rfl⟩
  obtain ⟨B, hB⟩ : ∃ B, w.heap.size = B := ⟨_, rfl⟩
  rw [hxx] at hb hp
  rw [hB] at hp
  change Code.wp _ _ _ _ ((w.alloc (.cells (qC P n C) 54)).alloc (.cells (qC q0P q0N q0N) 54))
  rw [hxx, hB]
  have HWB : Hid (w.heap.size ≤ B + 1) := Lib.hid (by omega)
  have HWS : Hid (w.heap.size ≤ B) := Lib.hid (by omega)
  have hx : QBx B P n C x := hp.1
  have hr : QBx (B + 1) q0P q0N q0N x := hp.2
  have HR5 := Lib.hid hr; have HB5 := Lib.hid hb
  obtain ⟨⟨e0, e1, e2, e3, e4⟩, -, -, -, -, -⟩ := hx.all
  obtain ⟨⟨r0, r1, r2, r3, r4⟩, z0, z1, z2, z3, z4⟩ := hr.all
  clear hb hp hxx hB hx hr
  by_cases hk0 : k < 0
  · clear hk
    go_wp2_with fail
    change bodyPost _ _ _ _ _ (st5 x (B + 1) (.slice (P 0) (n 0) (C 0)) (.slice (P 1) (n 1) (C 1)) (.slice (P 2) (n 2) (C 2)) (.slice (P 3) (n 3) (C 3)) (.slice (P 4) (n 4) (C 4)))
    have hz := st5_at HR5.out rfl (.slice (P 0) (n 0) (C 0)) (.slice (P 1) (n 1) (C 1)) (.slice (P 2) (n 2) (C 2)) (.slice (P 3) (n 3) (C 3)) (.slice (P 4) (n 4) (C 4))
    have hbz := st5_below (b0 := w.heap.size) HB5.out HWB.out (.slice (P 0) (n 0) (C 0)) (.slice (P 1) (n 1) (C 1)) (.slice (P 2) (n 2) (C 2)) (.slice (P 3) (n 3) (C 3)) (.slice (P 4) (n 4) (C 4))
    generalize st5 x (B + 1) (.slice (P 0) (n 0) (C 0)) (.slice (P 1) (n 1) (C 1)) (.slice (P 2) (n 2) (C 2)) (.slice (P 3) (n 3) (C 3)) (.slice (P 4) (n 4) (C 4)) = Z at *
    have g0 := (cell_blk hz 0).1; have g1' := (cell_blk hz 1).1; have g2 := (cell_blk hz 2).1; have g3' := (cell_blk hz 3).1; have g4 := (cell_blk hz 4).1
    simp at g0 g1' g2 g3' g4
    exact bodyPost_ret (v := .tuple #[.agg (qC P n C), .int .i64 0, .bool false]) (by simp [results, Try.results26, go_sem, g0, g1', g2, g3', g4, qC]) rfl ⟨rfl, hbz⟩
  · have hk4 : 4 < k := by omega
    clear hk
    go_wp2_with fail
    change bodyPost _ _ _ _ _ (st5 x (B + 1) (.slice (P 0) (n 0) (C 0)) (.slice (P 1) (n 1) (C 1)) (.slice (P 2) (n 2) (C 2)) (.slice (P 3) (n 3) (C 3)) (.slice (P 4) (n 4) (C 4)))
    have hz := st5_at HR5.out rfl (.slice (P 0) (n 0) (C 0)) (.slice (P 1) (n 1) (C 1)) (.slice (P 2) (n 2) (C 2)) (.slice (P 3) (n 3) (C 3)) (.slice (P 4) (n 4) (C 4))
    have hbz := st5_below (b0 := w.heap.size) HB5.out HWB.out (.slice (P 0) (n 0) (C 0)) (.slice (P 1) (n 1) (C 1)) (.slice (P 2) (n 2) (C 2)) (.slice (P 3) (n 3) (C 3)) (.slice (P 4) (n 4) (C 4))
    generalize st5 x (B + 1) (.slice (P 0) (n 0) (C 0)) (.slice (P 1) (n 1) (C 1)) (.slice (P 2) (n 2) (C 2)) (.slice (P 3) (n 3) (C 3)) (.slice (P 4) (n 4) (C 4)) = Z at *
    have g0 := (cell_blk hz 0).1; have g1' := (cell_blk hz 1).1; have g2 := (cell_blk hz 2).1; have g3' := (cell_blk hz 3).1; have g4 := (cell_blk hz 4).1
    simp at g0 g1' g2 g3' g4
    exact bodyPost_ret (v := .tuple #[.agg (qC P n C), .int .i64 0, .bool false]) (by simp [results, Try.results26, go_sem, g0, g1', g2, g3', g4, qC]) rfl ⟨rfl, hbz⟩
set_option maxHeartbeats 2000000 in
set_option maxRecDepth 100000 in
theorem qpop_empty (P : Nat → Option Addr) (n C : Nat → Nat) (k : Nat) (hk : k < 5) (h0 : n k = 0) (w : World) :
    Calls Try.prog 26 #[.agg (qC P n C), .int .i64 (k : Int)] w (QPopN P n C w) := by
  have hb := below2 w (.cells (qC P n C) 54) (.cells (qC q0P q0N q0N) 54)
  have hp := pairs_new w (qC P n C) (qC q0P q0N q0N) 54 54
  go_enter Try.func26, Try.ntmps26
  go_upto_region 1 with fail
  obtain ⟨x, hxx⟩ : ∃ x, (w.alloc (.cells (qC P n C) 54)).alloc (.cells (qC q0P q0N q0N) 54) = x := ⟨_, rfl⟩
  obtain ⟨B, hB⟩ : ∃ B, w.heap.size = B := ⟨_, rfl⟩
  rw [hxx] at hb hp
  rw [hB] at hp
  change Code.wp _ _ _ _ ((w.alloc (.cells (qC P n C) 54)).alloc (.cells (qC q0P q0N q0N) 54))
  rw [hxx, hB]
  have HWB : Hid (w.heap.size ≤ B + 1) := Lib.hid (by omega)
  have HWS : Hid (w.heap.size ≤ B) := Lib.hid (by omega)
  have hx : QBx B P n C x := hp.1
  have hr : QBx (B + 1) q0P q0N q0N x := hp.2
  have hcell : x.cell? ⟨B, k, none⟩ = some (.slice (P k) 0 (C k)) := by rw [← h0]; exact hx.cell hk
  have hk0 : ¬ (k : Int) < 0 := by omega
  have hk4 : ¬ 4 < (k : Int) := by omega
  have HR5 := Lib.hid hr; have HB5 := Lib.hid hb
  obtain ⟨⟨e0, e1, e2, e3, e4⟩, -, -, -, -, -⟩ := hx.all
  obtain ⟨⟨r0, r1, r2, r3, r4⟩, z0, z1, z2, z3, z4⟩ := hr.all
  clear hb hp hxx hB hx hr
  go_wp2_with fail
  change bodyPost _ _ _ _ _ (st5 x (B + 1) (.slice (P 0) (n 0) (C 0)) (.slice (P 1) (n 1) (C 1)) (.slice (P 2) (n 2) (C 2)) (.slice (P 3) (n 3) (C 3)) (.slice (P 4) (n 4) (C 4)))
  have hz := st5_at HR5.out rfl (.slice (P 0) (n 0) (C 0)) (.slice (P 1) (n 1) (C 1)) (.slice (P 2) (n 2) (C 2)) (.slice (P 3) (n 3) (C 3)) (.slice (P 4) (n 4) (C 4))
  have hbz := st5_below (b0 := w.heap.size) HB5.out HWB.out (.slice (P 0) (n 0) (C 0)) (.slice (P 1) (n 1) (C 1)) (.slice (P 2) (n 2) (C 2)) (.slice (P 3) (n 3) (C 3)) (.slice (P 4) (n 4) (C 4))
  generalize st5 x (B + 1) (.slice (P 0) (n 0) (C 0)) (.slice (P 1) (n 1) (C 1)) (.slice (P 2) (n 2) (C 2)) (.slice (P 3) (n 3) (C 3)) (.slice (P 4) (n 4) (C 4)) = Z at *
  have g0 := (cell_blk hz 0).1; have g1' := (cell_blk hz 1).1; have g2 := (cell_blk hz 2).1; have g3' := (cell_blk hz 3).1; have g4 := (cell_blk hz 4).1
  simp at g0 g1' g2 g3' g4
  exact bodyPost_ret (v := .tuple #[.agg (qC P n C), .int .i64 0, .bool false]) (by simp [results, Try.results26, go_sem, g0, g1', g2, g3', g4, qC]) rfl ⟨rfl, hbz⟩
theorem ints_any {w w' : World} {p : Option Addr} {zs : List Int} (h : IntsRow w p zs) {B : Nat} (hg : ∀ g off, p = some ⟨g, off, none⟩ → g ≠ B) (hk : ∀ k, k ≠ B → w'.heap[k]? = w.heap[k]?) (hs : w'.heap.size = w.heap.size) : IntsRow w' p zs := by
  rcases h with h | ⟨b, off, h1, h2, h3⟩
  · exact .inl h
  · exact .inr ⟨b, off, h1, by omega, fun j hj => (World.cell?_of_block (w := w) (a := ⟨b, off + j, none⟩) (hk b (hg b off h1))).trans (h3 j hj)⟩
theorem own_row_any {W : World} {base : Nat} {v : Value} {k : Nat} {zs : List Int} (h : W.ownsRow base 3 1 v k (zs.map (Value.int .i64))) : ∃ p cap, v = .slice p k cap ∧ (p = none → cap = 0) ∧ zs.length ≤ cap ∧ (∀ g off, p = some ⟨g, off, none⟩ → base ≤ g) ∧ IntsRow W p zs := by
  by_cases hz : zs = []
  · subst hz
    rcases h.2 with ⟨rfl, h0⟩ | ⟨g, cap, cur, rfl, hg, hb, hc, _⟩
    · exact ⟨none, 0, by rw [h0], fun _ => rfl, Nat.le_refl _, (fun g off e => by cases e), .inl rfl⟩
    · exact ⟨_, cap, rfl, (fun e => by cases e), Nat.zero_le _, (fun g' off e => by cases e; exact hg), .inl rfl⟩
  · obtain ⟨g, cap, e1, e2, e3, e4⟩ := own_row_ints h hz
    have hk : zs.length = k := by have := h.1; simpa using this
    exact ⟨_, cap, e1, (fun e => by cases e), by omega, (fun g' off e => by cases e; exact e3), e4⟩
set_option maxHeartbeats 4000000 in
set_option maxRecDepth 100000 in
theorem qpop_some (P : Nat → Option Addr) (n C : Nat → Nat) (q : Nat → List Nat) (k a : Nat) (l : List Nat) (hk : k < 5) (w : World) (h : QAt P q w) (hn : n k = (q k).length) (hl : (q k).length ≤ 1000) (hc : n k ≤ C k) (he : q k = a :: l) :
    Calls Try.prog 26 #[.agg (qC P n C), .int .i64 (k : Int)] w (QPopS P n C k a l w) := by
  obtain ⟨i0, hi0, hz0, hz1, hz2⟩ := info_parts Try.info3
  have HI := Lib.hid hi0; have HZ0 := Lib.hid hz0; have HZ1 := Lib.hid hz1; have HZ2 := Lib.hid hz2
  clear hi0 hz0 hz1 hz2
  have HQ := Lib.hid ((h.below (below2 w (.cells (qC P n C) 54) (.cells (qC q0P q0N q0N) 54))) k hk)
  clear h
  have hb := below2 w (.cells (qC P n C) 54) (.cells (qC q0P q0N q0N) 54)
  have hp := pairs_new w (qC P n C) (qC q0P q0N q0N) 54 54
  go_enter Try.func26, Try.ntmps26
  go_upto_region 1 with fail
  obtain ⟨x, hxx⟩ : ∃ x, (w.alloc (.cells (qC P n C) 54)).alloc (.cells (qC q0P q0N q0N) 54) = x := ⟨_, rfl⟩
  obtain ⟨B, hB⟩ : ∃ B, w.heap.size = B := ⟨_, rfl⟩
  rw [hxx] at hb hp HQ
  rw [hB] at hp
  change Code.wp _ _ _ _ ((w.alloc (.cells (qC P n C) 54)).alloc (.cells (qC q0P q0N q0N) 54))
  rw [hxx, hB]
  have HWB : Hid (w.heap.size ≤ B + 1) := Lib.hid (by omega)
  have HWS : Hid (w.heap.size ≤ B) := Lib.hid (by omega)
  have hx : QBx B P n C x := hp.1
  have hr : QBx (B + 1) q0P q0N q0N x := hp.2
  obtain ⟨b0, hb0⟩ : ∃ b0, x.heap.size = b0 := ⟨_, rfl⟩
  have HBB : Hid (B + 1 < b0) := Lib.hid (by have := (Array.getElem?_eq_some_iff.1 hr).1; omega)
  have HX := Lib.hid hx; have HR := Lib.hid hr; have HB := Lib.hid hb; have HB0 := Lib.hid hb0
  have HR0 := Lib.hid (show x.ownsRow b0 3 1 (.slice none 0 0) 0 [] from World.ownsRow_nil _ _ _ _)
  obtain ⟨ck, hck⟩ : ∃ ck, C k = ck := ⟨_, rfl⟩
  obtain ⟨pk, hpk⟩ : ∃ pk, P k = pk := ⟨_, rfl⟩
  obtain ⟨m, hm⟩ : ∃ m, l.length = m := ⟨_, rfl⟩
  have hnk : n k = m + 1 := by rw [hn, he, List.length_cons, hm]
  have hcell : x.cell? ⟨B, k, none⟩ = some (.slice pk (m + 1) ck) := by rw [← hnk, ← hck, ← hpk]; exact hx.cell hk
  have hfr := (cell_blk hx k).2
  have HE := Lib.hid (And.intro hpk (And.intro hnk hck))
  rw [hpk, he] at HQ
  rw [hnk, hck] at hc
  have hm1 : m ≤ 1000 := by rw [he, List.length_cons] at hl; omega
  have HX2 : Hid (∀ y, Below b0 x y → QBx B P n C y) := Lib.hid fun y hy => (hy.block B (by have := HBB.out; omega)).trans HX.out
  have HR2 : Hid (∀ y, Below b0 x y → QBx (B + 1) q0P q0N q0N y) := Lib.hid fun y hy => (hy.block (B + 1) (by have := HBB.out; omega)).trans HR.out
  have HFB : Hid (∀ y, Below b0 x y → Below w.heap.size w y) := Lib.hid fun y hy => HB.out.trans (by rw [← HB0.out] at hy; exact hy.mono HB.out.size)
  have hk0 : ¬ (k : Int) < 0 := by omega
  have hk4 : ¬ 4 < (k : Int) := by omega
  rcases HQ.out with e | ⟨b, off, rfl, hbl, hcl⟩
  · simp [adI] at e
  have HML := Lib.hid hm
  have hc0 := hcl 0 (by simp [adI])
  have hadE : ∃ ai : Int, ((4096 * a : Nat) : Int) = ai := ⟨_, rfl⟩
  obtain ⟨ai, hai⟩ := hadE
  have hc0' : x.cell? ⟨b, off, none⟩ = some (.int .i64 ai) := by rw [← hai]; simpa [adI] using hc0
  have HSRC : Hid (∀ j u, ((adI l).map (Value.int .i64))[j]? = some u → x.cell? ((⟨b, off + 1, none⟩ : Addr).add j) = some u) := Lib.hid fun j u e => by
    have eA : (⟨b, off + 1, none⟩ : Addr).add j = ⟨b, off + (j + 1), none⟩ := by simp only [Addr.add]; split <;> simp_all <;> (try omega)
    have h2 := src_cells (w := x) (ad := ⟨b, off, none⟩) HQ.out (j + 1) u (by simpa [adI] using e)
    have eB : (⟨b, off, none⟩ : Addr).add (j + 1) = ⟨b, off + (j + 1), none⟩ := by simp only [Addr.add]; split <;> simp_all
    rw [eB] at h2; rw [eA]; exact h2
  have HAI := Lib.hid hai
  clear hb hp hxx hB hx hr hb0 hck hpk hn hl hnk hcl hc0 hai hm
  have hbb := HBB.out
  have hm0 : ((m : Int) + 1 == 0) = false := by simp; omega
  by_cases hck1 : ck = 1
  · subst hck1
    obtain rfl : m = 0 := by omega
    have HLE : Hid (l = []) := Lib.hid (List.eq_nil_of_length_eq_zero HML.out)
    clear hc hm1
    go_upto_region 6 with (at_builtin; refine wpList_append_own _ rfl _ _ 42 rfl b0 3 i0 (.int .i64 0) 1 8 Try.underlying42 HI.out HZ0.out HZ1.out HZ2.out rfl (by decide) _ _ _ rfl HR0.out ⟨b, off, none⟩ 0 0 ((adI l).map (Value.int .i64)) rfl (by rw [HLE.out]; rfl) (fun j u e => by rw [HLE.out] at e; simp [adI] at e) (by simp [Value.oneCell']) (by unfold maxLen; omega) (by omega) (by have := HB0.out; omega) ?_; intro v2 w2 hown2 hgrow2 _; obtain ⟨p5, c5, rfl, hpc5, hpl5, hpb5, hir5⟩ := own_row_any (zs := adI l) (by simpa using hown2); have hb2 := own_below HR0.out hgrow2 (by have := HB0.out; omega) (Below.refl b0 x); have hx2 := HX2.out w2 hb2; have hc2 := hx2.cell hk; rw [HE.out.1, HE.out.2.1, HE.out.2.2] at hc2; have hf2 := (cell_blk hx2 k).2)
    have hgB : ∀ g off, p5 = some ⟨g, off, none⟩ → g ≠ B := fun g off e => by have := hpb5 g off e; omega
    have HNB5 : Hid (∀ g off, p5 = some ⟨g, off, none⟩ → g ≠ B + 1) := Lib.hid fun g off e => by have := hpb5 g off e; omega
    have HPC5 := Lib.hid hpc5
    have HPL5 : Hid (l.length ≤ c5) := Lib.hid (by simpa [adI] using hpl5)
    have HPB5 : Hid (∀ g off, p5 = some ⟨g, off, none⟩ → w.heap.size ≤ g) := Lib.hid fun g off e => by have h0 := hpb5 g off e; have h1 := HB.out.size; have h2 := HB0.out; omega
    have hx5 := hx2.set hk p5 0 c5
    have hr5 : QBx (B + 1) q0P q0N q0N (w2.setCell ⟨B, k, none⟩ (.slice p5 0 c5)) := (set_other _ (by omega)).trans (HR2.out _ hb2)
    have hi5 : IntsRow (w2.setCell ⟨B, k, none⟩ (.slice p5 0 c5)) p5 (adI l) := ints_any hir5 hgB (fun j hj => set_other _ hj) (by simp [World.setCell])
    have hb5 : Below w.heap.size w (w2.setCell ⟨B, k, none⟩ (.slice p5 0 c5)) := (HFB.out _ hb2).setCell (p := ⟨B, k, none⟩) (by have := HWS.out; show _ ≤ B; omega) _
    obtain ⟨y, hy⟩ : ∃ y, w2.setCell ⟨B, k, none⟩ (.slice p5 0 c5) = y := ⟨_, rfl⟩
    rw [hy] at hx5 hr5 hi5 hb5
    change Code.wp _ _ _ _ (w2.setCell ⟨B, k, none⟩ (.slice p5 0 c5))
    rw [hy]
    obtain ⟨P', hP'⟩ : ∃ P', up P k p5 = P' := ⟨_, rfl⟩
    obtain ⟨n', hn'⟩ : ∃ n', up n k 0 = n' := ⟨_, rfl⟩
    obtain ⟨C', hC'⟩ : ∃ C', up C k c5 = C' := ⟨_, rfl⟩
    rw [hP', hn', hC'] at hx5
    have HEQ := Lib.hid (And.intro hP' (And.intro hn' hC'))
    have HR5 := Lib.hid hr5; have HI5 := Lib.hid hi5; have HB5 := Lib.hid hb5
    obtain ⟨⟨e0, e1, e2, e3, e4⟩, -, -, -, -, -⟩ := hx5.all
    obtain ⟨⟨r0, r1, r2, r3, r4⟩, z0, z1, z2, z3, z4⟩ := hr5.all
    clear hP' hn' hC' hx5 hr5 hi5 hb5 hy hc2 hf2 hx2 hb2 hir5 hgrow2 hown2 hpb5 hpc5 hpl5 hgB
    go_wp2_with fail
    change bodyPost _ _ _ _ _ (st5 y (B + 1) (.slice (P' 0) (n' 0) (C' 0)) (.slice (P' 1) (n' 1) (C' 1)) (.slice (P' 2) (n' 2) (C' 2)) (.slice (P' 3) (n' 3) (C' 3)) (.slice (P' 4) (n' 4) (C' 4)))
    have hz := st5_at HR5.out rfl (.slice (P' 0) (n' 0) (C' 0)) (.slice (P' 1) (n' 1) (C' 1)) (.slice (P' 2) (n' 2) (C' 2)) (.slice (P' 3) (n' 3) (C' 3)) (.slice (P' 4) (n' 4) (C' 4))
    have hbz := st5_below (b0 := w.heap.size) HB5.out HWB.out (.slice (P' 0) (n' 0) (C' 0)) (.slice (P' 1) (n' 1) (C' 1)) (.slice (P' 2) (n' 2) (C' 2)) (.slice (P' 3) (n' 3) (C' 3)) (.slice (P' 4) (n' 4) (C' 4))
    have hiz : IntsRow (st5 y (B + 1) (.slice (P' 0) (n' 0) (C' 0)) (.slice (P' 1) (n' 1) (C' 1)) (.slice (P' 2) (n' 2) (C' 2)) (.slice (P' 3) (n' 3) (C' 3)) (.slice (P' 4) (n' 4) (C' 4))) p5 _ := ints_any HI5.out HNB5.out (fun k hk => st5_far y hk _ _ _ _ _) (by simp [st5, World.setCell])
    generalize st5 y (B + 1) (.slice (P' 0) (n' 0) (C' 0)) (.slice (P' 1) (n' 1) (C' 1)) (.slice (P' 2) (n' 2) (C' 2)) (.slice (P' 3) (n' 3) (C' 3)) (.slice (P' 4) (n' 4) (C' 4)) = Z at *
    have g0 := (cell_blk hz 0).1; have g1' := (cell_blk hz 1).1; have g2 := (cell_blk hz 2).1; have g3' := (cell_blk hz 3).1; have g4 := (cell_blk hz 4).1
    simp at g0 g1' g2 g3' g4
    exact bodyPost_ret (v := .tuple #[.agg (qC P' n' C'), .int .i64 ai, .bool true]) (by simp [results, Try.results26, go_sem, g0, g1', g2, g3', g4, qC]) rfl ⟨p5, c5, by rw [← HEQ.out.1, ← HEQ.out.2.1, ← HEQ.out.2.2, HE.out.2.1, HAI.out] <;> rfl, hiz, HPC5.out, HPL5.out, HPB5.out, hbz⟩
  · skip
    go_upto_region 6 with (at_builtin; refine wpList_append_own _ rfl _ _ 42 rfl b0 3 i0 (.int .i64 0) 1 8 Try.underlying42 HI.out HZ0.out HZ1.out HZ2.out rfl (by decide) _ _ _ rfl HR0.out ⟨b, off + 1, none⟩ m (ck - 1) ((adI l).map (Value.int .i64)) rfl (by simp [adI]; exact HML.out) HSRC.out (by simp [Value.oneCell']) (by unfold maxLen; omega) (by omega) (by have := HB0.out; omega) ?_; intro v2 w2 hown2 hgrow2 _; obtain ⟨p5, c5, rfl, hpc5, hpl5, hpb5, hir5⟩ := own_row_any (zs := adI l) (by simpa using hown2); have hb2 := own_below HR0.out hgrow2 (by have := HB0.out; omega) (Below.refl b0 x); have hx2 := HX2.out w2 hb2; have hc2 := hx2.cell hk; rw [HE.out.1, HE.out.2.1, HE.out.2.2] at hc2; have hf2 := (cell_blk hx2 k).2)
    have hgB : ∀ g off, p5 = some ⟨g, off, none⟩ → g ≠ B := fun g off e => by have := hpb5 g off e; omega
    have HNB5 : Hid (∀ g off, p5 = some ⟨g, off, none⟩ → g ≠ B + 1) := Lib.hid fun g off e => by have := hpb5 g off e; omega
    have HPC5 := Lib.hid hpc5
    have HPL5 : Hid (l.length ≤ c5) := Lib.hid (by simpa [adI] using hpl5)
    have HPB5 : Hid (∀ g off, p5 = some ⟨g, off, none⟩ → w.heap.size ≤ g) := Lib.hid fun g off e => by have h0 := hpb5 g off e; have h1 := HB.out.size; have h2 := HB0.out; omega
    have hx5 := hx2.set hk p5 m c5
    have hr5 : QBx (B + 1) q0P q0N q0N (w2.setCell ⟨B, k, none⟩ (.slice p5 m c5)) := (set_other _ (by omega)).trans (HR2.out _ hb2)
    have hi5 : IntsRow (w2.setCell ⟨B, k, none⟩ (.slice p5 m c5)) p5 (adI l) := ints_any hir5 hgB (fun j hj => set_other _ hj) (by simp [World.setCell])
    have hb5 : Below w.heap.size w (w2.setCell ⟨B, k, none⟩ (.slice p5 m c5)) := (HFB.out _ hb2).setCell (p := ⟨B, k, none⟩) (by have := HWS.out; show _ ≤ B; omega) _
    obtain ⟨y, hy⟩ : ∃ y, w2.setCell ⟨B, k, none⟩ (.slice p5 m c5) = y := ⟨_, rfl⟩
    rw [hy] at hx5 hr5 hi5 hb5
    change Code.wp _ _ _ _ (w2.setCell ⟨B, k, none⟩ (.slice p5 m c5))
    rw [hy]
    obtain ⟨P', hP'⟩ : ∃ P', up P k p5 = P' := ⟨_, rfl⟩
    obtain ⟨n', hn'⟩ : ∃ n', up n k m = n' := ⟨_, rfl⟩
    obtain ⟨C', hC'⟩ : ∃ C', up C k c5 = C' := ⟨_, rfl⟩
    rw [hP', hn', hC'] at hx5
    have HEQ := Lib.hid (And.intro hP' (And.intro hn' hC'))
    have HR5 := Lib.hid hr5; have HI5 := Lib.hid hi5; have HB5 := Lib.hid hb5
    obtain ⟨⟨e0, e1, e2, e3, e4⟩, -, -, -, -, -⟩ := hx5.all
    obtain ⟨⟨r0, r1, r2, r3, r4⟩, z0, z1, z2, z3, z4⟩ := hr5.all
    clear hP' hn' hC' hx5 hr5 hi5 hb5 hy hc2 hf2 hx2 hb2 hir5 hgrow2 hown2 hpb5 hpc5 hpl5 hgB
    go_wp2_with fail
    change bodyPost _ _ _ _ _ (st5 y (B + 1) (.slice (P' 0) (n' 0) (C' 0)) (.slice (P' 1) (n' 1) (C' 1)) (.slice (P' 2) (n' 2) (C' 2)) (.slice (P' 3) (n' 3) (C' 3)) (.slice (P' 4) (n' 4) (C' 4)))
    have hz := st5_at HR5.out rfl (.slice (P' 0) (n' 0) (C' 0)) (.slice (P' 1) (n' 1) (C' 1)) (.slice (P' 2) (n' 2) (C' 2)) (.slice (P' 3) (n' 3) (C' 3)) (.slice (P' 4) (n' 4) (C' 4))
    have hbz := st5_below (b0 := w.heap.size) HB5.out HWB.out (.slice (P' 0) (n' 0) (C' 0)) (.slice (P' 1) (n' 1) (C' 1)) (.slice (P' 2) (n' 2) (C' 2)) (.slice (P' 3) (n' 3) (C' 3)) (.slice (P' 4) (n' 4) (C' 4))
    have hiz : IntsRow (st5 y (B + 1) (.slice (P' 0) (n' 0) (C' 0)) (.slice (P' 1) (n' 1) (C' 1)) (.slice (P' 2) (n' 2) (C' 2)) (.slice (P' 3) (n' 3) (C' 3)) (.slice (P' 4) (n' 4) (C' 4))) p5 _ := ints_any HI5.out HNB5.out (fun k hk => st5_far y hk _ _ _ _ _) (by simp [st5, World.setCell])
    generalize st5 y (B + 1) (.slice (P' 0) (n' 0) (C' 0)) (.slice (P' 1) (n' 1) (C' 1)) (.slice (P' 2) (n' 2) (C' 2)) (.slice (P' 3) (n' 3) (C' 3)) (.slice (P' 4) (n' 4) (C' 4)) = Z at *
    have g0 := (cell_blk hz 0).1; have g1' := (cell_blk hz 1).1; have g2 := (cell_blk hz 2).1; have g3' := (cell_blk hz 3).1; have g4 := (cell_blk hz 4).1
    simp at g0 g1' g2 g3' g4
    exact bodyPost_ret (v := .tuple #[.agg (qC P' n' C'), .int .i64 ai, .bool true]) (by simp [results, Try.results26, go_sem, g0, g1', g2, g3', g4, qC]) rfl ⟨p5, c5, by rw [← HEQ.out.1, ← HEQ.out.2.1, ← HEQ.out.2.2, HE.out.2.1, HAI.out] <;> rfl, hiz, HPC5.out, HPL5.out, HPB5.out, hbz⟩
end Go.Proofs.Ytoineackmpafdaa.Bt
/- What bins tell. (Written by gen_bnl.py.) -/
namespace Go.Proofs.Ytoineackmpafdaa.Bt
open Go Go.RowKit Go.Shelf
set_option linter.unusedVariables false
set_option linter.unusedSimpArgs false

theorem lsP_congr {C n : Nat → Nat} (h : ∀ k, k < 5 → C k = n k) (o : Int) (k : Nat) (hk : k < 5) : lsP C o k = lsP n o k := by unfold lsP; rw [h k hk]
theorem lsV_shape (n : Nat → Nat) (o : Int) : ∃ a b, lsV n o = .tuple #[.int .i64 a, .bool b] := by
  unfold lsV
  split
  · exact ⟨_, _, rfl⟩
  · exact ⟨_, _, rfl⟩
theorem lsV_congr {C n : Nat → Nat} (h : ∀ k, k < 5 → C k = n k) (o : Int) : lsV C o = lsV n o := by
  unfold lsV
  have : (List.range 5).find? (lsP C o) = (List.range 5).find? (lsP n o) := by
    have e : ∀ l : List Nat, (∀ k ∈ l, k < 5) → l.find? (lsP C o) = l.find? (lsP n o) := fun l => by
      induction l with
      | nil => intro _; rfl
      | cons a l ih =>
        intro hl
        rw [List.find?_cons, List.find?_cons, lsP_congr h o a (hl a (by simp)), ih fun k hk => hl k (by simp [hk])]
    exact e _ fun k hk => List.mem_range.1 hk
  rw [this]
theorem cntF_congr {C n : Nat → Nat} (h : ∀ k, k < 5 → C k = n k) : ∀ k, k ≤ 5 → cntF C k = cntF n k
  | 0, _ => rfl
  | k + 1, hk => by unfold cntF; rw [cntF_congr h k (by omega), h k (by omega)]
/-- the variables of told -/
def TlV (B D A : Nat) (P : Nat → Option Addr) (n C : Nat → Nat) (X : World) : Prop :=
  X.cell? ⟨B, 0, none⟩ = some (.pointer (some ⟨A, 0, none⟩)) ∧ X.cell? ⟨B, 1, none⟩ = some (.int .i64 100) ∧ X.cell? ⟨B, 2, none⟩ = some (.int .i64 44) ∧
  X.cell? ⟨D, 0, none⟩ = some (.slice (P 0) (n 0) (C 0)) ∧ X.cell? ⟨D, 1, none⟩ = some (.slice (P 1) (n 1) (C 1)) ∧ X.cell? ⟨D, 2, none⟩ = some (.slice (P 2) (n 2) (C 2)) ∧ X.cell? ⟨D, 3, none⟩ = some (.slice (P 3) (n 3) (C 3)) ∧ X.cell? ⟨D, 4, none⟩ = some (.slice (P 4) (n 4) (C 4)) ∧
  B3 26 B (some ⟨A, 0, none⟩) 100 44 X ∧ QBx D P n C X
theorem tlv_mk {B D A : Nat} {P : Nat → Option Addr} {n C : Nat → Nat} {X : World} (h : B3 26 B (some ⟨A, 0, none⟩) 100 44 X) (k : QBx D P n C X) : TlV B D A P n C X :=
  ⟨h.all.1.1, h.all.1.2.1, h.all.1.2.2, k.all.1.1, k.all.1.2.1, k.all.1.2.2.1, k.all.1.2.2.2.1, k.all.1.2.2.2.2, h, k⟩
theorem TlV.b {B D A : Nat} {P : Nat → Option Addr} {n C : Nat → Nat} {X : World} (h : TlV B D A P n C X) : B3 26 B (some ⟨A, 0, none⟩) 100 44 X := h.2.2.2.2.2.2.2.2.1
theorem TlV.q {B D A : Nat} {P : Nat → Option Addr} {n C : Nat → Nat} {X : World} (h : TlV B D A P n C X) : QBx D P n C X := h.2.2.2.2.2.2.2.2.2
theorem TlV.below {B D A : Nat} {P : Nat → Option Addr} {n C : Nat → Nat} {X Y : World} (h : TlV B D A P n C X) (hb : Below X.heap.size X Y) : TlV B D A P n C Y := tlv_mk (h.b.below hb) (blk_at hb h.q)
/-- the arena, the rows -/
structure TlW (A : Nat) (m : Nat → UInt8) (P : Nat → Option Addr) (q : Nat → List Nat) (w x : World) : Prop where
  on : On A (s13 m) x
  qa : QAt P q x
  bl : Below w.heap.size w x
theorem TlW.below {A : Nat} {m : Nat → UInt8} {P : Nat → Option Addr} {q : Nat → List Nat} {w x y : World} (h : TlW A m P q w x) (hb : Below x.heap.size x y) : TlW A m P q w y := ⟨h.on.below hb, h.qa.below hb, h.bl.trans (hb.mono h.bl.size)⟩
set_option maxHeartbeats 8000000 in
set_option maxRecDepth 100000 in
theorem btold_ok {A : Nat} {m : Nat → UInt8} {w : World} (h : On A (s13 m) w) (P : Nat → Option Addr) (n C : Nat → Nat) (q : Nat → List Nat) (b : Bn13 m q) (qa : QAt P q w) (hn : ∀ k, n k = (q k).length) (hl : ∀ k, (q k).length ≤ 1000) (k : Int) :
    Calls Try.prog 29 #[.agg #[.pointer (some ⟨A, 0, none⟩), .int .i64 100, .int .i64 44], .agg (qC P n C), .int .i64 k] w (Gives (.bool true) w) := by
  have HN := Lib.hid hn; have HLL := Lib.hid hl
  have HNL : Hid (∀ k, n k < 4294967296) := Lib.hid fun k => by rw [hn k]; have := hl k; omega
  have hC : ∀ k, k < 5 → hdC m 100 k = n k := fun k hk => by rw [hn k]; exact Bn.many b k hk
  have HCN : Hid (cntF (hdC m 100) 5 = cntF n 5) := Lib.hid (cntF_congr hC 5 (by omega))
  have HLS := Lib.hid (fun (y : World) (hy : On A (s13 m) y) => least13 hy k)
  rw [lsV_congr hC k] at HLS
  obtain ⟨la, lb, hlab⟩ := lsV_shape n k
  have HQL := Lib.hid (fun (y : World) => qleast_any P n C k y)
  rw [hlab] at HLS HQL
  have HCO := Lib.hid (fun (y : World) (hy : On A (s13 m) y) => count13 hy)
  rw [HCN.out] at HCO
  obtain ⟨cn, hcn⟩ : ∃ cn, cntF n 5 = cn := ⟨_, rfl⟩
  have HCN := Lib.hid hcn
  rw [hcn] at HCO
  have HAL := Lib.hid (fun (y : World) (hy : On A (s13 m) y) (j : Nat) (hj : j < 5) => ball_in hy 100 44 j (by omega) (by omega) (by omega) hj b (hl j))
  have HAN := Lib.hid (fun (y : World) (j : Int) (hj : ¬ (0 ≤ j ∧ j ≤ 4)) => ball_arg (w := y) (some ⟨A, 0, none⟩) 100 44 j hj)
  have hb := below2 w (.cells #[.pointer (some ⟨A, 0, none⟩), .int .i64 100, .int .i64 44] 26) (.cells (qC P n C) 54)
  have hp := pairs_new w #[.pointer (some ⟨A, 0, none⟩), .int .i64 100, .int .i64 44] (qC P n C) 26 54
  have hw : TlW A m P q w ((w.alloc (.cells #[.pointer (some ⟨A, 0, none⟩), .int .i64 100, .int .i64 44] 26)).alloc (.cells (qC P n C) 54)) := ⟨h.below hb, qa.below hb, hb⟩
  clear h b qa hn hl hC hlab hcn
  go_enter Try.func29, Try.ntmps29
  go_upto_region 1 with fail
  obtain ⟨x, hxx⟩ : ∃ x, (w.alloc (.cells #[.pointer (some ⟨A, 0, none⟩), .int .i64 100, .int .i64 44] 26)).alloc (.cells (qC P n C) 54) = x := ⟨_, rfl⟩
  obtain ⟨B, hB⟩ : ∃ B, w.heap.size = B := ⟨_, rfl⟩
  rw [hxx] at hp hw
  rw [hB] at hp
  change Code.wp _ _ _ _ ((w.alloc (.cells #[.pointer (some ⟨A, 0, none⟩), .int .i64 100, .int .i64 44] 26)).alloc (.cells (qC P n C) 54))
  try simp only [World.size_alloc]
  rw [hxx, hB]
  obtain ⟨D, hD⟩ : ∃ D, B + 1 = D := ⟨_, rfl⟩
  rw [hD] at hp
  try rw [hD]
  have HV0 : Hid (TlV B D A P n C x) := Lib.hid (tlv_mk hp.1 hp.2)
  have HW0 := Lib.hid hw
  clear hb hp hxx hB hw hD
  go_wp2_with fail
  go_loopw [7] (fun s7 wr => ∃ i : Int, -1 ≤ i ∧ i ≤ 6 ∧ s7 = .int .i64 i ∧ TlV B D A P n C wr ∧ TlW A m P q w wr) (fun s7 _ => (6 - intOf s7).toNat)
  case atStart => exact ⟨-1, by omega, by omega, rfl, HV0.out, HW0.out⟩
  case round =>
    clear HV0 HW0
    obtain ⟨i, hi1, hi2, rfl, hv, hw⟩ := hrel
    have HV := Lib.hid hv; have HW := Lib.hid hw
    by_cases hi5 : i ≤ 5
    · by_cases hin : 0 ≤ i ∧ i ≤ 4
      · obtain ⟨j, rfl⟩ := Int.eq_ofNat_of_zero_le hin.1
        have hj5 : j < 5 := by omega
        have hi4 := hin.2
        have hcell := hv.q.cell hj5
        obtain ⟨c0, c1, c2, -, -, -, -, -, -, -⟩ := hv
        obtain ⟨pj, hpj⟩ : ∃ p, P j = p := ⟨_, rfl⟩
        obtain ⟨nj, hnj⟩ : ∃ p, n j = p := ⟨_, rfl⟩
        obtain ⟨cj, hcj⟩ : ∃ p, C j = p := ⟨_, rfl⟩
        rw [hpj, hnj, hcj] at hcell
        have HNJ : Hid (nj = (q j).length) := Lib.hid (by rw [← hnj]; exact HN.out j)
        have HQJ : Hid (∀ y, QAt P q y → IntsRow y pj (adI (q j))) := Lib.hid fun y hy => by rw [← hpj]; exact hy j hj5
        have HAJ := Lib.hid (HAL.out wr hw.on j hj5)
        clear hw hin hpj hnj hcj
        go_wp2_with fail
        refine HAJ.out.mono ?_
        rintro e w2 ⟨v, rfl, hi, hb⟩
        obtain ⟨pv, cv, rfl, hrw⟩ := hi.row
        have HV2 := Lib.hid (HV.out.below hb); have HW2 := Lib.hid (HW.out.below hb); have HRW := Lib.hid hrw
        have HLE : Hid ((adI (q j)).length = nj) := Lib.hid (by rw [HNJ.out]; simp [adI])
        rw [HLE.out]
        clear hb hi hrw c0 c1 c2 hcell
        go_wp2_with fail
        refine (equal_any pv pj cv cj nj nj (adI (q j)) (adI (q j)) HLE.out.symm HLE.out.symm (by have := HLL.out j; have := HNJ.out; omega) _ HRW.out (HQJ.out _ HW2.out.qa)).mono ?_
        rintro e w3 ⟨rfl, d, rfl⟩
        have HEE : Hid ((adI (q j) == adI (q j)) = true) := Lib.hid (by simp)
        rw [HEE.out]
        have HV3 := Lib.hid (HV2.out.below (below_drewN (Below.refl _ _) d)); have HW3 := Lib.hid (HW2.out.below (below_drewN (Below.refl _ _) d))
        go_wp2_with fail
        go_roundw
        case rel => exact ⟨(j : Int) + 1, by omega, by omega, by go_num, HV3.out, HW3.out⟩
        case measure => simp [intOf]; omega
      · have HAJ := Lib.hid (HAN.out wr i hin)
        obtain ⟨c0, c1, c2, -, -, -, -, -, -, -⟩ := hv
        clear hw
        by_cases h0 : 0 ≤ i
        · have h4 : ¬ i ≤ 4 := fun e => hin ⟨h0, e⟩
          clear hin
          go_wp2_with fail
          refine HAJ.out.mono ?_
          rintro e w2 ⟨rfl, hb⟩
          have HV2 := Lib.hid (HV.out.below hb); have HW2 := Lib.hid (HW.out.below hb)
          clear hb c0 c1 c2
          go_wp2_with fail
          refine (equal_zero none none 0 0 _).mono ?_
          rintro e w3 ⟨rfl, rfl⟩
          go_wp2_with fail
          go_roundw
          case rel => exact ⟨i + 1, by omega, by omega, by go_num, HV2.out, HW2.out⟩
          case measure => simp [intOf]; omega
        · clear hin
          go_wp2_with fail
          refine HAJ.out.mono ?_
          rintro e w2 ⟨rfl, hb⟩
          have HV2 := Lib.hid (HV.out.below hb); have HW2 := Lib.hid (HW.out.below hb)
          clear hb c0 c1 c2
          go_wp2_with fail
          refine (equal_zero none none 0 0 _).mono ?_
          rintro e w3 ⟨rfl, rfl⟩
          go_wp2_with fail
          go_roundw
          case rel => exact ⟨i + 1, by omega, by omega, by go_num, HV2.out, HW2.out⟩
          case measure => simp [intOf]; omega
    · obtain ⟨c0, c1, c2, d0, d1, d2, d3, d4, -, -⟩ := hv
      clear hw
      go_wp2_with fail
      refine (HLS.out _ HW.out.on).mono ?_
      rintro e w2 ⟨rfl, hb⟩
      have HV2 := Lib.hid (HV.out.below hb); have HW2 := Lib.hid (HW.out.below hb)
      clear hb HV HW c0 c1 c2 d0 d1 d2 d3 d4
      obtain ⟨c0, c1, c2, d0, d1, d2, d3, d4, -, -⟩ := HV2.out
      go_wp2_with fail
      refine (HQL.out _).mono ?_
      rintro e w3 ⟨rfl, hb⟩
      have HV3 := Lib.hid (HV2.out.below hb); have HW3 := Lib.hid (HW2.out.below hb)
      clear hb HV2 HW2 c0 c1 c2 d0 d1 d2 d3 d4
      go_upto_region 11 with fail
      have hS0 : TlV B D A P n C w3.drew := HV3.out.below (Below.refl _ _).drew
      have HO := Lib.hid (HW3.out.below (Below.refl w3.heap.size w3).drew)
      clear HV3 HW3
      refine wp_region_held_drew (S := TlV B D A P n C) (by kernel_rfl) hS0 (fun hHeld => ?_)
      clear hS0
      refine wpAnyH_take (i := 0) (v := (.int .i64 la)) rfl (by kernel_rfl) (by kernel_rfl) (by kernel_rfl) (fun _ _ _ h => h) (Or.inl ⟨by rfl, fun X hS => ?_⟩) hHeld ?_
      · obtain ⟨s1, s2, s3, s4, s5, s6, s7, s8, _, _⟩ := hS
        go_simp
      try simp only [Act.put, List.getElem_toArray, List.getElem_cons_zero, List.getElem_cons_succ, List.setIfInBounds_toArray, List.set_cons_zero, List.set_cons_succ]
      refine wpAnyH_take (i := 1) (v := (.int .i64 la)) rfl (by kernel_rfl) (by kernel_rfl) (by kernel_rfl) (fun _ _ _ h => h) (Or.inl ⟨by rfl, fun X hS => ?_⟩) hHeld ?_
      · obtain ⟨s1, s2, s3, s4, s5, s6, s7, s8, _, _⟩ := hS
        go_simp
      try simp only [Act.put, List.getElem_toArray, List.getElem_cons_zero, List.getElem_cons_succ, List.setIfInBounds_toArray, List.set_cons_zero, List.set_cons_succ]
      refine wpAnyH_take (i := 2) (v := (.bool true)) rfl (by kernel_rfl) (by kernel_rfl) (by kernel_rfl) (fun _ _ _ h => h) (Or.inl ⟨by rfl, fun X hS => ?_⟩) hHeld ?_
      · obtain ⟨s1, s2, s3, s4, s5, s6, s7, s8, _, _⟩ := hS
        go_simp
      try simp only [Act.put, List.getElem_toArray, List.getElem_cons_zero, List.getElem_cons_succ, List.setIfInBounds_toArray, List.set_cons_zero, List.set_cons_succ]
      refine wpAnyH_take (i := 3) (v := (.bool true)) rfl (by kernel_rfl) (by kernel_rfl) (by kernel_rfl) (fun _ _ _ h => h) (Or.inl ⟨by rfl, fun X hS => ?_⟩) hHeld ?_
      · obtain ⟨s1, s2, s3, s4, s5, s6, s7, s8, _, _⟩ := hS
        go_simp
      try simp only [Act.put, List.getElem_toArray, List.getElem_cons_zero, List.getElem_cons_succ, List.setIfInBounds_toArray, List.set_cons_zero, List.set_cons_succ]
      refine wpAnyH_take (i := 4) (v := (.bool lb)) rfl (by kernel_rfl) (by kernel_rfl) (by kernel_rfl) (fun _ _ _ h => h) (Or.inl ⟨by rfl, fun X hS => ?_⟩) hHeld ?_
      · obtain ⟨s1, s2, s3, s4, s5, s6, s7, s8, _, _⟩ := hS
        go_simp
      try simp only [Act.put, List.getElem_toArray, List.getElem_cons_zero, List.getElem_cons_succ, List.setIfInBounds_toArray, List.set_cons_zero, List.set_cons_succ]
      refine wpAnyH_take (i := 5) (v := (.bool lb)) rfl (by kernel_rfl) (by kernel_rfl) (by kernel_rfl) (fun _ _ _ h => h) (Or.inl ⟨by rfl, fun X hS => ?_⟩) hHeld ?_
      · obtain ⟨s1, s2, s3, s4, s5, s6, s7, s8, _, _⟩ := hS
        go_simp
      try simp only [Act.put, List.getElem_toArray, List.getElem_cons_zero, List.getElem_cons_succ, List.setIfInBounds_toArray, List.set_cons_zero, List.set_cons_succ]
      refine wpAnyH_take (i := 6) (v := (.bool true)) rfl (by kernel_rfl) (by kernel_rfl) (by kernel_rfl) (fun _ _ _ h => h) (Or.inl ⟨by rfl, fun X hS => ?_⟩) hHeld ?_
      · obtain ⟨s1, s2, s3, s4, s5, s6, s7, s8, _, _⟩ := hS
        go_simp
      try simp only [Act.put, List.getElem_toArray, List.getElem_cons_zero, List.getElem_cons_succ, List.setIfInBounds_toArray, List.set_cons_zero, List.set_cons_succ]
      refine wpAnyH_take (i := 7) (v := (.bool true)) rfl (by kernel_rfl) (by kernel_rfl) (by kernel_rfl) (fun _ _ _ h => h) (Or.inl ⟨by rfl, fun X hS => ?_⟩) hHeld ?_
      · obtain ⟨s1, s2, s3, s4, s5, s6, s7, s8, _, _⟩ := hS
        go_simp
      try simp only [Act.put, List.getElem_toArray, List.getElem_cons_zero, List.getElem_cons_succ, List.setIfInBounds_toArray, List.set_cons_zero, List.set_cons_succ]
      refine wpAnyH_take (i := 8) (v := (.bool true)) rfl (by kernel_rfl) (by kernel_rfl) (by kernel_rfl) (fun _ _ _ h => h) (Or.inl ⟨by rfl, fun X hS => ?_⟩) hHeld ?_
      · obtain ⟨s1, s2, s3, s4, s5, s6, s7, s8, _, _⟩ := hS
        go_simp
      try simp only [Act.put, List.getElem_toArray, List.getElem_cons_zero, List.getElem_cons_succ, List.setIfInBounds_toArray, List.set_cons_zero, List.set_cons_succ]
      refine wpAnyH_take (i := 9) (v := (.agg #[.pointer (some ⟨A, 0, none⟩), .int .i64 100, .int .i64 44])) rfl (by kernel_rfl) (by kernel_rfl) (by kernel_rfl) (fun _ _ _ h => h) (Or.inl ⟨by rfl, fun X hS => ?_⟩) hHeld ?_
      · obtain ⟨s1, s2, s3, s4, s5, s6, s7, s8, _, _⟩ := hS
        go_simp
      try simp only [Act.put, List.getElem_toArray, List.getElem_cons_zero, List.getElem_cons_succ, List.setIfInBounds_toArray, List.set_cons_zero, List.set_cons_succ]
      refine wpAnyH_take (i := 11) (v := (.agg #[.slice (P 0) (n 0) (C 0), .slice (P 1) (n 1) (C 1), .slice (P 2) (n 2) (C 2), .slice (P 3) (n 3) (C 3), .slice (P 4) (n 4) (C 4)])) rfl (by kernel_rfl) (by kernel_rfl) (by kernel_rfl) (fun _ _ _ h => h) (Or.inl ⟨by rfl, fun X hS => ?_⟩) hHeld ?_
      · obtain ⟨s1, s2, s3, s4, s5, s6, s7, s8, _, _⟩ := hS
        go_simp
      try simp only [Act.put, List.getElem_toArray, List.getElem_cons_zero, List.getElem_cons_succ, List.setIfInBounds_toArray, List.set_cons_zero, List.set_cons_succ]
      refine wpAnyH_ready (rs := [10]) (by kernel_rfl) (by simp) (AllReadyH.cons rfl (fun K1 hK1 => ?_) AllReadyH.nil)
      go_simp
      refine (HCO.out _ HO.out.on).mono ?_
      rintro e x1 ⟨rfl, hb1⟩
      try rw [HCN.out]
      have hS1 := hHeld.below hb1
      have HO2 := Lib.hid (HO.out.below hb1)
      clear hb1 hHeld HO
      refine hK1.out _ _ hS1 (fun hHeld => ?_)
      clear hK1 hS1
      have HO := HO2
      clear HO2
      try simp only [Act.put, List.getElem_toArray, List.getElem_cons_zero, List.getElem_cons_succ, List.setIfInBounds_toArray, List.set_cons_zero, List.set_cons_succ]
      refine wpAnyH_ready (rs := [12]) (by kernel_rfl) (by simp) (AllReadyH.cons rfl (fun K1 hK1 => ?_) AllReadyH.nil)
      go_simp
      refine (qcount_any P n C HNL.out _).mono ?_
      rintro e x1 ⟨rfl, hb1⟩
      try rw [HCN.out]
      have hS1 := hHeld.below hb1
      have HO2 := Lib.hid (HO.out.below hb1)
      clear hb1 hHeld HO
      refine hK1.out _ _ hS1 (fun hHeld => ?_)
      clear hK1 hS1
      have HO := HO2
      clear HO2
      try simp only [Act.put, List.getElem_toArray, List.getElem_cons_zero, List.getElem_cons_succ, List.setIfInBounds_toArray, List.set_cons_zero, List.set_cons_succ]
      refine wpAnyH_take (i := 13) (v := (.bool true)) rfl (by kernel_rfl) (by kernel_rfl) (by kernel_rfl) (fun _ _ _ h => h) (Or.inl ⟨by rfl, fun X hS => ?_⟩) hHeld ?_
      · obtain ⟨s1, s2, s3, s4, s5, s6, s7, s8, _, _⟩ := hS
        go_simp
      try simp only [Act.put, List.getElem_toArray, List.getElem_cons_zero, List.getElem_cons_succ, List.setIfInBounds_toArray, List.set_cons_zero, List.set_cons_succ]
      refine wpAnyH_take (i := 14) (v := (.bool true)) rfl (by kernel_rfl) (by kernel_rfl) (by kernel_rfl) (fun _ _ _ h => h) (Or.inl ⟨by rfl, fun X hS => ?_⟩) hHeld ?_
      · obtain ⟨s1, s2, s3, s4, s5, s6, s7, s8, _, _⟩ := hS
        go_simp
      try simp only [Act.put, List.getElem_toArray, List.getElem_cons_zero, List.getElem_cons_succ, List.setIfInBounds_toArray, List.set_cons_zero, List.set_cons_succ]
      refine wpAnyH_take (i := 15) (v := (.bool true)) rfl (by kernel_rfl) (by kernel_rfl) (by kernel_rfl) (fun _ _ _ h => h) (Or.inl ⟨by rfl, fun X hS => ?_⟩) hHeld ?_
      · obtain ⟨s1, s2, s3, s4, s5, s6, s7, s8, _, _⟩ := hS
        go_simp
      try simp only [Act.put, List.getElem_toArray, List.getElem_cons_zero, List.getElem_cons_succ, List.setIfInBounds_toArray, List.set_cons_zero, List.set_cons_succ]
      refine wpAnyH_done (by kernel_rfl) ?_ _
      clear hHeld
      go_wp2_with fail
      go_ret
      exact ⟨rfl, HO.out.bl⟩
end Go.Proofs.Ytoineackmpafdaa.Bt
/- Acts of bins that came in, opened; what stands between two of them. -/
namespace Go.Proofs.Ytoineackmpafdaa.Bt
open Go Go.RowKit Go.Shelf Go.Deep
open Go.ChangeShapes Go.WideShapes Go.ChangeAt
set_option linter.unusedVariables false
set_option linter.unusedSimpArgs false

structure Act11 where
  d : Int
  pg : Int
  ow : Int
  k : Int
structure Act11.ok (a : Act11) : Prop where
  d0 : 0 ≤ a.d
  d1 : a.d ≤ 255
  p0 : 0 ≤ a.pg
  p1 : a.pg ≤ 255
  o0 : 0 ≤ a.ow
  o1 : a.ow ≤ 255
  k0 : -9223372036854775808 ≤ a.k
  k1 : a.k ≤ 9223372036854775807
def Act11Cells (w : World) (b off : Nat) (a : Act11) : Prop :=
  w.cell? ⟨b, off, none⟩ = some (.int .u8 a.d) ∧ w.cell? ⟨b, off + 1, none⟩ = some (.int .u8 a.pg) ∧ w.cell? ⟨b, off + 2, none⟩ = some (.int .u8 a.ow) ∧ w.cell? ⟨b, off + 3, none⟩ = some (.int .i64 a.k)
def Acts11At (w : World) (p : Option Addr) (acts : List Act11) : Prop :=
  (acts = []) ∨ ∃ b off, p = some ⟨b, off, none⟩ ∧ b < w.heap.size ∧ ∀ i (h : i < acts.length), Act11Cells w b (off + i * 4) acts[i] ∧ acts[i].ok
theorem Try.cellsAct11 : Try.prog.cellsOf 56 = 4 := by kernel_rfl
theorem Try.cellsU8b : Try.prog.cellsOf 5 = 1 := by kernel_rfl
set_option maxRecDepth 100000 in
theorem acts11_open {H : Type} {enc : TypeId × Value → H} {w : World} {fuel : Nat} {v : Value} {x : DataW H × List MemPlace} {a : Option Addr} {len cap : Nat} (hv : v = .slice a len cap)
    (h : DataW.trod enc Try.prog w 0 (fun _ => true) true fuel 52 v.cells.toList = some x) : ∃ acts : List Act11, acts.length = len ∧ len ≤ 9223372036854775807 ∧ Acts11At w a acts := by
  subst hv
  rcases open_slice Try.underlying52 h with ⟨h1, _⟩ | ⟨ad, len', cap', m, n, D, Pl, h1, _, hl, hm, hmm, _, hi⟩
  · simp [Value.cells] at h1
    exact ⟨[], by simp [h1.2.1], by omega, .inl rfl⟩
  · simp [Value.cells] at h1
    obtain ⟨rfl, rfl, rfl⟩ := h1
    unfold maxLen at hm
    have hlm : len ≤ m := by rw [hmm]; simp; omega
    have key : ∀ i, i < len → ∃ act : Act11, act.ok ∧ w.cell? (ad.add (i * 4)) = some (.int .u8 act.d) ∧ w.cell? (ad.add (i * 4 + 1)) = some (.int .u8 act.pg) ∧ w.cell? (ad.add (i * 4 + 2)) = some (.int .u8 act.ow) ∧ w.cell? (ad.add (i * 4 + 3)) = some (.int .i64 act.k) := by
      intro i hilt
      obtain ⟨cs', hc, ht⟩ := hi i (by omega)
      rw [Try.cellsAct11] at hc
      obtain ⟨_, hcl, hat⟩ := World.cells?_some hc
      obtain ⟨y0, y1, y2, y3, k, _, _, e0, e1, e2, e3⟩ := Go.Joins.trod_struct4 Try.underlying56 ht
      match cs', hcl with
      | [c0, c1, c2, c3], _ =>
        simp only [Try.cellsInt, Try.cellsU8b, List.drop_zero, List.drop_succ_cons, List.take_succ_cons, List.take_zero] at e0 e1 e2 e3
        obtain ⟨d, hd, _, wd⟩ := DataW.trod_int Try.underlying5 e0
        obtain ⟨f, hf, _, wf⟩ := DataW.trod_int Try.underlying5 e1
        obtain ⟨g, hg, _, wg⟩ := DataW.trod_int Try.underlying5 e2
        obtain ⟨z, hz, _, wz⟩ := DataW.trod_int Try.underlying3 e3
        simp only [List.cons.injEq, and_true] at hd hf hg hz
        subst hd hf hg hz
        have b0 := bounds_u8 wd
        have b1 := bounds_u8 wf
        have b2 := bounds_u8 wg
        have b3 := bounds_i64 wz
        have a0 := hat 0 (by omega)
        have a1 := hat 1 (by omega)
        have a2 := hat 2 (by omega)
        have a3 := hat 3 (by omega)
        rw [add_add] at a0 a1 a2 a3
        exact ⟨⟨d, f, g, z⟩, ⟨b0.1, b0.2, b1.1, b1.2, b2.1, b2.2, b3.1, b3.2⟩, by simpa using a0, by simpa using a1, by simpa using a2, by simpa using a3⟩
    refine ⟨(List.range len).attach.map fun i => Classical.choose (key i.1 (List.mem_range.1 i.2)), by simp, by omega, ?_⟩
    by_cases h0 : len = 0
    · subst h0; exact .inl rfl
    · have k0 := (Classical.choose_spec (key 0 (by omega))).2.1
      obtain ⟨b, off, spot⟩ := ad
      have hspot : spot = none := by simpa [Addr.add] using World.cell?_spot k0
      subst hspot
      refine .inr ⟨b, off, rfl, World.block_lt_of_cell? _ _ (by simpa [Addr.add] using k0), fun i hil => ?_⟩
      have hil' : i < len := by simpa using hil
      have ks := Classical.choose_spec (key i hil')
      have eA : ∀ j, (⟨b, off, none⟩ : Addr).add j = ⟨b, off + j, none⟩ := fun j => by
        simp only [Addr.add]; split <;> simp_all
      simp only [List.getElem_map, List.getElem_attach, List.getElem_range]
      exact ⟨⟨(congrArg w.cell? (eA _).symm).trans ks.2.1, (congrArg w.cell? (eA (i * 4 + 1)).symm).trans ks.2.2.1, (congrArg w.cell? (eA (i * 4 + 2)).symm).trans ks.2.2.2.1, (congrArg w.cell? (eA (i * 4 + 3)).symm).trans ks.2.2.2.2⟩, ks.1⟩
/-- the lengths of bins -/
def lnQ (q : Nat → List Nat) (k : Nat) : Nat := (q k).length
theorem lnQ_up (q : Nat → List Nat) (k : Nat) (l : List Nat) : up (lnQ q) k l.length = lnQ (updQ q k l) := by
  funext j
  unfold up lnQ updQ
  by_cases e : j = k
  · rw [if_pos e, if_pos e]
  · rw [if_neg e, if_neg e]
/-- the statement's state: arena, bins, the document's bins -/
structure PlR (A R Q : Nat) (m : Nat → UInt8) (P : Nat → Option Addr) (C : Nat → Nat) (q : Nat → List Nat) (w x : World) : Prop where
  lw : LawB A R (s13 m) w x
  qb : QBx Q P (lnQ q) C x
  qa : QAt P q x
  cn : ∀ k, P k = none → C k = 0
  cc : ∀ k, (q k).length ≤ C k
  mq : Mine A Q x
  mp : ∀ k, k < 5 → q k ≠ [] → ∀ b off, P k = some ⟨b, off, none⟩ → Mine A b x
  np : ∀ k, k < 5 → q k ≠ [] → ∀ b off, P k = some ⟨b, off, none⟩ → b ≠ Q
  qs : w.heap.size ≤ Q
  pg : ∀ k, k < 5 → ∀ p ∈ q k, 1 ≤ p ∧ p ≤ 13
section
variable {A R Q : Nat} {m m' : Nat → UInt8} {P : Nat → Option Addr} {C : Nat → Nat} {q : Nat → List Nat} {w x y : World}
theorem PlR.below (h : PlR A R Q m P C q w x) (hb : Below x.heap.size x y) : PlR A R Q m P C q w y :=
  ⟨h.lw.below hb, blk_at hb h.qb, h.qa.below hb, h.cn, h.cc, h.mq.went (Went.of_below h.lw.o hb), fun k hk hq b off e => (h.mp k hk hq b off e).went (Went.of_below h.lw.o hb), h.np, h.qs, h.pg⟩
theorem PlR.went (h : PlR A R Q m P C q w x) (ho : On A (s13 m') y) (hg : Went A x y) : PlR A R Q m' P C q w y :=
  ⟨h.lw.went ho hg, (h.mq.at hg h.qb), fun k hk => by
    rcases h.qa k hk with e | ⟨b, off, e, hl, hc⟩
    · exact .inl e
    · by_cases hz : q k = []
      · exact .inl (by rw [hz]; rfl)
      · have hm := h.mp k hk hz b off e
        exact .inr ⟨b, off, e, Nat.lt_of_lt_of_le hl hg.size, fun j hj => (World.cell?_of_block (w := x) (a := ⟨b, off + j, none⟩) (hm.same hg)).trans (hc j hj)⟩, h.cn, h.cc, h.mq.went hg, fun k hk hq b off e => (h.mp k hk hq b off e).went hg, h.np, h.qs, h.pg⟩
theorem PlR.all (h : PlR A R Q m P C q w x) : (x.cell? ⟨R, 0, none⟩ = some (.pointer (some ⟨A, 0, none⟩)) ∧ x.cell? ⟨R, 1, none⟩ = some (.int .i64 100) ∧ x.cell? ⟨R, 2, none⟩ = some (.int .i64 44)) ∧
    x.cell? ⟨Q, 0, none⟩ = some (.slice (P 0) (lnQ q 0) (C 0)) ∧ x.cell? ⟨Q, 1, none⟩ = some (.slice (P 1) (lnQ q 1) (C 1)) ∧ x.cell? ⟨Q, 2, none⟩ = some (.slice (P 2) (lnQ q 2) (C 2)) ∧ x.cell? ⟨Q, 3, none⟩ = some (.slice (P 3) (lnQ q 3) (C 3)) ∧ x.cell? ⟨Q, 4, none⟩ = some (.slice (P 4) (lnQ q 4) (C 4)) :=
  ⟨h.lw.all, h.qb.all.1⟩
theorem PlR.fz (h : PlR A R Q m P C q w x) : x.frozen? ⟨Q, 0, none⟩ = false ∧ x.frozen? ⟨Q, 1, none⟩ = false ∧ x.frozen? ⟨Q, 2, none⟩ = false ∧ x.frozen? ⟨Q, 3, none⟩ = false ∧ x.frozen? ⟨Q, 4, none⟩ = false := h.qb.all.2
theorem st5_size (x : World) (B : Nat) (a b c d e : Value) : (st5 x B a b c d e).heap.size = x.heap.size := by simp [st5, World.setCell]
theorem st5_on (h : On A (s13 m) x) (hm : Mine A Q x) (a b c d e : Value) : On A (s13 m) (st5 x Q a b c d e) ∧ (∀ R2, Mine A R2 x → Mine A R2 (st5 x Q a b c d e)) := by
  unfold st5
  have h1 := h.set hm 0 a
  have m1 := fun R2 (k : Mine A R2 x) => Mine.set h hm k 0 a
  have h2 := h1.set (m1 Q hm) 1 b
  have m2 := fun R2 (k : Mine A R2 x) => Mine.set h1 (m1 Q hm) (m1 R2 k) 1 b
  have h3 := h2.set (m2 Q hm) 2 c
  have m3 := fun R2 (k : Mine A R2 x) => Mine.set h2 (m2 Q hm) (m2 R2 k) 2 c
  have h4 := h3.set (m3 Q hm) 3 d
  have m4 := fun R2 (k : Mine A R2 x) => Mine.set h3 (m3 Q hm) (m3 R2 k) 3 d
  exact ⟨h4.set (m4 Q hm) 4 e, fun R2 k => Mine.set h4 (m4 Q hm) (m4 R2 k) 4 e⟩
theorem st5_base (k : Base A w x) (h : On A (s13 m) x) (hm : Mine A Q x) (hR : w.heap.size ≤ Q) (a b c d e : Value) : Base A w (st5 x Q a b c d e) := by
  unfold st5
  have h1 := h.set hm 0 a
  have k1 := k.set h hm hR 0 a
  have m1 := Mine.set h hm hm 0 a
  have h2 := h1.set m1 1 b
  have k2 := k1.set h1 m1 hR 1 b
  have m2 := Mine.set h1 m1 m1 1 b
  have h3 := h2.set m2 2 c
  have k3 := k2.set h2 m2 hR 2 c
  have m3 := Mine.set h2 m2 m2 2 c
  have h4 := h3.set m3 3 d
  have k4 := k3.set h3 m3 hR 3 d
  have m4 := Mine.set h3 m3 m3 3 d
  exact k4.set h4 m4 hR 4 e
/-- other bins of the document's stored -/
theorem PlR.store {P' : Nat → Option Addr} {C' : Nat → Nat} {q' : Nat → List Nat} (h : PlR A R Q m P C q w x) (qa : QAt P' q' x) (hne : R ≠ Q) (hcn : ∀ k, P' k = none → C' k = 0) (hcc : ∀ k, (q' k).length ≤ C' k)
    (hmp : ∀ k, k < 5 → q' k ≠ [] → ∀ b off, P' k = some ⟨b, off, none⟩ → Mine A b x ∧ b ≠ Q) (hpg : ∀ k, k < 5 → ∀ p ∈ q' k, 1 ≤ p ∧ p ≤ 13) :
    PlR A R Q m P' C' q' w (st5 x Q (.slice (P' 0) (lnQ q' 0) (C' 0)) (.slice (P' 1) (lnQ q' 1) (C' 1)) (.slice (P' 2) (lnQ q' 2) (C' 2)) (.slice (P' 3) (lnQ q' 3) (C' 3)) (.slice (P' 4) (lnQ q' 4) (C' 4))) := by
  obtain ⟨o1, o2⟩ := st5_on h.lw.o h.mq (.slice (P' 0) (lnQ q' 0) (C' 0)) (.slice (P' 1) (lnQ q' 1) (C' 1)) (.slice (P' 2) (lnQ q' 2) (C' 2)) (.slice (P' 3) (lnQ q' 3) (C' 3)) (.slice (P' 4) (lnQ q' 4) (C' 4))
  have o3 := st5_base h.lw.b h.lw.o h.mq h.qs (.slice (P' 0) (lnQ q' 0) (C' 0)) (.slice (P' 1) (lnQ q' 1) (C' 1)) (.slice (P' 2) (lnQ q' 2) (C' 2)) (.slice (P' 3) (lnQ q' 3) (C' 3)) (.slice (P' 4) (lnQ q' 4) (C' 4))
  refine ⟨⟨(st5_far x hne _ _ _ _ _).trans h.lw.v, o1, o3⟩, st5_at h.qb rfl _ _ _ _ _, fun k hk => ?_, hcn, hcc, o2 Q h.mq, fun k hk hq b off e => o2 b (hmp k hk hq b off e).1, fun k hk hq b off e => (hmp k hk hq b off e).2, h.qs, hpg⟩
  by_cases hz : q' k = []
  · exact .inl (by rw [hz]; rfl)
  · exact ints_any (qa k hk) (fun g off e => (hmp k hk hz g off e).2) (fun j hj => st5_far x hj _ _ _ _ _) (st5_size _ _ _ _ _ _ _)
end
/-- a header is written where no chunk of a bin is, or it isn't -/
theorem bwrite_any {A : Nat} {m : Nat → UInt8} {q : Nat → List Nat} {x : World} (h : On A (s13 m) x) (b : Bn13 m q) {p : Nat} (h1 : 1 ≤ p) (h13 : p ≤ 13) (hp : ∀ k, k < 5 → p ∉ q k) (o u : Int) (hu : 0 ≤ u ∧ u < 18446744073709551616) :
    Calls Try.prog 24 #[.pointer (some ⟨A, 0, none⟩), .agg #[.int .i64 ((4096 * p : Nat) : Int), .int .i64 o, .int .u64 u, .int .i64 0]] x fun e x' => ∃ r m1, e = .returned r ∧ On A (s13 m1) x' ∧ Went A x x' ∧ Bn13 m1 q := by
  cases hm : mayB ((4096 * p : Nat) : Int) o 0 with
  | false =>
    refine (write_arg h ((4096 * p : Nat) : Int) o u 0 (by omega) hm).mono ?_
    rintro e x' ⟨rfl, hb⟩
    exact ⟨_, m, rfl, h.below hb, Went.of_below h hb, b⟩
  | true =>
    by_cases he : thereE (s13 m).L (s13 m).es ((4096 * p : Nat) : Int) 32 = 0
    · refine (write_ok h ((4096 * p : Nat) : Int) o u 0 (by omega) hu (by omega) hm he).mono ?_
      rintro e x' ⟨rfl, ho, hg⟩
      rw [Int.toNat_natCast] at ho
      exact ⟨_, _, rfl, ho, hg, Bn.wr b o u 0 hp (.inl (by omega))⟩
    · refine (write_range h ((4096 * p : Nat) : Int) o u 0 (by omega) hm he).mono ?_
      rintro e x' ⟨rfl, hb⟩
      exact ⟨_, m, rfl, h.below hb, Went.of_below h hb, b⟩
/-- what Read answers -/
theorem rd_shape (s : ASt) (a : Int) : (∃ er : Int, (er != 0) = true ∧ rdV s a = .tuple #[.agg #[.int .i64 0, .int .i64 0, .int .u64 0, .int .i64 0], .int .i64 er]) ∨
    (rdV s a = .tuple #[.agg #[.int .i64 a, .int .i64 (rdO s.mm a.toNat), .int .u64 (rdU s.mm a.toNat), .int .i64 (rdX s.mm a.toNat)], .int .i64 0] ∧ thereE s.L s.es a 32 = 0 ∧ stB s.mm a = true) := by
  unfold rdV
  by_cases he : thereE s.L s.es a 32 = 0
  · rw [if_pos he]
    cases hs : stB s.mm a with
    | true => exact .inr ⟨by rw [if_pos rfl]; rfl, he, rfl⟩
    | false => exact .inl ⟨7, by decide, by rw [if_neg (by decide)]; rfl⟩
  · rw [if_neg he]
    exact .inl ⟨3, by decide, rfl⟩
theorem hasQ_not {q : Nat → List Nat} {p : Nat} (h : hasQ q ((4096 * p : Nat) : Int) = false) : ∀ k, k < 5 → p ∉ q k := fun k hk hp => by
  obtain ⟨j, hj, e⟩ := List.mem_iff_getElem.1 hp
  have := hasQ_true (q := q) (a := ((4096 * p : Nat) : Int)) hk hj (by
    rw [List.getD_eq_getElem?_getD]
    unfold adI
    rw [List.getElem?_map, List.getElem?_eq_getElem hj, e]; rfl)
  rw [h] at this; cases this
/-- a block that a call made that makes memory at most -/
theorem mine_fresh {A g : Nat} {s : ASt} {x y : World} (h : On A s x) (hb : Below x.heap.size x y) (hg : x.heap.size ≤ g) (hl : g < y.heap.size) : Mine A g y := by
  obtain ⟨P, ps, p, n, cap, h⟩ := h
  have h2 := h.below hb
  refine ⟨hl, fun ho => ?_, fun ho => ?_⟩
  · rcases (ownW_iff h2 _).1 ho with h3 | h3 | ⟨i, h3⟩
    · have := h.ltA; omega
    · have := h.ltP; omega
    · have := h.ltG h3; omega
  · obtain ⟨off, h3⟩ := (edgW_iff h2 _).1 ho
    have := h.ltE h3; omega
theorem ints_lt {y : World} {p : Option Addr} {zs : List Int} (h : IntsRow y p zs) (hz : zs ≠ []) {g off : Nat} (e : p = some ⟨g, off, none⟩) : g < y.heap.size := by
  rcases h with h | ⟨b, o, e2, hl, _⟩
  · exact absurd h hz
  · rw [e] at e2; cases e2; exact hl
/-- one bin of the document's turned, and stored -/
theorem PlR.turn {A R Q : Nat} {m : Nat → UInt8} {P : Nat → Option Addr} {C : Nat → Nat} {q : Nat → List Nat} {w x y : World} (h : PlR A R Q m P C q w x) (hb : Below x.heap.size x y) (hne : R ≠ Q) {k : Nat} (hk : k < 5) {l : List Nat} {p' : Option Addr} {c' : Nat}
    (hr : IntsRow y p' (adI l)) (hn : p' = none → c' = 0) (hc : l.length ≤ c') (hg : ∀ g off, p' = some ⟨g, off, none⟩ → x.heap.size ≤ g) (hl : ∀ p ∈ l, 1 ≤ p ∧ p ≤ 13) :
    PlR A R Q m (up P k p') (up C k c') (updQ q k l) w (st5 y Q (.slice (up P k p' 0) (lnQ (updQ q k l) 0) (up C k c' 0)) (.slice (up P k p' 1) (lnQ (updQ q k l) 1) (up C k c' 1)) (.slice (up P k p' 2) (lnQ (updQ q k l) 2) (up C k c' 2)) (.slice (up P k p' 3) (lnQ (updQ q k l) 3) (up C k c' 3)) (.slice (up P k p' 4) (lnQ (updQ q k l) 4) (up C k c' 4))) := by
  have hy := h.below hb
  refine hy.store (fun j hj => ?_) hne (fun j hj => ?_) (fun j => ?_) (fun j hj hz g off e => ?_) (fun j hj p hp => ?_)
  · by_cases e : j = k
    · subst e; rw [up_at, updQ_at]; exact hr
    · rw [up_ne _ _ e, updQ_ne _ _ e]; exact hy.qa j hj
  · by_cases e : j = k
    · subst e; rw [up_at] at hj ⊢; exact hn hj
    · rw [up_ne _ _ e] at hj ⊢; exact hy.cn j hj
  · by_cases e : j = k
    · subst e; rw [up_at, updQ_at]; exact hc
    · rw [up_ne _ _ e, updQ_ne _ _ e]; exact hy.cc j
  · by_cases e2 : j = k
    · subst e2
      rw [up_at] at e; rw [updQ_at] at hz
      have h1 := hg g off e
      have h2 := ints_lt hr (by simpa [adI] using hz) e
      exact ⟨mine_fresh h.lw.o hb h1 h2, by have := h.mq.lt; omega⟩
    · rw [up_ne _ _ e2] at e; rw [updQ_ne _ _ e2] at hz
      exact ⟨hy.mp j hj hz g off e, hy.np j hj hz g off e⟩
  · by_cases e : j = k
    · subst e; rw [updQ_at] at hp; exact hl p hp
    · rw [updQ_ne _ _ e] at hp; exact h.pg j hj p hp
/-- the same stored again -/
theorem PlR.again {A R Q : Nat} {m : Nat → UInt8} {P : Nat → Option Addr} {C : Nat → Nat} {q : Nat → List Nat} {w x : World} (h : PlR A R Q m P C q w x) (hne : R ≠ Q) :
    PlR A R Q m P C q w (st5 x Q (.slice (P 0) (lnQ q 0) (C 0)) (.slice (P 1) (lnQ q 1) (C 1)) (.slice (P 2) (lnQ q 2) (C 2)) (.slice (P 3) (lnQ q 3) (C 3)) (.slice (P 4) (lnQ q 4) (C 4))) :=
  h.store h.qa hne h.cn h.cc (fun k hk hz b off e => ⟨h.mp k hk hz b off e, h.np k hk hz b off e⟩) h.pg
theorem updQ_len {q : Nat → List Nat} {i k : Nat} {l : List Nat} (h : ∀ j, (q j).length ≤ i) (hl : l.length ≤ i + 1) (j : Nat) : (updQ q k l j).length ≤ i + 1 := by
  by_cases e : j = k
  · subst e; rw [updQ_at]; exact hl
  · rw [updQ_ne _ _ e]; have := h j; omega
end Go.Proofs.Ytoineackmpafdaa.Bt
