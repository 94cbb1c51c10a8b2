/- Several texts in one: DkM; FrS; CeA. -/
import Derived.Test.YtmnhpmgffhpoeaaGreatDuB
import Derived.Test.YtmnhpmgffhpoeaaGreatArBytes
import Derived.Test.YtmnhpmgffhpoeaaGreatOnB
import Derived.Test.YtmnhpmgffhpoeaaGreatArFull
/- Keys: the mathematics. -/
namespace Go.Proofs.YtmnhpmgffhpoeaaGreat.Bt
open Go Go.RowKit Go.Shelf
set_option linter.unusedVariables false
set_option linter.unusedSimpArgs false
/-- an item -/
structure Itm where
  k : ByteArray
  x : Nat
def itZ : Itm := ⟨⟨#[]⟩, 0⟩
/-- may it be kept -/
def Itm.ok (t : Itm) : Prop := 0 < t.k.size ∧ t.k.size ≤ 16 ∧ t.x < 18446744073709551616
/-- an item's bytes in a slot -/
structure ItAt (m : Nat → UInt8) (a : Nat) (t : Itm) : Prop where
  n : (m a).toNat = t.k.size
  b : getM m (a + 1) t.k.size = t.k.data.toList
  x : numV m (a + 24) 8 = t.x
theorem getM_ext {m m' : Nat → UInt8} {a b n : Nat} (h : ∀ j, j < n → m (a + j) = m' (b + j)) : getM m a n = getM m' b n := by
  unfold getM
  apply List.map_congr_left
  intro j hj
  exact h j (List.mem_range.1 hj)
theorem ItAt.shift {m m' : Nat → UInt8} {a b : Nat} {t : Itm} (h : ItAt m b t) (ht : t.k.size ≤ 16) (e : ∀ j, j < 32 → m' (a + j) = m (b + j)) : ItAt m' a t := by
  refine ⟨?_, ?_, ?_⟩
  · have := e 0 (by omega)
    rw [Nat.add_zero, Nat.add_zero] at this
    rw [this]; exact h.n
  · rw [← h.b]
    exact getM_ext fun j hj => by rw [Nat.add_assoc, Nat.add_assoc]; exact e _ (by omega)
  · rw [← h.x]
    exact numV_shift 8 fun j hj => by rw [Nat.add_assoc, Nat.add_assoc]; exact e _ (by omega)
/-- an item is laid -/
def stT (m : Nat → UInt8) (a : Nat) (t : Itm) : Nat → UInt8 := put8 (putM m a (UInt8.ofNat t.k.size :: t.k.data.toList)) (a + 24) t.x
theorem stT_out (m : Nat → UInt8) {a i : Nat} {t : Itm} (ht : t.k.size ≤ 16) (h : i < a ∨ a + 32 ≤ i) : stT m a t i = m i := by
  unfold stT put8
  have hl : t.k.data.toList.length = t.k.size := bytes_len t.k
  rw [putM_out _ _ _ (by rw [numB_length]; omega), putM_out _ _ _ (by rw [List.length_cons, hl]; omega)]
theorem stT_at (m : Nat → UInt8) (a : Nat) {t : Itm} (ht : t.ok) : ItAt (stT m a t) a t := by
  obtain ⟨h1, h2, h3⟩ := ht
  have hl : t.k.data.toList.length = t.k.size := bytes_len t.k
  have hlow : ∀ i, i < a + 24 → stT m a t i = putM m a (UInt8.ofNat t.k.size :: t.k.data.toList) i := fun i hi => by
    unfold stT put8; rw [putM_out _ _ _ (.inl (by omega))]
  refine ⟨?_, ?_, ?_⟩
  · rw [hlow a (by omega)]
    have := putM_in m a (UInt8.ofNat t.k.size :: t.k.data.toList) (i := 0) (by simp)
    rw [Nat.add_zero] at this
    rw [this]
    show (UInt8.ofNat t.k.size).toNat = _
    rw [UInt8.toNat_ofNat', Nat.mod_eq_of_lt (by omega)]
  · apply List.ext_getElem
    · rw [getM_length, hl]
    · intro i h4 h5
      rw [getM_length] at h4
      have e1 : (getM (stT m a t) (a + 1) t.k.size)[i]'(by rw [getM_length]; exact h4) = stT m a t (a + 1 + i) := by simp [getM]
      rw [e1, hlow _ (by omega), show a + 1 + i = a + (i + 1) by omega, putM_in _ _ _ (by rw [List.length_cons, hl]; omega)]
      rw [List.getD_cons_succ, List.getD_eq_getElem?_getD, List.getElem?_eq_getElem h5]; rfl
  · unfold stT
    exact put8_same _ _ _ h3
/-- the items of keys of n slots, from 40 on -/
structure Ky (m : Nat → UInt8) (n : Nat) (L : List Itm) : Prop where
  len : L.length ≤ n
  rd : ∀ j t, L[j]? = some t → ItAt m (40 + 32 * j) t ∧ t.ok
  fin : ∀ j, L.length ≤ j → j < n → m (40 + 32 * j) = 0
theorem Ky.new (n : Nat) : Ky (fun _ => 0) n [] := ⟨Nat.zero_le _, fun j e h => by simp at h, fun _ _ _ => rfl⟩
def stO (m : Nat → UInt8) (a : Nat) : Option Itm → (Nat → UInt8)
  | some t => stT m a t
  | none => m
/-- all items laid, one behind the other -/
def stAll (m : Nat → UInt8) (L : List Itm) : Nat → (Nat → UInt8)
  | 0 => m
  | j + 1 => stO (stAll m L j) (40 + 32 * j) L[j]?
theorem stAll_some (m : Nat → UInt8) {L : List Itm} {j : Nat} {t : Itm} (h : L[j]? = some t) : stAll m L (j + 1) = stT (stAll m L j) (40 + 32 * j) t := by
  show stO (stAll m L j) (40 + 32 * j) L[j]? = _
  rw [h]; rfl
theorem stAll_none (m : Nat → UInt8) {L : List Itm} {j : Nat} (h : L[j]? = none) : stAll m L (j + 1) = stAll m L j := by
  show stO (stAll m L j) (40 + 32 * j) L[j]? = _
  rw [h]; rfl
theorem stAll_high (m : Nat → UInt8) {L : List Itm} (hL : ∀ t ∈ L, t.ok) : ∀ j i, 40 + 32 * j ≤ i → stAll m L j i = m i := by
  intro j
  induction j with
  | zero => intro i _; rfl
  | succ j ih =>
    intro i hi
    cases h : L[j]? with
    | some t => rw [stAll_some m h, stT_out _ (hL t (List.mem_of_getElem? h)).2.1 (.inr (by omega)), ih i (by omega)]
    | none => rw [stAll_none m h]; exact ih i (by omega)
theorem stAll_rd (m : Nat → UInt8) {L : List Itm} (hL : ∀ t ∈ L, t.ok) : ∀ j, ∀ i, i < j → ∀ t, L[i]? = some t → ItAt (stAll m L j) (40 + 32 * i) t := by
  intro j
  induction j with
  | zero => intro i hi; omega
  | succ j ih =>
    intro i hi t ht
    by_cases c : i = j
    · subst c
      rw [stAll_some m ht]
      exact stT_at _ _ (hL t (List.mem_of_getElem? ht))
    · cases h : L[j]? with
      | some u =>
        rw [stAll_some m h]
        exact (ih i (by omega) t ht).shift (hL t (List.mem_of_getElem? ht)).2.1 fun k hk => stT_out _ (hL u (List.mem_of_getElem? h)).2.1 (.inl (by omega))
      | none => rw [stAll_none m h]; exact ih i (by omega) t ht
theorem Ky.all {m : Nat → UInt8} {n : Nat} {L M : List Itm} (h : Ky m n L) (hM : ∀ t ∈ M, t.ok) (h1 : L.length ≤ M.length) (h2 : M.length ≤ n) : Ky (stAll m M M.length) n M :=
  ⟨h2, fun j t ht => ⟨stAll_rd m hM M.length j (List.getElem?_eq_some_iff.1 ht).1 t ht, hM t (List.mem_of_getElem? ht)⟩, fun j hj hn => by rw [stAll_high m hM _ _ (by omega)]; exact h.fin j (by omega) hn⟩
/-- one of len items goes -/
def mvT (m : Nat → UInt8) (i len : Nat) : Nat → UInt8 := putM m (40 + 32 * i) (getM m (40 + 32 * (i + 1)) (32 * (len - 1 - i)))
def rmT (m : Nat → UInt8) (i len : Nat) : Nat → UInt8 := putM (mvT m i len) (40 + 32 * (len - 1)) (List.replicate 32 0)
theorem rmT_low (m : Nat → UInt8) (i len b : Nat) (hi : i < len) (h : b < 40 + 32 * i) : rmT m i len b = m b := by
  unfold rmT mvT
  rw [putM_out _ _ _ (by simp; omega), putM_out _ _ _ (by rw [getM_length]; omega)]
theorem rmT_high (m : Nat → UInt8) (i len b : Nat) (hi : i < len) (h : 40 + 32 * len ≤ b) : rmT m i len b = m b := by
  unfold rmT mvT
  rw [putM_out _ _ _ (by simp; omega), putM_out _ _ _ (by rw [getM_length]; omega)]
theorem rmT_mid (m : Nat → UInt8) (i len b : Nat) (hi : i < len) (h : 40 + 32 * i ≤ b) (h2 : b < 40 + 32 * (len - 1)) : rmT m i len b = m (b + 32) := by
  unfold rmT mvT
  rw [putM_out _ _ _ (by simp; omega)]
  obtain ⟨c, rfl⟩ : ∃ c, b = 40 + 32 * i + c := ⟨b - (40 + 32 * i), by omega⟩
  rw [putM_in _ _ _ (by rw [getM_length]; omega), getM_get _ _ _ _ (by omega)]
  congr 1; omega
theorem rmT_last (m : Nat → UInt8) (i len b : Nat) (hi : i < len) (h : 40 + 32 * (len - 1) ≤ b) (h2 : b < 40 + 32 * len) : rmT m i len b = 0 := by
  unfold rmT
  obtain ⟨c, rfl⟩ : ∃ c, b = 40 + 32 * (len - 1) + c := ⟨b - (40 + 32 * (len - 1)), by omega⟩
  rw [putM_in _ _ _ (by simp; omega), List.getD_eq_getElem?_getD, List.getElem?_replicate, if_pos (by omega)]; rfl
theorem Ky.remove {m : Nat → UInt8} {n : Nat} {L : List Itm} (h : Ky m n L) (i : Nat) (hi : i < L.length) : Ky (rmT m i L.length) n (L.eraseIdx i) := by
  have hle := h.len
  have hel : (L.eraseIdx i).length = L.length - 1 := by rw [List.length_eraseIdx, if_pos hi]
  refine ⟨by omega, fun j t hj => ?_, fun j h1 h2 => ?_⟩
  · have hjl := (List.getElem?_eq_some_iff.1 hj).1
    rw [List.getElem?_eraseIdx] at hj
    by_cases c : j < i
    · rw [if_pos c] at hj
      exact ⟨(h.rd j t hj).1.shift (h.rd j t hj).2.2.1 fun k hk => rmT_low _ _ _ _ hi (by omega), (h.rd j t hj).2⟩
    · rw [if_neg c] at hj
      exact ⟨(h.rd (j + 1) t hj).1.shift (h.rd (j + 1) t hj).2.2.1 fun k hk => by rw [rmT_mid _ _ _ _ hi (by omega) (by omega)]; congr 1; omega, (h.rd (j + 1) t hj).2⟩
  · by_cases c : j = L.length - 1
    · exact rmT_last _ _ _ _ hi (by omega) (by omega)
    · rw [rmT_high _ _ _ _ hi (by omega)]
      exact h.fin j (by omega) h2
/-- where a key is -/
def ixK (L : List Itm) (k : ByteArray) : Nat := L.findIdx fun t => decide (t.k = k)
theorem ixK_le (L : List Itm) (k : ByteArray) : ixK L k ≤ L.length := List.findIdx_le_length
theorem ixK_get {L : List Itm} {k : ByteArray} (h : ixK L k < L.length) : (L[ixK L k]'h).k = k := by
  have h2 := List.findIdx_getElem (p := fun t : Itm => decide (t.k = k)) (xs := L) (w := h)
  exact of_decide_eq_true h2
theorem ixK_at {L : List Itm} {k : ByteArray} {j : Nat} {t : Itm} (hj : L[j]? = some t) (hle : j ≤ ixK L k) (h : t.k = k) : ixK L k = j := by
  have he := (List.getElem?_eq_some_iff.1 hj).2
  rcases Nat.lt_or_ge j (ixK L k) with c | c
  · have := List.not_of_lt_findIdx c
    simp at this
    rw [he] at this
    exact absurd h this
  · omega
theorem ixK_next {L : List Itm} {k : ByteArray} {j : Nat} {t : Itm} (hj : L[j]? = some t) (hle : j ≤ ixK L k) (h : t.k ≠ k) : j + 1 ≤ ixK L k := by
  rcases Nat.lt_or_ge j (ixK L k) with c | c
  · exact c
  · have he : ixK L k = j := by omega
    have hlt := (List.getElem?_eq_some_iff.1 hj).1
    have h2 := ixK_get (L := L) (k := k) (by omega)
    simp only [he] at h2
    rw [(List.getElem?_eq_some_iff.1 hj).2] at h2
    exact absurd h2 h
def ixKV (L : List Itm) (k : ByteArray) : Int := if ixK L k < L.length then (ixK L k : Int) else -1
/-- an item is set among others -/
def setC (L : List Itm) (n : Nat) (t : Itm) : Int := if t.k.size = 0 then 17 else if 16 < t.k.size then 16 else if ixK L t.k < L.length then 0 else if L.length = n then 10 else 0
def setL (L : List Itm) (n : Nat) (t : Itm) : List Itm := if setC L n t = 0 then (if ixK L t.k < L.length then L.set (ixK L t.k) t else L ++ [t]) else L
theorem set_ok {L : List Itm} {n : Nat} {t : Itm} (hL : ∀ u ∈ L, u.ok) (ht : t.x < 18446744073709551616) : ∀ u ∈ setL L n t, u.ok := by
  intro u hu
  unfold setL at hu
  by_cases c : setC L n t = 0
  · rw [if_pos c] at hu
    have hto : t.ok := by
      unfold setC at c
      split at c
      · omega
      · split at c
        · omega
        · exact ⟨by omega, by omega, ht⟩
    split at hu
    · rcases List.mem_or_eq_of_mem_set hu with h | h
      · exact hL u h
      · rw [h]; exact hto
    · rcases List.mem_append.1 hu with h | h
      · exact hL u h
      · rw [List.mem_singleton.1 h]; exact hto
  · rw [if_neg c] at hu; exact hL u hu
theorem set_len {L : List Itm} {n : Nat} {t : Itm} (hL : L.length ≤ n) : L.length ≤ (setL L n t).length ∧ (setL L n t).length ≤ n := by
  unfold setL
  by_cases c : setC L n t = 0
  · rw [if_pos c]
    split
    · rw [List.length_set]; omega
    · rename_i h
      rw [List.length_append]
      unfold setC at c
      rw [if_neg h] at c
      split at c
      · omega
      · split at c
        · omega
        · split at c
          · omega
          · simp; omega
  · rw [if_neg c]; omega
end Go.Proofs.YtmnhpmgffhpoeaaGreat.Bt
/- A function's own blocks beside an arena (Fr), or where there is none (Fb); for seats without a buddy. -/
namespace Go.Proofs.YtmnhpmgffhpoeaaGreat.Bt
open Go Go.RowKit Go.Shelf
set_option linter.unusedVariables false
set_option linter.unusedSimpArgs false
structure Blk where
  r : Nat
  c : Array Value
  t : TypeId
def NotAr (t : TypeId) : Prop := t ≠ 76 ∧ t ≠ 77 ∧ t ≠ 79
/-- blocks that came since a world w0, beside the arena in block A -/
structure Fr (A : Nat) (w0 : World) (L : List Blk) (x : World) : Prop where
  bs : ∀ y ∈ L, x.heap[y.r]? = some (.cells y.c y.t (0, 0)) ∧ Mine A y.r x ∧ w0.heap.size ≤ y.r ∧ NotAr y.t
  nd : L.Pairwise fun a b => a.r ≠ b.r
  wt : Went A w0 x
section
variable {A : Nat} {s : ASt} {w0 x y : World} {L : List Blk}
theorem Fr.start (A : Nat) (w : World) : Fr A w [] w := ⟨(fun _ h => by cases h), .nil, Went.refl _ _⟩
theorem Fr.new (h : Fr A w0 L x) (ho : On A s x) (c : Array Value) (t : TypeId) (ht : NotAr t) : Fr A w0 (⟨x.heap.size, c, t⟩ :: L) (x.alloc (.cells c t)) := by
  have hb := bel1 x (.cells c t)
  have hg := Went.of_below ho hb
  refine ⟨fun z hz => ?_, ?_, h.wt.trans hg⟩
  · rcases List.mem_cons.1 hz with rfl | hz
    · exact ⟨heap_new _ _, Mine.new ho _, h.wt.size, ht⟩
    · obtain ⟨a1, a2, a3, a4⟩ := h.bs z hz
      exact ⟨(hb.block _ a2.lt).trans a1, a2.went hg, a3, a4⟩
  · refine List.pairwise_cons.2 ⟨fun z hz => ?_, h.nd⟩
    have := (h.bs z hz).2.1.lt
    show x.heap.size ≠ z.r
    omega
theorem Fr.went (h : Fr A w0 L x) (ho : On A s x) (hg : Went A x y) : Fr A w0 L y :=
  ⟨fun z hz => by
    obtain ⟨a1, a2, a3, a4⟩ := h.bs z hz
    exact ⟨hg.keep ho a1 a4.1 a4.2.1 a4.2.2, a2.went hg, a3, a4⟩, h.nd, h.wt.trans hg⟩
theorem Fr.below (h : Fr A w0 L x) (ho : On A s x) (hb : Below x.heap.size x y) : Fr A w0 L y := h.went ho (Went.of_below ho hb)
theorem Fr.at {L1 L2 : List Blk} {b : Blk} (h : Fr A w0 (L1 ++ b :: L2) x) : x.heap[b.r]? = some (.cells b.c b.t (0, 0)) := (h.bs b (by simp)).1
theorem Fr.mine {L1 L2 : List Blk} {b : Blk} (h : Fr A w0 (L1 ++ b :: L2) x) : Mine A b.r x := (h.bs b (by simp)).2.1
theorem Fr.ge {L1 L2 : List Blk} {b : Blk} (h : Fr A w0 (L1 ++ b :: L2) x) : w0.heap.size ≤ b.r := (h.bs b (by simp)).2.2.1
theorem Fr.ne {L1 L2 : List Blk} {b : Blk} (h : Fr A w0 (L1 ++ b :: L2) x) {z : Blk} (hz : z ∈ L1 ∨ z ∈ L2) : z.r ≠ b.r := by
  have := List.pairwise_append.1 h.nd
  rcases hz with hz | hz
  · exact this.2.2 z hz b (List.mem_cons_self ..)
  · exact fun e => (List.pairwise_cons.1 this.2.1).1 z hz e.symm
theorem Fr.cell {L1 L2 : List Blk} {b : Blk} (h : Fr A w0 (L1 ++ b :: L2) x) (k : Nat) {v : Value} (hv : b.c[k]? = some v) : x.cell? ⟨b.r, k, none⟩ = some v ∧ x.frozen? ⟨b.r, k, none⟩ = false :=
  ⟨((cell_blk h.at k).1).trans hv, (cell_blk h.at k).2⟩
theorem Fr.set {L1 L2 : List Blk} {b : Blk} (h : Fr A w0 (L1 ++ b :: L2) x) (ho : On A s x) (k : Nat) (v : Value) : Fr A w0 (L1 ++ ⟨b.r, b.c.setIfInBounds k v, b.t⟩ :: L2) (x.setCell ⟨b.r, k, none⟩ v) := by
  have hm := h.mine
  refine ⟨fun z hz => ?_, ?_, h.wt.set ho hm h.ge k v⟩
  · rcases List.mem_append.1 hz with hz | hz
    · obtain ⟨a1, a2, a3, a4⟩ := h.bs z (List.mem_append.2 (.inl hz))
      exact ⟨(set_other v (h.ne (.inl hz))).trans a1, Mine.set ho hm a2 k v, a3, a4⟩
    · rcases List.mem_cons.1 hz with rfl | hz
      · exact ⟨heap_set h.at v, Mine.set ho hm hm k v, h.ge, (h.bs b (by simp)).2.2.2⟩
      · obtain ⟨a1, a2, a3, a4⟩ := h.bs z (List.mem_append.2 (.inr (List.mem_cons_of_mem _ hz)))
        exact ⟨(set_other v (h.ne (.inr hz))).trans a1, Mine.set ho hm a2 k v, a3, a4⟩
  · have := List.pairwise_append.1 h.nd
    have h2 := List.pairwise_cons.1 this.2.1
    refine List.pairwise_append.2 ⟨this.1, List.pairwise_cons.2 ⟨h2.1, h2.2⟩, fun a ha c hc => ?_⟩
    rcases List.mem_cons.1 hc with rfl | hc
    · exact this.2.2 a ha b (List.mem_cons_self ..)
    · exact this.2.2 a ha c (List.mem_cons_of_mem _ hc)
/-- a block that isn't needed any more -/
theorem Fr.drop {L1 L2 : List Blk} {b : Blk} (h : Fr A w0 (L1 ++ b :: L2) x) : Fr A w0 (L1 ++ L2) x :=
  ⟨fun z hz => h.bs z (by
    rcases List.mem_append.1 hz with hz | hz
    · exact List.mem_append.2 (.inl hz)
    · exact List.mem_append.2 (.inr (List.mem_cons_of_mem _ hz))), h.nd.sublist (by simp), h.wt⟩
/-- some cells stored one behind the other -/
def stR (x : World) (B : Nat) : List Value → Nat → World
  | [], _ => x
  | v :: t, k => stR (x.setCell ⟨B, k, none⟩ v) B t (k + 1)
def setR (c : Array Value) : List Value → Nat → Array Value
  | [], _ => c
  | v :: t, k => setR (c.setIfInBounds k v) t (k + 1)
theorem Fr.stores {L1 L2 : List Blk} {R : Nat} {t : TypeId} : ∀ (vs : List Value) (k : Nat) (x : World) (c : Array Value), Fr A w0 (L1 ++ ⟨R, c, t⟩ :: L2) x → On A s x → Fr A w0 (L1 ++ ⟨R, setR c vs k, t⟩ :: L2) (stR x R vs k) ∧ On A s (stR x R vs k)
  | [], _, _, _, h, ho => ⟨h, ho⟩
  | v :: vs, k, x, c, h, ho => Fr.stores vs (k + 1) _ _ (h.set ho k v) (ho.set h.mine k v)
theorem stR_other {R j : Nat} (hj : j ≠ R) : ∀ (vs : List Value) (k : Nat) (x : World), (stR x R vs k).heap[j]? = x.heap[j]?
  | [], _, _ => rfl
  | v :: vs, k, x => (stR_other hj vs (k + 1) _).trans (set_other v hj)
theorem Base.stores {R : Nat} (hR : w0.heap.size ≤ R) : ∀ (vs : List Value) (k : Nat) (x : World), Base A w0 x → On A s x → Mine A R x → Base A w0 (stR x R vs k)
  | [], _, _, h, _, _ => h
  | v :: vs, k, x, h, ho, hm => Base.stores hR vs (k + 1) _ (h.set ho hm hR k v) (ho.set hm k v) (Mine.set ho hm hm k v)
theorem Fr.at0 {R : Nat} {c : Array Value} {t : TypeId} {L2 : List Blk} (h : Fr A w0 (⟨R, c, t⟩ :: L2) x) : x.heap[R]? = some (.cells c t (0, 0)) := Fr.at (L1 := []) h
theorem Fr.cell0 {R : Nat} {c : Array Value} {t : TypeId} {L2 : List Blk} (h : Fr A w0 (⟨R, c, t⟩ :: L2) x) (k : Nat) {v : Value} (hv : c[k]? = some v) : x.cell? ⟨R, k, none⟩ = some v := (Fr.cell (L1 := []) h k hv).1
theorem Fr.free0 {R : Nat} {c : Array Value} {t : TypeId} {L2 : List Blk} (h : Fr A w0 (⟨R, c, t⟩ :: L2) x) (k : Nat) : x.frozen? ⟨R, k, none⟩ = false := (cell_blk (Fr.at (L1 := []) h) k).2
theorem Fr.mine0 {R : Nat} {c : Array Value} {t : TypeId} {L2 : List Blk} (h : Fr A w0 (⟨R, c, t⟩ :: L2) x) : Mine A R x := Fr.mine (L1 := []) h
theorem Fr.ge0 {R : Nat} {c : Array Value} {t : TypeId} {L2 : List Blk} (h : Fr A w0 (⟨R, c, t⟩ :: L2) x) : w0.heap.size ≤ R := Fr.ge (L1 := []) h
theorem Fr.no0 {R : Nat} {c : Array Value} {t : TypeId} {L2 : List Blk} (h : Fr A w0 (⟨R, c, t⟩ :: L2) x) : NotAr t := (h.bs ⟨R, c, t⟩ (by simp)).2.2.2
theorem Fr.stores0 {R : Nat} {c : Array Value} {t : TypeId} {L2 : List Blk} (h : Fr A w0 (⟨R, c, t⟩ :: L2) x) (ho : On A s x) (vs : List Value) (k : Nat) : Fr A w0 (⟨R, setR c vs k, t⟩ :: L2) (stR x R vs k) := (Fr.stores (L1 := []) vs k x c h ho).1
theorem Fr.drop0 {R : Nat} {c : Array Value} {t : TypeId} {L2 : List Blk} (h : Fr A w0 (⟨R, c, t⟩ :: L2) x) : Fr A w0 (L2) x := Fr.drop (L1 := []) h
theorem Fr.at1 {a0 : Blk} {R : Nat} {c : Array Value} {t : TypeId} {L2 : List Blk} (h : Fr A w0 (a0 :: ⟨R, c, t⟩ :: L2) x) : x.heap[R]? = some (.cells c t (0, 0)) := Fr.at (L1 := [a0]) h
theorem Fr.cell1 {a0 : Blk} {R : Nat} {c : Array Value} {t : TypeId} {L2 : List Blk} (h : Fr A w0 (a0 :: ⟨R, c, t⟩ :: L2) x) (k : Nat) {v : Value} (hv : c[k]? = some v) : x.cell? ⟨R, k, none⟩ = some v := (Fr.cell (L1 := [a0]) h k hv).1
theorem Fr.free1 {a0 : Blk} {R : Nat} {c : Array Value} {t : TypeId} {L2 : List Blk} (h : Fr A w0 (a0 :: ⟨R, c, t⟩ :: L2) x) (k : Nat) : x.frozen? ⟨R, k, none⟩ = false := (cell_blk (Fr.at (L1 := [a0]) h) k).2
theorem Fr.mine1 {a0 : Blk} {R : Nat} {c : Array Value} {t : TypeId} {L2 : List Blk} (h : Fr A w0 (a0 :: ⟨R, c, t⟩ :: L2) x) : Mine A R x := Fr.mine (L1 := [a0]) h
theorem Fr.ge1 {a0 : Blk} {R : Nat} {c : Array Value} {t : TypeId} {L2 : List Blk} (h : Fr A w0 (a0 :: ⟨R, c, t⟩ :: L2) x) : w0.heap.size ≤ R := Fr.ge (L1 := [a0]) h
theorem Fr.no1 {a0 : Blk} {R : Nat} {c : Array Value} {t : TypeId} {L2 : List Blk} (h : Fr A w0 (a0 :: ⟨R, c, t⟩ :: L2) x) : NotAr t := (h.bs ⟨R, c, t⟩ (by simp)).2.2.2
theorem Fr.stores1 {a0 : Blk} {R : Nat} {c : Array Value} {t : TypeId} {L2 : List Blk} (h : Fr A w0 (a0 :: ⟨R, c, t⟩ :: L2) x) (ho : On A s x) (vs : List Value) (k : Nat) : Fr A w0 (a0 :: ⟨R, setR c vs k, t⟩ :: L2) (stR x R vs k) := (Fr.stores (L1 := [a0]) vs k x c h ho).1
theorem Fr.drop1 {a0 : Blk} {R : Nat} {c : Array Value} {t : TypeId} {L2 : List Blk} (h : Fr A w0 (a0 :: ⟨R, c, t⟩ :: L2) x) : Fr A w0 (a0 :: L2) x := Fr.drop (L1 := [a0]) h
theorem Fr.at2 {a0 a1 : Blk} {R : Nat} {c : Array Value} {t : TypeId} {L2 : List Blk} (h : Fr A w0 (a0 :: a1 :: ⟨R, c, t⟩ :: L2) x) : x.heap[R]? = some (.cells c t (0, 0)) := Fr.at (L1 := [a0, a1]) h
theorem Fr.cell2 {a0 a1 : Blk} {R : Nat} {c : Array Value} {t : TypeId} {L2 : List Blk} (h : Fr A w0 (a0 :: a1 :: ⟨R, c, t⟩ :: L2) x) (k : Nat) {v : Value} (hv : c[k]? = some v) : x.cell? ⟨R, k, none⟩ = some v := (Fr.cell (L1 := [a0, a1]) h k hv).1
theorem Fr.free2 {a0 a1 : Blk} {R : Nat} {c : Array Value} {t : TypeId} {L2 : List Blk} (h : Fr A w0 (a0 :: a1 :: ⟨R, c, t⟩ :: L2) x) (k : Nat) : x.frozen? ⟨R, k, none⟩ = false := (cell_blk (Fr.at (L1 := [a0, a1]) h) k).2
theorem Fr.mine2 {a0 a1 : Blk} {R : Nat} {c : Array Value} {t : TypeId} {L2 : List Blk} (h : Fr A w0 (a0 :: a1 :: ⟨R, c, t⟩ :: L2) x) : Mine A R x := Fr.mine (L1 := [a0, a1]) h
theorem Fr.ge2 {a0 a1 : Blk} {R : Nat} {c : Array Value} {t : TypeId} {L2 : List Blk} (h : Fr A w0 (a0 :: a1 :: ⟨R, c, t⟩ :: L2) x) : w0.heap.size ≤ R := Fr.ge (L1 := [a0, a1]) h
theorem Fr.no2 {a0 a1 : Blk} {R : Nat} {c : Array Value} {t : TypeId} {L2 : List Blk} (h : Fr A w0 (a0 :: a1 :: ⟨R, c, t⟩ :: L2) x) : NotAr t := (h.bs ⟨R, c, t⟩ (by simp)).2.2.2
theorem Fr.stores2 {a0 a1 : Blk} {R : Nat} {c : Array Value} {t : TypeId} {L2 : List Blk} (h : Fr A w0 (a0 :: a1 :: ⟨R, c, t⟩ :: L2) x) (ho : On A s x) (vs : List Value) (k : Nat) : Fr A w0 (a0 :: a1 :: ⟨R, setR c vs k, t⟩ :: L2) (stR x R vs k) := (Fr.stores (L1 := [a0, a1]) vs k x c h ho).1
theorem Fr.drop2 {a0 a1 : Blk} {R : Nat} {c : Array Value} {t : TypeId} {L2 : List Blk} (h : Fr A w0 (a0 :: a1 :: ⟨R, c, t⟩ :: L2) x) : Fr A w0 (a0 :: a1 :: L2) x := Fr.drop (L1 := [a0, a1]) h
theorem Fr.at3 {a0 a1 a2 : Blk} {R : Nat} {c : Array Value} {t : TypeId} {L2 : List Blk} (h : Fr A w0 (a0 :: a1 :: a2 :: ⟨R, c, t⟩ :: L2) x) : x.heap[R]? = some (.cells c t (0, 0)) := Fr.at (L1 := [a0, a1, a2]) h
theorem Fr.cell3 {a0 a1 a2 : Blk} {R : Nat} {c : Array Value} {t : TypeId} {L2 : List Blk} (h : Fr A w0 (a0 :: a1 :: a2 :: ⟨R, c, t⟩ :: L2) x) (k : Nat) {v : Value} (hv : c[k]? = some v) : x.cell? ⟨R, k, none⟩ = some v := (Fr.cell (L1 := [a0, a1, a2]) h k hv).1
theorem Fr.free3 {a0 a1 a2 : Blk} {R : Nat} {c : Array Value} {t : TypeId} {L2 : List Blk} (h : Fr A w0 (a0 :: a1 :: a2 :: ⟨R, c, t⟩ :: L2) x) (k : Nat) : x.frozen? ⟨R, k, none⟩ = false := (cell_blk (Fr.at (L1 := [a0, a1, a2]) h) k).2
theorem Fr.mine3 {a0 a1 a2 : Blk} {R : Nat} {c : Array Value} {t : TypeId} {L2 : List Blk} (h : Fr A w0 (a0 :: a1 :: a2 :: ⟨R, c, t⟩ :: L2) x) : Mine A R x := Fr.mine (L1 := [a0, a1, a2]) h
theorem Fr.ge3 {a0 a1 a2 : Blk} {R : Nat} {c : Array Value} {t : TypeId} {L2 : List Blk} (h : Fr A w0 (a0 :: a1 :: a2 :: ⟨R, c, t⟩ :: L2) x) : w0.heap.size ≤ R := Fr.ge (L1 := [a0, a1, a2]) h
theorem Fr.no3 {a0 a1 a2 : Blk} {R : Nat} {c : Array Value} {t : TypeId} {L2 : List Blk} (h : Fr A w0 (a0 :: a1 :: a2 :: ⟨R, c, t⟩ :: L2) x) : NotAr t := (h.bs ⟨R, c, t⟩ (by simp)).2.2.2
theorem Fr.stores3 {a0 a1 a2 : Blk} {R : Nat} {c : Array Value} {t : TypeId} {L2 : List Blk} (h : Fr A w0 (a0 :: a1 :: a2 :: ⟨R, c, t⟩ :: L2) x) (ho : On A s x) (vs : List Value) (k : Nat) : Fr A w0 (a0 :: a1 :: a2 :: ⟨R, setR c vs k, t⟩ :: L2) (stR x R vs k) := (Fr.stores (L1 := [a0, a1, a2]) vs k x c h ho).1
theorem Fr.drop3 {a0 a1 a2 : Blk} {R : Nat} {c : Array Value} {t : TypeId} {L2 : List Blk} (h : Fr A w0 (a0 :: a1 :: a2 :: ⟨R, c, t⟩ :: L2) x) : Fr A w0 (a0 :: a1 :: a2 :: L2) x := Fr.drop (L1 := [a0, a1, a2]) h
theorem Fr.at4 {a0 a1 a2 a3 : Blk} {R : Nat} {c : Array Value} {t : TypeId} {L2 : List Blk} (h : Fr A w0 (a0 :: a1 :: a2 :: a3 :: ⟨R, c, t⟩ :: L2) x) : x.heap[R]? = some (.cells c t (0, 0)) := Fr.at (L1 := [a0, a1, a2, a3]) h
theorem Fr.cell4 {a0 a1 a2 a3 : Blk} {R : Nat} {c : Array Value} {t : TypeId} {L2 : List Blk} (h : Fr A w0 (a0 :: a1 :: a2 :: a3 :: ⟨R, c, t⟩ :: L2) x) (k : Nat) {v : Value} (hv : c[k]? = some v) : x.cell? ⟨R, k, none⟩ = some v := (Fr.cell (L1 := [a0, a1, a2, a3]) h k hv).1
theorem Fr.free4 {a0 a1 a2 a3 : Blk} {R : Nat} {c : Array Value} {t : TypeId} {L2 : List Blk} (h : Fr A w0 (a0 :: a1 :: a2 :: a3 :: ⟨R, c, t⟩ :: L2) x) (k : Nat) : x.frozen? ⟨R, k, none⟩ = false := (cell_blk (Fr.at (L1 := [a0, a1, a2, a3]) h) k).2
theorem Fr.mine4 {a0 a1 a2 a3 : Blk} {R : Nat} {c : Array Value} {t : TypeId} {L2 : List Blk} (h : Fr A w0 (a0 :: a1 :: a2 :: a3 :: ⟨R, c, t⟩ :: L2) x) : Mine A R x := Fr.mine (L1 := [a0, a1, a2, a3]) h
theorem Fr.ge4 {a0 a1 a2 a3 : Blk} {R : Nat} {c : Array Value} {t : TypeId} {L2 : List Blk} (h : Fr A w0 (a0 :: a1 :: a2 :: a3 :: ⟨R, c, t⟩ :: L2) x) : w0.heap.size ≤ R := Fr.ge (L1 := [a0, a1, a2, a3]) h
theorem Fr.no4 {a0 a1 a2 a3 : Blk} {R : Nat} {c : Array Value} {t : TypeId} {L2 : List Blk} (h : Fr A w0 (a0 :: a1 :: a2 :: a3 :: ⟨R, c, t⟩ :: L2) x) : NotAr t := (h.bs ⟨R, c, t⟩ (by simp)).2.2.2
theorem Fr.stores4 {a0 a1 a2 a3 : Blk} {R : Nat} {c : Array Value} {t : TypeId} {L2 : List Blk} (h : Fr A w0 (a0 :: a1 :: a2 :: a3 :: ⟨R, c, t⟩ :: L2) x) (ho : On A s x) (vs : List Value) (k : Nat) : Fr A w0 (a0 :: a1 :: a2 :: a3 :: ⟨R, setR c vs k, t⟩ :: L2) (stR x R vs k) := (Fr.stores (L1 := [a0, a1, a2, a3]) vs k x c h ho).1
theorem Fr.drop4 {a0 a1 a2 a3 : Blk} {R : Nat} {c : Array Value} {t : TypeId} {L2 : List Blk} (h : Fr A w0 (a0 :: a1 :: a2 :: a3 :: ⟨R, c, t⟩ :: L2) x) : Fr A w0 (a0 :: a1 :: a2 :: a3 :: L2) x := Fr.drop (L1 := [a0, a1, a2, a3]) h
theorem Fr.at5 {a0 a1 a2 a3 a4 : Blk} {R : Nat} {c : Array Value} {t : TypeId} {L2 : List Blk} (h : Fr A w0 (a0 :: a1 :: a2 :: a3 :: a4 :: ⟨R, c, t⟩ :: L2) x) : x.heap[R]? = some (.cells c t (0, 0)) := Fr.at (L1 := [a0, a1, a2, a3, a4]) h
theorem Fr.cell5 {a0 a1 a2 a3 a4 : Blk} {R : Nat} {c : Array Value} {t : TypeId} {L2 : List Blk} (h : Fr A w0 (a0 :: a1 :: a2 :: a3 :: a4 :: ⟨R, c, t⟩ :: L2) x) (k : Nat) {v : Value} (hv : c[k]? = some v) : x.cell? ⟨R, k, none⟩ = some v := (Fr.cell (L1 := [a0, a1, a2, a3, a4]) h k hv).1
theorem Fr.free5 {a0 a1 a2 a3 a4 : Blk} {R : Nat} {c : Array Value} {t : TypeId} {L2 : List Blk} (h : Fr A w0 (a0 :: a1 :: a2 :: a3 :: a4 :: ⟨R, c, t⟩ :: L2) x) (k : Nat) : x.frozen? ⟨R, k, none⟩ = false := (cell_blk (Fr.at (L1 := [a0, a1, a2, a3, a4]) h) k).2
theorem Fr.mine5 {a0 a1 a2 a3 a4 : Blk} {R : Nat} {c : Array Value} {t : TypeId} {L2 : List Blk} (h : Fr A w0 (a0 :: a1 :: a2 :: a3 :: a4 :: ⟨R, c, t⟩ :: L2) x) : Mine A R x := Fr.mine (L1 := [a0, a1, a2, a3, a4]) h
theorem Fr.ge5 {a0 a1 a2 a3 a4 : Blk} {R : Nat} {c : Array Value} {t : TypeId} {L2 : List Blk} (h : Fr A w0 (a0 :: a1 :: a2 :: a3 :: a4 :: ⟨R, c, t⟩ :: L2) x) : w0.heap.size ≤ R := Fr.ge (L1 := [a0, a1, a2, a3, a4]) h
theorem Fr.no5 {a0 a1 a2 a3 a4 : Blk} {R : Nat} {c : Array Value} {t : TypeId} {L2 : List Blk} (h : Fr A w0 (a0 :: a1 :: a2 :: a3 :: a4 :: ⟨R, c, t⟩ :: L2) x) : NotAr t := (h.bs ⟨R, c, t⟩ (by simp)).2.2.2
theorem Fr.stores5 {a0 a1 a2 a3 a4 : Blk} {R : Nat} {c : Array Value} {t : TypeId} {L2 : List Blk} (h : Fr A w0 (a0 :: a1 :: a2 :: a3 :: a4 :: ⟨R, c, t⟩ :: L2) x) (ho : On A s x) (vs : List Value) (k : Nat) : Fr A w0 (a0 :: a1 :: a2 :: a3 :: a4 :: ⟨R, setR c vs k, t⟩ :: L2) (stR x R vs k) := (Fr.stores (L1 := [a0, a1, a2, a3, a4]) vs k x c h ho).1
theorem Fr.drop5 {a0 a1 a2 a3 a4 : Blk} {R : Nat} {c : Array Value} {t : TypeId} {L2 : List Blk} (h : Fr A w0 (a0 :: a1 :: a2 :: a3 :: a4 :: ⟨R, c, t⟩ :: L2) x) : Fr A w0 (a0 :: a1 :: a2 :: a3 :: a4 :: L2) x := Fr.drop (L1 := [a0, a1, a2, a3, a4]) h
end
structure Fb (w0 : World) (L : List Blk) (x : World) : Prop where
  bs : ∀ y ∈ L, x.heap[y.r]? = some (.cells y.c y.t (0, 0)) ∧ w0.heap.size ≤ y.r
  nd : L.Pairwise fun a b => a.r ≠ b.r
  be : Below w0.heap.size w0 x
section
variable {w0 x y : World} {L : List Blk}
theorem Fb.start (w : World) : Fb w [] w := ⟨(fun _ h => by cases h), .nil, Below.refl _ _⟩
theorem Fb.new (h : Fb w0 L x) (c : Array Value) (t : TypeId) : Fb w0 (⟨x.heap.size, c, t⟩ :: L) (x.alloc (.cells c t)) := by
  have hb := bel1 x (.cells c t)
  refine ⟨fun z hz => ?_, ?_, h.be.trans (hb.mono h.be.size)⟩
  · rcases List.mem_cons.1 hz with rfl | hz
    · exact ⟨heap_new _ _, h.be.size⟩
    · obtain ⟨a1, a3⟩ := h.bs z hz
      exact ⟨(hb.block _ (Array.getElem?_eq_some_iff.1 a1).1).trans a1, a3⟩
  · refine List.pairwise_cons.2 ⟨fun z hz => ?_, h.nd⟩
    have := (Array.getElem?_eq_some_iff.1 (h.bs z hz).1).1
    show x.heap.size ≠ z.r
    omega
theorem Fb.below (h : Fb w0 L x) (hb : Below x.heap.size x y) : Fb w0 L y :=
  ⟨fun z hz => by
    obtain ⟨a1, a3⟩ := h.bs z hz
    exact ⟨(hb.block _ (Array.getElem?_eq_some_iff.1 a1).1).trans a1, a3⟩, h.nd, h.be.trans (hb.mono h.be.size)⟩
theorem Fb.at {L1 L2 : List Blk} {b : Blk} (h : Fb w0 (L1 ++ b :: L2) x) : x.heap[b.r]? = some (.cells b.c b.t (0, 0)) := (h.bs b (by simp)).1
theorem Fb.ge {L1 L2 : List Blk} {b : Blk} (h : Fb w0 (L1 ++ b :: L2) x) : w0.heap.size ≤ b.r := (h.bs b (by simp)).2
theorem Fb.ne {L1 L2 : List Blk} {b : Blk} (h : Fb w0 (L1 ++ b :: L2) x) {z : Blk} (hz : z ∈ L1 ∨ z ∈ L2) : z.r ≠ b.r := by
  have := List.pairwise_append.1 h.nd
  rcases hz with hz | hz
  · exact this.2.2 z hz b (List.mem_cons_self ..)
  · exact fun e => (List.pairwise_cons.1 this.2.1).1 z hz e.symm
theorem Fb.set {L1 L2 : List Blk} {b : Blk} (h : Fb w0 (L1 ++ b :: L2) x) (k : Nat) (v : Value) : Fb w0 (L1 ++ ⟨b.r, b.c.setIfInBounds k v, b.t⟩ :: L2) (x.setCell ⟨b.r, k, none⟩ v) := by
  refine ⟨fun z hz => ?_, ?_, h.be.setCell (p := ⟨b.r, k, none⟩) h.ge v⟩
  · rcases List.mem_append.1 hz with hz | hz
    · obtain ⟨a1, a3⟩ := h.bs z (List.mem_append.2 (.inl hz))
      exact ⟨(set_other v (h.ne (.inl hz))).trans a1, a3⟩
    · rcases List.mem_cons.1 hz with rfl | hz
      · exact ⟨heap_set h.at v, h.ge⟩
      · obtain ⟨a1, a3⟩ := h.bs z (List.mem_append.2 (.inr (List.mem_cons_of_mem _ hz)))
        exact ⟨(set_other v (h.ne (.inr hz))).trans a1, a3⟩
  · have := List.pairwise_append.1 h.nd
    have h2 := List.pairwise_cons.1 this.2.1
    refine List.pairwise_append.2 ⟨this.1, List.pairwise_cons.2 ⟨h2.1, h2.2⟩, fun a ha c hc => ?_⟩
    rcases List.mem_cons.1 hc with rfl | hc
    · exact this.2.2 a ha b (List.mem_cons_self ..)
    · exact this.2.2 a ha c (List.mem_cons_of_mem _ hc)
theorem Fb.drop {L1 L2 : List Blk} {b : Blk} (h : Fb w0 (L1 ++ b :: L2) x) : Fb w0 (L1 ++ L2) x :=
  ⟨fun z hz => h.bs z (by
    rcases List.mem_append.1 hz with hz | hz
    · exact List.mem_append.2 (.inl hz)
    · exact List.mem_append.2 (.inr (List.mem_cons_of_mem _ hz))), h.nd.sublist (by simp), h.be⟩
theorem Fb.stores {L1 L2 : List Blk} {R : Nat} {t : TypeId} : ∀ (vs : List Value) (k : Nat) (x : World) (c : Array Value), Fb w0 (L1 ++ ⟨R, c, t⟩ :: L2) x → Fb w0 (L1 ++ ⟨R, setR c vs k, t⟩ :: L2) (stR x R vs k)
  | [], _, _, _, h => h
  | v :: vs, k, x, c, h => Fb.stores vs (k + 1) _ _ (h.set k v)
theorem stR_size (R : Nat) : ∀ (vs : List Value) (k : Nat) (x : World), (stR x R vs k).heap.size = x.heap.size
  | [], _, _ => rfl
  | v :: vs, k, x => (stR_size R vs (k + 1) _).trans (by simp [World.setCell])
theorem Fb.at0 {R : Nat} {c : Array Value} {t : TypeId} {L2 : List Blk} (h : Fb w0 (⟨R, c, t⟩ :: L2) x) : x.heap[R]? = some (.cells c t (0, 0)) := Fb.at (L1 := []) h
theorem Fb.cell0 {R : Nat} {c : Array Value} {t : TypeId} {L2 : List Blk} (h : Fb w0 (⟨R, c, t⟩ :: L2) x) (k : Nat) {v : Value} (hv : c[k]? = some v) : x.cell? ⟨R, k, none⟩ = some v := ((cell_blk (Fb.at (L1 := []) h) k).1).trans hv
theorem Fb.free0 {R : Nat} {c : Array Value} {t : TypeId} {L2 : List Blk} (h : Fb w0 (⟨R, c, t⟩ :: L2) x) (k : Nat) : x.frozen? ⟨R, k, none⟩ = false := (cell_blk (Fb.at (L1 := []) h) k).2
theorem Fb.ge0 {R : Nat} {c : Array Value} {t : TypeId} {L2 : List Blk} (h : Fb w0 (⟨R, c, t⟩ :: L2) x) : w0.heap.size ≤ R := Fb.ge (L1 := []) h
theorem Fb.stores0 {R : Nat} {c : Array Value} {t : TypeId} {L2 : List Blk} (h : Fb w0 (⟨R, c, t⟩ :: L2) x) (vs : List Value) (k : Nat) : Fb w0 (⟨R, setR c vs k, t⟩ :: L2) (stR x R vs k) := Fb.stores (L1 := []) vs k x c h
theorem Fb.drop0 {R : Nat} {c : Array Value} {t : TypeId} {L2 : List Blk} (h : Fb w0 (⟨R, c, t⟩ :: L2) x) : Fb w0 (L2) x := Fb.drop (L1 := []) h
theorem Fb.at1 {a0 : Blk} {R : Nat} {c : Array Value} {t : TypeId} {L2 : List Blk} (h : Fb w0 (a0 :: ⟨R, c, t⟩ :: L2) x) : x.heap[R]? = some (.cells c t (0, 0)) := Fb.at (L1 := [a0]) h
theorem Fb.cell1 {a0 : Blk} {R : Nat} {c : Array Value} {t : TypeId} {L2 : List Blk} (h : Fb w0 (a0 :: ⟨R, c, t⟩ :: L2) x) (k : Nat) {v : Value} (hv : c[k]? = some v) : x.cell? ⟨R, k, none⟩ = some v := ((cell_blk (Fb.at (L1 := [a0]) h) k).1).trans hv
theorem Fb.free1 {a0 : Blk} {R : Nat} {c : Array Value} {t : TypeId} {L2 : List Blk} (h : Fb w0 (a0 :: ⟨R, c, t⟩ :: L2) x) (k : Nat) : x.frozen? ⟨R, k, none⟩ = false := (cell_blk (Fb.at (L1 := [a0]) h) k).2
theorem Fb.ge1 {a0 : Blk} {R : Nat} {c : Array Value} {t : TypeId} {L2 : List Blk} (h : Fb w0 (a0 :: ⟨R, c, t⟩ :: L2) x) : w0.heap.size ≤ R := Fb.ge (L1 := [a0]) h
theorem Fb.stores1 {a0 : Blk} {R : Nat} {c : Array Value} {t : TypeId} {L2 : List Blk} (h : Fb w0 (a0 :: ⟨R, c, t⟩ :: L2) x) (vs : List Value) (k : Nat) : Fb w0 (a0 :: ⟨R, setR c vs k, t⟩ :: L2) (stR x R vs k) := Fb.stores (L1 := [a0]) vs k x c h
theorem Fb.drop1 {a0 : Blk} {R : Nat} {c : Array Value} {t : TypeId} {L2 : List Blk} (h : Fb w0 (a0 :: ⟨R, c, t⟩ :: L2) x) : Fb w0 (a0 :: L2) x := Fb.drop (L1 := [a0]) h
theorem Fb.at2 {a0 a1 : Blk} {R : Nat} {c : Array Value} {t : TypeId} {L2 : List Blk} (h : Fb w0 (a0 :: a1 :: ⟨R, c, t⟩ :: L2) x) : x.heap[R]? = some (.cells c t (0, 0)) := Fb.at (L1 := [a0, a1]) h
theorem Fb.cell2 {a0 a1 : Blk} {R : Nat} {c : Array Value} {t : TypeId} {L2 : List Blk} (h : Fb w0 (a0 :: a1 :: ⟨R, c, t⟩ :: L2) x) (k : Nat) {v : Value} (hv : c[k]? = some v) : x.cell? ⟨R, k, none⟩ = some v := ((cell_blk (Fb.at (L1 := [a0, a1]) h) k).1).trans hv
theorem Fb.free2 {a0 a1 : Blk} {R : Nat} {c : Array Value} {t : TypeId} {L2 : List Blk} (h : Fb w0 (a0 :: a1 :: ⟨R, c, t⟩ :: L2) x) (k : Nat) : x.frozen? ⟨R, k, none⟩ = false := (cell_blk (Fb.at (L1 := [a0, a1]) h) k).2
theorem Fb.ge2 {a0 a1 : Blk} {R : Nat} {c : Array Value} {t : TypeId} {L2 : List Blk} (h : Fb w0 (a0 :: a1 :: ⟨R, c, t⟩ :: L2) x) : w0.heap.size ≤ R := Fb.ge (L1 := [a0, a1]) h
theorem Fb.stores2 {a0 a1 : Blk} {R : Nat} {c : Array Value} {t : TypeId} {L2 : List Blk} (h : Fb w0 (a0 :: a1 :: ⟨R, c, t⟩ :: L2) x) (vs : List Value) (k : Nat) : Fb w0 (a0 :: a1 :: ⟨R, setR c vs k, t⟩ :: L2) (stR x R vs k) := Fb.stores (L1 := [a0, a1]) vs k x c h
theorem Fb.drop2 {a0 a1 : Blk} {R : Nat} {c : Array Value} {t : TypeId} {L2 : List Blk} (h : Fb w0 (a0 :: a1 :: ⟨R, c, t⟩ :: L2) x) : Fb w0 (a0 :: a1 :: L2) x := Fb.drop (L1 := [a0, a1]) h
theorem Fb.at3 {a0 a1 a2 : Blk} {R : Nat} {c : Array Value} {t : TypeId} {L2 : List Blk} (h : Fb w0 (a0 :: a1 :: a2 :: ⟨R, c, t⟩ :: L2) x) : x.heap[R]? = some (.cells c t (0, 0)) := Fb.at (L1 := [a0, a1, a2]) h
theorem Fb.cell3 {a0 a1 a2 : Blk} {R : Nat} {c : Array Value} {t : TypeId} {L2 : List Blk} (h : Fb w0 (a0 :: a1 :: a2 :: ⟨R, c, t⟩ :: L2) x) (k : Nat) {v : Value} (hv : c[k]? = some v) : x.cell? ⟨R, k, none⟩ = some v := ((cell_blk (Fb.at (L1 := [a0, a1, a2]) h) k).1).trans hv
theorem Fb.free3 {a0 a1 a2 : Blk} {R : Nat} {c : Array Value} {t : TypeId} {L2 : List Blk} (h : Fb w0 (a0 :: a1 :: a2 :: ⟨R, c, t⟩ :: L2) x) (k : Nat) : x.frozen? ⟨R, k, none⟩ = false := (cell_blk (Fb.at (L1 := [a0, a1, a2]) h) k).2
theorem Fb.ge3 {a0 a1 a2 : Blk} {R : Nat} {c : Array Value} {t : TypeId} {L2 : List Blk} (h : Fb w0 (a0 :: a1 :: a2 :: ⟨R, c, t⟩ :: L2) x) : w0.heap.size ≤ R := Fb.ge (L1 := [a0, a1, a2]) h
theorem Fb.stores3 {a0 a1 a2 : Blk} {R : Nat} {c : Array Value} {t : TypeId} {L2 : List Blk} (h : Fb w0 (a0 :: a1 :: a2 :: ⟨R, c, t⟩ :: L2) x) (vs : List Value) (k : Nat) : Fb w0 (a0 :: a1 :: a2 :: ⟨R, setR c vs k, t⟩ :: L2) (stR x R vs k) := Fb.stores (L1 := [a0, a1, a2]) vs k x c h
theorem Fb.drop3 {a0 a1 a2 : Blk} {R : Nat} {c : Array Value} {t : TypeId} {L2 : List Blk} (h : Fb w0 (a0 :: a1 :: a2 :: ⟨R, c, t⟩ :: L2) x) : Fb w0 (a0 :: a1 :: a2 :: L2) x := Fb.drop (L1 := [a0, a1, a2]) h
theorem Fb.at4 {a0 a1 a2 a3 : Blk} {R : Nat} {c : Array Value} {t : TypeId} {L2 : List Blk} (h : Fb w0 (a0 :: a1 :: a2 :: a3 :: ⟨R, c, t⟩ :: L2) x) : x.heap[R]? = some (.cells c t (0, 0)) := Fb.at (L1 := [a0, a1, a2, a3]) h
theorem Fb.cell4 {a0 a1 a2 a3 : Blk} {R : Nat} {c : Array Value} {t : TypeId} {L2 : List Blk} (h : Fb w0 (a0 :: a1 :: a2 :: a3 :: ⟨R, c, t⟩ :: L2) x) (k : Nat) {v : Value} (hv : c[k]? = some v) : x.cell? ⟨R, k, none⟩ = some v := ((cell_blk (Fb.at (L1 := [a0, a1, a2, a3]) h) k).1).trans hv
theorem Fb.free4 {a0 a1 a2 a3 : Blk} {R : Nat} {c : Array Value} {t : TypeId} {L2 : List Blk} (h : Fb w0 (a0 :: a1 :: a2 :: a3 :: ⟨R, c, t⟩ :: L2) x) (k : Nat) : x.frozen? ⟨R, k, none⟩ = false := (cell_blk (Fb.at (L1 := [a0, a1, a2, a3]) h) k).2
theorem Fb.ge4 {a0 a1 a2 a3 : Blk} {R : Nat} {c : Array Value} {t : TypeId} {L2 : List Blk} (h : Fb w0 (a0 :: a1 :: a2 :: a3 :: ⟨R, c, t⟩ :: L2) x) : w0.heap.size ≤ R := Fb.ge (L1 := [a0, a1, a2, a3]) h
theorem Fb.stores4 {a0 a1 a2 a3 : Blk} {R : Nat} {c : Array Value} {t : TypeId} {L2 : List Blk} (h : Fb w0 (a0 :: a1 :: a2 :: a3 :: ⟨R, c, t⟩ :: L2) x) (vs : List Value) (k : Nat) : Fb w0 (a0 :: a1 :: a2 :: a3 :: ⟨R, setR c vs k, t⟩ :: L2) (stR x R vs k) := Fb.stores (L1 := [a0, a1, a2, a3]) vs k x c h
theorem Fb.drop4 {a0 a1 a2 a3 : Blk} {R : Nat} {c : Array Value} {t : TypeId} {L2 : List Blk} (h : Fb w0 (a0 :: a1 :: a2 :: a3 :: ⟨R, c, t⟩ :: L2) x) : Fb w0 (a0 :: a1 :: a2 :: a3 :: L2) x := Fb.drop (L1 := [a0, a1, a2, a3]) h
theorem Fb.at5 {a0 a1 a2 a3 a4 : Blk} {R : Nat} {c : Array Value} {t : TypeId} {L2 : List Blk} (h : Fb w0 (a0 :: a1 :: a2 :: a3 :: a4 :: ⟨R, c, t⟩ :: L2) x) : x.heap[R]? = some (.cells c t (0, 0)) := Fb.at (L1 := [a0, a1, a2, a3, a4]) h
theorem Fb.cell5 {a0 a1 a2 a3 a4 : Blk} {R : Nat} {c : Array Value} {t : TypeId} {L2 : List Blk} (h : Fb w0 (a0 :: a1 :: a2 :: a3 :: a4 :: ⟨R, c, t⟩ :: L2) x) (k : Nat) {v : Value} (hv : c[k]? = some v) : x.cell? ⟨R, k, none⟩ = some v := ((cell_blk (Fb.at (L1 := [a0, a1, a2, a3, a4]) h) k).1).trans hv
theorem Fb.free5 {a0 a1 a2 a3 a4 : Blk} {R : Nat} {c : Array Value} {t : TypeId} {L2 : List Blk} (h : Fb w0 (a0 :: a1 :: a2 :: a3 :: a4 :: ⟨R, c, t⟩ :: L2) x) (k : Nat) : x.frozen? ⟨R, k, none⟩ = false := (cell_blk (Fb.at (L1 := [a0, a1, a2, a3, a4]) h) k).2
theorem Fb.ge5 {a0 a1 a2 a3 a4 : Blk} {R : Nat} {c : Array Value} {t : TypeId} {L2 : List Blk} (h : Fb w0 (a0 :: a1 :: a2 :: a3 :: a4 :: ⟨R, c, t⟩ :: L2) x) : w0.heap.size ≤ R := Fb.ge (L1 := [a0, a1, a2, a3, a4]) h
theorem Fb.stores5 {a0 a1 a2 a3 a4 : Blk} {R : Nat} {c : Array Value} {t : TypeId} {L2 : List Blk} (h : Fb w0 (a0 :: a1 :: a2 :: a3 :: a4 :: ⟨R, c, t⟩ :: L2) x) (vs : List Value) (k : Nat) : Fb w0 (a0 :: a1 :: a2 :: a3 :: a4 :: ⟨R, setR c vs k, t⟩ :: L2) (stR x R vs k) := Fb.stores (L1 := [a0, a1, a2, a3, a4]) vs k x c h
theorem Fb.drop5 {a0 a1 a2 a3 a4 : Blk} {R : Nat} {c : Array Value} {t : TypeId} {L2 : List Blk} (h : Fb w0 (a0 :: a1 :: a2 :: a3 :: a4 :: ⟨R, c, t⟩ :: L2) x) : Fb w0 (a0 :: a1 :: a2 :: a3 :: a4 :: L2) x := Fb.drop (L1 := [a0, a1, a2, a3, a4]) h
theorem setR_get : ∀ (vs : List Value) (k : Nat) (c : Array Value) (i : Nat), (setR c vs k)[i]? = if k ≤ i ∧ i < k + vs.length ∧ i < c.size then vs[i - k]? else c[i]?
  | [], k, c, i => by rw [if_neg (by simp; omega)]; rfl
  | v :: vs, k, c, i => by
    show (setR (c.setIfInBounds k v) vs (k + 1))[i]? = _
    rw [setR_get vs (k + 1) (c.setIfInBounds k v) i, Array.size_setIfInBounds]
    by_cases h1 : k + 1 ≤ i ∧ i < k + 1 + vs.length ∧ i < c.size
    · rw [if_pos h1, if_pos (by simp; omega), show i - k = (i - (k + 1)) + 1 from by omega]
      rfl
    · rw [if_neg h1]
      by_cases h2 : k ≤ i ∧ i < k + (v :: vs).length ∧ i < c.size
      · have e : i = k := by simp at h2; omega
        subst e
        rw [if_pos h2, Nat.sub_self]
        rw [Array.getElem?_setIfInBounds_self_of_lt h2.2.2]; rfl
      · rw [if_neg h2]
        by_cases e : i = k
        · subst e
          have : ¬ i < c.size := fun q => h2 ⟨Nat.le_refl _, by simp, q⟩
          rw [Array.setIfInBounds_eq_of_size_le (by omega)]
        · rw [Array.getElem?_setIfInBounds_ne (fun q => e q.symm)]
theorem setR_full (c : Array Value) (vs : List Value) (h : c.size = vs.length) : setR c vs 0 = vs.toArray := by
  apply Array.ext_getElem?
  intro i
  rw [setR_get, Nat.sub_zero]
  by_cases hi : i < vs.length
  · rw [if_pos ⟨Nat.zero_le _, by omega, by omega⟩, List.getElem?_toArray]
  · rw [if_neg (fun q => hi (by omega)), Array.getElem?_eq_none (by omega), Array.getElem?_eq_none (by rw [List.size_toArray]; omega)]
theorem Fb.full0 {R : Nat} {c : Array Value} {t : TypeId} {L2 : List Blk} (h : Fb w0 (⟨R, c, t⟩ :: L2) x) (vs : List Value) (hc : c.size = vs.length) : Fb w0 (⟨R, vs.toArray, t⟩ :: L2) (stR x R vs 0) := by
  have := h.stores0 vs 0; rwa [setR_full c vs hc] at this
theorem Fr.full0 {A : Nat} {s : ASt} {R : Nat} {c : Array Value} {t : TypeId} {L2 : List Blk} (h : Fr A w0 (⟨R, c, t⟩ :: L2) x) (ho : On A s x) (vs : List Value) (hc : c.size = vs.length) : Fr A w0 (⟨R, vs.toArray, t⟩ :: L2) (stR x R vs 0) := by
  have := h.stores0 ho vs 0; rwa [setR_full c vs hc] at this
theorem Fb.full1 {a0 : Blk} {R : Nat} {c : Array Value} {t : TypeId} {L2 : List Blk} (h : Fb w0 (a0 :: ⟨R, c, t⟩ :: L2) x) (vs : List Value) (hc : c.size = vs.length) : Fb w0 (a0 :: ⟨R, vs.toArray, t⟩ :: L2) (stR x R vs 0) := by
  have := h.stores1 vs 0; rwa [setR_full c vs hc] at this
theorem Fr.full1 {A : Nat} {s : ASt} {a0 : Blk} {R : Nat} {c : Array Value} {t : TypeId} {L2 : List Blk} (h : Fr A w0 (a0 :: ⟨R, c, t⟩ :: L2) x) (ho : On A s x) (vs : List Value) (hc : c.size = vs.length) : Fr A w0 (a0 :: ⟨R, vs.toArray, t⟩ :: L2) (stR x R vs 0) := by
  have := h.stores1 ho vs 0; rwa [setR_full c vs hc] at this
theorem Fb.full2 {a0 a1 : Blk} {R : Nat} {c : Array Value} {t : TypeId} {L2 : List Blk} (h : Fb w0 (a0 :: a1 :: ⟨R, c, t⟩ :: L2) x) (vs : List Value) (hc : c.size = vs.length) : Fb w0 (a0 :: a1 :: ⟨R, vs.toArray, t⟩ :: L2) (stR x R vs 0) := by
  have := h.stores2 vs 0; rwa [setR_full c vs hc] at this
theorem Fr.full2 {A : Nat} {s : ASt} {a0 a1 : Blk} {R : Nat} {c : Array Value} {t : TypeId} {L2 : List Blk} (h : Fr A w0 (a0 :: a1 :: ⟨R, c, t⟩ :: L2) x) (ho : On A s x) (vs : List Value) (hc : c.size = vs.length) : Fr A w0 (a0 :: a1 :: ⟨R, vs.toArray, t⟩ :: L2) (stR x R vs 0) := by
  have := h.stores2 ho vs 0; rwa [setR_full c vs hc] at this
theorem Fb.full3 {a0 a1 a2 : Blk} {R : Nat} {c : Array Value} {t : TypeId} {L2 : List Blk} (h : Fb w0 (a0 :: a1 :: a2 :: ⟨R, c, t⟩ :: L2) x) (vs : List Value) (hc : c.size = vs.length) : Fb w0 (a0 :: a1 :: a2 :: ⟨R, vs.toArray, t⟩ :: L2) (stR x R vs 0) := by
  have := h.stores3 vs 0; rwa [setR_full c vs hc] at this
theorem Fr.full3 {A : Nat} {s : ASt} {a0 a1 a2 : Blk} {R : Nat} {c : Array Value} {t : TypeId} {L2 : List Blk} (h : Fr A w0 (a0 :: a1 :: a2 :: ⟨R, c, t⟩ :: L2) x) (ho : On A s x) (vs : List Value) (hc : c.size = vs.length) : Fr A w0 (a0 :: a1 :: a2 :: ⟨R, vs.toArray, t⟩ :: L2) (stR x R vs 0) := by
  have := h.stores3 ho vs 0; rwa [setR_full c vs hc] at this
theorem Fb.full4 {a0 a1 a2 a3 : Blk} {R : Nat} {c : Array Value} {t : TypeId} {L2 : List Blk} (h : Fb w0 (a0 :: a1 :: a2 :: a3 :: ⟨R, c, t⟩ :: L2) x) (vs : List Value) (hc : c.size = vs.length) : Fb w0 (a0 :: a1 :: a2 :: a3 :: ⟨R, vs.toArray, t⟩ :: L2) (stR x R vs 0) := by
  have := h.stores4 vs 0; rwa [setR_full c vs hc] at this
theorem Fr.full4 {A : Nat} {s : ASt} {a0 a1 a2 a3 : Blk} {R : Nat} {c : Array Value} {t : TypeId} {L2 : List Blk} (h : Fr A w0 (a0 :: a1 :: a2 :: a3 :: ⟨R, c, t⟩ :: L2) x) (ho : On A s x) (vs : List Value) (hc : c.size = vs.length) : Fr A w0 (a0 :: a1 :: a2 :: a3 :: ⟨R, vs.toArray, t⟩ :: L2) (stR x R vs 0) := by
  have := h.stores4 ho vs 0; rwa [setR_full c vs hc] at this
theorem Fb.full5 {a0 a1 a2 a3 a4 : Blk} {R : Nat} {c : Array Value} {t : TypeId} {L2 : List Blk} (h : Fb w0 (a0 :: a1 :: a2 :: a3 :: a4 :: ⟨R, c, t⟩ :: L2) x) (vs : List Value) (hc : c.size = vs.length) : Fb w0 (a0 :: a1 :: a2 :: a3 :: a4 :: ⟨R, vs.toArray, t⟩ :: L2) (stR x R vs 0) := by
  have := h.stores5 vs 0; rwa [setR_full c vs hc] at this
theorem Fr.full5 {A : Nat} {s : ASt} {a0 a1 a2 a3 a4 : Blk} {R : Nat} {c : Array Value} {t : TypeId} {L2 : List Blk} (h : Fr A w0 (a0 :: a1 :: a2 :: a3 :: a4 :: ⟨R, c, t⟩ :: L2) x) (ho : On A s x) (vs : List Value) (hc : c.size = vs.length) : Fr A w0 (a0 :: a1 :: a2 :: a3 :: a4 :: ⟨R, vs.toArray, t⟩ :: L2) (stR x R vs 0) := by
  have := h.stores5 ho vs 0; rwa [setR_full c vs hc] at this
end
end Go.Proofs.YtmnhpmgffhpoeaaGreat.Bt
/- A list of cleanups: sort.Search where nothing is found; how many slots, and where each stands; the layout. -/
namespace Go.Proofs.YtmnhpmgffhpoeaaGreat.Bt
open Go Go.RowKit Go.Shelf
set_option linter.unusedVariables false
set_option linter.unusedSimpArgs false
/-- the arena of the statements: one page -/
abbrev cS (m : Nat → UInt8) : ASt := fullS 1 m
theorem cS_there {m : Nat → UInt8} {a k : Int} (h0 : 0 ≤ a) (h1 : 0 ≤ k) (h2 : a + k ≤ 4096) : thereE (cS m).L (cS m).es a k = 0 := by
  show thereE 1 [0, 1] a k = 0
  rw [thereE_full (by omega) (by omega), if_pos (by omega)]
abbrev zvV : Value := .agg #[.pointer none, .int .i64 0, .int .i64 0]
theorem ofV_ok (pu : Option Addr) (a k : Int) : ofV pu a k 0 = .agg #[.pointer pu, .int .i64 a, .int .i64 k] := by unfold ofV; rw [if_pos rfl]
theorem addr_in {va vs : Nat} {a k : Int} (h : 0 ≤ a ∧ 0 ≤ k ∧ k ≤ (vs : Int) - a) : addrV va vs a k = (va : Int) + a := by unfold addrV; rw [if_pos h]
abbrev vwC (A a k : Nat) : Array Value := #[.pointer (some ⟨A, 0, none⟩), .int .i64 (a : Int), .int .i64 (k : Int)]
abbrev zvC : Array Value := #[.pointer none, .int .i64 0, .int .i64 0]
set_option maxHeartbeats 2000000 in
/-- sort.Search where none is found -/
theorem searchN (g : Nat) (lb : Array Value) (eg : ∀ args w, (callFunc g args).run Tryz.prog w = .ok (.enter g args) w) (n : Nat) (hn : n ≤ 1000) (w : World)
    (hp : ∀ X (i : Nat), Below w.heap.size w X → i < n → Calls Tryz.prog g (#[.int .i64 (i : Int)] ++ lb) X (Gives (.bool false) X)) :
    Calls Tryz.prog 40 #[.int .i64 (n : Int), .func (.func g) #[] lb] w (Gives (.int .i64 (n : Int)) w) := by
  have HP := Lib.hid hp
  clear hp
  go_enter Tryz.func40, Tryz.ntmps40
  go_wp2_with fail
  go_loopw [5, 6] (fun s5 s6 wr => ∃ j : Nat, j ≤ n ∧ s5 = .int .i64 (j : Int) ∧ s6 = .int .i64 (n : Int) ∧ Hid (Below w.heap.size w wr)) (fun s5 _ _ => n - (intOf s5).toNat)
  case atStart => exact ⟨0, Nat.zero_le _, rfl, rfl, Lib.hid (Below.refl _ _)⟩
  case round =>
    obtain ⟨j, hj, rfl, rfl, HB⟩ := hrel
    by_cases hjn : j < n
    · have hjn2 : (j : Int) < (n : Int) := by omega
      obtain ⟨k, hk⟩ : ∃ k, (j + n) / 2 = k := ⟨_, rfl⟩
      have hk2 : k < n := by omega
      have hjk : j ≤ k := by omega
      have q1 : IntKind.u64.wrap ((j : Int) + (n : Int)) = (j : Int) + (n : Int) := by rw [IntKind.wrap_u64]; omega
      have q2 : ((j : Int) + (n : Int)) / 2 = (k : Int) := by omega
      have q3 : IntKind.i64.wrap (k : Int) = (k : Int) := by rw [IntKind.wrap_i64]; omega
      have q4 : IntKind.u64.wrap (k : Int) = (k : Int) := by rw [IntKind.wrap_u64]; omega
      have HC := Lib.hid fun X (hX : Below w.heap.size w X) => HP.out X k hX hk2
      have HK := Lib.hid (And.intro hk2 hjk)
      clear hk hk2 hjk
      go_wp2_with fail
      refine (HC.out _ HB.out).mono ?_
      rintro e w' ⟨rfl, hb'⟩
      have HB2 := Lib.hid (HB.out.trans (hb'.mono HB.out.size))
      have hk2 := HK.out.1
      have hk3 := HK.out.2
      clear hb' HB HC HK q1 q2 q3 q4
      go_wp2_with fail
      go_roundw
      case rel => exact ⟨k + 1, by omega, by go_num, rfl, HB2⟩
      case measure => simp [intOf]; omega
    · obtain rfl : j = n := by omega
      have hjn2 : ¬ ((j : Int) < (j : Int)) := by omega
      go_wp2_with fail
      go_ret
      exact ⟨rfl, HB.out⟩
section
variable {A vs : Nat} {m : Nat → UInt8} {w : World}
end
end Go.Proofs.YtmnhpmgffhpoeaaGreat.Bt
