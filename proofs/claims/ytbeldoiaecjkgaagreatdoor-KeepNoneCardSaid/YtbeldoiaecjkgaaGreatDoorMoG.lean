/- BitsVar, BitsCountMath. -/
import Derived.Test.YtbeldoiaecjkgaaGreatDoorMoF
section
namespace Go.Proofs.YtbeldoiaecjkgaaGreatDoor.Bt
open Go Go.RowKit

/-- what a law comes to -/
def TrueAt (w : World) (e : Ending) (w' : World) : Prop := e = .returned (.bool true) ∧ Below w.heap.size w w'
/-- the variable in block S holds a set of length L with those edges -/
def VarAt (S L : Nat) (es : List Nat) (x : World) : Prop :=
  ∃ p n cap, Good L es ∧ x.cell? ⟨S, 0, none⟩ = some (.int .i64 (L : Int)) ∧ x.cell? ⟨S, 1, none⟩ = some (.slice p n cap) ∧ x.frozen? ⟨S, 0, none⟩ = false ∧ x.frozen? ⟨S, 1, none⟩ = false ∧
    RowAt x p es ∧ n = es.length ∧ n ≤ cap ∧ (p = none → cap = 0) ∧ (∀ b off, p = some ⟨b, off, none⟩ → b ≠ S)
theorem VarAt.lt {S L : Nat} {es : List Nat} {x : World} (h : VarAt S L es x) : S < x.heap.size := by
  obtain ⟨p, n, cap, _, c0, _⟩ := h
  exact World.block_lt_of_cell? _ _ c0
theorem VarAt.below {S L : Nat} {es : List Nat} {x y : World} (h : VarAt S L es x) (hb : Below x.heap.size x y) : VarAt S L es y := by
  have hlt := h.lt
  obtain ⟨p, n, cap, g, c0, c1, z0, z1, hr, hn, hc, hp, hne⟩ := h
  exact ⟨p, n, cap, g, (hb.cell (p := ⟨S, 0, none⟩) hlt).trans c0, (hb.cell (p := ⟨S, 1, none⟩) hlt).trans c1, (hb.frozen (p := ⟨S, 0, none⟩) hlt).trans z0, (hb.frozen (p := ⟨S, 1, none⟩) hlt).trans z1, hr.below hb, hn, hc, hp, hne⟩
/-- a store of another set into it, made since -/
theorem VarAt.store {S L : Nat} {es es' : List Nat} {x y : World} {p p' : Option Addr} {n' cap' : Nat} (h : VarAt S L es y) (g : Good L es') (hr : RowAt y p' es') (hn : n' = es'.length) (hc : n' ≤ cap') (hp : p' = none → cap' = 0)
    (hpp : p' = p ∨ ∃ a, p' = some a ∧ x.heap.size ≤ a.block) (hne : ∀ b off, p = some ⟨b, off, none⟩ → b ≠ S) (hS : S < x.heap.size) :
    VarAt S L es' ((y.setCell ⟨S, 0, none⟩ (.int .i64 (L : Int))).setCell ⟨S, 1, none⟩ (.slice p' n' cap')) := by
  obtain ⟨q, m, cq, _, c0, c1, z0, z1, _⟩ := h
  have hne' : ∀ b off, p' = some ⟨b, off, none⟩ → b ≠ S := fun b off e => by
    rcases hpp with h2 | ⟨a, h2, h3⟩
    · rw [h2] at e; exact hne b off e
    · rw [e] at h2; cases h2; have h4 : x.heap.size ≤ b := h3; omega
  refine ⟨p', n', cap', g, (two_set c0 c1 _ _).1, (two_set c0 c1 _ _).2, by rw [World.frozen?_setCell, World.frozen?_setCell]; exact z0, by rw [World.frozen?_setCell, World.frozen?_setCell]; exact z1, hr.keep fun b off e => heap_two _ _ _ _ _ (hne' b off e), hn, hc, hp, hne'⟩

/-- a set's variable as it is made -/
theorem VarAt.new (w : World) (L : Nat) (hL : L ≤ 1048576) : VarAt w.heap.size L [] (w.alloc (.cells #[.int .i64 (L : Int), .slice none 0 0] 85)) :=
  ⟨none, 0, 0, ⟨List.Pairwise.nil, rfl, (fun e h => by cases h), hL⟩, by simp, by simp, by simp, by simp, .inl ⟨rfl, rfl⟩, rfl, Nat.le_refl _, fun _ => rfl, fun _ _ h => by cases h⟩
theorem lenN_le (x : Int) : lenN x ≤ 1048576 := by unfold lenN; omega

/-- behind k acts -/
def RunRel (S L : Nat) (w : World) (len : Nat) (i : Value) (x : World) : Prop := ∃ (k : Nat) (es : List Nat), k ≤ len ∧ i = .int .i64 k ∧ VarAt S L es x ∧ Below w.heap.size w x

theorem first_true {L : Nat} {es : List Nat} (g : Good L es) {fr : Int} {inn : Bool} (h : firstB L es fr inn = true) :
    hasB L es (firstV L es fr inn) = inn ∧ fr ≤ firstV L es fr inn ∧ 0 ≤ firstV L es fr inn ∧ firstV L es fr inn < L ∧ ∀ j : Int, fI fr ≤ j → j < firstV L es fr inn → hasB L es j = !inn := by
  have hf0 : 0 ≤ fI fr ∧ fr ≤ fI fr := by unfold fI; split <;> omega
  unfold firstV
  rw [h]
  unfold firstB at h
  have hcl := cnt_le es (fI fr + 1)
  by_cases hi : (insB (cnt es (fI fr + 1)) == inn) = true
  · rw [hi]
    have hlt : fI fr < L := by simpa [hi] using h
    have hi' : insB (cnt es (fI fr + 1)) = inn := by simpa using hi
    exact ⟨by simp only [if_true]; unfold hasB mem; rw [hi']; simp; omega, by simp only [if_true]; omega, by simp only [if_true]; omega, by simp only [if_true]; omega, fun j h1 h2 => by simp only [if_true] at h2; omega⟩
  · have hi' : insB (cnt es (fI fr + 1)) = !inn := by revert hi; cases insB (cnt es (fI fr + 1)) <;> cases inn <;> simp
    rw [hi'] at h
    have h' : fI fr < L ∧ cnt es (fI fr + 1) < es.length ∧ es.getD (cnt es (fI fr + 1)) 0 < L := by
      revert h; cases inn <;> simp
    obtain ⟨h1, h2, h3⟩ := h'
    generalize hc : cnt es (fI fr + 1) = c at *
    have hge := get_ge g.rising (x := fI fr + 1) (i := c) (by omega) h2
    -- between, the count stays c; one further it is one more
    have hmid : ∀ y : Int, fI fr + 1 ≤ y → y ≤ (es.getD c 0 : Int) → cnt es y = c := fun y y1 y2 => by
      refine cnt_of (Nat.le_of_lt h2) (fun i hi => ?_) (fun i hi hl => ?_)
      · have := get_lt g.rising (x := fI fr + 1) (i := i) (by omega); omega
      · by_cases e : i = c
        · subst e; exact y2
        · have := rising_get g.rising (show c < i by omega) hl; omega
    have hnext : cnt es ((es.getD c 0 : Int) + 1) = c + 1 := by
      refine cnt_of (by omega) (fun i hi => ?_) (fun i hi hl => ?_)
      · by_cases e : i = c
        · subst e; omega
        · have := rising_get g.rising (show i < c by omega) h2; omega
      · have := rising_get g.rising (show c < i by omega) hl; omega
    rw [hi']
    have hne : ((!inn) == inn) = false := by cases inn <;> rfl
    simp only [hne, if_true, Bool.false_eq_true, if_false]
    refine ⟨?_, by omega, by omega, by omega, fun j j1 j2 => ?_⟩
    · unfold hasB mem
      rw [hnext, insB_add, hi']
      have : decide (0 ≤ (es.getD c 0 : Int) ∧ (es.getD c 0 : Int) < L) = true := decide_eq_true ⟨by omega, by omega⟩
      rw [this]; cases inn <;> rfl
    · unfold hasB mem
      rw [hmid (j + 1) (by omega) (by omega), hi']
      have : decide (0 ≤ j ∧ j < (L : Int)) = true := by simp; omega
      rw [this]; cases inn <;> rfl
theorem first_false {L : Nat} {es : List Nat} (g : Good L es) {fr : Int} {inn : Bool} (h : firstB L es fr inn = false) :
    firstV L es fr inn = 0 ∧ ∀ j : Int, fI fr ≤ j → j < L → hasB L es j = !inn := by
  have hf0 : 0 ≤ fI fr ∧ fr ≤ fI fr := by unfold fI; split <;> omega
  refine ⟨by unfold firstV; rw [h]; rfl, fun j j1 j2 => ?_⟩
  unfold firstB at h
  have hlt : fI fr < L := by omega
  have hd : decide (fI fr < (L : Int)) = true := by simpa using hlt
  rw [hd] at h
  have hi' : insB (cnt es (fI fr + 1)) = !inn := by
    revert h; cases insB (cnt es (fI fr + 1)) <;> cases inn <;> simp
  have hcl := cnt_le es (fI fr + 1)
  have hlast : ∀ i, cnt es (fI fr + 1) ≤ i → i < es.length → (L : Int) ≤ es.getD i 0 := fun i hi hl => by
    have hcond : ¬ (cnt es (fI fr + 1) < es.length ∧ es.getD (cnt es (fI fr + 1)) 0 < L) := by
      intro hh; revert h; rw [hi', decide_eq_true hh.1, decide_eq_true hh.2]; cases inn <;> simp
    by_cases e : i = cnt es (fI fr + 1)
    · subst e; omega
    · have := rising_get g.rising (show cnt es (fI fr + 1) < i by omega) hl
      have h3 : ¬ es.getD (cnt es (fI fr + 1)) 0 < L := fun hh => hcond ⟨by omega, hh⟩
      omega
  have hmid : cnt es (j + 1) = cnt es (fI fr + 1) := by
    refine cnt_of hcl (fun i hi => ?_) (fun i hi hl => ?_)
    · have := get_lt g.rising (x := fI fr + 1) (i := i) hi; omega
    · have := hlast i hi hl; omega
  unfold hasB mem
  rw [hmid, hi']
  have : decide (0 ≤ j ∧ j < (L : Int)) = true := by simp; omega
  rw [this]; cases inn <;> rfl
end Go.Proofs.YtbeldoiaecjkgaaGreatDoor.Bt
end
section
namespace Go.Proofs.YtbeldoiaecjkgaaGreatDoor.Bt
open Go

/-- how many a row of the set has in common with another row -/
def ovI (fr n a c : Int) : Int := max (min c (fr + n) - max a fr) 0
def ovP (fr n : Int) (x : Pr) : Int := ovI fr n x.1.1 ((x.1.1 : Int) + x.1.2)
def sumP (fr n : Int) (l : List Pr) : Int := (l.map (ovP fr n)).sum
theorem sumP_snoc (fr n : Int) (l : List Pr) (x : Pr) : sumP fr n (l ++ [x]) = sumP fr n l + ovP fr n x := by simp [sumP]
theorem ovP_bd {fr n : Int} (h0 : 0 ≤ fr) (h1 : 0 ≤ n) (h2 : fr + n ≤ 1048576) (x : Pr) : 0 ≤ ovP fr n x ∧ ovP fr n x ≤ 1048576 := by
  have := x.2; unfold ovP ovI; omega
theorem sumP_bd {fr n : Int} (h0 : 0 ≤ fr) (h1 : 0 ≤ n) (h2 : fr + n ≤ 1048576) (l : List Pr) : 0 ≤ sumP fr n l ∧ sumP fr n l ≤ l.length * 1048576 := by
  induction l with
  | nil => simp [sumP]
  | cons x t ih =>
    have := ovP_bd h0 h1 h2 x
    have e : sumP fr n (x :: t) = ovP fr n x + sumP fr n t := by simp [sumP]
    rw [e]; simp only [List.length_cons]; omega

/-- how many of a row are in the set -/
def memCount (es : List Nat) (fr n : Nat) : Nat := (List.range n).countP fun (i : Nat) => mem es ((fr : Int) + i)

theorem pairs_cons {a c : Nat} {t : List Nat} : pairs (a :: c :: t) = mkPr a c :: pairs t := by
  unfold pairs pairsTo
  rw [show (a :: c :: t).length / 2 = t.length / 2 + 1 from by simp; omega, List.range_succ_eq_map, List.map_cons, List.map_map]
  refine congr (congrArg _ rfl) (List.map_congr_left fun j _ => ?_)
  show pairAt (a :: c :: t) (j + 1) = pairAt t j
  unfold pairAt
  rw [show 2 * (j + 1) = 2 * j + 1 + 1 from by omega]; simp only [List.getD_cons_succ]
theorem mem_two {a c : Nat} {t : List Nat} (h : Rising (a :: c :: t)) (i : Int) : mem (a :: c :: t) i = (decide ((a : Int) ≤ i ∧ i < c) || mem t i) ∧ ((a : Int) ≤ i ∧ i < c → mem t i = false) := by
  have ha := (List.pairwise_cons.1 h).1
  have hc := (List.pairwise_cons.1 (List.pairwise_cons.1 h).2).1
  have hac := ha c (by simp)
  unfold mem
  rw [cnt_cons, cnt_cons]
  by_cases h1 : (a : Int) ≤ i
  · by_cases h2 : i < c
    · have hz : cnt t (i + 1) = 0 := cnt_none fun e he => by have := hc e he; omega
      rw [if_pos (by omega), if_neg (by omega), hz]
      exact ⟨by simp [insB, h1, h2], fun _ => rfl⟩
    · rw [if_pos (by omega), if_pos (by omega)]
      refine ⟨?_, fun hh => by omega⟩
      rw [show 1 + (1 + cnt t (i + 1)) = 2 + cnt t (i + 1) from by omega, insB_add]
      have : decide ((a : Int) ≤ i ∧ i < c) = false := decide_eq_false (by omega)
      rw [this]; cases insB (cnt t (i + 1)) <;> rfl
  · have hz : cnt t (i + 1) = 0 := cnt_none fun e he => by have := hc e he; omega
    rw [if_neg (by omega), if_neg (by omega), hz]
    refine ⟨?_, fun hh => by omega⟩
    have : decide ((a : Int) ≤ i ∧ i < c) = false := decide_eq_false (by omega)
    rw [this]; rfl
theorem count_row (a c : Int) (fr : Nat) (hac : a ≤ c) : ∀ n : Nat, ((((List.range n).countP fun (i : Nat) => decide (a ≤ (fr : Int) + i ∧ (fr : Int) + i < c)) : Nat) : Int) = ovI fr n a c := by
  intro n
  induction n with
  | zero => simp [ovI]; omega
  | succ n ih =>
    rw [List.range_succ, List.countP_append]
    simp only [List.countP_cons, List.countP_nil]
    rw [Int.natCast_add, ih]
    by_cases h : a ≤ (fr : Int) + n ∧ (fr : Int) + n < c
    · rw [decide_eq_true h]; unfold ovI; simp; omega
    · rw [decide_eq_false h]; unfold ovI; simp; omega
theorem countP_or {l : List Nat} {p q : Nat → Bool} (h : ∀ i, p i = true → q i = false) : l.countP (fun i => p i || q i) = l.countP p + l.countP q := by
  induction l with
  | nil => rfl
  | cons x t ih =>
    simp only [List.countP_cons, ih]
    cases hp : p x
    · cases q x <;> simp <;> omega
    · rw [h x hp]; simp; omega
theorem memCount_pairs : ∀ (m : Nat) (es : List Nat) (fr n : Nat), es.length ≤ m → Rising es → es.length % 2 = 0 → (∀ e ∈ es, e ≤ 1048576) → (memCount es fr n : Int) = sumP fr n (pairs es) := by
  intro m
  induction m with
  | zero =>
    intro es fr n h _ _ _
    have : es = [] := List.eq_nil_of_length_eq_zero (by omega)
    subst this
    simp [memCount, mem, cnt_nil, insB, sumP, pairs, pairsTo]
  | succ m ih =>
    intro es fr n h hr hev hle
    match es, h, hr, hev, hle with
    | [], _, _, _, _ => simp [memCount, mem, cnt_nil, insB, sumP, pairs, pairsTo]
    | [a], _, _, hev, _ => simp at hev
    | a :: c :: t, h, hr, hev, hle =>
      have hrt : Rising t := (List.pairwise_cons.1 (List.pairwise_cons.1 hr).2).2
      have hac : a < c := (List.pairwise_cons.1 hr).1 c (by simp)
      have hcl := hle c (by simp)
      rw [pairs_cons]
      have e1 : sumP fr n (mkPr a c :: pairs t) = ovP fr n (mkPr a c) + sumP fr n (pairs t) := by simp [sumP]
      have e2 : ovP fr n (mkPr a c) = ovI fr n a c := by
        unfold ovP mkPr; rw [dif_pos ⟨hac, hcl⟩]; simp only
        rw [show (a : Int) + ((c - a : Nat) : Int) = c from by omega]
      rw [e1, e2, ← count_row a c fr (by omega) n, ← ih t fr n (by simp at h; omega) hrt (by simp at hev; omega) (fun e he => hle e (by simp [he]))]
      unfold memCount
      rw [← Int.natCast_add, ← countP_or fun i hi => (mem_two hr _).2 (of_decide_eq_true hi)]
      congr 1
      exact List.countP_congr fun i _ => by rw [(mem_two hr _).1]
theorem memCount_sum {L : Nat} {es : List Nat} (g : Good L es) (fr n : Nat) : (memCount es fr n : Int) = sumP fr n (pairs es) :=
  memCount_pairs es.length es fr n (Nat.le_refl _) g.rising g.even fun e he => by have := g.le e he; have := g.small; omega
end Go.Proofs.YtbeldoiaecjkgaaGreatDoor.Bt
end
