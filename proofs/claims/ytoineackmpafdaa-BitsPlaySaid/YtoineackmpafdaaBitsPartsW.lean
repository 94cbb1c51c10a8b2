/- The contract of Same, and the walk of BitsParts: for every length, every acts, every row in two parts it returns true. -/
import Derived.Test.YtoineackmpafdaaBitsFirstW
import Derived.Test.YtoineackmpafdaaBitsCount
namespace Go.Proofs.Ytoineackmpafdaa.Bt
open Go Go.RowKit

theorem row_ints {w : World} {p : Option Addr} {es : List Nat} (h : RowAt w p es) : IntsRow w p (es.map fun (e : Nat) => (e : Int)) := by
  rcases h with ⟨rfl, rfl⟩ | ⟨b, off, rfl, hlt, hc⟩
  · exact .inl rfl
  · refine .inr ⟨b, off, rfl, hlt, fun k hk => ?_⟩
    have hk' : k < es.length := by simpa using hk
    rw [hc k hk']
    simp [List.getD_eq_getElem?_getD, List.getElem?_eq_getElem hk']
theorem map_beq (a b : List Nat) : ((a.map fun (e : Nat) => (e : Int)) == (b.map fun (e : Nat) => (e : Int))) = (a == b) := by
  rw [Bool.eq_iff_iff, beq_iff_eq, beq_iff_eq]
  constructor
  · intro h
    refine List.map_inj_right (f := fun (e : Nat) => (e : Int)) (fun x y hxy => by exact_mod_cast hxy) |>.1 h
  · rintro rfl; rfl
def SamePost (L M : Nat) (a b : List Nat) (w : World) (e : Ending) (w' : World) : Prop := e = .returned (.bool (L == M && a == b)) ∧ Below w.heap.size w w'
theorem same_any (L M : Nat) (p q : Option Addr) (n m cp cq : Nat) (a b : List Nat) (w : World) (ra : RowAt w p a) (rb : RowAt w q b) (hn : n = a.length) (hm : m = b.length) (hl : a.length ≤ 1048577) :
    Calls Try.prog 67 #[.agg #[.int .i64 L, .slice p n cp], .agg #[.int .i64 M, .slice q m cq]] w (SamePost L M a b w) := by
  have HN := Lib.hid hn; have HM := Lib.hid hm; clear hn hm
  have B2 : Below w.heap.size w ((w.alloc (.cells #[.int .i64 (L : Int), .slice p n cp] 107)).alloc (.cells #[.int .i64 (M : Int), .slice q m cq] 107)) := ((Below.refl _ _).alloc (Nat.le_refl _) _).alloc (by simp) _
  by_cases h : L = M
  · subst h
    go_enter Try.func67, Try.ntmps67
    go_wp2_with fail
    refine (equal_any p q cp cq n m _ _ (by rw [HN.out]; simp) (by rw [HM.out]; simp) (by rw [HN.out]; omega) _ (row_ints (ra.below B2)) (row_ints (rb.below B2))).mono ?_
    rintro e w1 ⟨rfl, nd, rfl⟩
    rw [map_beq]
    go_wp2_with fail
    go_ret
    exact ⟨by simp, below_drewN B2 _⟩
  · have hd : ((L : Int) == (M : Int)) = false := beq_eq_false_iff_ne.2 (by omega)
    have hf : (L == M) = false := beq_eq_false_iff_ne.2 h
    have HF := Lib.hid hf; clear h hf
    go_enter Try.func67, Try.ntmps67
    go_wp2_with fail
    go_ret
    exact ⟨by rw [HF.out]; rfl, B2⟩

theorem VarAt.made {w : World} {L n cap : Nat} {p : Option Addr} {es : List Nat} (g : Good L es) (hr : RowAt w p es) (hn : n = es.length) (hc : n ≤ cap) (hp : p = none → cap = 0) : VarAt w.heap.size L es (w.alloc (.cells #[.int .i64 (L : Int), .slice p n cap] 107)) :=
  ⟨p, n, cap, g, by simp, by simp, by simp, by simp, hr.below ((Below.refl _ _).alloc (Nat.le_refl _) _), hn, hc, hp, fun b off e => by subst e; have := hr.lt; omega⟩

theorem mem_laidS {L : Nat} {es : List Nat} (g : Good L es) {fr n : Int} (hw : withinB L fr n = true) (inn : Bool) (i : Int) : mem (laidS L es fr n inn) i = if fr ≤ i ∧ i < fr + n then inn else mem es i := by
  have hwi : 0 ≤ fr ∧ 0 ≤ n ∧ n ≤ L - fr := by simpa [withinB] using hw
  unfold laidS
  by_cases h0 : n = 0
  · subst h0; simp; omega
  · rw [hw, decide_eq_true h0, Bool.true_and, if_pos rfl, mem_laid g.rising, show ((fr.toNat : Nat) : Int) = fr from by omega, show ((n.toNat : Nat) : Int) = n from by omega]
theorem parts_same {L : Nat} {es : List Nat} (g : Good L es) {fr n cut : Int} (hw : withinB L fr n = true) (h0 : 0 ≤ cut) (h1 : cut ≤ n) (inn : Bool) :
    laidS L (laidS L es fr cut inn) (fr + cut) (n - cut) inn = laidS L es fr n inn := by
  have hwi : 0 ≤ fr ∧ 0 ≤ n ∧ n ≤ L - fr := by simpa [withinB] using hw
  have w1 : withinB L fr cut = true := by unfold withinB; simp; omega
  have w2 : withinB L (fr + cut) (n - cut) = true := by unfold withinB; simp; omega
  refine good_ext (laidS_good (laidS_good g _ _ _) _ _ _) (laidS_good g _ _ _) fun i _ => ?_
  rw [mem_laidS (laidS_good g _ _ _) w2, mem_laidS g w1, mem_laidS g hw]
  by_cases c1 : fr + cut ≤ i ∧ (i : Int) < fr + cut + (n - cut)
  · rw [if_pos c1, if_pos (by omega)]
  · rw [if_neg c1]
    by_cases c2 : fr ≤ i ∧ (i : Int) < fr + cut
    · rw [if_pos c2, if_pos (by omega)]
    · rw [if_neg c2, if_neg (by omega)]
theorem count_all {L : Nat} {es : List Nat} (g : Good L es) {fr n : Int} (hw : withinB L fr n = true) : countV L (laidS L es fr n true) fr n = n := by
  have hwi : 0 ≤ fr ∧ 0 ≤ n ∧ n ≤ L - fr := by simpa [withinB] using hw
  unfold countV memCount
  rw [hw, if_pos rfl, List.countP_eq_length.2 fun i hi => ?_]
  · simp; omega
  · have := List.mem_range.1 hi
    rw [mem_laidS g hw, if_pos (by omega)]
theorem count_none {L : Nat} {es : List Nat} (g : Good L es) {fr n : Int} (hw : withinB L fr n = true) : countV L (laidS L es fr n false) fr n = 0 := by
  have hwi : 0 ≤ fr ∧ 0 ≤ n ∧ n ≤ L - fr := by simpa [withinB] using hw
  unfold countV memCount
  rw [hw, if_pos rfl, List.countP_eq_zero.2 fun i hi => ?_]
  · rfl
  · have := List.mem_range.1 hi
    rw [mem_laidS g hw, if_pos (by omega)]; simp

end Go.Proofs.Ytoineackmpafdaa.Bt
