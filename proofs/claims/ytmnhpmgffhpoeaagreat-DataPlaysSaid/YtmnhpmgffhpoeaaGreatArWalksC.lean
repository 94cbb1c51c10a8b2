/- The contracts of New, count, refuses, Commit: what each returns, and what it turns. -/
import Derived.Test.YtmnhpmgffhpoeaaGreatArWalksB
import Derived.Laws.MakeOwn
import Derived.Deep.RegionHeld3
namespace Go.Proofs.YtmnhpmgffhpoeaaGreat.Bt
open Go Go.RowKit Go.Shelf
set_option linter.unusedVariables false

/-- a fresh arena -/
def newS (L : Nat) : ASt := ⟨L, [], fun _ => 0, false, 0⟩
theorem Tryz.infoPtr : (Tryz.prog.info? 77).map (fun i => (i.zero, i.size, i.bytes)) = some (some (.pointer none), 1, 8) := by kernel_rfl
theorem made_row (L : Nat) : madeCells (Value.pointer none).cells (L * 1) = rowV (List.replicate L none) := by
  apply Array.ext_getElem?
  intro j
  rw [rowV_get]
  by_cases hj : j < L
  · simp [madeCells, hj, Value.cells, ptrV, Nat.mod_one]
  · rw [Array.getElem?_eq_none (by rw [size_madeCells]; omega), List.getElem?_eq_none (by simp; omega)]; rfl
theorem run_pages (L : Nat) (hL : L ≤ 1048576) (w : World) :
    (Instr.makeSlice 74 (.int .i64 (L : Int)) (.int .i64 (L : Int))).run Tryz.prog w = .ok (.slice (some ⟨w.heap.size, 0, none⟩) L L) (w.alloc (.cells (rowV (List.replicate L none)) 77)) := by
  obtain ⟨i0, hi, hz0, hz1, hz2⟩ := info_parts Tryz.infoPtr
  have h := run_make (P := Tryz.prog) w 74 77 i0 (.pointer none) Tryz.underlying74 hi hz0 .i64 .i64 (L : Int) L (by omega) (Int.le_refl _) (by rw [hz2]; omega) (by omega)
  rw [Int.toNat_natCast, hz1, made_row] at h
  exact h

theorem new_world (w w2 : World) (L : Nat) (hL : L ≤ 1048576) (hb : Below w.heap.size w w2) (P : Nat) (hP : w.heap.size ≤ P) (w3 : World)
    (hw : (w2.alloc (.cells (rowV (List.replicate L none)) 77)).alloc (.cells (headV (newS L) w2.heap.size none 0 0) 76) = w3) :
    ArX (w2.heap.size + 1) (newS L) w2.heap.size (List.replicate L none) none 0 0 w3 := by
  have g : Good L [] := ⟨List.Pairwise.nil, rfl, (fun e h => by cases h), hL⟩
  have hno : ∀ (i b : Nat), (List.replicate L (none : Option Nat))[i]? ≠ some (some b) := fun i b h => by
    rw [List.getElem?_replicate] at h; split at h <;> cases h
  exact {
    good := g
    len := by simp; rfl
    hd := by rw [← hw]; have := heap_new (w2.alloc (.cells (rowV (List.replicate L none)) 77)) (.cells (headV (newS L) w2.heap.size none 0 0) 76); simpa using this
    row := by rw [← hw, Below.heap_alloc _ _ _ (by simp)]; exact heap_new _ _
    pg := fun i b h => absurd h (hno i b)
    no := fun _ _ _ _ => rfl
    un := fun i b h => absurd h (hno i b)
    edges := .inl ⟨rfl, rfl⟩
    num := rfl
    room := Nat.le_refl _
    nil := fun _ => rfl
    ap := by omega
    apg := fun i b h => absurd h (hno i b)
    one := fun i j b h _ => absurd h (hno i b)
    eap := fun _ _ h => by cases h
    lfb := Nat.zero_le _ }

def HN (S L : Nat) (w x : World) : Prop := x.cell? ⟨S, 0, none⟩ = some (.int .i64 (L : Int)) ∧ x.cell? ⟨S, 1, none⟩ = some (.slice none 0 0) ∧ Below w.heap.size w x ∧ S < x.heap.size
theorem HN.below {S L : Nat} {w x y : World} (h : HN S L w x) (hb : Below x.heap.size x y) : HN S L w y :=
  ⟨(hb.cell (p := ⟨S, 0, none⟩) h.2.2.2).trans h.1, (hb.cell (p := ⟨S, 1, none⟩) h.2.2.2).trans h.2.1, h.2.2.1.trans (hb.mono h.2.2.1.size), Nat.lt_of_lt_of_le h.2.2.2 hb.size⟩
theorem HN.all {S L : Nat} {w x : World} (h : HN S L w x) : x.cell? ⟨S, 0, none⟩ = some (.int .i64 (L : Int)) ∧ x.cell? ⟨S, 1, none⟩ = some (.slice none 0 0) ∧ HN S L w x := ⟨h.1, h.2.1, h⟩
theorem arena_new (c : Int) (w : World) :
    Calls Tryz.prog 23 #[.int .i64 c] w fun e w' => ∃ A P, e = .returned (.pointer (some ⟨A, 0, none⟩)) ∧ w.heap.size ≤ A ∧ w.heap.size ≤ P ∧ ArX A (newS (lenN c)) P (List.replicate (lenN c) none) none 0 0 w' ∧ Below w.heap.size w w' := by
  have hL := lenN_le c
  have hmk := run_pages (lenN c) hL
  go_enter Tryz.func23, Tryz.ntmps23
  go_wp2_with fail
  refine (new_any _ _).mono ?_
  rintro e w1 ⟨rfl, hb1⟩
  generalize hLn : lenN c = L at *
  have HLn := Lib.hid hLn; clear hLn
  go_wp2_with fail
  have HH : HN w1.heap.size L w (w1.alloc (.cells #[.int .i64 (L : Int), .slice none 0 0] 73)) := ⟨by simp, by simp, hb1.alloc hb1.size _, by simp⟩
  obtain ⟨w2, hw2⟩ : ∃ w2, w1.alloc (.cells #[.int .i64 (L : Int), .slice none 0 0] 73) = w2 := ⟨_, rfl⟩
  rw [hw2] at HH ⊢
  clear hw2
  generalize w1.heap.size = S at *
  go_region_held3 (fun x => x.cell? ⟨S, 0, none⟩ = some (.int .i64 (L : Int)) ∧ x.cell? ⟨S, 1, none⟩ = some (.slice none 0 0) ∧ HN S L w x)
    (first | exact (HH.below (Below.refl _ _).drew).all | assumption | exact (hnx.2.2.below ((Below.refl _ _).alloc (Nat.le_refl _) _)).all | exact ((hnx.2.2.below ((Below.refl _ _).alloc (Nat.le_refl _) _)).below ((Below.refl _ _).alloc (Nat.le_refl _) _)).all)
    (first | (go_at_call 36; refine (len_any L none 0 0 _).mono ?_; rintro e w' ⟨rfl, hbb⟩; have hnx := ((HH.below (Below.refl _ _).drew).below hbb).all))
  obtain ⟨_, _, hNX⟩ := hnx
  have hB := hNX.2.2.1
  clear HH hmk
  go_wp2_with fail
  go_ret
  rw [HLn.out]
  refine ⟨w'.heap.size + 1, w'.heap.size, rfl, by have := hB.size; omega, hB.size, new_world w w' L hL hB _ hB.size _ rfl, ?_⟩
  exact (hB.alloc hB.size _).alloc (by have := hB.size; simp; omega) _

/-- how many of some pages are committed, and the errors that Commit and Decommit have in common -/
def countR (L : Nat) (es : List Nat) (a k : Int) : Int := if k < 1 then 0 else countV L es a k
def countE (L : Nat) (a k : Int) : Int := if k < 1 then 2 else laidErr L a k
section
variable {A P n cap : Nat} {s : ASt} {ps : List (Option Nat)} {p : Option Addr} {w : World}
theorem acount_nil (a k : Int) (w : World) : Calls Tryz.prog 37 #[.pointer none, .int .i64 a, .int .i64 k] w fun e w' => e = .returned (.tuple #[.int .i64 0, .int .i64 1]) ∧ w = w' := by
  go_enter Tryz.func37, Tryz.ntmps37
  go_wp2_with fail
  go_ret2
  exact ⟨rfl, rfl⟩
theorem acount_any (h : ArX A s P ps p n cap w) (a k : Int) (ha : a ≤ 9223372036854775807) :
    Calls Tryz.prog 37 #[.pointer (some ⟨A, 0, none⟩), .int .i64 a, .int .i64 k] w fun e w' => e = .returned (.tuple #[.int .i64 (countR s.L s.es a k), .int .i64 (countE s.L a k)]) ∧ Below w.heap.size w w' := by
  obtain ⟨c0, c1, c2, c3, c4⟩ := h.head
  have g := h.good
  have HE := Lib.hid h.edges
  have HN := Lib.hid h.num
  clear h
  by_cases hk : k < 1
  · have HR : Hid (countR s.L s.es a k = 0 ∧ countE s.L a k = 2) := Lib.hid (by unfold countR countE; rw [if_pos hk, if_pos hk]; exact ⟨rfl, rfl⟩)
    go_enter Tryz.func37, Tryz.ntmps37
    go_wp2_with fail
    go_ret2
    exact ⟨by rw [HR.out.1, HR.out.2]; rfl, Below.refl _ _⟩
  · have HR : Hid (countR s.L s.es a k = countV s.L s.es a k ∧ countE s.L a k = laidErr s.L a k) := Lib.hid (by unfold countR countE; rw [if_neg hk, if_neg hk]; exact ⟨rfl, rfl⟩)
    go_enter Tryz.func37, Tryz.ntmps37
    go_wp2_with fail
    refine (count_any s.L p n cap s.es a k _ g HN.out HE.out ha).mono ?_
    rintro e w1 ⟨rfl, hb1⟩
    go_wp2_with fail
    go_ret2
    exact ⟨by rw [HR.out.1, HR.out.2]; rfl, hb1⟩

/-- is the next Commit that would be OK refused; how it stands behind that -/
def refB (s : ASt) : Bool := s.rf && decide (s.lf = 0)
def refS (s : ASt) : ASt := if s.rf then (if s.lf = 0 then { s with rf := false } else { s with lf := s.lf - 1 }) else s
theorem headed {s' : ASt} {w' : World} (h : ArX A s P ps p n cap w) (hL : s'.L = s.L) (he : s'.es = s.es) (hm : s'.mm = s.mm) (hl : s'.lf ≤ 9223372036854775807)
    (hs : w'.heap.size = w.heap.size) (ht : w'.tape = w.tape) (ho2 : w'.os = w.os) (ho3 : w'.output = w.output) (hA : w'.heap[A]? = some (.cells (headV s' P p n cap) 76 (0, 0))) (ho : ∀ k, k ≠ A → w'.heap[k]? = w.heap[k]?) :
    ArX A s' P ps p n cap w' ∧ Step A P ps ps w w' := by
  refine ⟨{ h with
    good := by rw [hL, he]; exact h.good
    len := by rw [hL]; exact h.len
    hd := hA
    row := (ho P (Ne.symm h.ap)).trans h.row
    pg := fun i b hb => by rw [hm]; exact (ho b (h.apg i b hb).1).trans (h.pg i b hb)
    no := fun i hi j hj => by rw [hm]; exact h.no i hi j hj
    un := fun i b hb => by rw [he]; exact h.un i b hb
    edges := by rw [he]; exact h.edges.keep fun b off e => ho b (h.eap b off e).1
    num := by rw [he]; exact h.num
    lfb := hl }, ho2, ?_, ?_, by omega, fun k _ hk => ho k fun e => hk (.inl e), fun i b hb => .inl hb⟩
  · exact ht
  · exact ho3
theorem refuses_any (h : ArX A s P ps p n cap w) :
    Calls Tryz.prog 38 #[.pointer (some ⟨A, 0, none⟩)] w fun e w' => e = .returned (.bool (refB s)) ∧ ArX A (refS s) P ps p n cap w' ∧ Step A P ps ps w w' := by
  obtain ⟨c0, c1, c2, c3, c4⟩ := h.head
  have hl := h.lfb
  have f2 := h.free 3
  have f4 := h.free 4
  have hd := Lib.hid h.hd
  cases hr : s.rf with
  | false =>
    have HR : Hid (refB s = false ∧ refS s = s) := Lib.hid (by unfold refB refS; rw [hr]; exact ⟨rfl, rfl⟩)
    rw [hr] at c3
    have HH := Lib.hid h
    clear h hr
    go_enter Tryz.func38, Tryz.ntmps38
    go_wp2_with fail
    go_ret
    exact ⟨by rw [HR.out.1]; rfl, by rw [HR.out.2]; exact HH.out, Step.refl _ _ _ _⟩
  | true =>
    rw [hr] at c3
    by_cases h0 : s.lf = 0
    · have HR : Hid (refB s = true ∧ refS s = { s with rf := false }) := Lib.hid (by unfold refB refS; rw [hr, if_pos rfl, if_pos h0, h0]; exact ⟨rfl, rfl⟩)
      have hz : ((s.lf : Nat) : Int) = 0 := by omega
      have hz2 : ¬ (0 : Int) < s.lf := by omega
      have HL := Lib.hid h0
      have HF : Hid (ArX A { s with rf := false } P ps p n cap (w.setCell ⟨A, 3, none⟩ (.bool false)) ∧ Step A P ps ps w (w.setCell ⟨A, 3, none⟩ (.bool false))) := Lib.hid
        (headed h rfl rfl rfl hl (set_size _ _ _) rfl rfl rfl (by rw [heap_set h.hd]; rfl) fun k hk => Below.heap_setCell _ _ _ _ (by exact hk))
      clear h hr h0 hz
      go_enter Tryz.func38, Tryz.ntmps38
      go_wp2_with fail
      go_ret
      exact ⟨by rw [HR.out.1]; rfl, by rw [HR.out.2]; exact HF.out.1, HF.out.2⟩
    · have HR : Hid (refB s = false ∧ refS s = { s with lf := s.lf - 1 }) := Lib.hid (by unfold refB refS; rw [hr, if_pos rfl, if_neg h0, decide_eq_false h0]; exact ⟨rfl, rfl⟩)
      have hz2 : (0 : Int) < s.lf := by omega
      have HF : Hid (ArX A { s with lf := s.lf - 1 } P ps p n cap (w.setCell ⟨A, 4, none⟩ (.int .i64 ((s.lf : Int) - 1))) ∧ Step A P ps ps w (w.setCell ⟨A, 4, none⟩ (.int .i64 ((s.lf : Int) - 1)))) := Lib.hid
        (headed h rfl rfl rfl (by show s.lf - 1 ≤ _; omega) (set_size _ _ _) rfl rfl rfl (by rw [heap_set h.hd, show ((s.lf : Int) - 1) = ((s.lf - 1 : Nat) : Int) from by omega]; rfl) fun k hk => Below.heap_setCell _ _ _ _ (by exact hk))
      clear h hr h0
      go_enter Tryz.func38, Tryz.ntmps38
      go_wp2_with fail
      go_ret
      exact ⟨by rw [HR.out.1]; rfl, by rw [HR.out.2]; exact HF.out.1, HF.out.2⟩
end
end Go.Proofs.YtmnhpmgffhpoeaaGreat.Bt
