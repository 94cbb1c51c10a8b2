/- ArWalksC, ArWalksD. -/
import Derived.Test.YtbeldoiaecjkgaaGreatDoorMoI
import Derived.Laws.MakeOwn
import Derived.Deep.RegionHeld3
section
namespace Go.Proofs.YtbeldoiaecjkgaaGreatDoor.Bt
open Go Go.RowKit Go.Shelf
set_option linter.unusedVariables false

/-- a fresh arena -/
def newS (L : Nat) : ASt := ⟨L, [], fun _ => 0, false, 0⟩
theorem Tryz.infoPtr : (Tryz.prog.info? 193).map (fun i => (i.zero, i.size, i.bytes)) = some (some (.pointer none), 1, 8) := by kernel_rfl
theorem made_row (L : Nat) : madeCells (Value.pointer none).cells (L * 1) = rowV (List.replicate L none) := by
  apply Array.ext_getElem?
  intro j
  rw [rowV_get]
  by_cases hj : j < L
  · simp [madeCells, hj, Value.cells, ptrV, Nat.mod_one]
  · rw [Array.getElem?_eq_none (by rw [size_madeCells]; omega), List.getElem?_eq_none (by simp; omega)]; rfl
theorem run_pages (L : Nat) (hL : L ≤ 1048576) (w : World) :
    (Instr.makeSlice 87 (.int .i64 (L : Int)) (.int .i64 (L : Int))).run Tryz.prog w = .ok (.slice (some ⟨w.heap.size, 0, none⟩) L L) (w.alloc (.cells (rowV (List.replicate L none)) 193)) := by
  obtain ⟨i0, hi, hz0, hz1, hz2⟩ := info_parts Tryz.infoPtr
  have h := run_make (P := Tryz.prog) w 87 193 i0 (.pointer none) Tryz.underlying87 hi hz0 .i64 .i64 (L : Int) L (by omega) (Int.le_refl _) (by rw [hz2]; omega) (by omega)
  rw [Int.toNat_natCast, hz1, made_row] at h
  exact h

theorem new_world (w w2 : World) (L : Nat) (hL : L ≤ 1048576) (hb : Below w.heap.size w w2) (P : Nat) (hP : w.heap.size ≤ P) (w3 : World)
    (hw : (w2.alloc (.cells (rowV (List.replicate L none)) 193)).alloc (.cells (headV (newS L) w2.heap.size none 0 0) 89) = w3) :
    ArX (w2.heap.size + 1) (newS L) w2.heap.size (List.replicate L none) none 0 0 w3 := by
  have g : Good L [] := ⟨List.Pairwise.nil, rfl, (fun e h => by cases h), hL⟩
  have hno : ∀ (i b : Nat), (List.replicate L (none : Option Nat))[i]? ≠ some (some b) := fun i b h => by
    rw [List.getElem?_replicate] at h; split at h <;> cases h
  exact {
    good := g
    len := by simp; rfl
    hd := by rw [← hw]; have := heap_new (w2.alloc (.cells (rowV (List.replicate L none)) 193)) (.cells (headV (newS L) w2.heap.size none 0 0) 89); simpa using this
    row := by rw [← hw, Below.heap_alloc _ _ _ (by simp)]; exact heap_new _ _
    pg := fun i b h => absurd h (hno i b)
    no := fun _ _ _ _ => rfl
    un := fun i b h => absurd h (hno i b)
    edges := .inl ⟨rfl, rfl⟩
    num := rfl
    room := Nat.le_refl _
    nil := fun _ => rfl
    ap := by omega
    apg := fun i b h => absurd h (hno i b)
    one := fun i j b h _ => absurd h (hno i b)
    eap := fun _ _ h => by cases h
    lfb := Nat.zero_le _ }

def HN (S L : Nat) (w x : World) : Prop := x.cell? ⟨S, 0, none⟩ = some (.int .i64 (L : Int)) ∧ x.cell? ⟨S, 1, none⟩ = some (.slice none 0 0) ∧ Below w.heap.size w x ∧ S < x.heap.size
theorem HN.below {S L : Nat} {w x y : World} (h : HN S L w x) (hb : Below x.heap.size x y) : HN S L w y :=
  ⟨(hb.cell (p := ⟨S, 0, none⟩) h.2.2.2).trans h.1, (hb.cell (p := ⟨S, 1, none⟩) h.2.2.2).trans h.2.1, h.2.2.1.trans (hb.mono h.2.2.1.size), Nat.lt_of_lt_of_le h.2.2.2 hb.size⟩
theorem HN.all {S L : Nat} {w x : World} (h : HN S L w x) : x.cell? ⟨S, 0, none⟩ = some (.int .i64 (L : Int)) ∧ x.cell? ⟨S, 1, none⟩ = some (.slice none 0 0) ∧ HN S L w x := ⟨h.1, h.2.1, h⟩
theorem arena_new (c : Int) (w : World) :
    Calls Tryz.prog 10 #[.int .i64 c] w fun e w' => ∃ A P, e = .returned (.pointer (some ⟨A, 0, none⟩)) ∧ w.heap.size ≤ A ∧ w.heap.size ≤ P ∧ ArX A (newS (lenN c)) P (List.replicate (lenN c) none) none 0 0 w' ∧ Below w.heap.size w w' := by
  have hL := lenN_le c
  have hmk := run_pages (lenN c) hL
  go_enter Tryz.func10, Tryz.ntmps10
  go_wp2_with fail
  refine (new_any _ _).mono ?_
  rintro e w1 ⟨rfl, hb1⟩
  generalize hLn : lenN c = L at *
  have HLn := Lib.hid hLn; clear hLn
  go_wp2_with fail
  have HH : HN w1.heap.size L w (w1.alloc (.cells #[.int .i64 (L : Int), .slice none 0 0] 85)) := ⟨by simp, by simp, hb1.alloc hb1.size _, by simp⟩
  obtain ⟨w2, hw2⟩ : ∃ w2, w1.alloc (.cells #[.int .i64 (L : Int), .slice none 0 0] 85) = w2 := ⟨_, rfl⟩
  rw [hw2] at HH ⊢
  clear hw2
  generalize w1.heap.size = S at *
  go_region_held3 (fun x => x.cell? ⟨S, 0, none⟩ = some (.int .i64 (L : Int)) ∧ x.cell? ⟨S, 1, none⟩ = some (.slice none 0 0) ∧ HN S L w x)
    (first | exact (HH.below (Below.refl _ _).drew).all | assumption | exact (hnx.2.2.below ((Below.refl _ _).alloc (Nat.le_refl _) _)).all | exact ((hnx.2.2.below ((Below.refl _ _).alloc (Nat.le_refl _) _)).below ((Below.refl _ _).alloc (Nat.le_refl _) _)).all)
    (first | (go_at_call 28; refine (len_any L none 0 0 _).mono ?_; rintro e w' ⟨rfl, hbb⟩; have hnx := ((HH.below (Below.refl _ _).drew).below hbb).all))
  obtain ⟨_, _, hNX⟩ := hnx
  have hB := hNX.2.2.1
  clear HH hmk
  go_wp2_with fail
  go_ret
  rw [HLn.out]
  refine ⟨w'.heap.size + 1, w'.heap.size, rfl, by have := hB.size; omega, hB.size, new_world w w' L hL hB _ hB.size _ rfl, ?_⟩
  exact (hB.alloc hB.size _).alloc (by have := hB.size; simp; omega) _

/-- how many of some pages are committed, and the errors that Commit and Decommit have in common -/
def countR (L : Nat) (es : List Nat) (a k : Int) : Int := if k < 1 then 0 else countV L es a k
def countE (L : Nat) (a k : Int) : Int := if k < 1 then 2 else laidErr L a k
section
variable {A P n cap : Nat} {s : ASt} {ps : List (Option Nat)} {p : Option Addr} {w : World}
theorem acount_nil (a k : Int) (w : World) : Calls Tryz.prog 126 #[.pointer none, .int .i64 a, .int .i64 k] w fun e w' => e = .returned (.tuple #[.int .i64 0, .int .i64 1]) ∧ w = w' := by
  go_enter Tryz.func126, Tryz.ntmps126
  go_wp2_with fail
  go_ret2
  exact ⟨rfl, rfl⟩
theorem acount_any (h : ArX A s P ps p n cap w) (a k : Int) (ha : a ≤ 9223372036854775807) :
    Calls Tryz.prog 126 #[.pointer (some ⟨A, 0, none⟩), .int .i64 a, .int .i64 k] w fun e w' => e = .returned (.tuple #[.int .i64 (countR s.L s.es a k), .int .i64 (countE s.L a k)]) ∧ Below w.heap.size w w' := by
  obtain ⟨c0, c1, c2, c3, c4⟩ := h.head
  have g := h.good
  have HE := Lib.hid h.edges
  have HN := Lib.hid h.num
  clear h
  by_cases hk : k < 1
  · have HR : Hid (countR s.L s.es a k = 0 ∧ countE s.L a k = 2) := Lib.hid (by unfold countR countE; rw [if_pos hk, if_pos hk]; exact ⟨rfl, rfl⟩)
    go_enter Tryz.func126, Tryz.ntmps126
    go_wp2_with fail
    go_ret2
    exact ⟨by rw [HR.out.1, HR.out.2]; rfl, Below.refl _ _⟩
  · have HR : Hid (countR s.L s.es a k = countV s.L s.es a k ∧ countE s.L a k = laidErr s.L a k) := Lib.hid (by unfold countR countE; rw [if_neg hk, if_neg hk]; exact ⟨rfl, rfl⟩)
    go_enter Tryz.func126, Tryz.ntmps126
    go_wp2_with fail
    refine (count_any s.L p n cap s.es a k _ g HN.out HE.out ha).mono ?_
    rintro e w1 ⟨rfl, hb1⟩
    go_wp2_with fail
    go_ret2
    exact ⟨by rw [HR.out.1, HR.out.2]; rfl, hb1⟩

/-- is the next Commit that would be OK refused; how it stands behind that -/
def refB (s : ASt) : Bool := s.rf && decide (s.lf = 0)
def refS (s : ASt) : ASt := if s.rf then (if s.lf = 0 then { s with rf := false } else { s with lf := s.lf - 1 }) else s
theorem headed {s' : ASt} {w' : World} (h : ArX A s P ps p n cap w) (hL : s'.L = s.L) (he : s'.es = s.es) (hm : s'.mm = s.mm) (hl : s'.lf ≤ 9223372036854775807)
    (hs : w'.heap.size = w.heap.size) (ht : w'.tape = w.tape) (ho2 : w'.os = w.os) (ho3 : w'.output = w.output) (hA : w'.heap[A]? = some (.cells (headV s' P p n cap) 89 (0, 0))) (ho : ∀ k, k ≠ A → w'.heap[k]? = w.heap[k]?) :
    ArX A s' P ps p n cap w' ∧ Step A P ps ps w w' := by
  refine ⟨{ h with
    good := by rw [hL, he]; exact h.good
    len := by rw [hL]; exact h.len
    hd := hA
    row := (ho P (Ne.symm h.ap)).trans h.row
    pg := fun i b hb => by rw [hm]; exact (ho b (h.apg i b hb).1).trans (h.pg i b hb)
    no := fun i hi j hj => by rw [hm]; exact h.no i hi j hj
    un := fun i b hb => by rw [he]; exact h.un i b hb
    edges := by rw [he]; exact h.edges.keep fun b off e => ho b (h.eap b off e).1
    num := by rw [he]; exact h.num
    lfb := hl }, ho2, ?_, ?_, by omega, fun k _ hk => ho k fun e => hk (.inl e), fun i b hb => .inl hb⟩
  · exact ht
  · exact ho3
theorem refuses_any (h : ArX A s P ps p n cap w) :
    Calls Tryz.prog 127 #[.pointer (some ⟨A, 0, none⟩)] w fun e w' => e = .returned (.bool (refB s)) ∧ ArX A (refS s) P ps p n cap w' ∧ Step A P ps ps w w' := by
  obtain ⟨c0, c1, c2, c3, c4⟩ := h.head
  have hl := h.lfb
  have f2 := h.free 3
  have f4 := h.free 4
  have hd := Lib.hid h.hd
  cases hr : s.rf with
  | false =>
    have HR : Hid (refB s = false ∧ refS s = s) := Lib.hid (by unfold refB refS; rw [hr]; exact ⟨rfl, rfl⟩)
    rw [hr] at c3
    have HH := Lib.hid h
    clear h hr
    go_enter Tryz.func127, Tryz.ntmps127
    go_wp2_with fail
    go_ret
    exact ⟨by rw [HR.out.1]; rfl, by rw [HR.out.2]; exact HH.out, Step.refl _ _ _ _⟩
  | true =>
    rw [hr] at c3
    by_cases h0 : s.lf = 0
    · have HR : Hid (refB s = true ∧ refS s = { s with rf := false }) := Lib.hid (by unfold refB refS; rw [hr, if_pos rfl, if_pos h0, h0]; exact ⟨rfl, rfl⟩)
      have hz : ((s.lf : Nat) : Int) = 0 := by omega
      have hz2 : ¬ (0 : Int) < s.lf := by omega
      have HL := Lib.hid h0
      have HF : Hid (ArX A { s with rf := false } P ps p n cap (w.setCell ⟨A, 3, none⟩ (.bool false)) ∧ Step A P ps ps w (w.setCell ⟨A, 3, none⟩ (.bool false))) := Lib.hid
        (headed h rfl rfl rfl hl (set_size _ _ _) rfl rfl rfl (by rw [heap_set h.hd]; rfl) fun k hk => Below.heap_setCell _ _ _ _ (by exact hk))
      clear h hr h0 hz
      go_enter Tryz.func127, Tryz.ntmps127
      go_wp2_with fail
      go_ret
      exact ⟨by rw [HR.out.1]; rfl, by rw [HR.out.2]; exact HF.out.1, HF.out.2⟩
    · have HR : Hid (refB s = false ∧ refS s = { s with lf := s.lf - 1 }) := Lib.hid (by unfold refB refS; rw [hr, if_pos rfl, if_neg h0, decide_eq_false h0]; exact ⟨rfl, rfl⟩)
      have hz2 : (0 : Int) < s.lf := by omega
      have HF : Hid (ArX A { s with lf := s.lf - 1 } P ps p n cap (w.setCell ⟨A, 4, none⟩ (.int .i64 ((s.lf : Int) - 1))) ∧ Step A P ps ps w (w.setCell ⟨A, 4, none⟩ (.int .i64 ((s.lf : Int) - 1)))) := Lib.hid
        (headed h rfl rfl rfl (by show s.lf - 1 ≤ _; omega) (set_size _ _ _) rfl rfl rfl (by rw [heap_set h.hd, show ((s.lf : Int) - 1) = ((s.lf - 1 : Nat) : Int) from by omega]; rfl) fun k hk => Below.heap_setCell _ _ _ _ (by exact hk))
      clear h hr h0
      go_enter Tryz.func127, Tryz.ntmps127
      go_wp2_with fail
      go_ret
      exact ⟨by rw [HR.out.1]; rfl, by rw [HR.out.2]; exact HF.out.1, HF.out.2⟩
end
end Go.Proofs.YtbeldoiaecjkgaaGreatDoor.Bt
end
section
namespace Go.Proofs.YtbeldoiaecjkgaaGreatDoor.Bt
open Go Go.RowKit Go.Shelf
set_option linter.unusedVariables false

def commitE (s : ASt) (a k : Int) : Int := if countE s.L a k ≠ 0 then countE s.L a k else if 0 < countR s.L s.es a k then 9 else if refB s then 4 else 0
def commitS (s : ASt) (a k : Int) : ASt :=
  if countE s.L a k ≠ 0 ∨ 0 < countR s.L s.es a k then s else if refB s then refS s else { refS s with es := laidS s.L s.es a k true }
theorem refS_L (s : ASt) : (refS s).L = s.L := by unfold refS; split; split <;> rfl; rfl
theorem refS_es (s : ASt) : (refS s).es = s.es := by unfold refS; split; split <;> rfl; rfl
theorem refS_mm (s : ASt) : (refS s).mm = s.mm := by unfold refS; split; split <;> rfl; rfl
theorem mem_laidS {L : Nat} {es : List Nat} (g : Good L es) {fr k : Int} {inn : Bool} (hw : withinB L fr k = true) (i : Int) :
    mem (laidS L es fr k inn) i = if fr ≤ i ∧ i < fr + k then inn else mem es i := by
  have hw' : 0 ≤ fr ∧ 0 ≤ k ∧ k ≤ L - fr := by simpa [withinB] using hw
  unfold laidS
  by_cases h0 : k = 0
  · subst h0; simp; omega
  · rw [hw, decide_eq_true h0]
    simp only [Bool.and_self, if_true]
    rw [mem_laid g.rising]
    have e1 : ((fr.toNat : Nat) : Int) = fr := by omega
    have e2 : ((k.toNat : Nat) : Int) = k := by omega
    rw [e1, e2]
section
variable {A P n cap : Nat} {s : ASt} {ps : List (Option Nat)} {p : Option Addr} {w : World}

theorem held_set {w1 : World} {p' : Option Addr} {n' cap' : Nat} {es' : List Nat} (h : ArX A s P ps p n cap w) (hb : Below w.heap.size w w1) (g : Good s.L es') (hn : n' = es'.length) (hc : n' ≤ cap') (hp : p' = none → cap' = 0)
    (hr : RowAt w1 p' es') (ha : p' = p ∨ ∃ a, p' = some a ∧ w.heap.size ≤ a.block) (hu : ∀ i b : Nat, ps[i]? = some (some b) → mem es' (i : Int) = true) :
    ArX A { s with es := es' } P ps p' n' cap' ((w1.setCell ⟨A, 0, none⟩ (.int .i64 (s.L : Int))).setCell ⟨A, 1, none⟩ (.slice p' n' cap')) ∧
    Step A P ps ps w ((w1.setCell ⟨A, 0, none⟩ (.int .i64 (s.L : Int))).setCell ⟨A, 1, none⟩ (.slice p' n' cap')) ∧ (∀ b off, p' = some ⟨b, off, none⟩ → p' = p ∨ w.heap.size ≤ b) := by
  have hA := h.ltA
  have h1 := h.below hb
  have ho : ∀ k, k ≠ A → ((w1.setCell ⟨A, 0, none⟩ (.int .i64 (s.L : Int))).setCell ⟨A, 1, none⟩ (.slice p' n' cap')).heap[k]? = w1.heap[k]? := fun k hk => heap_two _ _ _ _ _ hk
  have hap : ∀ b off, p' = some ⟨b, off, none⟩ → b ≠ A ∧ b ≠ P ∧ ∀ i : Nat, ps[i]? ≠ some (some b) := fun b off e => by
    rcases ha with h2 | ⟨a, h2, h3⟩
    · rw [h2] at e; exact h.eap b off e
    · rw [e] at h2; cases h2
      have h4 : w.heap.size ≤ b := h3
      exact ⟨by omega, by have := h.ltP; omega, fun i hi => by have := h.ltG hi; omega⟩
  refine ⟨{ h1 with
    good := g
    hd := ?_
    row := (ho P (Ne.symm h.ap)).trans h1.row
    pg := fun i b hb => (ho b (h.apg i b hb).1).trans (h1.pg i b hb)
    un := hu
    edges := hr.keep fun b off e => ho b (hap b off e).1
    num := hn
    room := hc
    nil := hp
    eap := hap }, ⟨hb.os, hb.tape, hb.output, ?_, fun k hk hn => (ho k fun e => hn (.inl e)).trans (hb.block k hk), fun i b hb => .inl hb⟩, fun b off e => ?_⟩
  · rw [heap_set (heap_set h1.hd _)]; rfl
  · rw [set_size, set_size]; exact hb.size
  · rcases ha with h2 | ⟨a, h2, h3⟩
    · exact .inl h2
    · rw [e] at h2; cases h2; exact .inr h3

theorem commit_nil (a k : Int) (w : World) : Calls Tryz.prog 60 #[.pointer none, .int .i64 a, .int .i64 k] w fun e w' => e = .returned (.int .i64 1) ∧ w = w' := by
  go_enter Tryz.func60, Tryz.ntmps60
  go_wp2_with fail
  refine (acount_nil a k _).mono ?_
  rintro e w1 ⟨rfl, rfl⟩
  go_wp2_with fail
  go_ret
  exact ⟨rfl, rfl⟩

theorem commit_any (h : ArX A s P ps p n cap w) (a k : Int) (ha : a ≤ 9223372036854775807) :
    Calls Tryz.prog 60 #[.pointer (some ⟨A, 0, none⟩), .int .i64 a, .int .i64 k] w fun e w' => e = .returned (.int .i64 (commitE s a k)) ∧ Turned A P ps p (commitS s a k) w w' := by
  have HC := fun w (hw : ArX A s P ps p n cap w) => acount_any hw a k ha
  by_cases h1 : countE s.L a k = 0
  · by_cases h2 : 0 < countR s.L s.es a k
    · have HE : Hid (commitE s a k = 9 ∧ commitS s a k = s) := Lib.hid (by unfold commitE commitS; rw [if_neg (by simpa using h1), if_pos h2, if_pos (.inr h2)]; exact ⟨rfl, rfl⟩)
      have H1 := Lib.hid h1; clear h1
      have HF := Lib.hid h
      go_enter Tryz.func60, Tryz.ntmps60
      go_wp2_with fail
      refine (HC _ h).mono ?_
      rintro e w1 ⟨rfl, hb⟩
      rw [H1.out]
      generalize countR s.L s.es a k = c at *
      clear h
      go_wp2_with fail
      go_ret
      exact ⟨by rw [HE.out.1]; rfl, by rw [HE.out.2]; exact ⟨ps, p, n, cap, HF.out.below hb, Step.of_below hb, fun _ _ _ => .inl rfl⟩⟩
    · have hno : ¬ (countE s.L a k ≠ 0 ∨ 0 < countR s.L s.es a k) := by rintro (h | h); exact h h1; exact h2 h
      have H1 := Lib.hid h1
      have H2 := Lib.hid h2
      have HF := Lib.hid h
      cases hr : refB s with
      | true =>
        have HE : Hid (commitE s a k = 4 ∧ commitS s a k = refS s) := Lib.hid (by
          unfold commitE commitS; rw [if_neg (by simpa using h1), if_neg h2, if_neg hno, hr]; exact ⟨rfl, rfl⟩)
        clear h1 hno
        go_enter Tryz.func60, Tryz.ntmps60
        go_wp2_with fail
        refine (HC _ h).mono ?_
        rintro e w1 ⟨rfl, hb⟩
        rw [H1.out]
        have h' := HF.out.below hb
        have HR := fun (hw : ArX A s P ps p n cap w1) => refuses_any hw
        rw [hr] at HR
        clear hr
        generalize countR s.L s.es a k = c at *
        clear h
        go_wp2_with fail
        refine (HR h').mono ?_
        rintro e w2 ⟨rfl, hx, hst⟩
        clear h'
        go_wp2_with fail
        go_ret
        exact ⟨by rw [HE.out.1]; rfl, by rw [HE.out.2]; exact ⟨ps, p, n, cap, hx, (Step.of_below hb).trans hst, fun _ _ _ => .inl rfl⟩⟩
      | false =>
        have hk : ¬ k < 1 := fun hk => by unfold countE at h1; rw [if_pos hk] at h1; cases h1
        have hw : withinB s.L a k = true := by
          unfold countE laidErr at h1; rw [if_neg hk] at h1
          cases hq : withinB s.L a k with
          | true => rfl
          | false => rw [hq] at h1; cases h1
        have HE : Hid (commitE s a k = 0 ∧ commitS s a k = { refS s with es := laidS s.L s.es a k true } ∧ laidErr s.L a k = 0) := Lib.hid (by
          unfold commitE commitS laidErr; rw [if_neg (by simpa using h1), if_neg h2, if_neg hno, hr, hw]; exact ⟨rfl, rfl, rfl⟩)
        clear h1 hno
        go_enter Tryz.func60, Tryz.ntmps60
        go_wp2_with fail
        refine (HC _ h).mono ?_
        rintro e w1 ⟨rfl, hb⟩
        rw [H1.out]
        have h' := HF.out.below hb
        have HR := fun (hw : ArX A s P ps p n cap w1) => refuses_any hw
        rw [hr] at HR
        clear hr
        generalize countR s.L s.es a k = c at *
        clear h
        go_wp2_with fail
        refine (HR h').mono ?_
        rintro e w2 ⟨rfl, hx, hst⟩
        clear h' HR
        obtain ⟨c0, c1, c2, c3, c4⟩ := hx.head
        rw [refS_L] at c0 c2
        have g := hx.good; have hed := hx.edges; have hnm := hx.num
        rw [refS_L, refS_es] at g; rw [refS_es] at hed hnm
        have HN := Lib.hid hnm; have HP := Lib.hid hx.nil; have HX := Lib.hid hx; have hcp := hx.room
        have HED := Lib.hid hed
        clear hed hnm hx
        go_wp2_with fail
        refine (with_any s.L p n cap s.es a k _ g HED.out HN.out hcp HP.out ha).mono ?_
        rintro e w3 ⟨p', n', cap', rfl, hn', hc', hp', hr', ha', hb3⟩
        have HS := Lib.hid (held_set (es' := laidS s.L s.es a k true) HX.out hb3 (by rw [refS_L]; exact laidS_good g _ _ _) hn' hc' hp' hr' ha' (fun i b hib => by
          have hu := HX.out.un i b hib
          rw [refS_es] at hu
          rw [mem_laidS g hw]; split
          · rfl
          · exact hu))
        rw [HE.out.2.2]
        have hx3 := HX.out.below hb3
        obtain ⟨d0, d1, _, _, _⟩ := hx3.head
        have f0 := hx3.free 0; have f1 := hx3.free 1
        clear hn' hp' hx3 c0 c1 c2 c3 c4
        go_wp2_with fail
        go_ret
        have hLe : ((refS s).L : Int) = (s.L : Int) := by rw [refS_L]
        rw [hLe] at HS
        exact ⟨by rw [HE.out.1]; rfl, by rw [HE.out.2.1]; exact ⟨ps, p', n', cap', HS.out.1, ((Step.of_below hb).trans hst).trans HS.out.2.1, fun b off e => by
          rcases HS.out.2.2 b off e with h | h
          · exact .inl h
          · exact .inr (Nat.le_trans (Nat.le_trans hb.size hst.size) h)⟩⟩
  · have HE : Hid (commitE s a k = countE s.L a k ∧ commitS s a k = s) := Lib.hid (by unfold commitE commitS; rw [if_pos h1, if_pos (.inl h1)]; exact ⟨rfl, rfl⟩)
    have hb0 : (countE s.L a k != 0) = true := by rw [bne_iff_ne]; exact h1
    have HF := Lib.hid h
    clear h1
    go_enter Tryz.func60, Tryz.ntmps60
    go_wp2_with fail
    refine (HC _ h).mono ?_
    rintro e w1 ⟨rfl, hb⟩
    generalize countE s.L a k = ce at *
    clear h
    go_wp2_with fail
    go_ret
    exact ⟨by rw [HE.out.1]; rfl, by rw [HE.out.2]; exact ⟨ps, p, n, cap, HF.out.below hb, Step.of_below hb, fun _ _ _ => .inl rfl⟩⟩
end
end Go.Proofs.YtbeldoiaecjkgaaGreatDoor.Bt
end
