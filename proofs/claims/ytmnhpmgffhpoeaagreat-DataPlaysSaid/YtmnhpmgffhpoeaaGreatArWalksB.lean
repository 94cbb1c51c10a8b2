/- The contracts of an arena's number, laid: what each returns, and what it turns. -/
import Derived.Test.YtmnhpmgffhpoeaaGreatArWalksA
namespace Go.Proofs.YtmnhpmgffhpoeaaGreat.Bt
open Go Go.RowKit

def wholeB (k : Int) : Bool := k == 1 || k == 2 || k == 4 || k == 8
def numE (L : Nat) (es : List Nat) (a k : Int) : Int := if wholeB k then thereE L es a k else 2
theorem whole_cases {k : Int} (h : wholeB k = true) : k = 1 ∨ k = 2 ∨ k = 4 ∨ k = 8 := by
  unfold wholeB at h; simpa [or_assoc] using h
set_option maxRecDepth 1000000 in
theorem zero_page : Tryz.zeroCells79 = pgCells (fun _ => 0) 0 := by kernel_rfl
section
variable {A P n cap : Nat} {s : ASt} {ps : List (Option Nat)} {p : Option Addr} {w : World}

theorem number_nil (a k : Int) (w : World) : Calls Tryz.prog 82 #[.pointer none, .int .i64 a, .int .i64 k] w fun e w' => e = .returned (.int .i64 1) ∧ w = w' := by
  go_enter Tryz.func82, Tryz.ntmps82
  go_wp2_with fail
  go_ret
  exact ⟨rfl, rfl⟩
theorem number_any (h : ArX A s P ps p n cap w) (a k : Int) (ha : a ≤ 9223372036854775807) :
    Calls Tryz.prog 82 #[.pointer (some ⟨A, 0, none⟩), .int .i64 a, .int .i64 k] w fun e w' => e = .returned (.int .i64 (numE s.L s.es a k)) ∧ Below w.heap.size w w' := by
  by_cases h1 : k = 1 ∨ k = 2 ∨ k = 4 ∨ k = 8
  · have HT := fun w (hw : ArX A s P ps p n cap w) => there_any hw a k ha
    rcases h1 with rfl | rfl | rfl | rfl
    all_goals
      go_enter Tryz.func82, Tryz.ntmps82
      go_wp2_with fail
      refine (HT _ h).mono ?_
      rintro e w1 ⟨rfl, hb⟩
      go_wp2_with fail
      go_ret
      exact ⟨rfl, hb⟩
  · have b1 : (k != 1) = true := by rw [bne_iff_ne]; omega
    have b2 : (k != 2) = true := by rw [bne_iff_ne]; omega
    have b4 : (k != 4) = true := by rw [bne_iff_ne]; omega
    have b8 : (k != 8) = true := by rw [bne_iff_ne]; omega
    have HR : Hid (numE s.L s.es a k = 2) := Lib.hid (by unfold numE wholeB; rw [if_neg]; simp; omega)
    clear h1
    go_enter Tryz.func82, Tryz.ntmps82
    go_wp2_with fail
    go_ret
    exact ⟨by rw [HR.out]; rfl, Below.refl _ _⟩

theorem laid_old (h : ArX A s P ps p n cap w) (i b : Nat) (hi : i < s.L) (hb : ps[i]? = some (some b)) :
    Calls Tryz.prog 33 #[.pointer (some ⟨A, 0, none⟩), .int .i64 (i : Int)] w fun e w' => e = .returned (.pointer (some ⟨b, 0, none⟩)) ∧ w = w' := by
  obtain ⟨c0, c1, c2, c3, c4⟩ := h.head
  have hs := h.slot hb
  have hg := h.good.small
  simp only [ptrV] at hs
  have hi' : (i : Int) < s.L := by omega
  clear h hb
  go_enter Tryz.func33, Tryz.ntmps33
  go_wp2_with fail
  go_ret
  exact ⟨rfl, rfl⟩
theorem laid_world (h : ArX A s P ps p n cap w) (i : Nat) (hb : ps[i]? = some none) (hm : mem s.es i = true) (w' : World)
    (hw : (w.setCell ⟨P, i, none⟩ (.pointer (some ⟨w.heap.size, 0, none⟩))).alloc (.cells Tryz.zeroCells79 79) = w') :
    ArX A s P (ps.set i (some w.heap.size)) p n cap w' ∧ Step A P ps (ps.set i (some w.heap.size)) w w' := by
  have hP := h.ltP; have hA := h.ltA
  have hil : i < ps.length := (List.getElem?_eq_some_iff.1 hb).1
  have hsz : w'.heap.size = w.heap.size + 1 := by rw [← hw]; simp
  have ho : ∀ k, k < w.heap.size → k ≠ P → w'.heap[k]? = w.heap[k]? := fun k hk hkP => by
    rw [← hw, Below.heap_alloc _ _ _ (by rw [set_size]; exact hk), Below.heap_setCell _ _ _ _ (by exact hkP)]
  have hnew : w'.heap[w.heap.size]? = some (.cells Tryz.zeroCells79 79 (0, 0)) := by
    rw [← hw]; have := heap_new (w.setCell ⟨P, i, none⟩ (.pointer (some ⟨w.heap.size, 0, none⟩))) (.cells Tryz.zeroCells79 79)
    rw [set_size] at this; exact this
  have hget : ∀ (j b : Nat), (ps.set i (some w.heap.size))[j]? = some (some b) → (j = i ∧ b = w.heap.size) ∨ (j ≠ i ∧ ps[j]? = some (some b)) := fun j b hj => by
    rw [List.getElem?_set] at hj
    by_cases e : i = j
    · subst e; rw [if_pos rfl, if_pos hil] at hj; cases hj; exact .inl ⟨rfl, rfl⟩
    · rw [if_neg e] at hj; exact .inr ⟨Ne.symm e, hj⟩
  refine ⟨{ h with
    len := by rw [List.length_set]; exact h.len
    hd := (ho A hA h.ap).trans h.hd
    row := ?_
    pg := fun j b hj => ?_
    no := fun j hj k hk => ?_
    un := fun j b hj => ?_
    edges := h.edges.keep fun b off e => ho b (h.ltE e) (h.eap b off e).2.1
    apg := fun j b hj => ?_
    one := fun j k b hj hk => ?_
    eap := fun b off e => ⟨(h.eap b off e).1, (h.eap b off e).2.1, fun j hj => ?_⟩ }, ⟨?_, ?_, ?_, by omega, fun k hk hn => ho k hk fun e => hn (.inr (.inl e)), fun j b hj => ?_⟩⟩
  · rw [← hw, Below.heap_alloc _ _ _ (by rw [set_size]; exact hP), heap_set h.row]
    show some (Obj.cells ((rowV ps).setIfInBounds i (ptrV (some w.heap.size))) _ _) = _
    rw [rowV_set]
  · rcases hget j b hj with ⟨rfl, rfl⟩ | ⟨hne, hj'⟩
    · rw [hnew, zero_page]
      have e : pgCells (fun _ => 0) 0 = pgCells s.mm j := by
        unfold pgCells
        exact congrArg List.toArray (List.map_congr_left fun k hk => by rw [h.no j hb k (List.mem_range.1 hk)])
      rw [e]
    · exact (ho b (h.ltG hj') (h.apg j b hj').2).trans (h.pg j b hj')
  · refine h.no j ?_ k hk
    rw [List.getElem?_set] at hj
    by_cases e : i = j
    · subst e; rw [if_pos rfl, if_pos hil] at hj; cases hj
    · rw [if_neg e] at hj; exact hj
  · rcases hget j b hj with ⟨rfl, rfl⟩ | ⟨hne, hj'⟩
    · exact hm
    · exact h.un j b hj'
  · rcases hget j b hj with ⟨rfl, rfl⟩ | ⟨hne, hj'⟩
    · omega
    · exact h.apg j b hj'
  · rcases hget j b hj with ⟨rfl, rfl⟩ | ⟨hne, hj'⟩ <;> rcases hget k _ hk with ⟨rfl, hk2⟩ | ⟨hne2, hk'⟩
    · rfl
    · have := h.ltG hk'; omega
    · subst hk2; have := h.ltG hj'; omega
    · exact h.one j k b hj' hk'
  · rcases hget j b hj with ⟨rfl, rfl⟩ | ⟨hne, hj'⟩
    · have := h.ltE e; omega
    · exact (h.eap b off e).2.2 j hj'
  · rw [← hw]; rfl
  · rw [← hw]; rfl
  · rw [← hw]; rfl
  · rcases hget j b hj with ⟨rfl, rfl⟩ | ⟨hne, hj'⟩
    · exact .inr (Nat.le_refl _)
    · exact .inl hj'
theorem laid_new (h : ArX A s P ps p n cap w) (i : Nat) (hi : i < s.L) (hb : ps[i]? = some none) (hm : mem s.es i = true) :
    Calls Tryz.prog 33 #[.pointer (some ⟨A, 0, none⟩), .int .i64 (i : Int)] w fun e w' => e = .returned (.pointer (some ⟨w.heap.size, 0, none⟩)) ∧
      ArX A s P (ps.set i (some w.heap.size)) p n cap w' ∧ Step A P ps (ps.set i (some w.heap.size)) w w' := by
  obtain ⟨c0, c1, c2, c3, c4⟩ := h.head
  have hs := h.slot hb
  have hg := h.good.small
  simp only [ptrV] at hs
  have hi' : (i : Int) < s.L := by omega
  have hf := (cell_blk h.row i).2
  have hP := h.ltP; have hA := h.ltA
  have hne : A ≠ w.heap.size := by omega
  have hne2 : P ≠ w.heap.size := by omega
  have hne3 := h.ap
  go_enter Tryz.func33, Tryz.ntmps33
  go_wp2_with fail
  go_ret
  obtain ⟨z1, z2⟩ := laid_world h i hb hm _ rfl
  exact ⟨rfl, z1, z2⟩
/-- what laid comes to -/
def LaidTo (A P i : Nat) (s : ASt) (ps : List (Option Nat)) (p : Option Addr) (n cap : Nat) (w : World) (e : Ending) (w' : World) : Prop :=
  ∃ b ps', e = .returned (.pointer (some ⟨b, 0, none⟩)) ∧ ps'[i]? = some (some b) ∧ ArX A s P ps' p n cap w' ∧ Step A P ps ps' w w'
theorem laid_page (h : ArX A s P ps p n cap w) (i : Nat) (hi : i < s.L) (hm : mem s.es i = true) :
    Calls Tryz.prog 33 #[.pointer (some ⟨A, 0, none⟩), .int .i64 (i : Int)] w (LaidTo A P i s ps p n cap w) := by
  have hil : i < ps.length := by rw [h.len]; exact hi
  cases hq : ps[i]? with
  | none => rw [List.getElem?_eq_none_iff] at hq; omega
  | some q =>
    cases q with
    | some b => exact (laid_old h i b hi hq).mono fun e w' ⟨he, hw⟩ => ⟨b, ps, he, hq, hw ▸ h, hw ▸ Step.refl _ _ _ _⟩
    | none => exact (laid_new h i hi hq hm).mono fun e w' ⟨he, hx, hs⟩ => ⟨_, _, he, by rw [List.getElem?_set, if_pos rfl, if_pos hil], hx, hs⟩
end
end Go.Proofs.YtmnhpmgffhpoeaaGreat.Bt
