/- The contracts of Commit, Has, Committed, Refuse: what each returns, and what it turns. -/
import Derived.Test.YtmnhpmgffhpoeaaGreatArWalksC
namespace Go.Proofs.YtmnhpmgffhpoeaaGreat.Bt
open Go Go.RowKit Go.Shelf
set_option linter.unusedVariables false

def commitE (s : ASt) (a k : Int) : Int := if countE s.L a k ≠ 0 then countE s.L a k else if 0 < countR s.L s.es a k then 9 else if refB s then 4 else 0
def commitS (s : ASt) (a k : Int) : ASt :=
  if countE s.L a k ≠ 0 ∨ 0 < countR s.L s.es a k then s else if refB s then refS s else { refS s with es := laidS s.L s.es a k true }
theorem refS_L (s : ASt) : (refS s).L = s.L := by unfold refS; split; split <;> rfl; rfl
theorem refS_es (s : ASt) : (refS s).es = s.es := by unfold refS; split; split <;> rfl; rfl
theorem refS_mm (s : ASt) : (refS s).mm = s.mm := by unfold refS; split; split <;> rfl; rfl
theorem mem_laidS {L : Nat} {es : List Nat} (g : Good L es) {fr k : Int} {inn : Bool} (hw : withinB L fr k = true) (i : Int) :
    mem (laidS L es fr k inn) i = if fr ≤ i ∧ i < fr + k then inn else mem es i := by
  have hw' : 0 ≤ fr ∧ 0 ≤ k ∧ k ≤ L - fr := by simpa [withinB] using hw
  unfold laidS
  by_cases h0 : k = 0
  · subst h0; simp; omega
  · rw [hw, decide_eq_true h0]
    simp only [Bool.and_self, if_true]
    rw [mem_laid g.rising]
    have e1 : ((fr.toNat : Nat) : Int) = fr := by omega
    have e2 : ((k.toNat : Nat) : Int) = k := by omega
    rw [e1, e2]
section
variable {A P n cap : Nat} {s : ASt} {ps : List (Option Nat)} {p : Option Addr} {w : World}

theorem held_set {w1 : World} {p' : Option Addr} {n' cap' : Nat} {es' : List Nat} (h : ArX A s P ps p n cap w) (hb : Below w.heap.size w w1) (g : Good s.L es') (hn : n' = es'.length) (hc : n' ≤ cap') (hp : p' = none → cap' = 0)
    (hr : RowAt w1 p' es') (ha : p' = p ∨ ∃ a, p' = some a ∧ w.heap.size ≤ a.block) (hu : ∀ i b : Nat, ps[i]? = some (some b) → mem es' (i : Int) = true) :
    ArX A { s with es := es' } P ps p' n' cap' ((w1.setCell ⟨A, 0, none⟩ (.int .i64 (s.L : Int))).setCell ⟨A, 1, none⟩ (.slice p' n' cap')) ∧
    Step A P ps ps w ((w1.setCell ⟨A, 0, none⟩ (.int .i64 (s.L : Int))).setCell ⟨A, 1, none⟩ (.slice p' n' cap')) ∧ (∀ b off, p' = some ⟨b, off, none⟩ → p' = p ∨ w.heap.size ≤ b) := by
  have hA := h.ltA
  have h1 := h.below hb
  have ho : ∀ k, k ≠ A → ((w1.setCell ⟨A, 0, none⟩ (.int .i64 (s.L : Int))).setCell ⟨A, 1, none⟩ (.slice p' n' cap')).heap[k]? = w1.heap[k]? := fun k hk => heap_two _ _ _ _ _ hk
  have hap : ∀ b off, p' = some ⟨b, off, none⟩ → b ≠ A ∧ b ≠ P ∧ ∀ i : Nat, ps[i]? ≠ some (some b) := fun b off e => by
    rcases ha with h2 | ⟨a, h2, h3⟩
    · rw [h2] at e; exact h.eap b off e
    · rw [e] at h2; cases h2
      have h4 : w.heap.size ≤ b := h3
      exact ⟨by omega, by have := h.ltP; omega, fun i hi => by have := h.ltG hi; omega⟩
  refine ⟨{ h1 with
    good := g
    hd := ?_
    row := (ho P (Ne.symm h.ap)).trans h1.row
    pg := fun i b hb => (ho b (h.apg i b hb).1).trans (h1.pg i b hb)
    un := hu
    edges := hr.keep fun b off e => ho b (hap b off e).1
    num := hn
    room := hc
    nil := hp
    eap := hap }, ⟨hb.os, hb.tape, hb.output, ?_, fun k hk hn => (ho k fun e => hn (.inl e)).trans (hb.block k hk), fun i b hb => .inl hb⟩, fun b off e => ?_⟩
  · rw [heap_set (heap_set h1.hd _)]; rfl
  · rw [set_size, set_size]; exact hb.size
  · rcases ha with h2 | ⟨a, h2, h3⟩
    · exact .inl h2
    · rw [e] at h2; cases h2; exact .inr h3

theorem commit_nil (a k : Int) (w : World) : Calls Tryz.prog 24 #[.pointer none, .int .i64 a, .int .i64 k] w fun e w' => e = .returned (.int .i64 1) ∧ w = w' := by
  go_enter Tryz.func24, Tryz.ntmps24
  go_wp2_with fail
  refine (acount_nil a k _).mono ?_
  rintro e w1 ⟨rfl, rfl⟩
  go_wp2_with fail
  go_ret
  exact ⟨rfl, rfl⟩

theorem commit_any (h : ArX A s P ps p n cap w) (a k : Int) (ha : a ≤ 9223372036854775807) :
    Calls Tryz.prog 24 #[.pointer (some ⟨A, 0, none⟩), .int .i64 a, .int .i64 k] w fun e w' => e = .returned (.int .i64 (commitE s a k)) ∧ Turned A P ps p (commitS s a k) w w' := by
  have HC := fun w (hw : ArX A s P ps p n cap w) => acount_any hw a k ha
  by_cases h1 : countE s.L a k = 0
  · by_cases h2 : 0 < countR s.L s.es a k
    · have HE : Hid (commitE s a k = 9 ∧ commitS s a k = s) := Lib.hid (by unfold commitE commitS; rw [if_neg (by simpa using h1), if_pos h2, if_pos (.inr h2)]; exact ⟨rfl, rfl⟩)
      have H1 := Lib.hid h1; clear h1
      have HF := Lib.hid h
      go_enter Tryz.func24, Tryz.ntmps24
      go_wp2_with fail
      refine (HC _ h).mono ?_
      rintro e w1 ⟨rfl, hb⟩
      rw [H1.out]
      generalize countR s.L s.es a k = c at *
      clear h
      go_wp2_with fail
      go_ret
      exact ⟨by rw [HE.out.1]; rfl, by rw [HE.out.2]; exact ⟨ps, p, n, cap, HF.out.below hb, Step.of_below hb, fun _ _ _ => .inl rfl⟩⟩
    · have hno : ¬ (countE s.L a k ≠ 0 ∨ 0 < countR s.L s.es a k) := by rintro (h | h); exact h h1; exact h2 h
      have H1 := Lib.hid h1
      have H2 := Lib.hid h2
      have HF := Lib.hid h
      cases hr : refB s with
      | true =>
        have HE : Hid (commitE s a k = 4 ∧ commitS s a k = refS s) := Lib.hid (by
          unfold commitE commitS; rw [if_neg (by simpa using h1), if_neg h2, if_neg hno, hr]; exact ⟨rfl, rfl⟩)
        clear h1 hno
        go_enter Tryz.func24, Tryz.ntmps24
        go_wp2_with fail
        refine (HC _ h).mono ?_
        rintro e w1 ⟨rfl, hb⟩
        rw [H1.out]
        have h' := HF.out.below hb
        have HR := fun (hw : ArX A s P ps p n cap w1) => refuses_any hw
        rw [hr] at HR
        clear hr
        generalize countR s.L s.es a k = c at *
        clear h
        go_wp2_with fail
        refine (HR h').mono ?_
        rintro e w2 ⟨rfl, hx, hst⟩
        clear h'
        go_wp2_with fail
        go_ret
        exact ⟨by rw [HE.out.1]; rfl, by rw [HE.out.2]; exact ⟨ps, p, n, cap, hx, (Step.of_below hb).trans hst, fun _ _ _ => .inl rfl⟩⟩
      | false =>
        have hk : ¬ k < 1 := fun hk => by unfold countE at h1; rw [if_pos hk] at h1; cases h1
        have hw : withinB s.L a k = true := by
          unfold countE laidErr at h1; rw [if_neg hk] at h1
          cases hq : withinB s.L a k with
          | true => rfl
          | false => rw [hq] at h1; cases h1
        have HE : Hid (commitE s a k = 0 ∧ commitS s a k = { refS s with es := laidS s.L s.es a k true } ∧ laidErr s.L a k = 0) := Lib.hid (by
          unfold commitE commitS laidErr; rw [if_neg (by simpa using h1), if_neg h2, if_neg hno, hr, hw]; exact ⟨rfl, rfl, rfl⟩)
        clear h1 hno
        go_enter Tryz.func24, Tryz.ntmps24
        go_wp2_with fail
        refine (HC _ h).mono ?_
        rintro e w1 ⟨rfl, hb⟩
        rw [H1.out]
        have h' := HF.out.below hb
        have HR := fun (hw : ArX A s P ps p n cap w1) => refuses_any hw
        rw [hr] at HR
        clear hr
        generalize countR s.L s.es a k = c at *
        clear h
        go_wp2_with fail
        refine (HR h').mono ?_
        rintro e w2 ⟨rfl, hx, hst⟩
        clear h' HR
        obtain ⟨c0, c1, c2, c3, c4⟩ := hx.head
        rw [refS_L] at c0 c2
        have g := hx.good; have hed := hx.edges; have hnm := hx.num
        rw [refS_L, refS_es] at g; rw [refS_es] at hed hnm
        have HN := Lib.hid hnm; have HP := Lib.hid hx.nil; have HX := Lib.hid hx; have hcp := hx.room
        have HED := Lib.hid hed
        clear hed hnm hx
        go_wp2_with fail
        refine (with_any s.L p n cap s.es a k _ g HED.out HN.out hcp HP.out ha).mono ?_
        rintro e w3 ⟨p', n', cap', rfl, hn', hc', hp', hr', ha', hb3⟩
        have HS := Lib.hid (held_set (es' := laidS s.L s.es a k true) HX.out hb3 (by rw [refS_L]; exact laidS_good g _ _ _) hn' hc' hp' hr' ha' (fun i b hib => by
          have hu := HX.out.un i b hib
          rw [refS_es] at hu
          rw [mem_laidS g hw]; split
          · rfl
          · exact hu))
        rw [HE.out.2.2]
        have hx3 := HX.out.below hb3
        obtain ⟨d0, d1, _, _, _⟩ := hx3.head
        have f0 := hx3.free 0; have f1 := hx3.free 1
        clear hn' hp' hx3 c0 c1 c2 c3 c4
        go_wp2_with fail
        go_ret
        have hLe : ((refS s).L : Int) = (s.L : Int) := by rw [refS_L]
        rw [hLe] at HS
        exact ⟨by rw [HE.out.1]; rfl, by rw [HE.out.2.1]; exact ⟨ps, p', n', cap', HS.out.1, ((Step.of_below hb).trans hst).trans HS.out.2.1, fun b off e => by
          rcases HS.out.2.2 b off e with h | h
          · exact .inl h
          · exact .inr (Nat.le_trans (Nat.le_trans hb.size hst.size) h)⟩⟩
  · have HE : Hid (commitE s a k = countE s.L a k ∧ commitS s a k = s) := Lib.hid (by unfold commitE commitS; rw [if_pos h1, if_pos (.inl h1)]; exact ⟨rfl, rfl⟩)
    have hb0 : (countE s.L a k != 0) = true := by rw [bne_iff_ne]; exact h1
    have HF := Lib.hid h
    clear h1
    go_enter Tryz.func24, Tryz.ntmps24
    go_wp2_with fail
    refine (HC _ h).mono ?_
    rintro e w1 ⟨rfl, hb⟩
    generalize countE s.L a k = ce at *
    clear h
    go_wp2_with fail
    go_ret
    exact ⟨by rw [HE.out.1]; rfl, by rw [HE.out.2]; exact ⟨ps, p, n, cap, HF.out.below hb, Step.of_below hb, fun _ _ _ => .inl rfl⟩⟩
end
end Go.Proofs.YtmnhpmgffhpoeaaGreat.Bt
