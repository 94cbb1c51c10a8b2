/- The contracts of the document's Within, of Put upon no set, and of done upon no set: what the program's set becomes by an act. -/
import Derived.Test.YtoineackmpafdaaBitsLay
import Derived.Test.YtoineackmpafdaaBitsEq
import Derived.Test.YtoineackmpafdaaBitsActs
namespace Go.Proofs.Ytoineackmpafdaa.Bt
open Go Go.RowKit

def wiB (len : Nat) (fr n : Int) : Bool := decide (0 ≤ fr ∧ 0 ≤ n ∧ n ≤ len ∧ fr ≤ len - n)
theorem refWithin_any (p : Option Addr) (len cap : Nat) (hl : len ≤ 9223372036854775807) (fr n : Int) (w : World) :
    Calls Try.prog 167 #[.slice p len cap, .int .i64 fr, .int .i64 n] w fun e w' => e = .returned (.bool (wiB len fr n)) ∧ w = w' := by
  by_cases h1 : 0 ≤ fr
  · by_cases h2 : 0 ≤ n
    · by_cases h3 : n ≤ len
      · have HR : Hid (wiB len fr n = decide (fr ≤ len - n)) := Lib.hid (by unfold wiB; simp [h1, h2, h3])
        go_enter Try.func167, Try.ntmps167
        go_wp2
        go_ret
        exact ⟨by rw [HR.out]; rfl, rfl⟩
      · have HR : Hid (wiB len fr n = false) := Lib.hid (by unfold wiB; simp [h3])
        have hd : decide (n ≤ (len : Int)) = false := by simpa using h3
        go_enter Try.func167, Try.ntmps167
        go_wp2
        go_ret
        exact ⟨by rw [HR.out]; rfl, rfl⟩
    · have HR : Hid (wiB len fr n = false) := Lib.hid (by unfold wiB; simp [h2])
      have hd : decide (0 ≤ n) = false := by simpa using h2
      go_enter Try.func167, Try.ntmps167
      go_wp2
      go_ret
      exact ⟨by rw [HR.out]; rfl, rfl⟩
  · have HR : Hid (wiB len fr n = false) := Lib.hid (by unfold wiB; simp [h1])
    have hd : decide (0 ≤ fr) = false := by simpa using h1
    go_enter Try.func167, Try.ntmps167
    go_wp2
    go_ret
    exact ⟨by rw [HR.out]; rfl, rfl⟩

def PutNone (w : World) (e : Ending) (w' : World) : Prop := ∃ q c t, e = .returned (.tuple #[.slice q 0 c, .int .i64 t]) ∧ Below w.heap.size w w'
theorem put_none (q : Option Addr) (c : Nat) (fr n : Int) (inn : Bool) (w : World) :
    Calls Try.prog 129 #[.slice q 0 c, .int .i64 fr, .int .i64 n, .bool inn] w (PutNone w) := by
  cases hw : wiB 0 fr n with
  | false =>
    have HW := Lib.hid hw; clear hw
    go_enter Try.func129, Try.ntmps129
    go_wp2_with fail
    refine (refWithin_any q 0 c (by omega) _ _ _).mono ?_
    rw [HW.out]
    rintro e w1 ⟨rfl, rfl⟩
    go_wp2_with fail
    go_ret2
    exact ⟨_, _, _, rfl, Below.refl _ _⟩
  | true =>
    have HW := Lib.hid hw; clear hw
    have hmk : ∀ w, (Instr.makeSlice 110 (.int .i64 0) (.int .i64 0)).run Try.prog w = .ok (.slice (some ⟨w.heap.size, 0, none⟩) 0 0) (w.alloc (.cells #[] 4)) := fun _ => by kernel_rfl
    go_enter Try.func129, Try.ntmps129
    go_wp2_with fail
    refine (refWithin_any q 0 c (by omega) _ _ _).mono ?_
    rw [HW.out]
    rintro e w1 ⟨rfl, rfl⟩
    go_wp2_with fail
    refine wp_loop_rounds 1 ?_; rw [rounds_succ]
    go_wp2_with fail
    go_ret2
    exact ⟨_, _, _, rfl, (Below.refl _ _).alloc (Nat.le_refl _) _⟩

def DonePost (L : Nat) (p : Option Addr) (es : List Nat) (a : ActL) (w : World) (e : Ending) (w' : World) : Prop :=
  ∃ p' n' cap' q c t, e = .returned (.tuple #[.agg #[.int .i64 L, .slice p' n' cap'], .slice q 0 c, .bool t]) ∧ n' = (laidS L es a.fr a.n a.inn).length ∧ n' ≤ cap' ∧ (p' = none → cap' = 0) ∧ RowAt w' p' (laidS L es a.fr a.n a.inn) ∧ (p' = p ∨ ∃ a, p' = some a ∧ w.heap.size ≤ a.block) ∧ Below w.heap.size w w'
theorem done_none (L : Nat) (p : Option Addr) (m cap : Nat) (es : List Nat) (a : ActL) (q : Option Addr) (c : Nat) (w : World) (g : Good L es) (hrow : RowAt w p es) (hm : m = es.length) (hcap : m ≤ cap) (hcn : p = none → cap = 0) (hf : a.fr ≤ 9223372036854775807) :
    Calls Try.prog 65 #[.agg #[.int .i64 L, .slice p m cap], .slice q 0 c, .agg #[.bool a.inn, .int .i64 a.fr, .int .i64 a.n]] w (DonePost L p es a w) := by
  obtain ⟨inn, fr, n⟩ := a
  have HM := Lib.hid hm; have HP := Lib.hid hcn; clear hm hcn
  have b0 : Below w.heap.size w (((w.alloc (.cells #[.int .i64 L, .slice p m cap] 107)).alloc (.cells #[.bool inn, .int .i64 fr, .int .i64 n] 113)).alloc (.cells #[.int .i64 0, .slice none 0 0] 107)) := (((Below.refl _ w).alloc (Nat.le_refl _) _).alloc (by simp) _).alloc (by simp; omega) _
  cases inn with
  | true =>
    go_enter Try.func65, Try.ntmps65
    go_wp2_with fail
    refine (with_any L p m cap es fr n _ g (hrow.below b0) HM.out hcap HP.out hf).mono ?_
    rintro e w1 ⟨p', n', cap', rfl, hn', hc', hp', hr', ha', hb⟩
    have HN := Lib.hid hn'; have HP2 := Lib.hid hp'; clear hn' hp'
    have B1 : Below w.heap.size w w1 := b0.trans (hb.mono b0.size)
    obtain ⟨hs, ha, hr⟩ := three_new w #[.int .i64 L, .slice p m cap] #[.bool true, .int .i64 fr, .int .i64 n] #[.int .i64 0, .slice none 0 0] 107 113 107
    have zs := (hb.block _ (by simp; omega)).trans hs
    have za := (hb.block _ (by simp)).trans ha
    have zr := (hb.block _ (by simp)).trans hr
    have s0 := (cell_blk zs 0).1; have s1 := (cell_blk zs 1).1; have y0 := (cell_blk zs 0).2; have y1 := (cell_blk zs 1).2
    have t0 := (cell_blk za 0).1; have t1 := (cell_blk za 1).1; have t2 := (cell_blk za 2).1
    have u0 := (cell_blk zr 0).1; have u1 := (cell_blk zr 1).1; have x0 := (cell_blk zr 0).2; have x1 := (cell_blk zr 1).2
    clear hs ha hr zs za zr
    simp only [List.getElem?_toArray, List.getElem?_cons_zero, List.getElem?_cons_succ] at s0 s1 t0 t1 t2 u0 u1
    have hne : ∀ b off, p' = some ⟨b, off, none⟩ → b ≠ w.heap.size ∧ b ≠ w.heap.size + 2 := fun b off h => by
      rcases ha' with h2 | ⟨a, h2, h3⟩
      · rw [h2] at h; subst h; have := hrow.lt; omega
      · rw [h] at h2; cases h2; simp at h3; omega
    go_wp2_with fail
    refine (put_none q c fr n true _).mono ?_
    rintro e w3 ⟨q2, c2, tt, rfl, hb3⟩
    obtain ⟨w2, hw2⟩ : ∃ w2, (w1.setCell ⟨w.heap.size, 0, none⟩ (.int .i64 L)).setCell ⟨w.heap.size, 1, none⟩ (.slice p' n' cap') = w2 := ⟨_, rfl⟩
    have hh : ∀ k, k ≠ w.heap.size → w2.heap[k]? = w1.heap[k]? := fun k hk => by rw [← hw2]; exact heap_two _ _ _ _ _ hk
    have B2 : Below w.heap.size w w2 := by rw [← hw2]; exact (B1.setCell (p := ⟨w.heap.size, 0, none⟩) (Nat.le_refl _) _).setCell (p := ⟨w.heap.size, 1, none⟩) (Nat.le_refl _) _
    have v0 : w2.cell? ⟨w.heap.size, 0, none⟩ = some (.int .i64 L) := by rw [← hw2]; exact (two_set s0 s1 _ _).1
    have v1 : w2.cell? ⟨w.heap.size, 1, none⟩ = some (.slice p' n' cap') := by rw [← hw2]; exact (two_set s0 s1 _ _).2
    have r0 : w2.cell? ⟨w.heap.size + 1 + 1, 0, none⟩ = some (.int .i64 0) := (World.cell?_of_block (w := w1) (a := ⟨w.heap.size + 1 + 1, 0, none⟩) (hh (w.heap.size + 1 + 1) (by omega))).trans u0
    have r1 : w2.cell? ⟨w.heap.size + 1 + 1, 1, none⟩ = some (.slice none 0 0) := (World.cell?_of_block (w := w1) (a := ⟨w.heap.size + 1 + 1, 1, none⟩) (hh (w.heap.size + 1 + 1) (by omega))).trans u1
    have f0 : w2.frozen? ⟨w.heap.size + 1 + 1, 0, none⟩ = false := (World.frozen?_of_block (w := w1) (a := ⟨w.heap.size + 1 + 1, 0, none⟩) (hh (w.heap.size + 1 + 1) (by omega))).trans x0
    have f1 : w2.frozen? ⟨w.heap.size + 1 + 1, 1, none⟩ = false := (World.frozen?_of_block (w := w1) (a := ⟨w.heap.size + 1 + 1, 1, none⟩) (hh (w.heap.size + 1 + 1) (by omega))).trans x1
    rw [hw2] at hb3
    have R2 : RowAt w2 p' (laidS L es fr n true) := hr'.keep fun b off h => hh b (hne b off h).1
    clear hw2 hh s0 s1 y0 y1 t0 t1 t2 u0 u1 x0 x1
    have l0 := World.block_lt_of_cell? _ _ v0
    have l2 := World.block_lt_of_cell? _ _ r0
    have g0 : w3.cell? ⟨w.heap.size, 0, none⟩ = some (.int .i64 L) := (hb3.cell (p := ⟨w.heap.size, 0, none⟩) l0).trans v0
    have g1 : w3.cell? ⟨w.heap.size, 1, none⟩ = some (.slice p' n' cap') := (hb3.cell (p := ⟨w.heap.size, 1, none⟩) l0).trans v1
    have j0 : w3.cell? ⟨w.heap.size + 1 + 1, 0, none⟩ = some (.int .i64 0) := (hb3.cell (p := ⟨w.heap.size + 1 + 1, 0, none⟩) l2).trans r0
    have j1 : w3.cell? ⟨w.heap.size + 1 + 1, 1, none⟩ = some (.slice none 0 0) := (hb3.cell (p := ⟨w.heap.size + 1 + 1, 1, none⟩) l2).trans r1
    have i0 : w3.frozen? ⟨w.heap.size + 1 + 1, 0, none⟩ = false := (hb3.frozen (p := ⟨w.heap.size + 1 + 1, 0, none⟩) l2).trans f0
    have i1 : w3.frozen? ⟨w.heap.size + 1 + 1, 1, none⟩ = false := (hb3.frozen (p := ⟨w.heap.size + 1 + 1, 1, none⟩) l2).trans f1
    clear v0 v1 r0 r1 f0 f1
    go_wp2_with fail
    have BF : Below w.heap.size w ((w3.setCell ⟨w.heap.size + 1 + 1, 0, none⟩ (.int .i64 L)).setCell ⟨w.heap.size + 1 + 1, 1, none⟩ (.slice p' n' cap')) := ((B2.trans (hb3.mono B2.size)).setCell (p := ⟨w.heap.size + 1 + 1, 0, none⟩) (by show _ ≤ w.heap.size + 1 + 1; omega) _).setCell (p := ⟨w.heap.size + 1 + 1, 1, none⟩) (by show _ ≤ w.heap.size + 1 + 1; omega) _
    exact bodyPost_ret (v := .tuple #[.agg #[.int .i64 L, .slice p' n' cap'], .slice q2 0 c2, .bool (laidErr L fr n == tt)]) (by simp [results, Try.results65, go_sem, (two_set j0 j1 (.int .i64 L) (.slice p' n' cap')).1, (two_set j0 j1 (.int .i64 L) (.slice p' n' cap')).2]) rfl
      ⟨p', n', cap', q2, c2, _, rfl, HN.out, hc', HP2.out, (R2.below hb3).keep (fun b off h => heap_two _ _ _ _ _ (hne b off h).2), by rcases ha' with h | ⟨a, h, h3⟩; exact .inl h; exact .inr ⟨a, h, by simp at h3; omega⟩, BF⟩
  | false =>
    go_enter Try.func65, Try.ntmps65
    go_wp2_with fail
    refine (without_any L p m cap es fr n _ g (hrow.below b0) HM.out hcap HP.out hf).mono ?_
    rintro e w1 ⟨p', n', cap', rfl, hn', hc', hp', hr', ha', hb⟩
    have HN := Lib.hid hn'; have HP2 := Lib.hid hp'; clear hn' hp'
    have B1 : Below w.heap.size w w1 := b0.trans (hb.mono b0.size)
    obtain ⟨hs, ha, hr⟩ := three_new w #[.int .i64 L, .slice p m cap] #[.bool false, .int .i64 fr, .int .i64 n] #[.int .i64 0, .slice none 0 0] 107 113 107
    have zs := (hb.block _ (by simp; omega)).trans hs
    have za := (hb.block _ (by simp)).trans ha
    have zr := (hb.block _ (by simp)).trans hr
    have s0 := (cell_blk zs 0).1; have s1 := (cell_blk zs 1).1; have y0 := (cell_blk zs 0).2; have y1 := (cell_blk zs 1).2
    have t0 := (cell_blk za 0).1; have t1 := (cell_blk za 1).1; have t2 := (cell_blk za 2).1
    have u0 := (cell_blk zr 0).1; have u1 := (cell_blk zr 1).1; have x0 := (cell_blk zr 0).2; have x1 := (cell_blk zr 1).2
    clear hs ha hr zs za zr
    simp only [List.getElem?_toArray, List.getElem?_cons_zero, List.getElem?_cons_succ] at s0 s1 t0 t1 t2 u0 u1
    have hne : ∀ b off, p' = some ⟨b, off, none⟩ → b ≠ w.heap.size ∧ b ≠ w.heap.size + 2 := fun b off h => by
      rcases ha' with h2 | ⟨a, h2, h3⟩
      · rw [h2] at h; subst h; have := hrow.lt; omega
      · rw [h] at h2; cases h2; simp at h3; omega
    go_wp2_with fail
    refine (put_none q c fr n false _).mono ?_
    rintro e w3 ⟨q2, c2, tt, rfl, hb3⟩
    obtain ⟨w2, hw2⟩ : ∃ w2, (w1.setCell ⟨w.heap.size, 0, none⟩ (.int .i64 L)).setCell ⟨w.heap.size, 1, none⟩ (.slice p' n' cap') = w2 := ⟨_, rfl⟩
    have hh : ∀ k, k ≠ w.heap.size → w2.heap[k]? = w1.heap[k]? := fun k hk => by rw [← hw2]; exact heap_two _ _ _ _ _ hk
    have B2 : Below w.heap.size w w2 := by rw [← hw2]; exact (B1.setCell (p := ⟨w.heap.size, 0, none⟩) (Nat.le_refl _) _).setCell (p := ⟨w.heap.size, 1, none⟩) (Nat.le_refl _) _
    have v0 : w2.cell? ⟨w.heap.size, 0, none⟩ = some (.int .i64 L) := by rw [← hw2]; exact (two_set s0 s1 _ _).1
    have v1 : w2.cell? ⟨w.heap.size, 1, none⟩ = some (.slice p' n' cap') := by rw [← hw2]; exact (two_set s0 s1 _ _).2
    have r0 : w2.cell? ⟨w.heap.size + 1 + 1, 0, none⟩ = some (.int .i64 0) := (World.cell?_of_block (w := w1) (a := ⟨w.heap.size + 1 + 1, 0, none⟩) (hh (w.heap.size + 1 + 1) (by omega))).trans u0
    have r1 : w2.cell? ⟨w.heap.size + 1 + 1, 1, none⟩ = some (.slice none 0 0) := (World.cell?_of_block (w := w1) (a := ⟨w.heap.size + 1 + 1, 1, none⟩) (hh (w.heap.size + 1 + 1) (by omega))).trans u1
    have f0 : w2.frozen? ⟨w.heap.size + 1 + 1, 0, none⟩ = false := (World.frozen?_of_block (w := w1) (a := ⟨w.heap.size + 1 + 1, 0, none⟩) (hh (w.heap.size + 1 + 1) (by omega))).trans x0
    have f1 : w2.frozen? ⟨w.heap.size + 1 + 1, 1, none⟩ = false := (World.frozen?_of_block (w := w1) (a := ⟨w.heap.size + 1 + 1, 1, none⟩) (hh (w.heap.size + 1 + 1) (by omega))).trans x1
    rw [hw2] at hb3
    have R2 : RowAt w2 p' (laidS L es fr n false) := hr'.keep fun b off h => hh b (hne b off h).1
    clear hw2 hh s0 s1 y0 y1 t0 t1 t2 u0 u1 x0 x1
    have l0 := World.block_lt_of_cell? _ _ v0
    have l2 := World.block_lt_of_cell? _ _ r0
    have g0 : w3.cell? ⟨w.heap.size, 0, none⟩ = some (.int .i64 L) := (hb3.cell (p := ⟨w.heap.size, 0, none⟩) l0).trans v0
    have g1 : w3.cell? ⟨w.heap.size, 1, none⟩ = some (.slice p' n' cap') := (hb3.cell (p := ⟨w.heap.size, 1, none⟩) l0).trans v1
    have j0 : w3.cell? ⟨w.heap.size + 1 + 1, 0, none⟩ = some (.int .i64 0) := (hb3.cell (p := ⟨w.heap.size + 1 + 1, 0, none⟩) l2).trans r0
    have j1 : w3.cell? ⟨w.heap.size + 1 + 1, 1, none⟩ = some (.slice none 0 0) := (hb3.cell (p := ⟨w.heap.size + 1 + 1, 1, none⟩) l2).trans r1
    have i0 : w3.frozen? ⟨w.heap.size + 1 + 1, 0, none⟩ = false := (hb3.frozen (p := ⟨w.heap.size + 1 + 1, 0, none⟩) l2).trans f0
    have i1 : w3.frozen? ⟨w.heap.size + 1 + 1, 1, none⟩ = false := (hb3.frozen (p := ⟨w.heap.size + 1 + 1, 1, none⟩) l2).trans f1
    clear v0 v1 r0 r1 f0 f1
    go_wp2_with fail
    have BF : Below w.heap.size w ((w3.setCell ⟨w.heap.size + 1 + 1, 0, none⟩ (.int .i64 L)).setCell ⟨w.heap.size + 1 + 1, 1, none⟩ (.slice p' n' cap')) := ((B2.trans (hb3.mono B2.size)).setCell (p := ⟨w.heap.size + 1 + 1, 0, none⟩) (by show _ ≤ w.heap.size + 1 + 1; omega) _).setCell (p := ⟨w.heap.size + 1 + 1, 1, none⟩) (by show _ ≤ w.heap.size + 1 + 1; omega) _
    exact bodyPost_ret (v := .tuple #[.agg #[.int .i64 L, .slice p' n' cap'], .slice q2 0 c2, .bool (laidErr L fr n == tt)]) (by simp [results, Try.results65, go_sem, (two_set j0 j1 (.int .i64 L) (.slice p' n' cap')).1, (two_set j0 j1 (.int .i64 L) (.slice p' n' cap')).2]) rfl
      ⟨p', n', cap', q2, c2, _, rfl, HN.out, hc', HP2.out, (R2.below hb3).keep (fun b off h => heap_two _ _ _ _ _ (hne b off h).2), by rcases ha' with h | ⟨a, h, h3⟩; exact .inl h; exact .inr ⟨a, h, by simp at h3; omega⟩, BF⟩
end Go.Proofs.Ytoineackmpafdaa.Bt
