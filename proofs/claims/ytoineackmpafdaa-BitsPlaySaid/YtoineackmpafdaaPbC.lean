/- An act done to a set and to its bools; what both tell. (Written by gen_pbc.py.) -/
import Derived.Test.YtoineackmpafdaaPbB
import Derived.Test.YtoineackmpafdaaBitsPartsW
namespace Go.Proofs.Ytoineackmpafdaa.Bt
open Go Go.RowKit Go.Shelf
set_option linter.unusedVariables false
set_option linter.unusedSimpArgs false

def mE (es : List Nat) (i : Nat) : Bool := mem es (i : Int)
theorem wi_eq (L : Nat) (fr n : Int) : wiB L fr n = withinB L fr n := by unfold wiB withinB; congr 1; exact propext ⟨fun _ => by omega, fun _ => by omega⟩
theorem mE_laid {L : Nat} {es : List Nat} (g : Good L es) {fr n : Nat} (h : fr + n ≤ L) (inn : Bool) (i : Nat) : putF (mE es) fr n inn i = mE (laidS L es (fr : Int) (n : Int) inn) i := by
  unfold mE putF
  rw [mem_laidS g (by unfold withinB; simp; omega)]
  by_cases c : fr ≤ i ∧ i < fr + n
  · rw [if_pos c, if_pos (by omega)]
  · rw [if_neg c, if_neg (by omega)]
def PutP (b L : Nat) (es : List Nat) (fr n : Int) (inn : Bool) (w : World) (e : Ending) (w' : World) : Prop :=
  ∃ b', e = .returned (.tuple #[.slice (some ⟨b', 0, none⟩) L L, .int .i64 (laidErr L fr n)]) ∧ BolAt b' L (mE (laidS L es fr n inn)) w' ∧ (b' = b ∨ w.heap.size ≤ b') ∧ Below w.heap.size w w'
theorem pput_any (b L : Nat) (es : List Nat) (fr n : Int) (inn : Bool) (w : World) (g : Good L es) (h : BolAt b L (mE es) w) :
    Calls Try.prog 129 #[.slice (some ⟨b, 0, none⟩) L L, .int .i64 fr, .int .i64 n, .bool inn] w (PutP b L es fr n inn w) := by
  cases hw : withinB L fr n with
  | true =>
    have hw' : 0 ≤ fr ∧ 0 ≤ n ∧ n ≤ L - fr := by simpa [withinB] using hw
    obtain ⟨f, rfl⟩ := Int.eq_ofNat_of_zero_le hw'.1
    obtain ⟨k, rfl⟩ := Int.eq_ofNat_of_zero_le hw'.2.1
    refine (pput_in b L g.small (mE es) f k (by omega) inn w h).mono ?_
    rintro e w' ⟨rfl, h1, h2⟩
    exact ⟨_, by unfold laidErr; rw [hw]; rfl, h1.ext fun i _ => mE_laid g (by omega) inn i, .inr (Nat.le_refl _), h2⟩
  | false =>
    refine (pput_out b L g.small fr n (by rw [wi_eq]; exact hw) inn w).mono ?_
    rintro e w' ⟨rfl, rfl⟩
    exact ⟨_, by unfold laidErr; rw [hw]; rfl, by rw [laid_same (.inl hw)]; exact h, .inl rfl, Below.refl _ _⟩
def DoneB (L b : Nat) (p : Option Addr) (es : List Nat) (a : ActL) (w : World) (e : Ending) (w' : World) : Prop :=
  ∃ p' n' cap' b', e = .returned (.tuple #[.agg #[.int .i64 L, .slice p' n' cap'], .slice (some ⟨b', 0, none⟩) L L, .bool true]) ∧ n' = (laidS L es a.fr a.n a.inn).length ∧ n' ≤ cap' ∧ (p' = none → cap' = 0) ∧ RowAt w' p' (laidS L es a.fr a.n a.inn) ∧ (p' = p ∨ ∃ a, p' = some a ∧ w.heap.size ≤ a.block) ∧ Below w.heap.size w w' ∧
    BolAt b' L (mE (laidS L es a.fr a.n a.inn)) w' ∧ (b' = b ∨ w.heap.size ≤ b')
set_option maxHeartbeats 2000000 in
theorem done_any (L b : Nat) (p : Option Addr) (m cap : Nat) (es : List Nat) (a : ActL) (w : World) (g : Good L es) (hrow : RowAt w p es) (hm : m = es.length) (hcap : m ≤ cap) (hcn : p = none → cap = 0) (hf : a.fr ≤ 9223372036854775807) (hbol : BolAt b L (mE es) w) :
    Calls Try.prog 65 #[.agg #[.int .i64 L, .slice p m cap], .slice (some ⟨b, 0, none⟩) L L, .agg #[.bool a.inn, .int .i64 a.fr, .int .i64 a.n]] w (DoneB L b p es a w) := by
  obtain ⟨inn, fr, n⟩ := a
  have HM := Lib.hid hm; have HP := Lib.hid hcn; clear hm hcn
  have HBL := Lib.hid hbol
  have hblt := hbol.lt
  have b0 : Below w.heap.size w (((w.alloc (.cells #[.int .i64 L, .slice p m cap] 107)).alloc (.cells #[.bool inn, .int .i64 fr, .int .i64 n] 113)).alloc (.cells #[.int .i64 0, .slice none 0 0] 107)) := (((Below.refl _ w).alloc (Nat.le_refl _) _).alloc (by simp) _).alloc (by simp; omega) _
  clear hbol
  cases inn with
  | true =>
    go_enter Try.func65, Try.ntmps65
    go_wp2_with fail
    refine (with_any L p m cap es fr n _ g (hrow.below b0) HM.out hcap HP.out hf).mono ?_
    rintro e w1 ⟨p', n', cap', rfl, hn', hc', hp', hr', ha', hb⟩
    have HN := Lib.hid hn'; have HP2 := Lib.hid hp'; clear hn' hp'
    have B1 : Below w.heap.size w w1 := b0.trans (hb.mono b0.size)
    obtain ⟨hs, ha, hr⟩ := three_new w #[.int .i64 L, .slice p m cap] #[.bool true, .int .i64 fr, .int .i64 n] #[.int .i64 0, .slice none 0 0] 107 113 107
    have zs := (hb.block _ (by simp; omega)).trans hs
    have za := (hb.block _ (by simp)).trans ha
    have zr := (hb.block _ (by simp)).trans hr
    have s0 := (cell_blk zs 0).1; have s1 := (cell_blk zs 1).1; have y0 := (cell_blk zs 0).2; have y1 := (cell_blk zs 1).2
    have t0 := (cell_blk za 0).1; have t1 := (cell_blk za 1).1; have t2 := (cell_blk za 2).1
    have u0 := (cell_blk zr 0).1; have u1 := (cell_blk zr 1).1; have x0 := (cell_blk zr 0).2; have x1 := (cell_blk zr 1).2
    have hsz3 : w.heap.size + 3 ≤ w1.heap.size := by have := hb.size; simp at this; omega
    clear hs ha hr zs za zr
    simp only [List.getElem?_toArray, List.getElem?_cons_zero, List.getElem?_cons_succ] at s0 s1 t0 t1 t2 u0 u1
    have hne : ∀ b off, p' = some ⟨b, off, none⟩ → b ≠ w.heap.size ∧ b ≠ w.heap.size + 2 := fun b off h => by
      rcases ha' with h2 | ⟨a, h2, h3⟩
      · rw [h2] at h; subst h; have := hrow.lt; omega
      · rw [h] at h2; cases h2; simp at h3; omega
    go_wp2_with fail
    obtain ⟨w2, hw2⟩ : ∃ w2, (w1.setCell ⟨w.heap.size, 0, none⟩ (.int .i64 L)).setCell ⟨w.heap.size, 1, none⟩ (.slice p' n' cap') = w2 := ⟨_, rfl⟩
    have hh : ∀ k, k ≠ w.heap.size → w2.heap[k]? = w1.heap[k]? := fun k hk => by rw [← hw2]; exact heap_two _ _ _ _ _ hk
    have hsz2 : w2.heap.size = w1.heap.size := by rw [← hw2]; simp [World.setCell]
    have hbol2 : BolAt b L (mE es) w2 := (hh b (by omega)).trans (HBL.out.below B1)
    rw [hw2]
    refine (pput_any b L es fr n true w2 g hbol2).mono ?_
    rintro e w3 ⟨b2, rfl, hbo3, hbb, hb3⟩
    have hb2n : b2 ≠ w.heap.size + 1 + 1 := by rcases hbb with h | h <;> omega
    have HBO := Lib.hid hbo3
    have HBB : Hid (b2 = b ∨ w.heap.size ≤ b2) := Lib.hid (by rcases hbb with h | h; exact .inl h; exact .inr (by omega))
    clear hbol2 hbo3 hbb
    have B2 : Below w.heap.size w w2 := by rw [← hw2]; exact (B1.setCell (p := ⟨w.heap.size, 0, none⟩) (Nat.le_refl _) _).setCell (p := ⟨w.heap.size, 1, none⟩) (Nat.le_refl _) _
    have v0 : w2.cell? ⟨w.heap.size, 0, none⟩ = some (.int .i64 L) := by rw [← hw2]; exact (two_set s0 s1 _ _).1
    have v1 : w2.cell? ⟨w.heap.size, 1, none⟩ = some (.slice p' n' cap') := by rw [← hw2]; exact (two_set s0 s1 _ _).2
    have r0 : w2.cell? ⟨w.heap.size + 1 + 1, 0, none⟩ = some (.int .i64 0) := (World.cell?_of_block (w := w1) (a := ⟨w.heap.size + 1 + 1, 0, none⟩) (hh (w.heap.size + 1 + 1) (by omega))).trans u0
    have r1 : w2.cell? ⟨w.heap.size + 1 + 1, 1, none⟩ = some (.slice none 0 0) := (World.cell?_of_block (w := w1) (a := ⟨w.heap.size + 1 + 1, 1, none⟩) (hh (w.heap.size + 1 + 1) (by omega))).trans u1
    have f0 : w2.frozen? ⟨w.heap.size + 1 + 1, 0, none⟩ = false := (World.frozen?_of_block (w := w1) (a := ⟨w.heap.size + 1 + 1, 0, none⟩) (hh (w.heap.size + 1 + 1) (by omega))).trans x0
    have f1 : w2.frozen? ⟨w.heap.size + 1 + 1, 1, none⟩ = false := (World.frozen?_of_block (w := w1) (a := ⟨w.heap.size + 1 + 1, 1, none⟩) (hh (w.heap.size + 1 + 1) (by omega))).trans x1
    have R2 : RowAt w2 p' (laidS L es fr n true) := hr'.keep fun b off h => hh b (hne b off h).1
    clear hw2 hh s0 s1 y0 y1 t0 t1 t2 u0 u1 x0 x1
    have l0 := World.block_lt_of_cell? _ _ v0
    have l2 := World.block_lt_of_cell? _ _ r0
    have g0 : w3.cell? ⟨w.heap.size, 0, none⟩ = some (.int .i64 L) := (hb3.cell (p := ⟨w.heap.size, 0, none⟩) l0).trans v0
    have g1 : w3.cell? ⟨w.heap.size, 1, none⟩ = some (.slice p' n' cap') := (hb3.cell (p := ⟨w.heap.size, 1, none⟩) l0).trans v1
    have j0 : w3.cell? ⟨w.heap.size + 1 + 1, 0, none⟩ = some (.int .i64 0) := (hb3.cell (p := ⟨w.heap.size + 1 + 1, 0, none⟩) l2).trans r0
    have j1 : w3.cell? ⟨w.heap.size + 1 + 1, 1, none⟩ = some (.slice none 0 0) := (hb3.cell (p := ⟨w.heap.size + 1 + 1, 1, none⟩) l2).trans r1
    have i0 : w3.frozen? ⟨w.heap.size + 1 + 1, 0, none⟩ = false := (hb3.frozen (p := ⟨w.heap.size + 1 + 1, 0, none⟩) l2).trans f0
    have i1 : w3.frozen? ⟨w.heap.size + 1 + 1, 1, none⟩ = false := (hb3.frozen (p := ⟨w.heap.size + 1 + 1, 1, none⟩) l2).trans f1
    clear v0 v1 r0 r1 f0 f1
    obtain ⟨er, her⟩ : ∃ er, laidErr L fr n = er := ⟨_, rfl⟩
    rw [her]
    clear her
    go_wp2_with fail
    have BF : Below w.heap.size w ((w3.setCell ⟨w.heap.size + 1 + 1, 0, none⟩ (.int .i64 L)).setCell ⟨w.heap.size + 1 + 1, 1, none⟩ (.slice p' n' cap')) := ((B2.trans (hb3.mono B2.size)).setCell (p := ⟨w.heap.size + 1 + 1, 0, none⟩) (by show _ ≤ w.heap.size + 1 + 1; omega) _).setCell (p := ⟨w.heap.size + 1 + 1, 1, none⟩) (by show _ ≤ w.heap.size + 1 + 1; omega) _
    exact bodyPost_ret (v := .tuple #[.agg #[.int .i64 L, .slice p' n' cap'], .slice (some ⟨b2, 0, none⟩) L L, .bool true]) (by simp [results, Try.results65, go_sem, (two_set j0 j1 (.int .i64 L) (.slice p' n' cap')).1, (two_set j0 j1 (.int .i64 L) (.slice p' n' cap')).2]) rfl
      ⟨p', n', cap', b2, rfl, HN.out, hc', HP2.out, (R2.below hb3).keep (fun b off h => heap_two _ _ _ _ _ (hne b off h).2), by rcases ha' with h | ⟨a, h, h3⟩; exact .inl h; exact .inr ⟨a, h, by simp at h3; omega⟩, BF, (HBO.out.keep hb2n _ _).keep hb2n _ _, HBB.out⟩
  | false =>
    go_enter Try.func65, Try.ntmps65
    go_wp2_with fail
    refine (without_any L p m cap es fr n _ g (hrow.below b0) HM.out hcap HP.out hf).mono ?_
    rintro e w1 ⟨p', n', cap', rfl, hn', hc', hp', hr', ha', hb⟩
    have HN := Lib.hid hn'; have HP2 := Lib.hid hp'; clear hn' hp'
    have B1 : Below w.heap.size w w1 := b0.trans (hb.mono b0.size)
    obtain ⟨hs, ha, hr⟩ := three_new w #[.int .i64 L, .slice p m cap] #[.bool false, .int .i64 fr, .int .i64 n] #[.int .i64 0, .slice none 0 0] 107 113 107
    have zs := (hb.block _ (by simp; omega)).trans hs
    have za := (hb.block _ (by simp)).trans ha
    have zr := (hb.block _ (by simp)).trans hr
    have s0 := (cell_blk zs 0).1; have s1 := (cell_blk zs 1).1; have y0 := (cell_blk zs 0).2; have y1 := (cell_blk zs 1).2
    have t0 := (cell_blk za 0).1; have t1 := (cell_blk za 1).1; have t2 := (cell_blk za 2).1
    have u0 := (cell_blk zr 0).1; have u1 := (cell_blk zr 1).1; have x0 := (cell_blk zr 0).2; have x1 := (cell_blk zr 1).2
    have hsz3 : w.heap.size + 3 ≤ w1.heap.size := by have := hb.size; simp at this; omega
    clear hs ha hr zs za zr
    simp only [List.getElem?_toArray, List.getElem?_cons_zero, List.getElem?_cons_succ] at s0 s1 t0 t1 t2 u0 u1
    have hne : ∀ b off, p' = some ⟨b, off, none⟩ → b ≠ w.heap.size ∧ b ≠ w.heap.size + 2 := fun b off h => by
      rcases ha' with h2 | ⟨a, h2, h3⟩
      · rw [h2] at h; subst h; have := hrow.lt; omega
      · rw [h] at h2; cases h2; simp at h3; omega
    go_wp2_with fail
    obtain ⟨w2, hw2⟩ : ∃ w2, (w1.setCell ⟨w.heap.size, 0, none⟩ (.int .i64 L)).setCell ⟨w.heap.size, 1, none⟩ (.slice p' n' cap') = w2 := ⟨_, rfl⟩
    have hh : ∀ k, k ≠ w.heap.size → w2.heap[k]? = w1.heap[k]? := fun k hk => by rw [← hw2]; exact heap_two _ _ _ _ _ hk
    have hsz2 : w2.heap.size = w1.heap.size := by rw [← hw2]; simp [World.setCell]
    have hbol2 : BolAt b L (mE es) w2 := (hh b (by omega)).trans (HBL.out.below B1)
    rw [hw2]
    refine (pput_any b L es fr n false w2 g hbol2).mono ?_
    rintro e w3 ⟨b2, rfl, hbo3, hbb, hb3⟩
    have hb2n : b2 ≠ w.heap.size + 1 + 1 := by rcases hbb with h | h <;> omega
    have HBO := Lib.hid hbo3
    have HBB : Hid (b2 = b ∨ w.heap.size ≤ b2) := Lib.hid (by rcases hbb with h | h; exact .inl h; exact .inr (by omega))
    clear hbol2 hbo3 hbb
    have B2 : Below w.heap.size w w2 := by rw [← hw2]; exact (B1.setCell (p := ⟨w.heap.size, 0, none⟩) (Nat.le_refl _) _).setCell (p := ⟨w.heap.size, 1, none⟩) (Nat.le_refl _) _
    have v0 : w2.cell? ⟨w.heap.size, 0, none⟩ = some (.int .i64 L) := by rw [← hw2]; exact (two_set s0 s1 _ _).1
    have v1 : w2.cell? ⟨w.heap.size, 1, none⟩ = some (.slice p' n' cap') := by rw [← hw2]; exact (two_set s0 s1 _ _).2
    have r0 : w2.cell? ⟨w.heap.size + 1 + 1, 0, none⟩ = some (.int .i64 0) := (World.cell?_of_block (w := w1) (a := ⟨w.heap.size + 1 + 1, 0, none⟩) (hh (w.heap.size + 1 + 1) (by omega))).trans u0
    have r1 : w2.cell? ⟨w.heap.size + 1 + 1, 1, none⟩ = some (.slice none 0 0) := (World.cell?_of_block (w := w1) (a := ⟨w.heap.size + 1 + 1, 1, none⟩) (hh (w.heap.size + 1 + 1) (by omega))).trans u1
    have f0 : w2.frozen? ⟨w.heap.size + 1 + 1, 0, none⟩ = false := (World.frozen?_of_block (w := w1) (a := ⟨w.heap.size + 1 + 1, 0, none⟩) (hh (w.heap.size + 1 + 1) (by omega))).trans x0
    have f1 : w2.frozen? ⟨w.heap.size + 1 + 1, 1, none⟩ = false := (World.frozen?_of_block (w := w1) (a := ⟨w.heap.size + 1 + 1, 1, none⟩) (hh (w.heap.size + 1 + 1) (by omega))).trans x1
    have R2 : RowAt w2 p' (laidS L es fr n false) := hr'.keep fun b off h => hh b (hne b off h).1
    clear hw2 hh s0 s1 y0 y1 t0 t1 t2 u0 u1 x0 x1
    have l0 := World.block_lt_of_cell? _ _ v0
    have l2 := World.block_lt_of_cell? _ _ r0
    have g0 : w3.cell? ⟨w.heap.size, 0, none⟩ = some (.int .i64 L) := (hb3.cell (p := ⟨w.heap.size, 0, none⟩) l0).trans v0
    have g1 : w3.cell? ⟨w.heap.size, 1, none⟩ = some (.slice p' n' cap') := (hb3.cell (p := ⟨w.heap.size, 1, none⟩) l0).trans v1
    have j0 : w3.cell? ⟨w.heap.size + 1 + 1, 0, none⟩ = some (.int .i64 0) := (hb3.cell (p := ⟨w.heap.size + 1 + 1, 0, none⟩) l2).trans r0
    have j1 : w3.cell? ⟨w.heap.size + 1 + 1, 1, none⟩ = some (.slice none 0 0) := (hb3.cell (p := ⟨w.heap.size + 1 + 1, 1, none⟩) l2).trans r1
    have i0 : w3.frozen? ⟨w.heap.size + 1 + 1, 0, none⟩ = false := (hb3.frozen (p := ⟨w.heap.size + 1 + 1, 0, none⟩) l2).trans f0
    have i1 : w3.frozen? ⟨w.heap.size + 1 + 1, 1, none⟩ = false := (hb3.frozen (p := ⟨w.heap.size + 1 + 1, 1, none⟩) l2).trans f1
    clear v0 v1 r0 r1 f0 f1
    obtain ⟨er, her⟩ : ∃ er, laidErr L fr n = er := ⟨_, rfl⟩
    rw [her]
    clear her
    go_wp2_with fail
    have BF : Below w.heap.size w ((w3.setCell ⟨w.heap.size + 1 + 1, 0, none⟩ (.int .i64 L)).setCell ⟨w.heap.size + 1 + 1, 1, none⟩ (.slice p' n' cap')) := ((B2.trans (hb3.mono B2.size)).setCell (p := ⟨w.heap.size + 1 + 1, 0, none⟩) (by show _ ≤ w.heap.size + 1 + 1; omega) _).setCell (p := ⟨w.heap.size + 1 + 1, 1, none⟩) (by show _ ≤ w.heap.size + 1 + 1; omega) _
    exact bodyPost_ret (v := .tuple #[.agg #[.int .i64 L, .slice p' n' cap'], .slice (some ⟨b2, 0, none⟩) L L, .bool true]) (by simp [results, Try.results65, go_sem, (two_set j0 j1 (.int .i64 L) (.slice p' n' cap')).1, (two_set j0 j1 (.int .i64 L) (.slice p' n' cap')).2]) rfl
      ⟨p', n', cap', b2, rfl, HN.out, hc', HP2.out, (R2.below hb3).keep (fun b off h => heap_two _ _ _ _ _ (hne b off h).2), by rcases ha' with h | ⟨a, h, h3⟩; exact .inl h; exact .inr ⟨a, h, by simp at h3; omega⟩, BF, (HBO.out.keep hb2n _ _).keep hb2n _ _, HBB.out⟩
theorem cnt_eq (L : Nat) (es : List Nat) (fr n : Nat) (h : fr + n ≤ L) : countV L es (fr : Int) (n : Int) = ((cntB (mE es) fr n : Nat) : Int) := by
  unfold countV cntB memCount mE
  rw [if_pos (by unfold withinB; simp; omega)]
  simp only [Int.toNat_natCast, Int.natCast_add]
theorem first_eq {L : Nat} {es : List Nat} (g : Good L es) (fr : Int) (inn : Bool) : fsV (mE es) L fr inn = .tuple #[.int .i64 (firstV L es fr inn), .bool (firstB L es fr inn)] := by
  have hI : ∀ j : Nat, fr ≤ (j : Int) → fI fr ≤ (j : Int) := fun j h => by unfold fI; split <;> omega
  have hB : ∀ j : Nat, j < L → hasB L es (j : Int) = mE es j := fun j h => by unfold hasB mE; rw [decide_eq_true (by omega)]; rfl
  cases h : firstB L es fr inn with
  | true =>
    obtain ⟨h1, h2, h3, h4, h5⟩ := first_true g h
    obtain ⟨k, hk⟩ := Int.eq_ofNat_of_zero_le h3
    rw [hk] at h1 h2 h4 h5 ⊢
    rw [hB k (by omega)] at h1
    refine fsV_at (by omega) ?_ fun j hj => ?_
    · unfold fsP; rw [h1, decide_eq_true h2]; simp
    · unfold fsP
      by_cases c : fr ≤ (j : Int)
      · have := h5 j (hI j c) (by omega)
        rw [hB j (by omega)] at this
        rw [this]; cases inn <;> simp
      · rw [decide_eq_false c]; rfl
  | false =>
    obtain ⟨h1, h2⟩ := first_false g h
    rw [h1]
    refine fsV_none fun j hj => ?_
    unfold fsP
    by_cases c : fr ≤ (j : Int)
    · have := h2 j (hI j c) (by omega)
      rw [hB j hj] at this
      rw [this]; cases inn <;> simp
    · rw [decide_eq_false c]; rfl
theorem pcount_any (b L : Nat) (es : List Nat) (fr n : Int) (w : World) (g : Good L es) (h : BolAt b L (mE es) w) :
    Calls Try.prog 130 #[.slice (some ⟨b, 0, none⟩) L L, .int .i64 fr, .int .i64 n] w fun e w' => e = .returned (.tuple #[.int .i64 (countV L es fr n), .int .i64 (laidErr L fr n)]) ∧ w = w' := by
  cases hw : withinB L fr n with
  | true =>
    have hw' : 0 ≤ fr ∧ 0 ≤ n ∧ n ≤ L - fr := by simpa [withinB] using hw
    obtain ⟨f, rfl⟩ := Int.eq_ofNat_of_zero_le hw'.1
    obtain ⟨k, rfl⟩ := Int.eq_ofNat_of_zero_le hw'.2.1
    have := pcount_in b L g.small (mE es) f k (by omega) w h
    rw [← cnt_eq L es f k (by omega)] at this
    unfold laidErr; rw [hw]; exact this
  | false =>
    have := pcount_out b L g.small fr n (by rw [wi_eq]; exact hw) w
    unfold laidErr countV; rw [hw]; exact this
theorem rows_mE {L : Nat} {es : List Nat} (g : Good L es) : rI (mE es) L = flat (pairs es) := rI_rows g
theorem same_mE {L : Nat} {es es' : List Nat} (g : Good L es) (g' : Good L es') : (L == L && es == es') = sameB L (mE es) (mE es') := by
  simp only [beq_self_eq_true, Bool.true_and]
  by_cases h : es = es'
  · subst h
    rw [sameB_true (fun _ _ => rfl)]; simp
  · have : ¬ ∀ j, j < L → mE es j = mE es' j := fun hh => h (good_ext g g' fun i hi => hh i hi)
    obtain ⟨j, hj⟩ := Classical.not_forall.1 this
    obtain ⟨hjl, hjn⟩ := Classical.not_imp.1 hj
    rw [sameB_false hjl hjn]
    simpa using h
end Go.Proofs.Ytoineackmpafdaa.Bt
