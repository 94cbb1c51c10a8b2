/- Several texts in one: DcR; DcS; DcU; DcV; DcW; ArClone; DaA; DaB; DaC; DaD; DaE; DaF; DaG; DaH; DaI. -/
import Derived.Test.YtdmaendhkenmgaaDcP
import Derived.Test.YtdmaendhkenmgaaOn
import Derived.Deep.MidRow
import Derived.Deep.DeepCutAuto
import Derived.Deep.RegionHeld3
/- What Commit and Decommit make of the document's pages is what they make of the program's. -/
namespace Go.Proofs.Ytdmaendhkenmgaa.Bt
open Go Go.RowKit Go.Shelf
set_option linter.unusedVariables false
set_option linter.unusedSimpArgs false

theorem allG_mem {s : ASt} {f n : Nat} (h : f + n ≤ s.L) (so : Bool) : allG (gS s) (f : Int) n so = (List.range n).all fun (i : Nat) => mem s.es ((f : Int) + i) == so := by
  unfold allG
  rw [Bool.eq_iff_iff, List.all_eq_true, List.all_eq_true]
  constructor
  · intro k i hi
    have := k i hi
    have hi' := List.mem_range.1 hi
    rwa [gS_has, mem_of_has (by omega) (by omega)] at this
  · intro k i hi
    have := k i hi
    have hi' := List.mem_range.1 hi
    rwa [gS_has, mem_of_has (by omega) (by omega)]
theorem allG_none {s : ASt} {f n : Nat} (h : f + n ≤ s.L) : allG (gS s) (f : Int) n false = decide (memCount s.es f n = 0) := by
  rw [allG_mem h, Bool.eq_iff_iff, List.all_eq_true, decide_eq_true_eq]
  unfold memCount
  rw [List.countP_eq_zero]
  exact ⟨fun k i hi => by have := k i hi; simpa using this, fun k i hi => by have := k i hi; simpa using this⟩
theorem allG_full {s : ASt} {f n : Nat} (h : f + n ≤ s.L) : allG (gS s) (f : Int) n true = decide (memCount s.es f n = n) := by
  rw [allG_mem h, Bool.eq_iff_iff, List.all_eq_true, decide_eq_true_eq]
  unfold memCount
  have e := List.countP_eq_length (p := fun (i : Nat) => mem s.es ((f : Int) + i)) (l := List.range n)
  rw [List.length_range] at e
  rw [e]
  exact ⟨fun k i hi => by have := k i hi; simpa using this, fun k i hi => by have := k i hi; simpa using this⟩
theorem memCount_le (es : List Nat) (f n : Nat) : memCount es f n ≤ n := by
  unfold memCount
  exact Nat.le_trans List.countP_le_length (by simp)
theorem wrong_in {s : ASt} {f n : Int} {so : Bool} {er : Int} : wrongG (gS s) f n so er = if countE s.L f n ≠ 0 then countE s.L f n else if allG (gS s) f n.toNat so = true then 0 else er := by
  unfold wrongG countE laidErr
  rw [gS_len]
  by_cases h1 : n < 1
  · rw [if_pos h1, if_pos h1, if_pos (by decide)]
  · rw [if_neg h1, if_neg h1]
    cases hw : withinB s.L f n with
    | true =>
      have hw' : 0 ≤ f ∧ 0 ≤ n ∧ n ≤ s.L - f := by simpa [withinB] using hw
      rw [if_neg (show ¬ (f < 0 ∨ (s.L : Int) < n ∨ (s.L : Int) - n < f) by omega)]; simp
    | false =>
      have hw' : ¬ (0 ≤ f ∧ 0 ≤ n ∧ n ≤ s.L - f) := by simpa [withinB] using hw
      rw [if_pos (show f < 0 ∨ (s.L : Int) < n ∨ (s.L : Int) - n < f by omega)]; simp
theorem countE_zero {L : Nat} {f n : Int} (h : countE L f n = 0) : ∃ fn nn : Nat, f = fn ∧ n = nn ∧ 1 ≤ nn ∧ fn + nn ≤ L ∧ withinB L f n = true := by
  unfold countE laidErr at h
  split at h
  · omega
  · cases hw : withinB L f n with
    | true =>
      have hw' : 0 ≤ f ∧ 0 ≤ n ∧ n ≤ L - f := by simpa [withinB] using hw
      exact ⟨f.toNat, n.toNat, by omega, by omega, by omega, by omega, rfl⟩
    | false => rw [hw] at h; simp at h
theorem countR_in {L : Nat} {es : List Nat} {fn nn : Nat} (h1 : 1 ≤ nn) (hw : withinB L (fn : Int) (nn : Int) = true) : countR L es (fn : Int) (nn : Int) = (memCount es fn nn : Int) := by
  unfold countR countV
  rw [if_neg (by omega), hw, if_pos rfl, Int.toNat_natCast, Int.toNat_natCast]
theorem wrong_com (s : ASt) (f n : Int) : wrongG (gS s) f n false 9 = if countE s.L f n ≠ 0 then countE s.L f n else if 0 < countR s.L s.es f n then 9 else 0 := by
  rw [wrong_in]
  by_cases h : countE s.L f n ≠ 0
  · rw [if_pos h, if_pos h]
  · rw [if_neg h, if_neg h]
    obtain ⟨fn, nn, rfl, rfl, h1, h2, hw⟩ := countE_zero (Decidable.not_not.1 h)
    rw [Int.toNat_natCast, allG_none h2, countR_in h1 hw]
    by_cases e : memCount s.es fn nn = 0
    · rw [decide_eq_true e, if_pos rfl, if_neg (by omega)]
    · rw [decide_eq_false e, if_neg (by decide), if_pos (by omega)]
theorem wrong_dec (s : ASt) (f n : Int) : wrongG (gS s) f n true 8 = decE s f n := by
  rw [wrong_in]
  unfold decE
  by_cases h : countE s.L f n ≠ 0
  · rw [if_pos h, if_pos h]
  · rw [if_neg h, if_neg h]
    obtain ⟨fn, nn, rfl, rfl, h1, h2, hw⟩ := countE_zero (Decidable.not_not.1 h)
    rw [Int.toNat_natCast, allG_full h2, countR_in h1 hw]
    have := memCount_le s.es fn nn
    by_cases e : memCount s.es fn nn = nn
    · rw [decide_eq_true e, if_pos rfl, if_neg (by omega)]
    · rw [decide_eq_false e, if_neg (by decide), if_pos (by omega)]
/-- pages that are not there are noughts -/
def ZeroS (s : ASt) : Prop := ∀ k, k < s.L → hasB s.L s.es (k : Int) = false → ∀ j, j < 4096 → s.mm (4096 * k + j) = 0
theorem On.zero {A : Nat} {s : ASt} {w : World} (h : On A s w) : ZeroS s := fun k hk hb j hj => by
  obtain ⟨P, ps, p, n, cap, h⟩ := h
  have hl : k < ps.length := by rw [h.len]; exact hk
  cases e : ps[k] with
  | none => have := h.no k (by rw [List.getElem?_eq_getElem hl, e]) j hj; rwa [Nat.mul_comm] at this
  | some b =>
    have := h.un k b (by rw [List.getElem?_eq_getElem hl, e])
    rw [mem_of_has (by omega) (by omega), this] at hb; cases hb
def refR (s : ASt) : Int := if s.rf = true then (s.lf : Int) else -1
theorem refR_B (s : ASt) : refB s = decide (refR s = 0) := by
  unfold refB refR
  cases s.rf
  · rfl
  · simp
theorem refR_S (s : ASt) : refR (refS s) = if refR s = 0 then -1 else if 0 < refR s then refR s - 1 else refR s := by
  unfold refS refR
  cases h : s.rf with
  | false => simp [h]
  | true =>
    by_cases e : s.lf = 0
    · simp [h, e]
    · simp only [↓reduceIte, if_neg e]
      rw [if_neg (show ¬ (s.lf : Int) = 0 by omega), if_pos (show 0 < (s.lf : Int) by omega)]; omega
theorem gS_congr {s t : ASt} (hL : s.L = t.L) (h : ∀ k, k < s.L → pgS s k = pgS t k) : gS s = gS t := by
  refine gat_ext (by rw [gS_len, gS_len, hL]) fun i hi => ?_
  rw [gS_len] at hi
  rw [gS_at (by omega), gS_at hi]
  exact h i (by omega)
theorem pgS_zero {s : ASt} {k : Nat} (hb : hasB s.L s.es (k : Int) = true) (h : ∀ j, j < 4096 → s.mm (4096 * k + j) = 0) : pgS s k = zP := by
  unfold pgS zP
  rw [if_pos hb]
  refine congrArg strL ?_
  unfold getM
  refine List.eq_replicate_iff.2 ⟨by rw [List.length_map, List.length_range], fun b hb => ?_⟩
  obtain ⟨i, hi, rfl⟩ := List.mem_map.1 hb
  exact h i (List.mem_range.1 hi)
theorem refS_gS (s : ASt) : gS (refS s) = gS s := gS_congr (refS_L s) fun k _ => by unfold pgS; rw [refS_L, refS_es, refS_mm]
theorem com_all {s : ASt} (g : Good s.L s.es) (z : ZeroS s) (f n : Int) : commitE s f n = dComE (gS s) (refR s) f n ∧ dComG (gS s) (refR s) f n = gS (commitS s f n) ∧ dComR (gS s) (refR s) f n = refR (commitS s f n) := by
  unfold commitE dComE dComG dComR commitS
  rw [wrong_com, refR_B]
  by_cases h : countE s.L f n ≠ 0
  · simp [h]
  · rw [if_neg h, if_neg h]
    by_cases h9 : 0 < countR s.L s.es f n
    · simp [h9]
    · rw [if_neg h9, if_neg h9]
      have hor : ¬ (countE s.L f n ≠ 0 ∨ 0 < countR s.L s.es f n) := fun e => e.elim h h9
      simp only [hor, if_false]
      by_cases hr : refR s = 0
      · simp [hr, refS_gS, refR_S]
      · have hd : decide (refR s = 0) = false := decide_eq_false hr
        obtain ⟨fn, nn, rfl, rfl, h1, h2, hw⟩ := countE_zero (Decidable.not_not.1 h)
        obtain ⟨t, ht⟩ : ∃ t : ASt, t = { refS s with es := laidS s.L s.es (fn : Int) (nn : Int) true } := ⟨_, rfl⟩
        have t1 : t.L = s.L := by rw [ht]; exact refS_L s
        have t2 : t.es = laidS s.L s.es (fn : Int) (nn : Int) true := by rw [ht]
        have t3 : t.mm = s.mm := by rw [ht]; exact refS_mm s
        have t4 : refR t = refR (refS s) := by rw [ht]; rfl
        simp only [hd, Bool.false_eq_true, if_false]
        simp only [hr, if_false, ne_eq, not_true]
        rw [← ht, t4, refR_S, if_neg hr]
        clear ht t4
        have hm : memCount s.es fn nn = 0 := by rw [countR_in h1 hw] at h9; omega
        refine ⟨by first | rfl | trivial, ?_, by first | rfl | trivial⟩
        have hfl : fn + (List.replicate nn zP).length ≤ (gS s).length := by rw [gS_len]; simp; exact h2
        refine gat_ext (by rw [Int.toNat_natCast, Int.toNat_natCast, dWith_length hfl, gS_len, gS_len, t1]) fun k hk => ?_
        rw [gS_len] at hk
        have hk' : k < s.L := by rw [← t1]; exact hk
        rw [Int.toNat_natCast, Int.toNat_natCast, dWith_at hfl, gS_at (s := t) hk, List.length_replicate]
        have hml : hasB t.L t.es (k : Int) = if fn ≤ k ∧ k < fn + nn then true else hasB s.L s.es (k : Int) := by
          rw [t1, t2, mem_of_has (by omega) (by omega), mem_of_has (by omega) (by omega), mem_laidS g hw]
          by_cases e : fn ≤ k ∧ k < fn + nn
          · rw [if_pos e, if_pos (by omega)]
          · rw [if_neg e, if_neg (by omega)]
        by_cases e : fn ≤ k ∧ k < fn + nn
        · rw [if_pos e] at hml
          rw [if_pos e, pgS_zero hml fun j hj => ?_]
          · unfold gAt
            rw [List.getD_eq_getElem?_getD, List.getElem?_replicate, if_pos (by omega)]; rfl
          · rw [t3]
            refine z k hk' ?_ j hj
            have h3 := allG_none h2
            rw [hm, decide_eq_true rfl] at h3
            unfold allG at h3
            rw [List.all_eq_true] at h3
            have := h3 (k - fn) (List.mem_range.2 (by omega))
            rw [gS_has, show (fn : Int) + ((k - fn : Nat) : Int) = (k : Int) by omega] at this
            simpa using this
        · rw [if_neg e] at hml
          rw [if_neg e, gS_at hk']
          unfold pgS
          rw [hml, t3]
theorem dec_all {s : ASt} (g : Good s.L s.es) (f n : Int) : dDecG (gS s) f n = gS (decS s f n) := by
  unfold dDecG
  rw [wrong_dec]
  unfold decS
  by_cases h : decE s f n = 0
  · rw [if_neg (by rw [h]; decide), if_pos h]
    have hc : countE s.L f n = 0 := by
      unfold decE at h
      by_cases e : countE s.L f n ≠ 0
      · rw [if_pos e] at h; exact h
      · exact Decidable.not_not.1 e
    obtain ⟨fn, nn, rfl, rfl, h1, h2, hw⟩ := countE_zero hc
    have hfl : fn + (List.replicate nn sE).length ≤ (gS s).length := by rw [gS_len]; simp; exact h2
    rw [Int.toNat_natCast, Int.toNat_natCast]
    obtain ⟨t, ht⟩ : ∃ t : ASt, t = { s with es := laidS s.L s.es (fn : Int) (nn : Int) false, mm := clrM s.mm fn nn } := ⟨_, rfl⟩
    have t1 : t.L = s.L := by rw [ht]
    have t2 : t.es = laidS s.L s.es (fn : Int) (nn : Int) false := by rw [ht]
    have t3 : t.mm = clrM s.mm fn nn := by rw [ht]
    rw [← ht]
    clear ht
    refine gat_ext (by rw [dWith_length hfl, gS_len, gS_len, t1]) fun k hk => ?_
    rw [gS_len] at hk
    have hk' : k < s.L := by omega
    rw [dWith_at hfl, gS_at (s := t) hk, List.length_replicate]
    have hml : hasB t.L t.es (k : Int) = if fn ≤ k ∧ k < fn + nn then false else hasB s.L s.es (k : Int) := by
      rw [t1, t2, mem_of_has (by omega) (by omega), mem_of_has (by omega) (by omega), mem_laidS g hw]
      by_cases e : fn ≤ k ∧ k < fn + nn
      · rw [if_pos e, if_pos (by omega)]
      · rw [if_neg e, if_neg (by omega)]
    by_cases e : fn ≤ k ∧ k < fn + nn
    · rw [if_pos e] at hml
      rw [if_pos e]
      unfold pgS
      rw [hml, if_neg (by decide)]
      unfold gAt
      rw [List.getD_eq_getElem?_getD, List.getElem?_replicate, if_pos (by omega)]; rfl
    · rw [if_neg e] at hml
      rw [if_neg e, gS_at hk']
      unfold pgS
      have : getM (clrM s.mm fn nn) (4096 * k) 4096 = getM s.mm (4096 * k) 4096 := by
        unfold getM
        apply List.map_congr_left
        intro j hj
        have := List.mem_range.1 hj
        unfold clrM
        rw [if_neg (by omega)]
      rw [hml, t3, this]
  · rw [if_pos h, if_neg h]
end Go.Proofs.Ytdmaendhkenmgaa.Bt
/- Refuse and Decommit of an arena that is there. -/
namespace Go.Proofs.Ytdmaendhkenmgaa.Bt
open Go Go.RowKit Go.Shelf
set_option linter.unusedVariables false
set_option linter.unusedSimpArgs false

theorem on_decommit {A : Nat} {s : ASt} {w : World} (h : On A s w) (a k : Int) (ha : a ≤ 9223372036854775807) :
    Calls Try.prog 48 #[.pointer (some ⟨A, 0, none⟩), .int .i64 a, .int .i64 k] w (Ret A (decS s a k) (.int .i64 (decE s a k)) w) := by
  obtain ⟨P, ps, p, n, cap, h⟩ := h
  refine (decommit_any h a k ha).mono ?_
  rintro e w' ⟨rfl, ht⟩
  obtain ⟨h1, h2⟩ := Went.of_turned h ht
  exact ⟨rfl, h1, h2⟩
theorem on_refuse {A : Nat} {s : ASt} {w : World} (h : On A s w) (k : Int) (hk : k ≤ 9223372036854775807) :
    Calls Try.prog 50 #[.pointer (some ⟨A, 0, none⟩), .int .i64 k] w (Ret A { s with rf := true, lf := k.toNat } (.tuple #[]) w) := by
  obtain ⟨P, ps, p, n, cap, h⟩ := h
  obtain ⟨c0, c1, c2, c3, c4⟩ := h.head
  have f3 := h.free 3
  have f4 := h.free 4
  have hF : ArX A { s with rf := true, lf := k.toNat } P ps p n cap ((w.setCell ⟨A, 3, none⟩ (.bool true)).setCell ⟨A, 4, none⟩ (.int .i64 (k.toNat : Int))) ∧ Step A P ps ps w ((w.setCell ⟨A, 3, none⟩ (.bool true)).setCell ⟨A, 4, none⟩ (.int .i64 (k.toNat : Int))) :=
    headed h rfl rfl rfl (by show k.toNat ≤ _; omega) (by rw [set_size, set_size]) rfl rfl rfl (by rw [heap_set (heap_set h.hd _) _]; rfl) fun j hj => (Below.heap_setCell _ _ _ _ (by exact hj)).trans (Below.heap_setCell _ _ _ _ (by exact hj))
  obtain ⟨g1, g2⟩ := Went.of_turned h ⟨ps, p, n, cap, hF.1, hF.2, fun b off e => .inl rfl⟩
  have HG := Lib.hid (And.intro g1 g2)
  clear h hF g1 g2
  by_cases h0 : 0 ≤ k
  · obtain ⟨kn, rfl⟩ := Int.eq_ofNat_of_zero_le h0
    rw [Int.toNat_natCast] at HG
    go_enter Try.func50, Try.ntmps50
    go_wp2_with fail
    go_end0
    exact ⟨rfl, HG.out.1, HG.out.2⟩
  · have e : k.toNat = 0 := by omega
    rw [e] at HG
    go_enter Try.func50, Try.ntmps50
    go_wp2_with fail
    go_end0
    refine ⟨by rfl, ?_, HG.out.2⟩
    first | exact HG.out.1 | (rw [e]; exact HG.out.1)
end Go.Proofs.Ytdmaendhkenmgaa.Bt
/- law03's do. (Written by gen_dcu.py.) -/
namespace Go.Proofs.Ytdmaendhkenmgaa.Bt
open Go Go.RowKit Go.Shelf
set_option linter.unusedVariables false
set_option linter.unusedSimpArgs false

/-- the statement's pair of arenas (the program's in state s, the document's in state t), and the act -/
structure DoS (Wb E A b cap : Nat) (s t : ASt) (d at_ fr n x : Int) (S : ByteArray) (w0 X : World) : Prop where
  w : X.heap[Wb]? = some (.cells #[.pointer (some ⟨A, 0, none⟩), .slice (some ⟨b, 0, none⟩) t.L cap, .int .i64 (refR t)] 33 (0, 0))
  e : X.heap[E]? = some (.cells #[.int .u8 d, .int .i64 at_, .int .i64 fr, .int .i64 n, .int .u64 x, .string S] 36 (0, 0))
  x : On A s X
  d : DocB b (gS t) X
  m : Mine A Wb X
  bs : Base A w0 X
  ws : w0.heap.size ≤ Wb
  ne : E ≠ Wb
theorem DoS.below {Wb E A b cap : Nat} {s t : ASt} {d at_ fr n x : Int} {S : ByteArray} {w0 X Y : World} (h : DoS Wb E A b cap s t d at_ fr n x S w0 X) (hb : Below X.heap.size X Y) : DoS Wb E A b cap s t d at_ fr n x S w0 Y :=
  ⟨blk_at hb h.w, blk_at hb h.e, h.x.below hb, h.d.below hb, h.m.went (Went.of_below h.x hb), h.bs.below h.x hb, h.ws, h.ne⟩
theorem DoS.went {Wb E A b cap : Nat} {s s' t : ASt} {d at_ fr n x : Int} {S : ByteArray} {w0 X Y : World} (h : DoS Wb E A b cap s t d at_ fr n x S w0 X) (hx : On A s' Y) (hg : Went A X Y) : DoS Wb E A b cap s' t d at_ fr n x S w0 Y :=
  ⟨hg.keep h.x h.w (by decide) (by decide) (by decide), hg.keep h.x h.e (by decide) (by decide) (by decide), hx, hg.keep h.x h.d (by decide) (by decide) (by decide), h.m.went hg, h.bs.went hg, h.ws, h.ne⟩
/-- another arena of the document's stored -/
theorem DoS.put {Wb E A b cap : Nat} {s t t' : ASt} {d at_ fr n x : Int} {S : ByteArray} {w0 X : World} (h : DoS Wb E A b cap s t d at_ fr n x S w0 X) {b2 cap2 : Nat} (hd : DocB b2 (gS t') X) : DoS Wb E A b2 cap2 s t' d at_ fr n x S w0 ((X.setCell ⟨Wb, 1, none⟩ (.slice (some ⟨b2, 0, none⟩) t'.L cap2)).setCell ⟨Wb, 2, none⟩ (.int .i64 (refR t'))) := by
  have hne : b2 ≠ Wb := heap_neD hd h.w (by decide)
  have h1 := h.x.set h.m 1 (.slice (some ⟨b2, 0, none⟩) t'.L cap2)
  have m1 := Mine.set h.x h.m h.m 1 (.slice (some ⟨b2, 0, none⟩) t'.L cap2)
  have k1 := h.bs.set h.x h.m h.ws 1 (.slice (some ⟨b2, 0, none⟩) t'.L cap2)
  exact ⟨heap_set (heap_set h.w _) _, ((heap_far_one h.ne _).trans (heap_far_one h.ne _)).trans h.e, h1.set m1 2 _, ((heap_far_one hne _).trans (heap_far_one hne _)).trans hd, Mine.set h1 m1 m1 2 _, k1.set h1 m1 h.ws 2 _, h.ws, h.ne⟩
theorem DoS.cells {Wb E A b cap : Nat} {s t : ASt} {d at_ fr n x : Int} {S : ByteArray} {w0 X : World} (h : DoS Wb E A b cap s t d at_ fr n x S w0 X) :
    (X.cell? ⟨Wb, 0, none⟩ = some (.pointer (some ⟨A, 0, none⟩)) ∧ X.cell? ⟨Wb, 1, none⟩ = some (.slice (some ⟨b, 0, none⟩) t.L cap) ∧ X.cell? ⟨Wb, 2, none⟩ = some (.int .i64 (refR t))) ∧
    (X.cell? ⟨E, 0, none⟩ = some (.int .u8 d) ∧ X.cell? ⟨E, 1, none⟩ = some (.int .i64 at_) ∧ X.cell? ⟨E, 2, none⟩ = some (.int .i64 fr) ∧ X.cell? ⟨E, 3, none⟩ = some (.int .i64 n) ∧ X.cell? ⟨E, 4, none⟩ = some (.int .u64 x) ∧ X.cell? ⟨E, 5, none⟩ = some (.string S)) ∧
    X.frozen? ⟨Wb, 1, none⟩ = false ∧ X.frozen? ⟨Wb, 2, none⟩ = false :=
  ⟨⟨(cell_blk h.w 0).1, (cell_blk h.w 1).1, (cell_blk h.w 2).1⟩, ⟨(cell_blk h.e 0).1, (cell_blk h.e 1).1, (cell_blk h.e 2).1, (cell_blk h.e 3).1, (cell_blk h.e 4).1, (cell_blk h.e 5).1⟩, (cell_blk h.w 1).2, (cell_blk h.w 2).2⟩
structure DoW (Wb A b cap : Nat) (s : ASt) (w0 X : World) : Prop where
  w : X.heap[Wb]? = some (.cells #[.pointer (some ⟨A, 0, none⟩), .slice (some ⟨b, 0, none⟩) s.L cap, .int .i64 (refR s)] 33 (0, 0))
  x : On A s X
  d : DocB b (gS s) X
  m : Mine A Wb X
  bs : Base A w0 X
  ws : w0.heap.size ≤ Wb
theorem DoW.start {Wb A b cap : Nat} {s : ASt} {d at_ fr n x : Int} {S : ByteArray} {w0 X : World} {o : Obj} (h : DoW Wb A b cap s w0 X) (hE : (X.alloc o).heap[X.heap.size]? = some (.cells #[.int .u8 d, .int .i64 at_, .int .i64 fr, .int .i64 n, .int .u64 x, .string S] 36 (0, 0))) (hb : Below X.heap.size X (X.alloc o)) :
    DoS Wb X.heap.size A b cap s s d at_ fr n x S w0 (X.alloc o) :=
  ⟨blk_at hb h.w, hE, h.x.below hb, h.d.below hb, h.m.went (Went.of_below h.x hb), h.bs.below h.x hb, h.ws, by have := h.m.lt; omega⟩
theorem DoS.fin {Wb E A b cap : Nat} {s : ASt} {d at_ fr n x : Int} {S : ByteArray} {w0 X : World} (h : DoS Wb E A b cap s s d at_ fr n x S w0 X) : DoW Wb A b cap s w0 X := ⟨h.w, h.x, h.d, h.m, h.bs, h.ws⟩
def DoP (Wb L : Nat) (w0 : World) (e : Ending) (w' : World) : Prop := ∃ A b cap s, e = .returned (.bool true) ∧ s.L = L ∧ DoW Wb A b cap s w0 w'
set_option maxHeartbeats 8000000 in
set_option maxRecDepth 100000 in
theorem ddo_commit {Wb A b cap : Nat} {s : ASt} {d at_ fr n x : Int} {S : ByteArray} {w0 w : World} (h : DoW Wb A b cap s w0 w) (hL : s.L ≤ 8) (hlf : s.lf ≤ 9223372036854775807) (hd : d.tmod 10 = 0) (hd0 : 0 ≤ d ∧ d ≤ 255) (ha : -9223372036854775808 ≤ at_ ∧ at_ ≤ 9223372036854775807) (hn : -9223372036854775808 ≤ n ∧ n ≤ 9223372036854775807) :
    Calls Try.prog 12 #[.pointer (some ⟨Wb, 0, none⟩), .agg #[.int .u8 d, .int .i64 at_, .int .i64 fr, .int .i64 n, .int .u64 x, .string S]] w (DoP Wb s.L w0) := by
  have HCA := Lib.hid (com_all h.x.good h.x.zero at_ n)
  obtain ⟨s', hs'⟩ : ∃ s', commitS s at_ n = s' := ⟨_, rfl⟩
  obtain ⟨er, her⟩ : ∃ er, commitE s at_ n = er := ⟨_, rfl⟩
  rw [hs', her] at HCA
  have HSL : Hid (s'.L = s.L) := Lib.hid (by rw [← hs']; unfold commitS; split; · rfl
                                             · split
                                               · exact refS_L s
                                               · exact refS_L s)
  have HRB : Hid (-9223372036854775808 ≤ refR s ∧ refR s ≤ 9223372036854775807) := Lib.hid (by unfold refR; split <;> omega)
  have HSE : Hid (commitS s at_ n = s' ∧ commitE s at_ n = er) := Lib.hid ⟨hs', her⟩
  have HDC := Lib.hid (fun (y : World) (hy : DocB b (gS s) y) => dcommit_any (cap := cap) (by rw [gS_len]; omega) (refR s) at_ n hy (by omega) (by omega) HRB.out)
  rw [← HCA.out.1, HCA.out.2.1, HCA.out.2.2, gS_len] at HDC
  clear hs' her HCA
  have hE := heap_new w (.cells #[.int .u8 d, .int .i64 at_, .int .i64 fr, .int .i64 n, .int .u64 x, .string S] 36)
  have hb0 := bel1 w (.cells #[.int .u8 d, .int .i64 at_, .int .i64 fr, .int .i64 n, .int .u64 x, .string S] 36)
  have hds := h.start hE hb0
  clear hE hb0
  go_enter Try.func12, Try.ntmps12
  go_upto_region 1 with fail
  change Code.wp _ _ _ _ (w.alloc (.cells #[.int .u8 d, .int .i64 at_, .int .i64 fr, .int .i64 n, .int .u64 x, .string S] 36))
  obtain ⟨y, hy⟩ : ∃ y, w.alloc (.cells #[.int .u8 d, .int .i64 at_, .int .i64 fr, .int .i64 n, .int .u64 x, .string S] 36) = y := ⟨_, rfl⟩
  obtain ⟨E, hEE⟩ : ∃ E, w.heap.size = E := ⟨_, rfl⟩
  rw [hy, hEE] at hds
  rw [hy, hEE]
  have H := Lib.hid hds
  clear hy hEE hds
  obtain ⟨⟨s1, s2, s3⟩, ⟨s4, s5, s6, s7, s8, s9⟩, s10, s11⟩ := H.out.cells
  go_upto_region 8 with fail
  have hS0 := H.out.below (Below.refl y.heap.size y).drew
  clear H s1 s2 s3 s4 s5 s6 s7 s8 s9 s10 s11
  refine wp_region_held_drew (S := fun X => ∃ s', DoS Wb E A b cap s' s d at_ fr n x S w0 X) (by kernel_rfl) ⟨_, hS0⟩ (fun hHeld => ?_)
  refine wpAnyH_take (i := 0) (v := (.pointer (some ⟨Wb, 0, none⟩))) rfl (by kernel_rfl) (by kernel_rfl) (by kernel_rfl) (fun _ _ _ h => h) (Or.inl ⟨by rfl, fun X hS => ?_⟩) hHeld ?_
  · obtain ⟨s9x, hs9x⟩ := hS
    obtain ⟨⟨s1, s2, s3⟩, ⟨s4, s5, s6, s7, s8, s9⟩, s10, s11⟩ := hs9x.cells
    go_simp
  try simp only [Act.put, List.getElem_toArray, List.getElem_cons_zero, List.getElem_cons_succ, List.setIfInBounds_toArray, List.set_cons_zero, List.set_cons_succ]
  refine wpAnyH_take (i := 1) (v := (.pointer (some ⟨Wb, 0, none⟩))) rfl (by kernel_rfl) (by kernel_rfl) (by kernel_rfl) (fun _ _ _ h => h) (Or.inl ⟨by rfl, fun X hS => ?_⟩) hHeld ?_
  · obtain ⟨s9x, hs9x⟩ := hS
    obtain ⟨⟨s1, s2, s3⟩, ⟨s4, s5, s6, s7, s8, s9⟩, s10, s11⟩ := hs9x.cells
    go_simp
  try simp only [Act.put, List.getElem_toArray, List.getElem_cons_zero, List.getElem_cons_succ, List.setIfInBounds_toArray, List.set_cons_zero, List.set_cons_succ]
  refine wpAnyH_take (i := 2) (v := (.pointer (some ⟨Wb, 0, none⟩))) rfl (by kernel_rfl) (by kernel_rfl) (by kernel_rfl) (fun _ _ _ h => h) (Or.inl ⟨by rfl, fun X hS => ?_⟩) hHeld ?_
  · obtain ⟨s9x, hs9x⟩ := hS
    obtain ⟨⟨s1, s2, s3⟩, ⟨s4, s5, s6, s7, s8, s9⟩, s10, s11⟩ := hs9x.cells
    go_simp
  try simp only [Act.put, List.getElem_toArray, List.getElem_cons_zero, List.getElem_cons_succ, List.setIfInBounds_toArray, List.set_cons_zero, List.set_cons_succ]
  refine wpAnyH_take (i := 3) (v := (.pointer (some ⟨A, 0, none⟩))) rfl (by kernel_rfl) (by kernel_rfl) (by kernel_rfl) (fun _ _ _ h => h) (Or.inl ⟨by rfl, fun X hS => ?_⟩) hHeld ?_
  · obtain ⟨s9x, hs9x⟩ := hS
    obtain ⟨⟨s1, s2, s3⟩, ⟨s4, s5, s6, s7, s8, s9⟩, s10, s11⟩ := hs9x.cells
    go_simp
  try simp only [Act.put, List.getElem_toArray, List.getElem_cons_zero, List.getElem_cons_succ, List.setIfInBounds_toArray, List.set_cons_zero, List.set_cons_succ]
  refine wpAnyH_take (i := 4) (v := (.pointer (some ⟨E, 1, none⟩))) rfl (by kernel_rfl) (by kernel_rfl) (by kernel_rfl) (fun _ _ _ h => h) (Or.inl ⟨by rfl, fun X hS => ?_⟩) hHeld ?_
  · obtain ⟨s9x, hs9x⟩ := hS
    obtain ⟨⟨s1, s2, s3⟩, ⟨s4, s5, s6, s7, s8, s9⟩, s10, s11⟩ := hs9x.cells
    go_simp
  try simp only [Act.put, List.getElem_toArray, List.getElem_cons_zero, List.getElem_cons_succ, List.setIfInBounds_toArray, List.set_cons_zero, List.set_cons_succ]
  refine wpAnyH_take (i := 5) (v := (.int .i64 at_)) rfl (by kernel_rfl) (by kernel_rfl) (by kernel_rfl) (fun _ _ _ h => h) (Or.inl ⟨by rfl, fun X hS => ?_⟩) hHeld ?_
  · obtain ⟨s9x, hs9x⟩ := hS
    obtain ⟨⟨s1, s2, s3⟩, ⟨s4, s5, s6, s7, s8, s9⟩, s10, s11⟩ := hs9x.cells
    go_simp
  try simp only [Act.put, List.getElem_toArray, List.getElem_cons_zero, List.getElem_cons_succ, List.setIfInBounds_toArray, List.set_cons_zero, List.set_cons_succ]
  refine wpAnyH_take (i := 6) (v := (.pointer (some ⟨E, 3, none⟩))) rfl (by kernel_rfl) (by kernel_rfl) (by kernel_rfl) (fun _ _ _ h => h) (Or.inl ⟨by rfl, fun X hS => ?_⟩) hHeld ?_
  · obtain ⟨s9x, hs9x⟩ := hS
    obtain ⟨⟨s1, s2, s3⟩, ⟨s4, s5, s6, s7, s8, s9⟩, s10, s11⟩ := hs9x.cells
    go_simp
  try simp only [Act.put, List.getElem_toArray, List.getElem_cons_zero, List.getElem_cons_succ, List.setIfInBounds_toArray, List.set_cons_zero, List.set_cons_succ]
  refine wpAnyH_take (i := 7) (v := (.int .i64 n)) rfl (by kernel_rfl) (by kernel_rfl) (by kernel_rfl) (fun _ _ _ h => h) (Or.inl ⟨by rfl, fun X hS => ?_⟩) hHeld ?_
  · obtain ⟨s9x, hs9x⟩ := hS
    obtain ⟨⟨s1, s2, s3⟩, ⟨s4, s5, s6, s7, s8, s9⟩, s10, s11⟩ := hs9x.cells
    go_simp
  try simp only [Act.put, List.getElem_toArray, List.getElem_cons_zero, List.getElem_cons_succ, List.setIfInBounds_toArray, List.set_cons_zero, List.set_cons_succ]
  have HD := Lib.hid hS0
  clear hS0 hHeld
  refine wpAnyH_ready (rs := [8]) (by kernel_rfl) (by simp) (AllReadyH.cons rfl (fun K1 hK1 => ?_) AllReadyH.nil)
  go_simp
  have hcm := on_commit HD.out.x at_ n (by omega)
  rw [HSE.out.1, HSE.out.2] at hcm
  refine hcm.mono ?_
  rintro e w2 ⟨rfl, hx, hg⟩
  have HD2 := Lib.hid (HD.out.went hx hg)
  clear hx hg
  refine hK1.out _ _ ⟨_, HD2.out⟩ (fun hHeld => ?_)
  clear hK1
  try simp only [Act.put, List.getElem_toArray, List.getElem_cons_zero, List.getElem_cons_succ, List.setIfInBounds_toArray, List.set_cons_zero, List.set_cons_succ]
  refine wpAnyH_take (i := 9) (v := (.int .i64 er)) rfl (by kernel_rfl) (by kernel_rfl) (by kernel_rfl) (fun _ _ _ h => h) (Or.inl ⟨by rfl, fun X hS => ?_⟩) hHeld ?_
  · obtain ⟨s9x, hs9x⟩ := hS
    obtain ⟨⟨s1, s2, s3⟩, ⟨s4, s5, s6, s7, s8, s9⟩, s10, s11⟩ := hs9x.cells
    go_simp
  try simp only [Act.put, List.getElem_toArray, List.getElem_cons_zero, List.getElem_cons_succ, List.setIfInBounds_toArray, List.set_cons_zero, List.set_cons_succ]
  clear hHeld
  refine wpAnyH_done (by kernel_rfl) ?_ _
  go_upto_region 9 with fail
  have hS0 := HD2.out.below (Below.refl w2.heap.size w2).drew
  clear HD2 HD
  refine wp_region_held_drew (S := fun X => X.cell? ⟨E, 0, none⟩ = some (.int .u8 d) ∧ X.cell? ⟨E, 1, none⟩ = some (.int .i64 at_) ∧ X.cell? ⟨E, 2, none⟩ = some (.int .i64 fr) ∧ X.cell? ⟨E, 3, none⟩ = some (.int .i64 n) ∧ X.cell? ⟨E, 4, none⟩ = some (.int .u64 x) ∧ X.cell? ⟨E, 5, none⟩ = some (.string S)) (by kernel_rfl) hS0.cells.2.1 (fun hHeld => ?_)
  refine wpAnyH_take (i := 0) (v := (.pointer (some ⟨Wb, 0, none⟩))) rfl (by kernel_rfl) (by kernel_rfl) (by kernel_rfl) (fun _ _ _ h => h) (Or.inl ⟨by rfl, fun X hS => ?_⟩) hHeld ?_
  · obtain ⟨s4, s5, s6, s7, s8, s9⟩ := hS
    go_simp
  try simp only [Act.put, List.getElem_toArray, List.getElem_cons_zero, List.getElem_cons_succ, List.setIfInBounds_toArray, List.set_cons_zero, List.set_cons_succ]
  refine wpAnyH_take (i := 1) (v := (.pointer (some ⟨Wb, 0, none⟩))) rfl (by kernel_rfl) (by kernel_rfl) (by kernel_rfl) (fun _ _ _ h => h) (Or.inl ⟨by rfl, fun X hS => ?_⟩) hHeld ?_
  · obtain ⟨s4, s5, s6, s7, s8, s9⟩ := hS
    go_simp
  try simp only [Act.put, List.getElem_toArray, List.getElem_cons_zero, List.getElem_cons_succ, List.setIfInBounds_toArray, List.set_cons_zero, List.set_cons_succ]
  refine wpAnyH_take (i := 2) (v := (.pointer (some ⟨Wb, 0, none⟩))) rfl (by kernel_rfl) (by kernel_rfl) (by kernel_rfl) (fun _ _ _ h => h) (Or.inl ⟨by rfl, fun X hS => ?_⟩) hHeld ?_
  · obtain ⟨s4, s5, s6, s7, s8, s9⟩ := hS
    go_simp
  try simp only [Act.put, List.getElem_toArray, List.getElem_cons_zero, List.getElem_cons_succ, List.setIfInBounds_toArray, List.set_cons_zero, List.set_cons_succ]
  refine wpAnyH_take (i := 3) (v := (.pointer (some ⟨Wb, 1, none⟩))) rfl (by kernel_rfl) (by kernel_rfl) (by kernel_rfl) (fun _ _ _ h => h) (Or.inl ⟨by rfl, fun X hS => ?_⟩) hHeld ?_
  · obtain ⟨s4, s5, s6, s7, s8, s9⟩ := hS
    go_simp
  try simp only [Act.put, List.getElem_toArray, List.getElem_cons_zero, List.getElem_cons_succ, List.setIfInBounds_toArray, List.set_cons_zero, List.set_cons_succ]
  refine wpAnyH_take (i := 5) (v := (.pointer (some ⟨E, 1, none⟩))) rfl (by kernel_rfl) (by kernel_rfl) (by kernel_rfl) (fun _ _ _ h => h) (Or.inl ⟨by rfl, fun X hS => ?_⟩) hHeld ?_
  · obtain ⟨s4, s5, s6, s7, s8, s9⟩ := hS
    go_simp
  try simp only [Act.put, List.getElem_toArray, List.getElem_cons_zero, List.getElem_cons_succ, List.setIfInBounds_toArray, List.set_cons_zero, List.set_cons_succ]
  refine wpAnyH_take (i := 6) (v := (.int .i64 at_)) rfl (by kernel_rfl) (by kernel_rfl) (by kernel_rfl) (fun _ _ _ h => h) (Or.inl ⟨by rfl, fun X hS => ?_⟩) hHeld ?_
  · obtain ⟨s4, s5, s6, s7, s8, s9⟩ := hS
    go_simp
  try simp only [Act.put, List.getElem_toArray, List.getElem_cons_zero, List.getElem_cons_succ, List.setIfInBounds_toArray, List.set_cons_zero, List.set_cons_succ]
  refine wpAnyH_take (i := 7) (v := (.pointer (some ⟨E, 3, none⟩))) rfl (by kernel_rfl) (by kernel_rfl) (by kernel_rfl) (fun _ _ _ h => h) (Or.inl ⟨by rfl, fun X hS => ?_⟩) hHeld ?_
  · obtain ⟨s4, s5, s6, s7, s8, s9⟩ := hS
    go_simp
  try simp only [Act.put, List.getElem_toArray, List.getElem_cons_zero, List.getElem_cons_succ, List.setIfInBounds_toArray, List.set_cons_zero, List.set_cons_succ]
  refine wpAnyH_take (i := 8) (v := (.int .i64 n)) rfl (by kernel_rfl) (by kernel_rfl) (by kernel_rfl) (fun _ _ _ h => h) (Or.inl ⟨by rfl, fun X hS => ?_⟩) hHeld ?_
  · obtain ⟨s4, s5, s6, s7, s8, s9⟩ := hS
    go_simp
  try simp only [Act.put, List.getElem_toArray, List.getElem_cons_zero, List.getElem_cons_succ, List.setIfInBounds_toArray, List.set_cons_zero, List.set_cons_succ]
  have HD := Lib.hid hS0
  clear hS0 hHeld
  refine wpAnyH_ready (rs := [4]) (by kernel_rfl) (by simp) (AllReadyH.cons rfl (fun K1 hK1 => ?_) AllReadyH.nil)
  obtain ⟨⟨s1, s2, s3⟩, ⟨s4, s5, s6, s7, s8, s9⟩, s10, s11⟩ := HD.out.cells
  go_simp
  clear s1 s2 s3 s4 s5 s6 s7 s8 s9 s10 s11
  refine hK1.out _ _ HD.out.cells.2.1 (fun hHeld => ?_)
  clear hK1
  try simp only [Act.put, List.getElem_toArray, List.getElem_cons_zero, List.getElem_cons_succ, List.setIfInBounds_toArray, List.set_cons_zero, List.set_cons_succ]
  clear hHeld
  refine wpAnyH_ready (rs := [9]) (by kernel_rfl) (by simp) (AllReadyH.cons rfl (fun K1 hK1 => ?_) AllReadyH.nil)
  go_simp
  refine (HDC.out _ HD.out.d).mono ?_
  rintro e w3 ⟨b2, cap2, rfl, hd2, hb⟩
  rw [gS_len]
  have HD3 := Lib.hid (HD.out.below hb)
  have HD4 := Lib.hid (HD3.out.put (cap2 := cap2) hd2)
  clear hd2 hb
  refine hK1.out _ _ HD3.out.cells.2.1 (fun hHeld => ?_)
  clear hK1
  try simp only [Act.put, List.getElem_toArray, List.getElem_cons_zero, List.getElem_cons_succ, List.setIfInBounds_toArray, List.set_cons_zero, List.set_cons_succ]
  refine wpAnyH_take (i := 10) (v := (.tuple #[.agg #[.slice (some ⟨b2, 0, none⟩) s'.L cap2, .int .i64 (refR s')], .int .i64 er])) rfl (by kernel_rfl) (by kernel_rfl) (by kernel_rfl) (fun _ _ _ h => h) (Or.inl ⟨by rfl, fun X hS => ?_⟩) hHeld ?_
  · obtain ⟨s4, s5, s6, s7, s8, s9⟩ := hS
    go_simp
  try simp only [Act.put, List.getElem_toArray, List.getElem_cons_zero, List.getElem_cons_succ, List.setIfInBounds_toArray, List.set_cons_zero, List.set_cons_succ]
  refine wpAnyH_take (i := 11) (v := (.agg #[.slice (some ⟨b2, 0, none⟩) s'.L cap2, .int .i64 (refR s')])) rfl (by kernel_rfl) (by kernel_rfl) (by kernel_rfl) (fun _ _ _ h => h) (Or.inl ⟨by rfl, fun X hS => ?_⟩) hHeld ?_
  · obtain ⟨s4, s5, s6, s7, s8, s9⟩ := hS
    go_simp
  try simp only [Act.put, List.getElem_toArray, List.getElem_cons_zero, List.getElem_cons_succ, List.setIfInBounds_toArray, List.set_cons_zero, List.set_cons_succ]
  refine wpAnyH_take (i := 12) (v := (.int .i64 er)) rfl (by kernel_rfl) (by kernel_rfl) (by kernel_rfl) (fun _ _ _ h => h) (Or.inl ⟨by rfl, fun X hS => ?_⟩) hHeld ?_
  · obtain ⟨s4, s5, s6, s7, s8, s9⟩ := hS
    go_simp
  try simp only [Act.put, List.getElem_toArray, List.getElem_cons_zero, List.getElem_cons_succ, List.setIfInBounds_toArray, List.set_cons_zero, List.set_cons_succ]
  refine wpAnyH_take (i := 13) (v := (.pointer (some ⟨Wb, 0, none⟩))) rfl (by kernel_rfl) (by kernel_rfl) (by kernel_rfl) (fun _ _ _ h => h) (Or.inl ⟨by rfl, fun X hS => ?_⟩) hHeld ?_
  · obtain ⟨s4, s5, s6, s7, s8, s9⟩ := hS
    go_simp
  try simp only [Act.put, List.getElem_toArray, List.getElem_cons_zero, List.getElem_cons_succ, List.setIfInBounds_toArray, List.set_cons_zero, List.set_cons_succ]
  refine wpAnyH_take (i := 14) (v := (.pointer (some ⟨Wb, 1, none⟩))) rfl (by kernel_rfl) (by kernel_rfl) (by kernel_rfl) (fun _ _ _ h => h) (Or.inl ⟨by rfl, fun X hS => ?_⟩) hHeld ?_
  · obtain ⟨s4, s5, s6, s7, s8, s9⟩ := hS
    go_simp
  try simp only [Act.put, List.getElem_toArray, List.getElem_cons_zero, List.getElem_cons_succ, List.setIfInBounds_toArray, List.set_cons_zero, List.set_cons_succ]
  clear hHeld
  obtain ⟨⟨s1, s2, s3⟩, ⟨s4, s5, s6, s7, s8, s9⟩, s10, s11⟩ := HD3.out.cells
  refine wpAnyH_ready (rs := [15]) (by kernel_rfl) (by simp) (AllReadyH.cons rfl (fun K1 hK1 => ?_) AllReadyH.nil)
  go_simp
  refine hK1.out _ _ HD4.out.cells.2.1 (fun hHeld => ?_)
  clear hK1
  try simp only [Act.put, List.getElem_toArray, List.getElem_cons_zero, List.getElem_cons_succ, List.setIfInBounds_toArray, List.set_cons_zero, List.set_cons_succ]
  clear s1 s2 s3 s4 s5 s6 s7 s8 s9 s10 s11
  refine wpAnyH_take (i := 16) (v := (.int .i64 er)) rfl (by kernel_rfl) (by kernel_rfl) (by kernel_rfl) (fun _ _ _ h => h) (Or.inl ⟨by rfl, fun X hS => ?_⟩) hHeld ?_
  · obtain ⟨s4, s5, s6, s7, s8, s9⟩ := hS
    go_simp
  try simp only [Act.put, List.getElem_toArray, List.getElem_cons_zero, List.getElem_cons_succ, List.setIfInBounds_toArray, List.set_cons_zero, List.set_cons_succ]
  clear hHeld
  refine wpAnyH_done (by kernel_rfl) ?_ _
  have hee : (er == er) = true := by simp
  go_wp2_with fail
  go_ret
  exact ⟨A, b2, cap2, s', rfl, HSL.out, HD4.out.fin⟩
end Go.Proofs.Ytdmaendhkenmgaa.Bt
/- law03's do: Decommit. (Written by gen_dcv.py.) -/
namespace Go.Proofs.Ytdmaendhkenmgaa.Bt
open Go Go.RowKit Go.Shelf
set_option linter.unusedVariables false
set_option linter.unusedSimpArgs false

set_option maxHeartbeats 8000000 in
set_option maxRecDepth 100000 in
theorem ddo_decommit {Wb A b cap : Nat} {s : ASt} {d at_ fr n x : Int} {S : ByteArray} {w0 w : World} (h : DoW Wb A b cap s w0 w) (hL : s.L ≤ 8) (hlf : s.lf ≤ 9223372036854775807) (hd : d.tmod 10 = 1) (hd0 : 0 ≤ d ∧ d ≤ 255) (ha : -9223372036854775808 ≤ at_ ∧ at_ ≤ 9223372036854775807) (hn : -9223372036854775808 ≤ n ∧ n ≤ 9223372036854775807) :
    Calls Try.prog 12 #[.pointer (some ⟨Wb, 0, none⟩), .agg #[.int .u8 d, .int .i64 at_, .int .i64 fr, .int .i64 n, .int .u64 x, .string S]] w (DoP Wb s.L w0) := by
  have HCA := Lib.hid (show decE s at_ n = wrongG (gS s) at_ n true 8 ∧ dDecG (gS s) at_ n = gS (decS s at_ n) ∧ refR (decS s at_ n) = refR s from ⟨(wrong_dec s at_ n).symm, dec_all h.x.good at_ n, by unfold decS; split <;> rfl⟩)
  obtain ⟨s', hs'⟩ : ∃ s', decS s at_ n = s' := ⟨_, rfl⟩
  obtain ⟨er, her⟩ : ∃ er, decE s at_ n = er := ⟨_, rfl⟩
  rw [hs', her] at HCA
  have HSL : Hid (s'.L = s.L) := Lib.hid (by rw [← hs']; unfold decS; split <;> rfl)
  have HRS : Hid (refR s' = refR s) := Lib.hid HCA.out.2.2
  have HRB : Hid (-9223372036854775808 ≤ refR s ∧ refR s ≤ 9223372036854775807) := Lib.hid (by unfold refR; split <;> omega)
  have HSE : Hid (decS s at_ n = s' ∧ decE s at_ n = er) := Lib.hid ⟨hs', her⟩
  have HDC := Lib.hid (fun (y : World) (hy : DocB b (gS s) y) => ddecommit_any (cap := cap) (by rw [gS_len]; omega) (refR s) at_ n hy (by omega) (by omega))
  rw [← HCA.out.1, HCA.out.2.1, gS_len] at HDC
  clear hs' her HCA
  have hE := heap_new w (.cells #[.int .u8 d, .int .i64 at_, .int .i64 fr, .int .i64 n, .int .u64 x, .string S] 36)
  have hb0 := bel1 w (.cells #[.int .u8 d, .int .i64 at_, .int .i64 fr, .int .i64 n, .int .u64 x, .string S] 36)
  have hds := h.start hE hb0
  clear hE hb0
  go_enter Try.func12, Try.ntmps12
  go_upto_region 1 with fail
  change Code.wp _ _ _ _ (w.alloc (.cells #[.int .u8 d, .int .i64 at_, .int .i64 fr, .int .i64 n, .int .u64 x, .string S] 36))
  obtain ⟨y, hy⟩ : ∃ y, w.alloc (.cells #[.int .u8 d, .int .i64 at_, .int .i64 fr, .int .i64 n, .int .u64 x, .string S] 36) = y := ⟨_, rfl⟩
  obtain ⟨E, hEE⟩ : ∃ E, w.heap.size = E := ⟨_, rfl⟩
  rw [hy, hEE] at hds
  rw [hy, hEE]
  have H := Lib.hid hds
  clear hy hEE hds
  obtain ⟨⟨s1, s2, s3⟩, ⟨s4, s5, s6, s7, s8, s9⟩, s10, s11⟩ := H.out.cells
  go_upto_region 11 with fail
  have hS0 := H.out.below (Below.refl y.heap.size y).drew
  clear H s1 s2 s3 s4 s5 s6 s7 s8 s9 s10 s11
  refine wp_region_held_drew (S := fun X => ∃ s', DoS Wb E A b cap s' s d at_ fr n x S w0 X) (by kernel_rfl) ⟨_, hS0⟩ (fun hHeld => ?_)
  refine wpAnyH_take (i := 0) (v := (.pointer (some ⟨Wb, 0, none⟩))) rfl (by kernel_rfl) (by kernel_rfl) (by kernel_rfl) (fun _ _ _ h => h) (Or.inl ⟨by rfl, fun X hS => ?_⟩) hHeld ?_
  · obtain ⟨s9x, hs9x⟩ := hS
    obtain ⟨⟨s1, s2, s3⟩, ⟨s4, s5, s6, s7, s8, s9⟩, s10, s11⟩ := hs9x.cells
    go_simp
  try simp only [Act.put, List.getElem_toArray, List.getElem_cons_zero, List.getElem_cons_succ, List.setIfInBounds_toArray, List.set_cons_zero, List.set_cons_succ]
  refine wpAnyH_take (i := 1) (v := (.pointer (some ⟨Wb, 0, none⟩))) rfl (by kernel_rfl) (by kernel_rfl) (by kernel_rfl) (fun _ _ _ h => h) (Or.inl ⟨by rfl, fun X hS => ?_⟩) hHeld ?_
  · obtain ⟨s9x, hs9x⟩ := hS
    obtain ⟨⟨s1, s2, s3⟩, ⟨s4, s5, s6, s7, s8, s9⟩, s10, s11⟩ := hs9x.cells
    go_simp
  try simp only [Act.put, List.getElem_toArray, List.getElem_cons_zero, List.getElem_cons_succ, List.setIfInBounds_toArray, List.set_cons_zero, List.set_cons_succ]
  refine wpAnyH_take (i := 2) (v := (.pointer (some ⟨Wb, 0, none⟩))) rfl (by kernel_rfl) (by kernel_rfl) (by kernel_rfl) (fun _ _ _ h => h) (Or.inl ⟨by rfl, fun X hS => ?_⟩) hHeld ?_
  · obtain ⟨s9x, hs9x⟩ := hS
    obtain ⟨⟨s1, s2, s3⟩, ⟨s4, s5, s6, s7, s8, s9⟩, s10, s11⟩ := hs9x.cells
    go_simp
  try simp only [Act.put, List.getElem_toArray, List.getElem_cons_zero, List.getElem_cons_succ, List.setIfInBounds_toArray, List.set_cons_zero, List.set_cons_succ]
  refine wpAnyH_take (i := 3) (v := (.pointer (some ⟨A, 0, none⟩))) rfl (by kernel_rfl) (by kernel_rfl) (by kernel_rfl) (fun _ _ _ h => h) (Or.inl ⟨by rfl, fun X hS => ?_⟩) hHeld ?_
  · obtain ⟨s9x, hs9x⟩ := hS
    obtain ⟨⟨s1, s2, s3⟩, ⟨s4, s5, s6, s7, s8, s9⟩, s10, s11⟩ := hs9x.cells
    go_simp
  try simp only [Act.put, List.getElem_toArray, List.getElem_cons_zero, List.getElem_cons_succ, List.setIfInBounds_toArray, List.set_cons_zero, List.set_cons_succ]
  refine wpAnyH_take (i := 4) (v := (.pointer (some ⟨E, 1, none⟩))) rfl (by kernel_rfl) (by kernel_rfl) (by kernel_rfl) (fun _ _ _ h => h) (Or.inl ⟨by rfl, fun X hS => ?_⟩) hHeld ?_
  · obtain ⟨s9x, hs9x⟩ := hS
    obtain ⟨⟨s1, s2, s3⟩, ⟨s4, s5, s6, s7, s8, s9⟩, s10, s11⟩ := hs9x.cells
    go_simp
  try simp only [Act.put, List.getElem_toArray, List.getElem_cons_zero, List.getElem_cons_succ, List.setIfInBounds_toArray, List.set_cons_zero, List.set_cons_succ]
  refine wpAnyH_take (i := 5) (v := (.int .i64 at_)) rfl (by kernel_rfl) (by kernel_rfl) (by kernel_rfl) (fun _ _ _ h => h) (Or.inl ⟨by rfl, fun X hS => ?_⟩) hHeld ?_
  · obtain ⟨s9x, hs9x⟩ := hS
    obtain ⟨⟨s1, s2, s3⟩, ⟨s4, s5, s6, s7, s8, s9⟩, s10, s11⟩ := hs9x.cells
    go_simp
  try simp only [Act.put, List.getElem_toArray, List.getElem_cons_zero, List.getElem_cons_succ, List.setIfInBounds_toArray, List.set_cons_zero, List.set_cons_succ]
  refine wpAnyH_take (i := 6) (v := (.pointer (some ⟨E, 3, none⟩))) rfl (by kernel_rfl) (by kernel_rfl) (by kernel_rfl) (fun _ _ _ h => h) (Or.inl ⟨by rfl, fun X hS => ?_⟩) hHeld ?_
  · obtain ⟨s9x, hs9x⟩ := hS
    obtain ⟨⟨s1, s2, s3⟩, ⟨s4, s5, s6, s7, s8, s9⟩, s10, s11⟩ := hs9x.cells
    go_simp
  try simp only [Act.put, List.getElem_toArray, List.getElem_cons_zero, List.getElem_cons_succ, List.setIfInBounds_toArray, List.set_cons_zero, List.set_cons_succ]
  refine wpAnyH_take (i := 7) (v := (.int .i64 n)) rfl (by kernel_rfl) (by kernel_rfl) (by kernel_rfl) (fun _ _ _ h => h) (Or.inl ⟨by rfl, fun X hS => ?_⟩) hHeld ?_
  · obtain ⟨s9x, hs9x⟩ := hS
    obtain ⟨⟨s1, s2, s3⟩, ⟨s4, s5, s6, s7, s8, s9⟩, s10, s11⟩ := hs9x.cells
    go_simp
  try simp only [Act.put, List.getElem_toArray, List.getElem_cons_zero, List.getElem_cons_succ, List.setIfInBounds_toArray, List.set_cons_zero, List.set_cons_succ]
  have HD := Lib.hid hS0
  clear hS0 hHeld
  refine wpAnyH_ready (rs := [8]) (by kernel_rfl) (by simp) (AllReadyH.cons rfl (fun K1 hK1 => ?_) AllReadyH.nil)
  go_simp
  have hcm := on_decommit HD.out.x at_ n (by omega)
  rw [HSE.out.1, HSE.out.2] at hcm
  refine hcm.mono ?_
  rintro e w2 ⟨rfl, hx, hg⟩
  have HD2 := Lib.hid (HD.out.went hx hg)
  clear hx hg
  refine hK1.out _ _ ⟨_, HD2.out⟩ (fun hHeld => ?_)
  clear hK1
  try simp only [Act.put, List.getElem_toArray, List.getElem_cons_zero, List.getElem_cons_succ, List.setIfInBounds_toArray, List.set_cons_zero, List.set_cons_succ]
  refine wpAnyH_take (i := 9) (v := (.int .i64 er)) rfl (by kernel_rfl) (by kernel_rfl) (by kernel_rfl) (fun _ _ _ h => h) (Or.inl ⟨by rfl, fun X hS => ?_⟩) hHeld ?_
  · obtain ⟨s9x, hs9x⟩ := hS
    obtain ⟨⟨s1, s2, s3⟩, ⟨s4, s5, s6, s7, s8, s9⟩, s10, s11⟩ := hs9x.cells
    go_simp
  try simp only [Act.put, List.getElem_toArray, List.getElem_cons_zero, List.getElem_cons_succ, List.setIfInBounds_toArray, List.set_cons_zero, List.set_cons_succ]
  clear hHeld
  refine wpAnyH_done (by kernel_rfl) ?_ _
  go_upto_region 12 with fail
  have hS0 := HD2.out.below (Below.refl w2.heap.size w2).drew
  clear HD2 HD
  refine wp_region_held_drew (S := fun X => X.cell? ⟨E, 0, none⟩ = some (.int .u8 d) ∧ X.cell? ⟨E, 1, none⟩ = some (.int .i64 at_) ∧ X.cell? ⟨E, 2, none⟩ = some (.int .i64 fr) ∧ X.cell? ⟨E, 3, none⟩ = some (.int .i64 n) ∧ X.cell? ⟨E, 4, none⟩ = some (.int .u64 x) ∧ X.cell? ⟨E, 5, none⟩ = some (.string S)) (by kernel_rfl) hS0.cells.2.1 (fun hHeld => ?_)
  refine wpAnyH_take (i := 0) (v := (.pointer (some ⟨Wb, 0, none⟩))) rfl (by kernel_rfl) (by kernel_rfl) (by kernel_rfl) (fun _ _ _ h => h) (Or.inl ⟨by rfl, fun X hS => ?_⟩) hHeld ?_
  · obtain ⟨s4, s5, s6, s7, s8, s9⟩ := hS
    go_simp
  try simp only [Act.put, List.getElem_toArray, List.getElem_cons_zero, List.getElem_cons_succ, List.setIfInBounds_toArray, List.set_cons_zero, List.set_cons_succ]
  refine wpAnyH_take (i := 1) (v := (.pointer (some ⟨Wb, 0, none⟩))) rfl (by kernel_rfl) (by kernel_rfl) (by kernel_rfl) (fun _ _ _ h => h) (Or.inl ⟨by rfl, fun X hS => ?_⟩) hHeld ?_
  · obtain ⟨s4, s5, s6, s7, s8, s9⟩ := hS
    go_simp
  try simp only [Act.put, List.getElem_toArray, List.getElem_cons_zero, List.getElem_cons_succ, List.setIfInBounds_toArray, List.set_cons_zero, List.set_cons_succ]
  refine wpAnyH_take (i := 2) (v := (.pointer (some ⟨Wb, 0, none⟩))) rfl (by kernel_rfl) (by kernel_rfl) (by kernel_rfl) (fun _ _ _ h => h) (Or.inl ⟨by rfl, fun X hS => ?_⟩) hHeld ?_
  · obtain ⟨s4, s5, s6, s7, s8, s9⟩ := hS
    go_simp
  try simp only [Act.put, List.getElem_toArray, List.getElem_cons_zero, List.getElem_cons_succ, List.setIfInBounds_toArray, List.set_cons_zero, List.set_cons_succ]
  refine wpAnyH_take (i := 3) (v := (.pointer (some ⟨Wb, 1, none⟩))) rfl (by kernel_rfl) (by kernel_rfl) (by kernel_rfl) (fun _ _ _ h => h) (Or.inl ⟨by rfl, fun X hS => ?_⟩) hHeld ?_
  · obtain ⟨s4, s5, s6, s7, s8, s9⟩ := hS
    go_simp
  try simp only [Act.put, List.getElem_toArray, List.getElem_cons_zero, List.getElem_cons_succ, List.setIfInBounds_toArray, List.set_cons_zero, List.set_cons_succ]
  refine wpAnyH_take (i := 5) (v := (.pointer (some ⟨E, 1, none⟩))) rfl (by kernel_rfl) (by kernel_rfl) (by kernel_rfl) (fun _ _ _ h => h) (Or.inl ⟨by rfl, fun X hS => ?_⟩) hHeld ?_
  · obtain ⟨s4, s5, s6, s7, s8, s9⟩ := hS
    go_simp
  try simp only [Act.put, List.getElem_toArray, List.getElem_cons_zero, List.getElem_cons_succ, List.setIfInBounds_toArray, List.set_cons_zero, List.set_cons_succ]
  refine wpAnyH_take (i := 6) (v := (.int .i64 at_)) rfl (by kernel_rfl) (by kernel_rfl) (by kernel_rfl) (fun _ _ _ h => h) (Or.inl ⟨by rfl, fun X hS => ?_⟩) hHeld ?_
  · obtain ⟨s4, s5, s6, s7, s8, s9⟩ := hS
    go_simp
  try simp only [Act.put, List.getElem_toArray, List.getElem_cons_zero, List.getElem_cons_succ, List.setIfInBounds_toArray, List.set_cons_zero, List.set_cons_succ]
  refine wpAnyH_take (i := 7) (v := (.pointer (some ⟨E, 3, none⟩))) rfl (by kernel_rfl) (by kernel_rfl) (by kernel_rfl) (fun _ _ _ h => h) (Or.inl ⟨by rfl, fun X hS => ?_⟩) hHeld ?_
  · obtain ⟨s4, s5, s6, s7, s8, s9⟩ := hS
    go_simp
  try simp only [Act.put, List.getElem_toArray, List.getElem_cons_zero, List.getElem_cons_succ, List.setIfInBounds_toArray, List.set_cons_zero, List.set_cons_succ]
  refine wpAnyH_take (i := 8) (v := (.int .i64 n)) rfl (by kernel_rfl) (by kernel_rfl) (by kernel_rfl) (fun _ _ _ h => h) (Or.inl ⟨by rfl, fun X hS => ?_⟩) hHeld ?_
  · obtain ⟨s4, s5, s6, s7, s8, s9⟩ := hS
    go_simp
  try simp only [Act.put, List.getElem_toArray, List.getElem_cons_zero, List.getElem_cons_succ, List.setIfInBounds_toArray, List.set_cons_zero, List.set_cons_succ]
  have HD := Lib.hid hS0
  clear hS0 hHeld
  refine wpAnyH_ready (rs := [4]) (by kernel_rfl) (by simp) (AllReadyH.cons rfl (fun K1 hK1 => ?_) AllReadyH.nil)
  obtain ⟨⟨s1, s2, s3⟩, ⟨s4, s5, s6, s7, s8, s9⟩, s10, s11⟩ := HD.out.cells
  go_simp
  clear s1 s2 s3 s4 s5 s6 s7 s8 s9 s10 s11
  refine hK1.out _ _ HD.out.cells.2.1 (fun hHeld => ?_)
  clear hK1
  try simp only [Act.put, List.getElem_toArray, List.getElem_cons_zero, List.getElem_cons_succ, List.setIfInBounds_toArray, List.set_cons_zero, List.set_cons_succ]
  clear hHeld
  refine wpAnyH_ready (rs := [9]) (by kernel_rfl) (by simp) (AllReadyH.cons rfl (fun K1 hK1 => ?_) AllReadyH.nil)
  go_simp
  refine (HDC.out _ HD.out.d).mono ?_
  rintro e w3 ⟨b2, cap2, rfl, hd2, hb⟩
  rw [gS_len]
  have HD3 := Lib.hid (HD.out.below hb)
  have HD4 := Lib.hid (HD3.out.put (cap2 := cap2) hd2)
  rw [HRS.out] at HD4
  clear hd2 hb
  refine hK1.out _ _ HD3.out.cells.2.1 (fun hHeld => ?_)
  clear hK1
  try simp only [Act.put, List.getElem_toArray, List.getElem_cons_zero, List.getElem_cons_succ, List.setIfInBounds_toArray, List.set_cons_zero, List.set_cons_succ]
  refine wpAnyH_take (i := 10) (v := (.tuple #[.agg #[.slice (some ⟨b2, 0, none⟩) s'.L cap2, .int .i64 (refR s)], .int .i64 er])) rfl (by kernel_rfl) (by kernel_rfl) (by kernel_rfl) (fun _ _ _ h => h) (Or.inl ⟨by rfl, fun X hS => ?_⟩) hHeld ?_
  · obtain ⟨s4, s5, s6, s7, s8, s9⟩ := hS
    go_simp
  try simp only [Act.put, List.getElem_toArray, List.getElem_cons_zero, List.getElem_cons_succ, List.setIfInBounds_toArray, List.set_cons_zero, List.set_cons_succ]
  refine wpAnyH_take (i := 11) (v := (.agg #[.slice (some ⟨b2, 0, none⟩) s'.L cap2, .int .i64 (refR s)])) rfl (by kernel_rfl) (by kernel_rfl) (by kernel_rfl) (fun _ _ _ h => h) (Or.inl ⟨by rfl, fun X hS => ?_⟩) hHeld ?_
  · obtain ⟨s4, s5, s6, s7, s8, s9⟩ := hS
    go_simp
  try simp only [Act.put, List.getElem_toArray, List.getElem_cons_zero, List.getElem_cons_succ, List.setIfInBounds_toArray, List.set_cons_zero, List.set_cons_succ]
  refine wpAnyH_take (i := 12) (v := (.int .i64 er)) rfl (by kernel_rfl) (by kernel_rfl) (by kernel_rfl) (fun _ _ _ h => h) (Or.inl ⟨by rfl, fun X hS => ?_⟩) hHeld ?_
  · obtain ⟨s4, s5, s6, s7, s8, s9⟩ := hS
    go_simp
  try simp only [Act.put, List.getElem_toArray, List.getElem_cons_zero, List.getElem_cons_succ, List.setIfInBounds_toArray, List.set_cons_zero, List.set_cons_succ]
  refine wpAnyH_take (i := 13) (v := (.pointer (some ⟨Wb, 0, none⟩))) rfl (by kernel_rfl) (by kernel_rfl) (by kernel_rfl) (fun _ _ _ h => h) (Or.inl ⟨by rfl, fun X hS => ?_⟩) hHeld ?_
  · obtain ⟨s4, s5, s6, s7, s8, s9⟩ := hS
    go_simp
  try simp only [Act.put, List.getElem_toArray, List.getElem_cons_zero, List.getElem_cons_succ, List.setIfInBounds_toArray, List.set_cons_zero, List.set_cons_succ]
  refine wpAnyH_take (i := 14) (v := (.pointer (some ⟨Wb, 1, none⟩))) rfl (by kernel_rfl) (by kernel_rfl) (by kernel_rfl) (fun _ _ _ h => h) (Or.inl ⟨by rfl, fun X hS => ?_⟩) hHeld ?_
  · obtain ⟨s4, s5, s6, s7, s8, s9⟩ := hS
    go_simp
  try simp only [Act.put, List.getElem_toArray, List.getElem_cons_zero, List.getElem_cons_succ, List.setIfInBounds_toArray, List.set_cons_zero, List.set_cons_succ]
  clear hHeld
  obtain ⟨⟨s1, s2, s3⟩, ⟨s4, s5, s6, s7, s8, s9⟩, s10, s11⟩ := HD3.out.cells
  refine wpAnyH_ready (rs := [15]) (by kernel_rfl) (by simp) (AllReadyH.cons rfl (fun K1 hK1 => ?_) AllReadyH.nil)
  go_simp
  refine hK1.out _ _ HD4.out.cells.2.1 (fun hHeld => ?_)
  clear hK1
  try simp only [Act.put, List.getElem_toArray, List.getElem_cons_zero, List.getElem_cons_succ, List.setIfInBounds_toArray, List.set_cons_zero, List.set_cons_succ]
  clear s1 s2 s3 s4 s5 s6 s7 s8 s9 s10 s11
  refine wpAnyH_take (i := 16) (v := (.int .i64 er)) rfl (by kernel_rfl) (by kernel_rfl) (by kernel_rfl) (fun _ _ _ h => h) (Or.inl ⟨by rfl, fun X hS => ?_⟩) hHeld ?_
  · obtain ⟨s4, s5, s6, s7, s8, s9⟩ := hS
    go_simp
  try simp only [Act.put, List.getElem_toArray, List.getElem_cons_zero, List.getElem_cons_succ, List.setIfInBounds_toArray, List.set_cons_zero, List.set_cons_succ]
  clear hHeld
  refine wpAnyH_done (by kernel_rfl) ?_ _
  have hee : (er == er) = true := by simp
  go_wp2_with fail
  go_ret
  exact ⟨A, b2, cap2, s', rfl, HSL.out, HD4.out.fin⟩
end Go.Proofs.Ytdmaendhkenmgaa.Bt
/- law03's do: Put. (Written by gen_dcw.py.) -/
namespace Go.Proofs.Ytdmaendhkenmgaa.Bt
open Go Go.RowKit Go.Shelf
set_option linter.unusedVariables false
set_option linter.unusedSimpArgs false

theorem putE_gS {s : ASt} (g : Good s.L s.es) {a : Int} {l : List UInt8} {gs' : List ByteArray} (h : PutE (gS s) gs' (thereG (gS s) a (l.length : Int)) a.toNat l) : gs' = gS (putS s a l) := by
  unfold PutE at h
  rw [gS_there g] at h
  unfold putS thereE
  cases e : thereB s.L s.es a (l.length : Int) with
  | true => rw [e, if_pos rfl] at h; simp; exact gS_put h
  | false => rw [e, if_neg (by decide)] at h; simp; exact h
theorem putS_L (s : ASt) (a : Int) (l : List UInt8) : (putS s a l).L = s.L ∧ refR (putS s a l) = refR s := by
  unfold putS; split <;> exact ⟨rfl, rfl⟩
theorem there_er {s : ASt} (g : Good s.L s.es) (a n : Int) : (if thereG (gS s) a n = true then (0 : Int) else 3) = thereE s.L s.es a n := by
  rw [gS_there g]; rfl
set_option maxHeartbeats 8000000 in
set_option maxRecDepth 100000 in
theorem ddo_put {Wb A b cap : Nat} {s : ASt} {d at_ fr n x : Int} {S : ByteArray} {w0 w : World} (h : DoW Wb A b cap s w0 w) (hL : s.L ≤ 8) (hd : d.tmod 10 = 6) (hd0 : 0 ≤ d ∧ d ≤ 255) (ha : -9223372036854775808 ≤ at_ ∧ at_ ≤ 9223372036854775807) (hS : S.size ≤ 9223372036854775807) :
    Calls Try.prog 12 #[.pointer (some ⟨Wb, 0, none⟩), .agg #[.int .u8 d, .int .i64 at_, .int .i64 fr, .int .i64 n, .int .u64 x, .string S]] w (DoP Wb s.L w0) := by
  have hlen : S.data.toList.length = S.size := rfl
  obtain ⟨s', hs'⟩ : ∃ s', putS s at_ S.data.toList = s' := ⟨_, rfl⟩
  obtain ⟨er, her⟩ : ∃ er, thereE s.L s.es at_ (S.size : Int) = er := ⟨_, rfl⟩
  have HPC := Lib.hid (fun (y : World) (hy : On A s y) => on_aput hy at_ (by omega) S hS)
  rw [hs', hlen, her] at HPC
  have HER : Hid ((if thereG (gS s) at_ (S.size : Int) = true then (0 : Int) else 3) = er) := Lib.hid (by rw [there_er h.x.good, her])
  have HGS : Hid (∀ gs', PutE (gS s) gs' (thereG (gS s) at_ (S.size : Int)) at_.toNat S.data.toList → gs' = gS s') := Lib.hid (fun gs' hp => by rw [← hs']; exact putE_gS h.x.good hp)
  have HSL : Hid (s'.L = s.L) := Lib.hid (by rw [← hs']; exact (putS_L s at_ _).1)
  have HRS : Hid (refR s' = refR s) := Lib.hid (by rw [← hs']; exact (putS_L s at_ _).2)
  have HDC := Lib.hid (fun (y : World) (hy : DocB b (gS s) y) => dput_any (cap := cap) (by rw [gS_len]; omega) (gS_ok s) (refR s) at_ S hS hy (by omega))
  rw [gS_len] at HDC
  clear hs' her
  have hE := heap_new w (.cells #[.int .u8 d, .int .i64 at_, .int .i64 fr, .int .i64 n, .int .u64 x, .string S] 36)
  have hb0 := bel1 w (.cells #[.int .u8 d, .int .i64 at_, .int .i64 fr, .int .i64 n, .int .u64 x, .string S] 36)
  have hds := h.start hE hb0
  clear hE hb0
  go_enter Try.func12, Try.ntmps12
  go_upto_region 1 with fail
  change Code.wp _ _ _ _ (w.alloc (.cells #[.int .u8 d, .int .i64 at_, .int .i64 fr, .int .i64 n, .int .u64 x, .string S] 36))
  obtain ⟨y, hy⟩ : ∃ y, w.alloc (.cells #[.int .u8 d, .int .i64 at_, .int .i64 fr, .int .i64 n, .int .u64 x, .string S] 36) = y := ⟨_, rfl⟩
  obtain ⟨E, hEE⟩ : ∃ E, w.heap.size = E := ⟨_, rfl⟩
  rw [hy, hEE] at hds
  rw [hy, hEE]
  have H := Lib.hid hds
  clear hy hEE hds
  obtain ⟨⟨s1, s2, s3⟩, ⟨s4, s5, s6, s7, s8, s9⟩, s10, s11⟩ := H.out.cells
  go_upto_region 28 with fail
  have hS0 := H.out.below (Below.refl y.heap.size y).drew
  clear H s1 s2 s3 s4 s5 s6 s7 s8 s9 s10 s11
  refine wp_region_held_drew (S := fun X => ∃ s', DoS Wb E A b cap s' s d at_ fr n x S w0 X) (by kernel_rfl) ⟨_, hS0⟩ (fun hHeld => ?_)
  refine wpAnyH_take (i := 0) (v := (.pointer (some ⟨Wb, 0, none⟩))) rfl (by kernel_rfl) (by kernel_rfl) (by kernel_rfl) (fun _ _ _ h => h) (Or.inl ⟨by rfl, fun X hS => ?_⟩) hHeld ?_
  · obtain ⟨s9x, hs9x⟩ := hS
    obtain ⟨⟨s1, s2, s3⟩, ⟨s4, s5, s6, s7, s8, s9⟩, s10, s11⟩ := hs9x.cells
    go_simp
  try simp only [Act.put, List.getElem_toArray, List.getElem_cons_zero, List.getElem_cons_succ, List.setIfInBounds_toArray, List.set_cons_zero, List.set_cons_succ]
  refine wpAnyH_take (i := 1) (v := (.pointer (some ⟨Wb, 0, none⟩))) rfl (by kernel_rfl) (by kernel_rfl) (by kernel_rfl) (fun _ _ _ h => h) (Or.inl ⟨by rfl, fun X hS => ?_⟩) hHeld ?_
  · obtain ⟨s9x, hs9x⟩ := hS
    obtain ⟨⟨s1, s2, s3⟩, ⟨s4, s5, s6, s7, s8, s9⟩, s10, s11⟩ := hs9x.cells
    go_simp
  try simp only [Act.put, List.getElem_toArray, List.getElem_cons_zero, List.getElem_cons_succ, List.setIfInBounds_toArray, List.set_cons_zero, List.set_cons_succ]
  refine wpAnyH_take (i := 2) (v := (.pointer (some ⟨Wb, 0, none⟩))) rfl (by kernel_rfl) (by kernel_rfl) (by kernel_rfl) (fun _ _ _ h => h) (Or.inl ⟨by rfl, fun X hS => ?_⟩) hHeld ?_
  · obtain ⟨s9x, hs9x⟩ := hS
    obtain ⟨⟨s1, s2, s3⟩, ⟨s4, s5, s6, s7, s8, s9⟩, s10, s11⟩ := hs9x.cells
    go_simp
  try simp only [Act.put, List.getElem_toArray, List.getElem_cons_zero, List.getElem_cons_succ, List.setIfInBounds_toArray, List.set_cons_zero, List.set_cons_succ]
  refine wpAnyH_take (i := 3) (v := (.pointer (some ⟨A, 0, none⟩))) rfl (by kernel_rfl) (by kernel_rfl) (by kernel_rfl) (fun _ _ _ h => h) (Or.inl ⟨by rfl, fun X hS => ?_⟩) hHeld ?_
  · obtain ⟨s9x, hs9x⟩ := hS
    obtain ⟨⟨s1, s2, s3⟩, ⟨s4, s5, s6, s7, s8, s9⟩, s10, s11⟩ := hs9x.cells
    go_simp
  try simp only [Act.put, List.getElem_toArray, List.getElem_cons_zero, List.getElem_cons_succ, List.setIfInBounds_toArray, List.set_cons_zero, List.set_cons_succ]
  refine wpAnyH_take (i := 4) (v := (.pointer (some ⟨E, 1, none⟩))) rfl (by kernel_rfl) (by kernel_rfl) (by kernel_rfl) (fun _ _ _ h => h) (Or.inl ⟨by rfl, fun X hS => ?_⟩) hHeld ?_
  · obtain ⟨s9x, hs9x⟩ := hS
    obtain ⟨⟨s1, s2, s3⟩, ⟨s4, s5, s6, s7, s8, s9⟩, s10, s11⟩ := hs9x.cells
    go_simp
  try simp only [Act.put, List.getElem_toArray, List.getElem_cons_zero, List.getElem_cons_succ, List.setIfInBounds_toArray, List.set_cons_zero, List.set_cons_succ]
  refine wpAnyH_take (i := 5) (v := (.int .i64 at_)) rfl (by kernel_rfl) (by kernel_rfl) (by kernel_rfl) (fun _ _ _ h => h) (Or.inl ⟨by rfl, fun X hS => ?_⟩) hHeld ?_
  · obtain ⟨s9x, hs9x⟩ := hS
    obtain ⟨⟨s1, s2, s3⟩, ⟨s4, s5, s6, s7, s8, s9⟩, s10, s11⟩ := hs9x.cells
    go_simp
  try simp only [Act.put, List.getElem_toArray, List.getElem_cons_zero, List.getElem_cons_succ, List.setIfInBounds_toArray, List.set_cons_zero, List.set_cons_succ]
  refine wpAnyH_take (i := 6) (v := (.pointer (some ⟨E, 5, none⟩))) rfl (by kernel_rfl) (by kernel_rfl) (by kernel_rfl) (fun _ _ _ h => h) (Or.inl ⟨by rfl, fun X hS => ?_⟩) hHeld ?_
  · obtain ⟨s9x, hs9x⟩ := hS
    obtain ⟨⟨s1, s2, s3⟩, ⟨s4, s5, s6, s7, s8, s9⟩, s10, s11⟩ := hs9x.cells
    go_simp
  try simp only [Act.put, List.getElem_toArray, List.getElem_cons_zero, List.getElem_cons_succ, List.setIfInBounds_toArray, List.set_cons_zero, List.set_cons_succ]
  refine wpAnyH_take (i := 7) (v := (.string S)) rfl (by kernel_rfl) (by kernel_rfl) (by kernel_rfl) (fun _ _ _ h => h) (Or.inl ⟨by rfl, fun X hS => ?_⟩) hHeld ?_
  · obtain ⟨s9x, hs9x⟩ := hS
    obtain ⟨⟨s1, s2, s3⟩, ⟨s4, s5, s6, s7, s8, s9⟩, s10, s11⟩ := hs9x.cells
    go_simp
  try simp only [Act.put, List.getElem_toArray, List.getElem_cons_zero, List.getElem_cons_succ, List.setIfInBounds_toArray, List.set_cons_zero, List.set_cons_succ]
  have HD := Lib.hid hS0
  clear hS0 hHeld
  refine wpAnyH_ready (rs := [8]) (by kernel_rfl) (by simp) (AllReadyH.cons rfl (fun K1 hK1 => ?_) AllReadyH.nil)
  go_simp
  refine (HPC.out _ HD.out.x).mono ?_
  rintro e w2 ⟨rfl, hx, hg⟩
  have HD2 := Lib.hid (HD.out.went hx hg)
  clear hx hg
  refine hK1.out _ _ ⟨_, HD2.out⟩ (fun hHeld => ?_)
  clear hK1
  try simp only [Act.put, List.getElem_toArray, List.getElem_cons_zero, List.getElem_cons_succ, List.setIfInBounds_toArray, List.set_cons_zero, List.set_cons_succ]
  refine wpAnyH_take (i := 9) (v := (.int .i64 er)) rfl (by kernel_rfl) (by kernel_rfl) (by kernel_rfl) (fun _ _ _ h => h) (Or.inl ⟨by rfl, fun X hS => ?_⟩) hHeld ?_
  · obtain ⟨s9x, hs9x⟩ := hS
    obtain ⟨⟨s1, s2, s3⟩, ⟨s4, s5, s6, s7, s8, s9⟩, s10, s11⟩ := hs9x.cells
    go_simp
  try simp only [Act.put, List.getElem_toArray, List.getElem_cons_zero, List.getElem_cons_succ, List.setIfInBounds_toArray, List.set_cons_zero, List.set_cons_succ]
  clear hHeld
  refine wpAnyH_done (by kernel_rfl) ?_ _
  go_upto_region 29 with fail
  have hS0 := HD2.out.below (Below.refl w2.heap.size w2).drew
  clear HD2 HD
  refine wp_region_held_drew (S := fun X => X.cell? ⟨E, 0, none⟩ = some (.int .u8 d) ∧ X.cell? ⟨E, 1, none⟩ = some (.int .i64 at_) ∧ X.cell? ⟨E, 2, none⟩ = some (.int .i64 fr) ∧ X.cell? ⟨E, 3, none⟩ = some (.int .i64 n) ∧ X.cell? ⟨E, 4, none⟩ = some (.int .u64 x) ∧ X.cell? ⟨E, 5, none⟩ = some (.string S)) (by kernel_rfl) hS0.cells.2.1 (fun hHeld => ?_)
  refine wpAnyH_take (i := 0) (v := (.pointer (some ⟨Wb, 0, none⟩))) rfl (by kernel_rfl) (by kernel_rfl) (by kernel_rfl) (fun _ _ _ h => h) (Or.inl ⟨by rfl, fun X hS => ?_⟩) hHeld ?_
  · obtain ⟨s4, s5, s6, s7, s8, s9⟩ := hS
    go_simp
  try simp only [Act.put, List.getElem_toArray, List.getElem_cons_zero, List.getElem_cons_succ, List.setIfInBounds_toArray, List.set_cons_zero, List.set_cons_succ]
  refine wpAnyH_take (i := 1) (v := (.pointer (some ⟨Wb, 0, none⟩))) rfl (by kernel_rfl) (by kernel_rfl) (by kernel_rfl) (fun _ _ _ h => h) (Or.inl ⟨by rfl, fun X hS => ?_⟩) hHeld ?_
  · obtain ⟨s4, s5, s6, s7, s8, s9⟩ := hS
    go_simp
  try simp only [Act.put, List.getElem_toArray, List.getElem_cons_zero, List.getElem_cons_succ, List.setIfInBounds_toArray, List.set_cons_zero, List.set_cons_succ]
  refine wpAnyH_take (i := 2) (v := (.pointer (some ⟨Wb, 0, none⟩))) rfl (by kernel_rfl) (by kernel_rfl) (by kernel_rfl) (fun _ _ _ h => h) (Or.inl ⟨by rfl, fun X hS => ?_⟩) hHeld ?_
  · obtain ⟨s4, s5, s6, s7, s8, s9⟩ := hS
    go_simp
  try simp only [Act.put, List.getElem_toArray, List.getElem_cons_zero, List.getElem_cons_succ, List.setIfInBounds_toArray, List.set_cons_zero, List.set_cons_succ]
  refine wpAnyH_take (i := 3) (v := (.pointer (some ⟨Wb, 1, none⟩))) rfl (by kernel_rfl) (by kernel_rfl) (by kernel_rfl) (fun _ _ _ h => h) (Or.inl ⟨by rfl, fun X hS => ?_⟩) hHeld ?_
  · obtain ⟨s4, s5, s6, s7, s8, s9⟩ := hS
    go_simp
  try simp only [Act.put, List.getElem_toArray, List.getElem_cons_zero, List.getElem_cons_succ, List.setIfInBounds_toArray, List.set_cons_zero, List.set_cons_succ]
  refine wpAnyH_take (i := 5) (v := (.pointer (some ⟨E, 1, none⟩))) rfl (by kernel_rfl) (by kernel_rfl) (by kernel_rfl) (fun _ _ _ h => h) (Or.inl ⟨by rfl, fun X hS => ?_⟩) hHeld ?_
  · obtain ⟨s4, s5, s6, s7, s8, s9⟩ := hS
    go_simp
  try simp only [Act.put, List.getElem_toArray, List.getElem_cons_zero, List.getElem_cons_succ, List.setIfInBounds_toArray, List.set_cons_zero, List.set_cons_succ]
  refine wpAnyH_take (i := 6) (v := (.int .i64 at_)) rfl (by kernel_rfl) (by kernel_rfl) (by kernel_rfl) (fun _ _ _ h => h) (Or.inl ⟨by rfl, fun X hS => ?_⟩) hHeld ?_
  · obtain ⟨s4, s5, s6, s7, s8, s9⟩ := hS
    go_simp
  try simp only [Act.put, List.getElem_toArray, List.getElem_cons_zero, List.getElem_cons_succ, List.setIfInBounds_toArray, List.set_cons_zero, List.set_cons_succ]
  refine wpAnyH_take (i := 7) (v := (.pointer (some ⟨E, 5, none⟩))) rfl (by kernel_rfl) (by kernel_rfl) (by kernel_rfl) (fun _ _ _ h => h) (Or.inl ⟨by rfl, fun X hS => ?_⟩) hHeld ?_
  · obtain ⟨s4, s5, s6, s7, s8, s9⟩ := hS
    go_simp
  try simp only [Act.put, List.getElem_toArray, List.getElem_cons_zero, List.getElem_cons_succ, List.setIfInBounds_toArray, List.set_cons_zero, List.set_cons_succ]
  refine wpAnyH_take (i := 8) (v := (.string S)) rfl (by kernel_rfl) (by kernel_rfl) (by kernel_rfl) (fun _ _ _ h => h) (Or.inl ⟨by rfl, fun X hS => ?_⟩) hHeld ?_
  · obtain ⟨s4, s5, s6, s7, s8, s9⟩ := hS
    go_simp
  try simp only [Act.put, List.getElem_toArray, List.getElem_cons_zero, List.getElem_cons_succ, List.setIfInBounds_toArray, List.set_cons_zero, List.set_cons_succ]
  have HD := Lib.hid hS0
  clear hS0 hHeld
  refine wpAnyH_ready (rs := [4]) (by kernel_rfl) (by simp) (AllReadyH.cons rfl (fun K1 hK1 => ?_) AllReadyH.nil)
  obtain ⟨⟨s1, s2, s3⟩, ⟨s4, s5, s6, s7, s8, s9⟩, s10, s11⟩ := HD.out.cells
  go_simp
  clear s1 s2 s3 s4 s5 s6 s7 s8 s9 s10 s11
  refine hK1.out _ _ HD.out.cells.2.1 (fun hHeld => ?_)
  clear hK1
  try simp only [Act.put, List.getElem_toArray, List.getElem_cons_zero, List.getElem_cons_succ, List.setIfInBounds_toArray, List.set_cons_zero, List.set_cons_succ]
  clear hHeld
  refine wpAnyH_ready (rs := [9]) (by kernel_rfl) (by simp) (AllReadyH.cons rfl (fun K1 hK1 => ?_) AllReadyH.nil)
  go_simp
  refine (HDC.out _ HD.out.d).mono ?_
  rintro e w3 ⟨gs', b2, cap2, rfl, hpe, hd2, hb⟩
  have hgs := HGS.out gs' hpe
  subst hgs
  rw [gS_len, HER.out]
  have HD3 := Lib.hid (HD.out.below hb)
  have HD4 := Lib.hid (HD3.out.put (cap2 := cap2) hd2)
  rw [HRS.out] at HD4
  clear hd2 hb hpe
  refine hK1.out _ _ HD3.out.cells.2.1 (fun hHeld => ?_)
  clear hK1
  try simp only [Act.put, List.getElem_toArray, List.getElem_cons_zero, List.getElem_cons_succ, List.setIfInBounds_toArray, List.set_cons_zero, List.set_cons_succ]
  refine wpAnyH_take (i := 10) (v := (.tuple #[.agg #[.slice (some ⟨b2, 0, none⟩) s'.L cap2, .int .i64 (refR s)], .int .i64 er])) rfl (by kernel_rfl) (by kernel_rfl) (by kernel_rfl) (fun _ _ _ h => h) (Or.inl ⟨by rfl, fun X hS => ?_⟩) hHeld ?_
  · obtain ⟨s4, s5, s6, s7, s8, s9⟩ := hS
    go_simp
  try simp only [Act.put, List.getElem_toArray, List.getElem_cons_zero, List.getElem_cons_succ, List.setIfInBounds_toArray, List.set_cons_zero, List.set_cons_succ]
  refine wpAnyH_take (i := 11) (v := (.agg #[.slice (some ⟨b2, 0, none⟩) s'.L cap2, .int .i64 (refR s)])) rfl (by kernel_rfl) (by kernel_rfl) (by kernel_rfl) (fun _ _ _ h => h) (Or.inl ⟨by rfl, fun X hS => ?_⟩) hHeld ?_
  · obtain ⟨s4, s5, s6, s7, s8, s9⟩ := hS
    go_simp
  try simp only [Act.put, List.getElem_toArray, List.getElem_cons_zero, List.getElem_cons_succ, List.setIfInBounds_toArray, List.set_cons_zero, List.set_cons_succ]
  refine wpAnyH_take (i := 12) (v := (.int .i64 er)) rfl (by kernel_rfl) (by kernel_rfl) (by kernel_rfl) (fun _ _ _ h => h) (Or.inl ⟨by rfl, fun X hS => ?_⟩) hHeld ?_
  · obtain ⟨s4, s5, s6, s7, s8, s9⟩ := hS
    go_simp
  try simp only [Act.put, List.getElem_toArray, List.getElem_cons_zero, List.getElem_cons_succ, List.setIfInBounds_toArray, List.set_cons_zero, List.set_cons_succ]
  refine wpAnyH_take (i := 13) (v := (.pointer (some ⟨Wb, 0, none⟩))) rfl (by kernel_rfl) (by kernel_rfl) (by kernel_rfl) (fun _ _ _ h => h) (Or.inl ⟨by rfl, fun X hS => ?_⟩) hHeld ?_
  · obtain ⟨s4, s5, s6, s7, s8, s9⟩ := hS
    go_simp
  try simp only [Act.put, List.getElem_toArray, List.getElem_cons_zero, List.getElem_cons_succ, List.setIfInBounds_toArray, List.set_cons_zero, List.set_cons_succ]
  refine wpAnyH_take (i := 14) (v := (.pointer (some ⟨Wb, 1, none⟩))) rfl (by kernel_rfl) (by kernel_rfl) (by kernel_rfl) (fun _ _ _ h => h) (Or.inl ⟨by rfl, fun X hS => ?_⟩) hHeld ?_
  · obtain ⟨s4, s5, s6, s7, s8, s9⟩ := hS
    go_simp
  try simp only [Act.put, List.getElem_toArray, List.getElem_cons_zero, List.getElem_cons_succ, List.setIfInBounds_toArray, List.set_cons_zero, List.set_cons_succ]
  clear hHeld
  obtain ⟨⟨s1, s2, s3⟩, ⟨s4, s5, s6, s7, s8, s9⟩, s10, s11⟩ := HD3.out.cells
  refine wpAnyH_ready (rs := [15]) (by kernel_rfl) (by simp) (AllReadyH.cons rfl (fun K1 hK1 => ?_) AllReadyH.nil)
  go_simp
  refine hK1.out _ _ HD4.out.cells.2.1 (fun hHeld => ?_)
  clear hK1
  try simp only [Act.put, List.getElem_toArray, List.getElem_cons_zero, List.getElem_cons_succ, List.setIfInBounds_toArray, List.set_cons_zero, List.set_cons_succ]
  clear s1 s2 s3 s4 s5 s6 s7 s8 s9 s10 s11
  refine wpAnyH_take (i := 16) (v := (.int .i64 er)) rfl (by kernel_rfl) (by kernel_rfl) (by kernel_rfl) (fun _ _ _ h => h) (Or.inl ⟨by rfl, fun X hS => ?_⟩) hHeld ?_
  · obtain ⟨s4, s5, s6, s7, s8, s9⟩ := hS
    go_simp
  try simp only [Act.put, List.getElem_toArray, List.getElem_cons_zero, List.getElem_cons_succ, List.setIfInBounds_toArray, List.set_cons_zero, List.set_cons_succ]
  clear hHeld
  refine wpAnyH_done (by kernel_rfl) ?_ _
  have hee : (er == er) = true := by simp
  go_wp2_with fail
  go_ret
  exact ⟨A, b2, cap2, s', rfl, HSL.out, HD4.out.fin⟩
end Go.Proofs.Ytdmaendhkenmgaa.Bt
/- The contract of Clone: another arena, alike, of blocks of its own, but for its set's edges. -/
namespace Go.Proofs.Ytdmaendhkenmgaa.Bt
open Go Go.RowKit Go.Shelf
set_option linter.unusedVariables false

/-- the first i pages' bytes -/
def upTo (m : Nat → UInt8) (i : Nat) : Nat → UInt8 := fun k => if k / 4096 < i then m k else 0
theorem upTo_zero (m : Nat → UInt8) : upTo m 0 = fun _ => 0 := by funext k; simp [upTo]
/-- the twin, so far -/
def Twin (A' P' : Nat) (s : ASt) (p : Option Addr) (n cap i : Nat) (w wr : World) : Prop :=
  ∃ qs, ArX A' { s with mm := upTo s.mm i } P' qs p n cap wr ∧ (∀ j b : Nat, qs[j]? = some (some b) → w.heap.size ≤ b) ∧ Below w.heap.size w wr ∧ w.heap.size ≤ A' ∧ w.heap.size ≤ P'
theorem page_size : (Try.prog.info? 144).map (·.size) = some 4096 := by kernel_rfl
theorem pg_one (m : Nat → UInt8) (i : Nat) : (pgCells m i).all (·.oneCell') = true := by
  rw [Array.all_eq_true_iff_forall_mem]
  intro v hv
  simp only [pgCells, List.mem_toArray, List.mem_map] at hv
  obtain ⟨j, _, rfl⟩ := hv
  rfl
theorem pg_range {x : World} {b : Nat} {m : Nat → UInt8} {i : Nat} (h : x.heap[b]? = some (.cells (pgCells m i) 144 (0, 0))) : x.rangeAt b 0 (pgCells m i).toList := fun j v hv => by
  rw [Nat.zero_add, (cell_blk h j).1, ← Array.getElem?_toList]; exact hv
theorem bel1' (w : World) (o : Obj) : Below w.heap.size w (w.alloc o) := (Below.refl _ _).alloc (Nat.le_refl _) _
theorem pairs_new2 (x : World) (a b : Array Value) (T U : TypeId) : ((x.alloc (.cells a T)).alloc (.cells b U)).heap[x.heap.size]? = some (.cells a T (0, 0)) ∧ ((x.alloc (.cells a T)).alloc (.cells b U)).heap[x.heap.size + 1]? = some (.cells b U (0, 0)) := by
  refine ⟨(Below.heap_alloc _ _ _ (by simp)).trans (heap_new _ _), ?_⟩
  have h := heap_new (x.alloc (.cells a T)) (.cells b U)
  rwa [show (x.alloc (.cells a T)).heap.size = x.heap.size + 1 from by simp] at h
section
variable {A P n cap : Nat} {s : ASt} {ps : List (Option Nat)} {p : Option Addr} {w : World}
def ClonePost (A : Nat) (s : ASt) (w : World) (e : Ending) (w' : World) : Prop :=
  ∃ A', e = .returned (.pointer (some ⟨A', 0, none⟩)) ∧ On A' s w' ∧ Below w.heap.size w w' ∧ w.heap.size ≤ A' ∧ (∀ k, OwnW A' w' k → w.heap.size ≤ k) ∧ ∀ k, EdgW A' w' k → EdgW A w k
theorem twin_start (h : ArX A s P ps p n cap w) (w2 : World) (hw : (w.alloc (.cells (headV s (w.heap.size + 1) p n cap) 93)).alloc (.cells (rowV (List.replicate s.L none)) 131) = w2) :
    Twin w.heap.size (w.heap.size + 1) s p n cap 0 w w2 := by
  have hno : ∀ (i b : Nat), (List.replicate s.L (none : Option Nat))[i]? ≠ some (some b) := fun i b h => by
    rw [List.getElem?_replicate] at h; split at h <;> cases h
  obtain ⟨g1, g2⟩ := pairs_new2 w (headV s (w.heap.size + 1) p n cap) (rowV (List.replicate s.L none)) 93 131
  rw [hw] at g1 g2
  have hb : Below w.heap.size w w2 := by
    rw [← hw]; exact ((Below.refl _ w).alloc (Nat.le_refl _) _).alloc (by simp) _
  refine ⟨List.replicate s.L none, ?_, fun j b h => absurd h (hno j b), hb, Nat.le_refl _, by omega⟩
  exact {
    good := h.good
    len := by simp
    hd := g1
    row := g2
    pg := fun i b h => absurd h (hno i b)
    no := fun i _ j _ => by rw [upTo_zero]
    un := fun i b h => absurd h (hno i b)
    edges := h.edges.keep fun b off e => hb.block b (h.ltE e)
    num := h.num
    room := h.room
    nil := h.nil
    ap := by omega
    apg := fun i b h => absurd h (hno i b)
    one := fun i j b h _ => absurd h (hno i b)
    eap := fun b off e => ⟨by have := h.ltE e; omega, by have := h.ltE e; omega, fun i => hno i b⟩
    lfb := h.lfb }
theorem ArX.congr {A P n cap : Nat} {s : ASt} {ps : List (Option Nat)} {p : Option Addr} {x : World} (h : ArX A s P ps p n cap x) {m' : Nat → UInt8} (e : ∀ k, k < s.L * 4096 → s.mm k = m' k) : ArX A { s with mm := m' } P ps p n cap x := by
  have lt : ∀ {i : Nat} {q : Option Nat}, ps[i]? = some q → i < s.L := fun {i q} hq => by
    have := (List.getElem?_eq_some_iff.1 hq).1; rwa [h.len] at this
  exact { h with
    pg := fun i b hb => by
      have hi := lt hb
      rw [h.pg i b hb, pg_ext fun j hj => e (i * 4096 + j) (by omega)]
    no := fun i hi j hj => by
      have hl := lt hi
      show m' _ = 0
      rw [← e _ (by omega)]; exact h.no i hi j hj }
/-- a page that the arena hasn't laid -/
theorem Twin.skip (h : ArX A s P ps p n cap w) {A' P' i : Nat} {wr : World} (t : Twin A' P' s p n cap i w wr) (hq : ps[i]? = some none) : Twin A' P' s p n cap (i + 1) w wr := by
  obtain ⟨qs, hx, h1, h3⟩ := t
  have e : upTo s.mm (i + 1) = upTo s.mm i := by
    funext k
    unfold upTo
    by_cases e1 : k / 4096 < i
    · rw [if_pos e1, if_pos (by omega)]
    · rw [if_neg e1]
      by_cases e2 : k / 4096 = i
      · rw [if_pos (by omega)]
        have := h.no i hq (k % 4096) (by omega)
        rwa [show i * 4096 + k % 4096 = k by omega] at this
      · rw [if_neg (by omega)]
  exact ⟨qs, by rw [e]; exact hx, h1, h3⟩
/-- a page more is there -/
theorem Twin.more {A' P' i b : Nat} {qs : List (Option Nat)} {x : World} (hx : ArX A' { s with mm := upTo s.mm i } P' qs p n cap x) (hb : qs[i]? = some (some b)) (h1 : ∀ j b : Nat, qs[j]? = some (some b) → w.heap.size ≤ b)
    (h3 : Below w.heap.size w x) (h4 : w.heap.size ≤ A' ∧ w.heap.size ≤ P') : Twin A' P' s p n cap (i + 1) w (x.setRow b (pgCells s.mm i)) := by
  refine ⟨qs, ?_, h1, ⟨h3.os, h3.tape, h3.output, by rw [size_setRow]; exact h3.size, fun k hk => (setRow_other _ _ _ _ (by have := h1 i b hb; omega)).trans (h3.block k hk)⟩, h4⟩
  refine hx.paged (m' := upTo s.mm (i + 1)) hb (by rw [size_setRow]; exact Nat.le_refl _) ?_ (fun k _ hk => setRow_other _ _ _ _ hk) (fun k hk => ?_)
  · rw [setRow_heap _ _ _ _ _ _ (hx.pg i b hb)]
    rw [pg_ext (m := s.mm) (m' := upTo s.mm (i + 1)) fun j hj => by unfold upTo; rw [if_pos (by omega)]]
  · show upTo s.mm (i + 1) k = upTo s.mm i k
    unfold upTo
    by_cases e1 : k / 4096 < i
    · rw [if_pos e1, if_pos (by omega)]
    · rw [if_neg e1, if_neg (by omega)]
set_option maxRecDepth 100000 in
set_option maxHeartbeats 4000000 in
theorem clone_any (h : ArX A s P ps p n cap w) : Calls Try.prog 59 #[.pointer (some ⟨A, 0, none⟩)] w (ClonePost A s w) := by
  have hsm := h.good.small
  have hmk := run_pages s.L hsm
  obtain ⟨c0, c1, c2, c3, c4⟩ := h.head
  have HX := Lib.hid h
  clear h
  have hA := HX.out.ltA
  have d2 : (w.alloc (.cells #[.int .i64 (s.L : Int), .slice p n cap, .slice (some ⟨P, 0, none⟩) s.L s.L, .bool s.rf, .int .i64 (s.lf : Int)] 93)).cell? ⟨A, 2, none⟩ = some (.slice (some ⟨P, 0, none⟩) s.L s.L) :=
    ((bel1' w _).cell (p := ⟨A, 2, none⟩) hA).trans c2
  have d3 : ((w.alloc (.cells #[.int .i64 (s.L : Int), .slice p n cap, .slice (some ⟨w.heap.size + 1, 0, none⟩) s.L s.L, .bool s.rf, .int .i64 (s.lf : Int)] 93)).alloc (.cells (rowV (List.replicate s.L none)) 131)).cell? ⟨A, 2, none⟩ = some (.slice (some ⟨P, 0, none⟩) s.L s.L) :=
    ((((Below.refl _ w).alloc (Nat.le_refl _) _).alloc (by simp) _).cell (p := ⟨A, 2, none⟩) hA).trans c2
  have HST := Lib.hid (twin_start HX.out _ rfl)
  go_enter Try.func59, Try.ntmps59
  go_wp2_with fail
  go_loopw [23] (fun i wr => ∃ k : Nat, k ≤ s.L ∧ i = .int .i64 (k : Int) ∧ Twin w.heap.size (w.heap.size + 1) s p n cap k w wr) (fun i _ => s.L - (intOf i).toNat)
  case atStart => exact ⟨0, Nat.zero_le _, rfl, HST.out⟩
  case round =>
    clear HST d2 d3 c0 c1 c2 c3 c4 hmk
    obtain ⟨k, hk, rfl, ht⟩ := hrel
    by_cases hlt : k < s.L
    · have hkl : k < ps.length := by rw [HX.out.len]; exact hlt
      have hbw := ht.choose_spec.2.2.1
      cases hq : ps[k]? with
      | none => rw [List.getElem?_eq_none_iff] at hq; omega
      | some q =>
        have hsl := (HX.out.below hbw).slot hq
        cases q with
        | none =>
          simp only [ptrV] at hsl
          have HT := Lib.hid (ht.skip HX.out hq)
          clear hq ht hbw
          go_wp2_with fail
          go_roundw
          case rel => exact ⟨k + 1, by omega, by go_num, HT.out⟩
          case measure => simp [intOf]; omega
        | some b =>
          simp only [ptrV] at hsl
          have hpg := (HX.out.below hbw).pg k b hq
          have hbl := HX.out.ltG hq
          have hmem := HX.out.un k b hq
          have HPG := Lib.hid hpg
          have HT := Lib.hid ht
          have HU : Hid ((Try.prog.info? 144).map (·.size) = some (pgCells s.mm k).toList.length) := Lib.hid (by rw [page_size]; simp [pgCells])
          have HQ := Lib.hid (And.intro hq (And.intro hbl hmem))
          clear hq ht hbw hpg hbl hmem
          go_upto_region 9 with fail
          clear hsl
          have hS0 : (fun X : World => X.rangeAt b 0 (pgCells s.mm k).toList ∧ X.heap[b]? = some (.cells (pgCells s.mm k) 144 (0, 0))) wr.drew := ⟨pg_range (x := wr.drew) HPG.out, HPG.out⟩
          refine wp_region_held_drew (S := fun X : World => X.rangeAt b 0 (pgCells s.mm k).toList ∧ X.heap[b]? = some (.cells (pgCells s.mm k) 144 (0, 0))) (by kernel_rfl) hS0 (fun hHeld => ?_)
          clear hS0
          refine wpAnyH_take (i := 0) (v := (.int .i64 (k : Int))) rfl (by kernel_rfl) (by kernel_rfl) (by kernel_rfl) (fun _ _ _ h => h) (Or.inl ⟨by rfl, fun X hS => ?_⟩) hHeld ?_
          · go_simp
          try simp only [Act.put, List.getElem_toArray, List.getElem_cons_zero, List.getElem_cons_succ, List.setIfInBounds_toArray, List.set_cons_zero, List.set_cons_succ]
          refine wpAnyH_take (i := 2) (v := (.pointer (some ⟨b, 0, none⟩))) rfl (by kernel_rfl) (by kernel_rfl) (by kernel_rfl) (fun _ _ _ h => h) (Or.inl ⟨by rfl, fun X hS => ?_⟩) hHeld ?_
          · go_simp
          try simp only [Act.put, List.getElem_toArray, List.getElem_cons_zero, List.getElem_cons_succ, List.setIfInBounds_toArray, List.set_cons_zero, List.set_cons_succ]
          refine wpAnyH_take (i := 3) (v := (.pointer (some ⟨b, 0, none⟩))) rfl (by kernel_rfl) (by kernel_rfl) (by kernel_rfl) (fun _ _ _ h => h) (Or.inl ⟨by rfl, fun X hS => ?_⟩) hHeld ?_
          · go_simp
          try simp only [Act.put, List.getElem_toArray, List.getElem_cons_zero, List.getElem_cons_succ, List.setIfInBounds_toArray, List.set_cons_zero, List.set_cons_succ]
          refine wpAnyH_take (i := 4) (v := .agg (pgCells s.mm k)) rfl (by kernel_rfl) (by kernel_rfl) (by kernel_rfl) (fun _ _ _ h => h) (yieldsIf_load_mid (by rfl) 144 (.tmp 33) rfl b 0 rfl (pgCells s.mm k).toList _ (fun X hS => hS.1) Try.underlying144 rfl HU.out) hHeld ?_
          try simp only [Act.put, List.getElem_toArray, List.getElem_cons_zero, List.getElem_cons_succ, List.setIfInBounds_toArray, List.set_cons_zero, List.set_cons_succ]
          refine wpAnyH_ready (rs := [1]) (by kernel_rfl) (by simp) (AllReadyH.cons rfl (fun K1 hK1 => ?_) AllReadyH.nil)
          go_simp
          obtain ⟨qs, hx, h1q, hbw, hA1, hP1⟩ := HT.out
          have hxd : ArX w.heap.size { s with mm := upTo s.mm k } (w.heap.size + 1) qs p n cap wr.drew := hx.below (Below.refl _ _).drew
          refine (laid_page hxd k hlt HQ.out.2.2).mono ?_
          rintro e x1 ⟨b2, qs2, rfl, hqb, hx1, hst⟩
          have hnb : b ≠ b2 := fun e => by
            rcases hst.news k b2 hqb with h5 | h5
            · have := h1q k b2 h5; have := HQ.out.2.1; omega
            · have := HQ.out.2.1; have h6 : wr.heap.size ≤ b2 := h5; have := hbw.size; omega
          have hno : ¬ Own w.heap.size (w.heap.size + 1) qs b := fun ho => by
            have := HQ.out.2.1
            rcases ho with h5 | h5 | ⟨j, h5⟩
            · omega
            · omega
            · have := h1q j b h5; omega
          have hpg1 := (hst.block b (Nat.lt_of_lt_of_le HQ.out.2.1 hbw.size) hno).trans HPG.out
          have hS1 : (fun X : World => X.rangeAt b 0 (pgCells s.mm k).toList ∧ X.heap[b]? = some (.cells (pgCells s.mm k) 144 (0, 0))) x1 := ⟨pg_range hpg1, hpg1⟩
          have HM : Hid (Twin w.heap.size (w.heap.size + 1) s p n cap (k + 1) w (x1.setRow b2 (pgCells s.mm k))) := Lib.hid (Twin.more hx1 hqb (fun j c hc => by
              rcases hst.news j c hc with h5 | h5
              · exact h1q j c h5
              · exact Nat.le_trans hbw.size h5) (hbw.drew.trans (hst.below hbw.size hA1 hP1 h1q)) ⟨hA1, hP1⟩)
          have HX1 := Lib.hid (hx1.pg k b2 hqb)
          have HS2 : Hid ((fun X : World => X.rangeAt b 0 (pgCells s.mm k).toList ∧ X.heap[b]? = some (.cells (pgCells s.mm k) 144 (0, 0))) (x1.setRow b2 (pgCells s.mm k))) := Lib.hid (by
            have h7 := (setRow_other x1 b2 b (pgCells s.mm k) hnb).trans hpg1
            exact ⟨pg_range h7, h7⟩)
          clear hHeld hx h1q hbw hA1 hP1 hxd hqb hx1 hst hnb hno hpg1
          refine hK1.out _ _ hS1 (fun hHeld => ?_)
          clear hK1 hS1
          try simp only [Act.put, List.getElem_toArray, List.getElem_cons_zero, List.getElem_cons_succ, List.setIfInBounds_toArray, List.set_cons_zero, List.set_cons_succ]
          refine wpAnyH_take (i := 5) (v := .pointer (some ⟨b2, 0, none⟩)) rfl (by kernel_rfl) (by kernel_rfl) (by kernel_rfl) (fun _ _ _ h => h) (Or.inl ⟨by rfl, fun X hS => ?_⟩) hHeld ?_
          · go_simp
          try simp only [Act.put, List.getElem_toArray, List.getElem_cons_zero, List.getElem_cons_succ, List.setIfInBounds_toArray, List.set_cons_zero, List.set_cons_succ]
          refine wpAnyH_ready (rs := [6]) (by kernel_rfl) (by simp) (AllReadyH.cons rfl (fun K2 hK2 => ?_) AllReadyH.nil)
          rw [if_pos (by rfl)]
          refine wp_store_row 144 (.tmp 35) (.tmp 34) rfl b2 (pgCells s.mm k) rfl rfl 144 (pgCells (upTo s.mm k) k) HX1.out (by rw [page_size, pg_size]) (by rw [pg_size, pg_size]) (pg_one _ _) ?_
          refine hK2.out _ _ HS2.out (fun _ => ?_)
          clear hK2 hHeld HX1 HS2 HPG
          try simp only [Act.put, List.getElem_toArray, List.getElem_cons_zero, List.getElem_cons_succ, List.setIfInBounds_toArray, List.set_cons_zero, List.set_cons_succ]
          refine wpAnyH_done (by kernel_rfl) ?_ _
          go_wp2_with fail
          go_roundw
          case rel => exact ⟨k + 1, by omega, by go_num, HM.out⟩
          case measure => simp [intOf]; omega
    · have hk2 : k = s.L := by omega
      subst hk2
      have HT := Lib.hid ht
      clear ht
      go_wp2_with fail
      go_ret
      obtain ⟨qs, hx, h1q, hbw, hA1, hP1⟩ := HT.out
      have hx2 := hx.congr (m' := s.mm) fun i hi => by show upTo s.mm s.L i = s.mm i; unfold upTo; rw [if_pos (by have : i < s.L * 4096 := hi; omega)]
      refine ⟨w.heap.size, rfl, ⟨_, _, _, _, _, hx2⟩, hbw, Nat.le_refl _, fun i ho => ?_, fun i he => ?_⟩
      · rcases (ownW_iff hx2 i).1 ho with h5 | h5 | ⟨j, h5⟩
        · omega
        · omega
        · exact h1q j i h5
      · obtain ⟨off, h5⟩ := (edgW_iff hx2 i).1 he
        exact (edgW_iff HX.out i).2 ⟨off, h5⟩
end
end Go.Proofs.Ytdmaendhkenmgaa.Bt
/- The arena's Load, Store, Copy, Clone where it is there; two arenas that share nothing but a set's edges. -/
namespace Go.Proofs.Ytdmaendhkenmgaa.Bt
open Go Go.RowKit Go.Shelf
set_option linter.unusedVariables false
set_option linter.unusedSimpArgs false

section
variable {A : Nat} {s : ASt} {w : World}
theorem on_aload (h : On A s w) (a k : Int) (ha : a ≤ 9223372036854775807) :
    Calls Try.prog 44 #[.pointer (some ⟨A, 0, none⟩), .int .i64 a, .int .i64 k] w (Gives (.tuple #[.int .u64 (ldV s a k), .int .i64 (numE s.L s.es a k)]) w) := by
  obtain ⟨P, ps, p, n, cap, h⟩ := h; exact load_any h a k ha
theorem on_astore (h : On A s w) (a k x : Int) (ha : a ≤ 9223372036854775807) (hx : 0 ≤ x) :
    Calls Try.prog 43 #[.pointer (some ⟨A, 0, none⟩), .int .i64 a, .int .i64 k, .int .u64 x] w (Ret A (storeS s a k x) (.int .i64 (numE s.L s.es a k)) w) := by
  obtain ⟨P, ps, p, n, cap, h⟩ := h; exact (store_any h a k x ha hx).mono fun e w' k => On.ret h k
theorem on_acopy (h : On A s w) (t fr k : Int) (ha : t ≤ 9223372036854775807) (hf : fr ≤ 9223372036854775807) :
    Calls Try.prog 57 #[.pointer (some ⟨A, 0, none⟩), .int .i64 t, .int .i64 fr, .int .i64 k] w (Ret A (copyS s t fr k) (.int .i64 (copyE s t fr k)) w) := by
  obtain ⟨P, ps, p, n, cap, h⟩ := h; exact (copy_any h t fr k ha hf).mono fun e w' k => On.ret h k
theorem on_aclone (h : On A s w) : Calls Try.prog 59 #[.pointer (some ⟨A, 0, none⟩)] w (ClonePost A s w) := by
  obtain ⟨P, ps, p, n, cap, h⟩ := h; exact clone_any h
theorem On.lfb (h : On A s w) : s.lf ≤ 9223372036854775807 := by obtain ⟨P, ps, p, n, cap, h⟩ := h; exact h.lfb
end
/-- arena A2, in state s2, has no block of A's -/
structure Two (A A2 : Nat) (s2 : ASt) (w : World) : Prop where
  on2 : On A2 s2 w
  own : ∀ k, OwnW A2 w k → ¬ OwnW A w k
  edg : ∀ k, EdgW A2 w k → ¬ OwnW A w k
theorem On.edg_own {A : Nat} {s : ASt} {w : World} (h : On A s w) {k : Nat} (he : EdgW A w k) : ¬ OwnW A w k := by
  obtain ⟨P, ps, p, n, cap, h⟩ := h
  obtain ⟨off, ho⟩ := (edgW_iff h k).1 he
  intro hk
  obtain ⟨h1, h2, h3⟩ := h.eap _ _ ho
  rcases (ownW_iff h k).1 hk with rfl | rfl | ⟨i, hi⟩
  · exact h1 rfl
  · exact h2 rfl
  · exact h3 i hi
theorem Two.went {A A2 : Nat} {s s2 : ASt} {w w' : World} (h : Two A A2 s2 w) (hA : On A s w) (k : Went A w w') :
    Two A A2 s2 w' ∧ (∀ i, OwnW A2 w' i → OwnW A2 w i) ∧ ∀ i, EdgW A2 w' i → EdgW A2 w i := by
  obtain ⟨⟨P, ps, p, n, cap, h2⟩, ho, he⟩ := h
  have lt : ∀ i, OwnW A2 w i → i < w.heap.size := fun i hi => by
    rcases (ownW_iff h2 i).1 hi with rfl | rfl | ⟨j, hj⟩
    · exact h2.ltA
    · exact h2.ltP
    · exact h2.ltG hj
  have lte : ∀ i, EdgW A2 w i → i < w.heap.size := fun i hi => by
    obtain ⟨off, h3⟩ := (edgW_iff h2 i).1 hi
    exact h2.ltE h3
  have kb : ∀ i, OwnW A2 w i → w'.heap[i]? = w.heap[i]? := fun i hi => k.block i (lt i hi) (ho i hi)
  have ke : ∀ i, EdgW A2 w i → w'.heap[i]? = w.heap[i]? := fun i hi => k.block i (lte i hi) (he i hi)
  have h3 : ArX A2 s2 P ps p n cap w' := h2.kept k.size (kb A2 ((ownW_iff h2 _).2 (.inl rfl))) (kb P ((ownW_iff h2 _).2 (.inr (.inl rfl))))
    (fun i b hb => kb b ((ownW_iff h2 _).2 (.inr (.inr ⟨i, hb⟩)))) (fun b off e => ke b ((edgW_iff h2 _).2 ⟨off, e⟩))
  have e1 : ∀ i, OwnW A2 w' i → OwnW A2 w i := fun i hi => (ownW_iff h2 i).2 ((ownW_iff h3 i).1 hi)
  have e2 : ∀ i, EdgW A2 w' i → EdgW A2 w i := fun i hi => (edgW_iff h2 i).2 ((edgW_iff h3 i).1 hi)
  refine ⟨⟨⟨P, ps, p, n, cap, h3⟩, fun i hi hj => ?_, fun i hi hj => ?_⟩, e1, e2⟩
  · rcases k.news i hj with h4 | h4
    · exact ho i (e1 i hi) h4
    · have := lt i (e1 i hi); omega
  · rcases k.news i hj with h4 | h4
    · exact he i (e2 i hi) h4
    · have := lte i (e2 i hi); omega
/-- behind a clone -/
theorem Two.of_clone {A A2 : Nat} {s : ASt} {w w' : World} (hA : On A s w) (h2 : On A2 s w') (hb : Below w.heap.size w w') (ho : ∀ k, OwnW A2 w' k → w.heap.size ≤ k) (he : ∀ k, EdgW A2 w' k → EdgW A w k) : Two A A2 s w' := by
  obtain ⟨P, ps, p, n, cap, h⟩ := hA
  have hw := h.below hb
  refine ⟨h2, fun k hk hj => ?_, fun k hk => ?_⟩
  · have h1 := ho k hk
    rcases (ownW_iff hw k).1 hj with rfl | rfl | ⟨i, hi⟩
    · have := h.ltA; omega
    · have := h.ltP; omega
    · have := h.ltG hi; omega
  · have h1 := he k hk
    exact On.edg_own ⟨P, ps, p, n, cap, hw⟩ ((edgW_iff hw k).2 ((edgW_iff h k).1 h1))
end Go.Proofs.Ytdmaendhkenmgaa.Bt
/- What the document's Store, Fill, Copy, Load, Bytes make and tell of a program's arena is what the program's make and tell. -/
namespace Go.Proofs.Ytdmaendhkenmgaa.Bt
open Go Go.RowKit Go.Shelf
set_option linter.unusedVariables false
set_option linter.unusedSimpArgs false

/-- the document's call that returns the pages of s' and the error er -/
def DocK (s' : ASt) (er r : Int) (w : World) (e : Ending) (w' : World) : Prop :=
  ∃ b2 cap2, e = .returned (.tuple #[.agg #[.slice (some ⟨b2, 0, none⟩) s'.L cap2, .int .i64 r], .int .i64 er]) ∧ DocB b2 (gS s') w' ∧ Below w.heap.size w w'
theorem DocK.of2 {s s' : ASt} {ok : Bool} {a : Nat} {l : List UInt8} {r er : Int} {w : World} {e : Ending} {w' : World} (h : DocP2 (gS s) ok a l r w e w') (hs : ∀ gs', PutE (gS s) gs' ok a l → gs' = gS s') (he : (if ok = true then (0 : Int) else 3) = er) : DocK s' er r w e w' := by
  obtain ⟨gs', b2, cap2, h1, h2, h3, h4⟩ := h
  have := hs gs' h2
  subst this
  refine ⟨b2, cap2, ?_, h3, h4⟩
  rw [h1, gS_len, he]
section
variable {s : ASt} {b cap : Nat} {w : World}
theorem wh_whN (n : Int) : whN n = wholeB n := by
  unfold whN wholeB
  by_cases h : n = 1 ∨ n = 2 ∨ n = 4 ∨ n = 8
  · rw [decide_eq_true h]; rcases h with rfl | rfl | rfl | rfl <;> rfl
  · rw [decide_eq_false h]
    have h1 : ¬ n = 1 := fun e => h (.inl e)
    have h2 : ¬ n = 2 := fun e => h (.inr (.inl e))
    have h3 : ¬ n = 4 := fun e => h (.inr (.inr (.inl e)))
    have h4 : ¬ n = 8 := fun e => h (.inr (.inr (.inr e)))
    simp [h1, h2, h3, h4]
theorem dk_store (g : Good s.L s.es) (hL : s.L ≤ 1048576) (a n x : Int) (ha : -9223372036854775808 ≤ a ∧ a ≤ 9223372036854775807) (hx : 0 ≤ x ∧ x < 18446744073709551616) (hb : DocB b (gS s) w) :
    Calls Try.prog 52 #[.agg #[.slice (some ⟨b, 0, none⟩) s.L cap, .int .i64 (refR s)], .int .i64 a, .int .i64 n, .int .u64 x] w (DocK (storeS s a n x) (numE s.L s.es a n) (refR s) w) := by
  cases hw : whN n with
  | false =>
    have hwb : wholeB n = false := by rw [← wh_whN]; exact hw
    have h := dstore_no (cap := cap) (refR s) a n x hb hw
    rw [gS_len] at h
    refine h.mono ?_
    rintro e w' ⟨b2, cap2, h1, h2, h3⟩
    have hE : numE s.L s.es a n = 2 := by unfold numE; rw [hwb]; rfl
    have hS : storeS s a n x = s := by unfold storeS; rw [hE, if_neg (by decide)]
    rw [hS, hE]
    exact ⟨b2, cap2, by rw [h1, gS_len], h2, h3⟩
  | true =>
    have hwb : wholeB n = true := by rw [← wh_whN]; exact hw
    obtain ⟨nn, rfl⟩ := Int.eq_ofNat_of_zero_le (show 0 ≤ n by rcases whole_cases hwb with h | h | h | h <;> omega)
    obtain ⟨xn, rfl⟩ := Int.eq_ofNat_of_zero_le hx.1
    have h := dstore_yes (cap := cap) (by rw [gS_len]; exact hL) (gS_ok s) (refR s) a nn xn (by omega) hb ha hw
    rw [gS_len] at h
    have hl : ((numB (xn : Int) nn).length : Int) = (nn : Int) := by rw [numB_length]
    have hst : storeS s a (nn : Int) (xn : Int) = putS s a (numB (xn : Int) nn) := by
      unfold storeS putS numE
      rw [hwb, if_pos rfl, hl, Int.toNat_natCast]
    refine h.mono fun e w' k => DocK.of2 k (fun gs' hp => ?_) ?_
    · rw [hst]; exact putE_gS g (by rw [hl]; exact hp)
    · unfold numE; rw [hwb, if_pos rfl]; exact there_er g a nn
theorem dk_fill (g : Good s.L s.es) (hL : s.L ≤ 1048576) (a n : Int) (y : UInt8) (ha : -9223372036854775808 ≤ a ∧ a ≤ 9223372036854775807) (hn : -9223372036854775808 ≤ n ∧ n ≤ 9223372036854775807) (hb : DocB b (gS s) w) :
    Calls Try.prog 56 #[.agg #[.slice (some ⟨b, 0, none⟩) s.L cap, .int .i64 (refR s)], .int .i64 a, .int .i64 n, .int .u8 (y.toNat : Int)] w (DocK (fillS s a n y) (thereE s.L s.es a n) (refR s) w) := by
  have hy : (y.toNat : Int) ≤ 255 := by have := y.toNat_lt; omega
  have h := dfill_any (cap := cap) (by rw [gS_len]; exact hL) (gS_ok s) (refR s) a n (y.toNat : Int) hb ha hn ⟨by omega, hy⟩
  rw [gS_len] at h
  refine h.mono fun e w' k => DocK.of2 k (fun gs' hp => ?_) (there_er g a n)
  have hyy : UInt8.ofNat ((y.toNat : Int).toNat) = y := by rw [Int.toNat_natCast]; simp
  rw [hyy] at hp
  by_cases hn0 : 0 ≤ n
  · have hl : ((List.replicate n.toNat y).length : Int) = n := by rw [List.length_replicate]; omega
    have hst : fillS s a n y = putS s a (List.replicate n.toNat y) := by unfold fillS putS; rw [hl]
    rw [hst]; exact putE_gS g (by rw [hl]; exact hp)
  · have ht : thereG (gS s) a n = false := by
      rw [gS_there g]
      cases e : thereB s.L s.es a n with
      | false => rfl
      | true => have := ((there_iff g a n).1 e).2.1; omega
    rw [ht] at hp
    unfold PutE at hp
    rw [if_neg (by decide)] at hp
    rw [hp]
    have : fillS s a n y = s := by
      unfold fillS thereE
      rw [← gS_there g, ht]; rfl
    rw [this]
theorem putM_self (m : Nat → UInt8) (a n : Nat) : putM m a (getM m a n) = m := by
  funext i
  by_cases h : a ≤ i ∧ i < a + n
  · obtain ⟨k, rfl⟩ : ∃ k, i = a + k := ⟨i - a, by omega⟩
    rw [putM_in _ _ _ (by rw [getM_length]; omega), getM_get _ _ _ _ (by omega)]
  · rw [putM_out _ _ _ (by rw [getM_length]; omega)]
theorem dk_copy (g : Good s.L s.es) (hL : s.L ≤ 1048576) (t f n : Int) (ht : -9223372036854775808 ≤ t ∧ t ≤ 9223372036854775807) (hf : -9223372036854775808 ≤ f ∧ f ≤ 9223372036854775807) (hn : -9223372036854775808 ≤ n ∧ n ≤ 9223372036854775807) (hb : DocB b (gS s) w) :
    Calls Try.prog 58 #[.agg #[.slice (some ⟨b, 0, none⟩) s.L cap, .int .i64 (refR s)], .int .i64 t, .int .i64 f, .int .i64 n] w (DocK (copyS s t f n) (copyE s t f n) (refR s) w) := by
  have h := dcopy_any (cap := cap) (by rw [gS_len]; exact hL) (gS_ok s) (refR s) t f n hb ht hf hn
  rw [gS_len] at h
  have hE : (if (thereG (gS s) f n && thereG (gS s) t n) = true then (0 : Int) else 3) = copyE s t f n := by
    rw [gS_there g, gS_there g]
    unfold copyE thereE
    by_cases htf : t = f
    · subst htf
      cases thereB s.L s.es t n <;> simp
    · cases thereB s.L s.es t n <;> cases thereB s.L s.es f n <;> simp [htf]
  refine h.mono fun e w' k => DocK.of2 k (fun gs' hp => ?_) hE
  unfold PutE at hp
  by_cases hok : (thereG (gS s) f n && thereG (gS s) t n) = true
  · rw [if_pos hok] at hp hE
    rw [Bool.and_eq_true, gS_there g, gS_there g] at hok
    obtain ⟨f0, n0, f1, f2⟩ := (there_iff g f n).1 hok.1
    obtain ⟨fn, rfl⟩ := Int.eq_ofNat_of_zero_le f0
    obtain ⟨nn, rfl⟩ := Int.eq_ofNat_of_zero_le n0
    rw [Int.toNat_natCast, Int.toNat_natCast] at hp
    have hg : getM (bG (gS s)) fn nn = getM s.mm fn nn := gS_get fun i i0 i1 => by
      rw [mem_of_has (by omega) (by omega)]
      have := f2 (i : Int) (by omega) (by omega)
      rw [← this]; congr 1
    rw [hg] at hp
    have h2 := gS_put hp
    rw [h2]
    unfold copyS
    rw [← hE, if_pos rfl]
    by_cases htf : t = (fn : Int)
    · rw [if_pos htf, htf, Int.toNat_natCast, putM_self]
    · rw [if_neg htf, Int.toNat_natCast, Int.toNat_natCast]
  · rw [if_neg hok] at hp hE
    rw [hp]
    unfold copyS
    rw [← hE, if_neg (by decide)]
theorem dlo_is (g : Good s.L s.es) (a n : Int) : dloV (gS s) a n = .tuple #[.int .u64 (ldV s a n), .int .i64 (numE s.L s.es a n)] := by
  unfold dloV ldV
  rw [wh_whN, gS_there g]
  cases hw : wholeB n with
  | false => unfold numE; rw [hw]; rfl
  | true =>
    have hnE : numE s.L s.es a n = thereE s.L s.es a n := by unfold numE; rw [hw]; rfl
    rw [hnE]
    unfold thereE
    cases ht : thereB s.L s.es a n with
    | false => rfl
    | true =>
      obtain ⟨f0, n0, f1, f2⟩ := (there_iff g a n).1 ht
      obtain ⟨an, rfl⟩ := Int.eq_ofNat_of_zero_le f0
      obtain ⟨nn, rfl⟩ := Int.eq_ofNat_of_zero_le n0
      have : numV (bG (gS s)) an nn = numV s.mm an nn := numV_congr fun j hj => gS_by (by
        rw [mem_of_has (by omega) (by omega)]
        have := f2 ((an + j : Nat) : Int) (by omega) (by omega)
        rw [← this]; congr 1)
      simp only [Int.toNat_natCast, if_true, this]
theorem dby_is (g : Good s.L s.es) (a n : Int) : dbyV (gS s) a n = .tuple #[.string (byV s a n), .int .i64 (thereE s.L s.es a n)] := by
  unfold dbyV byV
  rw [gS_there g]
  unfold thereE
  cases ht : thereB s.L s.es a n with
  | false => rfl
  | true =>
    obtain ⟨f0, n0, f1, f2⟩ := (there_iff g a n).1 ht
    obtain ⟨an, rfl⟩ := Int.eq_ofNat_of_zero_le f0
    obtain ⟨nn, rfl⟩ := Int.eq_ofNat_of_zero_le n0
    have hg : getM (bG (gS s)) an nn = getM s.mm an nn := gS_get fun i i0 i1 => by
      rw [mem_of_has (by omega) (by omega)]
      have := f2 (i : Int) (by omega) (by omega)
      rw [← this]; congr 1
    simp only [Int.toNat_natCast, if_true, hg]
end
end Go.Proofs.Ytdmaendhkenmgaa.Bt
/- law03's do: Store. (Written by gen_dax.py.) -/
namespace Go.Proofs.Ytdmaendhkenmgaa.Bt
open Go Go.RowKit Go.Shelf
set_option linter.unusedVariables false
set_option linter.unusedSimpArgs false

set_option maxHeartbeats 8000000 in
set_option maxRecDepth 100000 in
theorem ddo_store {Wb A b cap : Nat} {s : ASt} {d at_ fr n x : Int} {S : ByteArray} {w0 w : World} (h : DoW Wb A b cap s w0 w) (hL : s.L ≤ 8) (hd : d.tmod 10 = 4) (hd0 : 0 ≤ d ∧ d ≤ 255) (ha : -9223372036854775808 ≤ at_ ∧ at_ ≤ 9223372036854775807) (hf : -9223372036854775808 ≤ fr ∧ fr ≤ 9223372036854775807) (hn : -9223372036854775808 ≤ n ∧ n ≤ 9223372036854775807) (hx : 0 ≤ x ∧ x < 18446744073709551616) :
    Calls Try.prog 12 #[.pointer (some ⟨Wb, 0, none⟩), .agg #[.int .u8 d, .int .i64 at_, .int .i64 fr, .int .i64 n, .int .u64 x, .string S]] w (DoP Wb s.L w0) := by
  obtain ⟨s', hs'⟩ : ∃ s', storeS s at_ n x = s' := ⟨_, rfl⟩
  obtain ⟨er, her⟩ : ∃ er, numE s.L s.es at_ n = er := ⟨_, rfl⟩
  have HPC := Lib.hid (fun (y : World) (hy : On A s y) => on_astore hy at_ n x (by omega) hx.1)
  have HDC := Lib.hid (fun (y : World) (hy : DocB b (gS s) y) => dk_store (cap := cap) h.x.good (by omega) at_ n x ha hx hy)
  rw [hs', her] at HPC HDC
  have HSL : Hid (s'.L = s.L) := Lib.hid (by rw [← hs']; unfold storeS; split <;> rfl)
  have HRS : Hid (refR s' = refR s) := Lib.hid (by rw [← hs']; unfold storeS; split <;> rfl)
  clear hs' her hf hn hx
  have hE := heap_new w (.cells #[.int .u8 d, .int .i64 at_, .int .i64 fr, .int .i64 n, .int .u64 x, .string S] 36)
  have hb0 := bel1 w (.cells #[.int .u8 d, .int .i64 at_, .int .i64 fr, .int .i64 n, .int .u64 x, .string S] 36)
  have hds := h.start hE hb0
  clear hE hb0
  go_enter Try.func12, Try.ntmps12
  go_upto_region 1 with fail
  change Code.wp _ _ _ _ (w.alloc (.cells #[.int .u8 d, .int .i64 at_, .int .i64 fr, .int .i64 n, .int .u64 x, .string S] 36))
  obtain ⟨y, hy⟩ : ∃ y, w.alloc (.cells #[.int .u8 d, .int .i64 at_, .int .i64 fr, .int .i64 n, .int .u64 x, .string S] 36) = y := ⟨_, rfl⟩
  obtain ⟨E, hEE⟩ : ∃ E, w.heap.size = E := ⟨_, rfl⟩
  rw [hy, hEE] at hds
  rw [hy, hEE]
  have H := Lib.hid hds
  clear hy hEE hds
  obtain ⟨⟨s1, s2, s3⟩, ⟨s4, s5, s6, s7, s8, s9⟩, s10, s11⟩ := H.out.cells
  go_upto_region 21 with fail
  have hS0 := H.out.below (Below.refl y.heap.size y).drew
  clear H s1 s2 s3 s4 s5 s6 s7 s8 s9 s10 s11
  refine wp_region_held_drew (S := fun X => ∃ s', DoS Wb E A b cap s' s d at_ fr n x S w0 X) (by kernel_rfl) ⟨_, hS0⟩ (fun hHeld => ?_)
  refine wpAnyH_take (i := 0) (v := (.pointer (some ⟨Wb, 0, none⟩))) rfl (by kernel_rfl) (by kernel_rfl) (by kernel_rfl) (fun _ _ _ h => h) (Or.inl ⟨by rfl, fun X hS => ?_⟩) hHeld ?_
  · obtain ⟨s9x, hs9x⟩ := hS
    obtain ⟨⟨s1, s2, s3⟩, ⟨s4, s5, s6, s7, s8, s9⟩, s10, s11⟩ := hs9x.cells
    go_simp
  try simp only [Act.put, List.getElem_toArray, List.getElem_cons_zero, List.getElem_cons_succ, List.setIfInBounds_toArray, List.set_cons_zero, List.set_cons_succ]
  refine wpAnyH_take (i := 1) (v := (.pointer (some ⟨Wb, 0, none⟩))) rfl (by kernel_rfl) (by kernel_rfl) (by kernel_rfl) (fun _ _ _ h => h) (Or.inl ⟨by rfl, fun X hS => ?_⟩) hHeld ?_
  · obtain ⟨s9x, hs9x⟩ := hS
    obtain ⟨⟨s1, s2, s3⟩, ⟨s4, s5, s6, s7, s8, s9⟩, s10, s11⟩ := hs9x.cells
    go_simp
  try simp only [Act.put, List.getElem_toArray, List.getElem_cons_zero, List.getElem_cons_succ, List.setIfInBounds_toArray, List.set_cons_zero, List.set_cons_succ]
  refine wpAnyH_take (i := 2) (v := (.pointer (some ⟨Wb, 0, none⟩))) rfl (by kernel_rfl) (by kernel_rfl) (by kernel_rfl) (fun _ _ _ h => h) (Or.inl ⟨by rfl, fun X hS => ?_⟩) hHeld ?_
  · obtain ⟨s9x, hs9x⟩ := hS
    obtain ⟨⟨s1, s2, s3⟩, ⟨s4, s5, s6, s7, s8, s9⟩, s10, s11⟩ := hs9x.cells
    go_simp
  try simp only [Act.put, List.getElem_toArray, List.getElem_cons_zero, List.getElem_cons_succ, List.setIfInBounds_toArray, List.set_cons_zero, List.set_cons_succ]
  refine wpAnyH_take (i := 3) (v := (.pointer (some ⟨A, 0, none⟩))) rfl (by kernel_rfl) (by kernel_rfl) (by kernel_rfl) (fun _ _ _ h => h) (Or.inl ⟨by rfl, fun X hS => ?_⟩) hHeld ?_
  · obtain ⟨s9x, hs9x⟩ := hS
    obtain ⟨⟨s1, s2, s3⟩, ⟨s4, s5, s6, s7, s8, s9⟩, s10, s11⟩ := hs9x.cells
    go_simp
  try simp only [Act.put, List.getElem_toArray, List.getElem_cons_zero, List.getElem_cons_succ, List.setIfInBounds_toArray, List.set_cons_zero, List.set_cons_succ]
  refine wpAnyH_take (i := 4) (v := (.pointer (some ⟨E, 1, none⟩))) rfl (by kernel_rfl) (by kernel_rfl) (by kernel_rfl) (fun _ _ _ h => h) (Or.inl ⟨by rfl, fun X hS => ?_⟩) hHeld ?_
  · obtain ⟨s9x, hs9x⟩ := hS
    obtain ⟨⟨s1, s2, s3⟩, ⟨s4, s5, s6, s7, s8, s9⟩, s10, s11⟩ := hs9x.cells
    go_simp
  try simp only [Act.put, List.getElem_toArray, List.getElem_cons_zero, List.getElem_cons_succ, List.setIfInBounds_toArray, List.set_cons_zero, List.set_cons_succ]
  refine wpAnyH_take (i := 5) (v := (.int .i64 at_)) rfl (by kernel_rfl) (by kernel_rfl) (by kernel_rfl) (fun _ _ _ h => h) (Or.inl ⟨by rfl, fun X hS => ?_⟩) hHeld ?_
  · obtain ⟨s9x, hs9x⟩ := hS
    obtain ⟨⟨s1, s2, s3⟩, ⟨s4, s5, s6, s7, s8, s9⟩, s10, s11⟩ := hs9x.cells
    go_simp
  try simp only [Act.put, List.getElem_toArray, List.getElem_cons_zero, List.getElem_cons_succ, List.setIfInBounds_toArray, List.set_cons_zero, List.set_cons_succ]
  refine wpAnyH_take (i := 6) (v := (.pointer (some ⟨E, 3, none⟩))) rfl (by kernel_rfl) (by kernel_rfl) (by kernel_rfl) (fun _ _ _ h => h) (Or.inl ⟨by rfl, fun X hS => ?_⟩) hHeld ?_
  · obtain ⟨s9x, hs9x⟩ := hS
    obtain ⟨⟨s1, s2, s3⟩, ⟨s4, s5, s6, s7, s8, s9⟩, s10, s11⟩ := hs9x.cells
    go_simp
  try simp only [Act.put, List.getElem_toArray, List.getElem_cons_zero, List.getElem_cons_succ, List.setIfInBounds_toArray, List.set_cons_zero, List.set_cons_succ]
  refine wpAnyH_take (i := 7) (v := (.int .i64 n)) rfl (by kernel_rfl) (by kernel_rfl) (by kernel_rfl) (fun _ _ _ h => h) (Or.inl ⟨by rfl, fun X hS => ?_⟩) hHeld ?_
  · obtain ⟨s9x, hs9x⟩ := hS
    obtain ⟨⟨s1, s2, s3⟩, ⟨s4, s5, s6, s7, s8, s9⟩, s10, s11⟩ := hs9x.cells
    go_simp
  try simp only [Act.put, List.getElem_toArray, List.getElem_cons_zero, List.getElem_cons_succ, List.setIfInBounds_toArray, List.set_cons_zero, List.set_cons_succ]
  refine wpAnyH_take (i := 8) (v := (.pointer (some ⟨E, 4, none⟩))) rfl (by kernel_rfl) (by kernel_rfl) (by kernel_rfl) (fun _ _ _ h => h) (Or.inl ⟨by rfl, fun X hS => ?_⟩) hHeld ?_
  · obtain ⟨s9x, hs9x⟩ := hS
    obtain ⟨⟨s1, s2, s3⟩, ⟨s4, s5, s6, s7, s8, s9⟩, s10, s11⟩ := hs9x.cells
    go_simp
  try simp only [Act.put, List.getElem_toArray, List.getElem_cons_zero, List.getElem_cons_succ, List.setIfInBounds_toArray, List.set_cons_zero, List.set_cons_succ]
  refine wpAnyH_take (i := 9) (v := (.int .u64 x)) rfl (by kernel_rfl) (by kernel_rfl) (by kernel_rfl) (fun _ _ _ h => h) (Or.inl ⟨by rfl, fun X hS => ?_⟩) hHeld ?_
  · obtain ⟨s9x, hs9x⟩ := hS
    obtain ⟨⟨s1, s2, s3⟩, ⟨s4, s5, s6, s7, s8, s9⟩, s10, s11⟩ := hs9x.cells
    go_simp
  try simp only [Act.put, List.getElem_toArray, List.getElem_cons_zero, List.getElem_cons_succ, List.setIfInBounds_toArray, List.set_cons_zero, List.set_cons_succ]
  have HD := Lib.hid hS0
  clear hS0 hHeld
  refine wpAnyH_ready (rs := [10]) (by kernel_rfl) (by simp) (AllReadyH.cons rfl (fun K1 hK1 => ?_) AllReadyH.nil)
  go_simp
  refine (HPC.out _ HD.out.x).mono ?_
  rintro e w2 ⟨rfl, hx, hg⟩
  have HD2 := Lib.hid (HD.out.went hx hg)
  clear hx hg
  refine hK1.out _ _ ⟨_, HD2.out⟩ (fun hHeld => ?_)
  clear hK1
  try simp only [Act.put, List.getElem_toArray, List.getElem_cons_zero, List.getElem_cons_succ, List.setIfInBounds_toArray, List.set_cons_zero, List.set_cons_succ]
  refine wpAnyH_take (i := 11) (v := (.int .i64 er)) rfl (by kernel_rfl) (by kernel_rfl) (by kernel_rfl) (fun _ _ _ h => h) (Or.inl ⟨by rfl, fun X hS => ?_⟩) hHeld ?_
  · obtain ⟨s9x, hs9x⟩ := hS
    obtain ⟨⟨s1, s2, s3⟩, ⟨s4, s5, s6, s7, s8, s9⟩, s10, s11⟩ := hs9x.cells
    go_simp
  try simp only [Act.put, List.getElem_toArray, List.getElem_cons_zero, List.getElem_cons_succ, List.setIfInBounds_toArray, List.set_cons_zero, List.set_cons_succ]
  clear hHeld
  refine wpAnyH_done (by kernel_rfl) ?_ _
  go_upto_region 22 with fail
  have hS0 := HD2.out.below (Below.refl w2.heap.size w2).drew
  clear HD2 HD
  refine wp_region_held_drew (S := fun X => X.cell? ⟨E, 0, none⟩ = some (.int .u8 d) ∧ X.cell? ⟨E, 1, none⟩ = some (.int .i64 at_) ∧ X.cell? ⟨E, 2, none⟩ = some (.int .i64 fr) ∧ X.cell? ⟨E, 3, none⟩ = some (.int .i64 n) ∧ X.cell? ⟨E, 4, none⟩ = some (.int .u64 x) ∧ X.cell? ⟨E, 5, none⟩ = some (.string S)) (by kernel_rfl) hS0.cells.2.1 (fun hHeld => ?_)
  refine wpAnyH_take (i := 0) (v := (.pointer (some ⟨Wb, 0, none⟩))) rfl (by kernel_rfl) (by kernel_rfl) (by kernel_rfl) (fun _ _ _ h => h) (Or.inl ⟨by rfl, fun X hS => ?_⟩) hHeld ?_
  · obtain ⟨s4, s5, s6, s7, s8, s9⟩ := hS
    go_simp
  try simp only [Act.put, List.getElem_toArray, List.getElem_cons_zero, List.getElem_cons_succ, List.setIfInBounds_toArray, List.set_cons_zero, List.set_cons_succ]
  refine wpAnyH_take (i := 1) (v := (.pointer (some ⟨Wb, 0, none⟩))) rfl (by kernel_rfl) (by kernel_rfl) (by kernel_rfl) (fun _ _ _ h => h) (Or.inl ⟨by rfl, fun X hS => ?_⟩) hHeld ?_
  · obtain ⟨s4, s5, s6, s7, s8, s9⟩ := hS
    go_simp
  try simp only [Act.put, List.getElem_toArray, List.getElem_cons_zero, List.getElem_cons_succ, List.setIfInBounds_toArray, List.set_cons_zero, List.set_cons_succ]
  refine wpAnyH_take (i := 2) (v := (.pointer (some ⟨Wb, 0, none⟩))) rfl (by kernel_rfl) (by kernel_rfl) (by kernel_rfl) (fun _ _ _ h => h) (Or.inl ⟨by rfl, fun X hS => ?_⟩) hHeld ?_
  · obtain ⟨s4, s5, s6, s7, s8, s9⟩ := hS
    go_simp
  try simp only [Act.put, List.getElem_toArray, List.getElem_cons_zero, List.getElem_cons_succ, List.setIfInBounds_toArray, List.set_cons_zero, List.set_cons_succ]
  refine wpAnyH_take (i := 3) (v := (.pointer (some ⟨Wb, 1, none⟩))) rfl (by kernel_rfl) (by kernel_rfl) (by kernel_rfl) (fun _ _ _ h => h) (Or.inl ⟨by rfl, fun X hS => ?_⟩) hHeld ?_
  · obtain ⟨s4, s5, s6, s7, s8, s9⟩ := hS
    go_simp
  try simp only [Act.put, List.getElem_toArray, List.getElem_cons_zero, List.getElem_cons_succ, List.setIfInBounds_toArray, List.set_cons_zero, List.set_cons_succ]
  refine wpAnyH_take (i := 5) (v := (.pointer (some ⟨E, 1, none⟩))) rfl (by kernel_rfl) (by kernel_rfl) (by kernel_rfl) (fun _ _ _ h => h) (Or.inl ⟨by rfl, fun X hS => ?_⟩) hHeld ?_
  · obtain ⟨s4, s5, s6, s7, s8, s9⟩ := hS
    go_simp
  try simp only [Act.put, List.getElem_toArray, List.getElem_cons_zero, List.getElem_cons_succ, List.setIfInBounds_toArray, List.set_cons_zero, List.set_cons_succ]
  refine wpAnyH_take (i := 6) (v := (.int .i64 at_)) rfl (by kernel_rfl) (by kernel_rfl) (by kernel_rfl) (fun _ _ _ h => h) (Or.inl ⟨by rfl, fun X hS => ?_⟩) hHeld ?_
  · obtain ⟨s4, s5, s6, s7, s8, s9⟩ := hS
    go_simp
  try simp only [Act.put, List.getElem_toArray, List.getElem_cons_zero, List.getElem_cons_succ, List.setIfInBounds_toArray, List.set_cons_zero, List.set_cons_succ]
  refine wpAnyH_take (i := 7) (v := (.pointer (some ⟨E, 3, none⟩))) rfl (by kernel_rfl) (by kernel_rfl) (by kernel_rfl) (fun _ _ _ h => h) (Or.inl ⟨by rfl, fun X hS => ?_⟩) hHeld ?_
  · obtain ⟨s4, s5, s6, s7, s8, s9⟩ := hS
    go_simp
  try simp only [Act.put, List.getElem_toArray, List.getElem_cons_zero, List.getElem_cons_succ, List.setIfInBounds_toArray, List.set_cons_zero, List.set_cons_succ]
  refine wpAnyH_take (i := 8) (v := (.int .i64 n)) rfl (by kernel_rfl) (by kernel_rfl) (by kernel_rfl) (fun _ _ _ h => h) (Or.inl ⟨by rfl, fun X hS => ?_⟩) hHeld ?_
  · obtain ⟨s4, s5, s6, s7, s8, s9⟩ := hS
    go_simp
  try simp only [Act.put, List.getElem_toArray, List.getElem_cons_zero, List.getElem_cons_succ, List.setIfInBounds_toArray, List.set_cons_zero, List.set_cons_succ]
  refine wpAnyH_take (i := 9) (v := (.pointer (some ⟨E, 4, none⟩))) rfl (by kernel_rfl) (by kernel_rfl) (by kernel_rfl) (fun _ _ _ h => h) (Or.inl ⟨by rfl, fun X hS => ?_⟩) hHeld ?_
  · obtain ⟨s4, s5, s6, s7, s8, s9⟩ := hS
    go_simp
  try simp only [Act.put, List.getElem_toArray, List.getElem_cons_zero, List.getElem_cons_succ, List.setIfInBounds_toArray, List.set_cons_zero, List.set_cons_succ]
  refine wpAnyH_take (i := 10) (v := (.int .u64 x)) rfl (by kernel_rfl) (by kernel_rfl) (by kernel_rfl) (fun _ _ _ h => h) (Or.inl ⟨by rfl, fun X hS => ?_⟩) hHeld ?_
  · obtain ⟨s4, s5, s6, s7, s8, s9⟩ := hS
    go_simp
  try simp only [Act.put, List.getElem_toArray, List.getElem_cons_zero, List.getElem_cons_succ, List.setIfInBounds_toArray, List.set_cons_zero, List.set_cons_succ]
  have HD := Lib.hid hS0
  clear hS0 hHeld
  refine wpAnyH_ready (rs := [4]) (by kernel_rfl) (by simp) (AllReadyH.cons rfl (fun K1 hK1 => ?_) AllReadyH.nil)
  obtain ⟨⟨s1, s2, s3⟩, ⟨s4, s5, s6, s7, s8, s9⟩, s10, s11⟩ := HD.out.cells
  go_simp
  clear s1 s2 s3 s4 s5 s6 s7 s8 s9 s10 s11
  refine hK1.out _ _ HD.out.cells.2.1 (fun hHeld => ?_)
  clear hK1
  try simp only [Act.put, List.getElem_toArray, List.getElem_cons_zero, List.getElem_cons_succ, List.setIfInBounds_toArray, List.set_cons_zero, List.set_cons_succ]
  clear hHeld
  refine wpAnyH_ready (rs := [11]) (by kernel_rfl) (by simp) (AllReadyH.cons rfl (fun K1 hK1 => ?_) AllReadyH.nil)
  go_simp
  refine (HDC.out _ HD.out.d).mono ?_
  rintro e w3 ⟨b2, cap2, rfl, hd2, hb⟩
  have HD3 := Lib.hid (HD.out.below hb)
  have HD4 := Lib.hid (HD3.out.put (cap2 := cap2) hd2)
  rw [HRS.out] at HD4
  clear hd2 hb
  refine hK1.out _ _ HD3.out.cells.2.1 (fun hHeld => ?_)
  clear hK1
  try simp only [Act.put, List.getElem_toArray, List.getElem_cons_zero, List.getElem_cons_succ, List.setIfInBounds_toArray, List.set_cons_zero, List.set_cons_succ]
  refine wpAnyH_take (i := 12) (v := (.tuple #[.agg #[.slice (some ⟨b2, 0, none⟩) s'.L cap2, .int .i64 (refR s)], .int .i64 er])) rfl (by kernel_rfl) (by kernel_rfl) (by kernel_rfl) (fun _ _ _ h => h) (Or.inl ⟨by rfl, fun X hS => ?_⟩) hHeld ?_
  · obtain ⟨s4, s5, s6, s7, s8, s9⟩ := hS
    go_simp
  try simp only [Act.put, List.getElem_toArray, List.getElem_cons_zero, List.getElem_cons_succ, List.setIfInBounds_toArray, List.set_cons_zero, List.set_cons_succ]
  refine wpAnyH_take (i := 13) (v := (.agg #[.slice (some ⟨b2, 0, none⟩) s'.L cap2, .int .i64 (refR s)])) rfl (by kernel_rfl) (by kernel_rfl) (by kernel_rfl) (fun _ _ _ h => h) (Or.inl ⟨by rfl, fun X hS => ?_⟩) hHeld ?_
  · obtain ⟨s4, s5, s6, s7, s8, s9⟩ := hS
    go_simp
  try simp only [Act.put, List.getElem_toArray, List.getElem_cons_zero, List.getElem_cons_succ, List.setIfInBounds_toArray, List.set_cons_zero, List.set_cons_succ]
  refine wpAnyH_take (i := 14) (v := (.int .i64 er)) rfl (by kernel_rfl) (by kernel_rfl) (by kernel_rfl) (fun _ _ _ h => h) (Or.inl ⟨by rfl, fun X hS => ?_⟩) hHeld ?_
  · obtain ⟨s4, s5, s6, s7, s8, s9⟩ := hS
    go_simp
  try simp only [Act.put, List.getElem_toArray, List.getElem_cons_zero, List.getElem_cons_succ, List.setIfInBounds_toArray, List.set_cons_zero, List.set_cons_succ]
  refine wpAnyH_take (i := 15) (v := (.pointer (some ⟨Wb, 0, none⟩))) rfl (by kernel_rfl) (by kernel_rfl) (by kernel_rfl) (fun _ _ _ h => h) (Or.inl ⟨by rfl, fun X hS => ?_⟩) hHeld ?_
  · obtain ⟨s4, s5, s6, s7, s8, s9⟩ := hS
    go_simp
  try simp only [Act.put, List.getElem_toArray, List.getElem_cons_zero, List.getElem_cons_succ, List.setIfInBounds_toArray, List.set_cons_zero, List.set_cons_succ]
  refine wpAnyH_take (i := 16) (v := (.pointer (some ⟨Wb, 1, none⟩))) rfl (by kernel_rfl) (by kernel_rfl) (by kernel_rfl) (fun _ _ _ h => h) (Or.inl ⟨by rfl, fun X hS => ?_⟩) hHeld ?_
  · obtain ⟨s4, s5, s6, s7, s8, s9⟩ := hS
    go_simp
  try simp only [Act.put, List.getElem_toArray, List.getElem_cons_zero, List.getElem_cons_succ, List.setIfInBounds_toArray, List.set_cons_zero, List.set_cons_succ]
  clear hHeld
  obtain ⟨⟨s1, s2, s3⟩, ⟨s4, s5, s6, s7, s8, s9⟩, s10, s11⟩ := HD3.out.cells
  refine wpAnyH_ready (rs := [17]) (by kernel_rfl) (by simp) (AllReadyH.cons rfl (fun K1 hK1 => ?_) AllReadyH.nil)
  go_simp
  refine hK1.out _ _ HD4.out.cells.2.1 (fun hHeld => ?_)
  clear hK1
  try simp only [Act.put, List.getElem_toArray, List.getElem_cons_zero, List.getElem_cons_succ, List.setIfInBounds_toArray, List.set_cons_zero, List.set_cons_succ]
  clear s1 s2 s3 s4 s5 s6 s7 s8 s9 s10 s11
  refine wpAnyH_take (i := 18) (v := (.int .i64 er)) rfl (by kernel_rfl) (by kernel_rfl) (by kernel_rfl) (fun _ _ _ h => h) (Or.inl ⟨by rfl, fun X hS => ?_⟩) hHeld ?_
  · obtain ⟨s4, s5, s6, s7, s8, s9⟩ := hS
    go_simp
  try simp only [Act.put, List.getElem_toArray, List.getElem_cons_zero, List.getElem_cons_succ, List.setIfInBounds_toArray, List.set_cons_zero, List.set_cons_succ]
  clear hHeld
  refine wpAnyH_done (by kernel_rfl) ?_ _
  have hee : (er == er) = true := by simp
  go_wp2_with fail
  go_ret
  exact ⟨A, b2, cap2, s', rfl, HSL.out, HD4.out.fin⟩
end Go.Proofs.Ytdmaendhkenmgaa.Bt
/- law03's do: Fill. (Written by gen_dax.py.) -/
namespace Go.Proofs.Ytdmaendhkenmgaa.Bt
open Go Go.RowKit Go.Shelf
set_option linter.unusedVariables false
set_option linter.unusedSimpArgs false

set_option maxHeartbeats 8000000 in
set_option maxRecDepth 100000 in
theorem ddo_fill {Wb A b cap : Nat} {s : ASt} {d at_ fr n x : Int} {S : ByteArray} {w0 w : World} (h : DoW Wb A b cap s w0 w) (hL : s.L ≤ 8) (hd : d.tmod 10 = 7) (hd0 : 0 ≤ d ∧ d ≤ 255) (ha : -9223372036854775808 ≤ at_ ∧ at_ ≤ 9223372036854775807) (hf : -9223372036854775808 ≤ fr ∧ fr ≤ 9223372036854775807) (hn : -9223372036854775808 ≤ n ∧ n ≤ 9223372036854775807) (hx : 0 ≤ x ∧ x < 18446744073709551616) :
    Calls Try.prog 12 #[.pointer (some ⟨Wb, 0, none⟩), .agg #[.int .u8 d, .int .i64 at_, .int .i64 fr, .int .i64 n, .int .u64 x, .string S]] w (DoP Wb s.L w0) := by
  obtain ⟨Y, hY⟩ : ∃ Y : UInt8, IntKind.u8.wrap x = (Y.toNat : Int) := ⟨UInt8.ofNat (x.toNat % 256), by rw [IntKind.wrap_u8]; simp; omega⟩
  have HQY := Lib.hid hY
  clear hY
  obtain ⟨s', hs'⟩ : ∃ s', fillS s at_ n Y = s' := ⟨_, rfl⟩
  obtain ⟨er, her⟩ : ∃ er, thereE s.L s.es at_ n = er := ⟨_, rfl⟩
  have HPC := Lib.hid (fun (y : World) (hy : On A s y) => on_afill hy at_ n (by omega) Y)
  have HDC := Lib.hid (fun (y : World) (hy : DocB b (gS s) y) => dk_fill (cap := cap) h.x.good (by omega) at_ n Y ha hn hy)
  rw [hs', her] at HPC HDC
  have HSL : Hid (s'.L = s.L) := Lib.hid (by rw [← hs']; unfold fillS; split <;> rfl)
  have HRS : Hid (refR s' = refR s) := Lib.hid (by rw [← hs']; unfold fillS; split <;> rfl)
  clear hs' her hf hn hx
  have hE := heap_new w (.cells #[.int .u8 d, .int .i64 at_, .int .i64 fr, .int .i64 n, .int .u64 x, .string S] 36)
  have hb0 := bel1 w (.cells #[.int .u8 d, .int .i64 at_, .int .i64 fr, .int .i64 n, .int .u64 x, .string S] 36)
  have hds := h.start hE hb0
  clear hE hb0
  go_enter Try.func12, Try.ntmps12
  go_upto_region 1 with fail
  change Code.wp _ _ _ _ (w.alloc (.cells #[.int .u8 d, .int .i64 at_, .int .i64 fr, .int .i64 n, .int .u64 x, .string S] 36))
  obtain ⟨y, hy⟩ : ∃ y, w.alloc (.cells #[.int .u8 d, .int .i64 at_, .int .i64 fr, .int .i64 n, .int .u64 x, .string S] 36) = y := ⟨_, rfl⟩
  obtain ⟨E, hEE⟩ : ∃ E, w.heap.size = E := ⟨_, rfl⟩
  rw [hy, hEE] at hds
  rw [hy, hEE]
  have H := Lib.hid hds
  clear hy hEE hds
  obtain ⟨⟨s1, s2, s3⟩, ⟨s4, s5, s6, s7, s8, s9⟩, s10, s11⟩ := H.out.cells
  go_upto_region 31 with fail
  have hS0 := H.out.below (Below.refl y.heap.size y).drew
  clear H s1 s2 s3 s4 s5 s6 s7 s8 s9 s10 s11
  refine wp_region_held_drew (S := fun X => ∃ s', DoS Wb E A b cap s' s d at_ fr n x S w0 X) (by kernel_rfl) ⟨_, hS0⟩ (fun hHeld => ?_)
  refine wpAnyH_take (i := 0) (v := (.pointer (some ⟨Wb, 0, none⟩))) rfl (by kernel_rfl) (by kernel_rfl) (by kernel_rfl) (fun _ _ _ h => h) (Or.inl ⟨by rfl, fun X hS => ?_⟩) hHeld ?_
  · obtain ⟨s9x, hs9x⟩ := hS
    obtain ⟨⟨s1, s2, s3⟩, ⟨s4, s5, s6, s7, s8, s9⟩, s10, s11⟩ := hs9x.cells
    go_simp
  try simp only [Act.put, List.getElem_toArray, List.getElem_cons_zero, List.getElem_cons_succ, List.setIfInBounds_toArray, List.set_cons_zero, List.set_cons_succ]
  refine wpAnyH_take (i := 1) (v := (.pointer (some ⟨Wb, 0, none⟩))) rfl (by kernel_rfl) (by kernel_rfl) (by kernel_rfl) (fun _ _ _ h => h) (Or.inl ⟨by rfl, fun X hS => ?_⟩) hHeld ?_
  · obtain ⟨s9x, hs9x⟩ := hS
    obtain ⟨⟨s1, s2, s3⟩, ⟨s4, s5, s6, s7, s8, s9⟩, s10, s11⟩ := hs9x.cells
    go_simp
  try simp only [Act.put, List.getElem_toArray, List.getElem_cons_zero, List.getElem_cons_succ, List.setIfInBounds_toArray, List.set_cons_zero, List.set_cons_succ]
  refine wpAnyH_take (i := 2) (v := (.pointer (some ⟨Wb, 0, none⟩))) rfl (by kernel_rfl) (by kernel_rfl) (by kernel_rfl) (fun _ _ _ h => h) (Or.inl ⟨by rfl, fun X hS => ?_⟩) hHeld ?_
  · obtain ⟨s9x, hs9x⟩ := hS
    obtain ⟨⟨s1, s2, s3⟩, ⟨s4, s5, s6, s7, s8, s9⟩, s10, s11⟩ := hs9x.cells
    go_simp
  try simp only [Act.put, List.getElem_toArray, List.getElem_cons_zero, List.getElem_cons_succ, List.setIfInBounds_toArray, List.set_cons_zero, List.set_cons_succ]
  refine wpAnyH_take (i := 3) (v := (.pointer (some ⟨A, 0, none⟩))) rfl (by kernel_rfl) (by kernel_rfl) (by kernel_rfl) (fun _ _ _ h => h) (Or.inl ⟨by rfl, fun X hS => ?_⟩) hHeld ?_
  · obtain ⟨s9x, hs9x⟩ := hS
    obtain ⟨⟨s1, s2, s3⟩, ⟨s4, s5, s6, s7, s8, s9⟩, s10, s11⟩ := hs9x.cells
    go_simp
  try simp only [Act.put, List.getElem_toArray, List.getElem_cons_zero, List.getElem_cons_succ, List.setIfInBounds_toArray, List.set_cons_zero, List.set_cons_succ]
  refine wpAnyH_take (i := 4) (v := (.pointer (some ⟨E, 1, none⟩))) rfl (by kernel_rfl) (by kernel_rfl) (by kernel_rfl) (fun _ _ _ h => h) (Or.inl ⟨by rfl, fun X hS => ?_⟩) hHeld ?_
  · obtain ⟨s9x, hs9x⟩ := hS
    obtain ⟨⟨s1, s2, s3⟩, ⟨s4, s5, s6, s7, s8, s9⟩, s10, s11⟩ := hs9x.cells
    go_simp
  try simp only [Act.put, List.getElem_toArray, List.getElem_cons_zero, List.getElem_cons_succ, List.setIfInBounds_toArray, List.set_cons_zero, List.set_cons_succ]
  refine wpAnyH_take (i := 5) (v := (.int .i64 at_)) rfl (by kernel_rfl) (by kernel_rfl) (by kernel_rfl) (fun _ _ _ h => h) (Or.inl ⟨by rfl, fun X hS => ?_⟩) hHeld ?_
  · obtain ⟨s9x, hs9x⟩ := hS
    obtain ⟨⟨s1, s2, s3⟩, ⟨s4, s5, s6, s7, s8, s9⟩, s10, s11⟩ := hs9x.cells
    go_simp
  try simp only [Act.put, List.getElem_toArray, List.getElem_cons_zero, List.getElem_cons_succ, List.setIfInBounds_toArray, List.set_cons_zero, List.set_cons_succ]
  refine wpAnyH_take (i := 6) (v := (.pointer (some ⟨E, 3, none⟩))) rfl (by kernel_rfl) (by kernel_rfl) (by kernel_rfl) (fun _ _ _ h => h) (Or.inl ⟨by rfl, fun X hS => ?_⟩) hHeld ?_
  · obtain ⟨s9x, hs9x⟩ := hS
    obtain ⟨⟨s1, s2, s3⟩, ⟨s4, s5, s6, s7, s8, s9⟩, s10, s11⟩ := hs9x.cells
    go_simp
  try simp only [Act.put, List.getElem_toArray, List.getElem_cons_zero, List.getElem_cons_succ, List.setIfInBounds_toArray, List.set_cons_zero, List.set_cons_succ]
  refine wpAnyH_take (i := 7) (v := (.int .i64 n)) rfl (by kernel_rfl) (by kernel_rfl) (by kernel_rfl) (fun _ _ _ h => h) (Or.inl ⟨by rfl, fun X hS => ?_⟩) hHeld ?_
  · obtain ⟨s9x, hs9x⟩ := hS
    obtain ⟨⟨s1, s2, s3⟩, ⟨s4, s5, s6, s7, s8, s9⟩, s10, s11⟩ := hs9x.cells
    go_simp
  try simp only [Act.put, List.getElem_toArray, List.getElem_cons_zero, List.getElem_cons_succ, List.setIfInBounds_toArray, List.set_cons_zero, List.set_cons_succ]
  refine wpAnyH_take (i := 8) (v := (.pointer (some ⟨E, 4, none⟩))) rfl (by kernel_rfl) (by kernel_rfl) (by kernel_rfl) (fun _ _ _ h => h) (Or.inl ⟨by rfl, fun X hS => ?_⟩) hHeld ?_
  · obtain ⟨s9x, hs9x⟩ := hS
    obtain ⟨⟨s1, s2, s3⟩, ⟨s4, s5, s6, s7, s8, s9⟩, s10, s11⟩ := hs9x.cells
    go_simp
  try simp only [Act.put, List.getElem_toArray, List.getElem_cons_zero, List.getElem_cons_succ, List.setIfInBounds_toArray, List.set_cons_zero, List.set_cons_succ]
  refine wpAnyH_take (i := 9) (v := (.int .u64 x)) rfl (by kernel_rfl) (by kernel_rfl) (by kernel_rfl) (fun _ _ _ h => h) (Or.inl ⟨by rfl, fun X hS => ?_⟩) hHeld ?_
  · obtain ⟨s9x, hs9x⟩ := hS
    obtain ⟨⟨s1, s2, s3⟩, ⟨s4, s5, s6, s7, s8, s9⟩, s10, s11⟩ := hs9x.cells
    go_simp
  try simp only [Act.put, List.getElem_toArray, List.getElem_cons_zero, List.getElem_cons_succ, List.setIfInBounds_toArray, List.set_cons_zero, List.set_cons_succ]
  refine wpAnyH_take (i := 10) (v := (.int .u8 (Y.toNat : Int))) rfl (by kernel_rfl) (by kernel_rfl) (by kernel_rfl) (fun _ _ _ h => h) (Or.inl ⟨by rfl, fun X hS => ?_⟩) hHeld ?_
  · obtain ⟨s9x, hs9x⟩ := hS
    obtain ⟨⟨s1, s2, s3⟩, ⟨s4, s5, s6, s7, s8, s9⟩, s10, s11⟩ := hs9x.cells
    have hqy := HQY.out
    go_simp
  try simp only [Act.put, List.getElem_toArray, List.getElem_cons_zero, List.getElem_cons_succ, List.setIfInBounds_toArray, List.set_cons_zero, List.set_cons_succ]
  have HD := Lib.hid hS0
  clear hS0 hHeld
  refine wpAnyH_ready (rs := [11]) (by kernel_rfl) (by simp) (AllReadyH.cons rfl (fun K1 hK1 => ?_) AllReadyH.nil)
  go_simp
  refine (HPC.out _ HD.out.x).mono ?_
  rintro e w2 ⟨rfl, hx, hg⟩
  have HD2 := Lib.hid (HD.out.went hx hg)
  clear hx hg
  refine hK1.out _ _ ⟨_, HD2.out⟩ (fun hHeld => ?_)
  clear hK1
  try simp only [Act.put, List.getElem_toArray, List.getElem_cons_zero, List.getElem_cons_succ, List.setIfInBounds_toArray, List.set_cons_zero, List.set_cons_succ]
  refine wpAnyH_take (i := 12) (v := (.int .i64 er)) rfl (by kernel_rfl) (by kernel_rfl) (by kernel_rfl) (fun _ _ _ h => h) (Or.inl ⟨by rfl, fun X hS => ?_⟩) hHeld ?_
  · obtain ⟨s9x, hs9x⟩ := hS
    obtain ⟨⟨s1, s2, s3⟩, ⟨s4, s5, s6, s7, s8, s9⟩, s10, s11⟩ := hs9x.cells
    go_simp
  try simp only [Act.put, List.getElem_toArray, List.getElem_cons_zero, List.getElem_cons_succ, List.setIfInBounds_toArray, List.set_cons_zero, List.set_cons_succ]
  clear hHeld
  refine wpAnyH_done (by kernel_rfl) ?_ _
  go_upto_region 32 with fail
  have hS0 := HD2.out.below (Below.refl w2.heap.size w2).drew
  clear HD2 HD
  refine wp_region_held_drew (S := fun X => X.cell? ⟨E, 0, none⟩ = some (.int .u8 d) ∧ X.cell? ⟨E, 1, none⟩ = some (.int .i64 at_) ∧ X.cell? ⟨E, 2, none⟩ = some (.int .i64 fr) ∧ X.cell? ⟨E, 3, none⟩ = some (.int .i64 n) ∧ X.cell? ⟨E, 4, none⟩ = some (.int .u64 x) ∧ X.cell? ⟨E, 5, none⟩ = some (.string S)) (by kernel_rfl) hS0.cells.2.1 (fun hHeld => ?_)
  refine wpAnyH_take (i := 0) (v := (.pointer (some ⟨Wb, 0, none⟩))) rfl (by kernel_rfl) (by kernel_rfl) (by kernel_rfl) (fun _ _ _ h => h) (Or.inl ⟨by rfl, fun X hS => ?_⟩) hHeld ?_
  · obtain ⟨s4, s5, s6, s7, s8, s9⟩ := hS
    go_simp
  try simp only [Act.put, List.getElem_toArray, List.getElem_cons_zero, List.getElem_cons_succ, List.setIfInBounds_toArray, List.set_cons_zero, List.set_cons_succ]
  refine wpAnyH_take (i := 1) (v := (.pointer (some ⟨Wb, 0, none⟩))) rfl (by kernel_rfl) (by kernel_rfl) (by kernel_rfl) (fun _ _ _ h => h) (Or.inl ⟨by rfl, fun X hS => ?_⟩) hHeld ?_
  · obtain ⟨s4, s5, s6, s7, s8, s9⟩ := hS
    go_simp
  try simp only [Act.put, List.getElem_toArray, List.getElem_cons_zero, List.getElem_cons_succ, List.setIfInBounds_toArray, List.set_cons_zero, List.set_cons_succ]
  refine wpAnyH_take (i := 2) (v := (.pointer (some ⟨Wb, 0, none⟩))) rfl (by kernel_rfl) (by kernel_rfl) (by kernel_rfl) (fun _ _ _ h => h) (Or.inl ⟨by rfl, fun X hS => ?_⟩) hHeld ?_
  · obtain ⟨s4, s5, s6, s7, s8, s9⟩ := hS
    go_simp
  try simp only [Act.put, List.getElem_toArray, List.getElem_cons_zero, List.getElem_cons_succ, List.setIfInBounds_toArray, List.set_cons_zero, List.set_cons_succ]
  refine wpAnyH_take (i := 3) (v := (.pointer (some ⟨Wb, 1, none⟩))) rfl (by kernel_rfl) (by kernel_rfl) (by kernel_rfl) (fun _ _ _ h => h) (Or.inl ⟨by rfl, fun X hS => ?_⟩) hHeld ?_
  · obtain ⟨s4, s5, s6, s7, s8, s9⟩ := hS
    go_simp
  try simp only [Act.put, List.getElem_toArray, List.getElem_cons_zero, List.getElem_cons_succ, List.setIfInBounds_toArray, List.set_cons_zero, List.set_cons_succ]
  refine wpAnyH_take (i := 5) (v := (.pointer (some ⟨E, 1, none⟩))) rfl (by kernel_rfl) (by kernel_rfl) (by kernel_rfl) (fun _ _ _ h => h) (Or.inl ⟨by rfl, fun X hS => ?_⟩) hHeld ?_
  · obtain ⟨s4, s5, s6, s7, s8, s9⟩ := hS
    go_simp
  try simp only [Act.put, List.getElem_toArray, List.getElem_cons_zero, List.getElem_cons_succ, List.setIfInBounds_toArray, List.set_cons_zero, List.set_cons_succ]
  refine wpAnyH_take (i := 6) (v := (.int .i64 at_)) rfl (by kernel_rfl) (by kernel_rfl) (by kernel_rfl) (fun _ _ _ h => h) (Or.inl ⟨by rfl, fun X hS => ?_⟩) hHeld ?_
  · obtain ⟨s4, s5, s6, s7, s8, s9⟩ := hS
    go_simp
  try simp only [Act.put, List.getElem_toArray, List.getElem_cons_zero, List.getElem_cons_succ, List.setIfInBounds_toArray, List.set_cons_zero, List.set_cons_succ]
  refine wpAnyH_take (i := 7) (v := (.pointer (some ⟨E, 3, none⟩))) rfl (by kernel_rfl) (by kernel_rfl) (by kernel_rfl) (fun _ _ _ h => h) (Or.inl ⟨by rfl, fun X hS => ?_⟩) hHeld ?_
  · obtain ⟨s4, s5, s6, s7, s8, s9⟩ := hS
    go_simp
  try simp only [Act.put, List.getElem_toArray, List.getElem_cons_zero, List.getElem_cons_succ, List.setIfInBounds_toArray, List.set_cons_zero, List.set_cons_succ]
  refine wpAnyH_take (i := 8) (v := (.int .i64 n)) rfl (by kernel_rfl) (by kernel_rfl) (by kernel_rfl) (fun _ _ _ h => h) (Or.inl ⟨by rfl, fun X hS => ?_⟩) hHeld ?_
  · obtain ⟨s4, s5, s6, s7, s8, s9⟩ := hS
    go_simp
  try simp only [Act.put, List.getElem_toArray, List.getElem_cons_zero, List.getElem_cons_succ, List.setIfInBounds_toArray, List.set_cons_zero, List.set_cons_succ]
  refine wpAnyH_take (i := 9) (v := (.pointer (some ⟨E, 4, none⟩))) rfl (by kernel_rfl) (by kernel_rfl) (by kernel_rfl) (fun _ _ _ h => h) (Or.inl ⟨by rfl, fun X hS => ?_⟩) hHeld ?_
  · obtain ⟨s4, s5, s6, s7, s8, s9⟩ := hS
    go_simp
  try simp only [Act.put, List.getElem_toArray, List.getElem_cons_zero, List.getElem_cons_succ, List.setIfInBounds_toArray, List.set_cons_zero, List.set_cons_succ]
  refine wpAnyH_take (i := 10) (v := (.int .u64 x)) rfl (by kernel_rfl) (by kernel_rfl) (by kernel_rfl) (fun _ _ _ h => h) (Or.inl ⟨by rfl, fun X hS => ?_⟩) hHeld ?_
  · obtain ⟨s4, s5, s6, s7, s8, s9⟩ := hS
    go_simp
  try simp only [Act.put, List.getElem_toArray, List.getElem_cons_zero, List.getElem_cons_succ, List.setIfInBounds_toArray, List.set_cons_zero, List.set_cons_succ]
  refine wpAnyH_take (i := 11) (v := (.int .u8 (Y.toNat : Int))) rfl (by kernel_rfl) (by kernel_rfl) (by kernel_rfl) (fun _ _ _ h => h) (Or.inl ⟨by rfl, fun X hS => ?_⟩) hHeld ?_
  · obtain ⟨s4, s5, s6, s7, s8, s9⟩ := hS
    have hqy := HQY.out
    go_simp
  try simp only [Act.put, List.getElem_toArray, List.getElem_cons_zero, List.getElem_cons_succ, List.setIfInBounds_toArray, List.set_cons_zero, List.set_cons_succ]
  have HD := Lib.hid hS0
  clear hS0 hHeld
  refine wpAnyH_ready (rs := [4]) (by kernel_rfl) (by simp) (AllReadyH.cons rfl (fun K1 hK1 => ?_) AllReadyH.nil)
  obtain ⟨⟨s1, s2, s3⟩, ⟨s4, s5, s6, s7, s8, s9⟩, s10, s11⟩ := HD.out.cells
  go_simp
  clear s1 s2 s3 s4 s5 s6 s7 s8 s9 s10 s11
  refine hK1.out _ _ HD.out.cells.2.1 (fun hHeld => ?_)
  clear hK1
  try simp only [Act.put, List.getElem_toArray, List.getElem_cons_zero, List.getElem_cons_succ, List.setIfInBounds_toArray, List.set_cons_zero, List.set_cons_succ]
  clear hHeld
  refine wpAnyH_ready (rs := [12]) (by kernel_rfl) (by simp) (AllReadyH.cons rfl (fun K1 hK1 => ?_) AllReadyH.nil)
  go_simp
  refine (HDC.out _ HD.out.d).mono ?_
  rintro e w3 ⟨b2, cap2, rfl, hd2, hb⟩
  have HD3 := Lib.hid (HD.out.below hb)
  have HD4 := Lib.hid (HD3.out.put (cap2 := cap2) hd2)
  rw [HRS.out] at HD4
  clear hd2 hb
  refine hK1.out _ _ HD3.out.cells.2.1 (fun hHeld => ?_)
  clear hK1
  try simp only [Act.put, List.getElem_toArray, List.getElem_cons_zero, List.getElem_cons_succ, List.setIfInBounds_toArray, List.set_cons_zero, List.set_cons_succ]
  refine wpAnyH_take (i := 13) (v := (.tuple #[.agg #[.slice (some ⟨b2, 0, none⟩) s'.L cap2, .int .i64 (refR s)], .int .i64 er])) rfl (by kernel_rfl) (by kernel_rfl) (by kernel_rfl) (fun _ _ _ h => h) (Or.inl ⟨by rfl, fun X hS => ?_⟩) hHeld ?_
  · obtain ⟨s4, s5, s6, s7, s8, s9⟩ := hS
    go_simp
  try simp only [Act.put, List.getElem_toArray, List.getElem_cons_zero, List.getElem_cons_succ, List.setIfInBounds_toArray, List.set_cons_zero, List.set_cons_succ]
  refine wpAnyH_take (i := 14) (v := (.agg #[.slice (some ⟨b2, 0, none⟩) s'.L cap2, .int .i64 (refR s)])) rfl (by kernel_rfl) (by kernel_rfl) (by kernel_rfl) (fun _ _ _ h => h) (Or.inl ⟨by rfl, fun X hS => ?_⟩) hHeld ?_
  · obtain ⟨s4, s5, s6, s7, s8, s9⟩ := hS
    go_simp
  try simp only [Act.put, List.getElem_toArray, List.getElem_cons_zero, List.getElem_cons_succ, List.setIfInBounds_toArray, List.set_cons_zero, List.set_cons_succ]
  refine wpAnyH_take (i := 15) (v := (.int .i64 er)) rfl (by kernel_rfl) (by kernel_rfl) (by kernel_rfl) (fun _ _ _ h => h) (Or.inl ⟨by rfl, fun X hS => ?_⟩) hHeld ?_
  · obtain ⟨s4, s5, s6, s7, s8, s9⟩ := hS
    go_simp
  try simp only [Act.put, List.getElem_toArray, List.getElem_cons_zero, List.getElem_cons_succ, List.setIfInBounds_toArray, List.set_cons_zero, List.set_cons_succ]
  refine wpAnyH_take (i := 16) (v := (.pointer (some ⟨Wb, 0, none⟩))) rfl (by kernel_rfl) (by kernel_rfl) (by kernel_rfl) (fun _ _ _ h => h) (Or.inl ⟨by rfl, fun X hS => ?_⟩) hHeld ?_
  · obtain ⟨s4, s5, s6, s7, s8, s9⟩ := hS
    go_simp
  try simp only [Act.put, List.getElem_toArray, List.getElem_cons_zero, List.getElem_cons_succ, List.setIfInBounds_toArray, List.set_cons_zero, List.set_cons_succ]
  refine wpAnyH_take (i := 17) (v := (.pointer (some ⟨Wb, 1, none⟩))) rfl (by kernel_rfl) (by kernel_rfl) (by kernel_rfl) (fun _ _ _ h => h) (Or.inl ⟨by rfl, fun X hS => ?_⟩) hHeld ?_
  · obtain ⟨s4, s5, s6, s7, s8, s9⟩ := hS
    go_simp
  try simp only [Act.put, List.getElem_toArray, List.getElem_cons_zero, List.getElem_cons_succ, List.setIfInBounds_toArray, List.set_cons_zero, List.set_cons_succ]
  clear hHeld
  obtain ⟨⟨s1, s2, s3⟩, ⟨s4, s5, s6, s7, s8, s9⟩, s10, s11⟩ := HD3.out.cells
  refine wpAnyH_ready (rs := [18]) (by kernel_rfl) (by simp) (AllReadyH.cons rfl (fun K1 hK1 => ?_) AllReadyH.nil)
  go_simp
  refine hK1.out _ _ HD4.out.cells.2.1 (fun hHeld => ?_)
  clear hK1
  try simp only [Act.put, List.getElem_toArray, List.getElem_cons_zero, List.getElem_cons_succ, List.setIfInBounds_toArray, List.set_cons_zero, List.set_cons_succ]
  clear s1 s2 s3 s4 s5 s6 s7 s8 s9 s10 s11
  refine wpAnyH_take (i := 19) (v := (.int .i64 er)) rfl (by kernel_rfl) (by kernel_rfl) (by kernel_rfl) (fun _ _ _ h => h) (Or.inl ⟨by rfl, fun X hS => ?_⟩) hHeld ?_
  · obtain ⟨s4, s5, s6, s7, s8, s9⟩ := hS
    go_simp
  try simp only [Act.put, List.getElem_toArray, List.getElem_cons_zero, List.getElem_cons_succ, List.setIfInBounds_toArray, List.set_cons_zero, List.set_cons_succ]
  clear hHeld
  refine wpAnyH_done (by kernel_rfl) ?_ _
  have hee : (er == er) = true := by simp
  go_wp2_with fail
  go_ret
  exact ⟨A, b2, cap2, s', rfl, HSL.out, HD4.out.fin⟩
end Go.Proofs.Ytdmaendhkenmgaa.Bt
/- law03's do: Copy. (Written by gen_dax.py.) -/
namespace Go.Proofs.Ytdmaendhkenmgaa.Bt
open Go Go.RowKit Go.Shelf
set_option linter.unusedVariables false
set_option linter.unusedSimpArgs false

set_option maxHeartbeats 8000000 in
set_option maxRecDepth 100000 in
theorem ddo_copy {Wb A b cap : Nat} {s : ASt} {d at_ fr n x : Int} {S : ByteArray} {w0 w : World} (h : DoW Wb A b cap s w0 w) (hL : s.L ≤ 8) (hd : d.tmod 10 = 8) (hd0 : 0 ≤ d ∧ d ≤ 255) (ha : -9223372036854775808 ≤ at_ ∧ at_ ≤ 9223372036854775807) (hf : -9223372036854775808 ≤ fr ∧ fr ≤ 9223372036854775807) (hn : -9223372036854775808 ≤ n ∧ n ≤ 9223372036854775807) (hx : 0 ≤ x ∧ x < 18446744073709551616) :
    Calls Try.prog 12 #[.pointer (some ⟨Wb, 0, none⟩), .agg #[.int .u8 d, .int .i64 at_, .int .i64 fr, .int .i64 n, .int .u64 x, .string S]] w (DoP Wb s.L w0) := by
  obtain ⟨s', hs'⟩ : ∃ s', copyS s at_ fr n = s' := ⟨_, rfl⟩
  obtain ⟨er, her⟩ : ∃ er, copyE s at_ fr n = er := ⟨_, rfl⟩
  have HPC := Lib.hid (fun (y : World) (hy : On A s y) => on_acopy hy at_ fr n (by omega) (by omega))
  have HDC := Lib.hid (fun (y : World) (hy : DocB b (gS s) y) => dk_copy (cap := cap) h.x.good (by omega) at_ fr n ha hf hn hy)
  rw [hs', her] at HPC HDC
  have HSL : Hid (s'.L = s.L) := Lib.hid (by rw [← hs']; unfold copyS; (repeat' split) <;> rfl)
  have HRS : Hid (refR s' = refR s) := Lib.hid (by rw [← hs']; unfold copyS; (repeat' split) <;> rfl)
  clear hs' her hf hn hx
  have hE := heap_new w (.cells #[.int .u8 d, .int .i64 at_, .int .i64 fr, .int .i64 n, .int .u64 x, .string S] 36)
  have hb0 := bel1 w (.cells #[.int .u8 d, .int .i64 at_, .int .i64 fr, .int .i64 n, .int .u64 x, .string S] 36)
  have hds := h.start hE hb0
  clear hE hb0
  go_enter Try.func12, Try.ntmps12
  go_upto_region 1 with fail
  change Code.wp _ _ _ _ (w.alloc (.cells #[.int .u8 d, .int .i64 at_, .int .i64 fr, .int .i64 n, .int .u64 x, .string S] 36))
  obtain ⟨y, hy⟩ : ∃ y, w.alloc (.cells #[.int .u8 d, .int .i64 at_, .int .i64 fr, .int .i64 n, .int .u64 x, .string S] 36) = y := ⟨_, rfl⟩
  obtain ⟨E, hEE⟩ : ∃ E, w.heap.size = E := ⟨_, rfl⟩
  rw [hy, hEE] at hds
  rw [hy, hEE]
  have H := Lib.hid hds
  clear hy hEE hds
  obtain ⟨⟨s1, s2, s3⟩, ⟨s4, s5, s6, s7, s8, s9⟩, s10, s11⟩ := H.out.cells
  go_upto_region 34 with fail
  have hS0 := H.out.below (Below.refl y.heap.size y).drew
  clear H s1 s2 s3 s4 s5 s6 s7 s8 s9 s10 s11
  refine wp_region_held_drew (S := fun X => ∃ s', DoS Wb E A b cap s' s d at_ fr n x S w0 X) (by kernel_rfl) ⟨_, hS0⟩ (fun hHeld => ?_)
  refine wpAnyH_take (i := 0) (v := (.pointer (some ⟨Wb, 0, none⟩))) rfl (by kernel_rfl) (by kernel_rfl) (by kernel_rfl) (fun _ _ _ h => h) (Or.inl ⟨by rfl, fun X hS => ?_⟩) hHeld ?_
  · obtain ⟨s9x, hs9x⟩ := hS
    obtain ⟨⟨s1, s2, s3⟩, ⟨s4, s5, s6, s7, s8, s9⟩, s10, s11⟩ := hs9x.cells
    go_simp
  try simp only [Act.put, List.getElem_toArray, List.getElem_cons_zero, List.getElem_cons_succ, List.setIfInBounds_toArray, List.set_cons_zero, List.set_cons_succ]
  refine wpAnyH_take (i := 1) (v := (.pointer (some ⟨Wb, 0, none⟩))) rfl (by kernel_rfl) (by kernel_rfl) (by kernel_rfl) (fun _ _ _ h => h) (Or.inl ⟨by rfl, fun X hS => ?_⟩) hHeld ?_
  · obtain ⟨s9x, hs9x⟩ := hS
    obtain ⟨⟨s1, s2, s3⟩, ⟨s4, s5, s6, s7, s8, s9⟩, s10, s11⟩ := hs9x.cells
    go_simp
  try simp only [Act.put, List.getElem_toArray, List.getElem_cons_zero, List.getElem_cons_succ, List.setIfInBounds_toArray, List.set_cons_zero, List.set_cons_succ]
  refine wpAnyH_take (i := 2) (v := (.pointer (some ⟨Wb, 0, none⟩))) rfl (by kernel_rfl) (by kernel_rfl) (by kernel_rfl) (fun _ _ _ h => h) (Or.inl ⟨by rfl, fun X hS => ?_⟩) hHeld ?_
  · obtain ⟨s9x, hs9x⟩ := hS
    obtain ⟨⟨s1, s2, s3⟩, ⟨s4, s5, s6, s7, s8, s9⟩, s10, s11⟩ := hs9x.cells
    go_simp
  try simp only [Act.put, List.getElem_toArray, List.getElem_cons_zero, List.getElem_cons_succ, List.setIfInBounds_toArray, List.set_cons_zero, List.set_cons_succ]
  refine wpAnyH_take (i := 3) (v := (.pointer (some ⟨A, 0, none⟩))) rfl (by kernel_rfl) (by kernel_rfl) (by kernel_rfl) (fun _ _ _ h => h) (Or.inl ⟨by rfl, fun X hS => ?_⟩) hHeld ?_
  · obtain ⟨s9x, hs9x⟩ := hS
    obtain ⟨⟨s1, s2, s3⟩, ⟨s4, s5, s6, s7, s8, s9⟩, s10, s11⟩ := hs9x.cells
    go_simp
  try simp only [Act.put, List.getElem_toArray, List.getElem_cons_zero, List.getElem_cons_succ, List.setIfInBounds_toArray, List.set_cons_zero, List.set_cons_succ]
  refine wpAnyH_take (i := 4) (v := (.pointer (some ⟨E, 1, none⟩))) rfl (by kernel_rfl) (by kernel_rfl) (by kernel_rfl) (fun _ _ _ h => h) (Or.inl ⟨by rfl, fun X hS => ?_⟩) hHeld ?_
  · obtain ⟨s9x, hs9x⟩ := hS
    obtain ⟨⟨s1, s2, s3⟩, ⟨s4, s5, s6, s7, s8, s9⟩, s10, s11⟩ := hs9x.cells
    go_simp
  try simp only [Act.put, List.getElem_toArray, List.getElem_cons_zero, List.getElem_cons_succ, List.setIfInBounds_toArray, List.set_cons_zero, List.set_cons_succ]
  refine wpAnyH_take (i := 5) (v := (.int .i64 at_)) rfl (by kernel_rfl) (by kernel_rfl) (by kernel_rfl) (fun _ _ _ h => h) (Or.inl ⟨by rfl, fun X hS => ?_⟩) hHeld ?_
  · obtain ⟨s9x, hs9x⟩ := hS
    obtain ⟨⟨s1, s2, s3⟩, ⟨s4, s5, s6, s7, s8, s9⟩, s10, s11⟩ := hs9x.cells
    go_simp
  try simp only [Act.put, List.getElem_toArray, List.getElem_cons_zero, List.getElem_cons_succ, List.setIfInBounds_toArray, List.set_cons_zero, List.set_cons_succ]
  refine wpAnyH_take (i := 6) (v := (.pointer (some ⟨E, 2, none⟩))) rfl (by kernel_rfl) (by kernel_rfl) (by kernel_rfl) (fun _ _ _ h => h) (Or.inl ⟨by rfl, fun X hS => ?_⟩) hHeld ?_
  · obtain ⟨s9x, hs9x⟩ := hS
    obtain ⟨⟨s1, s2, s3⟩, ⟨s4, s5, s6, s7, s8, s9⟩, s10, s11⟩ := hs9x.cells
    go_simp
  try simp only [Act.put, List.getElem_toArray, List.getElem_cons_zero, List.getElem_cons_succ, List.setIfInBounds_toArray, List.set_cons_zero, List.set_cons_succ]
  refine wpAnyH_take (i := 7) (v := (.int .i64 fr)) rfl (by kernel_rfl) (by kernel_rfl) (by kernel_rfl) (fun _ _ _ h => h) (Or.inl ⟨by rfl, fun X hS => ?_⟩) hHeld ?_
  · obtain ⟨s9x, hs9x⟩ := hS
    obtain ⟨⟨s1, s2, s3⟩, ⟨s4, s5, s6, s7, s8, s9⟩, s10, s11⟩ := hs9x.cells
    go_simp
  try simp only [Act.put, List.getElem_toArray, List.getElem_cons_zero, List.getElem_cons_succ, List.setIfInBounds_toArray, List.set_cons_zero, List.set_cons_succ]
  refine wpAnyH_take (i := 8) (v := (.pointer (some ⟨E, 3, none⟩))) rfl (by kernel_rfl) (by kernel_rfl) (by kernel_rfl) (fun _ _ _ h => h) (Or.inl ⟨by rfl, fun X hS => ?_⟩) hHeld ?_
  · obtain ⟨s9x, hs9x⟩ := hS
    obtain ⟨⟨s1, s2, s3⟩, ⟨s4, s5, s6, s7, s8, s9⟩, s10, s11⟩ := hs9x.cells
    go_simp
  try simp only [Act.put, List.getElem_toArray, List.getElem_cons_zero, List.getElem_cons_succ, List.setIfInBounds_toArray, List.set_cons_zero, List.set_cons_succ]
  refine wpAnyH_take (i := 9) (v := (.int .i64 n)) rfl (by kernel_rfl) (by kernel_rfl) (by kernel_rfl) (fun _ _ _ h => h) (Or.inl ⟨by rfl, fun X hS => ?_⟩) hHeld ?_
  · obtain ⟨s9x, hs9x⟩ := hS
    obtain ⟨⟨s1, s2, s3⟩, ⟨s4, s5, s6, s7, s8, s9⟩, s10, s11⟩ := hs9x.cells
    go_simp
  try simp only [Act.put, List.getElem_toArray, List.getElem_cons_zero, List.getElem_cons_succ, List.setIfInBounds_toArray, List.set_cons_zero, List.set_cons_succ]
  have HD := Lib.hid hS0
  clear hS0 hHeld
  refine wpAnyH_ready (rs := [10]) (by kernel_rfl) (by simp) (AllReadyH.cons rfl (fun K1 hK1 => ?_) AllReadyH.nil)
  go_simp
  refine (HPC.out _ HD.out.x).mono ?_
  rintro e w2 ⟨rfl, hx, hg⟩
  have HD2 := Lib.hid (HD.out.went hx hg)
  clear hx hg
  refine hK1.out _ _ ⟨_, HD2.out⟩ (fun hHeld => ?_)
  clear hK1
  try simp only [Act.put, List.getElem_toArray, List.getElem_cons_zero, List.getElem_cons_succ, List.setIfInBounds_toArray, List.set_cons_zero, List.set_cons_succ]
  refine wpAnyH_take (i := 11) (v := (.int .i64 er)) rfl (by kernel_rfl) (by kernel_rfl) (by kernel_rfl) (fun _ _ _ h => h) (Or.inl ⟨by rfl, fun X hS => ?_⟩) hHeld ?_
  · obtain ⟨s9x, hs9x⟩ := hS
    obtain ⟨⟨s1, s2, s3⟩, ⟨s4, s5, s6, s7, s8, s9⟩, s10, s11⟩ := hs9x.cells
    go_simp
  try simp only [Act.put, List.getElem_toArray, List.getElem_cons_zero, List.getElem_cons_succ, List.setIfInBounds_toArray, List.set_cons_zero, List.set_cons_succ]
  clear hHeld
  refine wpAnyH_done (by kernel_rfl) ?_ _
  go_upto_region 35 with fail
  have hS0 := HD2.out.below (Below.refl w2.heap.size w2).drew
  clear HD2 HD
  refine wp_region_held_drew (S := fun X => X.cell? ⟨E, 0, none⟩ = some (.int .u8 d) ∧ X.cell? ⟨E, 1, none⟩ = some (.int .i64 at_) ∧ X.cell? ⟨E, 2, none⟩ = some (.int .i64 fr) ∧ X.cell? ⟨E, 3, none⟩ = some (.int .i64 n) ∧ X.cell? ⟨E, 4, none⟩ = some (.int .u64 x) ∧ X.cell? ⟨E, 5, none⟩ = some (.string S)) (by kernel_rfl) hS0.cells.2.1 (fun hHeld => ?_)
  refine wpAnyH_take (i := 0) (v := (.pointer (some ⟨Wb, 0, none⟩))) rfl (by kernel_rfl) (by kernel_rfl) (by kernel_rfl) (fun _ _ _ h => h) (Or.inl ⟨by rfl, fun X hS => ?_⟩) hHeld ?_
  · obtain ⟨s4, s5, s6, s7, s8, s9⟩ := hS
    go_simp
  try simp only [Act.put, List.getElem_toArray, List.getElem_cons_zero, List.getElem_cons_succ, List.setIfInBounds_toArray, List.set_cons_zero, List.set_cons_succ]
  refine wpAnyH_take (i := 1) (v := (.pointer (some ⟨Wb, 0, none⟩))) rfl (by kernel_rfl) (by kernel_rfl) (by kernel_rfl) (fun _ _ _ h => h) (Or.inl ⟨by rfl, fun X hS => ?_⟩) hHeld ?_
  · obtain ⟨s4, s5, s6, s7, s8, s9⟩ := hS
    go_simp
  try simp only [Act.put, List.getElem_toArray, List.getElem_cons_zero, List.getElem_cons_succ, List.setIfInBounds_toArray, List.set_cons_zero, List.set_cons_succ]
  refine wpAnyH_take (i := 2) (v := (.pointer (some ⟨Wb, 0, none⟩))) rfl (by kernel_rfl) (by kernel_rfl) (by kernel_rfl) (fun _ _ _ h => h) (Or.inl ⟨by rfl, fun X hS => ?_⟩) hHeld ?_
  · obtain ⟨s4, s5, s6, s7, s8, s9⟩ := hS
    go_simp
  try simp only [Act.put, List.getElem_toArray, List.getElem_cons_zero, List.getElem_cons_succ, List.setIfInBounds_toArray, List.set_cons_zero, List.set_cons_succ]
  refine wpAnyH_take (i := 3) (v := (.pointer (some ⟨Wb, 1, none⟩))) rfl (by kernel_rfl) (by kernel_rfl) (by kernel_rfl) (fun _ _ _ h => h) (Or.inl ⟨by rfl, fun X hS => ?_⟩) hHeld ?_
  · obtain ⟨s4, s5, s6, s7, s8, s9⟩ := hS
    go_simp
  try simp only [Act.put, List.getElem_toArray, List.getElem_cons_zero, List.getElem_cons_succ, List.setIfInBounds_toArray, List.set_cons_zero, List.set_cons_succ]
  refine wpAnyH_take (i := 5) (v := (.pointer (some ⟨E, 1, none⟩))) rfl (by kernel_rfl) (by kernel_rfl) (by kernel_rfl) (fun _ _ _ h => h) (Or.inl ⟨by rfl, fun X hS => ?_⟩) hHeld ?_
  · obtain ⟨s4, s5, s6, s7, s8, s9⟩ := hS
    go_simp
  try simp only [Act.put, List.getElem_toArray, List.getElem_cons_zero, List.getElem_cons_succ, List.setIfInBounds_toArray, List.set_cons_zero, List.set_cons_succ]
  refine wpAnyH_take (i := 6) (v := (.int .i64 at_)) rfl (by kernel_rfl) (by kernel_rfl) (by kernel_rfl) (fun _ _ _ h => h) (Or.inl ⟨by rfl, fun X hS => ?_⟩) hHeld ?_
  · obtain ⟨s4, s5, s6, s7, s8, s9⟩ := hS
    go_simp
  try simp only [Act.put, List.getElem_toArray, List.getElem_cons_zero, List.getElem_cons_succ, List.setIfInBounds_toArray, List.set_cons_zero, List.set_cons_succ]
  refine wpAnyH_take (i := 7) (v := (.pointer (some ⟨E, 2, none⟩))) rfl (by kernel_rfl) (by kernel_rfl) (by kernel_rfl) (fun _ _ _ h => h) (Or.inl ⟨by rfl, fun X hS => ?_⟩) hHeld ?_
  · obtain ⟨s4, s5, s6, s7, s8, s9⟩ := hS
    go_simp
  try simp only [Act.put, List.getElem_toArray, List.getElem_cons_zero, List.getElem_cons_succ, List.setIfInBounds_toArray, List.set_cons_zero, List.set_cons_succ]
  refine wpAnyH_take (i := 8) (v := (.int .i64 fr)) rfl (by kernel_rfl) (by kernel_rfl) (by kernel_rfl) (fun _ _ _ h => h) (Or.inl ⟨by rfl, fun X hS => ?_⟩) hHeld ?_
  · obtain ⟨s4, s5, s6, s7, s8, s9⟩ := hS
    go_simp
  try simp only [Act.put, List.getElem_toArray, List.getElem_cons_zero, List.getElem_cons_succ, List.setIfInBounds_toArray, List.set_cons_zero, List.set_cons_succ]
  refine wpAnyH_take (i := 9) (v := (.pointer (some ⟨E, 3, none⟩))) rfl (by kernel_rfl) (by kernel_rfl) (by kernel_rfl) (fun _ _ _ h => h) (Or.inl ⟨by rfl, fun X hS => ?_⟩) hHeld ?_
  · obtain ⟨s4, s5, s6, s7, s8, s9⟩ := hS
    go_simp
  try simp only [Act.put, List.getElem_toArray, List.getElem_cons_zero, List.getElem_cons_succ, List.setIfInBounds_toArray, List.set_cons_zero, List.set_cons_succ]
  refine wpAnyH_take (i := 10) (v := (.int .i64 n)) rfl (by kernel_rfl) (by kernel_rfl) (by kernel_rfl) (fun _ _ _ h => h) (Or.inl ⟨by rfl, fun X hS => ?_⟩) hHeld ?_
  · obtain ⟨s4, s5, s6, s7, s8, s9⟩ := hS
    go_simp
  try simp only [Act.put, List.getElem_toArray, List.getElem_cons_zero, List.getElem_cons_succ, List.setIfInBounds_toArray, List.set_cons_zero, List.set_cons_succ]
  have HD := Lib.hid hS0
  clear hS0 hHeld
  refine wpAnyH_ready (rs := [4]) (by kernel_rfl) (by simp) (AllReadyH.cons rfl (fun K1 hK1 => ?_) AllReadyH.nil)
  obtain ⟨⟨s1, s2, s3⟩, ⟨s4, s5, s6, s7, s8, s9⟩, s10, s11⟩ := HD.out.cells
  go_simp
  clear s1 s2 s3 s4 s5 s6 s7 s8 s9 s10 s11
  refine hK1.out _ _ HD.out.cells.2.1 (fun hHeld => ?_)
  clear hK1
  try simp only [Act.put, List.getElem_toArray, List.getElem_cons_zero, List.getElem_cons_succ, List.setIfInBounds_toArray, List.set_cons_zero, List.set_cons_succ]
  clear hHeld
  refine wpAnyH_ready (rs := [11]) (by kernel_rfl) (by simp) (AllReadyH.cons rfl (fun K1 hK1 => ?_) AllReadyH.nil)
  go_simp
  refine (HDC.out _ HD.out.d).mono ?_
  rintro e w3 ⟨b2, cap2, rfl, hd2, hb⟩
  have HD3 := Lib.hid (HD.out.below hb)
  have HD4 := Lib.hid (HD3.out.put (cap2 := cap2) hd2)
  rw [HRS.out] at HD4
  clear hd2 hb
  refine hK1.out _ _ HD3.out.cells.2.1 (fun hHeld => ?_)
  clear hK1
  try simp only [Act.put, List.getElem_toArray, List.getElem_cons_zero, List.getElem_cons_succ, List.setIfInBounds_toArray, List.set_cons_zero, List.set_cons_succ]
  refine wpAnyH_take (i := 12) (v := (.tuple #[.agg #[.slice (some ⟨b2, 0, none⟩) s'.L cap2, .int .i64 (refR s)], .int .i64 er])) rfl (by kernel_rfl) (by kernel_rfl) (by kernel_rfl) (fun _ _ _ h => h) (Or.inl ⟨by rfl, fun X hS => ?_⟩) hHeld ?_
  · obtain ⟨s4, s5, s6, s7, s8, s9⟩ := hS
    go_simp
  try simp only [Act.put, List.getElem_toArray, List.getElem_cons_zero, List.getElem_cons_succ, List.setIfInBounds_toArray, List.set_cons_zero, List.set_cons_succ]
  refine wpAnyH_take (i := 13) (v := (.agg #[.slice (some ⟨b2, 0, none⟩) s'.L cap2, .int .i64 (refR s)])) rfl (by kernel_rfl) (by kernel_rfl) (by kernel_rfl) (fun _ _ _ h => h) (Or.inl ⟨by rfl, fun X hS => ?_⟩) hHeld ?_
  · obtain ⟨s4, s5, s6, s7, s8, s9⟩ := hS
    go_simp
  try simp only [Act.put, List.getElem_toArray, List.getElem_cons_zero, List.getElem_cons_succ, List.setIfInBounds_toArray, List.set_cons_zero, List.set_cons_succ]
  refine wpAnyH_take (i := 14) (v := (.int .i64 er)) rfl (by kernel_rfl) (by kernel_rfl) (by kernel_rfl) (fun _ _ _ h => h) (Or.inl ⟨by rfl, fun X hS => ?_⟩) hHeld ?_
  · obtain ⟨s4, s5, s6, s7, s8, s9⟩ := hS
    go_simp
  try simp only [Act.put, List.getElem_toArray, List.getElem_cons_zero, List.getElem_cons_succ, List.setIfInBounds_toArray, List.set_cons_zero, List.set_cons_succ]
  refine wpAnyH_take (i := 15) (v := (.pointer (some ⟨Wb, 0, none⟩))) rfl (by kernel_rfl) (by kernel_rfl) (by kernel_rfl) (fun _ _ _ h => h) (Or.inl ⟨by rfl, fun X hS => ?_⟩) hHeld ?_
  · obtain ⟨s4, s5, s6, s7, s8, s9⟩ := hS
    go_simp
  try simp only [Act.put, List.getElem_toArray, List.getElem_cons_zero, List.getElem_cons_succ, List.setIfInBounds_toArray, List.set_cons_zero, List.set_cons_succ]
  refine wpAnyH_take (i := 16) (v := (.pointer (some ⟨Wb, 1, none⟩))) rfl (by kernel_rfl) (by kernel_rfl) (by kernel_rfl) (fun _ _ _ h => h) (Or.inl ⟨by rfl, fun X hS => ?_⟩) hHeld ?_
  · obtain ⟨s4, s5, s6, s7, s8, s9⟩ := hS
    go_simp
  try simp only [Act.put, List.getElem_toArray, List.getElem_cons_zero, List.getElem_cons_succ, List.setIfInBounds_toArray, List.set_cons_zero, List.set_cons_succ]
  clear hHeld
  obtain ⟨⟨s1, s2, s3⟩, ⟨s4, s5, s6, s7, s8, s9⟩, s10, s11⟩ := HD3.out.cells
  refine wpAnyH_ready (rs := [17]) (by kernel_rfl) (by simp) (AllReadyH.cons rfl (fun K1 hK1 => ?_) AllReadyH.nil)
  go_simp
  refine hK1.out _ _ HD4.out.cells.2.1 (fun hHeld => ?_)
  clear hK1
  try simp only [Act.put, List.getElem_toArray, List.getElem_cons_zero, List.getElem_cons_succ, List.setIfInBounds_toArray, List.set_cons_zero, List.set_cons_succ]
  clear s1 s2 s3 s4 s5 s6 s7 s8 s9 s10 s11
  refine wpAnyH_take (i := 18) (v := (.int .i64 er)) rfl (by kernel_rfl) (by kernel_rfl) (by kernel_rfl) (fun _ _ _ h => h) (Or.inl ⟨by rfl, fun X hS => ?_⟩) hHeld ?_
  · obtain ⟨s4, s5, s6, s7, s8, s9⟩ := hS
    go_simp
  try simp only [Act.put, List.getElem_toArray, List.getElem_cons_zero, List.getElem_cons_succ, List.setIfInBounds_toArray, List.set_cons_zero, List.set_cons_succ]
  clear hHeld
  refine wpAnyH_done (by kernel_rfl) ?_ _
  have hee : (er == er) = true := by simp
  go_wp2_with fail
  go_ret
  exact ⟨A, b2, cap2, s', rfl, HSL.out, HD4.out.fin⟩
end Go.Proofs.Ytdmaendhkenmgaa.Bt
/- law03's do: Load. (Written by gen_dax.py.) -/
namespace Go.Proofs.Ytdmaendhkenmgaa.Bt
open Go Go.RowKit Go.Shelf
set_option linter.unusedVariables false
set_option linter.unusedSimpArgs false

set_option maxHeartbeats 8000000 in
set_option maxRecDepth 100000 in
theorem ddo_load {Wb A b cap : Nat} {s : ASt} {d at_ fr n x : Int} {S : ByteArray} {w0 w : World} (h : DoW Wb A b cap s w0 w) (hL : s.L ≤ 8) (hd : d.tmod 10 = 3) (hd0 : 0 ≤ d ∧ d ≤ 255) (ha : -9223372036854775808 ≤ at_ ∧ at_ ≤ 9223372036854775807) (hf : -9223372036854775808 ≤ fr ∧ fr ≤ 9223372036854775807) (hn : -9223372036854775808 ≤ n ∧ n ≤ 9223372036854775807) (hx : 0 ≤ x ∧ x < 18446744073709551616) :
    Calls Try.prog 12 #[.pointer (some ⟨Wb, 0, none⟩), .agg #[.int .u8 d, .int .i64 at_, .int .i64 fr, .int .i64 n, .int .u64 x, .string S]] w (DoP Wb s.L w0) := by
  have HPC := Lib.hid (fun (y : World) (hy : On A s y) => on_aload hy at_ n (by omega))
  have HDC := Lib.hid (fun (y : World) (hy : DocB b (gS s) y) => dload_any (cap := cap) (by rw [gS_len]; omega) (gS_ok s) (refR s) at_ n hy ha hn)
  rw [dlo_is h.x.good, gS_len] at HDC
  obtain ⟨V, hV⟩ : ∃ V, ldV s at_ n = V := ⟨_, rfl⟩
  obtain ⟨er, her⟩ : ∃ er, numE s.L s.es at_ n = er := ⟨_, rfl⟩
  rw [hV, her] at HPC HDC
  clear hV her hf hn hx
  have hE := heap_new w (.cells #[.int .u8 d, .int .i64 at_, .int .i64 fr, .int .i64 n, .int .u64 x, .string S] 36)
  have hb0 := bel1 w (.cells #[.int .u8 d, .int .i64 at_, .int .i64 fr, .int .i64 n, .int .u64 x, .string S] 36)
  have hds := h.start hE hb0
  clear hE hb0
  go_enter Try.func12, Try.ntmps12
  go_upto_region 1 with fail
  change Code.wp _ _ _ _ (w.alloc (.cells #[.int .u8 d, .int .i64 at_, .int .i64 fr, .int .i64 n, .int .u64 x, .string S] 36))
  obtain ⟨y, hy⟩ : ∃ y, w.alloc (.cells #[.int .u8 d, .int .i64 at_, .int .i64 fr, .int .i64 n, .int .u64 x, .string S] 36) = y := ⟨_, rfl⟩
  obtain ⟨E, hEE⟩ : ∃ E, w.heap.size = E := ⟨_, rfl⟩
  rw [hy, hEE] at hds
  rw [hy, hEE]
  have H := Lib.hid hds
  clear hy hEE hds
  obtain ⟨⟨s1, s2, s3⟩, ⟨s4, s5, s6, s7, s8, s9⟩, s10, s11⟩ := H.out.cells
  go_upto_region 17 with fail
  have hS0 := H.out.below (Below.refl y.heap.size y).drew
  clear H s1 s2 s3 s4 s5 s6 s7 s8 s9 s10 s11
  refine wp_region_held_drew (S := DoS Wb E A b cap s s d at_ fr n x S w0) (by kernel_rfl) hS0 (fun hHeld => ?_)
  clear hS0
  refine wpAnyH_take (i := 0) (v := (.pointer (some ⟨Wb, 0, none⟩))) rfl (by kernel_rfl) (by kernel_rfl) (by kernel_rfl) (fun _ _ _ h => h) (Or.inl ⟨by rfl, fun X hS => ?_⟩) hHeld ?_
  · obtain ⟨⟨s1, s2, s3⟩, ⟨s4, s5, s6, s7, s8, s9⟩, s10, s11⟩ := hS.cells
    go_simp
  try simp only [Act.put, List.getElem_toArray, List.getElem_cons_zero, List.getElem_cons_succ, List.setIfInBounds_toArray, List.set_cons_zero, List.set_cons_succ]
  refine wpAnyH_take (i := 1) (v := (.pointer (some ⟨Wb, 0, none⟩))) rfl (by kernel_rfl) (by kernel_rfl) (by kernel_rfl) (fun _ _ _ h => h) (Or.inl ⟨by rfl, fun X hS => ?_⟩) hHeld ?_
  · obtain ⟨⟨s1, s2, s3⟩, ⟨s4, s5, s6, s7, s8, s9⟩, s10, s11⟩ := hS.cells
    go_simp
  try simp only [Act.put, List.getElem_toArray, List.getElem_cons_zero, List.getElem_cons_succ, List.setIfInBounds_toArray, List.set_cons_zero, List.set_cons_succ]
  refine wpAnyH_take (i := 2) (v := (.pointer (some ⟨Wb, 0, none⟩))) rfl (by kernel_rfl) (by kernel_rfl) (by kernel_rfl) (fun _ _ _ h => h) (Or.inl ⟨by rfl, fun X hS => ?_⟩) hHeld ?_
  · obtain ⟨⟨s1, s2, s3⟩, ⟨s4, s5, s6, s7, s8, s9⟩, s10, s11⟩ := hS.cells
    go_simp
  try simp only [Act.put, List.getElem_toArray, List.getElem_cons_zero, List.getElem_cons_succ, List.setIfInBounds_toArray, List.set_cons_zero, List.set_cons_succ]
  refine wpAnyH_take (i := 3) (v := (.pointer (some ⟨A, 0, none⟩))) rfl (by kernel_rfl) (by kernel_rfl) (by kernel_rfl) (fun _ _ _ h => h) (Or.inl ⟨by rfl, fun X hS => ?_⟩) hHeld ?_
  · obtain ⟨⟨s1, s2, s3⟩, ⟨s4, s5, s6, s7, s8, s9⟩, s10, s11⟩ := hS.cells
    go_simp
  try simp only [Act.put, List.getElem_toArray, List.getElem_cons_zero, List.getElem_cons_succ, List.setIfInBounds_toArray, List.set_cons_zero, List.set_cons_succ]
  refine wpAnyH_take (i := 4) (v := (.pointer (some ⟨E, 1, none⟩))) rfl (by kernel_rfl) (by kernel_rfl) (by kernel_rfl) (fun _ _ _ h => h) (Or.inl ⟨by rfl, fun X hS => ?_⟩) hHeld ?_
  · obtain ⟨⟨s1, s2, s3⟩, ⟨s4, s5, s6, s7, s8, s9⟩, s10, s11⟩ := hS.cells
    go_simp
  try simp only [Act.put, List.getElem_toArray, List.getElem_cons_zero, List.getElem_cons_succ, List.setIfInBounds_toArray, List.set_cons_zero, List.set_cons_succ]
  refine wpAnyH_take (i := 5) (v := (.int .i64 at_)) rfl (by kernel_rfl) (by kernel_rfl) (by kernel_rfl) (fun _ _ _ h => h) (Or.inl ⟨by rfl, fun X hS => ?_⟩) hHeld ?_
  · obtain ⟨⟨s1, s2, s3⟩, ⟨s4, s5, s6, s7, s8, s9⟩, s10, s11⟩ := hS.cells
    go_simp
  try simp only [Act.put, List.getElem_toArray, List.getElem_cons_zero, List.getElem_cons_succ, List.setIfInBounds_toArray, List.set_cons_zero, List.set_cons_succ]
  refine wpAnyH_take (i := 6) (v := (.pointer (some ⟨E, 3, none⟩))) rfl (by kernel_rfl) (by kernel_rfl) (by kernel_rfl) (fun _ _ _ h => h) (Or.inl ⟨by rfl, fun X hS => ?_⟩) hHeld ?_
  · obtain ⟨⟨s1, s2, s3⟩, ⟨s4, s5, s6, s7, s8, s9⟩, s10, s11⟩ := hS.cells
    go_simp
  try simp only [Act.put, List.getElem_toArray, List.getElem_cons_zero, List.getElem_cons_succ, List.setIfInBounds_toArray, List.set_cons_zero, List.set_cons_succ]
  refine wpAnyH_take (i := 7) (v := (.int .i64 n)) rfl (by kernel_rfl) (by kernel_rfl) (by kernel_rfl) (fun _ _ _ h => h) (Or.inl ⟨by rfl, fun X hS => ?_⟩) hHeld ?_
  · obtain ⟨⟨s1, s2, s3⟩, ⟨s4, s5, s6, s7, s8, s9⟩, s10, s11⟩ := hS.cells
    go_simp
  try simp only [Act.put, List.getElem_toArray, List.getElem_cons_zero, List.getElem_cons_succ, List.setIfInBounds_toArray, List.set_cons_zero, List.set_cons_succ]
  refine wpAnyH_ready (rs := [8]) (by kernel_rfl) (by simp) (AllReadyH.cons rfl (fun K1 hK1 => ?_) AllReadyH.nil)
  go_simp
  have HD := Lib.hid hHeld
  clear hHeld
  refine (HPC.out _ HD.out.x).mono ?_
  rintro e w2 ⟨rfl, hb⟩
  have HDw2 := Lib.hid (HD.out.below hb)
  clear hb HD
  refine hK1.out _ _ HDw2.out (fun hHeld => ?_)
  clear hK1
  try simp only [Act.put, List.getElem_toArray, List.getElem_cons_zero, List.getElem_cons_succ, List.setIfInBounds_toArray, List.set_cons_zero, List.set_cons_succ]
  refine wpAnyH_take (i := 9) (v := (.tuple #[.int .u64 V, .int .i64 er])) rfl (by kernel_rfl) (by kernel_rfl) (by kernel_rfl) (fun _ _ _ h => h) (Or.inl ⟨by rfl, fun X hS => ?_⟩) hHeld ?_
  · obtain ⟨⟨s1, s2, s3⟩, ⟨s4, s5, s6, s7, s8, s9⟩, s10, s11⟩ := hS.cells
    go_simp
  try simp only [Act.put, List.getElem_toArray, List.getElem_cons_zero, List.getElem_cons_succ, List.setIfInBounds_toArray, List.set_cons_zero, List.set_cons_succ]
  refine wpAnyH_take (i := 10) (v := (.int .u64 V)) rfl (by kernel_rfl) (by kernel_rfl) (by kernel_rfl) (fun _ _ _ h => h) (Or.inl ⟨by rfl, fun X hS => ?_⟩) hHeld ?_
  · obtain ⟨⟨s1, s2, s3⟩, ⟨s4, s5, s6, s7, s8, s9⟩, s10, s11⟩ := hS.cells
    go_simp
  try simp only [Act.put, List.getElem_toArray, List.getElem_cons_zero, List.getElem_cons_succ, List.setIfInBounds_toArray, List.set_cons_zero, List.set_cons_succ]
  refine wpAnyH_take (i := 11) (v := (.int .i64 er)) rfl (by kernel_rfl) (by kernel_rfl) (by kernel_rfl) (fun _ _ _ h => h) (Or.inl ⟨by rfl, fun X hS => ?_⟩) hHeld ?_
  · obtain ⟨⟨s1, s2, s3⟩, ⟨s4, s5, s6, s7, s8, s9⟩, s10, s11⟩ := hS.cells
    go_simp
  try simp only [Act.put, List.getElem_toArray, List.getElem_cons_zero, List.getElem_cons_succ, List.setIfInBounds_toArray, List.set_cons_zero, List.set_cons_succ]
  refine wpAnyH_take (i := 12) (v := (.int .u64 V)) rfl (by kernel_rfl) (by kernel_rfl) (by kernel_rfl) (fun _ _ _ h => h) (Or.inl ⟨by rfl, fun X hS => ?_⟩) hHeld ?_
  · obtain ⟨⟨s1, s2, s3⟩, ⟨s4, s5, s6, s7, s8, s9⟩, s10, s11⟩ := hS.cells
    go_simp
  try simp only [Act.put, List.getElem_toArray, List.getElem_cons_zero, List.getElem_cons_succ, List.setIfInBounds_toArray, List.set_cons_zero, List.set_cons_succ]
  refine wpAnyH_take (i := 13) (v := (.int .i64 er)) rfl (by kernel_rfl) (by kernel_rfl) (by kernel_rfl) (fun _ _ _ h => h) (Or.inl ⟨by rfl, fun X hS => ?_⟩) hHeld ?_
  · obtain ⟨⟨s1, s2, s3⟩, ⟨s4, s5, s6, s7, s8, s9⟩, s10, s11⟩ := hS.cells
    go_simp
  try simp only [Act.put, List.getElem_toArray, List.getElem_cons_zero, List.getElem_cons_succ, List.setIfInBounds_toArray, List.set_cons_zero, List.set_cons_succ]
  clear hHeld
  refine wpAnyH_done (by kernel_rfl) ?_ _
  go_upto_region 18 with fail
  have hS0 := HDw2.out.below (Below.refl w2.heap.size w2).drew
  clear HDw2
  refine wp_region_held_drew (S := DoS Wb E A b cap s s d at_ fr n x S w0) (by kernel_rfl) hS0 (fun hHeld => ?_)
  clear hS0
  refine wpAnyH_take (i := 0) (v := (.pointer (some ⟨Wb, 0, none⟩))) rfl (by kernel_rfl) (by kernel_rfl) (by kernel_rfl) (fun _ _ _ h => h) (Or.inl ⟨by rfl, fun X hS => ?_⟩) hHeld ?_
  · obtain ⟨⟨s1, s2, s3⟩, ⟨s4, s5, s6, s7, s8, s9⟩, s10, s11⟩ := hS.cells
    go_simp
  try simp only [Act.put, List.getElem_toArray, List.getElem_cons_zero, List.getElem_cons_succ, List.setIfInBounds_toArray, List.set_cons_zero, List.set_cons_succ]
  refine wpAnyH_take (i := 1) (v := (.pointer (some ⟨Wb, 0, none⟩))) rfl (by kernel_rfl) (by kernel_rfl) (by kernel_rfl) (fun _ _ _ h => h) (Or.inl ⟨by rfl, fun X hS => ?_⟩) hHeld ?_
  · obtain ⟨⟨s1, s2, s3⟩, ⟨s4, s5, s6, s7, s8, s9⟩, s10, s11⟩ := hS.cells
    go_simp
  try simp only [Act.put, List.getElem_toArray, List.getElem_cons_zero, List.getElem_cons_succ, List.setIfInBounds_toArray, List.set_cons_zero, List.set_cons_succ]
  refine wpAnyH_take (i := 2) (v := (.pointer (some ⟨Wb, 1, none⟩))) rfl (by kernel_rfl) (by kernel_rfl) (by kernel_rfl) (fun _ _ _ h => h) (Or.inl ⟨by rfl, fun X hS => ?_⟩) hHeld ?_
  · obtain ⟨⟨s1, s2, s3⟩, ⟨s4, s5, s6, s7, s8, s9⟩, s10, s11⟩ := hS.cells
    go_simp
  try simp only [Act.put, List.getElem_toArray, List.getElem_cons_zero, List.getElem_cons_succ, List.setIfInBounds_toArray, List.set_cons_zero, List.set_cons_succ]
  refine wpAnyH_take (i := 3) (v := (.agg #[.slice (some ⟨b, 0, none⟩) s.L cap, .int .i64 (refR s)])) rfl (by kernel_rfl) (by kernel_rfl) (by kernel_rfl) (fun _ _ _ h => h) (Or.inl ⟨by rfl, fun X hS => ?_⟩) hHeld ?_
  · obtain ⟨⟨s1, s2, s3⟩, ⟨s4, s5, s6, s7, s8, s9⟩, s10, s11⟩ := hS.cells
    go_simp
  try simp only [Act.put, List.getElem_toArray, List.getElem_cons_zero, List.getElem_cons_succ, List.setIfInBounds_toArray, List.set_cons_zero, List.set_cons_succ]
  refine wpAnyH_take (i := 4) (v := (.pointer (some ⟨E, 1, none⟩))) rfl (by kernel_rfl) (by kernel_rfl) (by kernel_rfl) (fun _ _ _ h => h) (Or.inl ⟨by rfl, fun X hS => ?_⟩) hHeld ?_
  · obtain ⟨⟨s1, s2, s3⟩, ⟨s4, s5, s6, s7, s8, s9⟩, s10, s11⟩ := hS.cells
    go_simp
  try simp only [Act.put, List.getElem_toArray, List.getElem_cons_zero, List.getElem_cons_succ, List.setIfInBounds_toArray, List.set_cons_zero, List.set_cons_succ]
  refine wpAnyH_take (i := 5) (v := (.int .i64 at_)) rfl (by kernel_rfl) (by kernel_rfl) (by kernel_rfl) (fun _ _ _ h => h) (Or.inl ⟨by rfl, fun X hS => ?_⟩) hHeld ?_
  · obtain ⟨⟨s1, s2, s3⟩, ⟨s4, s5, s6, s7, s8, s9⟩, s10, s11⟩ := hS.cells
    go_simp
  try simp only [Act.put, List.getElem_toArray, List.getElem_cons_zero, List.getElem_cons_succ, List.setIfInBounds_toArray, List.set_cons_zero, List.set_cons_succ]
  refine wpAnyH_take (i := 6) (v := (.pointer (some ⟨E, 3, none⟩))) rfl (by kernel_rfl) (by kernel_rfl) (by kernel_rfl) (fun _ _ _ h => h) (Or.inl ⟨by rfl, fun X hS => ?_⟩) hHeld ?_
  · obtain ⟨⟨s1, s2, s3⟩, ⟨s4, s5, s6, s7, s8, s9⟩, s10, s11⟩ := hS.cells
    go_simp
  try simp only [Act.put, List.getElem_toArray, List.getElem_cons_zero, List.getElem_cons_succ, List.setIfInBounds_toArray, List.set_cons_zero, List.set_cons_succ]
  refine wpAnyH_take (i := 7) (v := (.int .i64 n)) rfl (by kernel_rfl) (by kernel_rfl) (by kernel_rfl) (fun _ _ _ h => h) (Or.inl ⟨by rfl, fun X hS => ?_⟩) hHeld ?_
  · obtain ⟨⟨s1, s2, s3⟩, ⟨s4, s5, s6, s7, s8, s9⟩, s10, s11⟩ := hS.cells
    go_simp
  try simp only [Act.put, List.getElem_toArray, List.getElem_cons_zero, List.getElem_cons_succ, List.setIfInBounds_toArray, List.set_cons_zero, List.set_cons_succ]
  refine wpAnyH_ready (rs := [8]) (by kernel_rfl) (by simp) (AllReadyH.cons rfl (fun K1 hK1 => ?_) AllReadyH.nil)
  go_simp
  have HD := Lib.hid hHeld
  clear hHeld
  refine (HDC.out _ HD.out.d).mono ?_
  rintro e w3 ⟨rfl, hb⟩
  have HDw3 := Lib.hid (HD.out.below hb)
  clear hb HD
  refine hK1.out _ _ HDw3.out (fun hHeld => ?_)
  clear hK1
  try simp only [Act.put, List.getElem_toArray, List.getElem_cons_zero, List.getElem_cons_succ, List.setIfInBounds_toArray, List.set_cons_zero, List.set_cons_succ]
  refine wpAnyH_take (i := 9) (v := (.tuple #[.int .u64 V, .int .i64 er])) rfl (by kernel_rfl) (by kernel_rfl) (by kernel_rfl) (fun _ _ _ h => h) (Or.inl ⟨by rfl, fun X hS => ?_⟩) hHeld ?_
  · obtain ⟨⟨s1, s2, s3⟩, ⟨s4, s5, s6, s7, s8, s9⟩, s10, s11⟩ := hS.cells
    go_simp
  try simp only [Act.put, List.getElem_toArray, List.getElem_cons_zero, List.getElem_cons_succ, List.setIfInBounds_toArray, List.set_cons_zero, List.set_cons_succ]
  refine wpAnyH_take (i := 10) (v := (.int .u64 V)) rfl (by kernel_rfl) (by kernel_rfl) (by kernel_rfl) (fun _ _ _ h => h) (Or.inl ⟨by rfl, fun X hS => ?_⟩) hHeld ?_
  · obtain ⟨⟨s1, s2, s3⟩, ⟨s4, s5, s6, s7, s8, s9⟩, s10, s11⟩ := hS.cells
    go_simp
  try simp only [Act.put, List.getElem_toArray, List.getElem_cons_zero, List.getElem_cons_succ, List.setIfInBounds_toArray, List.set_cons_zero, List.set_cons_succ]
  refine wpAnyH_take (i := 11) (v := (.int .i64 er)) rfl (by kernel_rfl) (by kernel_rfl) (by kernel_rfl) (fun _ _ _ h => h) (Or.inl ⟨by rfl, fun X hS => ?_⟩) hHeld ?_
  · obtain ⟨⟨s1, s2, s3⟩, ⟨s4, s5, s6, s7, s8, s9⟩, s10, s11⟩ := hS.cells
    go_simp
  try simp only [Act.put, List.getElem_toArray, List.getElem_cons_zero, List.getElem_cons_succ, List.setIfInBounds_toArray, List.set_cons_zero, List.set_cons_succ]
  refine wpAnyH_take (i := 12) (v := (.int .u64 V)) rfl (by kernel_rfl) (by kernel_rfl) (by kernel_rfl) (fun _ _ _ h => h) (Or.inl ⟨by rfl, fun X hS => ?_⟩) hHeld ?_
  · obtain ⟨⟨s1, s2, s3⟩, ⟨s4, s5, s6, s7, s8, s9⟩, s10, s11⟩ := hS.cells
    go_simp
  try simp only [Act.put, List.getElem_toArray, List.getElem_cons_zero, List.getElem_cons_succ, List.setIfInBounds_toArray, List.set_cons_zero, List.set_cons_succ]
  refine wpAnyH_take (i := 13) (v := (.int .i64 er)) rfl (by kernel_rfl) (by kernel_rfl) (by kernel_rfl) (fun _ _ _ h => h) (Or.inl ⟨by rfl, fun X hS => ?_⟩) hHeld ?_
  · obtain ⟨⟨s1, s2, s3⟩, ⟨s4, s5, s6, s7, s8, s9⟩, s10, s11⟩ := hS.cells
    go_simp
  try simp only [Act.put, List.getElem_toArray, List.getElem_cons_zero, List.getElem_cons_succ, List.setIfInBounds_toArray, List.set_cons_zero, List.set_cons_succ]
  clear hHeld
  refine wpAnyH_done (by kernel_rfl) ?_ _
  have hee : (er == er) = true := by simp
  have hvv : (V == V) = true := by simp
  go_wp2_with fail
  go_ret
  exact ⟨A, b, cap, s, rfl, rfl, HDw3.out.fin⟩
end Go.Proofs.Ytdmaendhkenmgaa.Bt
/- law03's do: Bytes. (Written by gen_dax.py.) -/
namespace Go.Proofs.Ytdmaendhkenmgaa.Bt
open Go Go.RowKit Go.Shelf
set_option linter.unusedVariables false
set_option linter.unusedSimpArgs false

set_option maxHeartbeats 8000000 in
set_option maxRecDepth 100000 in
theorem ddo_bytes {Wb A b cap : Nat} {s : ASt} {d at_ fr n x : Int} {S : ByteArray} {w0 w : World} (h : DoW Wb A b cap s w0 w) (hL : s.L ≤ 8) (hd : d.tmod 10 = 5) (hd0 : 0 ≤ d ∧ d ≤ 255) (ha : -9223372036854775808 ≤ at_ ∧ at_ ≤ 9223372036854775807) (hf : -9223372036854775808 ≤ fr ∧ fr ≤ 9223372036854775807) (hn : -9223372036854775808 ≤ n ∧ n ≤ 9223372036854775807) (hx : 0 ≤ x ∧ x < 18446744073709551616) :
    Calls Try.prog 12 #[.pointer (some ⟨Wb, 0, none⟩), .agg #[.int .u8 d, .int .i64 at_, .int .i64 fr, .int .i64 n, .int .u64 x, .string S]] w (DoP Wb s.L w0) := by
  have HPC := Lib.hid (fun (y : World) (hy : On A s y) => on_abytes hy at_ n (by omega))
  have HDC := Lib.hid (fun (y : World) (hy : DocB b (gS s) y) => dbytes_any (cap := cap) (by rw [gS_len]; omega) (gS_ok s) (refR s) at_ n hy ha hn)
  rw [dby_is h.x.good, gS_len] at HDC
  obtain ⟨V, hV⟩ : ∃ V, byV s at_ n = V := ⟨_, rfl⟩
  obtain ⟨er, her⟩ : ∃ er, thereE s.L s.es at_ n = er := ⟨_, rfl⟩
  rw [hV, her] at HPC HDC
  clear hV her hf hn hx
  have hE := heap_new w (.cells #[.int .u8 d, .int .i64 at_, .int .i64 fr, .int .i64 n, .int .u64 x, .string S] 36)
  have hb0 := bel1 w (.cells #[.int .u8 d, .int .i64 at_, .int .i64 fr, .int .i64 n, .int .u64 x, .string S] 36)
  have hds := h.start hE hb0
  clear hE hb0
  go_enter Try.func12, Try.ntmps12
  go_upto_region 1 with fail
  change Code.wp _ _ _ _ (w.alloc (.cells #[.int .u8 d, .int .i64 at_, .int .i64 fr, .int .i64 n, .int .u64 x, .string S] 36))
  obtain ⟨y, hy⟩ : ∃ y, w.alloc (.cells #[.int .u8 d, .int .i64 at_, .int .i64 fr, .int .i64 n, .int .u64 x, .string S] 36) = y := ⟨_, rfl⟩
  obtain ⟨E, hEE⟩ : ∃ E, w.heap.size = E := ⟨_, rfl⟩
  rw [hy, hEE] at hds
  rw [hy, hEE]
  have H := Lib.hid hds
  clear hy hEE hds
  obtain ⟨⟨s1, s2, s3⟩, ⟨s4, s5, s6, s7, s8, s9⟩, s10, s11⟩ := H.out.cells
  go_upto_region 24 with fail
  have hS0 := H.out.below (Below.refl y.heap.size y).drew
  clear H s1 s2 s3 s4 s5 s6 s7 s8 s9 s10 s11
  refine wp_region_held_drew (S := DoS Wb E A b cap s s d at_ fr n x S w0) (by kernel_rfl) hS0 (fun hHeld => ?_)
  clear hS0
  refine wpAnyH_take (i := 0) (v := (.pointer (some ⟨Wb, 0, none⟩))) rfl (by kernel_rfl) (by kernel_rfl) (by kernel_rfl) (fun _ _ _ h => h) (Or.inl ⟨by rfl, fun X hS => ?_⟩) hHeld ?_
  · obtain ⟨⟨s1, s2, s3⟩, ⟨s4, s5, s6, s7, s8, s9⟩, s10, s11⟩ := hS.cells
    go_simp
  try simp only [Act.put, List.getElem_toArray, List.getElem_cons_zero, List.getElem_cons_succ, List.setIfInBounds_toArray, List.set_cons_zero, List.set_cons_succ]
  refine wpAnyH_take (i := 1) (v := (.pointer (some ⟨Wb, 0, none⟩))) rfl (by kernel_rfl) (by kernel_rfl) (by kernel_rfl) (fun _ _ _ h => h) (Or.inl ⟨by rfl, fun X hS => ?_⟩) hHeld ?_
  · obtain ⟨⟨s1, s2, s3⟩, ⟨s4, s5, s6, s7, s8, s9⟩, s10, s11⟩ := hS.cells
    go_simp
  try simp only [Act.put, List.getElem_toArray, List.getElem_cons_zero, List.getElem_cons_succ, List.setIfInBounds_toArray, List.set_cons_zero, List.set_cons_succ]
  refine wpAnyH_take (i := 2) (v := (.pointer (some ⟨Wb, 0, none⟩))) rfl (by kernel_rfl) (by kernel_rfl) (by kernel_rfl) (fun _ _ _ h => h) (Or.inl ⟨by rfl, fun X hS => ?_⟩) hHeld ?_
  · obtain ⟨⟨s1, s2, s3⟩, ⟨s4, s5, s6, s7, s8, s9⟩, s10, s11⟩ := hS.cells
    go_simp
  try simp only [Act.put, List.getElem_toArray, List.getElem_cons_zero, List.getElem_cons_succ, List.setIfInBounds_toArray, List.set_cons_zero, List.set_cons_succ]
  refine wpAnyH_take (i := 3) (v := (.pointer (some ⟨A, 0, none⟩))) rfl (by kernel_rfl) (by kernel_rfl) (by kernel_rfl) (fun _ _ _ h => h) (Or.inl ⟨by rfl, fun X hS => ?_⟩) hHeld ?_
  · obtain ⟨⟨s1, s2, s3⟩, ⟨s4, s5, s6, s7, s8, s9⟩, s10, s11⟩ := hS.cells
    go_simp
  try simp only [Act.put, List.getElem_toArray, List.getElem_cons_zero, List.getElem_cons_succ, List.setIfInBounds_toArray, List.set_cons_zero, List.set_cons_succ]
  refine wpAnyH_take (i := 4) (v := (.pointer (some ⟨E, 1, none⟩))) rfl (by kernel_rfl) (by kernel_rfl) (by kernel_rfl) (fun _ _ _ h => h) (Or.inl ⟨by rfl, fun X hS => ?_⟩) hHeld ?_
  · obtain ⟨⟨s1, s2, s3⟩, ⟨s4, s5, s6, s7, s8, s9⟩, s10, s11⟩ := hS.cells
    go_simp
  try simp only [Act.put, List.getElem_toArray, List.getElem_cons_zero, List.getElem_cons_succ, List.setIfInBounds_toArray, List.set_cons_zero, List.set_cons_succ]
  refine wpAnyH_take (i := 5) (v := (.int .i64 at_)) rfl (by kernel_rfl) (by kernel_rfl) (by kernel_rfl) (fun _ _ _ h => h) (Or.inl ⟨by rfl, fun X hS => ?_⟩) hHeld ?_
  · obtain ⟨⟨s1, s2, s3⟩, ⟨s4, s5, s6, s7, s8, s9⟩, s10, s11⟩ := hS.cells
    go_simp
  try simp only [Act.put, List.getElem_toArray, List.getElem_cons_zero, List.getElem_cons_succ, List.setIfInBounds_toArray, List.set_cons_zero, List.set_cons_succ]
  refine wpAnyH_take (i := 6) (v := (.pointer (some ⟨E, 3, none⟩))) rfl (by kernel_rfl) (by kernel_rfl) (by kernel_rfl) (fun _ _ _ h => h) (Or.inl ⟨by rfl, fun X hS => ?_⟩) hHeld ?_
  · obtain ⟨⟨s1, s2, s3⟩, ⟨s4, s5, s6, s7, s8, s9⟩, s10, s11⟩ := hS.cells
    go_simp
  try simp only [Act.put, List.getElem_toArray, List.getElem_cons_zero, List.getElem_cons_succ, List.setIfInBounds_toArray, List.set_cons_zero, List.set_cons_succ]
  refine wpAnyH_take (i := 7) (v := (.int .i64 n)) rfl (by kernel_rfl) (by kernel_rfl) (by kernel_rfl) (fun _ _ _ h => h) (Or.inl ⟨by rfl, fun X hS => ?_⟩) hHeld ?_
  · obtain ⟨⟨s1, s2, s3⟩, ⟨s4, s5, s6, s7, s8, s9⟩, s10, s11⟩ := hS.cells
    go_simp
  try simp only [Act.put, List.getElem_toArray, List.getElem_cons_zero, List.getElem_cons_succ, List.setIfInBounds_toArray, List.set_cons_zero, List.set_cons_succ]
  refine wpAnyH_ready (rs := [8]) (by kernel_rfl) (by simp) (AllReadyH.cons rfl (fun K1 hK1 => ?_) AllReadyH.nil)
  go_simp
  have HD := Lib.hid hHeld
  clear hHeld
  refine (HPC.out _ HD.out.x).mono ?_
  rintro e w2 ⟨rfl, hb⟩
  have HDw2 := Lib.hid (HD.out.below hb)
  clear hb HD
  refine hK1.out _ _ HDw2.out (fun hHeld => ?_)
  clear hK1
  try simp only [Act.put, List.getElem_toArray, List.getElem_cons_zero, List.getElem_cons_succ, List.setIfInBounds_toArray, List.set_cons_zero, List.set_cons_succ]
  refine wpAnyH_take (i := 9) (v := (.tuple #[.string V, .int .i64 er])) rfl (by kernel_rfl) (by kernel_rfl) (by kernel_rfl) (fun _ _ _ h => h) (Or.inl ⟨by rfl, fun X hS => ?_⟩) hHeld ?_
  · obtain ⟨⟨s1, s2, s3⟩, ⟨s4, s5, s6, s7, s8, s9⟩, s10, s11⟩ := hS.cells
    go_simp
  try simp only [Act.put, List.getElem_toArray, List.getElem_cons_zero, List.getElem_cons_succ, List.setIfInBounds_toArray, List.set_cons_zero, List.set_cons_succ]
  refine wpAnyH_take (i := 10) (v := (.string V)) rfl (by kernel_rfl) (by kernel_rfl) (by kernel_rfl) (fun _ _ _ h => h) (Or.inl ⟨by rfl, fun X hS => ?_⟩) hHeld ?_
  · obtain ⟨⟨s1, s2, s3⟩, ⟨s4, s5, s6, s7, s8, s9⟩, s10, s11⟩ := hS.cells
    go_simp
  try simp only [Act.put, List.getElem_toArray, List.getElem_cons_zero, List.getElem_cons_succ, List.setIfInBounds_toArray, List.set_cons_zero, List.set_cons_succ]
  refine wpAnyH_take (i := 11) (v := (.int .i64 er)) rfl (by kernel_rfl) (by kernel_rfl) (by kernel_rfl) (fun _ _ _ h => h) (Or.inl ⟨by rfl, fun X hS => ?_⟩) hHeld ?_
  · obtain ⟨⟨s1, s2, s3⟩, ⟨s4, s5, s6, s7, s8, s9⟩, s10, s11⟩ := hS.cells
    go_simp
  try simp only [Act.put, List.getElem_toArray, List.getElem_cons_zero, List.getElem_cons_succ, List.setIfInBounds_toArray, List.set_cons_zero, List.set_cons_succ]
  refine wpAnyH_take (i := 12) (v := (.string V)) rfl (by kernel_rfl) (by kernel_rfl) (by kernel_rfl) (fun _ _ _ h => h) (Or.inl ⟨by rfl, fun X hS => ?_⟩) hHeld ?_
  · obtain ⟨⟨s1, s2, s3⟩, ⟨s4, s5, s6, s7, s8, s9⟩, s10, s11⟩ := hS.cells
    go_simp
  try simp only [Act.put, List.getElem_toArray, List.getElem_cons_zero, List.getElem_cons_succ, List.setIfInBounds_toArray, List.set_cons_zero, List.set_cons_succ]
  refine wpAnyH_take (i := 13) (v := (.int .i64 er)) rfl (by kernel_rfl) (by kernel_rfl) (by kernel_rfl) (fun _ _ _ h => h) (Or.inl ⟨by rfl, fun X hS => ?_⟩) hHeld ?_
  · obtain ⟨⟨s1, s2, s3⟩, ⟨s4, s5, s6, s7, s8, s9⟩, s10, s11⟩ := hS.cells
    go_simp
  try simp only [Act.put, List.getElem_toArray, List.getElem_cons_zero, List.getElem_cons_succ, List.setIfInBounds_toArray, List.set_cons_zero, List.set_cons_succ]
  clear hHeld
  refine wpAnyH_done (by kernel_rfl) ?_ _
  go_upto_region 25 with fail
  have hS0 := HDw2.out.below (Below.refl w2.heap.size w2).drew
  clear HDw2
  refine wp_region_held_drew (S := DoS Wb E A b cap s s d at_ fr n x S w0) (by kernel_rfl) hS0 (fun hHeld => ?_)
  clear hS0
  refine wpAnyH_take (i := 0) (v := (.pointer (some ⟨Wb, 0, none⟩))) rfl (by kernel_rfl) (by kernel_rfl) (by kernel_rfl) (fun _ _ _ h => h) (Or.inl ⟨by rfl, fun X hS => ?_⟩) hHeld ?_
  · obtain ⟨⟨s1, s2, s3⟩, ⟨s4, s5, s6, s7, s8, s9⟩, s10, s11⟩ := hS.cells
    go_simp
  try simp only [Act.put, List.getElem_toArray, List.getElem_cons_zero, List.getElem_cons_succ, List.setIfInBounds_toArray, List.set_cons_zero, List.set_cons_succ]
  refine wpAnyH_take (i := 1) (v := (.pointer (some ⟨Wb, 0, none⟩))) rfl (by kernel_rfl) (by kernel_rfl) (by kernel_rfl) (fun _ _ _ h => h) (Or.inl ⟨by rfl, fun X hS => ?_⟩) hHeld ?_
  · obtain ⟨⟨s1, s2, s3⟩, ⟨s4, s5, s6, s7, s8, s9⟩, s10, s11⟩ := hS.cells
    go_simp
  try simp only [Act.put, List.getElem_toArray, List.getElem_cons_zero, List.getElem_cons_succ, List.setIfInBounds_toArray, List.set_cons_zero, List.set_cons_succ]
  refine wpAnyH_take (i := 2) (v := (.pointer (some ⟨Wb, 1, none⟩))) rfl (by kernel_rfl) (by kernel_rfl) (by kernel_rfl) (fun _ _ _ h => h) (Or.inl ⟨by rfl, fun X hS => ?_⟩) hHeld ?_
  · obtain ⟨⟨s1, s2, s3⟩, ⟨s4, s5, s6, s7, s8, s9⟩, s10, s11⟩ := hS.cells
    go_simp
  try simp only [Act.put, List.getElem_toArray, List.getElem_cons_zero, List.getElem_cons_succ, List.setIfInBounds_toArray, List.set_cons_zero, List.set_cons_succ]
  refine wpAnyH_take (i := 3) (v := (.agg #[.slice (some ⟨b, 0, none⟩) s.L cap, .int .i64 (refR s)])) rfl (by kernel_rfl) (by kernel_rfl) (by kernel_rfl) (fun _ _ _ h => h) (Or.inl ⟨by rfl, fun X hS => ?_⟩) hHeld ?_
  · obtain ⟨⟨s1, s2, s3⟩, ⟨s4, s5, s6, s7, s8, s9⟩, s10, s11⟩ := hS.cells
    go_simp
  try simp only [Act.put, List.getElem_toArray, List.getElem_cons_zero, List.getElem_cons_succ, List.setIfInBounds_toArray, List.set_cons_zero, List.set_cons_succ]
  refine wpAnyH_take (i := 4) (v := (.pointer (some ⟨E, 1, none⟩))) rfl (by kernel_rfl) (by kernel_rfl) (by kernel_rfl) (fun _ _ _ h => h) (Or.inl ⟨by rfl, fun X hS => ?_⟩) hHeld ?_
  · obtain ⟨⟨s1, s2, s3⟩, ⟨s4, s5, s6, s7, s8, s9⟩, s10, s11⟩ := hS.cells
    go_simp
  try simp only [Act.put, List.getElem_toArray, List.getElem_cons_zero, List.getElem_cons_succ, List.setIfInBounds_toArray, List.set_cons_zero, List.set_cons_succ]
  refine wpAnyH_take (i := 5) (v := (.int .i64 at_)) rfl (by kernel_rfl) (by kernel_rfl) (by kernel_rfl) (fun _ _ _ h => h) (Or.inl ⟨by rfl, fun X hS => ?_⟩) hHeld ?_
  · obtain ⟨⟨s1, s2, s3⟩, ⟨s4, s5, s6, s7, s8, s9⟩, s10, s11⟩ := hS.cells
    go_simp
  try simp only [Act.put, List.getElem_toArray, List.getElem_cons_zero, List.getElem_cons_succ, List.setIfInBounds_toArray, List.set_cons_zero, List.set_cons_succ]
  refine wpAnyH_take (i := 6) (v := (.pointer (some ⟨E, 3, none⟩))) rfl (by kernel_rfl) (by kernel_rfl) (by kernel_rfl) (fun _ _ _ h => h) (Or.inl ⟨by rfl, fun X hS => ?_⟩) hHeld ?_
  · obtain ⟨⟨s1, s2, s3⟩, ⟨s4, s5, s6, s7, s8, s9⟩, s10, s11⟩ := hS.cells
    go_simp
  try simp only [Act.put, List.getElem_toArray, List.getElem_cons_zero, List.getElem_cons_succ, List.setIfInBounds_toArray, List.set_cons_zero, List.set_cons_succ]
  refine wpAnyH_take (i := 7) (v := (.int .i64 n)) rfl (by kernel_rfl) (by kernel_rfl) (by kernel_rfl) (fun _ _ _ h => h) (Or.inl ⟨by rfl, fun X hS => ?_⟩) hHeld ?_
  · obtain ⟨⟨s1, s2, s3⟩, ⟨s4, s5, s6, s7, s8, s9⟩, s10, s11⟩ := hS.cells
    go_simp
  try simp only [Act.put, List.getElem_toArray, List.getElem_cons_zero, List.getElem_cons_succ, List.setIfInBounds_toArray, List.set_cons_zero, List.set_cons_succ]
  refine wpAnyH_ready (rs := [8]) (by kernel_rfl) (by simp) (AllReadyH.cons rfl (fun K1 hK1 => ?_) AllReadyH.nil)
  go_simp
  have HD := Lib.hid hHeld
  clear hHeld
  refine (HDC.out _ HD.out.d).mono ?_
  rintro e w3 ⟨rfl, hb⟩
  have HDw3 := Lib.hid (HD.out.below hb)
  clear hb HD
  refine hK1.out _ _ HDw3.out (fun hHeld => ?_)
  clear hK1
  try simp only [Act.put, List.getElem_toArray, List.getElem_cons_zero, List.getElem_cons_succ, List.setIfInBounds_toArray, List.set_cons_zero, List.set_cons_succ]
  refine wpAnyH_take (i := 9) (v := (.tuple #[.string V, .int .i64 er])) rfl (by kernel_rfl) (by kernel_rfl) (by kernel_rfl) (fun _ _ _ h => h) (Or.inl ⟨by rfl, fun X hS => ?_⟩) hHeld ?_
  · obtain ⟨⟨s1, s2, s3⟩, ⟨s4, s5, s6, s7, s8, s9⟩, s10, s11⟩ := hS.cells
    go_simp
  try simp only [Act.put, List.getElem_toArray, List.getElem_cons_zero, List.getElem_cons_succ, List.setIfInBounds_toArray, List.set_cons_zero, List.set_cons_succ]
  refine wpAnyH_take (i := 10) (v := (.string V)) rfl (by kernel_rfl) (by kernel_rfl) (by kernel_rfl) (fun _ _ _ h => h) (Or.inl ⟨by rfl, fun X hS => ?_⟩) hHeld ?_
  · obtain ⟨⟨s1, s2, s3⟩, ⟨s4, s5, s6, s7, s8, s9⟩, s10, s11⟩ := hS.cells
    go_simp
  try simp only [Act.put, List.getElem_toArray, List.getElem_cons_zero, List.getElem_cons_succ, List.setIfInBounds_toArray, List.set_cons_zero, List.set_cons_succ]
  refine wpAnyH_take (i := 11) (v := (.int .i64 er)) rfl (by kernel_rfl) (by kernel_rfl) (by kernel_rfl) (fun _ _ _ h => h) (Or.inl ⟨by rfl, fun X hS => ?_⟩) hHeld ?_
  · obtain ⟨⟨s1, s2, s3⟩, ⟨s4, s5, s6, s7, s8, s9⟩, s10, s11⟩ := hS.cells
    go_simp
  try simp only [Act.put, List.getElem_toArray, List.getElem_cons_zero, List.getElem_cons_succ, List.setIfInBounds_toArray, List.set_cons_zero, List.set_cons_succ]
  refine wpAnyH_take (i := 12) (v := (.string V)) rfl (by kernel_rfl) (by kernel_rfl) (by kernel_rfl) (fun _ _ _ h => h) (Or.inl ⟨by rfl, fun X hS => ?_⟩) hHeld ?_
  · obtain ⟨⟨s1, s2, s3⟩, ⟨s4, s5, s6, s7, s8, s9⟩, s10, s11⟩ := hS.cells
    go_simp
  try simp only [Act.put, List.getElem_toArray, List.getElem_cons_zero, List.getElem_cons_succ, List.setIfInBounds_toArray, List.set_cons_zero, List.set_cons_succ]
  refine wpAnyH_take (i := 13) (v := (.int .i64 er)) rfl (by kernel_rfl) (by kernel_rfl) (by kernel_rfl) (fun _ _ _ h => h) (Or.inl ⟨by rfl, fun X hS => ?_⟩) hHeld ?_
  · obtain ⟨⟨s1, s2, s3⟩, ⟨s4, s5, s6, s7, s8, s9⟩, s10, s11⟩ := hS.cells
    go_simp
  try simp only [Act.put, List.getElem_toArray, List.getElem_cons_zero, List.getElem_cons_succ, List.setIfInBounds_toArray, List.set_cons_zero, List.set_cons_succ]
  clear hHeld
  refine wpAnyH_done (by kernel_rfl) ?_ _
  have hee : (er == er) = true := by simp
  go_wp2_with fail
  go_ret
  exact ⟨A, b, cap, s, rfl, rfl, HDw3.out.fin⟩
end Go.Proofs.Ytdmaendhkenmgaa.Bt
/- law03's do: Refuse. (Written by gen_dax.py.) -/
namespace Go.Proofs.Ytdmaendhkenmgaa.Bt
open Go Go.RowKit Go.Shelf
set_option linter.unusedVariables false
set_option linter.unusedSimpArgs false

theorem DoS.limit {Wb E A b cap : Nat} {s' s : ASt} {d at_ fr n x : Int} {S : ByteArray} {w0 X : World} (h : DoS Wb E A b cap s' s d at_ fr n x S w0 X) (hL : s'.L = s.L) (hg : gS s' = gS s) : DoW Wb A b cap s' w0 (X.setCell ⟨Wb, 2, none⟩ (.int .i64 (refR s'))) := by
  have hne : b ≠ Wb := heap_neD h.d h.w (by decide)
  refine ⟨?_, h.x.set h.m 2 _, ?_, Mine.set h.x h.m h.m 2 _, h.bs.set h.x h.m h.ws 2 _, h.ws⟩
  · rw [hL]; exact heap_set h.w _
  · rw [hg]; exact (heap_far_one hne _).trans h.d
set_option maxHeartbeats 8000000 in
set_option maxRecDepth 100000 in
theorem ddo_refuse {Wb A b cap : Nat} {s : ASt} {d at_ fr n x : Int} {S : ByteArray} {w0 w : World} (h : DoW Wb A b cap s w0 w) (hL : s.L ≤ 8) (hd : d.tmod 10 = 2) (hd0 : 0 ≤ d ∧ d ≤ 255) (ha : -9223372036854775808 ≤ at_ ∧ at_ ≤ 9223372036854775807) (hf : -9223372036854775808 ≤ fr ∧ fr ≤ 9223372036854775807) (hn : -9223372036854775808 ≤ n ∧ n ≤ 9223372036854775807) (hx : 0 ≤ x ∧ x < 18446744073709551616) :
    Calls Try.prog 12 #[.pointer (some ⟨Wb, 0, none⟩), .agg #[.int .u8 d, .int .i64 at_, .int .i64 fr, .int .i64 n, .int .u64 x, .string S]] w (DoP Wb s.L w0) := by
  obtain ⟨s', hs'⟩ : ∃ s' : ASt, { s with rf := true, lf := n.toNat } = s' := ⟨_, rfl⟩
  have HPC := Lib.hid (fun (y : World) (hy : On A s y) => on_refuse hy n hn.2)
  rw [hs'] at HPC
  have HSL : Hid (s'.L = s.L) := Lib.hid (by rw [← hs'])
  have HG : Hid (gS s' = gS s) := Lib.hid (by rw [← hs']; exact gS_congr rfl fun k _ => rfl)
  obtain ⟨R, hR⟩ : ∃ R, refR s' = R := ⟨_, rfl⟩
  have hmx : (if n < 0 then 0 else n) = R := by
    rw [← hR, ← hs']; unfold refR; rw [if_pos rfl]; show _ = ((n.toNat : Nat) : Int); split <;> omega
  have HR := Lib.hid hR
  clear hs' hf hn hx hR
  have hE := heap_new w (.cells #[.int .u8 d, .int .i64 at_, .int .i64 fr, .int .i64 n, .int .u64 x, .string S] 36)
  have hb0 := bel1 w (.cells #[.int .u8 d, .int .i64 at_, .int .i64 fr, .int .i64 n, .int .u64 x, .string S] 36)
  have hds := h.start hE hb0
  clear hE hb0
  go_enter Try.func12, Try.ntmps12
  go_upto_region 1 with fail
  change Code.wp _ _ _ _ (w.alloc (.cells #[.int .u8 d, .int .i64 at_, .int .i64 fr, .int .i64 n, .int .u64 x, .string S] 36))
  obtain ⟨y, hy⟩ : ∃ y, w.alloc (.cells #[.int .u8 d, .int .i64 at_, .int .i64 fr, .int .i64 n, .int .u64 x, .string S] 36) = y := ⟨_, rfl⟩
  obtain ⟨E, hEE⟩ : ∃ E, w.heap.size = E := ⟨_, rfl⟩
  rw [hy, hEE] at hds
  rw [hy, hEE]
  have H := Lib.hid hds
  clear hy hEE hds
  obtain ⟨⟨s1, s2, s3⟩, ⟨s4, s5, s6, s7, s8, s9⟩, s10, s11⟩ := H.out.cells
  go_upto_region 14 with fail
  have hS0 := H.out.below (Below.refl y.heap.size y).drew
  clear H s1 s2 s3 s4 s5 s6 s7 s8 s9 s10 s11
  refine wp_region_held_drew (S := fun X => ∃ s', DoS Wb E A b cap s' s d at_ fr n x S w0 X) (by kernel_rfl) ⟨_, hS0⟩ (fun hHeld => ?_)
  refine wpAnyH_take (i := 0) (v := (.pointer (some ⟨Wb, 0, none⟩))) rfl (by kernel_rfl) (by kernel_rfl) (by kernel_rfl) (fun _ _ _ h => h) (Or.inl ⟨by rfl, fun X hS => ?_⟩) hHeld ?_
  · obtain ⟨s9x, hs9x⟩ := hS
    obtain ⟨⟨s1, s2, s3⟩, ⟨s4, s5, s6, s7, s8, s9⟩, s10, s11⟩ := hs9x.cells
    go_simp
  try simp only [Act.put, List.getElem_toArray, List.getElem_cons_zero, List.getElem_cons_succ, List.setIfInBounds_toArray, List.set_cons_zero, List.set_cons_succ]
  refine wpAnyH_take (i := 1) (v := (.pointer (some ⟨Wb, 0, none⟩))) rfl (by kernel_rfl) (by kernel_rfl) (by kernel_rfl) (fun _ _ _ h => h) (Or.inl ⟨by rfl, fun X hS => ?_⟩) hHeld ?_
  · obtain ⟨s9x, hs9x⟩ := hS
    obtain ⟨⟨s1, s2, s3⟩, ⟨s4, s5, s6, s7, s8, s9⟩, s10, s11⟩ := hs9x.cells
    go_simp
  try simp only [Act.put, List.getElem_toArray, List.getElem_cons_zero, List.getElem_cons_succ, List.setIfInBounds_toArray, List.set_cons_zero, List.set_cons_succ]
  refine wpAnyH_take (i := 2) (v := (.pointer (some ⟨Wb, 0, none⟩))) rfl (by kernel_rfl) (by kernel_rfl) (by kernel_rfl) (fun _ _ _ h => h) (Or.inl ⟨by rfl, fun X hS => ?_⟩) hHeld ?_
  · obtain ⟨s9x, hs9x⟩ := hS
    obtain ⟨⟨s1, s2, s3⟩, ⟨s4, s5, s6, s7, s8, s9⟩, s10, s11⟩ := hs9x.cells
    go_simp
  try simp only [Act.put, List.getElem_toArray, List.getElem_cons_zero, List.getElem_cons_succ, List.setIfInBounds_toArray, List.set_cons_zero, List.set_cons_succ]
  refine wpAnyH_take (i := 3) (v := (.pointer (some ⟨A, 0, none⟩))) rfl (by kernel_rfl) (by kernel_rfl) (by kernel_rfl) (fun _ _ _ h => h) (Or.inl ⟨by rfl, fun X hS => ?_⟩) hHeld ?_
  · obtain ⟨s9x, hs9x⟩ := hS
    obtain ⟨⟨s1, s2, s3⟩, ⟨s4, s5, s6, s7, s8, s9⟩, s10, s11⟩ := hs9x.cells
    go_simp
  try simp only [Act.put, List.getElem_toArray, List.getElem_cons_zero, List.getElem_cons_succ, List.setIfInBounds_toArray, List.set_cons_zero, List.set_cons_succ]
  refine wpAnyH_take (i := 4) (v := (.pointer (some ⟨E, 3, none⟩))) rfl (by kernel_rfl) (by kernel_rfl) (by kernel_rfl) (fun _ _ _ h => h) (Or.inl ⟨by rfl, fun X hS => ?_⟩) hHeld ?_
  · obtain ⟨s9x, hs9x⟩ := hS
    obtain ⟨⟨s1, s2, s3⟩, ⟨s4, s5, s6, s7, s8, s9⟩, s10, s11⟩ := hs9x.cells
    go_simp
  try simp only [Act.put, List.getElem_toArray, List.getElem_cons_zero, List.getElem_cons_succ, List.setIfInBounds_toArray, List.set_cons_zero, List.set_cons_succ]
  refine wpAnyH_take (i := 5) (v := (.int .i64 n)) rfl (by kernel_rfl) (by kernel_rfl) (by kernel_rfl) (fun _ _ _ h => h) (Or.inl ⟨by rfl, fun X hS => ?_⟩) hHeld ?_
  · obtain ⟨s9x, hs9x⟩ := hS
    obtain ⟨⟨s1, s2, s3⟩, ⟨s4, s5, s6, s7, s8, s9⟩, s10, s11⟩ := hs9x.cells
    go_simp
  try simp only [Act.put, List.getElem_toArray, List.getElem_cons_zero, List.getElem_cons_succ, List.setIfInBounds_toArray, List.set_cons_zero, List.set_cons_succ]
  have HD := Lib.hid hS0
  clear hS0 hHeld
  refine wpAnyH_ready (rs := [6]) (by kernel_rfl) (by simp) (AllReadyH.cons rfl (fun K1 hK1 => ?_) AllReadyH.nil)
  go_simp
  refine (HPC.out _ HD.out.x).mono ?_
  rintro e w2 ⟨rfl, hx, hg⟩
  have HD2 := Lib.hid (HD.out.went hx hg)
  clear hx hg
  refine hK1.out _ _ ⟨_, HD2.out⟩ (fun hHeld => ?_)
  clear hK1
  try simp only [Act.put, List.getElem_toArray, List.getElem_cons_zero, List.getElem_cons_succ, List.setIfInBounds_toArray, List.set_cons_zero, List.set_cons_succ]
  clear hHeld
  refine wpAnyH_done (by kernel_rfl) ?_ _
  obtain ⟨⟨s1, s2, s3⟩, ⟨s4, s5, s6, s7, s8, s9⟩, s10, s11⟩ := HD2.out.cells
  go_wp2_with fail
  go_ret
  have hfin := HD2.out.limit HSL.out HG.out
  rw [HR.out] at hfin
  exact ⟨A, b, cap, s', rfl, HSL.out, hfin⟩
end Go.Proofs.Ytdmaendhkenmgaa.Bt
/- law03's do: Clone. (Written by gen_dai.py.) -/
namespace Go.Proofs.Ytdmaendhkenmgaa.Bt
open Go Go.RowKit Go.Shelf
set_option linter.unusedVariables false
set_option linter.unusedSimpArgs false

theorem Two.set {A A2 R : Nat} {s s2 : ASt} {w : World} (h : Two A A2 s2 w) (hA : On A s w) (m : Mine A R w) (m2 : Mine A2 R w) (o : Nat) (v : Value) : Two A A2 s2 (w.setCell ⟨R, o, none⟩ v) :=
  ⟨h.on2.set m2 o v, fun k hk hj => h.own k ((own_set h.on2 m2 o v k).1.1 hk) ((own_set hA m o v k).1.1 hj), fun k hk hj => h.edg k ((own_set h.on2 m2 o v k).2.1 hk) ((own_set hA m o v k).1.1 hj)⟩
/-- a clone in the statement's pair, and the arena that it was made of beside it -/
structure ClS (Wb A A2 b cap : Nat) (s s1 : ASt) (w0 X : World) : Prop where
  w : X.heap[Wb]? = some (.cells #[.pointer (some ⟨A2, 0, none⟩), .slice (some ⟨b, 0, none⟩) s.L cap, .int .i64 (refR s)] 33 (0, 0))
  x : On A s1 X
  two : Two A A2 s X
  d : DocB b (gS s) X
  m : Mine A Wb X
  bs : Base A w0 X
  own2 : ∀ k, OwnW A2 X k → k ≠ Wb ∧ w0.heap.size ≤ k
  edg2 : ∀ k, EdgW A2 X k → k ≠ Wb ∧ w0.heap.size ≤ k
  ws : w0.heap.size ≤ Wb
theorem ClS.went {Wb A A2 b cap : Nat} {s s1 s2 : ASt} {w0 X Y : World} (h : ClS Wb A A2 b cap s s1 w0 X) (hx : On A s2 Y) (hg : Went A X Y) : ClS Wb A A2 b cap s s2 w0 Y := by
  obtain ⟨h1, h2, h3⟩ := h.two.went h.x hg
  exact ⟨hg.keep h.x h.w (by decide) (by decide) (by decide), hx, h1, hg.keep h.x h.d (by decide) (by decide) (by decide), h.m.went hg, h.bs.went hg, fun k hk => h.own2 k (h2 k hk), fun k hk => h.edg2 k (h3 k hk), h.ws⟩
theorem ClS.fin {Wb A A2 b cap : Nat} {s s1 : ASt} {w0 X : World} (h : ClS Wb A A2 b cap s s1 w0 X) : DoW Wb A2 b cap s w0 X :=
  ⟨h.w, h.two.on2, h.d, ⟨h.m.lt, fun ho => (h.own2 _ ho).1 rfl, fun ho => (h.edg2 _ ho).1 rfl⟩, ⟨h.bs.bel, fun k hk => (h.own2 k hk).2, fun k hk => (h.edg2 k hk).2⟩, h.ws⟩
theorem ClS.start {Wb E A A2 b cap : Nat} {s : ASt} {d at_ fr n x : Int} {S : ByteArray} {w0 y w2 : World} (h : DoS Wb E A b cap s s d at_ fr n x S w0 y) (h2 : On A2 s w2) (hb : Below y.heap.size y w2)
    (ho : ∀ k, OwnW A2 w2 k → y.heap.size ≤ k) (he : ∀ k, EdgW A2 w2 k → EdgW A y k) : ClS Wb A A2 b cap s s w0 (w2.setCell ⟨Wb, 0, none⟩ (.pointer (some ⟨A2, 0, none⟩))) := by
  have k := h.below hb
  have ht := Two.of_clone h.x h2 hb ho he
  have m2 : Mine A2 Wb w2 := ⟨k.m.lt, fun o => by have := ho _ o; have := h.m.lt; omega, fun o => h.m.edg (he _ o)⟩
  have hne : b ≠ Wb := heap_neD k.d k.w (by decide)
  refine ⟨heap_set k.w _, k.x.set k.m 0 _, ht.set k.x k.m m2 0 _, (heap_far_one hne _).trans k.d, Mine.set k.x k.m k.m 0 _, k.bs.set k.x k.m k.ws 0 _, fun i hi => ?_, fun i hi => ?_, k.ws⟩
  · have h1 := ho i ((own_set h2 m2 0 _ i).1.1 hi)
    have := h.m.lt
    have := h.bs.bel.size
    exact ⟨by omega, by omega⟩
  · have h1 := (own_set h2 m2 0 _ i).2.1 hi
    exact ⟨fun e => by subst e; exact m2.edg h1, h.bs.edg i (he i h1)⟩
set_option maxHeartbeats 8000000 in
set_option maxRecDepth 100000 in
theorem ddo_clone {Wb A b cap : Nat} {s : ASt} {d at_ fr n x : Int} {S : ByteArray} {w0 w : World} (h : DoW Wb A b cap s w0 w) (hL : s.L ≤ 8) (hd : d.tmod 10 = 9) (hd0 : 0 ≤ d ∧ d ≤ 255) :
    Calls Try.prog 12 #[.pointer (some ⟨Wb, 0, none⟩), .agg #[.int .u8 d, .int .i64 at_, .int .i64 fr, .int .i64 n, .int .u64 x, .string S]] w (DoP Wb s.L w0) := by
  have hE := heap_new w (.cells #[.int .u8 d, .int .i64 at_, .int .i64 fr, .int .i64 n, .int .u64 x, .string S] 36)
  have hb0 := bel1 w (.cells #[.int .u8 d, .int .i64 at_, .int .i64 fr, .int .i64 n, .int .u64 x, .string S] 36)
  have hds := h.start hE hb0
  clear hE hb0
  go_enter Try.func12, Try.ntmps12
  go_upto_region 1 with fail
  change Code.wp _ _ _ _ (w.alloc (.cells #[.int .u8 d, .int .i64 at_, .int .i64 fr, .int .i64 n, .int .u64 x, .string S] 36))
  obtain ⟨y, hy⟩ : ∃ y, w.alloc (.cells #[.int .u8 d, .int .i64 at_, .int .i64 fr, .int .i64 n, .int .u64 x, .string S] 36) = y := ⟨_, rfl⟩
  obtain ⟨E, hEE⟩ : ∃ E, w.heap.size = E := ⟨_, rfl⟩
  rw [hy, hEE] at hds
  rw [hy, hEE]
  have H := Lib.hid hds
  clear hy hEE hds
  obtain ⟨⟨s1, s2, s3⟩, ⟨s4, s5, s6, s7, s8, s9⟩, s10, s11⟩ := H.out.cells
  have f0 := (cell_blk H.out.w 0).2
  go_wp2_with fail
  refine (on_aclone H.out.x).mono ?_
  rintro e w2 ⟨A2, rfl, h2, hb, -, ho, he⟩
  have hst := ClS.start H.out h2 hb ho he
  have HK := Lib.hid (H.out.below hb)
  clear h2 hb ho he H f0 s1 s2 s3 s4 s5 s6 s7 s8 s9 s10 s11
  obtain ⟨⟨s1, s2, s3⟩, ⟨s4, s5, s6, s7, s8, s9⟩, s10, s11⟩ := HK.out.cells
  have f0 := (cell_blk HK.out.w 0).2
  go_upto_region 5 with fail
  change Code.wp _ _ _ _ (w2.setCell ⟨Wb, 0, none⟩ (.pointer (some ⟨A2, 0, none⟩)))
  obtain ⟨w3, hw3⟩ : ∃ w3, w2.setCell ⟨Wb, 0, none⟩ (.pointer (some ⟨A2, 0, none⟩)) = w3 := ⟨_, rfl⟩
  rw [hw3] at hst ⊢
  have HST := Lib.hid hst
  clear hst hw3 HK f0 s1 s2 s3 s4 s5 s6 s7 s8 s9 s10 s11
  go_wp2_with fail
  refine (on_decommit HST.out.x 0 1 (by omega)).mono ?_
  rintro e w4 ⟨rfl, hx, hg⟩
  have HST2 := Lib.hid (HST.out.went hx hg)
  clear hx hg HST
  go_wp2_with fail
  refine (on_capD HST2.out.x).mono ?_
  rintro e w5 ⟨rfl, rfl⟩
  have hcap : ((decS s 0 1).L : Int) ≤ 9223372036854775807 := by have : (decS s 0 1).L = s.L := by unfold decS; split <;> rfl
                                                                 omega
  go_wp2_with fail
  refine (on_commit HST2.out.x 0 ((decS s 0 1).L : Int) (by omega)).mono ?_
  rintro e w6 ⟨rfl, hx, hg⟩
  have HST3 := Lib.hid (HST2.out.went hx hg)
  clear hx hg HST2
  go_wp2_with fail
  go_ret
  exact ⟨A2, b, cap, s, rfl, rfl, HST3.out.fin⟩
end Go.Proofs.Ytdmaendhkenmgaa.Bt
