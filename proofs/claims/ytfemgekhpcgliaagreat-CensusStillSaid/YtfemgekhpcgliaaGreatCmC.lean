/- Several texts in one: BdT; BdU; BwA; LsA; RgT; LsB; LsC; LsD; LsE; LsF; LsG. -/
import Derived.Test.YtfemgekhpcgliaaGreatCmB
import Derived.Test.YtfemgekhpcgliaaGreatArDec
import Derived.Test.YtfemgekhpcgliaaGreatLsM
import Derived.RangeFuncNested
import Derived.Test.YtfemgekhpcgliaaGreatRoundHeld
import Derived.Test.YtfemgekhpcgliaaGreatBitsIter
import Derived.Laws.CopyRow
import Derived.Test.YtfemgekhpcgliaaGreatBitsRows
import Derived.Deep.DeepCutAuto
/- An arena whose first pages are committed: pages more, pages less; what a buddy is behind that. -/
namespace Go.Proofs.YtfemgekhpcgliaaGreat.Bt
open Go Go.RowKit Go.Shelf
set_option linter.unusedVariables false

theorem mem_up {e : Nat} (h0 : 0 < e) (i : Int) : mem [0, e] i = decide (0 ≤ i ∧ i < e) := mem_full h0 i
theorem within_nat {L e d : Nat} (h : e + d ≤ L) : withinB L (e : Int) (d : Int) = true := by unfold withinB; rw [decide_eq_true_iff]; omega
theorem up_laid {L e d : Nat} (h0 : 0 < e) (hd : 0 < d) (h : e + d ≤ L) (hL : L ≤ 1048576) : laidS L [0, e] (e : Int) (d : Int) true = [0, e + d] := by
  have g := good_up h0 (show e ≤ L by omega) hL
  refine good_ext (L := L) (laidS_good g _ _ _) (good_up (by omega) h hL) fun i hi => ?_
  rw [mem_laidS g (within_nat h), mem_up h0, mem_up (show 0 < e + d by omega)]
  by_cases c : (e : Int) ≤ i ∧ (i : Int) < e + d
  · rw [if_pos c, decide_eq_true (by omega)]
  · rw [if_neg c]; congr 1; exact propext ⟨fun _ => by omega, fun _ => by omega⟩
theorem down_laid {L e d : Nat} (h0 : 0 < e) (hd : 0 < d) (h : e + d ≤ L) (hL : L ≤ 1048576) : laidS L [0, e + d] (e : Int) (d : Int) false = [0, e] := by
  have g := good_up (show 0 < e + d by omega) h hL
  refine good_ext (L := L) (laidS_good g _ _ _) (good_up h0 (by omega) hL) fun i hi => ?_
  rw [mem_laidS g (within_nat h), mem_up (show 0 < e + d by omega), mem_up h0]
  by_cases c : (e : Int) ≤ i ∧ (i : Int) < e + d
  · rw [if_pos c, decide_eq_false (by omega)]
  · rw [if_neg c]; congr 1; exact propext ⟨fun _ => by omega, fun _ => by omega⟩
theorem up_count {L e d : Nat} (h0 : 0 < e) (hd : 0 < d) (h : e + d ≤ L) : countR L [0, e] (e : Int) (d : Int) = 0 := by
  unfold countR countV
  rw [if_neg (by omega), if_pos (within_nat h)]
  unfold memCount
  rw [Int.natCast_eq_zero, List.countP_eq_zero]
  intro i hi
  rw [mem_up h0, decide_eq_true_iff]
  omega
theorem down_count {L e d : Nat} (h0 : 0 < e) (hd : 0 < d) (h : e + d ≤ L) : countR L [0, e + d] (e : Int) (d : Int) = d := by
  unfold countR countV
  rw [if_neg (by omega), if_pos (within_nat h)]
  unfold memCount
  rw [Int.toNat_natCast, List.countP_eq_length.2 (fun i hi => by
    rw [mem_up (by omega), decide_eq_true_iff]
    have := List.mem_range.1 hi
    omega), List.length_range, Int.toNat_natCast]
theorem count_ok {L e d : Nat} (hd : 0 < d) (h : e + d ≤ L) : countE L (e : Int) (d : Int) = 0 := by
  unfold countE laidErr
  rw [if_neg (by omega), if_pos (within_nat h)]
theorem count_no {L e d : Nat} (hd : 0 < d) (h : L < e + d) : countE L (e : Int) (d : Int) = 3 := by
  unfold countE laidErr
  rw [if_neg (by omega), if_neg (by unfold withinB; rw [decide_eq_true_iff]; omega)]
section
variable {s : ASt} {cap e d : Nat}
theorem up_no (hL : s.L = cap) (hd : 0 < d) (h : cap < e + d) : commitE s (e : Int) (d : Int) = 3 ∧ commitS s (e : Int) (d : Int) = s := by
  unfold commitE commitS
  rw [hL, count_no hd h]
  exact ⟨rfl, rfl⟩
theorem up_refused (hL : s.L = cap) (he : s.es = [0, e]) (h0 : 0 < e) (hd : 0 < d) (h : e + d ≤ cap) (hr : refB s = true) : commitE s (e : Int) (d : Int) = 4 ∧ commitS s (e : Int) (d : Int) = refS s := by
  unfold commitE commitS
  rw [hL, he, count_ok hd h, up_count h0 hd h, hr]
  exact ⟨rfl, rfl⟩
theorem up_given (hL : s.L = cap) (he : s.es = [0, e]) (h0 : 0 < e) (hd : 0 < d) (h : e + d ≤ cap) (hc : cap ≤ 1048576) (hr : refB s = false) : commitE s (e : Int) (d : Int) = 0 ∧ commitS s (e : Int) (d : Int) = { refS s with es := [0, e + d] } := by
  unfold commitE commitS
  rw [hL, he, count_ok hd h, up_count h0 hd h, hr, up_laid h0 hd h hc]
  exact ⟨rfl, rfl⟩
theorem down_given (hL : s.L = cap) (he : s.es = [0, e + d]) (h0 : 0 < e) (hd : 0 < d) (h : e + d ≤ cap) (hc : cap ≤ 1048576) : decE s (e : Int) (d : Int) = 0 ∧ decS s (e : Int) (d : Int) = { s with es := [0, e], mm := clrM s.mm e d } := by
  have h1 : decE s (e : Int) (d : Int) = 0 := by
    unfold decE
    rw [hL, he, count_ok hd h, down_count h0 hd h, if_neg (by decide), if_neg (by omega)]
  refine ⟨h1, ?_⟩
  unfold decS
  rw [if_pos h1, hL, he, down_laid h0 hd h hc]
  rfl
end
end Go.Proofs.YtfemgekhpcgliaaGreat.Bt
/- A buddy in memory that has grown, or shrunk. -/
namespace Go.Proofs.YtfemgekhpcgliaaGreat.Bt
open Go Go.RowKit Go.Shelf
set_option linter.unusedVariables false

theorem Ch.re {L L' : Nat} {es es' : List Nat} {m : Nat → UInt8} : ∀ {h b : Nat} {ms : List Nat}, Ch L es m h b ms → thereE L' es' h 8 = 0 → (∀ c : Nat, c ∈ ms → thereE L' es' c 16 = 0 ∧ thereE L' es' c 8 = 0) → Ch L' es' m h b ms
  | _, _, [], k, h8, _ => ⟨h8, k.2⟩
  | _, _, x :: t, k, h8, hc => ⟨h8, k.2.1, k.2.2.1, (hc x (List.mem_cons_self ..)).1, Ch.re k.2.2.2.2 (hc x (List.mem_cons_self ..)).2 fun c h => hc c (List.mem_cons_of_mem _ h)⟩
section
variable {cap G g x k : Nat} {R : Runs} {s : ASt}
theorem lks_re {L E : Nat} {es : List Nat} {m : Nat → UInt8} {fl : Nat → List Nat} (h : Lks L es m fl) (o : LOff 1 fl) (h0 : 0 < E) (h1 : E ≤ L) (h2 : L ≤ 1048576) (hc : ∀ k, k ≤ 10 → ∀ c ∈ fl k, c + 4096 ≤ E * 4096) : Lks L [0, E] m fl := fun k hk =>
  (h k hk).re (there_up h0 h1 h2 (by omega) (by omega) (by omega)) fun c hm => by
    have := hc k hk c hm
    exact ⟨there_up h0 h1 h2 (by omega) (by omega) (by omega), there_up h0 h1 h2 (by omega) (by omega) (by omega)⟩
theorem lks_front {L : Nat} {es : List Nat} {m m' : Nat → UInt8} {fl : Nat → List Nat} (h : Lks L es m fl) (o : LOff 1 fl) (e : ∀ i, 16 ≤ i → (i < 104 ∨ ∃ k, k ≤ 10 ∧ ∃ c ∈ fl k, c ≤ i ∧ i < c + 8) → m' i = m i) : Lks L es m' fl := fun k hk =>
  (h k hk).keep fun c hc => numV_congr fun j hj => by
    rcases List.mem_cons.1 hc with q | q
    · exact e _ (by omega) (.inl (by omega))
    · have := o.1 k hk c q
      exact e _ (by omega) (.inr ⟨k, hk, c, q, by omega, by omega⟩)
theorem freeL_lt {c k : Nat} (h : Til g R x) (hc : c ∈ freeL 1 R x g k) : c + 4096 ≤ (1 + g) * 4096 := by
  obtain ⟨i, h1, h2, _, e⟩ := freeL_mem.1 hc
  omega
/-- more pages are committed, and that is written down -/
theorem Bud.grown {E : Nat} {rf : Bool} {lf : Nat} (h : Bud cap G g R x s) (hE : G ≤ E) (hc : E < cap) :
    Bud cap E g R x ⟨s.L, [0, 1 + E], put8 s.mm 8 E, rf, lf⟩ := by
  have c2 := h.c2
  have gG := h.gG
  have o := freeL_off R x g
  have far : ∀ i, 16 ≤ i → put8 s.mm 8 E i = s.mm i := fun i hi => put8_byte _ _ (by omega)
  exact {
    cL := h.cL
    c2 := c2
    es := rfl
    gG := ⟨by omega, hc⟩
    mr := (put8_far _ _ (by omega)).trans h.mr
    gr := put8_same _ _ _ (by omega)
    tg := fun p hp hn => by
      show (put8 s.mm 8 E (256 + p)).toNat = _
      rw [far _ (by omega)]
      exact h.tg p hp hn
    ls := by
      have r : Lks s.L [0, 1 + E] s.mm (freeL 1 R x g) := lks_re h.ls o (by omega) (by rw [h.cL]; omega) (by rw [h.cL]; omega) fun k hk c hm => by
        exact Nat.le_trans (freeL_lt h.ti hm) (Nat.mul_le_mul_right 4096 (show 1 + g ≤ 1 + E by omega))
      exact lks_front r o fun i hi _ => far i hi
    ti := h.ti }
theorem clrM_out {m : Nat → UInt8} {a k i : Nat} (h : i < a * 4096) : clrM m a k i = m i := by unfold clrM; rw [if_neg (by omega)]
theorem less_codes (h : Til g R g) (e : R x = some (k, false)) (hx : x + 2 ^ k = g) (p : Nat) (hp : p < x) : codeR (lessR R x) x p = codeR R g p := by
  unfold codeR lessR
  have h0 := pow2_pos k
  rw [if_pos hp, if_pos (show p < g by omega), if_neg (show ¬ p = x by omega)]
/-- the last run is gone: its tags, its pages; that is written down -/
theorem Bud.shrunk (h : Bud cap g g R x s) (e : R x = some (k, false)) (hx : x + 2 ^ k = g) (ht : Til g R g) :
    Bud cap x x (lessR R x) x ⟨s.L, [0, 1 + x], put8 (clrM (layM s.mm (256 + x) (2 ^ k) 0 0 0) (1 + x) (2 ^ k)) 8 x, s.rf, s.lf⟩ := by
  have a := h.addr e
  have h0 := pow2_pos k
  have c2 := h.c2
  have gG := h.gG
  have o := freeL_off R x g
  have o' := freeL_off (lessR R x) x x
  have lay : ∀ i, i < 104 → layM s.mm (256 + x) (2 ^ k) 0 0 0 i = s.mm i := fun i hi => layM_out _ _ _ h0 _ _ _ _ (by omega)
  have low : ∀ i, 16 ≤ i → i < (1 + x) * 4096 → put8 (clrM (layM s.mm (256 + x) (2 ^ k) 0 0 0) (1 + x) (2 ^ k)) 8 x i = layM s.mm (256 + x) (2 ^ k) 0 0 0 i := fun i h1 h2 => by
    rw [put8_byte _ _ (by omega), clrM_out h2]
  have ti := ht.less e hx
  exact {
    cL := h.cL
    c2 := c2
    es := rfl
    gG := ⟨by omega, by omega⟩
    mr := (put8_far _ _ (by omega)).trans ((numV_congr fun j hj => by rw [clrM_out (by omega), lay _ (by omega)]).trans h.mr)
    gr := put8_same _ _ _ (by omega)
    tg := fun p hp hn => by
      show (put8 _ 8 x (256 + p)).toNat = _
      rw [low _ (by omega) (by omega), none_codes]
      by_cases c : x ≤ p ∧ p < x + 2 ^ k
      · rw [if_pos c]
        unfold codeR
        rw [if_neg (by omega)]
      · rw [if_neg c, h.tg p hp (fun ⟨k', t', q1, q2, q3⟩ => by
          rw [e] at q1
          have := (some_of q1).1
          subst this
          exact c ⟨q2, q3⟩)]
        by_cases d : p < x
        · rw [less_codes ht e hx p d]
        · unfold codeR
          rw [if_neg (by omega), if_neg d]
    ls := by
      show Lks s.L [0, 1 + x] _ _
      have q : ∀ j, freeL 1 (lessR R x) x x j = freeL 1 R x g j := fun j => free_less ht e hx
      refine Lks.of (fl := freeL 1 R x g) ?_ fun j _ => q j
      have lt : ∀ j, ∀ c ∈ freeL 1 R x g j, c + 4096 ≤ (1 + x) * 4096 := fun j c hc => by
        rw [← q j] at hc
        exact freeL_lt ti hc
      refine lks_front (lks_re h.ls o (by omega) (by rw [h.cL]; omega) (by rw [h.cL]; omega) fun j _ c hm => lt j c hm) o fun i hi hc => ?_
      have hi2 : i < 104 ∨ (4096 ≤ i ∧ i < (1 + x) * 4096) := by
        rcases hc with hc | ⟨j, hj, c, hm, q1, q2⟩
        · exact .inl hc
        · have := lt j c hm
          have := o.1 j hj c hm
          exact .inr (by omega)
      show put8 (clrM (layM s.mm (256 + x) (2 ^ k) 0 0 0) (1 + x) (2 ^ k)) 8 x i = _
      rw [low i hi (by omega), layM_out _ _ _ h0 _ _ _ _ (by omega)]
    ti := ti }
end
end Go.Proofs.YtfemgekhpcgliaaGreat.Bt
/- A buddy in memory; Base, address, page, Grown, setGrown, isOrder. -/
namespace Go.Proofs.YtfemgekhpcgliaaGreat.Bt
open Go Go.RowKit Go.Shelf
set_option linter.unusedVariables false
set_option linter.unusedSimpArgs false
/-- the block of a buddy of an arena in block A; its table has n tags -/
def BdyAt (B A n : Nat) (w : World) : Prop := w.heap[B]? = some (.cells #[.pointer (some ⟨A, 0, none⟩), .pointer (some ⟨A, 0, none⟩), .int .i64 0, .int .i64 256, .pointer (some ⟨A, 0, none⟩), .int .i64 16, .int .i64 88, .pointer (some ⟨A, 0, none⟩), .int .i64 256, .int .i64 (n : Int)] 45 (0, 0))
def BV (B A n : Nat) (s : ASt) (w : World) : Prop := On A s w ∧ s.L = n + 1 ∧ BdyAt B A n w
theorem BV.below {B A n : Nat} {s : ASt} {x y : World} (h : BV B A n s x) (hb : Below x.heap.size x y) : BV B A n s y :=
  ⟨h.1.below hb, h.2.1, (hb.block _ (Array.getElem?_eq_some_iff.1 h.2.2).1).trans h.2.2⟩
theorem BV.went {B A n : Nat} {s s' : ASt} {x y : World} (h : BV B A n s x) (ho : On A s' y) (hg : Went A x y) (hL : s'.L = s.L) : BV B A n s' y :=
  ⟨ho, hL.trans h.2.1, hg.keep h.1 h.2.2 (by decide) (by decide) (by decide)⟩
theorem BV.all {B A n : Nat} {s : ASt} {x : World} (h : BV B A n s x) :
    x.cell? ⟨B, 0, none⟩ = some (.pointer (some ⟨A, 0, none⟩)) ∧ x.cell? ⟨B, 1, none⟩ = some (.pointer (some ⟨A, 0, none⟩)) ∧ x.cell? ⟨B, 2, none⟩ = some (.int .i64 0) ∧ x.cell? ⟨B, 3, none⟩ = some (.int .i64 256) ∧
    x.cell? ⟨B, 4, none⟩ = some (.pointer (some ⟨A, 0, none⟩)) ∧ x.cell? ⟨B, 5, none⟩ = some (.int .i64 16) ∧ x.cell? ⟨B, 6, none⟩ = some (.int .i64 88) ∧
    x.cell? ⟨B, 7, none⟩ = some (.pointer (some ⟨A, 0, none⟩)) ∧ x.cell? ⟨B, 8, none⟩ = some (.int .i64 256) ∧ x.cell? ⟨B, 9, none⟩ = some (.int .i64 (n : Int)) ∧ BV B A n s x := by
  refine ⟨?_, ?_, ?_, ?_, ?_, ?_, ?_, ?_, ?_, ?_, h⟩ <;> (rw [(cell_blk h.2.2 _).1]; rfl)
abbrev bdyP (B : Nat) : Value := .pointer (some ⟨B, 0, none⟩)
theorem on_cap8 {A : Nat} {s : ASt} {w : World} (h : On A s w) : Calls Tryz.prog 35 #[.pointer (some ⟨A, 0, none⟩)] w fun e w' => e = .returned (.int .i64 (s.L : Int)) ∧ w = w' := by
  obtain ⟨P, ps, p, n, cap, h⟩ := h; exact cap_any h
section
variable {B A n : Nat} {s : ASt} {w : World}
set_option maxHeartbeats 1000000 in
theorem bbase (h : BV B A n s w) (hn : n ≤ 80) : Calls Tryz.prog 17 #[bdyP B] w (Gives (.int .i64 1) w) := by
  have H := Lib.hid h
  have hw : IntKind.i64.wrap (((n + 1 : Nat) : Int) - (n : Int)) = 1 := by rw [IntKind.wrap_i64]; omega
  have hL := h.2.1
  have HC := Lib.hid fun X (hX : BV B A n s X) => on_cap8 hX.1
  rw [hL] at HC
  have HT := Lib.hid fun X => tlen_any (some ⟨A, 0, none⟩) 256 n X
  clear h hL
  go_enter Tryz.func17, Tryz.ntmps17
  go_wp2_with fail
  go_region_held3 (fun x => x.cell? ⟨B, 0, none⟩ = some (.pointer (some ⟨A, 0, none⟩)) ∧ x.cell? ⟨B, 7, none⟩ = some (.pointer (some ⟨A, 0, none⟩)) ∧ x.cell? ⟨B, 8, none⟩ = some (.int .i64 256) ∧ x.cell? ⟨B, 9, none⟩ = some (.int .i64 (n : Int)) ∧ BV B A n s x)
    (first | (have q := (H.out.below (Below.refl _ _).drew).all; exact ⟨q.1, q.2.2.2.2.2.2.2.1, q.2.2.2.2.2.2.2.2.1, q.2.2.2.2.2.2.2.2.2.1, q.2.2.2.2.2.2.2.2.2.2⟩) | assumption)
    (first | (go_at_call 35; refine (HC.out _ (H.out.below (Below.refl _ _).drew)).mono ?_; rintro e w' ⟨rfl, rfl⟩)
           | (go_at_call 61; refine (HT.out _).mono ?_; rintro e w' ⟨rfl, hb⟩; have hq := (((H.out.below (Below.refl _ _).drew).below hb)).all; have hbb := (Below.refl _ _).drew.trans hb; have k := And.intro hq.1 (And.intro hq.2.2.2.2.2.2.2.1 (And.intro hq.2.2.2.2.2.2.2.2.1 (And.intro hq.2.2.2.2.2.2.2.2.2.1 hq.2.2.2.2.2.2.2.2.2.2)))))
  have HB := Lib.hid hbb
  clear hbb hb k hq
  go_wp2_with fail
  go_ret
  exact ⟨by rw [show IntKind.i64.wrap ((n : Int) + 1 - (n : Int)) = 1 from by rw [IntKind.wrap_i64]; omega]; rfl, HB.out⟩
/-- the address of a page that it gives out -/
def adr (p : Nat) : Nat := (1 + p) * 4096
set_option maxHeartbeats 1000000 in
theorem baddr (h : BV B A n s w) (hn : n ≤ 80) (p : Nat) (hp : p ≤ 2000) : Calls Tryz.prog 82 #[bdyP B, .int .i64 (p : Int)] w (Gives (.int .i64 (adr p : Int)) w) := by
  have HB := Lib.hid fun X (hX : BV B A n s X) => bbase hX hn
  have H := Lib.hid h
  have h1 : IntKind.i64.wrap (1 + (p : Int)) = 1 + p := by rw [IntKind.wrap_i64]; omega
  have h2 : IntKind.i64.wrap ((1 + (p : Int)) * 4096) = ((1 + p) * 4096 : Nat) := by rw [IntKind.wrap_i64]; omega
  have e : Hid (((adr p : Nat) : Int) = (1 + (p : Int)) * 4096) := Lib.hid (by unfold adr; omega)
  clear h
  go_enter Tryz.func82, Tryz.ntmps82
  go_wp2_with fail
  refine (HB.out _ H.out).mono ?_
  rintro e w' ⟨rfl, hb⟩
  have HW := Lib.hid hb
  clear hb
  go_wp2_with fail
  go_ret
  exact ⟨by rw [e.out]; rfl, HW.out⟩
theorem tdiv_b (a k : Int) (hk : 1 ≤ k) (h0 : -9223372036854775808 ≤ a) (h1 : a ≤ 9223372036854775807) : -9223372036854775808 ≤ a.tdiv k ∧ a.tdiv k ≤ 9223372036854775807 := by
  have := Int.tdiv_mul_le a (show k ≠ 0 by omega)
  rcases Int.le_total 0 a with c | c
  · have h2 := Int.tdiv_le_self k c
    have h3 := Int.tdiv_nonneg c (show 0 ≤ k by omega)
    omega
  · have e : a.tdiv k = -((-a).tdiv k) := by rw [Int.neg_tdiv, Int.neg_neg]
    have h2 := Int.tdiv_le_self (a := -a) k (by omega)
    have h3 := Int.tdiv_nonneg (a := -a) (b := k) (by omega) (by omega)
    omega
set_option maxHeartbeats 1000000 in
theorem bpage (h : BV B A n s w) (hn : n ≤ 80) (a q : Int) (hq : a.tdiv 4096 = q) (h0 : -9223372036854775807 ≤ q) (h1 : q ≤ 9223372036854775807) : Calls Tryz.prog 77 #[bdyP B, .int .i64 a] w (Gives (.int .i64 (q - 1)) w) := by
  have HB := Lib.hid fun X (hX : BV B A n s X) => bbase hX hn
  have H := Lib.hid h
  have hw0 : IntKind.i64.wrap q = q := by rw [IntKind.wrap_i64]; omega
  have hw : IntKind.i64.wrap (q - 1) = q - 1 := by rw [IntKind.wrap_i64]; omega
  clear h
  go_enter Tryz.func77, Tryz.ntmps77
  go_wp2_with fail
  refine (HB.out _ H.out).mono ?_
  rintro e w' ⟨rfl, hb⟩
  have HW := Lib.hid hb
  clear hb
  go_wp2_with fail
  go_ret
  exact ⟨by trivial, HW.out⟩
set_option maxHeartbeats 1000000 in
theorem bgrown (h : BV B A n s w) (G : Nat) (hG : G ≤ 80) (ht : thereE s.L s.es 8 8 = 0) (hm : numV s.mm 8 8 = G) : Calls Tryz.prog 16 #[bdyP B] w (Gives (.int .i64 (G : Int)) w) := by
  have HL := Lib.hid fun X (hX : BV B A n s X) => on_load hX.1 0 256 (by omega) (by omega) 8 8 (by omega)
  have ha : addrV 0 256 8 8 = 8 := by decide
  have he : numE s.L s.es 8 8 = 0 := by unfold numE; rw [show wholeB 8 = true from rfl, if_pos rfl]; exact ht
  have hv : ldV s 8 8 = (G : Int) := by unfold ldV; rw [if_pos he]; exact congrArg Int.ofNat hm
  rw [ha, he, hv] at HL
  have H := Lib.hid h
  obtain ⟨c0, c1, c2, c3, _⟩ := h.all
  have hw : IntKind.i64.wrap (G : Int) = G := by rw [IntKind.wrap_i64]; omega
  clear h ht hm ha he hv
  go_enter Tryz.func16, Tryz.ntmps16
  go_wp2_with fail
  refine (HL.out _ H.out).mono ?_
  rintro e w' ⟨rfl, hb⟩
  have HW := Lib.hid hb
  clear hb
  go_wp2_with fail
  go_ret
  exact ⟨by trivial, HW.out⟩
set_option maxHeartbeats 1000000 in
theorem bsetgrown (h : BV B A n s w) (G : Nat) (hG : G ≤ 80) (ht : thereE s.L s.es 8 8 = 0) : Calls Tryz.prog 101 #[bdyP B, .int .i64 (G : Int)] w (Ret A { s with mm := put8 s.mm 8 G } (.tuple #[]) w) := by
  have HL := Lib.hid fun X (hX : BV B A n s X) => on_store hX.1 0 256 (by omega) (by omega) 8 8 (G : Int) (by omega) (by omega)
  have ha : addrV 0 256 8 8 = 8 := by decide
  have he : numE s.L s.es 8 8 = 0 := by unfold numE; rw [show wholeB 8 = true from rfl, if_pos rfl]; exact ht
  have hv : storeS s 8 8 (G : Int) = { s with mm := put8 s.mm 8 G } := by unfold storeS put8; rw [if_pos he]; rfl
  rw [ha, he, hv] at HL
  have H := Lib.hid h
  obtain ⟨c0, c1, c2, c3, _⟩ := h.all
  have hw : IntKind.u64.wrap (G : Int) = G := by rw [IntKind.wrap_u64]; omega
  clear h ht ha he hv
  go_enter Tryz.func101, Tryz.ntmps101
  go_wp2_with fail
  refine (HL.out _ H.out).mono ?_
  rintro e w' ⟨rfl, hx, hg⟩
  have HW := Lib.hid (And.intro hx hg)
  clear hx hg
  go_wp2_with fail
  exact bodyPost_ret (v := .tuple #[]) (by simp [results, Tryz.results101, go_sem]) rfl ⟨rfl, HW.out.1, HW.out.2⟩
end
theorem bisorder (k : Int) (w : World) : Calls Tryz.prog 74 #[.int .i64 k] w fun e w' => e = .returned (.bool (decide (0 ≤ k ∧ k ≤ 10))) ∧ w = w' := by
  by_cases h0 : 0 ≤ k
  · by_cases h1 : k ≤ 10
    · have d1 : ¬ 10 < k := by omega
      go_enter Tryz.func74, Tryz.ntmps74
      go_wp2_with fail
      go_ret
      exact ⟨by simp [h0, h1], rfl⟩
    · have d1 : 10 < k := by omega
      go_enter Tryz.func74, Tryz.ntmps74
      go_wp2_with fail
      go_ret
      exact ⟨by simp [h0, h1], rfl⟩
  · have d0 : k < 0 := by omega
    go_enter Tryz.func74, Tryz.ntmps74
    go_wp2_with fail
    go_ret
    exact ⟨by rw [decide_eq_false (show ¬ 0 ≤ k by omega)]; rfl, rfl⟩
end Go.Proofs.YtfemgekhpcgliaaGreat.Bt
/- The contracts of a list's small functions: Open, Len, follow, lead. -/
namespace Go.Proofs.YtfemgekhpcgliaaGreat.Bt
open Go Go.RowKit Go.Shelf
set_option linter.unusedVariables false

abbrev lsP (pa : Option Addr) (va vs : Nat) : Value := .agg #[.pointer pa, .int .i64 (va : Int), .int .i64 (vs : Int)]
theorem lopenL (pa : Option Addr) (va vs : Nat) (w : World) : Calls Tryz.prog 94 #[.agg #[.pointer pa, .int .i64 (va : Int), .int .i64 (vs : Int)]] w (Gives (lsP pa va vs) w) := by
  go_enter Tryz.func94, Tryz.ntmps94
  go_wp2_with fail
  exact bodyPost_ret (v := lsP pa va vs) (by simp [results, Tryz.results94, go_sem]) rfl ⟨rfl, below2 _ _ _⟩
theorem llen_any (pa : Option Addr) (va vs : Nat) (h2 : vs ≤ 4294967296) (w : World) : Calls Tryz.prog 138 #[lsP pa va vs] w (Gives (.int .i64 ((vs / 8 : Nat) : Int)) w) := by
  have q1 : IntKind.i64.wrap ((vs : Int).tdiv 8) = ((vs / 8 : Nat) : Int) := by rw [Int.tdiv_eq_ediv_of_nonneg (by omega), IntWalk.i64_in _ (by omega)]; omega
  have HQ := Lib.hid q1
  clear q1
  go_enter Tryz.func138, Tryz.ntmps138
  go_wp2_with fail
  refine (vsize_any pa va vs _).mono ?_
  rintro e w1 ⟨rfl, hb⟩
  have q1 := HQ.out
  go_wp2_with fail
  go_ret
  exact ⟨by first | rfl | (rw [← HQ.out]; rfl), ((Below.refl w.heap.size w).alloc (Nat.le_refl _) _).trans (hb.mono (by simp))⟩
theorem num8 (L : Nat) (es : List Nat) (a : Int) : numE L es a 8 = thereE L es a 8 := rfl
theorem addr_head {a z : Nat} (h8 : 8 ≤ z) : addrV a z 0 8 = (a : Int) := by unfold addrV; rw [if_pos (by omega)]; omega
section
variable {A : Nat} {s : ASt} {w : World}
theorem ld8 {a : Nat} (hn : thereE s.L s.es a 8 = 0) : ldV s a 8 = (numV s.mm a 8 : Int) := by
  unfold ldV; rw [num8, if_pos hn]; rfl
set_option maxHeartbeats 1000000 in
theorem lfollow (h : On A s w) (a z m : Nat) (h1 : a ≤ 4294967296) (h2 : z ≤ 4294967296) (h8 : 8 ≤ z) (hm : m ≤ 4294967296) (hn : thereE s.L s.es a 8 = 0) (hv : numV s.mm a 8 = m) (b : Int) :
    Calls Tryz.prog 114 #[vwV A a z, .int .i64 b] w (Gives (.int .i64 (if (m : Int) ≤ b then 0 else (m : Int))) w) := by
  have HL := Lib.hid (on_load (h.below (bel1 w (.cells #[.pointer (some ⟨A, 0, none⟩), .int .i64 (a : Int), .int .i64 (z : Int)] 40))) a z h1 h2 0 8 (by omega))
  have HV : Hid (ldV s (addrV a z 0 8) 8 = (m : Int)) := Lib.hid (by rw [addr_head h8, ld8 hn, hv])
  have q1 : IntKind.i64.wrap (m : Int) = (m : Int) := IntWalk.i64_in _ (by omega)
  clear hn hv h
  have HB := Lib.hid (bel1 w (.cells #[.pointer (some ⟨A, 0, none⟩), .int .i64 (a : Int), .int .i64 (z : Int)] 40))
  by_cases hb : (m : Int) ≤ b
  · rw [if_pos hb]
    go_enter Tryz.func114, Tryz.ntmps114
    go_wp2_with fail
    refine HL.out.mono ?_
    rintro e w1 ⟨rfl, hbb⟩
    rw [HV.out]
    have HF := Lib.hid (HB.out.trans (hbb.mono HB.out.size))
    clear hbb
    go_wp2_with fail
    go_ret
    exact ⟨rfl, HF.out⟩
  · rw [if_neg hb]
    go_enter Tryz.func114, Tryz.ntmps114
    go_wp2_with fail
    refine HL.out.mono ?_
    rintro e w1 ⟨rfl, hbb⟩
    rw [HV.out]
    have HF := Lib.hid (HB.out.trans (hbb.mono HB.out.size))
    clear hbb
    go_wp2_with fail
    go_ret
    exact ⟨by first | rfl | simp [q1], HF.out⟩
theorem llead (h : On A s w) (a z v : Nat) (h1 : a ≤ 4294967296) (h2 : z ≤ 4294967296) (h8 : 8 ≤ z) (hv : v ≤ 4294967296) (hn : thereE s.L s.es a 8 = 0) :
    Calls Tryz.prog 113 #[vwV A a z, .int .i64 (v : Int)] w (Ret A { s with mm := put8 s.mm a v } (.int .i64 0) w) := by
  have HB := Lib.hid (bel1 w (.cells #[.pointer (some ⟨A, 0, none⟩), .int .i64 (a : Int), .int .i64 (z : Int)] 40))
  have HO := Lib.hid h
  have HS := Lib.hid (on_store (h.below HB.out) a z h1 h2 0 8 (v : Int) (by omega) (by omega))
  have HN : Hid (numE s.L s.es (addrV a z 0 8) 8 = 0) := Lib.hid (by rw [addr_head h8, num8]; exact hn)
  have HM : Hid (storeS s (addrV a z 0 8) 8 v = { s with mm := put8 s.mm a v }) := Lib.hid (by
    unfold storeS; rw [HN.out, if_pos rfl, addr_head h8]; rfl)
  have q1 : IntKind.u64.wrap (v : Int) = (v : Int) := by rw [IntKind.wrap_u64]; omega
  clear hn h
  go_enter Tryz.func113, Tryz.ntmps113
  go_wp2_with fail
  refine HS.out.mono ?_
  rintro e w1 ⟨rfl, hx, hg⟩
  rw [HN.out]; rw [HM.out] at hx
  have HF := Lib.hid (And.intro hx ((Went.of_below HO.out HB.out).trans hg))
  clear hx hg
  go_wp2_with fail
  go_ret
  exact ⟨rfl, HF.out.1, HF.out.2⟩
end
end Go.Proofs.YtfemgekhpcgliaaGreat.Bt
/- A range over a function whose iterator keeps a variable of its own in a block of cells, of a type of which the loop's own variables are not: a law of my own beside the library's. -/
namespace Go.Proofs.YtfemgekhpcgliaaGreat.Bt
open Go Go.RowKit

/-- an object of cells of type T -/
def OfT (T : TypeId) (o : Obj) : Prop := ∃ c fr, o = .cells c T fr
/-- the loop's invariant: it abides whatever turns objects that are no cells, and those of type T, that came since -/
def OwnT {β : Type} (T : TypeId) (B : Nat) (I : β → World → Prop) : Prop :=
  ∀ s W W' row, I s W → W.grownBy W' row → (∀ r, row = some r → B ≤ r ∧ ∃ o : Obj, W.heap[r]? = some o ∧ (o.isCells = false ∨ OfT T o)) → I s W'
/-- the same of what an iterator turns -/
def WalkT {β : Type} (T : TypeId) (B : Nat) (J : β → World → Prop) : Prop :=
  ∀ s W W' row, J s W → W.grownBy W' row → (∀ r, row = some r → B ≤ r ∧ ∃ o : Obj, W.heap[r]? = some o ∧ (o.isWalk = true ∨ OfT T o)) → J s W'
def SeqT {α : Type} (T : TypeId) (F : Fence) (n : Nat) (P : Program) (g : Nat) (lb : Array Value) (encs : α → Array Value) (Kp : World → World → Prop) (S Sp : List α → Prop) (N : Nat) (w : World) : Prop :=
  ∀ (l : Nat) (J Jx : List α → World → Prop) (W : World), Below w.heap.size w W → WalkT T W.heap.size J → WalkT T W.heap.size Jx →
    (∀ pre x W1, J pre W1 → pre.length < N → YieldAt F (n - 1) P l (encs x) W1 fun e W' =>
      (e = .returned (.bool true) ∧ J (pre ++ [x]) W' ∧ Kp W1 W') ∨ (e = .returned (.bool false) ∧ Jx (pre ++ [x]) W')) →
    J [] W →
    CallsIn F n P g (#[.func (.yield l) #[] #[]] ++ lb) W fun e W' => (∃ v, e = .returned v) ∧ ((∃ xs, S xs ∧ J xs W') ∨ (∃ pre, Sp pre ∧ Jx pre W'))

theorem OwnT.one {β : Type} {T : TypeId} {B : Nat} {I : β → World → Prop} (h : OwnT T B I) {s : β} {W : World} (o : Obj) (hs : I s W) : I s (W.alloc o) :=
  h s W _ none hs (World.grownBy_alloc W o none) (fun r e => by cases e)
theorem OwnT.turn {β : Type} {T : TypeId} {B : Nat} {I : β → World → Prop} (h : OwnT T B I) {s : β} {W : World} {l : Nat} {o : Obj} (o' : Obj) (hs : I s W) (hB : B ≤ l) (hl : W.heap[l]? = some o) (ho : o.isCells = false) : I s (W.putObj l o') :=
  h s W _ (some l) hs (grownBy_putObj' W l o') (fun r e => by cases e; exact ⟨hB, o, hl, .inl ho⟩)
theorem OwnT.and {β : Type} {T : TypeId} {B : Nat} {I I' : β → World → Prop} (h : OwnT T B I) (h' : OwnT T B I') : OwnT T B (fun s W => I s W ∧ I' s W) :=
  fun s W W' row hs hg hr => ⟨h s W W' row hs.1 hg hr, h' s W W' row hs.2 hg hr⟩
/-- a block that is no walk's, and not of type T, lies as it lay -/
theorem stays {T : TypeId} {B : Nat} {W W' : World} {row : Option Nat} (hg : W.grownBy W' row) (hr : ∀ r, row = some r → B ≤ r ∧ ∃ o : Obj, W.heap[r]? = some o ∧ (o.isWalk = true ∨ OfT T o))
    {k : Nat} {o : Obj} (hk : W.heap[k]? = some o) (hw : o.isWalk = false) (ht : ¬ OfT T o) : W'.heap[k]? = some o := by
  refine (hg.block k (Array.getElem?_eq_some_iff.1 hk).1 fun e => ?_).trans hk
  obtain ⟨_, o', ho', h⟩ := hr k e.symm
  rw [hk] at ho'; cases ho'
  rcases h with h | h
  · rw [hw] at h; cases h
  · exact ht h
theorem range_T {α : Type} {T : TypeId} {F : Fence} {n : Nat} {P : Program} {g : Operand} {ps : Array Tmp} {assign body : Code} {Q : Exit → Act → World → Prop} {a : Act} {w : World}
    (hro : F.round = none) (h1 : 1 ≤ n) {gf : Nat} {lb : Array Value} (hg : a.eval g = .func (.func gf) #[] lb) (hFg : F.fn gf) (eg : ∀ args w, (callFunc gf args).run P w = .ok (.enter gf args) w)
    {encs : α → Array Value} {Kp : World → World → Prop} {S Sp : List α → Prop} {N : Nat} (hseq : SeqT T F (n - 1) P gf lb encs Kp S Sp N w)
    (hKt : ∀ {A B C : World}, Kp A B → Kp B C → Kp A C) (hKb : ∀ (W : World) (l : Nat) (o o' : Obj), w.heap.size ≤ l → W.heap[l]? = some o → o.isCells = false → o.isWalk = false → Kp W (W.putObj l o')) (hps : ∀ x, (encs x).size = ps.size)
    (I : List α → World → Prop) (Ix : Code → List α → World → Prop) (hI : OwnT T w.heap.size I) (hIx : ∀ c, OwnT T w.heap.size (Ix c)) (h0 : I [] w)
    (Ax : α → Act → World → Prop) (hAx : ∀ x a', OwnFrom w.heap.size (fun (_ : Unit) W => Ax x a' W))
    (hassign : ∀ (l : Nat) (pre : List α) (x : α) (W : World) (K : Act → World → Prop), I pre W → (∀ a' W', KeepsFrom w.heap.size W W' → Kp W W' → I pre W' → Ax x a' W' → K a' W') →
      assign.wpIn (F.inRound l) (n - 1 - 1) P (Exit.then K (fun _ _ _ => False)) { tmps := (ps.zip (encs x)).foldl (fun t (p, v) => t.setIfInBounds p v) a.tmps, defers := [] } W)
    (hbody : ∀ (l : Nat) (pre : List α) (x : α) (a' : Act) (W : World), I pre W → Ax x a' W → pre.length < N → body.wpIn (F.inRound l) (n - 1 - 1) P (ownPostG w.heap.size Kp I Ix (pre ++ [x]) W) a' W)
    (hdone : ∀ (D : Nat) (xs : List α) (W : World), w.heap.size ≤ D → S xs → I xs W → W.heap[D]? = some (.deferred (some [])) → Q .normal { a with defers := { target := .collected D, args := #[] } :: a.defers } W)
    (hstop : ∀ (D : Nat) (c : Code) (pre : List α) (W : World), w.heap.size ≤ D → Sp pre → Ix c pre W → W.heap[D]? = some (.deferred (some [])) → c.wpIn F n P Q { a with defers := { target := .collected D, args := #[] } :: a.defers } W) :
    (Code.rangeFunc g ps assign body).wpIn F n P Q a w := by
  refine wpIn_rangeFunc fun fn hfn => ?_
  rw [hro]
  -- the two blocks that the loop lays for itself: the deferred calls in block D, its record in the next one
  obtain ⟨D, hD⟩ : ∃ D, w.heap.size = D := ⟨_, rfl⟩
  obtain ⟨mk, hmk⟩ : ∃ mk : LoopState → Option Code → Loop, mk = fun st pe => { state := st, pending := pe, fn := fn, tmps := a.tmps, params := ps, assign := assign, body := body, defers := D } := ⟨_, rfl⟩
  have mks : ∀ st pe, (mk st pe).state = st ∧ (mk st pe).pending = pe ∧ (∀ st' , { mk st pe with state := st' } = mk st' pe) ∧ (∀ st' pe', { mk st pe with state := st', pending := pe' } = mk st' pe') := fun st pe => by rw [hmk]; exact ⟨rfl, rfl, fun _ => rfl, fun _ _ => rfl⟩
  obtain ⟨Bk, hBk⟩ : ∃ Bk : LoopState → Option Code → World → Prop, Bk = fun st pe W => W.heap[D + 1]? = some (.loop (mk st pe)) ∧ W.heap[D]? = some (.deferred (some [])) := ⟨_, rfl⟩
  have put : ∀ {st pe} st' pe' {W : World}, Bk st pe W → Bk st' pe' (W.putObj (D + 1) (.loop (mk st' pe'))) := fun {st pe} st' pe' {W} h => by
    rw [hBk] at h ⊢
    exact ⟨World.putObj_heap_same (Array.getElem?_eq_some_iff.1 h.1).1, (World.putObj_heap_other (by omega)).trans h.2⟩
  have kept : ∀ {st pe} {W W' : World}, KeepsFrom D W W' → Bk st pe W → Bk st pe W' := fun hk h => by
    rw [hBk] at h ⊢
    exact ⟨hk.same _ _ (by omega) h.1 rfl, hk.same _ _ (Nat.le_refl _) h.2 rfl⟩
  have walked : ∀ {st pe} {W W' : World} {row : Option Nat} {B : Nat}, W.grownBy W' row → (∀ r, row = some r → B ≤ r ∧ ∃ o : Obj, W.heap[r]? = some o ∧ (o.isWalk = true ∨ OfT T o)) → Bk st pe W → Bk st pe W' := fun hg' hr h => by
    rw [hBk] at h ⊢
    exact ⟨stays hg' hr h.1 rfl (fun ⟨_, _, e⟩ => by cases e), stays hg' hr h.2 rfl (fun ⟨_, _, e⟩ => by cases e)⟩
  have turnI : ∀ {st pe s} st' pe' {W : World}, Bk st pe W → I s W → I s (W.putObj (D + 1) (.loop (mk st' pe'))) := fun {st pe s} st' pe' {W} h hs => by
    rw [hBk] at h; exact hI.turn _ hs (by omega) h.1 rfl
  have turnX : ∀ {st pe s c} st' pe' {W : World}, Bk st pe W → Ix c s W → Ix c s (W.putObj (D + 1) (.loop (mk st' pe'))) := fun {st pe s c} st' pe' {W} h hs => by
    rw [hBk] at h; exact (hIx _).turn _ hs (by omega) h.1 rfl
  have turnK : ∀ {st pe} st' pe' {W : World}, Bk st pe W → Kp W (W.putObj (D + 1) (.loop (mk st' pe'))) := fun {st pe} st' pe' {W} h => by
    rw [hBk] at h; exact hKb _ _ _ _ (by omega) h.1 rfl rfl
  obtain ⟨W1, hW1⟩ : ∃ W1, (w.alloc (.deferred (some []))).alloc (.loop (mk .ready none)) = W1 := ⟨_, rfl⟩
  have hB1 : Bk .ready none W1 := by
    rw [hBk, ← hW1, ← hD]
    refine ⟨?_, (Below.heap_alloc _ _ _ (by simp)).trans (World.alloc_heap_new w _)⟩
    have := World.alloc_heap_new (w.alloc (.deferred (some []))) (.loop (mk .ready none)); rwa [World.size_alloc] at this
  have hI1 : I [] W1 := by rw [← hW1]; exact hI.one _ (hI.one _ h0)
  have hs1 : D ≤ W1.heap.size := by rw [← hW1, ← hD]; simp; omega
  have hb1 : Below w.heap.size w W1 := by rw [← hW1]; exact ((Below.refl _ w).alloc (Nat.le_refl _) _).alloc (by simp) _
  refine ⟨D + 1, [{ target := .collected D, args := #[] }], W1, { target := .fn (.func gf) lb, args := #[.func (.yield (D + 1)) #[] #[]] }, W1, gf, #[.func (.yield (D + 1)) #[] #[]] ++ lb, W1, ?_, ?_, ?_, ?_, fun _ => h1, ?_⟩
  · rw [← hW1, hmk, ← hD]; exact run_enterLoop_outer _ _ _ _ _
  · simp only [resolve, hg]; simp [go_sem]
  · intro f' hf'; simp [Target.leads] at hf'; subst hf'; exact hFg
  · simp [invoke, go_sem, eg]
  have up : ∀ {A : World} {row : Option Nat}, (∀ r, row = some r → W1.heap.size ≤ r ∧ ∃ o : Obj, A.heap[r]? = some o ∧ (o.isWalk = true ∨ OfT T o)) → (∀ r, row = some r → w.heap.size ≤ r ∧ ∃ o : Obj, A.heap[r]? = some o ∧ (o.isCells = false ∨ OfT T o)) :=
    fun hr r e => by obtain ⟨hB, o, ho, h⟩ := hr r e; exact ⟨by omega, o, ho, h.imp Obj.not_cells_of_walk id⟩
  refine (hseq (D + 1) (fun pre W => I pre W ∧ Bk .ready none W) (fun pre W => ∃ c, Ix c pre W ∧ Bk .done (some c) W) W1 hb1
    (fun s A B row hs hg' hr => ⟨hI s A B row hs.1 hg' (up hr), walked hg' hr hs.2⟩)
    (fun s A B row hs hg' hr => by obtain ⟨c, hc, hk⟩ := hs; exact ⟨c, hIx c s A B row hc hg' (up hr), walked hg' hr hk⟩)
    ?_ ⟨hI1, hB1⟩).mono ?_
  · -- a round
    rintro pre x W ⟨hi, hk⟩ hlen
    have hl : W.heap[D + 1]? = some (.loop (mk .ready none)) := by rw [hBk] at hk; exact hk.1
    have hy := run_yield (P := P) (args := encs x) hl (by rw [hmk]; exact hps x)
    rw [hmk] at hy
    refine ⟨fn, _, assign, body, hy, roundIn_of_wpIn hfn (hassign _ pre x W _ hi ?_)⟩
    clear hy hl
    intro a' Wa hkf hkp hia hax
    have hka := kept (by rw [← hD]; exact hkf) hk
    have hl : Wa.heap[D + 1]? = some (.loop (mk .ready none)) := by rw [hBk] at hka; exact hka.1
    have hbeg := run_beginRound (P := P) hl (mks _ _).1
    rw [(mks _ _).2.2.1] at hbeg
    refine ⟨_, hbeg, ?_⟩
    have hkb := put .busy none hka
    have hkk := turnK .busy none hka
    refine wpIn_mono (hbody _ pre x a' _ (turnI .busy none hka hia) ((hAx x a') () _ _ (some (D + 1)) hax (grownBy_putObj' _ _ _) (fun r e => by cases e; exact ⟨by omega, _, hl, rfl⟩)) hlen) ?_
    have fin : ∀ (jump : Option Code) (W3 : World), KeepsFrom D (Wa.putObj (D + 1) (.loop (mk .busy none))) W3 →
        (Instr.endRound (D + 1) jump).run P W3 = .ok (.bool jump.isNone) (W3.putObj (D + 1) (.loop (mk (if jump.isNone then .ready else .done) jump))) ∧ Bk .busy none W3 := fun jump W3 hk3 => by
      have h3 := kept hk3 hkb
      have hl3 : W3.heap[D + 1]? = some (.loop (mk .busy none)) := by rw [hBk] at h3; exact h3.1
      have := run_endRound (P := P) jump hl3
      rw [(mks _ _).2.2.2] at this
      exact ⟨this, h3⟩
    rintro e a3 W3 hp
    cases e with
    | normal =>
      obtain ⟨hk3, hkp3, hi3⟩ := hp
      obtain ⟨hr, h3⟩ := fin none W3 (by rw [← hD]; rw [← hD] at hk3; exact hk3)
      exact ⟨_, _, hr, .inl ⟨rfl, ⟨turnI _ _ h3 hi3, put _ _ h3⟩, hKt hkp (hKt (hKt hkk hkp3) (turnK _ _ h3))⟩⟩
    | ret =>
      obtain ⟨hk3, hi3⟩ := hp
      obtain ⟨hr, h3⟩ := fin (some .ret) W3 (by rw [← hD]; rw [← hD] at hk3; exact hk3)
      exact ⟨_, _, hr, .inr ⟨rfl, .ret, turnX _ _ h3 hi3, put _ _ h3⟩⟩
    | exit id =>
      obtain ⟨hk3, hi3⟩ := hp
      obtain ⟨hr, h3⟩ := fin (some (.exit id)) W3 (by rw [← hD]; rw [← hD] at hk3; exact hk3)
      exact ⟨_, _, hr, .inr ⟨rfl, .exit id, turnX _ _ h3 hi3, put _ _ h3⟩⟩
    | goto t =>
      obtain ⟨hk3, hi3⟩ := hp
      obtain ⟨hr, h3⟩ := fin (some (.goto t)) W3 (by rw [← hD]; rw [← hD] at hk3; exact hk3)
      exact ⟨_, _, hr, .inr ⟨rfl, .goto t, turnX _ _ h3 hi3, put _ _ h3⟩⟩
    | panic ch => exact hp.elim
    | outgrown => exact hp.elim
  · -- behind the iterator
    have shut : ∀ {st pe} {W : World}, st ≠ .busy → Bk st pe W → (Instr.endLoop (D + 1)).run P W = .ok pe (W.putObj (D + 1) (.loop (mk .exhausted pe))) := fun {st pe W} hst h => by
      have hl : W.heap[D + 1]? = some (.loop (mk st pe)) := by rw [hBk] at h; exact h.1
      have := run_endLoop (P := P) hl (by rw [(mks st pe).1]; exact hst)
      rw [(mks st pe).2.2.1, (mks st pe).2.1] at this
      exact this
    have dfr : ∀ {st pe} {W : World}, Bk st pe W → W.heap[D]? = some (.deferred (some [])) := fun h => by rw [hBk] at h; exact h.2
    rintro e W2 ⟨⟨v, rfl⟩, (⟨xs, hS, hi, hk⟩ | ⟨pre, hSp, c, hi, hk⟩)⟩
    · exact ⟨none, _, shut (by intro e; cases e) hk, hdone _ xs _ (by omega) hS (turnI _ _ hk hi) (dfr (put .exhausted none hk))⟩
    · exact ⟨some c, _, shut (by intro e; cases e) hk, hstop _ c pre _ (by omega) hSp (turnX _ _ hk hi) (dfr (put .exhausted (some c) hk))⟩
end Go.Proofs.YtfemgekhpcgliaaGreat.Bt
/- The contract of a list's links: the function value that it answers, for every loop body that keeps the arena and the views. -/
namespace Go.Proofs.YtfemgekhpcgliaaGreat.Bt
open Go Go.RowKit Go.Shelf
set_option linter.unusedVariables false
attribute [local go_sem] Oper.semAt_some

/-! a region that draws its order, inside the wide fence, with a condition that every operation keeps -/
section
variable {P : Program} {ops : Array Oper} {Q : Exit → Act → World → Prop} {S : World → Prop} {n : Nat} {md : Region.Mode}
theorem wide_of_upon {o : Oper} {a : Act} {K : Act → World → Prop} (r : Result Next) (h : o.upon P a K Q r) : o.uponIn Fence.wide n P a K Q r := by
  unfold Oper.upon at h
  unfold Oper.uponIn
  split at h
  · exact h
  · exact h
  · exact h
  · exact ⟨fun hd => by simp [Fence.wide] at hd, callsIn_wide.2 h⟩
  · exact ⟨fun hd => by simp [Fence.wide] at hd, fun c cs _ => by
      obtain ⟨v, w', r, s⟩ := h c cs
      exact ⟨v, w', r, stepsIn_wide.2 s⟩⟩
  · exact h
  · exact h.elim
theorem wide_of_wpOp {i : Nat} (hLO : ¬ LetsOut Q) {K : Act → World → Prop} {a : Act} {w : World} (h : wpOp P ops Q i K a w) : wpOpIn Fence.wide n P ops Q i K a w := by
  unfold wpOp at h
  unfold wpOpIn
  cases ho : ops[i]? with
  | none => rw [ho] at h; exact h
  | some o =>
    rw [ho] at h
    simp only at h ⊢
    by_cases hw : Region.wanted o (yielded ops a.tmps) = true
    · rw [if_pos hw] at h ⊢
      rcases h with h | ⟨_, h⟩
      · refine ⟨fun _ _ => trivial, ?_⟩
        rw [show Fence.wide.round = none from rfl, Oper.semAt_none]
        exact wide_of_upon _ h
      · exact absurd h hLO
    · rw [if_neg hw] at h ⊢
      exact ⟨fun _ _ => trivial, h⟩
theorem wide_of_any (hLO : ¬ LetsOut Q) : ∀ (fuel : Nat) (listed : Array Bool) (a : Act) (w : World), wpAny P md ops Q fuel listed a w → wpAnyIn Fence.wide n P md ops Q fuel listed a w
  | 0, _, _, _, h => h
  | fuel + 1, listed, a, w, h => ⟨h.1, fun i hi => wpOpIn_mono (fun a' w' h' => wide_of_any hLO fuel _ a' w' h') (wide_of_wpOp hLO (h.2 i hi))⟩
theorem wide_held {id : Nat} {a : Act} {w : World} {K : Act → World → Prop} {Q' : Exit → Act → World → Prop} (S : World → Prop) (hm : P.follows .mixedOrders = true)
    (h : wpAnyH P .any ops (Exit.then K fun _ _ _ => False) S ops.size (Array.replicate ops.size false) a w.drew) : (Code.region id ops true).wpIn Fence.wide n P (Exit.then K Q') a w :=
  wpIn_mono (wpIn_region_any hm (wide_of_any (fun ⟨_, _, h⟩ => h) _ _ _ _ (wpAny_of_held _ _ _ _ h))) fun e a' w' h' => by cases e <;> first | exact h' | exact h'.elim
end

/-! an arena, when blocks are turned that are none of its own -/
theorem grown_set (W : World) (b o : Nat) (v : Value) : W.grownBy (W.setCell ⟨b, o, none⟩ v) (some b) :=
  ⟨rfl, rfl, rfl, by simp [World.setCell], fun k _ hk => Below.heap_setCell _ ⟨b, o, none⟩ _ _ (fun e => hk (by rw [e]))⟩
theorem grown_below {W W' : World} (h : Below W.heap.size W W') : W.grownBy W' none := ⟨h.os, h.tape, h.output, h.size, fun k hk _ => h.block k hk⟩
theorem arx_turn {A P n cap l : Nat} {s : ASt} {ps : List (Option Nat)} {p : Option Addr} {x : World} {o : Obj} (h : ArX A s P ps p n cap x) (hl : x.heap[l]? = some o) (ho : o.isCells = false) (o' : Obj) : ArX A s P ps p n cap (x.putObj l o') := by
  have ne : ∀ {k : Nat} {c : Array Value} {T : TypeId} {fr : Nat × Nat}, x.heap[k]? = some (.cells c T fr) → (x.putObj l o').heap[k]? = some (.cells c T fr) := fun {k c T fr} hk =>
    (World.putObj_heap_other (fun e => by subst e; rw [hl] at hk; cases hk; cases ho)).trans hk
  exact { h with
    hd := ne h.hd
    row := ne h.row
    pg := fun i b hb => ne (h.pg i b hb)
    edges := by
      rcases h.edges with h1 | ⟨b, off, h1, h2, h3⟩
      · exact .inl h1
      · refine .inr ⟨b, off, h1, by simpa [World.putObj] using h2, fun k hk => ?_⟩
        have h4 := h3 k hk
        obtain ⟨o2, ho2, hc2⟩ := cells_of_cell h4
        rw [World.cell?_of_block (w := x) (a := ⟨b, off + k, none⟩) (World.putObj_heap_other (fun e => by
          rw [show b = l from e] at ho2; rw [hl] at ho2; cases ho2; rw [ho] at hc2; cases hc2))]
        exact h4 }
theorem On.turn {A l : Nat} {s : ASt} {x : World} {o : Obj} (h : On A s x) (hl : x.heap[l]? = some o) (ho : o.isCells = false) (o' : Obj) : On A s (x.putObj l o') := by
  obtain ⟨P, ps, p, n, cap, h⟩ := h; exact ⟨P, ps, p, n, cap, arx_turn h hl ho o'⟩
theorem Mine.turn {A l k : Nat} {s : ASt} {x : World} {o : Obj} (h : On A s x) (hl : x.heap[l]? = some o) (ho : o.isCells = false) (o' : Obj) (hm : Mine A k x) : Mine A k (x.putObj l o') := by
  obtain ⟨P, ps, p, n, cap, h⟩ := h
  have h2 := arx_turn h hl ho o'
  exact ⟨by have := hm.lt; simpa [World.putObj] using this, fun e => hm.own ((ownW_iff h k).2 ((ownW_iff h2 k).1 e)), fun e => hm.edg ((edgW_iff h k).2 ((edgW_iff h2 k).1 e))⟩
theorem Mine.belowW {A k : Nat} {s : ASt} {x y : World} (h : On A s x) (hb : Below x.heap.size x y) (hm : Mine A k x) : Mine A k y := hm.went (Went.of_below h hb)

/-- what a loop's body keeps: two blocks, the arena and what is none of its own, all views' variables -/
def KL (A : Nat) (s : ASt) (x y : Nat) (W W' : World) : Prop :=
  K2 x y W W' ∧ (On A s W → On A s W' ∧ ∀ k, Mine A k W → Mine A k W') ∧ ∀ (k : Nat) (c : Array Value), W.heap[k]? = some (Obj.cells c 40 (0, 0)) → W'.heap[k]? = some (Obj.cells c 40 (0, 0))
theorem KL.trans {A : Nat} {s : ASt} {x y : Nat} {B C D : World} (h : KL A s x y B C) (k : KL A s x y C D) : KL A s x y B D :=
  ⟨h.1.trans k.1, fun o => ⟨(k.2.1 (h.2.1 o).1).1, fun i hi => (k.2.1 (h.2.1 o).1).2 i ((h.2.1 o).2 i hi)⟩, fun i c e => k.2.2 i c (h.2.2 i c e)⟩
theorem KL.refl {A : Nat} {s : ASt} {x y : Nat} (W : World) : KL A s x y W W := ⟨K2.refl _, fun o => ⟨o, fun _ h => h⟩, fun _ _ e => e⟩
theorem KL.put {A : Nat} {s : ASt} {x y : Nat} {w : World} (hx : x < w.heap.size) (hy : y < w.heap.size) (W : World) (l : Nat) (o o' : Obj) (hl : w.heap.size ≤ l) (h : W.heap[l]? = some o) (hc : o.isCells = false) (hw : o.isWalk = false) : KL A s x y W (W.putObj l o') :=
  ⟨K2.put hx hy W l o o' hl h hc hw, fun ho => ⟨ho.turn h hc o', fun k hk => Mine.turn ho h hc o' hk⟩, fun k c e => (World.putObj_heap_other (fun e2 => by subst e2; rw [h] at e; cases e; cases hc)).trans e⟩
theorem KL.below {A : Nat} {s : ASt} {x y : Nat} {W W' : World} (hx : x < W.heap.size) (hy : y < W.heap.size) (hb : Below W.heap.size W W') : KL A s x y W W' :=
  ⟨⟨hb.block _ hx, hb.block _ hy⟩, fun o => ⟨o.below hb, fun k hk => hk.belowW o hb⟩, fun k c e => (hb.block k (Array.getElem?_eq_some_iff.1 e).1).trans e⟩
/-- a variable of one's own, of another type, is written -/
theorem KL.set {A : Nat} {s : ASt} {x y R : Nat} {W : World} {c0 : Array Value} {T : TypeId} (hR : W.heap[R]? = some (.cells c0 T (0, 0))) (hT : T ≠ 40) (hx : R ≠ x) (hy : R ≠ y) (hm : On A s W → Mine A R W) (o : Nat) (v : Value) : KL A s x y W (W.setCell ⟨R, o, none⟩ v) :=
  ⟨⟨set_other v (Ne.symm hx), set_other v (Ne.symm hy)⟩, fun ho => ⟨ho.set (hm ho) o v, fun k hk => Mine.set ho (hm ho) hk o v⟩, fun k c e => (set_other v (fun e2 => by subst e2; rw [hR] at e; cases e; exact hT rfl)).trans e⟩

abbrev Lk := Nat × Nat × Nat
def encLk (A : Nat) (x : Lk) : Array Value := #[vwV A x.1 x.2.1, .int .i64 (x.2.2 : Int)]
theorem prs_ne (a z : Nat) (l : List Nat) : 0 < (prs a z l).length := by cases l <;> simp [prs]

/-- between two rounds -/
def LkRel (A : Nat) (s : ASt) (V x y : Nat) (W0 : World) (all : List Lk) (J : List Lk → World → Prop) (e t : Value) (wr : World) : Prop :=
  ∃ (pre : List Lk) (a z b : Nat) (rest : List Nat), e = .int .i64 0 ∧ t = .int .i64 (b : Int) ∧ pre ++ prs a z rest = all ∧ Ch s.L s.es s.mm a b rest ∧ (8 ≤ z ∧ z ≤ 16 ∧ a ≤ 4294967296 ∧ b ≤ 4294967296) ∧
    J pre wr ∧ On A s wr ∧ Mine A V wr ∧ wr.heap[V]? = some (.cells #[.pointer (some ⟨A, 0, none⟩), .int .i64 (a : Int), .int .i64 (z : Int)] 40 (0, 0)) ∧ K2 x y W0 wr
end Go.Proofs.YtfemgekhpcgliaaGreat.Bt
/- The contract of the function value that a list's links answer. (Written by gen_ls.py.) -/
namespace Go.Proofs.YtfemgekhpcgliaaGreat.Bt
open Go Go.RowKit Go.Shelf
set_option linter.unusedVariables false
attribute [local go_sem] Oper.semAt_some

/-- what the iterator's two boxes hold -/
def LkBox (x y A va vs : Nat) (k : Int) (W : World) : Prop :=
  W.heap[x]? = some (.cells #[.int .i64 k] 3 (0, 0)) ∧ W.heap[y]? = some (.cells #[.pointer (some ⟨A, 0, none⟩), .int .i64 (va : Int), .int .i64 (vs : Int)] 42 (0, 0))
theorem LkBox.k2 {x y A va vs : Nat} {k : Int} {W W' : World} (h : LkBox x y A va vs k W) (hk : K2 x y W W') : LkBox x y A va vs k W' := ⟨hk.1.trans h.1, hk.2.trans h.2⟩
theorem LkBox.below {x y A va vs : Nat} {k : Int} {W W' : World} (h : LkBox x y A va vs k W) (hb : Below W.heap.size W W') : LkBox x y A va vs k W' :=
  ⟨(hb.block _ (Array.getElem?_eq_some_iff.1 h.1).1).trans h.1, (hb.block _ (Array.getElem?_eq_some_iff.1 h.2).1).trans h.2⟩
theorem LkBox.all {x y A va vs : Nat} {k : Int} {W : World} (h : LkBox x y A va vs k W) : W.cell? ⟨x, 0, none⟩ = some (.int .i64 k) ∧ W.cell? ⟨y, 0, none⟩ = some (.pointer (some ⟨A, 0, none⟩)) ∧ W.cell? ⟨y, 1, none⟩ = some (.int .i64 (va : Int)) ∧ W.cell? ⟨y, 2, none⟩ = some (.int .i64 (vs : Int)) :=
  ⟨(cell_blk h.1 0).1, (cell_blk h.2 0).1, (cell_blk h.2 1).1, (cell_blk h.2 2).1⟩

set_option maxRecDepth 100000 in
set_option maxHeartbeats 2000000 in
theorem links1_out (n l x y A va vs : Nat) (h2 : vs ≤ 4294967296) (k : Int) (hk : k < 0 ∨ ((vs / 8 : Nat) : Int) ≤ k) (J : List Lk → World → Prop) (W : World) (hbx : LkBox x y A va vs k W)
    (hJ : ∀ X Y, J [] X → X.grownBy Y none → J [] Y) (h0 : J [] W) :
    CallsIn Fence.wide n Tryz.prog 137 #[.func (.yield l) #[] #[], .pointer (some ⟨x, 0, none⟩), .pointer (some ⟨y, 0, none⟩)] W fun e W' => (∃ v, e = .returned v) ∧ J [] W' := by
  have HB := Lib.hid hbx
  have HJ := Lib.hid hJ
  have H0 := Lib.hid h0
  clear hbx hJ h0
  refine callsIn_of_wp Tryz.func137 rfl trivial ?_ rfl
  simp only [Tryz.ntmps137, List.size_toArray, List.length_cons, List.length_nil, Nat.reduceAdd, Nat.reduceSub, Array.replicate_succ, Array.replicate_zero, List.push_toArray, List.append_toArray, List.nil_append, List.cons_append]
  gi_wp2_with fail
  by_cases hk0 : k < 0
  · clear hk
    have hS0 : LkBox x y A va vs k W.drew := HB.out.below (Below.refl _ _).drew
    have HF := Lib.hid (HJ.out _ W.drew H0.out (grown_below (Below.refl _ _).drew))
    refine wide_held (LkBox x y A va vs k) (by kernel_rfl) ?_
    refine wpAnyH_take (i := 0) (v := (.int .i64 k)) rfl (by kernel_rfl) (by kernel_rfl) (by kernel_rfl) (fun _ _ _ h => h) (Or.inl ⟨by rfl, fun X hS => ?_⟩) hS0 ?_
    · obtain ⟨s1, s2, s3, s4⟩ := hS.all
      go_simp
    simp only [Act.put, List.getElem_toArray, List.getElem_cons_zero, List.getElem_cons_succ, List.setIfInBounds_toArray, List.set_cons_zero, List.set_cons_succ]
    refine wpAnyH_take (i := 1) (v := (.bool true)) rfl (by kernel_rfl) (by kernel_rfl) (by kernel_rfl) (fun _ _ _ h => h) (Or.inl ⟨by rfl, fun X hS => ?_⟩) hS0 ?_
    · obtain ⟨s1, s2, s3, s4⟩ := hS.all
      go_simp
    simp only [Act.put, List.getElem_toArray, List.getElem_cons_zero, List.getElem_cons_succ, List.setIfInBounds_toArray, List.set_cons_zero, List.set_cons_succ]
    refine wpAnyH_take (i := 2) (v := (.bool true)) rfl (by kernel_rfl) (by kernel_rfl) (by kernel_rfl) (fun _ _ _ h => h) (Or.inl ⟨by rfl, fun X hS => ?_⟩) hS0 ?_
    · obtain ⟨s1, s2, s3, s4⟩ := hS.all
      go_simp
    simp only [Act.put, List.getElem_toArray, List.getElem_cons_zero, List.getElem_cons_succ, List.setIfInBounds_toArray, List.set_cons_zero, List.set_cons_succ]
    refine wpAnyH_take (i := 3) (v := undef) rfl (by kernel_rfl) (by kernel_rfl) (by kernel_rfl) (fun _ _ _ h => h) (Or.inr ⟨by rfl, rfl⟩) hS0 ?_
    simp only [Act.put, List.getElem_toArray, List.getElem_cons_zero, List.getElem_cons_succ, List.setIfInBounds_toArray, List.set_cons_zero, List.set_cons_succ]
    refine wpAnyH_take (i := 4) (v := undef) rfl (by kernel_rfl) (by kernel_rfl) (by kernel_rfl) (fun _ _ _ h => h) (Or.inr ⟨by rfl, rfl⟩) hS0 ?_
    simp only [Act.put, List.getElem_toArray, List.getElem_cons_zero, List.getElem_cons_succ, List.setIfInBounds_toArray, List.set_cons_zero, List.set_cons_succ]
    refine wpAnyH_take (i := 5) (v := undef) rfl (by kernel_rfl) (by kernel_rfl) (by kernel_rfl) (fun _ _ _ h => h) (Or.inr ⟨by rfl, rfl⟩) hS0 ?_
    simp only [Act.put, List.getElem_toArray, List.getElem_cons_zero, List.getElem_cons_succ, List.setIfInBounds_toArray, List.set_cons_zero, List.set_cons_succ]
    refine wpAnyH_take (i := 6) (v := undef) rfl (by kernel_rfl) (by kernel_rfl) (by kernel_rfl) (fun _ _ _ h => h) (Or.inr ⟨by rfl, rfl⟩) hS0 ?_
    simp only [Act.put, List.getElem_toArray, List.getElem_cons_zero, List.getElem_cons_succ, List.setIfInBounds_toArray, List.set_cons_zero, List.set_cons_succ]
    refine wpAnyH_take (i := 7) (v := (.bool true)) rfl (by kernel_rfl) (by kernel_rfl) (by kernel_rfl) (fun _ _ _ h => h) (Or.inl ⟨by rfl, fun X hS => ?_⟩) hS0 ?_
    · obtain ⟨s1, s2, s3, s4⟩ := hS.all
      go_simp
    simp only [Act.put, List.getElem_toArray, List.getElem_cons_zero, List.getElem_cons_succ, List.setIfInBounds_toArray, List.set_cons_zero, List.set_cons_succ]
    refine wpAnyH_done (by kernel_rfl) ?_ _
    clear hS0
    gi_wp2_with fail
    exact bodyPost_ret (results_none rfl _ _ _) rfl ⟨⟨_, rfl⟩, HF.out⟩
  · have hkl : (vs : Int) / 8 ≤ k := by omega
    clear hk
    have hS0 : LkBox x y A va vs k W.drew := HB.out.below (Below.refl _ _).drew
    refine wide_held (LkBox x y A va vs k) (by kernel_rfl) ?_
    refine wpAnyH_take (i := 0) (v := (.int .i64 k)) rfl (by kernel_rfl) (by kernel_rfl) (by kernel_rfl) (fun _ _ _ h => h) (Or.inl ⟨by rfl, fun X hS => ?_⟩) hS0 ?_
    · obtain ⟨s1, s2, s3, s4⟩ := hS.all
      go_simp
    simp only [Act.put, List.getElem_toArray, List.getElem_cons_zero, List.getElem_cons_succ, List.setIfInBounds_toArray, List.set_cons_zero, List.set_cons_succ]
    refine wpAnyH_take (i := 1) (v := (.bool false)) rfl (by kernel_rfl) (by kernel_rfl) (by kernel_rfl) (fun _ _ _ h => h) (Or.inl ⟨by rfl, fun X hS => ?_⟩) hS0 ?_
    · obtain ⟨s1, s2, s3, s4⟩ := hS.all
      go_simp
    simp only [Act.put, List.getElem_toArray, List.getElem_cons_zero, List.getElem_cons_succ, List.setIfInBounds_toArray, List.set_cons_zero, List.set_cons_succ]
    refine wpAnyH_take (i := 2) (v := (.bool false)) rfl (by kernel_rfl) (by kernel_rfl) (by kernel_rfl) (fun _ _ _ h => h) (Or.inl ⟨by rfl, fun X hS => ?_⟩) hS0 ?_
    · obtain ⟨s1, s2, s3, s4⟩ := hS.all
      go_simp
    simp only [Act.put, List.getElem_toArray, List.getElem_cons_zero, List.getElem_cons_succ, List.setIfInBounds_toArray, List.set_cons_zero, List.set_cons_succ]
    refine wpAnyH_take (i := 3) (v := (.int .i64 k)) rfl (by kernel_rfl) (by kernel_rfl) (by kernel_rfl) (fun _ _ _ h => h) (Or.inl ⟨by rfl, fun X hS => ?_⟩) hS0 ?_
    · obtain ⟨s1, s2, s3, s4⟩ := hS.all
      go_simp
    simp only [Act.put, List.getElem_toArray, List.getElem_cons_zero, List.getElem_cons_succ, List.setIfInBounds_toArray, List.set_cons_zero, List.set_cons_succ]
    refine wpAnyH_take (i := 4) (v := (.agg #[.pointer (some ⟨A, 0, none⟩), .int .i64 (va : Int), .int .i64 (vs : Int)])) rfl (by kernel_rfl) (by kernel_rfl) (by kernel_rfl) (fun _ _ _ h => h) (Or.inl ⟨by rfl, fun X hS => ?_⟩) hS0 ?_
    · obtain ⟨s1, s2, s3, s4⟩ := hS.all
      go_simp
    simp only [Act.put, List.getElem_toArray, List.getElem_cons_zero, List.getElem_cons_succ, List.setIfInBounds_toArray, List.set_cons_zero, List.set_cons_succ]
    refine wpAnyH_ready (rs := [5]) (by kernel_rfl) (by simp) (AllReadyH.cons rfl (fun K1 hK1 => ?_) AllReadyH.nil)
    go_simp
    refine (llen_any _ va vs h2 _).mono ?_
    rintro e W2 ⟨rfl, hb⟩
    have hS1 := hS0.below hb
    refine hK1.out _ _ hS1 (fun _ => ?_)
    clear hK1 hS0
    try simp only [Act.put, List.getElem_toArray, List.getElem_cons_zero, List.getElem_cons_succ, List.setIfInBounds_toArray, List.set_cons_zero, List.set_cons_succ]
    refine wpAnyH_take (i := 6) (v := (.bool true)) rfl (by kernel_rfl) (by kernel_rfl) (by kernel_rfl) (fun _ _ _ h => h) (Or.inl ⟨by rfl, fun X hS => ?_⟩) hS1 ?_
    · obtain ⟨s1, s2, s3, s4⟩ := hS.all
      go_simp
    simp only [Act.put, List.getElem_toArray, List.getElem_cons_zero, List.getElem_cons_succ, List.setIfInBounds_toArray, List.set_cons_zero, List.set_cons_succ]
    refine wpAnyH_take (i := 7) (v := (.bool true)) rfl (by kernel_rfl) (by kernel_rfl) (by kernel_rfl) (fun _ _ _ h => h) (Or.inl ⟨by rfl, fun X hS => ?_⟩) hS1 ?_
    · obtain ⟨s1, s2, s3, s4⟩ := hS.all
      go_simp
    simp only [Act.put, List.getElem_toArray, List.getElem_cons_zero, List.getElem_cons_succ, List.setIfInBounds_toArray, List.set_cons_zero, List.set_cons_succ]
    refine wpAnyH_done (by kernel_rfl) ?_ _
    have HF := Lib.hid (HJ.out _ W2 (HJ.out _ W.drew H0.out (grown_below (Below.refl _ _).drew)) (grown_below hb))
    clear hS1 hb
    gi_wp2_with fail
    exact bodyPost_ret (results_none rfl _ _ _) rfl ⟨⟨_, rfl⟩, HF.out⟩

theorem walk_set3 {J : List Lk → World → Prop} {B : Nat} (hJ : WalkT 40 B J) {pre : List Lk} {X : World} {V : Nat} {c : Array Value} (hj : J pre X) (hB : B ≤ V) (hV : X.heap[V]? = some (.cells c 40 (0, 0))) (u v z : Value) :
    J pre (((X.setCell ⟨V, 0, none⟩ u).setCell ⟨V, 1, none⟩ v).setCell ⟨V, 2, none⟩ z) := by
  have h1 := hJ pre _ _ (some V) hj (grown_set X V 0 u) (fun r e => by cases e; exact ⟨hB, _, hV, .inr ⟨_, _, rfl⟩⟩)
  have h2 := hJ pre _ _ (some V) h1 (grown_set _ V 1 v) (fun r e => by cases e; exact ⟨hB, _, heap_set hV u, .inr ⟨_, _, rfl⟩⟩)
  exact hJ pre _ _ (some V) h2 (grown_set _ V 2 z) (fun r e => by cases e; exact ⟨hB, _, heap_set (heap_set hV u) v, .inr ⟨_, _, rfl⟩⟩)
theorem mine_set3 {A R : Nat} {s : ASt} {x : World} (h : On A s x) (hm : Mine A R x) (u v z : Value) :
    On A s (((x.setCell ⟨R, 0, none⟩ u).setCell ⟨R, 1, none⟩ v).setCell ⟨R, 2, none⟩ z) ∧ ∀ k, Mine A k x → Mine A k (((x.setCell ⟨R, 0, none⟩ u).setCell ⟨R, 1, none⟩ v).setCell ⟨R, 2, none⟩ z) := by
  have h1 := h.set hm 0 u
  have m1 := Mine.set h hm hm 0 u
  have h2 := h1.set m1 1 v
  have m2 := Mine.set h1 m1 m1 1 v
  exact ⟨h2.set m2 2 z, fun k hk => Mine.set h2 m2 (Mine.set h1 m1 (Mine.set h hm hk 0 u) 1 v) 2 z⟩
theorem far3 {x : World} {B R : Nat} (hne : B ≠ R) (u v z : Value) : (((x.setCell ⟨R, 0, none⟩ u).setCell ⟨R, 1, none⟩ v).setCell ⟨R, 2, none⟩ z).heap[B]? = x.heap[B]? :=
  (set_other z hne).trans ((set_other v hne).trans (set_other u hne))

set_option maxRecDepth 100000 in
set_option maxHeartbeats 4000000 in
theorem links1_in (n l x y A va vs k a0 : Nat) (ha0 : va + 8 * k = a0) (s : ASt) (h1 : va ≤ 4294967296) (h2 : vs ≤ 4294967296) (hk : k < vs / 8) (ms : List Nat) (J Jx : List Lk → World → Prop) (W : World) (hA : On A s W) (hC : Ch s.L s.es s.mm a0 0 ms)
    (hx : Mine A x W) (hy : Mine A y W)
    (hbx : LkBox x y A va vs k W) (hJ : WalkT 40 W.heap.size J)
    (hY : ∀ pre x' W1, J pre W1 → pre.length < (prs a0 8 ms).length → YieldAt Fence.wide (n - 1) Tryz.prog l (encLk A x') W1 fun e W' =>
      (e = .returned (.bool true) ∧ J (pre ++ [x']) W' ∧ KL A s x y W1 W') ∨ (e = .returned (.bool false) ∧ Jx (pre ++ [x']) W')) (h0 : J [] W) :
    CallsIn Fence.wide n Tryz.prog 137 #[.func (.yield l) #[] #[], .pointer (some ⟨x, 0, none⟩), .pointer (some ⟨y, 0, none⟩)] W fun e W' => (∃ v, e = .returned v) ∧
      ((∃ ys, ys = prs a0 8 ms ∧ J ys W') ∨ (∃ pre, pre <+: prs a0 8 ms ∧ Jx pre W')) := by
  have g := hA.good
  have HG := Lib.hid g
  have hth := hC.there
  have hlt : a0 + 8 ≤ 4294967296 := by have := there_lt g hth; omega
  have HT := Lib.hid hth
  have HB := Lib.hid hbx
  have HJ := Lib.hid hJ
  have H0 := Lib.hid h0
  have HA := Lib.hid hA
  have HC := Lib.hid hC
  have HY := Lib.hid hY
  have HMX := Lib.hid hx
  have HMY := Lib.hid hy
  have JB : Hid (∀ pre X Y, J pre X → Below X.heap.size X Y → J pre Y) := Lib.hid fun pre X Y hj hb => hJ pre X Y none hj (grown_below hb) (fun r e => by cases e)
  have HAD : Hid (addrV va vs ((k : Int) * 8) 8 = (a0 : Int)) := Lib.hid (by unfold addrV; rw [if_pos (by omega)]; omega)
  have HV : Hid (∀ pu a k, ofV pu a k 0 = .agg #[.pointer pu, .int .i64 a, .int .i64 k]) := Lib.hid fun pu a k => by unfold ofV; rw [if_pos rfl]
  clear g hth hbx hJ h0 hA hC hY hx hy ha0
  refine callsIn_of_wp Tryz.func137 rfl trivial ?_ rfl
  simp only [Tryz.ntmps137, List.size_toArray, List.length_cons, List.length_nil, Nat.reduceAdd, Nat.reduceSub, Array.replicate_succ, Array.replicate_zero, List.push_toArray, List.append_toArray, List.nil_append, List.cons_append]
  gi_wp2_with fail
  have hk0 : ¬ (k : Int) < 0 := by omega
  have hkl : (k : Int) < (vs : Int) / 8 := by omega
  have hS0 : LkBox x y A va vs k W.drew := HB.out.below (Below.refl _ _).drew
  refine wide_held (LkBox x y A va vs k) (by kernel_rfl) ?_
  refine wpAnyH_take (i := 0) (v := (.int .i64 k)) rfl (by kernel_rfl) (by kernel_rfl) (by kernel_rfl) (fun _ _ _ h => h) (Or.inl ⟨by rfl, fun X hS => ?_⟩) hS0 ?_
  · obtain ⟨s1, s2, s3, s4⟩ := hS.all
    go_simp
  simp only [Act.put, List.getElem_toArray, List.getElem_cons_zero, List.getElem_cons_succ, List.setIfInBounds_toArray, List.set_cons_zero, List.set_cons_succ]
  refine wpAnyH_take (i := 1) (v := (.bool false)) rfl (by kernel_rfl) (by kernel_rfl) (by kernel_rfl) (fun _ _ _ h => h) (Or.inl ⟨by rfl, fun X hS => ?_⟩) hS0 ?_
  · obtain ⟨s1, s2, s3, s4⟩ := hS.all
    go_simp
  simp only [Act.put, List.getElem_toArray, List.getElem_cons_zero, List.getElem_cons_succ, List.setIfInBounds_toArray, List.set_cons_zero, List.set_cons_succ]
  refine wpAnyH_take (i := 2) (v := (.bool false)) rfl (by kernel_rfl) (by kernel_rfl) (by kernel_rfl) (fun _ _ _ h => h) (Or.inl ⟨by rfl, fun X hS => ?_⟩) hS0 ?_
  · obtain ⟨s1, s2, s3, s4⟩ := hS.all
    go_simp
  simp only [Act.put, List.getElem_toArray, List.getElem_cons_zero, List.getElem_cons_succ, List.setIfInBounds_toArray, List.set_cons_zero, List.set_cons_succ]
  refine wpAnyH_take (i := 3) (v := (.int .i64 k)) rfl (by kernel_rfl) (by kernel_rfl) (by kernel_rfl) (fun _ _ _ h => h) (Or.inl ⟨by rfl, fun X hS => ?_⟩) hS0 ?_
  · obtain ⟨s1, s2, s3, s4⟩ := hS.all
    go_simp
  simp only [Act.put, List.getElem_toArray, List.getElem_cons_zero, List.getElem_cons_succ, List.setIfInBounds_toArray, List.set_cons_zero, List.set_cons_succ]
  refine wpAnyH_take (i := 4) (v := (.agg #[.pointer (some ⟨A, 0, none⟩), .int .i64 (va : Int), .int .i64 (vs : Int)])) rfl (by kernel_rfl) (by kernel_rfl) (by kernel_rfl) (fun _ _ _ h => h) (Or.inl ⟨by rfl, fun X hS => ?_⟩) hS0 ?_
  · obtain ⟨s1, s2, s3, s4⟩ := hS.all
    go_simp
  simp only [Act.put, List.getElem_toArray, List.getElem_cons_zero, List.getElem_cons_succ, List.setIfInBounds_toArray, List.set_cons_zero, List.set_cons_succ]
  refine wpAnyH_ready (rs := [5]) (by kernel_rfl) (by simp) (AllReadyH.cons rfl (fun K1 hK1 => ?_) AllReadyH.nil)
  go_simp
  refine (llen_any _ va vs h2 _).mono ?_
  rintro e W2 ⟨rfl, hb⟩
  have hS1 := hS0.below hb
  refine hK1.out _ _ hS1 (fun _ => ?_)
  clear hK1 hS0
  try simp only [Act.put, List.getElem_toArray, List.getElem_cons_zero, List.getElem_cons_succ, List.setIfInBounds_toArray, List.set_cons_zero, List.set_cons_succ]
  refine wpAnyH_take (i := 6) (v := (.bool false)) rfl (by kernel_rfl) (by kernel_rfl) (by kernel_rfl) (fun _ _ _ h => h) (Or.inl ⟨by rfl, fun X hS => ?_⟩) hS1 ?_
  · obtain ⟨s1, s2, s3, s4⟩ := hS.all
    go_simp
  simp only [Act.put, List.getElem_toArray, List.getElem_cons_zero, List.getElem_cons_succ, List.setIfInBounds_toArray, List.set_cons_zero, List.set_cons_succ]
  refine wpAnyH_take (i := 7) (v := (.bool false)) rfl (by kernel_rfl) (by kernel_rfl) (by kernel_rfl) (fun _ _ _ h => h) (Or.inl ⟨by rfl, fun X hS => ?_⟩) hS1 ?_
  · obtain ⟨s1, s2, s3, s4⟩ := hS.all
    go_simp
  simp only [Act.put, List.getElem_toArray, List.getElem_cons_zero, List.getElem_cons_succ, List.setIfInBounds_toArray, List.set_cons_zero, List.set_cons_succ]
  refine wpAnyH_done (by kernel_rfl) ?_ _
  have HA2 := Lib.hid ((HA.out.below (Below.refl _ _).drew).below hb)
  have HJ2 := Lib.hid (JB.out _ W.drew _ (JB.out _ W _ H0.out (Below.refl _ _).drew) hb)
  have HMX2 := Lib.hid ((HMX.out.belowW HA.out (Below.refl _ _).drew).belowW (HA.out.below (Below.refl _ _).drew) hb)
  have HMY2 := Lib.hid ((HMY.out.belowW HA.out (Below.refl _ _).drew).belowW (HA.out.below (Below.refl _ _).drew) hb)
  have hsz : W.heap.size ≤ W2.heap.size := hb.size
  have HB2 := Lib.hid hS1
  obtain ⟨c0, c1, c2, c3⟩ := hS1.all
  clear hS1 hb hk0 hkl
  gi_wp2_with fail
  refine ⟨trivial, fun hd => by simp [Fence.wide] at hd, (callsIn_wide.2 (on_part HA2.out va vs h1 h2 ((k : Int) * 8) 8 (by omega))).mono ?_⟩
  rintro e W3 ⟨rfl, hb⟩
  rw [HAD.out, HT.out, HV.out]
  have HA3 := Lib.hid (HA2.out.below hb)
  have HJ3 := Lib.hid (JB.out _ _ _ HJ2.out hb)
  have HMX3 := Lib.hid (HMX2.out.belowW HA2.out hb)
  have HMY3 := Lib.hid (HMY2.out.belowW HA2.out hb)
  have HB3 := Lib.hid (HB2.out.below hb)
  have hsz3 : W.heap.size ≤ W3.heap.size := Nat.le_trans hsz hb.size
  clear c0 c1 c2 c3 hb
  gi_wp2_with fail
  obtain ⟨V, hVV⟩ : ∃ V, W3.heap.size = V := ⟨_, rfl⟩
  have hn0 := heap_new W3 (.cells #[.pointer (some ⟨A, 0, none⟩), .int .i64 (a0 : Int), .int .i64 8] 40)
  have hmV := Mine.new HA3.out (.cells #[.pointer (some ⟨A, 0, none⟩), .int .i64 (a0 : Int), .int .i64 8] 40)
  have bV := bel1 W3 (.cells #[.pointer (some ⟨A, 0, none⟩), .int .i64 (a0 : Int), .int .i64 8] 40)
  have hltx : x < W3.heap.size := (Array.getElem?_eq_some_iff.1 HB3.out.1).1
  have hlty : y < W3.heap.size := (Array.getElem?_eq_some_iff.1 HB3.out.2).1
  have HST : Hid (LkRel A s V x y W3 (prs a0 8 ms) J (.int .i64 0) (.int .i64 0) (W3.alloc (.cells #[.pointer (some ⟨A, 0, none⟩), .int .i64 (a0 : Int), .int .i64 8] 40))) := Lib.hid
    ⟨[], a0, 8, 0, ms, rfl, rfl, rfl, HC.out, ⟨by omega, by omega, by omega, by omega⟩, JB.out _ _ _ HJ3.out bV, HA3.out.below bV, hVV ▸ hmV, hVV ▸ hn0, ⟨bV.block _ hltx, bV.block _ hlty⟩⟩
  have HBX : Hid (∀ X, K2 x y W3 X → LkBox x y A va vs k X) := Lib.hid fun X hX => HB3.out.k2 hX
  rw [hVV] at hsz3 hltx hlty ⊢
  clear hn0 hmV bV hVV
  gi_loopw [5, 6] (fun e t wr => LkRel A s V x y W3 (prs a0 8 ms) J e t wr) (fun _ t _ => 4294967296 - (intOf t).toNat)
  case atStart => exact HST.out
  case round =>
    obtain ⟨pre, a, z, b, rest, rfl, rfl, hall, hch, ⟨hz8, hz16, ha32, hb32⟩, hj, ho, hm, hv, hk2⟩ := hrel
    have hN := hch.there
    obtain ⟨nx, hnum, hnx, hnr⟩ : ∃ nx : Nat, numV s.mm a 8 = nx ∧ nx ≤ 4294967296 ∧ ((rest = [] ∧ nx = 0) ∨ ∃ t, rest = nx :: t ∧ b < nx) := by
      cases rest with
      | nil => exact ⟨0, hch.2, by omega, .inl ⟨rfl, rfl⟩⟩
      | cons m t => exact ⟨m, hch.2.1, by have := there_lt HG.out hch.2.2.2.1; omega, .inr ⟨t, rfl, hch.2.2.1⟩⟩
    have HR : Hid ((if (nx : Int) ≤ (b : Int) then 0 else (nx : Int)) = (nx : Int)) := Lib.hid (by
      rcases hnr with ⟨_, rfl⟩ | ⟨t, _, h⟩
      · rw [if_pos (by omega)]; rfl
      · rw [if_neg (by omega)])
    have hlen : pre.length < (prs a0 8 ms).length := by
      rw [← hall, List.length_append]; have := prs_ne a z rest; omega
    have HALL := Lib.hid hall
    have HCH := Lib.hid hch
    have HNR := Lib.hid hnr
    have c0 := (cell_blk hv 0).1
    have c1 := (cell_blk hv 1).1
    have c2 := (cell_blk hv 2).1
    have HP := Lib.hid (And.intro hj (And.intro ho (And.intro hm (And.intro hv hk2))))
    have HFO := Lib.hid (lfollow ho a z nx ha32 (by omega) hz8 hnx hN hnum b)
    have hlt2 : V < wr.heap.size := (Array.getElem?_eq_some_iff.1 hv).1
    clear hall hch hnr hj ho hm hv hk2 hN hnum
    gi_wp2_with fail
    refine ⟨trivial, fun hd => by simp [Fence.wide] at hd, (callsIn_wide.2 HFO.out).mono ?_⟩
    rintro e W4 ⟨rfl, hb⟩
    rw [HR.out]
    obtain ⟨hj, ho, hm, hv, hk2⟩ := HP.out
    have hj4 := JB.out _ _ _ hj hb
    have ho4 := ho.below hb
    have hm4 := hm.belowW ho hb
    have hv4 := (hb.block V hlt2).trans hv
    have hk4 : K2 x y wr W4 := ⟨hb.block _ (Array.getElem?_eq_some_iff.1 (HBX.out _ hk2).1).1, hb.block _ (Array.getElem?_eq_some_iff.1 (HBX.out _ hk2).2).1⟩
    have hk24 := hk2.trans hk4
    obtain ⟨fn, tmps, assign, body, hy, hR⟩ := HY.out pre (a, z, nx) W4 hj4 hlen
    simp only [encLk] at hy
    have d0 := (cell_blk hv4 0).1
    have d1 := (cell_blk hv4 1).1
    have d2 := (cell_blk hv4 2).1
    have HQ := Lib.hid (And.intro ho4 (And.intro hm4 (And.intro hv4 hk24)))
    clear hj ho hm hv hk2 hj4 ho4 hm4 hv4 hk4 hk24 c0 c1 c2 hb hlen
    gi_wp2_with fail
    refine ⟨fun hd => by simp [Fence.wide] at hd, hR.mono ?_⟩
    clear d0 d1 d2 hy
    rintro e W5 (⟨rfl, hJ5, hk5⟩ | ⟨rfl, hJx5⟩)
    · rcases HNR.out with ⟨hr0, rfl⟩ | ⟨t, hr0, hlt5⟩
      · subst hr0
        have HF := Lib.hid hJ5
        clear hJ5 hk5
        gi_wp2_with fail
        exact bodyPost_ret (results_none rfl _ _ _) rfl ⟨⟨_, rfl⟩, .inl ⟨_, HALL.out, HF.out⟩⟩
      · subst hr0
        obtain ⟨ho4, hm4, hv4, hk24⟩ := HQ.out
        obtain ⟨ho5, hmm⟩ := hk5.2.1 ho4
        have hm5 := hmm _ hm4
        have hv5 := hk5.2.2 _ _ hv4
        have hk25 := hk24.trans hk5.1
        have hT := HCH.out.2.2.2.1
        have hnz : ¬ nx = 0 := by omega
        obtain ⟨_, c1, c2, c3⟩ := (HBX.out _ hk25).all
        have HT5 := Lib.hid hT
        have HP5 := Lib.hid (And.intro hJ5 (And.intro ho5 (And.intro hm5 (And.intro hv5 hk25))))
        have HOF := Lib.hid (on_of ho5 nx 16 (by omega))
        have HLB := Lib.hid hlt5
        clear hJ5 hk5 ho4 hm4 hv4 hk24 ho5 hmm hm5 hv5 hk25 hT hlt5
        gi_wp2_with fail
        refine ⟨trivial, fun hd => by simp [Fence.wide] at hd, (callsIn_wide.2 HOF.out).mono ?_⟩
        rintro e W6 ⟨rfl, hb⟩
        rw [HT5.out, HV.out]
        obtain ⟨hJ5, ho5, hm5, hv5, hk25⟩ := HP5.out
        have hj6 := JB.out _ _ _ hJ5 hb
        have ho6 := ho5.below hb
        have hm6 := hm5.belowW ho5 hb
        have hv6 := (hb.block V (Array.getElem?_eq_some_iff.1 hv5).1).trans hv5
        have hk6 : K2 x y W3 W6 := hk25.trans ⟨hb.block _ (Array.getElem?_eq_some_iff.1 (HBX.out _ hk25).1).1, hb.block _ (Array.getElem?_eq_some_iff.1 (HBX.out _ hk25).2).1⟩
        have d0 := (cell_blk hv6 0).1
        have d1 := (cell_blk hv6 1).1
        have d2 := (cell_blk hv6 2).1
        have f0 := (cell_blk hv6 0).2
        have f1 := (cell_blk hv6 1).2
        have f2 := (cell_blk hv6 2).2
        have HP6 := Lib.hid (And.intro hj6 (And.intro ho6 (And.intro hm6 (And.intro hv6 hk6))))
        clear hJ5 ho5 hm5 hv5 hk25 hj6 ho6 hm6 hv6 hk6 hb c1 c2 c3
        gi_wp2_with fail
        have HLX := Lib.hid (show x ≠ V ∧ y ≠ V from ⟨by omega, by omega⟩)
        go_roundw
        case rel =>
          obtain ⟨hj6, ho6, hm6, hv6, hk6⟩ := HP6.out
          refine ⟨pre ++ [(a, z, nx)], nx, 16, nx, t, rfl, rfl, ?_, HCH.out.2.2.2.2, ⟨by omega, by omega, hnx, hnx⟩, walk_set3 HJ.out hj6 hsz3 hv6 _ _ _, (mine_set3 ho6 hm6 _ _ _).1, (mine_set3 ho6 hm6 _ _ _).2 _ hm6, three_set hv6 rfl _ _ _, ?_⟩
          · rw [← HALL.out, List.append_assoc]; rfl
          · exact hk6.trans ⟨far3 HLX.out.1 _ _ _, far3 HLX.out.2 _ _ _⟩
        case measure => have := HLB.out; simp [intOf]; omega
    · have HF := Lib.hid hJx5
      clear hJx5
      gi_wp2_with fail
      refine bodyPost_ret (results_none rfl _ _ _) rfl ⟨⟨_, rfl⟩, .inr ⟨pre ++ [(a, z, nx)], ?_, HF.out⟩⟩
      rw [← HALL.out]
      rcases HNR.out with ⟨rfl, rfl⟩ | ⟨t, rfl, _⟩
      · exact List.prefix_rfl
      · exact ⟨prs nx 16 t, by rw [List.append_assoc]; rfl⟩
end Go.Proofs.YtfemgekhpcgliaaGreat.Bt
/- The contract of a list's links, as an iterator; of find. -/
namespace Go.Proofs.YtfemgekhpcgliaaGreat.Bt
open Go Go.RowKit Go.Shelf
set_option linter.unusedVariables false
attribute [local go_sem] Oper.semAt_some

/-- the links of list k -/
def LkL (s : ASt) (va vs : Nat) (k : Int) (lp : List Lk) : Prop :=
  ((k < 0 ∨ ((vs / 8 : Nat) : Int) ≤ k) ∧ lp = []) ∨ ∃ (kn : Nat) (ms : List Nat), k = (kn : Int) ∧ kn < vs / 8 ∧ Ch s.L s.es s.mm (va + 8 * kn) 0 ms ∧ lp = prs (va + 8 * kn) 8 ms
theorem links_stops (n x y A va vs : Nat) (s : ASt) (h1 : va ≤ 4294967296) (h2 : vs ≤ 4294967296) (k : Int) (lp : List Lk) (hl : LkL s va vs k lp) (w : World) (hA : On A s w) (hx : Mine A x w) (hy : Mine A y w) (hb : LkBox x y A va vs k w) :
    SeqT 40 Fence.wide n Tryz.prog 137 #[.pointer (some ⟨x, 0, none⟩), .pointer (some ⟨y, 0, none⟩)] (encLk A) (KL A s x y) (fun ys => ys = lp) (fun pre => pre <+: lp) lp.length w := fun l J Jx W hW hJ hJx hY h0 => by
  rcases hl with ⟨hk, rfl⟩ | ⟨kn, ms, rfl, hkn, hC, rfl⟩
  · exact (links1_out n l x y A va vs h2 k hk J W (hb.below hW) (fun X Y hX hg => hJ [] X Y none hX hg (fun r e => by cases e)) h0).mono fun e W' ⟨he, hj⟩ => ⟨he, .inl ⟨[], rfl, hj⟩⟩
  · exact links1_in n l x y A va vs kn _ rfl s h1 h2 hkn ms J Jx W (hA.below hW) hC (hx.belowW hA hW) (hy.belowW hA hW) (hb.below hW) hJ hY h0
theorem links_fn (pa : Option Addr) (va vs : Nat) (k : Int) (w : World) :
    Calls Tryz.prog 132 #[lsP pa va vs, .int .i64 k] w fun e w' => e = .returned (.func (.func 137) #[] #[.pointer (some ⟨w.heap.size + 1, 0, none⟩), .pointer (some ⟨w.heap.size, 0, none⟩)]) ∧ w' = (w.alloc (.cells #[.pointer pa, .int .i64 (va : Int), .int .i64 (vs : Int)] 42)).alloc (.cells #[.int .i64 k] 3) := by
  have hmf : ∀ (fn : Fn) (first cap : Array Value) (w : World), (Instr.makeFunc fn first cap).run Tryz.prog w = .ok (.func fn first cap) w := fun _ _ _ _ => rfl
  go_enter Tryz.func132, Tryz.ntmps132
  go_wp2
  go_ret
  exact ⟨rfl, rfl⟩

/-- what find finds -/
def isF (f : Int) (x : Lk) : Bool := decide (x.2.2 = 0) || decide (f ≤ (x.2.2 : Int))
def fndV (A : Nat) (lp : List Lk) (f : Int) : Value := match lp.find? (isF f) with
  | some x => .tuple #[vwV A x.1 x.2.1, .int .i64 (x.2.2 : Int), .int .i64 0]
  | none => .tuple #[.agg #[.pointer none, .int .i64 0, .int .i64 0], .int .i64 0, .int .i64 3]
theorem find_prs (h z : Nat) (ms : List Nat) (f : Int) (hp : ∀ m ∈ ms, 0 < m) : (prs h z ms).find? (isF f) = some (fnd h z ms f) := by
  induction ms generalizing h z with
  | nil => simp [prs, fnd, isF]
  | cons m t ih =>
    have hm := hp m (by simp)
    unfold prs fnd
    by_cases hf : f ≤ (m : Int)
    · rw [if_pos hf, List.find?_cons_of_pos (by simp [isF, hf])]
    · rw [if_neg hf, List.find?_cons_of_neg (by simp [isF]; omega)]
      exact ih m 16 fun c hc => hp c (List.mem_cons_of_mem _ hc)
/-- find's own blocks -/
structure FdBox (A B va vs : Nat) (f : Int) (a z : Value) (v u e : Value) (W : World) : Prop where
  ls : W.heap[B]? = some (.cells #[.pointer (some ⟨A, 0, none⟩), .int .i64 (va : Int), .int .i64 (vs : Int)] 42 (0, 0))
  fr : W.heap[B + 1]? = some (.cells #[.int .i64 f] 3 (0, 0))
  r0 : W.heap[B + 2]? = some (.cells #[a, z, v] 40 (0, 0))
  r1 : W.heap[B + 3]? = some (.cells #[u] 3 (0, 0))
  r2 : W.heap[B + 4]? = some (.cells #[e] 28 (0, 0))
theorem FdBox.kept {A B va vs : Nat} {f : Int} {a z v u e : Value} {W W' : World} (h : FdBox A B va vs f a z v u e W) (hk : ∀ k, B ≤ k → k ≤ B + 4 → W'.heap[k]? = W.heap[k]?) : FdBox A B va vs f a z v u e W' :=
  ⟨(hk _ (by omega) (by omega)).trans h.ls, (hk _ (by omega) (by omega)).trans h.fr, (hk _ (by omega) (by omega)).trans h.r0, (hk _ (by omega) (by omega)).trans h.r1, (hk _ (by omega) (by omega)).trans h.r2⟩
theorem low_kept {T : TypeId} {B k : Nat} {W W' : World} {row : Option Nat} (hg : W.grownBy W' row) (hr : ∀ r, row = some r → B ≤ r ∧ ∃ o : Obj, W.heap[r]? = some o ∧ (o.isCells = false ∨ OfT T o)) (hk : k < B) (hs : k < W.heap.size) : W'.heap[k]? = W.heap[k]? :=
  hg.block k hs fun e => by have := (hr k e.symm).1; omega

theorem FdBox.put {A B va vs : Nat} {f : Int} {a z v u e : Value} {W : World} (h : FdBox A B va vs f a z v u e W) (a' z' v' u' e' : Value) :
    FdBox A B va vs f a' z' v' u' e' (((((W.setCell ⟨B + 2, 0, none⟩ a').setCell ⟨B + 2, 1, none⟩ z').setCell ⟨B + 2, 2, none⟩ v').setCell ⟨B + 3, 0, none⟩ u').setCell ⟨B + 4, 0, none⟩ e') := by
  refine ⟨?_, ?_, ?_, ?_, ?_⟩
  · exact (set_other e' (by omega)).trans ((set_other u' (by omega)).trans ((far3 (by omega) a' z' v').trans h.ls))
  · exact (set_other e' (by omega)).trans ((set_other u' (by omega)).trans ((far3 (by omega) a' z' v').trans h.fr))
  · exact (set_other e' (by omega)).trans ((set_other u' (by omega)).trans (three_set h.r0 rfl a' z' v'))
  · exact (set_other e' (by omega)).trans (heap_set ((far3 (by omega) a' z' v').trans h.r1) u')
  · exact heap_set ((set_other u' (by omega)).trans ((far3 (by omega) a' z' v').trans h.r2)) e'
theorem below_put {B : Nat} {w W : World} (h : Below B w W) (a' z' v' u' e' : Value) :
    Below B w (((((W.setCell ⟨B + 2, 0, none⟩ a').setCell ⟨B + 2, 1, none⟩ z').setCell ⟨B + 2, 2, none⟩ v').setCell ⟨B + 3, 0, none⟩ u').setCell ⟨B + 4, 0, none⟩ e') :=
  ((((h.setCell (p := ⟨B + 2, 0, none⟩) (by show B ≤ B + 2; omega) _).setCell (p := ⟨B + 2, 1, none⟩) (by show B ≤ B + 2; omega) _).setCell (p := ⟨B + 2, 2, none⟩) (by show B ≤ B + 2; omega) _).setCell (p := ⟨B + 3, 0, none⟩) (by show B ≤ B + 3; omega) _).setCell (p := ⟨B + 4, 0, none⟩) (by show B ≤ B + 4; omega) _
theorem others_put (W : World) (B : Nat) (a' z' v' u' e' : Value) :
    KeepsOthers W (((((W.setCell ⟨B + 2, 0, none⟩ a').setCell ⟨B + 2, 1, none⟩ z').setCell ⟨B + 2, 2, none⟩ v').setCell ⟨B + 3, 0, none⟩ u').setCell ⟨B + 4, 0, none⟩ e') :=
  ((((KeepsOthers.setCell _ _ _).trans (KeepsOthers.setCell _ _ _)).trans (KeepsOthers.setCell _ _ _)).trans (KeepsOthers.setCell _ _ _)).trans (KeepsOthers.setCell _ _ _)
theorem size_put (W : World) (B : Nat) (a' z' v' u' e' : Value) :
    (((((W.setCell ⟨B + 2, 0, none⟩ a').setCell ⟨B + 2, 1, none⟩ z').setCell ⟨B + 2, 2, none⟩ v').setCell ⟨B + 3, 0, none⟩ u').setCell ⟨B + 4, 0, none⟩ e').heap.size = W.heap.size := by simp [World.setCell]
structure FdI (A B va vs : Nat) (f : Int) (w : World) (a z v u e : Value) (W : World) : Prop where
  bx : FdBox A B va vs f a z v u e W
  bel : Below B w W
  sz : B + 7 ≤ W.heap.size
theorem FdI.grown {A B va vs : Nat} {f : Int} {w : World} {a z v u e : Value} {W W' : World} {T : TypeId} {row : Option Nat} (h : FdI A B va vs f w a z v u e W) (hg : W.grownBy W' row) (hr : ∀ r, row = some r → B + 7 ≤ r ∧ ∃ o : Obj, W.heap[r]? = some o ∧ (o.isCells = false ∨ OfT T o)) : FdI A B va vs f w a z v u e W' :=
  ⟨h.bx.kept fun k h1 h2 => low_kept hg hr (by omega) (by have := h.sz; omega), h.bel.grown hg (by have := h.sz; omega) (fun k e => by have := (hr k e).1; omega), Nat.le_trans h.sz hg.size⟩
theorem FdI.put {A B va vs : Nat} {f : Int} {w : World} {a z v u e : Value} {W : World} (h : FdI A B va vs f w a z v u e W) (a' z' v' u' e' : Value) :
    FdI A B va vs f w a' z' v' u' e' (((((W.setCell ⟨B + 2, 0, none⟩ a').setCell ⟨B + 2, 1, none⟩ z').setCell ⟨B + 2, 2, none⟩ v').setCell ⟨B + 3, 0, none⟩ u').setCell ⟨B + 4, 0, none⟩ e') :=
  ⟨h.bx.put _ _ _ _ _, below_put h.bel _ _ _ _ _, by rw [size_put]; exact h.sz⟩
theorem FdI.obj {A B va vs : Nat} {f : Int} {w : World} {a z v u e : Value} {W : World} (h : FdI A B va vs f w a z v u e W) {D : Nat} (hD : B + 7 ≤ D) (hK : W.heap[D]? = some (.deferred (some []))) (o' : Obj) : FdI A B va vs f w a z v u e (W.putObj D o') :=
  h.grown (T := 0) (grownBy_putObj' W D o') (fun r e => by cases e; exact ⟨hD, _, hK, .inl rfl⟩)
theorem FdI.all {A B va vs : Nat} {f : Int} {w : World} {a z v u e : Value} {W : World} (h : FdI A B va vs f w a z v u e W) :
    W.cell? ⟨B + 2, 0, none⟩ = some a ∧ W.cell? ⟨B + 2, 1, none⟩ = some z ∧ W.cell? ⟨B + 2, 2, none⟩ = some v ∧ W.cell? ⟨B + 3, 0, none⟩ = some u ∧ W.cell? ⟨B + 4, 0, none⟩ = some e ∧ W.cell? ⟨B + 1, 0, none⟩ = some (.int .i64 f) ∧
    W.frozen? ⟨B + 2, 0, none⟩ = false ∧ W.frozen? ⟨B + 2, 1, none⟩ = false ∧ W.frozen? ⟨B + 2, 2, none⟩ = false ∧ W.frozen? ⟨B + 3, 0, none⟩ = false ∧ W.frozen? ⟨B + 4, 0, none⟩ = false :=
  ⟨(cell_blk h.bx.r0 0).1, (cell_blk h.bx.r0 1).1, (cell_blk h.bx.r0 2).1, (cell_blk h.bx.r1 0).1, (cell_blk h.bx.r2 0).1, (cell_blk h.bx.fr 0).1, (cell_blk h.bx.r0 0).2, (cell_blk h.bx.r0 1).2, (cell_blk h.bx.r0 2).2, (cell_blk h.bx.r1 0).2, (cell_blk h.bx.r2 0).2⟩
theorem find_at {lp p : List Lk} {x : Lk} {f : Int} (hpre : p ++ [x] <+: lp) (hp : ∀ y ∈ p, isF f y = false) (hx : isF f x = true) : lp.find? (isF f) = some x := by
  obtain ⟨q, rfl⟩ := hpre
  rw [List.find?_append, List.find?_append]
  have h1 : p.find? (isF f) = none := List.find?_eq_none.2 fun y hy => by rw [hp y hy]; simp
  rw [h1]
  simp [hx]

def NoF (f : Int) (l : List Lk) : Prop := ∀ y ∈ l, isF f y = false
theorem NoF.nil (f : Int) : NoF f [] := fun _ h => by cases h
theorem NoF.snoc {f : Int} {l : List Lk} {x : Lk} (h : NoF f l) (hx : isF f x = false) : NoF f (l ++ [x]) := fun y hy => by
  rcases List.mem_append.1 hy with h' | h'
  · exact h y h'
  · rw [List.mem_singleton.1 h']; exact hx
def FdJ (A B va vs : Nat) (f : Int) (w : World) (pre : List Lk) (W : World) : Prop := NoF f pre ∧ FdI A B va vs f w (.pointer none) (.int .i64 0) (.int .i64 0) (.int .i64 0) (.int .i64 0) W
def FdX (A B va vs : Nat) (f : Int) (w : World) (c : Code) (pre : List Lk) (W : World) : Prop :=
  c = .ret ∧ ∃ p x, pre = p ++ [x] ∧ NoF f p ∧ isF f x = true ∧ FdI A B va vs f w (.pointer (some ⟨A, 0, none⟩)) (.int .i64 (x.1 : Int)) (.int .i64 (x.2.1 : Int)) (.int .i64 (x.2.2 : Int)) (.int .i64 0) W
set_option maxRecDepth 100000 in
set_option maxHeartbeats 4000000 in
theorem lfind_in (A : Nat) (s : ASt) (w : World) (h : On A s w) (va vs : Nat) (h1 : va ≤ 4294967296) (h2 : vs ≤ 4294967296) (k f : Int) (lp : List Lk) (hl : LkL s va vs k lp) :
    CallsIn Fence.wide 5 Tryz.prog 112 #[lsP (some ⟨A, 0, none⟩) va vs, .int .i64 k, .int .i64 f] w (Gives (fndV A lp f) w) := by
  have HL := Lib.hid hl
  have HO := Lib.hid h
  clear hl h
  refine callsIn_of_wp_marks Tryz.func112 rfl trivial ?_ rfl
  simp only [Tryz.ntmps112, List.size_toArray, List.length_cons, List.length_nil, Nat.reduceAdd, Nat.reduceSub, Array.replicate_succ, Array.replicate_zero, List.push_toArray, List.append_toArray, List.nil_append, List.cons_append]
  gi_wp2_with fail
  obtain ⟨B, hB⟩ : ∃ B, w.heap.size = B := ⟨_, rfl⟩
  obtain ⟨w5, hw5⟩ : ∃ w5, (((((w.alloc (.cells #[.pointer (some ⟨A, 0, none⟩), .int .i64 (va : Int), .int .i64 (vs : Int)] 42)).alloc (.cells #[.int .i64 f] 3)).alloc (.cells #[.pointer none, .int .i64 0, .int .i64 0] 40)).alloc (.cells #[.int .i64 0] 3)).alloc (.cells #[.int .i64 0] 28)) = w5 := ⟨_, rfl⟩
  have s5 : w5.heap.size = B + 5 := by rw [← hw5, ← hB]; simp
  have b5 : Below B w w5 := by
    rw [← hw5, ← hB]; exact (((((Below.refl _ w).alloc (Nat.le_refl _) _).alloc (by simp) _).alloc (by simp; omega) _).alloc (by simp; omega) _).alloc (by simp; omega) _
  have x5 : FdBox A B va vs f (.pointer none) (.int .i64 0) (.int .i64 0) (.int .i64 0) (.int .i64 0) w5 := by
    obtain ⟨g1, g2, g3, g4⟩ := four_new w #[.pointer (some ⟨A, 0, none⟩), .int .i64 (va : Int), .int .i64 (vs : Int)] #[.int .i64 f] #[.pointer none, .int .i64 0, .int .i64 0] #[.int .i64 0] 42 3 40 3
    have up : ∀ {k : Nat} {o : Obj}, k < w.heap.size + 4 → ((((w.alloc (.cells #[.pointer (some ⟨A, 0, none⟩), .int .i64 (va : Int), .int .i64 (vs : Int)] 42)).alloc (.cells #[.int .i64 f] 3)).alloc (.cells #[.pointer none, .int .i64 0, .int .i64 0] 40)).alloc (.cells #[.int .i64 0] 3)).heap[k]? = some o → w5.heap[k]? = some o := fun hk h => by
      rw [← hw5]; exact (Below.heap_alloc _ _ _ (by simp; omega)).trans h
    rw [← hB]
    refine ⟨up (by omega) g1, up (by omega) g2, up (by omega) g3, up (by omega) g4, ?_⟩
    have := heap_new ((((w.alloc (.cells #[.pointer (some ⟨A, 0, none⟩), .int .i64 (va : Int), .int .i64 (vs : Int)] 42)).alloc (.cells #[.int .i64 f] 3)).alloc (.cells #[.pointer none, .int .i64 0, .int .i64 0] 40)).alloc (.cells #[.int .i64 0] 3)) (.cells #[.int .i64 0] 28)
    rw [hw5] at this
    simpa using this
  rw [hw5, hB]
  clear hw5
  refine ⟨trivial, (callsIn_wide.2 (links_fn _ va vs k _)).mono ?_⟩
  rintro e w' ⟨rfl, rfl⟩
  obtain ⟨w7, hw7⟩ : ∃ w7, (w5.alloc (.cells #[.pointer (some ⟨A, 0, none⟩), .int .i64 (va : Int), .int .i64 (vs : Int)] 42)).alloc (.cells #[.int .i64 k] 3) = w7 := ⟨_, rfl⟩
  have s7 : w7.heap.size = B + 7 := by rw [← hw7]; simp [s5]
  have b57 : Below w5.heap.size w5 w7 := by rw [← hw7]; exact below2 _ _ _
  have i7 : FdI A B va vs f w (.pointer none) (.int .i64 0) (.int .i64 0) (.int .i64 0) (.int .i64 0) w7 :=
    ⟨x5.kept fun k' _ _ => b57.block _ (by omega), b5.trans (b57.mono (by omega)), by omega⟩
  have bx7 : LkBox (B + 6) (B + 5) A va vs k w7 := by
    obtain ⟨g1, g2⟩ := pairs_new w5 #[.pointer (some ⟨A, 0, none⟩), .int .i64 (va : Int), .int .i64 (vs : Int)] #[.int .i64 k] 42 3
    rw [hw7, s5] at g1 g2
    exact ⟨g2, g1⟩
  have ho5 := HO.out.below (show Below w.heap.size w w5 from hB ▸ b5)
  have hm5 : Mine A (B + 5) w7 ∧ Mine A (B + 6) w7 := by
    have m1 := Mine.new ho5 (.cells #[.pointer (some ⟨A, 0, none⟩), .int .i64 (va : Int), .int .i64 (vs : Int)] 42)
    have o1 := ho5.below (bel1 w5 (.cells #[.pointer (some ⟨A, 0, none⟩), .int .i64 (va : Int), .int .i64 (vs : Int)] 42))
    have m2 := Mine.new o1 (.cells #[.int .i64 k] 3)
    have m3 := m1.belowW o1 (bel1 _ (.cells #[.int .i64 k] 3))
    rw [hw7] at m2 m3
    rw [s5] at m3
    rw [World.size_alloc, s5] at m2
    exact ⟨m3, m2⟩
  have ho7 := ho5.below b57
  rw [hw7, s5]
  clear hw7 ho5 b57 x5 b5
  gi_wp2_with fail
  have hlx : B + 6 < w7.heap.size ∧ B + 5 < w7.heap.size := by omega
  refine range_T (T := 40) rfl (by omega) (gf := 137) (lb := #[.pointer (some ⟨B + 6, 0, none⟩), .pointer (some ⟨B + 5, 0, none⟩)]) rfl trivial (enters_of Tryz.func137 (by kernel_rfl) rfl)
    (links_stops (5 - 1) (B + 6) (B + 5) A va vs s h1 h2 k lp HL.out w7 ho7 hm5.2 hm5.1 bx7) KL.trans (KL.put hlx.1 hlx.2) (fun _ => rfl)
    (FdJ A B va vs f w)
    (FdX A B va vs f w)
    (fun pre X Y row hs hg hr => ⟨hs.1, hs.2.grown hg (by rw [← s7]; exact hr)⟩)
    (fun c pre X Y row hs hg hr => by
      obtain ⟨e0, p, x, e1, e2, e3, hi⟩ := hs
      exact ⟨e0, p, x, e1, e2, e3, hi.grown hg (by rw [← s7]; exact hr)⟩)
    ⟨NoF.nil f, i7⟩
    (fun x a' W => ∃ V, B + 7 ≤ V ∧ a' = { tmps := #[.agg #[.pointer (some ⟨A, 0, none⟩), .int .i64 (va : Int), .int .i64 (vs : Int)], .int .i64 k, .int .i64 f, .pointer (some ⟨B, 0, none⟩), undef, .pointer (some ⟨B + 1, 0, none⟩), .pointer (some ⟨B + 2, 0, none⟩), .pointer (some ⟨B + 3, 0, none⟩), .pointer (some ⟨B + 4, 0, none⟩), .pointer (some ⟨V, 0, none⟩), .int .i64 (x.2.2 : Int), .pointer (some ⟨B, 0, none⟩), .pointer (some ⟨B, 0, none⟩), .pointer (some ⟨A, 0, none⟩), .bool false, undef, .agg #[.pointer (some ⟨A, 0, none⟩), .int .i64 (va : Int), .int .i64 (vs : Int)], .int .i64 k, .func (.func 137) #[] #[.pointer (some ⟨B + 6, 0, none⟩), .pointer (some ⟨B + 5, 0, none⟩)], .agg #[.pointer (some ⟨A, 0, none⟩), .int .i64 (x.1 : Int), .int .i64 (x.2.1 : Int)], .int .i64 (x.2.2 : Int), undef, undef, undef, undef, undef, undef, undef, undef, undef, undef], defers := [] } ∧ W.heap[V]? = some (.cells #[.pointer (some ⟨A, 0, none⟩), .int .i64 (x.1 : Int), .int .i64 (x.2.1 : Int)] 40 (0, 0)))
    (fun x a' _ X Y row hs hg hr => by
      obtain ⟨V, e1, e2, e3⟩ := hs
      exact ⟨V, e1, e2, (grownBy_keeps_cells hg (fun r e => (hr r e).2) e3 rfl).trans e3⟩)
    ?assign ?body ?done ?stop
  case assign =>
    intro l pre x W K hI hK
    simp only [encLk]
    gi_wp2
    exact hK _ _ ((KeepsOthers.alloc _ _).from _) (KL.below (by have := hI.2.sz; omega) (by have := hI.2.sz; omega) (bel1 _ _)) ⟨hI.1, hI.2.grown (T := 0) (World.grownBy_alloc W _ none) (fun r e => by cases e)⟩ ⟨W.heap.size, hI.2.sz, rfl, heap_new _ _⟩
  case body =>
    rintro l pre x a' W ⟨hp, hi⟩ ⟨V, hV, rfl, hcV⟩ hlen
    have HI := Lib.hid hi
    have HP := Lib.hid hp
    obtain ⟨c0, c1, c2, c3, c4, c5, f0, f1, f2, f3, f4⟩ := hi.all
    have v0 := (cell_blk hcV 0).1
    have v1 := (cell_blk hcV 1).1
    have v2 := (cell_blk hcV 2).1
    clear hp hi hcV
    have fin : Hid (isF f x = true → KeepsFrom (B + 7) W (((((W.setCell ⟨B + 2, 0, none⟩ (.pointer (some ⟨A, 0, none⟩))).setCell ⟨B + 2, 1, none⟩ (.int .i64 (x.1 : Int))).setCell ⟨B + 2, 2, none⟩ (.int .i64 (x.2.1 : Int))).setCell ⟨B + 3, 0, none⟩ (.int .i64 (x.2.2 : Int))).setCell ⟨B + 4, 0, none⟩ (.int .i64 0)) ∧ FdX A B va vs f w .ret (pre ++ [x]) (((((W.setCell ⟨B + 2, 0, none⟩ (.pointer (some ⟨A, 0, none⟩))).setCell ⟨B + 2, 1, none⟩ (.int .i64 (x.1 : Int))).setCell ⟨B + 2, 2, none⟩ (.int .i64 (x.2.1 : Int))).setCell ⟨B + 3, 0, none⟩ (.int .i64 (x.2.2 : Int))).setCell ⟨B + 4, 0, none⟩ (.int .i64 0))) := Lib.hid fun hx =>
      ⟨(others_put W B _ _ _ _ _).from _, rfl, pre, x, rfl, HP.out, hx, HI.out.put _ _ _ _ _⟩
    obtain ⟨xa, xz, xm⟩ := x
    by_cases hz : xm = 0
    · have HX : Hid (isF f (xa, xz, xm) = true) := Lib.hid (by simp [isF, hz])
      subst hz
      gi_wp2_with fail
      exact fin.out HX.out
    · by_cases hf : f ≤ (xm : Int)
      · have HX : Hid (isF f (xa, xz, xm) = true) := Lib.hid (by simp [isF, hf])
        gi_wp2_with fail
        exact fin.out HX.out
      · have HX : Hid (isF f (xa, xz, xm) = false) := Lib.hid (by simp [isF, hz]; omega)
        gi_wp2_with fail
        exact ⟨KeepsFrom.refl _ _, KL.refl _, HP.out.snoc HX.out, HI.out⟩
  case done =>
    rintro D ys W hD rfl ⟨hp, hi⟩ hK
    obtain ⟨c0, c1, c2, c3, c4, c5, f0, f1, f2, f3, f4⟩ := hi.all
    have HI := Lib.hid (hi.put (.pointer none) (.int .i64 0) (.int .i64 0) (.int .i64 0) (.int .i64 3))
    have HK' := Lib.hid ((others_put W B (.pointer none) (.int .i64 0) (.int .i64 0) (.int .i64 0) (.int .i64 3)).same D _ hK rfl)
    have HV : Hid (fndV A ys f = .tuple #[.agg #[.pointer none, .int .i64 0, .int .i64 0], .int .i64 0, .int .i64 3]) := Lib.hid (by
      unfold fndV; rw [List.find?_eq_none.2 fun y hy => by rw [hp y hy]; simp])
    clear hi hp hK
    gi_wp2_with fail
    refine ⟨by simp, .inl ⟨_, _, rfl, run_takeDeferred HK'.out, ?_⟩⟩
    have hz := HI.out.obj (by omega) HK'.out (.deferred none)
    obtain ⟨c0, c1, c2, c3, c4, _⟩ := hz.all
    refine ⟨.tuple #[.agg #[.pointer none, .int .i64 0, .int .i64 0], .int .i64 0, .int .i64 3], ?_, by rw [HV.out], hB ▸ hz.bel⟩
    simp [results, Tryz.f112, go_sem, c0, c1, c2, c3, c4]
  case stop =>
    rintro D c pre W hD hpre ⟨rfl, p, x, rfl, hp, hx, hi⟩ hK
    have HV : Hid (fndV A lp f = .tuple #[vwV A x.1 x.2.1, .int .i64 (x.2.2 : Int), .int .i64 0]) := Lib.hid (by
      unfold fndV; rw [find_at hpre hp hx])
    gi_wp2_with fail
    refine ⟨by simp, .inl ⟨_, _, rfl, run_takeDeferred hK, ?_⟩⟩
    have hz := hi.obj (by omega) hK (.deferred none)
    obtain ⟨c0, c1, c2, c3, c4, _⟩ := hz.all
    refine ⟨.tuple #[vwV A x.1 x.2.1, .int .i64 (x.2.2 : Int), .int .i64 0], ?_, by rw [HV.out], hB ▸ hz.bel⟩
    simp [results, Tryz.f112, go_sem, c0, c1, c2, c3, c4]
theorem lfind {A : Nat} {s : ASt} {w : World} (h : On A s w) (va vs : Nat) (h1 : va ≤ 4294967296) (h2 : vs ≤ 4294967296) (k f : Int) (lp : List Lk) (hl : LkL s va vs k lp) :
    Calls Tryz.prog 112 #[lsP (some ⟨A, 0, none⟩) va vs, .int .i64 k, .int .i64 f] w (Gives (fndV A lp f) w) := callsIn_wide.1 (lfind_in A s w h va vs h1 h2 k f lp hl)
end Go.Proofs.YtfemgekhpcgliaaGreat.Bt
/- The contract of a list's All. -/
namespace Go.Proofs.YtfemgekhpcgliaaGreat.Bt
open Go Go.RowKit Go.Shelf
set_option linter.unusedVariables false
attribute [local go_sem] Oper.semAt_some

/-- the arena, all of whose blocks lie ahead of B -/
structure Lw (A : Nat) (s : ASt) (B : Nat) (W : World) : Prop where
  o : On A s W
  low : ∀ k, OwnW A W k ∨ EdgW A W k → k < B
theorem Lw.start {A : Nat} {s : ASt} {w : World} (h : On A s w) : Lw A s w.heap.size w := by
  refine ⟨h, fun k hk => ?_⟩
  obtain ⟨P, ps, p, n, cap, h⟩ := h
  rcases hk with hk | hk
  · rcases (ownW_iff h k).1 hk with rfl | rfl | ⟨i, hi⟩
    · exact h.ltA
    · exact h.ltP
    · exact h.ltG hi
  · obtain ⟨off, hp⟩ := (edgW_iff h k).1 hk
    exact h.ltE hp
theorem Lw.both {A B : Nat} {s : ASt} {W W' : World} {row : Option Nat} (h : Lw A s B W) (hg : W.grownBy W' row) (hr : ∀ r, row = some r → B ≤ r) : On A s W' ∧ (∀ k, OwnW A W' k ↔ OwnW A W k) ∧ ∀ k, EdgW A W' k ↔ EdgW A W k := by
  obtain ⟨⟨P, ps, p, n, cap, hx⟩, hl⟩ := h
  have same : ∀ k, k < W.heap.size → OwnW A W k ∨ EdgW A W k → W'.heap[k]? = W.heap[k]? := fun k hk ho => hg.block k hk fun e => by have := hr k e.symm; have := hl k ho; omega
  have hx' : ArX A s P ps p n cap W' := hx.kept hg.size (same _ hx.ltA (.inl ((ownW_iff hx A).2 (.inl rfl)))) (same _ hx.ltP (.inl ((ownW_iff hx P).2 (.inr (.inl rfl)))))
    (fun i b hb => same _ (hx.ltG hb) (.inl ((ownW_iff hx b).2 (.inr (.inr ⟨i, hb⟩))))) (fun b off e => same _ (hx.ltE e) (.inr ((edgW_iff hx b).2 ⟨off, e⟩)))
  exact ⟨⟨P, ps, p, n, cap, hx'⟩, fun k => (ownW_iff hx' k).trans (ownW_iff hx k).symm, fun k => (edgW_iff hx' k).trans (edgW_iff hx k).symm⟩
theorem Lw.grown {A B : Nat} {s : ASt} {W W' : World} {row : Option Nat} (h : Lw A s B W) (hg : W.grownBy W' row) (hr : ∀ r, row = some r → B ≤ r) : Lw A s B W' := by
  obtain ⟨h1, h2, h3⟩ := h.both hg hr
  exact ⟨h1, fun k hk => h.low k (hk.imp (h2 k).1 (h3 k).1)⟩
theorem KL.low {A B x y : Nat} {s : ASt} {W W' : World} {row : Option Nat} (h : Lw A s B W) (hg : W.grownBy W' row) (hx : x < W.heap.size) (hy : y < W.heap.size)
    (hr : ∀ r, row = some r → B ≤ r ∧ r ≠ x ∧ r ≠ y ∧ ∃ c T fr, W.heap[r]? = some (.cells c T fr) ∧ T ≠ 40) : KL A s x y W W' := by
  obtain ⟨h1, h2, h3⟩ := h.both hg fun r e => (hr r e).1
  refine ⟨⟨hg.block x hx fun e => (hr x e.symm).2.1 rfl, hg.block y hy fun e => (hr y e.symm).2.2.1 rfl⟩, fun _ => ⟨h1, fun k hk => ⟨Nat.lt_of_lt_of_le hk.lt hg.size, fun e => hk.own ((h2 k).1 e), fun e => hk.edg ((h3 k).1 e)⟩⟩, fun k c e => ?_⟩
  refine (hg.block k (Array.getElem?_eq_some_iff.1 e).1 fun e2 => ?_).trans e
  obtain ⟨_, _, _, c', T, fr, e3, hT⟩ := hr k e2.symm
  rw [e] at e3; cases e3; exact hT rfl

/-- where the links lead -/
def toL (l : List Lk) : List Int := (l.filter fun x => decide (0 < x.2.2)).map fun x => (x.2.2 : Int)
def AlI (A B : Nat) (s : ASt) (w : World) (pre : List Lk) (W : World) : Prop :=
  (∃ v, Boxed W (B + 1) 80 v ∧ W.ownsRow (B + 4) 3 1 v (toL pre).length ((toL pre).map (Value.int .i64))) ∧ Lw A s B W ∧ Below B w W ∧ B + 4 ≤ W.heap.size
theorem AlI.grown {A B : Nat} {s : ASt} {w : World} {pre : List Lk} {W W' : World} {row : Option Nat} (h : AlI A B s w pre W) (hg : W.grownBy W' row) (hr : ∀ r, row = some r → B + 4 ≤ r ∧ ∃ o : Obj, W.heap[r]? = some o ∧ (o.isCells = false ∨ OfT 40 o)) : AlI A B s w pre W' := by
  obtain ⟨⟨v, hv, hrw⟩, hl, hb, hs⟩ := h
  refine ⟨⟨v, hv.kept hg (fun e => by have := (hr _ e.symm).1; omega), hrw.kept hg ?_⟩, hl.grown hg (fun r e => by have := (hr r e).1; omega), hb.grown hg (by omega) (fun r e => by have := (hr r e).1; omega), Nat.le_trans hs hg.size⟩
  rcases hrw.2 with ⟨rfl, _⟩ | ⟨gg, cap', cur, rfl, _, hgb, _⟩
  · exact .inl rfl
  · refine .inr fun e => ?_
    obtain ⟨_, o, ho, h⟩ := hr _ e.symm
    rw [hgb] at ho; cases ho
    rcases h with h | ⟨c, fr, h⟩
    · cases h
    · cases h
end Go.Proofs.YtfemgekhpcgliaaGreat.Bt
/- The contracts of a list's Has, First, Add. -/
namespace Go.Proofs.YtfemgekhpcgliaaGreat.Bt
open Go Go.RowKit Go.Shelf
set_option linter.unusedVariables false

/-- the member that is found, and what find answers -/
def atV (lp : List Lk) (f : Int) : Int := match lp.find? (isF f) with | some x => (x.2.2 : Int) | none => 0
theorem fndV_any (A : Nat) (lp : List Lk) (f : Int) : ∃ p a z e, fndV A lp f = .tuple #[.agg #[.pointer p, .int .i64 a, .int .i64 z], .int .i64 (atV lp f), .int .i64 e] := by
  unfold fndV atV
  cases lp.find? (isF f) with
  | some x => exact ⟨_, _, _, _, rfl⟩
  | none => exact ⟨_, _, _, _, rfl⟩
section
variable {A : Nat} {s : ASt} {w : World}
set_option maxHeartbeats 1000000 in
theorem lfirst (h : On A s w) (va vs : Nat) (h1 : va ≤ 4294967296) (h2 : vs ≤ 4294967296) (k : Int) (lp : List Lk) (hl : LkL s va vs k lp) :
    Calls Tryz.prog 111 #[lsP (some ⟨A, 0, none⟩) va vs, .int .i64 k] w (Gives (.tuple #[.int .i64 (atV lp 1), .bool (decide (0 < atV lp 1))]) w) := by
  have hb0 := bel1 w (.cells #[.pointer (some ⟨A, 0, none⟩), .int .i64 (va : Int), .int .i64 (vs : Int)] 42)
  have HF := Lib.hid (lfind (h.below hb0) va vs h1 h2 k 1 lp hl)
  have HB := Lib.hid hb0
  clear h hl hb0
  obtain ⟨p, a, z, er, hv⟩ := fndV_any A lp 1
  have HV := Lib.hid hv
  clear hv
  go_enter Tryz.func111, Tryz.ntmps111
  go_wp2_with fail
  refine HF.out.mono ?_
  rintro e w1 ⟨rfl, hb⟩
  rw [HV.out]
  have HB1 := Lib.hid (HB.out.trans (hb.mono HB.out.size))
  clear hb
  generalize atV lp 1 = m at *
  go_wp2_with fail
  go_ret2
  exact ⟨rfl, HB1.out.alloc HB1.out.size _⟩

/-! Add: what it refuses -/
/-- the list k -/
def LsK (s : ASt) (va vs : Nat) (k : Int) (h0 : Nat) (ms : List Nat) : Prop := ∃ kn : Nat, k = (kn : Int) ∧ kn < vs / 8 ∧ h0 = va + 8 * kn ∧ Ch s.L s.es s.mm h0 0 ms
theorem LsK.lk {va vs h0 : Nat} {k : Int} {ms : List Nat} (h : LsK s va vs k h0 ms) : LkL s va vs k (prs h0 8 ms) := by
  obtain ⟨kn, e, hk, rfl, hc⟩ := h; exact .inr ⟨kn, ms, e, hk, hc, rfl⟩
theorem LsK.ch {va vs h0 : Nat} {k : Int} {ms : List Nat} (h : LsK s va vs k h0 ms) : Ch s.L s.es s.mm h0 0 ms := by
  obtain ⟨kn, e, hk, rfl, hc⟩ := h; exact hc
theorem fndV_ch {h0 : Nat} {ms : List Nat} (hc : Ch s.L s.es s.mm h0 0 ms) (f : Int) : fndV A (prs h0 8 ms) f = .tuple #[vwV A (fnd h0 8 ms f).1 (fnd h0 8 ms f).2.1, .int .i64 ((fnd h0 8 ms f).2.2 : Int), .int .i64 0] := by
  unfold fndV; rw [find_prs h0 8 ms f hc.gt]
end
end Go.Proofs.YtfemgekhpcgliaaGreat.Bt
/- The contracts of a list's Add and Remove, where they do something, or find what they are asked for. (Written by gen_lsg.py.) -/
namespace Go.Proofs.YtfemgekhpcgliaaGreat.Bt
open Go Go.RowKit Go.Shelf
set_option linter.unusedVariables false

theorem Ch.next {L : Nat} {es : List Nat} {mm : Nat → UInt8} (g : Good L es) : ∀ {h b : Nat} {ms : List Nat}, Ch L es mm h b ms → ∀ x ∈ ms, (nxt mm x = 0 ∨ x < nxt mm x) ∧ nxt mm x ≤ 4294967296
  | _, _, [], _, x, hx => by cases hx
  | _, _, m :: t, k, x, hx => by
    rcases List.mem_cons.1 hx with rfl | hx
    · cases t with
      | nil => have := k.2.2.2.2.2; unfold nxt; omega
      | cons m2 t2 => have h2 := k.2.2.2.2; have h3 := there_lt g h2.2.2.2.1; have h4 := h2.2.1; have h5 := h2.2.2.1; unfold nxt; omega
    · exact Ch.next g k.2.2.2.2 x hx
theorem blk_on {A : Nat} {w w' : World} {k : Nat} {o : Obj} (hb : Below w.heap.size w w') (h : w.heap[k]? = some o) : w'.heap[k]? = some o := (hb.block k (Array.getElem?_eq_some_iff.1 h).1).trans h
/-- two views' variables -/
def TwoV (A L M fa fz xa xz : Nat) (W : World) : Prop := W.heap[L]? = some (.cells #[.pointer (some ⟨A, 0, none⟩), .int .i64 (fa : Int), .int .i64 (fz : Int)] 40 (0, 0)) ∧ W.heap[M]? = some (.cells #[.pointer (some ⟨A, 0, none⟩), .int .i64 (xa : Int), .int .i64 (xz : Int)] 40 (0, 0))
theorem TwoV.all {A L M fa fz xa xz : Nat} {W : World} (h : TwoV A L M fa fz xa xz W) : W.cell? ⟨L, 0, none⟩ = some (.pointer (some ⟨A, 0, none⟩)) ∧ W.cell? ⟨L, 1, none⟩ = some (.int .i64 (fa : Int)) ∧ W.cell? ⟨L, 2, none⟩ = some (.int .i64 (fz : Int)) ∧
    W.cell? ⟨M, 0, none⟩ = some (.pointer (some ⟨A, 0, none⟩)) ∧ W.cell? ⟨M, 1, none⟩ = some (.int .i64 (xa : Int)) ∧ W.cell? ⟨M, 2, none⟩ = some (.int .i64 (xz : Int)) ∧ TwoV A L M fa fz xa xz W :=
  ⟨(cell_blk h.1 0).1, (cell_blk h.1 1).1, (cell_blk h.1 2).1, (cell_blk h.2 0).1, (cell_blk h.2 1).1, (cell_blk h.2 2).1, h⟩
theorem TwoV.below {A L M fa fz xa xz : Nat} {W W' : World} (h : TwoV A L M fa fz xa xz W) (hb : Below W.heap.size W W') : TwoV A L M fa fz xa xz W' := ⟨blk_on (A := A) hb h.1, blk_on (A := A) hb h.2⟩
theorem TwoV.went {A L M fa fz xa xz : Nat} {s : ASt} {W W' : World} (h : TwoV A L M fa fz xa xz W) (ho : On A s W) (hg : Went A W W') : TwoV A L M fa fz xa xz W' := ⟨hg.keep ho h.1 (by decide) (by decide) (by decide), hg.keep ho h.2 (by decide) (by decide) (by decide)⟩
section
variable {A : Nat} {s : ASt} {w : World}
set_option maxRecDepth 100000 in
set_option maxHeartbeats 4000000 in
theorem ladd_yes (h : On A s w) (va vs : Nat) (h1 : va ≤ 4294967296) (h2 : vs ≤ 4294967296) (k : Int) (h0 x : Nat) (ms : List Nat) (hl : LsK s va vs k h0 ms) (hx : 0 < x) (hm : x ∉ ms) (hT : thereE s.L s.es x 16 = 0) :
    Calls Tryz.prog 115 #[lsP (some ⟨A, 0, none⟩) va vs, .int .i64 k, .int .i64 (x : Int)] w (Ret A { s with mm := put8 (put8 s.mm x (fnd h0 8 ms x).2.2) (fnd h0 8 ms x).1 x } (.int .i64 0) w) := by
  have hb0 := bel1 w (.cells #[.pointer (some ⟨A, 0, none⟩), .int .i64 (va : Int), .int .i64 (vs : Int)] 42)
  have hch := hl.ch
  have hTT : thereE s.L s.es x 16 = 0 := hT
  have hxx := there_lt h.good hTT
  have HF := Lib.hid (lfind (h.below hb0) va vs h1 h2 k x _ hl.lk)
  have HB := Lib.hid hb0
  have HO := Lib.hid h
  have HC := Lib.hid (heap_new w (.cells #[.pointer (some ⟨A, 0, none⟩), .int .i64 (va : Int), .int .i64 (vs : Int)] 42))
  have HV := Lib.hid (fndV_ch (A := A) hch x)
  have HCH := Lib.hid hch
  have HIS := Lib.hid (fnd_is hch 8 x hx)
  have HFT := Lib.hid (fnd_there h.good hch 8 x)
  have HSZ := Lib.hid (fnd_size h0 8 ms x)
  have HV0 : Hid (∀ pu a k, ofV pu a k 0 = .agg #[.pointer pu, .int .i64 a, .int .i64 k]) := Lib.hid fun pu a k => by unfold ofV; rw [if_pos rfl]
  have HD : Hid (decide ((x : Int) < 1) = false) := Lib.hid (by simp; omega)
  have HXP := Lib.hid hx
  clear h hl hb0 hch hx
  go_enter Tryz.func115, Tryz.ntmps115
  go_wp2_with fail
  refine HF.out.mono ?_
  rintro e w1 ⟨rfl, hb⟩
  rw [HV.out]
  have hc1 := blk_on (A := A) hb HC.out
  have HB1 := Lib.hid (HB.out.trans (hb.mono HB.out.size))
  generalize hfa : (fnd h0 8 ms x).1 = fa at *
  generalize hfz : (fnd h0 8 ms x).2.1 = fz at *
  generalize hfm : (fnd h0 8 ms x).2.2 = fm at *
  have HFA := Lib.hid hfa; have HFZ := Lib.hid hfz; have HFM := Lib.hid hfm
  have HFT' := HFT; have HSZ' := HSZ; have HIS' := HIS
  have HXX := Lib.hid hxx
  clear HFT HSZ HIS hfa hfz hfm HV HF hxx
  have hl1 := heap_new w1 (.cells #[.pointer (some ⟨A, 0, none⟩), .int .i64 (fa : Int), .int .i64 (fz : Int)] 40)
  have hc2 := blk_on (A := A) (bel1 w1 (.cells #[.pointer (some ⟨A, 0, none⟩), .int .i64 (fa : Int), .int .i64 (fz : Int)] 40)) hc1
  have c0 := (cell_blk hc2 0).1
  have hb2 := HB1.out.alloc HB1.out.size (.cells #[.pointer (some ⟨A, 0, none⟩), .int .i64 (fa : Int), .int .i64 (fz : Int)] 40)
  have HX1 := Lib.hid (And.intro hl1 hc2)
  have HOF := Lib.hid (on_of (HO.out.below hb2) x 16 (by have := HXX.out; omega))
  have HB2 := Lib.hid hb2
  clear hb hc1 hl1 hc2 hb2
  have HNE : Hid (((fm : Int) == (x : Int)) = false) := Lib.hid (by have h3 : fm ≠ x := fun e => hm (HIS'.out.1 e); exact beq_eq_false_iff_ne.2 (fun e => h3 (by omega)))
  have hfm32 : fm ≤ 4294967296 := by
    rw [← HFM.out]
    rcases fnd_val h0 8 ms x with ⟨e, _⟩ | ⟨e, _⟩
    · omega
    · have := HCH.out.lt HO.out.good _ e; omega
  have hfa32 : fa ≤ 4294967296 := by have := there_lt HO.out.good HFT'.out; omega
  have HT := Lib.hid hT
  have HT8 := Lib.hid (there_sub HO.out.good hT (j := 8) (by omega) (by omega))
  clear hT hm
  have hd := HD.out
  go_wp2_with fail
  refine HOF.out.mono ?_
  rintro e w2 ⟨rfl, hb⟩
  rw [HT.out, HV0.out]
  have ho2 := (HO.out.below HB2.out).below hb
  have hl2 := blk_on (A := A) hb HX1.out.1
  have hc2 := blk_on (A := A) hb HX1.out.2
  have hm3 := heap_new w2 (.cells #[.pointer (some ⟨A, 0, none⟩), .int .i64 (x : Int), .int .i64 (16 : Int)] 40)
  have hl3 := blk_on (A := A) (bel1 w2 (.cells #[.pointer (some ⟨A, 0, none⟩), .int .i64 (x : Int), .int .i64 (16 : Int)] 40)) hl2
  have ho3 := ho2.below (bel1 w2 (.cells #[.pointer (some ⟨A, 0, none⟩), .int .i64 (x : Int), .int .i64 (16 : Int)] 40))
  have HB3 := Lib.hid ((HB2.out.trans (hb.mono HB2.out.size)).alloc (HB2.out.trans (hb.mono HB2.out.size)).size (.cells #[.pointer (some ⟨A, 0, none⟩), .int .i64 (x : Int), .int .i64 (16 : Int)] 40))
  have HLD := Lib.hid (llead ho3 x 16 fm (by have := HXX.out; omega) (by omega) (by omega) hfm32 HT8.out)
  have HX3 := Lib.hid (And.intro hl3 ho3)
  have m0 := (cell_blk hm3 0).1; have m1 := (cell_blk hm3 1).1; have m2 := (cell_blk hm3 2).1
  clear hb c0 ho2 hl2 hc2 hm3 hl3 ho3 hd
  have hne := HNE.out
  go_wp2_with fail
  refine HLD.out.mono ?_
  rintro e w3 ⟨rfl, ho4, hg4⟩
  have hl4 := hg4.keep HX3.out.2 HX3.out.1 (by decide) (by decide) (by decide)
  have HG4 := Lib.hid ((Went.of_below HO.out HB3.out).trans hg4)
  have HL2 := Lib.hid (llead ho4 fa fz x hfa32 (by have := HSZ'.out; omega) (by have := HSZ'.out; omega) (by have := HXX.out; omega) HFT'.out)
  have l0 := (cell_blk hl4 0).1; have l1 := (cell_blk hl4 1).1; have l2 := (cell_blk hl4 2).1
  clear ho4 hg4 hl4 m0 m1 m2
  go_wp2_with fail
  refine HL2.out.mono ?_
  rintro e w4 ⟨rfl, ho5, hg5⟩
  have HF := Lib.hid (And.intro ho5 (HG4.out.trans hg5))
  clear ho5 hg5 l0 l1 l2
  go_wp2_with fail
  go_ret
  exact ⟨rfl, HF.out.1, HF.out.2⟩
set_option maxRecDepth 100000 in
set_option maxHeartbeats 4000000 in
theorem lrem_yes (h : On A s w) (va vs : Nat) (h1 : va ≤ 4294967296) (h2 : vs ≤ 4294967296) (k : Int) (h0 x : Nat) (ms : List Nat) (hl : LsK s va vs k h0 ms) (hx : 0 < x) (hm : x ∈ ms) :
    Calls Tryz.prog 76 #[lsP (some ⟨A, 0, none⟩) va vs, .int .i64 k, .int .i64 (x : Int)] w (Ret A { s with mm := put8 s.mm (fnd h0 8 ms x).1 (nxt s.mm x) } (.int .i64 0) w) := by
  have hb0 := bel1 w (.cells #[.pointer (some ⟨A, 0, none⟩), .int .i64 (va : Int), .int .i64 (vs : Int)] 42)
  have hch := hl.ch
  have hTT : thereE s.L s.es x 16 = 0 := hch.mems x hm
  have hxx := there_lt h.good hTT
  have HF := Lib.hid (lfind (h.below hb0) va vs h1 h2 k x _ hl.lk)
  have HB := Lib.hid hb0
  have HO := Lib.hid h
  have HC := Lib.hid (heap_new w (.cells #[.pointer (some ⟨A, 0, none⟩), .int .i64 (va : Int), .int .i64 (vs : Int)] 42))
  have HV := Lib.hid (fndV_ch (A := A) hch x)
  have HCH := Lib.hid hch
  have HIS := Lib.hid (fnd_is hch 8 x hx)
  have HFT := Lib.hid (fnd_there h.good hch 8 x)
  have HSZ := Lib.hid (fnd_size h0 8 ms x)
  have HV0 : Hid (∀ pu a k, ofV pu a k 0 = .agg #[.pointer pu, .int .i64 a, .int .i64 k]) := Lib.hid fun pu a k => by unfold ofV; rw [if_pos rfl]
  have HD : Hid (decide ((x : Int) < 1) = false) := Lib.hid (by simp; omega)
  have HXP := Lib.hid hx
  clear h hl hb0 hch hx
  go_enter Tryz.func76, Tryz.ntmps76
  go_wp2_with fail
  refine HF.out.mono ?_
  rintro e w1 ⟨rfl, hb⟩
  rw [HV.out]
  have hc1 := blk_on (A := A) hb HC.out
  have HB1 := Lib.hid (HB.out.trans (hb.mono HB.out.size))
  generalize hfa : (fnd h0 8 ms x).1 = fa at *
  generalize hfz : (fnd h0 8 ms x).2.1 = fz at *
  generalize hfm : (fnd h0 8 ms x).2.2 = fm at *
  have HFA := Lib.hid hfa; have HFZ := Lib.hid hfz; have HFM := Lib.hid hfm
  have HFT' := HFT; have HSZ' := HSZ; have HIS' := HIS
  have HXX := Lib.hid hxx
  clear HFT HSZ HIS hfa hfz hfm HV HF hxx
  have hl1 := heap_new w1 (.cells #[.pointer (some ⟨A, 0, none⟩), .int .i64 (fa : Int), .int .i64 (fz : Int)] 40)
  have hc2 := blk_on (A := A) (bel1 w1 (.cells #[.pointer (some ⟨A, 0, none⟩), .int .i64 (fa : Int), .int .i64 (fz : Int)] 40)) hc1
  have c0 := (cell_blk hc2 0).1
  have hb2 := HB1.out.alloc HB1.out.size (.cells #[.pointer (some ⟨A, 0, none⟩), .int .i64 (fa : Int), .int .i64 (fz : Int)] 40)
  have HX1 := Lib.hid (And.intro hl1 hc2)
  have HOF := Lib.hid (on_of (HO.out.below hb2) x 16 (by have := HXX.out; omega))
  have HB2 := Lib.hid hb2
  clear hb hc1 hl1 hc2 hb2
  have hT := hTT
  clear hTT
  obtain rfl : fm = x := HIS'.out.2 hm
  obtain ⟨hn1, hn2⟩ := HCH.out.next HO.out.good fm hm
  have hfa32 : fa ≤ 4294967296 := by have := there_lt HO.out.good HFT'.out; omega
  have HT := Lib.hid hT
  have HT8 := Lib.hid (there_sub HO.out.good hT (j := 8) (by omega) (by omega))
  have HRN : Hid ((if ((nxt s.mm fm : Nat) : Int) ≤ (fm : Int) then 0 else ((nxt s.mm fm : Nat) : Int)) = ((nxt s.mm fm : Nat) : Int)) := Lib.hid (by
    rcases hn1 with e | e
    · rw [if_pos (by omega)]; omega
    · rw [if_neg (by omega)])
  have HN2 := Lib.hid hn2
  have HNX : Hid (numV s.mm fm 8 = nxt s.mm fm) := Lib.hid rfl
  clear hT hm hn1 hn2
  generalize nxt s.mm fm = nx at *
  have hd := HD.out
  go_wp2_with fail
  refine HOF.out.mono ?_
  rintro e w2 ⟨rfl, hb⟩
  rw [HT.out, HV0.out]
  have ho2 := (HO.out.below HB2.out).below hb
  have hl2 := blk_on (A := A) hb HX1.out.1
  have hm3 := heap_new w2 (.cells #[.pointer (some ⟨A, 0, none⟩), .int .i64 (fm : Int), .int .i64 (16 : Int)] 40)
  have hl3 := blk_on (A := A) (bel1 w2 (.cells #[.pointer (some ⟨A, 0, none⟩), .int .i64 (fm : Int), .int .i64 (16 : Int)] 40)) hl2
  have ho3 := ho2.below (bel1 w2 (.cells #[.pointer (some ⟨A, 0, none⟩), .int .i64 (fm : Int), .int .i64 (16 : Int)] 40))
  have HB3 := Lib.hid ((HB2.out.trans (hb.mono HB2.out.size)).alloc (HB2.out.trans (hb.mono HB2.out.size)).size (.cells #[.pointer (some ⟨A, 0, none⟩), .int .i64 (fm : Int), .int .i64 (16 : Int)] 40))
  have HX3 := Lib.hid (And.intro hl3 (And.intro hm3 ho3))
  clear hb c0 ho2 hl2 hm3 hl3 ho3
  have HN8 : Hid (thereE s.L s.es (fa : Int) 8 = 0) := HFT'
  go_upto_region 9 with fail
  have HTW : TwoV A w1.heap.size w2.heap.size fa fz fm 16 (w2.alloc (.cells #[.pointer (some ⟨A, 0, none⟩), .int .i64 (fm : Int), .int .i64 (16 : Int)] 40)) := ⟨HX3.out.1, HX3.out.2.1⟩
  obtain ⟨L1, hL1⟩ : ∃ L1, w1.heap.size = L1 := ⟨_, rfl⟩
  obtain ⟨M2, hM2⟩ : ∃ M2, w2.heap.size = M2 := ⟨_, rfl⟩
  have HO3 := Lib.hid HX3.out.2.2
  obtain ⟨w3, hw3⟩ : ∃ w3, w2.alloc (.cells #[.pointer (some ⟨A, 0, none⟩), .int .i64 (fm : Int), .int .i64 (16 : Int)] 40) = w3 := ⟨_, rfl⟩
  rw [hL1, hM2, hw3] at HTW
  rw [hw3] at HO3 HB3
  rw [hL1, hM2, hw3]
  clear HX3 hL1 hM2 hw3 hd HX1
  go_region_held3 (fun x => x.cell? ⟨L1, 0, none⟩ = some (.pointer (some ⟨A, 0, none⟩)) ∧ x.cell? ⟨L1, 1, none⟩ = some (.int .i64 (fa : Int)) ∧ x.cell? ⟨L1, 2, none⟩ = some (.int .i64 (fz : Int)) ∧ x.cell? ⟨M2, 0, none⟩ = some (.pointer (some ⟨A, 0, none⟩)) ∧ x.cell? ⟨M2, 1, none⟩ = some (.int .i64 (fm : Int)) ∧ x.cell? ⟨M2, 2, none⟩ = some (.int .i64 16) ∧ TwoV A L1 M2 fa fz fm 16 x)
    (first | exact (HTW.below (Below.refl _ _).drew).all | assumption)
    (first | (go_at_call 114; refine (lfollow (HO3.out.below (Below.refl _ _).drew) fm 16 nx (by have := HXX.out; omega) (by omega) (by omega) HN2.out HT8.out HNX.out fm).mono ?_; rintro e w' ⟨rfl, hbb⟩; rw [HRN.out]; have hnx := ((HTW.below (Below.refl _ _).drew).below hbb).all; have hoo := (HO3.out.below (Below.refl _ _).drew).below hbb; have hbw := HB3.out.trans ((Below.refl _ w3).drew.trans hbb |>.mono HB3.out.size))
           | (go_at_call 113; refine (llead hoo fa fz nx hfa32 (by have := HSZ'.out; omega) (by have := HSZ'.out; omega) HN2.out HN8.out).mono ?_; rintro e w'' ⟨rfl, ho4, hg4⟩; have hny := (hnx.2.2.2.2.2.2.went hoo hg4).all))
  all_goals
    have HF := Lib.hid (And.intro ho4 ((Went.of_below HO.out hbw).trans hg4))
    clear HTW hnx hny ho4 hg4 hoo hbw hbb
    go_wp2_with fail
    go_ret
    exact ⟨rfl, HF.out.1, HF.out.2⟩
end
end Go.Proofs.YtfemgekhpcgliaaGreat.Bt
