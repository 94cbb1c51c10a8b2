/- Several texts in one: CnG; CnH; CnI; CnJ; CnK. -/
import Derived.Test.YtfemgekhpcgliaaGreatCmH
/- census' justItsPages. (Written by gen_cng.py.) -/
namespace Go.Proofs.YtfemgekhpcgliaaGreat.Bt
open Go Go.RowKit Go.Shelf
set_option linter.unusedVariables false
set_option linter.unusedSimpArgs false
set_option maxRecDepth 100000 in
set_option maxHeartbeats 8000000 in
theorem cpages {A B n g : Nat} {R : Runs} {s : ASt} {w : World} (h : BV B A n s w) (hB : Bud (n + 1) g g R g s) :
    Calls Tryz.prog 72 #[bdyP B] w (Gives (.bool true) w) := by
  have HV := Lib.hid h
  have hz := hB.sz h.2.1
  have hg := hB.gG
  have HGR := Lib.hid fun X (hX : BV B A n s X) => bgrown hX g (by omega) hB.front hB.gr
  have HCO := Lib.hid fun X (hX : BV B A n s X) => bcommitted hX hB
  have HH := Lib.hid fun X (hX : On A s X) i (hi : i ≤ n) => (has_up8 hB hi) ▸ ahas8 hX (i : Int)
  have hw1 : IntKind.i64.wrap (1 + (g : Int)) = 1 + (g : Int) := by rw [IntKind.wrap_i64]; omega
  clear h hB
  go_enter Tryz.func72, Tryz.ntmps72
  go_wp2_with fail
  refine (bbase HV.out (by omega)).mono ?_
  rintro e w1 ⟨rfl, hb⟩
  have HV1 := Lib.hid (HV.out.below hb)
  have HB1 := Lib.hid hb
  clear hb
  go_wp2_with fail
  refine (HGR.out _ HV1.out).mono ?_
  rintro e w2 ⟨rfl, hb⟩
  have HV2 := Lib.hid (HV1.out.below hb)
  have HB2 := Lib.hid (HB1.out.trans (hb.mono HB1.out.size))
  clear hb HV1 HB1
  obtain ⟨b0, _⟩ := HV2.out.all
  go_wp2_with fail
  refine (HCO.out _ HV2.out).mono ?_
  rintro e w3 ⟨rfl, hb⟩
  have HV3 := Lib.hid (HV2.out.below hb)
  have HB3 := Lib.hid (HB2.out.trans (hb.mono HB2.out.size))
  clear hb HV2 HB2 b0
  go_wp2_with fail
  go_loopw [18] (fun s18 wr => ∃ j : Nat, j ≤ 1 + g ∧ s18 = .int .i64 (j : Int) ∧ Hid (BV B A n s wr ∧ Below w.heap.size w wr)) (fun s18 _ => 1 + g - (intOf s18).toNat)
  case atStart => exact ⟨0, Nat.zero_le _, rfl, Lib.hid ⟨HV3.out, HB3.out⟩⟩
  case round =>
    clear HV3 HB3
    obtain ⟨j, hj, rfl, HR⟩ := hrel
    by_cases hjg : j < 1 + g
    · have hj2 : (j : Int) < 1 + (g : Int) := by omega
      have hd : decide (j ≤ g) = true := decide_eq_true (by omega)
      have HC := Lib.hid (HH.out _ HR.out.1.1 j (by omega))
      rw [hd] at HC
      obtain ⟨b0, _⟩ := HR.out.1.all
      go_wp2_with fail
      refine HC.out.mono ?_
      rintro e w2 ⟨rfl, hb⟩
      have HR2 := Lib.hid (And.intro (HR.out.1.below hb) (HR.out.2.trans (hb.mono HR.out.2.size)))
      clear hb b0 HC HR
      go_wp2_with fail
      go_roundw
      case rel => exact ⟨j + 1, by omega, by go_num, HR2⟩
      case measure => simp [intOf]; omega
    · obtain rfl : j = 1 + g := by omega
      go_wp2_with fail
      go_ret
      exact ⟨rfl, HR.out.2⟩
end Go.Proofs.YtfemgekhpcgliaaGreat.Bt
/- census' inRow. (Written by gen_cnh.py.) -/
namespace Go.Proofs.YtfemgekhpcgliaaGreat.Bt
open Go Go.RowKit Go.Shelf
set_option linter.unusedVariables false
set_option linter.unusedSimpArgs false
theorem runL_pre (R : Runs) (p : Nat) : ∀ d : Nat, ∃ T, runL R (p + d) = runL R p ++ T
  | 0 => ⟨[], by simp⟩
  | d + 1 => by
    obtain ⟨T, h⟩ := runL_pre R p d
    exact ⟨T ++ _, by rw [← Nat.add_assoc, runL_succ, h, List.append_assoc]⟩
/-- how far the first j runs reach -/
structure InR (R : Runs) (g j p : Nat) : Prop where
  tk : (runL R g).take j = runL R p
  le : p ≤ g
  bg : p = 0 ∨ ∃ i k t, R i = some (k, t) ∧ i + 2 ^ k = p
theorem InR.step {R : Runs} {g j p : Nat} (h : InR R g j p) (hT : Til g R g) (hj : j < (runL R g).length) :
    ∃ k t, R p = some (k, t) ∧ (runL R g).getD j r0 = (p, k, t) ∧ p % 2 ^ k = 0 ∧ k ≤ 10 ∧ p + 2 ^ k ≤ g ∧ InR R g (j + 1) (p + 2 ^ k) := by
  have hl : (runL R p).length = j := by rw [← h.tk, List.length_take]; omega
  have hp : p < g := by
    rcases Nat.lt_or_ge p g with c | c
    · exact c
    · have e : p = g := by have := h.le; omega
      rw [e] at hl; omega
  obtain ⟨k, t, e⟩ := hT.toTile.begins hp h.bg
  have a := hT.al _ _ _ e
  have hs := runL_step hT.toTile e
  obtain ⟨T, hp2⟩ := runL_pre R (p + 2 ^ k) (g - (p + 2 ^ k))
  rw [show p + 2 ^ k + (g - (p + 2 ^ k)) = g from by omega, hs] at hp2
  refine ⟨k, t, e, ?_, a.2.1, a.1, a.2.2, ?_, a.2.2, .inr ⟨p, k, t, e, rfl⟩⟩
  · rw [hp2, List.append_assoc, List.getD_eq_getElem?_getD, List.getElem?_append_right (by omega), hl]; simp
  · rw [hp2, hs, List.take_append_of_le_length (by simp [hl]), List.take_of_length_le (by simp [hl])]
theorem InR.fin {R : Runs} {g j p : Nat} (h : InR R g j p) (hT : Til g R g) (hj : (runL R g).length ≤ j) : p = g := by
  rcases Nat.lt_or_ge p g with c | c
  · obtain ⟨k, t, e⟩ := hT.toTile.begins c h.bg
    have h1 : (p, k, t) ∈ runL R g := runL_mem.2 ⟨c, e⟩
    rw [← List.take_of_length_le hj, h.tk] at h1
    have := (runL_mem.1 h1).1; omega
  · have := h.le; omega
set_option maxRecDepth 100000 in
set_option maxHeartbeats 8000000 in
theorem cinrow {A B n g : Nat} {R : Runs} {s : ASt} {w : World} (h : BV B A n s w) (hB : Bud (n + 1) g g R g s) :
    Calls Tryz.prog 71 #[bdyP B] w (Gives (.bool true) w) := by
  have HV := Lib.hid h
  have HTI := Lib.hid hB.ti
  have HZ := Lib.hid (hB.sz h.2.1)
  have HG := Lib.hid hB.gG
  have hz := hB.sz h.2.1
  have HGR := Lib.hid fun X (hX : BV B A n s X) => bgrown hX g (by have := HZ.out; omega) hB.front hB.gr
  have HRU := Lib.hid (bRuns_any h hB)
  clear h hB
  go_enter Tryz.func71, Tryz.ntmps71
  go_wp2_with fail
  refine HRU.out.mono ?_
  rintro e w1 ⟨u, cap, rfl, hru, huf, hb⟩
  obtain ⟨nl, hnl⟩ : ∃ nl, (runL R g).length = nl := ⟨_, rfl⟩
  have HNL := Lib.hid hnl
  have hnl80 : nl ≤ 80 := by have := runL_len R g; have := HG.out; omega
  have HBW := Lib.hid hb
  have HV1 := Lib.hid (HV.out.below hb)
  have HR1 := Lib.hid hru
  rw [adL_len, hnl]
  clear hru huf hb HRU hnl hz HV
  go_wp2_with fail
  go_loopw [3, 9] (fun s3 s9 wr => ∃ j p : Nat, j ≤ nl ∧ s3 = .int .i64 (p : Int) ∧ s9 = .int .i64 (j : Int) ∧ Hid (InR R g j p) ∧ Hid (Below w1.heap.size w1 wr)) (fun _ s9 _ => nl - (intOf s9).toNat)
  case atStart => exact ⟨0, 0, Nat.zero_le _, rfl, rfl, Lib.hid ⟨by rw [List.take_zero]; rfl, Nat.zero_le _, .inl rfl⟩, Lib.hid (Below.refl _ _)⟩
  case round =>
    obtain ⟨j, p, hj, rfl, rfl, HIN, HWr⟩ := hrel
    by_cases hjn : j < nl
    · have hjn2 : (j : Int) < (nl : Int) := by omega
      have hjL : j < (runL R g).length := by rw [HNL.out]; exact hjn
      obtain ⟨k, t, e1, e2, e3, e4, e5, e6⟩ := HIN.out.step HTI.out hjL
      rcases HR1.out.below HWr.out with e | ⟨gb, rfl, hgl, hcc⟩
      · have := congrArg List.length e; rw [adL_len, HNL.out] at this; simp at this; omega
      obtain ⟨q0, q1, q2⟩ := hcc j (by rw [adL_len]; exact hjL)
      rw [adL_get hjL, e2] at q0 q1 q2
      simp only at q0 q1 q2
      have HI2 := Lib.hid e6
      have HPF : Hid (∃ P : Nat, 2 ^ k = P ∧ ¬ ((P : Int) = 0) ∧ wrap64 ((2 : Int) ^ min k 64) = (P : Int) ∧ (p : Int) % (P : Int) = 0 ∧ wrap64 ((p : Int) + (P : Int)) = ((p + P : Nat) : Int)) := Lib.hid (by
        obtain ⟨P, hP⟩ : ∃ P, 2 ^ k = P := ⟨_, rfl⟩
        have hP0 : 0 < P := by rw [← hP]; exact pow2_pos k
        have hg := HG.out
        have hzz := HZ.out
        have hp80 : p + P ≤ g := by rw [← hP]; exact e5
        refine ⟨P, hP, by omega, ?_, ?_, ?_⟩
        · rw [show min k 64 = k by omega, show ((2 : Int) ^ k) = (P : Int) from by rw [← hP]; push_cast; rfl]; exact IntWalk.wrap64_in _ ⟨by omega, by omega⟩
        · rw [← hP]; exact_mod_cast e3
        · rw [IntWalk.wrap64_in _ ⟨by omega, by omega⟩]; push_cast; rfl)
      have hpb : p ≤ 2000 := by have := HG.out; have := HZ.out; have := HIN.out.le; omega
      have HPB := Lib.hid hpb
      have HJN := Lib.hid (And.intro hjn hnl80)
      clear hcc hjL hgl e1 e2 e3 e4 e5 e6 HIN hpb hj hnl80 hjn
      go_upto_region 5 with fail
      have htt : (wr.alloc (.cells #[.int .i64 (adr p : Int), .int .i64 (k : Int), .bool t] 79)).heap[wr.heap.size]? = _ := heap_new wr _
      have hb4 := bel1 wr (.cells #[.int .i64 (adr p : Int), .int .i64 (k : Int), .bool t] 79)
      have HW4 := Lib.hid (HWr.out.trans (hb4.mono HWr.out.size))
      obtain ⟨w4, hw4⟩ : ∃ z, wr.alloc (.cells #[.int .i64 (adr p : Int), .int .i64 (k : Int), .bool t] 79) = z := ⟨_, rfl⟩
      obtain ⟨E, hE⟩ : ∃ T, wr.heap.size = T := ⟨_, rfl⟩
      rw [hw4] at htt HW4 ⊢
      rw [hE] at htt ⊢
      have HT := Lib.hid (show RbV E (adr p, k, t) w4 from htt)
      obtain ⟨t0, t1, t2⟩ := HT.out.all
      clear hw4 hE q0 q1 q2 htt hb4
      have HCF := Lib.hid (cfirst (HV1.out.below HW4.out) (by have := HZ.out; omega) p k t HPB.out)
      go_wp2_with fail
      refine HCF.out.mono ?_
      rintro e w5 ⟨rfl, hb⟩
      have HT5 := Lib.hid (HT.out.below hb)
      have HW5 := Lib.hid (HW4.out.trans (hb.mono HW4.out.size))
      clear hb t0 t1 t2 HT HCF HW4
      obtain ⟨t0, t1, t2⟩ := HT5.out.all
      obtain ⟨P, hPk, hr4, hr5, hr6, hr7⟩ := HPF.out
      have HI3 : Hid (InR R g (j + 1) (p + P)) := Lib.hid (hPk ▸ HI2.out)
      clear HI2 HPF hPk
      obtain ⟨hjn, hnl80⟩ := HJN.out
      go_wp2_with fail
      go_roundw
      case rel => exact ⟨j + 1, p + P, by omega, by first | rfl | rw [hr7] | go_num, by go_num, HI3, HW5⟩
      case measure => simp [intOf]; omega
    · obtain rfl : j = nl := by omega
      obtain rfl := HIN.out.fin HTI.out (by rw [HNL.out]; exact Nat.le_refl _)
      have HW6 := Lib.hid (HBW.out.trans (HWr.out.mono HBW.out.size))
      go_wp2_with fail
      refine (HGR.out _ (HV1.out.below HWr.out)).mono ?_
      rintro e w5 ⟨rfl, hb⟩
      have HF := Lib.hid (HW6.out.trans (hb.mono HW6.out.size))
      go_wp2_with fail
      go_ret
      exact ⟨rfl, HF.out⟩
end Go.Proofs.YtfemgekhpcgliaaGreat.Bt
/- census: whether a run could be given. -/
namespace Go.Proofs.YtfemgekhpcgliaaGreat.Bt
open Go Go.RowKit Go.Shelf
set_option linter.unusedVariables false
set_option linter.unusedSimpArgs false
theorem cn_ends {P : Program} {f : FuncId} {a : Array Value} {w : World} {Q : Ending → World → Prop} (h : Calls P f a w Q) : ∃ e w', Q e w' := by
  obtain ⟨e, w', _, hq, _⟩ := h []
  exact ⟨e, w', hq⟩
theorem lgF_ge (k : Nat) : ∀ (L : List (Nat × Nat × Bool)) (m : Nat), k ≤ L.foldl (fun m y => if y.2.2 = true then m else max m y.2.1) m ↔ k ≤ m ∨ ∃ y, y ∈ L ∧ y.2.2 = false ∧ k ≤ y.2.1
  | [], m => by simp
  | y :: L, m => by
    rw [List.foldl_cons, lgF_ge k L]
    cases h : y.2.2 with
    | true => rw [if_pos rfl]; simp [h]
    | false =>
      rw [if_neg (by decide)]
      constructor
      · rintro (c | ⟨z, hz, c⟩)
        · rcases Nat.le_total m y.2.1 with d | d
          · rw [Nat.max_eq_right d] at c; exact .inr ⟨y, List.mem_cons_self, h, c⟩
          · rw [Nat.max_eq_left d] at c; exact .inl c
        · exact .inr ⟨z, List.mem_cons_of_mem _ hz, c⟩
      · rintro (c | ⟨z, hz, c1, c2⟩)
        · exact .inl (Nat.le_trans c (Nat.le_max_left _ _))
        · rcases List.mem_cons.1 hz with rfl | hz
          · exact .inl (Nat.le_trans c2 (Nat.le_max_right _ _))
          · exact .inr ⟨z, hz, c1, c2⟩
def fitB (g k : Nat) (R : Runs) : Bool := lgB (runL R g) && decide (k ≤ lgM (runL R g))
def canB (n g k : Nat) (R : Runs) : Bool := fitB g k R || decide (upN g (2 ^ k) + 2 ^ k ≤ n)
theorem fitB_iff {g k : Nat} {R : Runs} (hT : Til g R g) : fitB g k R = true ↔ ∃ i l, R i = some (l, false) ∧ k ≤ l := by
  unfold fitB lgB lgM
  rw [Bool.and_eq_true, List.any_eq_true, decide_eq_true_iff, lgF_ge]
  constructor
  · rintro ⟨⟨⟨i, l, t⟩, hy, ht⟩, c | ⟨⟨i', l', t'⟩, hz, h1, h2⟩⟩
    · have ht : t = false := by simpa using ht
      subst ht
      exact ⟨i, l, (runL_mem.1 hy).2, by omega⟩
    · have h1 : t' = false := h1
      subst h1
      exact ⟨i', l', (runL_mem.1 hz).2, h2⟩
  · rintro ⟨i, l, e, hk⟩
    have hm : (i, l, false) ∈ runL R g := runL_mem.2 ⟨hT.lt e, e⟩
    exact ⟨⟨_, hm, rfl⟩, .inr ⟨_, hm, rfl, hk⟩⟩
theorem fitB_no {g k : Nat} {R : Runs} (hT : Til g R g) : fitB g k R = false ↔ Least R g k none := by
  rw [← Bool.not_eq_true, fitB_iff hT]
  constructor
  · intro h i l e
    rcases Nat.lt_or_ge l k with c | c
    · exact c
    · exact absurd ⟨i, l, e, c⟩ h
  · rintro h ⟨i, l, e, c⟩
    have := h i l e
    omega
/-- what the document's Alloc would find where nothing is refused -/
theorem can_cases {A B n g : Nat} {R : Runs} {s : ASt} {w : World} (h : BV B A n s w) (hB : Bud (n + 1) g g R g s) (k : Nat) (hk : k ≤ 10) :
    (canB n g k R = true ∧ ∃ (g1 x l : Nat) (R1 : Runs), Sc n g k (-1) R g1 x l (-1) R1 ∧ g1 ≤ n) ∨
    (canB n g k R = false ∧ Least R g k none ∧ growQ n g (-1) k (upN g (2 ^ k)) = ((g : Int), -1, 4)) := by
  obtain ⟨e0, w1, rfl, ho, hg⟩ := cn_ends (on_refuse8 h.1 10 (by omega))
  have hV1 := h.went ho hg rfl
  have hB1 : Bud (n + 1) g g R g { s with rf := true, lf := (10 : Int).toNat } := ⟨hB.cL, hB.c2, hB.es, hB.gG, hB.mr, hB.gr, hB.tg, hB.ls, hB.ti⟩
  have hr : refB { s with rf := true, lf := (10 : Int).toNat } = false := rfl
  obtain ⟨e1, w2, hap⟩ := cn_ends (balloc_any hV1 hB1 k hk)
  have hz := hB.sz h.2.1
  rcases hap with ⟨g1, x, l, R1, s0, ⟨p1, p2, p3, p4, p5, p6⟩, _⟩ | ⟨_, q0, ⟨q1, _⟩ | ⟨_, q2, _⟩⟩
  · refine .inl ?_
    rcases p6 with ⟨rfl, rfl, _⟩ | ⟨c1, c2, c3, _⟩
    · refine ⟨?_, _, x, l, R1, ⟨p4, p3, p5, .inl ⟨rfl, rfl, rfl⟩⟩, by have := hB.gG; omega⟩
      unfold canB
      rw [(fitB_iff p4).2 ⟨x, l, p2, p1⟩]; rfl
    · refine ⟨?_, g1, x, l, R1, ⟨p4, p3, p5, .inr ⟨c1, ?_⟩⟩, c3⟩
      · unfold canB
        rw [decide_eq_true (by omega)]; simp
      · unfold growQ
        rw [if_neg (by omega), if_neg (by decide), c2]; rfl
  · refine .inr ⟨?_, q0, ?_⟩
    · unfold canB
      rw [(fitB_no hB.ti).2 q0, decide_eq_false (by omega)]; rfl
    · unfold growQ
      rw [if_pos (by omega)]
  · rw [hr] at q2; cases q2
end Go.Proofs.YtfemgekhpcgliaaGreat.Bt
/- census: what each page is, and how many are what. -/
namespace Go.Proofs.YtfemgekhpcgliaaGreat.Bt
open Go Go.RowKit Go.Shelf
set_option linter.unusedVariables false
set_option linter.unusedSimpArgs false
theorem layL_at (g : Nat) (l : List Nat) (fr st p : Nat) (hp : p < l.length) : ∀ c, (layL g l fr st c).getD p 0 = if fr ≤ p ∧ p < fr + c ∧ p ≤ g then st else l.getD p 0
  | 0 => by rw [if_neg (by omega)]; rfl
  | c + 1 => by
    unfold layL
    by_cases h : fr + c ≤ g
    · rw [if_pos h, List.getD_eq_getElem?_getD, List.getElem?_set, layL_len]
      by_cases e : fr + c = p
      · rw [if_pos e, if_pos (by omega), if_pos (by omega)]; rfl
      · rw [if_neg e, ← List.getD_eq_getElem?_getD, layL_at g l fr st p hp c]
        by_cases e2 : fr ≤ p ∧ p < fr + c ∧ p ≤ g
        · rw [if_pos e2, if_pos (by omega)]
        · rw [if_neg e2, if_neg (by omega)]
    · rw [if_neg h, layL_at g l fr st p hp c]
      by_cases e2 : fr ≤ p ∧ p < fr + c ∧ p ≤ g
      · rw [if_pos e2, if_pos (by omega)]
      · rw [if_neg e2, if_neg (by omega)]
/-- a run is at a page -/
def covR (y : Nat × Nat × Bool) (p : Nat) : Prop := y.1 + 1 ≤ p ∧ p < y.1 + 1 + 2 ^ y.2.1
theorem fold_len (g : Nat) : ∀ (L : List (Nat × Nat × Bool)) (l : List Nat), (L.foldl (stF g) l).length = l.length
  | [], l => rfl
  | y :: L, l => by rw [List.foldl_cons, fold_len g L]; unfold stF; exact layL_len _ _ _ _ _
theorem fold_no (g p : Nat) : ∀ (L : List (Nat × Nat × Bool)) (l : List Nat), p < l.length → (∀ y, y ∈ L → ¬ covR y p) → (L.foldl (stF g) l).getD p 0 = l.getD p 0
  | [], l, _, _ => rfl
  | y :: L, l, hp, h => by
    have h1 := h y List.mem_cons_self
    unfold covR at h1
    rw [List.foldl_cons, fold_no g p L _ (by unfold stF; rw [layL_len]; exact hp) fun z hz => h z (List.mem_cons_of_mem _ hz)]
    unfold stF
    rw [layL_at g l _ _ p hp, if_neg (by omega)]
theorem fold_yes (g p : Nat) (y : Nat × Nat × Bool) (hg : p ≤ g) (hc : covR y p) : ∀ (L : List (Nat × Nat × Bool)) (l : List Nat), p < l.length → y ∈ L → (∀ z, z ∈ L → covR z p → z = y) → (L.foldl (stF g) l).getD p 0 = if y.2.2 = true then 3 else 2
  | [], l, _, h, _ => by cases h
  | z :: L, l, hp, hy, h => by
    rw [List.foldl_cons]
    have hl : p < (stF g l z).length := by unfold stF; rw [layL_len]; exact hp
    by_cases e : y ∈ L
    · exact fold_yes g p y hg hc L _ hl e fun z' hz => h z' (List.mem_cons_of_mem _ hz)
    · have hzy : y = z := by
        rcases List.mem_cons.1 hy with c | c
        · exact c
        · exact absurd c e
      subst hzy
      rw [fold_no g p L _ hl fun z' hz hc' => e (h z' (List.mem_cons_of_mem _ hz) hc' ▸ hz)]
      unfold covR at hc
      unfold stF
      rw [layL_at g l _ _ p hp, if_pos (by omega)]
/-- the states of all pages -/
def stA (R : Runs) (g n : Nat) : List Nat := stT R g n (runL R g).length
theorem stA_len (R : Runs) (g n : Nat) : (stA R g n).length = n + 1 := stT_len R g n _
theorem stA_is (R : Runs) (g n : Nat) : stA R g n = (runL R g).foldl (stF g) (layL g (List.replicate (n + 1) 0) 0 1 1) := by unfold stA stT; rw [List.take_length]
theorem stA_zero (R : Runs) (g n : Nat) : (stA R g n).getD 0 0 = 1 := by
  have hl : 0 < (layL g (List.replicate (n + 1) 0) 0 1 1).length := by rw [layL_len]; simp
  rw [stA_is, fold_no g 0 _ _ hl fun y _ h => by unfold covR at h; omega, layL_at g _ 0 1 0 (by simp) 1, if_pos (by omega)]
theorem stA_run {R : Runs} {g n i k p : Nat} {t : Bool} (hT : Til g R g) (h : R i = some (k, t)) (h1 : i + 1 ≤ p) (h2 : p < i + 1 + 2 ^ k) (hn : g ≤ n) : (stA R g n).getD p 0 = if t = true then 3 else 2 := by
  have ha := hT.al _ _ _ h
  rw [stA_is]
  refine fold_yes g p (i, k, t) (by omega) ⟨h1, h2⟩ _ _ (by rw [layL_len]; simp; omega) (runL_mem.2 ⟨hT.lt h, h⟩) ?_
  rintro ⟨j, l, u⟩ hz ⟨c1, c2⟩
  simp only at c1 c2
  have e := hT.one (p := p - 1) h (runL_mem.1 hz).2 (by omega) (by omega) (by omega) (by omega)
  obtain ⟨rfl, rfl, rfl⟩ := e
  rfl
theorem stA_gone {R : Runs} {g n p : Nat} (hT : Til g R g) (hp : g < p) (hn : p ≤ n) : (stA R g n).getD p 0 = 0 := by
  have hl : p < (layL g (List.replicate (n + 1) 0) 0 1 1).length := by rw [layL_len]; simp; omega
  rw [stA_is, fold_no g p _ _ hl, layL_at g _ 0 1 p (by simp; omega) 1, if_neg (by omega)]
  · rw [List.getD_eq_getElem?_getD, List.getElem?_replicate, if_pos (by omega)]; rfl
  · rintro ⟨j, l, u⟩ hz ⟨c1, c2⟩
    simp only at c1 c2
    have := hT.al _ _ _ (runL_mem.1 hz).2
    omega
/-- each page, by cases -/
theorem stA_cases {R : Runs} {g n p : Nat} (hT : Til g R g) (hn : g ≤ n) (hp : p ≤ n) :
    (p = 0 ∧ (stA R g n).getD p 0 = 1) ∨ (g < p ∧ (stA R g n).getD p 0 = 0) ∨
    (∃ i k t, R i = some (k, t) ∧ i + 1 ≤ p ∧ p < i + 1 + 2 ^ k ∧ (stA R g n).getD p 0 = if t = true then 3 else 2) := by
  rcases Nat.eq_zero_or_pos p with rfl | h0
  · exact .inl ⟨rfl, stA_zero R g n⟩
  · rcases Nat.lt_or_ge g p with c | c
    · exact .inr (.inl ⟨c, stA_gone hT c hp⟩)
    · obtain ⟨i, k, t, e, h1, h2⟩ := hT.cv (p - 1) (by omega)
      exact .inr (.inr ⟨i, k, t, e, by omega, by omega, stA_run hT e (by omega) (by omega) hn⟩)
theorem stA_nought {R : Runs} {g n p : Nat} (hT : Til g R g) (hn : g ≤ n) (hp : p ≤ n) : (stA R g n).getD p 0 = 0 ↔ g < p := by
  rcases stA_cases hT hn hp with ⟨h, e⟩ | ⟨h, e⟩ | ⟨i, k, t, h, h1, h2, e⟩
  · rw [e]; omega
  · rw [e]; omega
  · have := hT.al _ _ _ h
    rw [e]
    cases t <;> simp <;> omega
theorem stA_three {R : Runs} {g n p : Nat} (hT : Til g R g) (hn : g ≤ n) (hp : p ≤ n) : (stA R g n).getD p 0 = 3 ↔ ∃ i k, R i = some (k, true) ∧ i + 1 ≤ p ∧ p < i + 1 + 2 ^ k := by
  constructor
  · intro h
    rcases stA_cases hT hn hp with ⟨_, e⟩ | ⟨_, e⟩ | ⟨i, k, t, hr, h1, h2, e⟩
    · omega
    · omega
    · cases t with
      | true => exact ⟨i, k, hr, h1, h2⟩
      | false => rw [if_neg (by decide)] at e; omega
  · rintro ⟨i, k, e, h1, h2⟩
    rw [stA_run hT e h1 h2 hn]; rfl
theorem stA_le {R : Runs} {g n p : Nat} (hT : Til g R g) (hn : g ≤ n) (hp : p ≤ n) : (stA R g n).getD p 0 ≤ 3 := by
  rcases stA_cases hT hn hp with ⟨_, e⟩ | ⟨_, e⟩ | ⟨i, k, t, h, h1, h2, e⟩
  · omega
  · omega
  · rw [e]; split <;> omega
/-- counting by numbers -/
def cnI (f : Nat → Bool) : Nat → Nat
  | 0 => 0
  | N + 1 => cnI f N + if f N = true then 1 else 0
theorem cnI_succ (f : Nat → Bool) (N : Nat) : cnI f (N + 1) = cnI f N + if f N = true then 1 else 0 := rfl
theorem cntL_I (l : List Nat) (v : Int) : ∀ N, N ≤ l.length → cntL (l.take N) v = cnI (fun p => decide (((l.getD p 0 : Nat) : Int) = v)) N
  | 0, _ => by rw [List.take_zero]; rfl
  | N + 1, h => by
    rw [cntL_succ (by omega), cntL_I l v N (by omega)]
    rw [cnI_succ]
    by_cases e : ((l.getD N 0 : Nat) : Int) = v
    · rw [if_pos e, if_pos (decide_eq_true e)]
    · rw [if_neg e, if_neg (by rw [decide_eq_false e]; decide)]
theorem cntA (R : Runs) (g n : Nat) (v : Int) : cntL (stA R g n) v = cnI (fun p => decide ((((stA R g n).getD p 0 : Nat) : Int) = v)) (n + 1) := by
  have h := cntL_I (stA R g n) v (n + 1) (by rw [stA_len]; exact Nat.le_refl _)
  rw [List.take_of_length_le (by rw [stA_len]; exact Nat.le_refl _)] at h
  exact h
theorem cnI_congr {f f' : Nat → Bool} : ∀ N, (∀ p, p < N → f p = f' p) → cnI f N = cnI f' N
  | 0, _ => rfl
  | N + 1, h => by rw [cnI_succ, cnI_succ, cnI_congr N fun p hp => h p (by omega), h N (by omega)]
theorem cnI_two {f a b : Nat → Bool} : ∀ N, (∀ p, p < N → f p = (a p || b p) ∧ (a p && b p) = false) → cnI f N = cnI a N + cnI b N
  | 0, _ => rfl
  | N + 1, h => by
    have h1 := cnI_two N fun p hp => h p (by omega)
    obtain ⟨h2, h3⟩ := h N (by omega)
    rw [cnI_succ, cnI_succ, cnI_succ, h1, h2]
    cases ha : a N <;> cases hb : b N <;> simp_all <;> omega
theorem cnI_between (x m : Nat) : ∀ N, cnI (fun p => decide (x ≤ p ∧ p < x + m)) N = min (N - x) m
  | 0 => by simp [cnI]
  | N + 1 => by
    rw [cnI_succ, cnI_between x m N]
    by_cases e : x ≤ N ∧ N < x + m
    · rw [if_pos (decide_eq_true e)]; omega
    · rw [if_neg (by rw [decide_eq_false e]; decide)]; omega
theorem cnI_four {f : Nat → Nat} : ∀ N, (∀ p, p < N → f p ≤ 3) → cnI (fun p => decide (((f p : Nat) : Int) = 0)) N + cnI (fun p => decide (((f p : Nat) : Int) = 1)) N + cnI (fun p => decide (((f p : Nat) : Int) = 2)) N + cnI (fun p => decide (((f p : Nat) : Int) = 3)) N = N
  | 0, _ => rfl
  | N + 1, h => by
    have h1 := cnI_four N fun p hp => h p (by omega)
    have h2 := h N (by omega)
    rw [cnI_succ, cnI_succ, cnI_succ, cnI_succ]
    generalize cnI (fun p => decide (((f p : Nat) : Int) = 0)) N = A0 at h1 ⊢
    generalize cnI (fun p => decide (((f p : Nat) : Int) = 1)) N = A1 at h1 ⊢
    generalize cnI (fun p => decide (((f p : Nat) : Int) = 2)) N = A2 at h1 ⊢
    generalize cnI (fun p => decide (((f p : Nat) : Int) = 3)) N = A3 at h1 ⊢
    have h3 : f N = 0 ∨ f N = 1 ∨ f N = 2 ∨ f N = 3 := by omega
    rcases h3 with e | e | e | e <;> simp [e] <;> omega
theorem cnI_none {f : Nat → Bool} : ∀ N, (∀ p, p < N → f p = false) → cnI f N = 0
  | 0, _ => rfl
  | N + 1, h => by rw [cnI_succ, cnI_none N fun p hp => h p (by omega), h N (by omega)]; rfl
theorem cntA_four {R : Runs} {g n : Nat} (hT : Til g R g) (hn : g ≤ n) : cntL (stA R g n) 0 + cntL (stA R g n) 1 + cntL (stA R g n) 2 + cntL (stA R g n) 3 = n + 1 := by
  simp only [cntA]
  exact cnI_four _ fun p hp => stA_le hT hn (by omega)
theorem cntA_no {R : Runs} {g n : Nat} (hT : Til g R g) (hn : g ≤ n) : cntL (stA R g n) 4 = 0 := by
  rw [cntA]
  exact cnI_none _ fun p hp => decide_eq_false (by have := stA_le (p := p) hT hn (by omega); omega)
theorem cntA_gone {R : Runs} {g n : Nat} (hT : Til g R g) (hn : g ≤ n) : cntL (stA R g n) 0 = n - g := by
  rw [cntA, cnI_congr (f' := fun p => decide (g + 1 ≤ p ∧ p < g + 1 + (n - g)))]
  · rw [cnI_between]; omega
  · intro p hp
    have := stA_nought (p := p) hT hn (by omega)
    apply decide_eq_decide.2
    omega
theorem cntA_more {R R1 : Runs} {g g1 n x k l : Nat} {t : Bool} (hT : Til g R g) (hn : g ≤ n) (hT1 : Til g1 R1 g1) (hn1 : g1 ≤ n) (h : TkMore R R1 x k) (hd : ∀ i l, R i = some (l, true) → i + 2 ^ l ≤ x ∨ x + 2 ^ k ≤ i) (hx : x + 2 ^ k ≤ g1) :
    cntL (stA R1 g1 n) 3 = cntL (stA R g n) 3 + 2 ^ k := by
  rw [cntA, cntA, cnI_two (a := fun p => decide ((((stA R g n).getD p 0 : Nat) : Int) = 3)) (b := fun p => decide (x + 1 ≤ p ∧ p < x + 1 + 2 ^ k)), cnI_between]
  · have : min (n + 1 - (x + 1)) (2 ^ k) = 2 ^ k := Nat.min_eq_right (by omega)
    omega
  · intro p hp
    have e1 := stA_three (p := p) hT1 hn1 (by omega)
    have e0 := stA_three (p := p) hT hn (by omega)
    have c3 : ∀ a : Nat, ((a : Int) = 3 ↔ a = 3) := fun a => by omega
    constructor
    · rw [← Bool.decide_or]
      apply decide_eq_decide.2
      rw [c3, c3, e1, e0]
      constructor
      · rintro ⟨i, l, h1, h2, h3⟩
        rcases (h i l).1 h1 with ⟨rfl, rfl⟩ | c
        · exact .inr ⟨h2, h3⟩
        · exact .inl ⟨i, l, c, h2, h3⟩
      · rintro (⟨i, l, h1, h2, h3⟩ | ⟨h2, h3⟩)
        · exact ⟨i, l, (h i l).2 (.inr h1), h2, h3⟩
        · exact ⟨x, k, (h x k).2 (.inl ⟨rfl, rfl⟩), h2, h3⟩
    · rw [← Bool.decide_and, decide_eq_false_iff_not, c3, e0]
      rintro ⟨⟨i, l, h1, h2, h3⟩, h4, h5⟩
      have := hd i l h1
      omega
end Go.Proofs.YtfemgekhpcgliaaGreat.Bt
/- census' allTogether. (Written by gen_cnk.py.) -/
namespace Go.Proofs.YtfemgekhpcgliaaGreat.Bt
open Go Go.RowKit Go.Shelf
set_option linter.unusedVariables false
set_option linter.unusedSimpArgs false
def ah3 (x : World) (E : Nat) (v0 v1 v2 : Value) : World := ((x.setCell ⟨E, 0, none⟩ v0).setCell ⟨E, 1, none⟩ v1).setCell ⟨E, 2, none⟩ v2
/-- the variable ahead, in block Q -/
structure AhR (Q A B n : Nat) (s : ASt) (y : Nat × Nat × Bool) (w0 w1 x : World) : Prop where
  bv : BV B A n s x
  mq : Mine A Q x
  rb : RbV Q y x
  os : w0.heap.size ≤ Q
  be : Below w0.heap.size w0 x
  fr : w1.heap.size ≤ x.heap.size ∧ ∀ k, k ≠ Q → k < w1.heap.size → x.heap[k]? = w1.heap[k]?
structure AtS (Q E : Nat) (y0 y1 : Nat × Nat × Bool) (x : World) : Prop where
  a : RbV Q y0 x
  b : RbV E y1 x
theorem AtS.below {Q E : Nat} {y0 y1 : Nat × Nat × Bool} {x z : World} (h : AtS Q E y0 y1 x) (hb : Below x.heap.size x z) : AtS Q E y0 y1 z := ⟨h.a.below hb, h.b.below hb⟩
theorem AtS.all {Q E : Nat} {y0 y1 : Nat × Nat × Bool} {x : World} (h : AtS Q E y0 y1 x) :
    (x.cell? ⟨Q, 0, none⟩ = some (.int .i64 (y0.1 : Int)) ∧ x.cell? ⟨Q, 1, none⟩ = some (.int .i64 (y0.2.1 : Int)) ∧ x.cell? ⟨Q, 2, none⟩ = some (.bool y0.2.2)) ∧ x.cell? ⟨E, 0, none⟩ = some (.int .i64 (y1.1 : Int)) ∧ x.cell? ⟨E, 1, none⟩ = some (.int .i64 (y1.2.1 : Int)) ∧ x.cell? ⟨E, 2, none⟩ = some (.bool y1.2.2) := ⟨h.a.all, h.b.all⟩
/-- both variables -/
structure AhS (Q E A B n : Nat) (s : ASt) (y0 y1 : Nat × Nat × Bool) (w0 w1 x : World) : Prop where
  r : AhR Q A B n s y0 w0 w1 x
  st : AtS Q E y0 y1 x
  ne : E ≠ Q
section
variable {Q E A B n : Nat} {s : ASt} {y0 y1 : Nat × Nat × Bool} {w0 w1 x z : World}
theorem AhR.below (h : AhR Q A B n s y0 w0 w1 x) (hb : Below x.heap.size x z) : AhR Q A B n s y0 w0 w1 z :=
  ⟨h.bv.below hb, h.mq.went (Went.of_below h.bv.1 hb), h.rb.below hb, h.os, h.be.trans (hb.mono h.be.size), Nat.le_trans h.fr.1 hb.size, fun k hk hl => (hb.block _ (Nat.lt_of_lt_of_le hl h.fr.1)).trans (h.fr.2 k hk hl)⟩
theorem AhS.below (h : AhS Q E A B n s y0 y1 w0 w1 x) (hb : Below x.heap.size x z) : AhS Q E A B n s y0 y1 w0 w1 z := ⟨h.r.below hb, h.st.below hb, h.ne⟩
theorem AhS.drew (h : AhS Q E A B n s y0 y1 w0 w1 x) : AhS Q E A B n s y0 y1 w0 w1 x.drew := h.below (Below.refl _ _).drew
theorem AhS.self (h : AhS Q E A B n s y0 y1 w0 w1 x) : AtS Q E y0 y1 x := h.st
theorem AhS.free (h : AhS Q E A B n s y0 y1 w0 w1 x) : x.frozen? ⟨Q, 0, none⟩ = false ∧ x.frozen? ⟨Q, 1, none⟩ = false ∧ x.frozen? ⟨Q, 2, none⟩ = false :=
  ⟨(cell_blk h.st.a 0).2, (cell_blk h.st.a 1).2, (cell_blk h.st.a 2).2⟩
theorem AhS.store (h : AhS Q E A B n s y0 y1 w0 w1 x) : AhR Q A B n s y1 w0 w1 (ah3 x Q (.int .i64 (y1.1 : Int)) (.int .i64 (y1.2.1 : Int)) (.bool y1.2.2)) := by
  have hne : B ≠ Q := fun c => by
    have h1 := h.r.bv.2.2
    unfold BdyAt at h1
    rw [c, show x.heap[Q]? = _ from h.st.a] at h1
    simp only [Option.some.injEq, Obj.cells.injEq] at h1
    exact absurd h1.2.1 (by decide)
  have far : ∀ k, k ≠ Q → ∀ v0 v1 v2, (ah3 x Q v0 v1 v2).heap[k]? = x.heap[k]? := fun k hk v0 v1 v2 => (Below.heap_setCell _ ⟨Q, 2, none⟩ _ _ hk).trans ((Below.heap_setCell _ ⟨Q, 1, none⟩ _ _ hk).trans (Below.heap_setCell _ ⟨Q, 0, none⟩ _ _ hk))
  have m0 := Mine.set h.r.bv.1 h.r.mq h.r.mq 0 (.int .i64 (y1.1 : Int))
  have a0 := h.r.bv.1.set h.r.mq 0 (.int .i64 (y1.1 : Int))
  have m1 := Mine.set a0 m0 m0 1 (.int .i64 (y1.2.1 : Int))
  have a1 := a0.set m0 1 (.int .i64 (y1.2.1 : Int))
  refine ⟨⟨a1.set m1 2 _, h.r.bv.2.1, (far B hne _ _ _).trans h.r.bv.2.2⟩, Mine.set a1 m1 m1 2 _, ?_, h.r.os, ((h.r.be.setCell (p := ⟨Q, 0, none⟩) h.r.os _).setCell (p := ⟨Q, 1, none⟩) h.r.os _).setCell (p := ⟨Q, 2, none⟩) h.r.os _, ?_, fun k hk hl => (far k hk _ _ _).trans (h.r.fr.2 k hk hl)⟩
  · have h3 := heap_set (o := 2) (heap_set (o := 1) (heap_set (o := 0) (show x.heap[Q]? = _ from h.st.a) (.int .i64 (y1.1 : Int))) (.int .i64 (y1.2.1 : Int))) (.bool y1.2.2)
    unfold RbV ah3
    rw [h3]
    simp [rnA]
  · have := h.r.fr.1
    simpa [ah3, World.setCell] using this
end
/-- what is ahead of the run j -/
def AhF (R : Runs) (j p : Nat) (y : Nat × Nat × Bool) : Prop := j = 0 ∨ ∃ i0 k0 t0, y = (adr i0, k0, t0) ∧ R i0 = some (k0, t0) ∧ i0 + 2 ^ k0 = p ∧ i0 ≤ 2000
theorem two_rem {g i k : Nat} {R : Runs} (hT : Til g R g) (h0 : R i = some (k, false)) (h1 : R (i + 2 ^ k) = some (k, false)) (hk : k < 10) : i % 2 ^ (k + 1) ≠ 0 := fun h => by
  have hp := pow2_pos k
  have l0 := hT.lt h0
  have l1 := hT.lt h1
  have ht : twin i k = i + 2 ^ k := twin_low h
  exact hT.mx i k h0 hk (by omega) (by rw [ht]; omega) (by rw [ht]; exact h1)
set_option maxRecDepth 100000 in
set_option maxHeartbeats 32000000 in
theorem call_together {A B n g : Nat} {R : Runs} {s : ASt} {w : World} (h : BV B A n s w) (hB : Bud (n + 1) g g R g s) :
    Calls Tryz.prog 73 #[bdyP B] w (Gives (.bool true) w) := by
  have HTI := Lib.hid hB.ti
  have HZ := Lib.hid (hB.sz h.2.1)
  have HG := Lib.hid hB.gG
  have hb0 := bel1 w (.cells (rnA (0, 0, false)) 79)
  have h1 : BV B A n s (w.alloc (.cells (rnA (0, 0, false)) 79)) := h.below hb0
  have HRU := Lib.hid (bRuns_any h1 hB)
  have ha0 : RbV w.heap.size (0, 0, false) (w.alloc (.cells (rnA (0, 0, false)) 79)) := heap_new _ _
  have HAH0 := Lib.hid (show AhR w.heap.size A B n s (0, 0, false) w (w.alloc (.cells (rnA (0, 0, false)) 79)) (w.alloc (.cells (rnA (0, 0, false)) 79)) from ⟨h1, Mine.new h.1 _, ha0, Nat.le_refl _, hb0, Nat.le_refl _, fun _ _ _ => rfl⟩)
  clear h hB hb0 h1 ha0
  go_enter Tryz.func73, Tryz.ntmps73
  go_upto_region 2 with fail
  change Code.wp _ _ _ _ (w.alloc (.cells (rnA (0, 0, false)) 79))
  obtain ⟨y, hy⟩ : ∃ y, w.alloc (.cells (rnA (0, 0, false)) 79) = y := ⟨_, rfl⟩
  obtain ⟨Q, hQ⟩ : ∃ Q, w.heap.size = Q := ⟨_, rfl⟩
  have HWQ := Lib.hid hQ
  have hah := HAH0.out
  have hru := HRU.out
  rw [hy] at hru
  rw [hy, hQ] at hah
  rw [hy, hQ]
  have HRU1 := Lib.hid hru
  have HAH1 := Lib.hid hah
  clear hah hru HAH0 HRU hy hQ
  go_wp2_with fail
  refine HRU1.out.mono ?_
  rintro e w1 ⟨u, cap, rfl, hru, huf, hb⟩
  obtain ⟨nl, hnl⟩ : ∃ nl, (runL R g).length = nl := ⟨_, rfl⟩
  have HNL := Lib.hid hnl
  have HN80 : Hid (nl ≤ 80) := Lib.hid (by have := runL_len R g; have := HG.out; have := HZ.out; omega)
  have HUF : Hid (∀ j, u = some ⟨j, 0, none⟩ → j ≠ Q) := Lib.hid fun j hj => by have := huf j hj; have := HAH1.out.mq.lt; omega
  have hah2 := HAH1.out.below hb
  have HAH2 := Lib.hid (show AhR Q A B n s (0, 0, false) w w1 w1 from ⟨hah2.bv, hah2.mq, hah2.rb, hah2.os, hah2.be, Nat.le_refl _, fun _ _ _ => rfl⟩)
  have HR1 := Lib.hid hru
  rw [adL_len, hnl]
  clear hru huf hb HRU1 hnl hah2 HAH1
  go_wp2_with fail
  go_loopw [9] (fun s9 wr => ∃ (j p : Nat) (y : Nat × Nat × Bool), j ≤ nl ∧ s9 = .int .i64 (j : Int) ∧ Hid (InR R g j p) ∧ Hid (AhF R j p y) ∧ Hid (AhR Q A B n s y w w1 wr)) (fun s9 _ => nl - (intOf s9).toNat)
  case atStart => exact ⟨0, 0, (0, 0, false), Nat.zero_le _, rfl, Lib.hid ⟨by rw [List.take_zero]; rfl, Nat.zero_le _, .inl rfl⟩, Lib.hid (.inl rfl), HAH2⟩
  case round =>
    clear HAH2
    obtain ⟨j, p, y0, hj, rfl, HIN, HAF, HAR⟩ := hrel
    by_cases hjn : j < nl
    · have hjn2 : (j : Int) < (nl : Int) := by omega
      have hjL : j < (runL R g).length := by rw [HNL.out]; exact hjn
      obtain ⟨k, t, e1, e2, e3, e4, e5, e6⟩ := HIN.out.step HTI.out hjL
      have hrn : RnAt wr u (adL (runL R g)) := by
        rcases HR1.out with c | ⟨gb, e, hgl, hcc⟩
        · exact .inl c
        · exact RnAt.far (.inr ⟨gb, e, hgl, hcc⟩) HAR.out.fr.1 fun k hk => HAR.out.fr.2 k (by rw [e] at hk; simp at hk; have := HUF.out gb e; omega) (by rw [e] at hk; simp at hk; omega)
      rcases hrn with e | ⟨gb, rfl, hgl, hcc⟩
      · have := congrArg List.length e; rw [adL_len, HNL.out] at this; simp at this; omega
      obtain ⟨q0, q1, q2⟩ := hcc j (by rw [adL_len]; exact hjL)
      rw [adL_get hjL, e2] at q0 q1 q2
      simp only at q0 q1 q2
      have HI2 := Lib.hid e6
      have HRP := Lib.hid e1
      have HAH : Hid (AhF R (j + 1) (p + 2 ^ k) (adr p, k, t)) := Lib.hid (.inr ⟨p, k, t, rfl, e1, rfl, by have := HG.out; have := HZ.out; have := HIN.out.le; omega⟩)
      have HJN := Lib.hid (And.intro hjn HN80.out)
      have HK10 := Lib.hid e4
      have HPL : Hid (p ≤ 2000) := Lib.hid (by have := HG.out; have := HZ.out; have := HIN.out.le; omega)
      clear hcc hjL hgl e1 e2 e3 e4 e5 e6 HIN hj hjn
      go_upto_region 5 with fail
      have htt : RbV wr.heap.size (adr p, k, t) (wr.alloc (.cells #[.int .i64 (adr p : Int), .int .i64 (k : Int), .bool t] 79)) := heap_new wr _
      have hb4 := bel1 wr (.cells #[.int .i64 (adr p : Int), .int .i64 (k : Int), .bool t] 79)
      have HAS : Hid (AhS Q wr.heap.size A B n s y0 (adr p, k, t) w w1 (wr.alloc (.cells #[.int .i64 (adr p : Int), .int .i64 (k : Int), .bool t] 79))) := Lib.hid ⟨HAR.out.below hb4, ⟨HAR.out.rb.below hb4, htt⟩, Nat.ne_of_gt HAR.out.mq.lt⟩
      obtain ⟨w4, hw4⟩ : ∃ z, wr.alloc (.cells #[.int .i64 (adr p : Int), .int .i64 (k : Int), .bool t] 79) = z := ⟨_, rfl⟩
      obtain ⟨E, hE⟩ : ∃ T, wr.heap.size = T := ⟨_, rfl⟩
      have HB4 := Lib.hid hE
      rw [hw4, hE] at HAS
      rw [hw4, hE]
      clear hw4 hE q0 q1 q2 htt hb4 HAR
      by_cases hj0 : j = 0
      · subst hj0
        as_aux_lemma =>
          refine wp_region_held_drew (S := AtS Q E y0 (adr p, k, t)) (by kernel_rfl) (HAS.out.drew).self (fun hHeld => ?_)
          have HAS2 := Lib.hid (HAS.out.drew)
          clear HAS HB4
          generalize w4.drew = x4 at *
          refine wpAnyH_take (i := 0) (v := (.int .i64 ((0 : Nat) : Int))) rfl (by kernel_rfl) (by kernel_rfl) (by kernel_rfl) (fun _ _ _ h => h) (Or.inl ⟨by rfl, fun X hS => ?_⟩) hHeld ?_
          · obtain ⟨⟨p0, p1, p2⟩, q0, q1, q2⟩ := AtS.all hS
            go_simp
          try simp only [Act.put, List.getElem_toArray, List.getElem_cons_zero, List.getElem_cons_succ, List.setIfInBounds_toArray, List.set_cons_zero, List.set_cons_succ]
          refine wpAnyH_take (i := 1) (v := (.bool false)) rfl (by kernel_rfl) (by kernel_rfl) (by kernel_rfl) (fun _ _ _ h => h) (Or.inl ⟨by rfl, fun X hS => ?_⟩) hHeld ?_
          · obtain ⟨⟨p0, p1, p2⟩, q0, q1, q2⟩ := AtS.all hS
            go_simp
          try simp only [Act.put, List.getElem_toArray, List.getElem_cons_zero, List.getElem_cons_succ, List.setIfInBounds_toArray, List.set_cons_zero, List.set_cons_succ]
          refine wpAnyH_take (i := 2) (v := (.bool false)) rfl (by kernel_rfl) (by kernel_rfl) (by kernel_rfl) (fun _ _ _ h => h) (Or.inl ⟨by rfl, fun X hS => ?_⟩) hHeld ?_
          · obtain ⟨⟨p0, p1, p2⟩, q0, q1, q2⟩ := AtS.all hS
            go_simp
          try simp only [Act.put, List.getElem_toArray, List.getElem_cons_zero, List.getElem_cons_succ, List.setIfInBounds_toArray, List.set_cons_zero, List.set_cons_succ]
          refine wpAnyH_take (i := 3) (v := undef) rfl (by kernel_rfl) (by kernel_rfl) (by kernel_rfl) (fun _ _ _ h => h) (Or.inr ⟨by rfl, rfl⟩) hHeld ?_
          try simp only [Act.put, List.getElem_toArray, List.getElem_cons_zero, List.getElem_cons_succ, List.setIfInBounds_toArray, List.set_cons_zero, List.set_cons_succ]
          refine wpAnyH_take (i := 4) (v := undef) rfl (by kernel_rfl) (by kernel_rfl) (by kernel_rfl) (fun _ _ _ h => h) (Or.inr ⟨by rfl, rfl⟩) hHeld ?_
          try simp only [Act.put, List.getElem_toArray, List.getElem_cons_zero, List.getElem_cons_succ, List.setIfInBounds_toArray, List.set_cons_zero, List.set_cons_succ]
          refine wpAnyH_take (i := 5) (v := undef) rfl (by kernel_rfl) (by kernel_rfl) (by kernel_rfl) (fun _ _ _ h => h) (Or.inr ⟨by rfl, rfl⟩) hHeld ?_
          try simp only [Act.put, List.getElem_toArray, List.getElem_cons_zero, List.getElem_cons_succ, List.setIfInBounds_toArray, List.set_cons_zero, List.set_cons_succ]
          refine wpAnyH_take (i := 6) (v := (.bool false)) rfl (by kernel_rfl) (by kernel_rfl) (by kernel_rfl) (fun _ _ _ h => h) (Or.inl ⟨by rfl, fun X hS => ?_⟩) hHeld ?_
          · obtain ⟨⟨p0, p1, p2⟩, q0, q1, q2⟩ := AtS.all hS
            go_simp
          try simp only [Act.put, List.getElem_toArray, List.getElem_cons_zero, List.getElem_cons_succ, List.setIfInBounds_toArray, List.set_cons_zero, List.set_cons_succ]
          refine wpAnyH_take (i := 7) (v := (.bool false)) rfl (by kernel_rfl) (by kernel_rfl) (by kernel_rfl) (fun _ _ _ h => h) (Or.inl ⟨by rfl, fun X hS => ?_⟩) hHeld ?_
          · obtain ⟨⟨p0, p1, p2⟩, q0, q1, q2⟩ := AtS.all hS
            go_simp
          try simp only [Act.put, List.getElem_toArray, List.getElem_cons_zero, List.getElem_cons_succ, List.setIfInBounds_toArray, List.set_cons_zero, List.set_cons_succ]
          refine wpAnyH_take (i := 8) (v := undef) rfl (by kernel_rfl) (by kernel_rfl) (by kernel_rfl) (fun _ _ _ h => h) (Or.inr ⟨by rfl, rfl⟩) hHeld ?_
          try simp only [Act.put, List.getElem_toArray, List.getElem_cons_zero, List.getElem_cons_succ, List.setIfInBounds_toArray, List.set_cons_zero, List.set_cons_succ]
          refine wpAnyH_take (i := 9) (v := undef) rfl (by kernel_rfl) (by kernel_rfl) (by kernel_rfl) (fun _ _ _ h => h) (Or.inr ⟨by rfl, rfl⟩) hHeld ?_
          try simp only [Act.put, List.getElem_toArray, List.getElem_cons_zero, List.getElem_cons_succ, List.setIfInBounds_toArray, List.set_cons_zero, List.set_cons_succ]
          refine wpAnyH_take (i := 10) (v := undef) rfl (by kernel_rfl) (by kernel_rfl) (by kernel_rfl) (fun _ _ _ h => h) (Or.inr ⟨by rfl, rfl⟩) hHeld ?_
          try simp only [Act.put, List.getElem_toArray, List.getElem_cons_zero, List.getElem_cons_succ, List.setIfInBounds_toArray, List.set_cons_zero, List.set_cons_succ]
          refine wpAnyH_take (i := 11) (v := (.bool false)) rfl (by kernel_rfl) (by kernel_rfl) (by kernel_rfl) (fun _ _ _ h => h) (Or.inl ⟨by rfl, fun X hS => ?_⟩) hHeld ?_
          · obtain ⟨⟨p0, p1, p2⟩, q0, q1, q2⟩ := AtS.all hS
            go_simp
          try simp only [Act.put, List.getElem_toArray, List.getElem_cons_zero, List.getElem_cons_succ, List.setIfInBounds_toArray, List.set_cons_zero, List.set_cons_succ]
          refine wpAnyH_take (i := 12) (v := (.bool false)) rfl (by kernel_rfl) (by kernel_rfl) (by kernel_rfl) (fun _ _ _ h => h) (Or.inl ⟨by rfl, fun X hS => ?_⟩) hHeld ?_
          · obtain ⟨⟨p0, p1, p2⟩, q0, q1, q2⟩ := AtS.all hS
            go_simp
          try simp only [Act.put, List.getElem_toArray, List.getElem_cons_zero, List.getElem_cons_succ, List.setIfInBounds_toArray, List.set_cons_zero, List.set_cons_succ]
          refine wpAnyH_take (i := 13) (v := undef) rfl (by kernel_rfl) (by kernel_rfl) (by kernel_rfl) (fun _ _ _ h => h) (Or.inr ⟨by rfl, rfl⟩) hHeld ?_
          try simp only [Act.put, List.getElem_toArray, List.getElem_cons_zero, List.getElem_cons_succ, List.setIfInBounds_toArray, List.set_cons_zero, List.set_cons_succ]
          refine wpAnyH_take (i := 14) (v := undef) rfl (by kernel_rfl) (by kernel_rfl) (by kernel_rfl) (fun _ _ _ h => h) (Or.inr ⟨by rfl, rfl⟩) hHeld ?_
          try simp only [Act.put, List.getElem_toArray, List.getElem_cons_zero, List.getElem_cons_succ, List.setIfInBounds_toArray, List.set_cons_zero, List.set_cons_succ]
          refine wpAnyH_take (i := 15) (v := undef) rfl (by kernel_rfl) (by kernel_rfl) (by kernel_rfl) (fun _ _ _ h => h) (Or.inr ⟨by rfl, rfl⟩) hHeld ?_
          try simp only [Act.put, List.getElem_toArray, List.getElem_cons_zero, List.getElem_cons_succ, List.setIfInBounds_toArray, List.set_cons_zero, List.set_cons_succ]
          refine wpAnyH_take (i := 16) (v := undef) rfl (by kernel_rfl) (by kernel_rfl) (by kernel_rfl) (fun _ _ _ h => h) (Or.inr ⟨by rfl, rfl⟩) hHeld ?_
          try simp only [Act.put, List.getElem_toArray, List.getElem_cons_zero, List.getElem_cons_succ, List.setIfInBounds_toArray, List.set_cons_zero, List.set_cons_succ]
          refine wpAnyH_take (i := 17) (v := undef) rfl (by kernel_rfl) (by kernel_rfl) (by kernel_rfl) (fun _ _ _ h => h) (Or.inr ⟨by rfl, rfl⟩) hHeld ?_
          try simp only [Act.put, List.getElem_toArray, List.getElem_cons_zero, List.getElem_cons_succ, List.setIfInBounds_toArray, List.set_cons_zero, List.set_cons_succ]
          refine wpAnyH_take (i := 18) (v := (.bool false)) rfl (by kernel_rfl) (by kernel_rfl) (by kernel_rfl) (fun _ _ _ h => h) (Or.inl ⟨by rfl, fun X hS => ?_⟩) hHeld ?_
          · obtain ⟨⟨p0, p1, p2⟩, q0, q1, q2⟩ := AtS.all hS
            go_simp
          try simp only [Act.put, List.getElem_toArray, List.getElem_cons_zero, List.getElem_cons_succ, List.setIfInBounds_toArray, List.set_cons_zero, List.set_cons_succ]
          refine wpAnyH_take (i := 19) (v := (.bool false)) rfl (by kernel_rfl) (by kernel_rfl) (by kernel_rfl) (fun _ _ _ h => h) (Or.inl ⟨by rfl, fun X hS => ?_⟩) hHeld ?_
          · obtain ⟨⟨p0, p1, p2⟩, q0, q1, q2⟩ := AtS.all hS
            go_simp
          try simp only [Act.put, List.getElem_toArray, List.getElem_cons_zero, List.getElem_cons_succ, List.setIfInBounds_toArray, List.set_cons_zero, List.set_cons_succ]
          refine wpAnyH_take (i := 20) (v := undef) rfl (by kernel_rfl) (by kernel_rfl) (by kernel_rfl) (fun _ _ _ h => h) (Or.inr ⟨by rfl, rfl⟩) hHeld ?_
          try simp only [Act.put, List.getElem_toArray, List.getElem_cons_zero, List.getElem_cons_succ, List.setIfInBounds_toArray, List.set_cons_zero, List.set_cons_succ]
          refine wpAnyH_take (i := 21) (v := undef) rfl (by kernel_rfl) (by kernel_rfl) (by kernel_rfl) (fun _ _ _ h => h) (Or.inr ⟨by rfl, rfl⟩) hHeld ?_
          try simp only [Act.put, List.getElem_toArray, List.getElem_cons_zero, List.getElem_cons_succ, List.setIfInBounds_toArray, List.set_cons_zero, List.set_cons_succ]
          refine wpAnyH_take (i := 22) (v := undef) rfl (by kernel_rfl) (by kernel_rfl) (by kernel_rfl) (fun _ _ _ h => h) (Or.inr ⟨by rfl, rfl⟩) hHeld ?_
          try simp only [Act.put, List.getElem_toArray, List.getElem_cons_zero, List.getElem_cons_succ, List.setIfInBounds_toArray, List.set_cons_zero, List.set_cons_succ]
          refine wpAnyH_take (i := 23) (v := (.bool false)) rfl (by kernel_rfl) (by kernel_rfl) (by kernel_rfl) (fun _ _ _ h => h) (Or.inl ⟨by rfl, fun X hS => ?_⟩) hHeld ?_
          · obtain ⟨⟨p0, p1, p2⟩, q0, q1, q2⟩ := AtS.all hS
            go_simp
          try simp only [Act.put, List.getElem_toArray, List.getElem_cons_zero, List.getElem_cons_succ, List.setIfInBounds_toArray, List.set_cons_zero, List.set_cons_succ]
          refine wpAnyH_take (i := 24) (v := (.bool false)) rfl (by kernel_rfl) (by kernel_rfl) (by kernel_rfl) (fun _ _ _ h => h) (Or.inl ⟨by rfl, fun X hS => ?_⟩) hHeld ?_
          · obtain ⟨⟨p0, p1, p2⟩, q0, q1, q2⟩ := AtS.all hS
            go_simp
          try simp only [Act.put, List.getElem_toArray, List.getElem_cons_zero, List.getElem_cons_succ, List.setIfInBounds_toArray, List.set_cons_zero, List.set_cons_succ]
          refine wpAnyH_take (i := 25) (v := undef) rfl (by kernel_rfl) (by kernel_rfl) (by kernel_rfl) (fun _ _ _ h => h) (Or.inr ⟨by rfl, rfl⟩) hHeld ?_
          try simp only [Act.put, List.getElem_toArray, List.getElem_cons_zero, List.getElem_cons_succ, List.setIfInBounds_toArray, List.set_cons_zero, List.set_cons_succ]
          refine wpAnyH_take (i := 26) (v := undef) rfl (by kernel_rfl) (by kernel_rfl) (by kernel_rfl) (fun _ _ _ h => h) (Or.inr ⟨by rfl, rfl⟩) hHeld ?_
          try simp only [Act.put, List.getElem_toArray, List.getElem_cons_zero, List.getElem_cons_succ, List.setIfInBounds_toArray, List.set_cons_zero, List.set_cons_succ]
          refine wpAnyH_take (i := 27) (v := undef) rfl (by kernel_rfl) (by kernel_rfl) (by kernel_rfl) (fun _ _ _ h => h) (Or.inr ⟨by rfl, rfl⟩) hHeld ?_
          try simp only [Act.put, List.getElem_toArray, List.getElem_cons_zero, List.getElem_cons_succ, List.setIfInBounds_toArray, List.set_cons_zero, List.set_cons_succ]
          refine wpAnyH_take (i := 28) (v := undef) rfl (by kernel_rfl) (by kernel_rfl) (by kernel_rfl) (fun _ _ _ h => h) (Or.inr ⟨by rfl, rfl⟩) hHeld ?_
          try simp only [Act.put, List.getElem_toArray, List.getElem_cons_zero, List.getElem_cons_succ, List.setIfInBounds_toArray, List.set_cons_zero, List.set_cons_succ]
          refine wpAnyH_take (i := 29) (v := undef) rfl (by kernel_rfl) (by kernel_rfl) (by kernel_rfl) (fun _ _ _ h => h) (Or.inr ⟨by rfl, rfl⟩) hHeld ?_
          try simp only [Act.put, List.getElem_toArray, List.getElem_cons_zero, List.getElem_cons_succ, List.setIfInBounds_toArray, List.set_cons_zero, List.set_cons_succ]
          refine wpAnyH_take (i := 30) (v := undef) rfl (by kernel_rfl) (by kernel_rfl) (by kernel_rfl) (fun _ _ _ h => h) (Or.inr ⟨by rfl, rfl⟩) hHeld ?_
          try simp only [Act.put, List.getElem_toArray, List.getElem_cons_zero, List.getElem_cons_succ, List.setIfInBounds_toArray, List.set_cons_zero, List.set_cons_succ]
          refine wpAnyH_take (i := 31) (v := undef) rfl (by kernel_rfl) (by kernel_rfl) (by kernel_rfl) (fun _ _ _ h => h) (Or.inr ⟨by rfl, rfl⟩) hHeld ?_
          try simp only [Act.put, List.getElem_toArray, List.getElem_cons_zero, List.getElem_cons_succ, List.setIfInBounds_toArray, List.set_cons_zero, List.set_cons_succ]
          refine wpAnyH_take (i := 32) (v := undef) rfl (by kernel_rfl) (by kernel_rfl) (by kernel_rfl) (fun _ _ _ h => h) (Or.inr ⟨by rfl, rfl⟩) hHeld ?_
          try simp only [Act.put, List.getElem_toArray, List.getElem_cons_zero, List.getElem_cons_succ, List.setIfInBounds_toArray, List.set_cons_zero, List.set_cons_succ]
          refine wpAnyH_take (i := 33) (v := (.bool false)) rfl (by kernel_rfl) (by kernel_rfl) (by kernel_rfl) (fun _ _ _ h => h) (Or.inl ⟨by rfl, fun X hS => ?_⟩) hHeld ?_
          · obtain ⟨⟨p0, p1, p2⟩, q0, q1, q2⟩ := AtS.all hS
            go_simp
          try simp only [Act.put, List.getElem_toArray, List.getElem_cons_zero, List.getElem_cons_succ, List.setIfInBounds_toArray, List.set_cons_zero, List.set_cons_succ]
          refine wpAnyH_done (by kernel_rfl) ?_ _
          clear hHeld
          have HAS6 := Lib.hid HAS2.out
          clear HAS2
          obtain ⟨⟨p0, p1, p2⟩, q0, q1, q2⟩ := HAS6.out.st.all
          obtain ⟨f0, f1, f2⟩ := HAS6.out.free
          have hst := HAS6.out.store
          simp only at hst
          go_upto_region 8 with fail
          change Code.wp _ _ _ _ (ah3 x4 Q (.int .i64 (adr p : Int)) (.int .i64 (k : Int)) (.bool t))
          obtain ⟨z, hz⟩ : ∃ z, ah3 x4 Q (.int .i64 (adr p : Int)) (.int .i64 (k : Int)) (.bool t) = z := ⟨_, rfl⟩
          rw [hz] at hst ⊢
          have HST := Lib.hid hst
          clear hz hst p0 p1 p2 q0 q1 q2 f0 f1 f2 HAS6
          obtain ⟨hjn, hnl80⟩ := HJN.out
          go_wp2_with fail
          go_roundw
          case rel => exact ⟨0 + 1, p + 2 ^ k, (adr p, k, t), by omega, by go_num, HI2, HAH, HST⟩
          case measure => first | (simp [intOf]; omega) | simp [intOf]

      · rcases HAF.out with hj1 | ⟨i0, k0, t0, rfl, hR0, hip, hi2⟩
        · exact absurd hj1 hj0
        · have hjp : (0 : Int) < (j : Int) := by omega
          have hjp2 : 0 < j := by omega
          clear hj0
          cases t0 with
          | true =>
            as_aux_lemma =>
              refine wp_region_held_drew (S := AtS Q E (adr i0, k0, true) (adr p, k, t)) (by kernel_rfl) (HAS.out.drew).self (fun hHeld => ?_)
              have HAS2 := Lib.hid (HAS.out.drew)
              clear HAS HB4
              generalize w4.drew = x4 at *
              refine wpAnyH_take (i := 0) (v := (.int .i64 (j : Int))) rfl (by kernel_rfl) (by kernel_rfl) (by kernel_rfl) (fun _ _ _ h => h) (Or.inl ⟨by rfl, fun X hS => ?_⟩) hHeld ?_
              · obtain ⟨⟨p0, p1, p2⟩, q0, q1, q2⟩ := AtS.all hS
                go_simp
              try simp only [Act.put, List.getElem_toArray, List.getElem_cons_zero, List.getElem_cons_succ, List.setIfInBounds_toArray, List.set_cons_zero, List.set_cons_succ]
              refine wpAnyH_take (i := 1) (v := (.bool true)) rfl (by kernel_rfl) (by kernel_rfl) (by kernel_rfl) (fun _ _ _ h => h) (Or.inl ⟨by rfl, fun X hS => ?_⟩) hHeld ?_
              · obtain ⟨⟨p0, p1, p2⟩, q0, q1, q2⟩ := AtS.all hS
                go_simp
              try simp only [Act.put, List.getElem_toArray, List.getElem_cons_zero, List.getElem_cons_succ, List.setIfInBounds_toArray, List.set_cons_zero, List.set_cons_succ]
              refine wpAnyH_take (i := 2) (v := (.bool true)) rfl (by kernel_rfl) (by kernel_rfl) (by kernel_rfl) (fun _ _ _ h => h) (Or.inl ⟨by rfl, fun X hS => ?_⟩) hHeld ?_
              · obtain ⟨⟨p0, p1, p2⟩, q0, q1, q2⟩ := AtS.all hS
                go_simp
              try simp only [Act.put, List.getElem_toArray, List.getElem_cons_zero, List.getElem_cons_succ, List.setIfInBounds_toArray, List.set_cons_zero, List.set_cons_succ]
              refine wpAnyH_take (i := 3) (v := (.pointer (some ⟨Q, 2, none⟩))) rfl (by kernel_rfl) (by kernel_rfl) (by kernel_rfl) (fun _ _ _ h => h) (Or.inl ⟨by rfl, fun X hS => ?_⟩) hHeld ?_
              · obtain ⟨⟨p0, p1, p2⟩, q0, q1, q2⟩ := AtS.all hS
                go_simp
              try simp only [Act.put, List.getElem_toArray, List.getElem_cons_zero, List.getElem_cons_succ, List.setIfInBounds_toArray, List.set_cons_zero, List.set_cons_succ]
              refine wpAnyH_take (i := 4) (v := (.bool true)) rfl (by kernel_rfl) (by kernel_rfl) (by kernel_rfl) (fun _ _ _ h => h) (Or.inl ⟨by rfl, fun X hS => ?_⟩) hHeld ?_
              · obtain ⟨⟨p0, p1, p2⟩, q0, q1, q2⟩ := AtS.all hS
                go_simp
              try simp only [Act.put, List.getElem_toArray, List.getElem_cons_zero, List.getElem_cons_succ, List.setIfInBounds_toArray, List.set_cons_zero, List.set_cons_succ]
              refine wpAnyH_take (i := 5) (v := (.bool false)) rfl (by kernel_rfl) (by kernel_rfl) (by kernel_rfl) (fun _ _ _ h => h) (Or.inl ⟨by rfl, fun X hS => ?_⟩) hHeld ?_
              · obtain ⟨⟨p0, p1, p2⟩, q0, q1, q2⟩ := AtS.all hS
                go_simp
              try simp only [Act.put, List.getElem_toArray, List.getElem_cons_zero, List.getElem_cons_succ, List.setIfInBounds_toArray, List.set_cons_zero, List.set_cons_succ]
              refine wpAnyH_take (i := 6) (v := (.bool false)) rfl (by kernel_rfl) (by kernel_rfl) (by kernel_rfl) (fun _ _ _ h => h) (Or.inl ⟨by rfl, fun X hS => ?_⟩) hHeld ?_
              · obtain ⟨⟨p0, p1, p2⟩, q0, q1, q2⟩ := AtS.all hS
                go_simp
              try simp only [Act.put, List.getElem_toArray, List.getElem_cons_zero, List.getElem_cons_succ, List.setIfInBounds_toArray, List.set_cons_zero, List.set_cons_succ]
              refine wpAnyH_take (i := 7) (v := (.bool false)) rfl (by kernel_rfl) (by kernel_rfl) (by kernel_rfl) (fun _ _ _ h => h) (Or.inl ⟨by rfl, fun X hS => ?_⟩) hHeld ?_
              · obtain ⟨⟨p0, p1, p2⟩, q0, q1, q2⟩ := AtS.all hS
                go_simp
              try simp only [Act.put, List.getElem_toArray, List.getElem_cons_zero, List.getElem_cons_succ, List.setIfInBounds_toArray, List.set_cons_zero, List.set_cons_succ]
              refine wpAnyH_take (i := 8) (v := undef) rfl (by kernel_rfl) (by kernel_rfl) (by kernel_rfl) (fun _ _ _ h => h) (Or.inr ⟨by rfl, rfl⟩) hHeld ?_
              try simp only [Act.put, List.getElem_toArray, List.getElem_cons_zero, List.getElem_cons_succ, List.setIfInBounds_toArray, List.set_cons_zero, List.set_cons_succ]
              refine wpAnyH_take (i := 9) (v := undef) rfl (by kernel_rfl) (by kernel_rfl) (by kernel_rfl) (fun _ _ _ h => h) (Or.inr ⟨by rfl, rfl⟩) hHeld ?_
              try simp only [Act.put, List.getElem_toArray, List.getElem_cons_zero, List.getElem_cons_succ, List.setIfInBounds_toArray, List.set_cons_zero, List.set_cons_succ]
              refine wpAnyH_take (i := 10) (v := undef) rfl (by kernel_rfl) (by kernel_rfl) (by kernel_rfl) (fun _ _ _ h => h) (Or.inr ⟨by rfl, rfl⟩) hHeld ?_
              try simp only [Act.put, List.getElem_toArray, List.getElem_cons_zero, List.getElem_cons_succ, List.setIfInBounds_toArray, List.set_cons_zero, List.set_cons_succ]
              refine wpAnyH_take (i := 11) (v := (.bool false)) rfl (by kernel_rfl) (by kernel_rfl) (by kernel_rfl) (fun _ _ _ h => h) (Or.inl ⟨by rfl, fun X hS => ?_⟩) hHeld ?_
              · obtain ⟨⟨p0, p1, p2⟩, q0, q1, q2⟩ := AtS.all hS
                go_simp
              try simp only [Act.put, List.getElem_toArray, List.getElem_cons_zero, List.getElem_cons_succ, List.setIfInBounds_toArray, List.set_cons_zero, List.set_cons_succ]
              refine wpAnyH_take (i := 12) (v := (.bool false)) rfl (by kernel_rfl) (by kernel_rfl) (by kernel_rfl) (fun _ _ _ h => h) (Or.inl ⟨by rfl, fun X hS => ?_⟩) hHeld ?_
              · obtain ⟨⟨p0, p1, p2⟩, q0, q1, q2⟩ := AtS.all hS
                go_simp
              try simp only [Act.put, List.getElem_toArray, List.getElem_cons_zero, List.getElem_cons_succ, List.setIfInBounds_toArray, List.set_cons_zero, List.set_cons_succ]
              refine wpAnyH_take (i := 13) (v := undef) rfl (by kernel_rfl) (by kernel_rfl) (by kernel_rfl) (fun _ _ _ h => h) (Or.inr ⟨by rfl, rfl⟩) hHeld ?_
              try simp only [Act.put, List.getElem_toArray, List.getElem_cons_zero, List.getElem_cons_succ, List.setIfInBounds_toArray, List.set_cons_zero, List.set_cons_succ]
              refine wpAnyH_take (i := 14) (v := undef) rfl (by kernel_rfl) (by kernel_rfl) (by kernel_rfl) (fun _ _ _ h => h) (Or.inr ⟨by rfl, rfl⟩) hHeld ?_
              try simp only [Act.put, List.getElem_toArray, List.getElem_cons_zero, List.getElem_cons_succ, List.setIfInBounds_toArray, List.set_cons_zero, List.set_cons_succ]
              refine wpAnyH_take (i := 15) (v := undef) rfl (by kernel_rfl) (by kernel_rfl) (by kernel_rfl) (fun _ _ _ h => h) (Or.inr ⟨by rfl, rfl⟩) hHeld ?_
              try simp only [Act.put, List.getElem_toArray, List.getElem_cons_zero, List.getElem_cons_succ, List.setIfInBounds_toArray, List.set_cons_zero, List.set_cons_succ]
              refine wpAnyH_take (i := 16) (v := undef) rfl (by kernel_rfl) (by kernel_rfl) (by kernel_rfl) (fun _ _ _ h => h) (Or.inr ⟨by rfl, rfl⟩) hHeld ?_
              try simp only [Act.put, List.getElem_toArray, List.getElem_cons_zero, List.getElem_cons_succ, List.setIfInBounds_toArray, List.set_cons_zero, List.set_cons_succ]
              refine wpAnyH_take (i := 17) (v := undef) rfl (by kernel_rfl) (by kernel_rfl) (by kernel_rfl) (fun _ _ _ h => h) (Or.inr ⟨by rfl, rfl⟩) hHeld ?_
              try simp only [Act.put, List.getElem_toArray, List.getElem_cons_zero, List.getElem_cons_succ, List.setIfInBounds_toArray, List.set_cons_zero, List.set_cons_succ]
              refine wpAnyH_take (i := 18) (v := (.bool false)) rfl (by kernel_rfl) (by kernel_rfl) (by kernel_rfl) (fun _ _ _ h => h) (Or.inl ⟨by rfl, fun X hS => ?_⟩) hHeld ?_
              · obtain ⟨⟨p0, p1, p2⟩, q0, q1, q2⟩ := AtS.all hS
                go_simp
              try simp only [Act.put, List.getElem_toArray, List.getElem_cons_zero, List.getElem_cons_succ, List.setIfInBounds_toArray, List.set_cons_zero, List.set_cons_succ]
              refine wpAnyH_take (i := 19) (v := (.bool false)) rfl (by kernel_rfl) (by kernel_rfl) (by kernel_rfl) (fun _ _ _ h => h) (Or.inl ⟨by rfl, fun X hS => ?_⟩) hHeld ?_
              · obtain ⟨⟨p0, p1, p2⟩, q0, q1, q2⟩ := AtS.all hS
                go_simp
              try simp only [Act.put, List.getElem_toArray, List.getElem_cons_zero, List.getElem_cons_succ, List.setIfInBounds_toArray, List.set_cons_zero, List.set_cons_succ]
              refine wpAnyH_take (i := 20) (v := undef) rfl (by kernel_rfl) (by kernel_rfl) (by kernel_rfl) (fun _ _ _ h => h) (Or.inr ⟨by rfl, rfl⟩) hHeld ?_
              try simp only [Act.put, List.getElem_toArray, List.getElem_cons_zero, List.getElem_cons_succ, List.setIfInBounds_toArray, List.set_cons_zero, List.set_cons_succ]
              refine wpAnyH_take (i := 21) (v := undef) rfl (by kernel_rfl) (by kernel_rfl) (by kernel_rfl) (fun _ _ _ h => h) (Or.inr ⟨by rfl, rfl⟩) hHeld ?_
              try simp only [Act.put, List.getElem_toArray, List.getElem_cons_zero, List.getElem_cons_succ, List.setIfInBounds_toArray, List.set_cons_zero, List.set_cons_succ]
              refine wpAnyH_take (i := 22) (v := undef) rfl (by kernel_rfl) (by kernel_rfl) (by kernel_rfl) (fun _ _ _ h => h) (Or.inr ⟨by rfl, rfl⟩) hHeld ?_
              try simp only [Act.put, List.getElem_toArray, List.getElem_cons_zero, List.getElem_cons_succ, List.setIfInBounds_toArray, List.set_cons_zero, List.set_cons_succ]
              refine wpAnyH_take (i := 23) (v := (.bool false)) rfl (by kernel_rfl) (by kernel_rfl) (by kernel_rfl) (fun _ _ _ h => h) (Or.inl ⟨by rfl, fun X hS => ?_⟩) hHeld ?_
              · obtain ⟨⟨p0, p1, p2⟩, q0, q1, q2⟩ := AtS.all hS
                go_simp
              try simp only [Act.put, List.getElem_toArray, List.getElem_cons_zero, List.getElem_cons_succ, List.setIfInBounds_toArray, List.set_cons_zero, List.set_cons_succ]
              refine wpAnyH_take (i := 24) (v := (.bool false)) rfl (by kernel_rfl) (by kernel_rfl) (by kernel_rfl) (fun _ _ _ h => h) (Or.inl ⟨by rfl, fun X hS => ?_⟩) hHeld ?_
              · obtain ⟨⟨p0, p1, p2⟩, q0, q1, q2⟩ := AtS.all hS
                go_simp
              try simp only [Act.put, List.getElem_toArray, List.getElem_cons_zero, List.getElem_cons_succ, List.setIfInBounds_toArray, List.set_cons_zero, List.set_cons_succ]
              refine wpAnyH_take (i := 25) (v := undef) rfl (by kernel_rfl) (by kernel_rfl) (by kernel_rfl) (fun _ _ _ h => h) (Or.inr ⟨by rfl, rfl⟩) hHeld ?_
              try simp only [Act.put, List.getElem_toArray, List.getElem_cons_zero, List.getElem_cons_succ, List.setIfInBounds_toArray, List.set_cons_zero, List.set_cons_succ]
              refine wpAnyH_take (i := 26) (v := undef) rfl (by kernel_rfl) (by kernel_rfl) (by kernel_rfl) (fun _ _ _ h => h) (Or.inr ⟨by rfl, rfl⟩) hHeld ?_
              try simp only [Act.put, List.getElem_toArray, List.getElem_cons_zero, List.getElem_cons_succ, List.setIfInBounds_toArray, List.set_cons_zero, List.set_cons_succ]
              refine wpAnyH_take (i := 27) (v := undef) rfl (by kernel_rfl) (by kernel_rfl) (by kernel_rfl) (fun _ _ _ h => h) (Or.inr ⟨by rfl, rfl⟩) hHeld ?_
              try simp only [Act.put, List.getElem_toArray, List.getElem_cons_zero, List.getElem_cons_succ, List.setIfInBounds_toArray, List.set_cons_zero, List.set_cons_succ]
              refine wpAnyH_take (i := 28) (v := undef) rfl (by kernel_rfl) (by kernel_rfl) (by kernel_rfl) (fun _ _ _ h => h) (Or.inr ⟨by rfl, rfl⟩) hHeld ?_
              try simp only [Act.put, List.getElem_toArray, List.getElem_cons_zero, List.getElem_cons_succ, List.setIfInBounds_toArray, List.set_cons_zero, List.set_cons_succ]
              refine wpAnyH_take (i := 29) (v := undef) rfl (by kernel_rfl) (by kernel_rfl) (by kernel_rfl) (fun _ _ _ h => h) (Or.inr ⟨by rfl, rfl⟩) hHeld ?_
              try simp only [Act.put, List.getElem_toArray, List.getElem_cons_zero, List.getElem_cons_succ, List.setIfInBounds_toArray, List.set_cons_zero, List.set_cons_succ]
              refine wpAnyH_take (i := 30) (v := undef) rfl (by kernel_rfl) (by kernel_rfl) (by kernel_rfl) (fun _ _ _ h => h) (Or.inr ⟨by rfl, rfl⟩) hHeld ?_
              try simp only [Act.put, List.getElem_toArray, List.getElem_cons_zero, List.getElem_cons_succ, List.setIfInBounds_toArray, List.set_cons_zero, List.set_cons_succ]
              refine wpAnyH_take (i := 31) (v := undef) rfl (by kernel_rfl) (by kernel_rfl) (by kernel_rfl) (fun _ _ _ h => h) (Or.inr ⟨by rfl, rfl⟩) hHeld ?_
              try simp only [Act.put, List.getElem_toArray, List.getElem_cons_zero, List.getElem_cons_succ, List.setIfInBounds_toArray, List.set_cons_zero, List.set_cons_succ]
              refine wpAnyH_take (i := 32) (v := undef) rfl (by kernel_rfl) (by kernel_rfl) (by kernel_rfl) (fun _ _ _ h => h) (Or.inr ⟨by rfl, rfl⟩) hHeld ?_
              try simp only [Act.put, List.getElem_toArray, List.getElem_cons_zero, List.getElem_cons_succ, List.setIfInBounds_toArray, List.set_cons_zero, List.set_cons_succ]
              refine wpAnyH_take (i := 33) (v := (.bool false)) rfl (by kernel_rfl) (by kernel_rfl) (by kernel_rfl) (fun _ _ _ h => h) (Or.inl ⟨by rfl, fun X hS => ?_⟩) hHeld ?_
              · obtain ⟨⟨p0, p1, p2⟩, q0, q1, q2⟩ := AtS.all hS
                go_simp
              try simp only [Act.put, List.getElem_toArray, List.getElem_cons_zero, List.getElem_cons_succ, List.setIfInBounds_toArray, List.set_cons_zero, List.set_cons_succ]
              refine wpAnyH_done (by kernel_rfl) ?_ _
              clear hHeld
              have HAS6 := Lib.hid HAS2.out
              clear HAS2
              obtain ⟨⟨p0, p1, p2⟩, q0, q1, q2⟩ := HAS6.out.st.all
              obtain ⟨f0, f1, f2⟩ := HAS6.out.free
              have hst := HAS6.out.store
              simp only at hst
              go_upto_region 8 with fail
              change Code.wp _ _ _ _ (ah3 x4 Q (.int .i64 (adr p : Int)) (.int .i64 (k : Int)) (.bool t))
              obtain ⟨z, hz⟩ : ∃ z, ah3 x4 Q (.int .i64 (adr p : Int)) (.int .i64 (k : Int)) (.bool t) = z := ⟨_, rfl⟩
              rw [hz] at hst ⊢
              have HST := Lib.hid hst
              clear hz hst p0 p1 p2 q0 q1 q2 f0 f1 f2 HAS6
              obtain ⟨hjn, hnl80⟩ := HJN.out
              go_wp2_with fail
              go_roundw
              case rel => exact ⟨j + 1, p + 2 ^ k, (adr p, k, t), by omega, by go_num, HI2, HAH, HST⟩
              case measure => first | (simp [intOf]; omega) | simp [intOf]

          | false =>
            cases t with
            | true =>
              as_aux_lemma =>
                refine wp_region_held_drew (S := AtS Q E (adr i0, k0, false) (adr p, k, true)) (by kernel_rfl) (HAS.out.drew).self (fun hHeld => ?_)
                have HAS2 := Lib.hid (HAS.out.drew)
                clear HAS HB4
                generalize w4.drew = x4 at *
                refine wpAnyH_take (i := 0) (v := (.int .i64 (j : Int))) rfl (by kernel_rfl) (by kernel_rfl) (by kernel_rfl) (fun _ _ _ h => h) (Or.inl ⟨by rfl, fun X hS => ?_⟩) hHeld ?_
                · obtain ⟨⟨p0, p1, p2⟩, q0, q1, q2⟩ := AtS.all hS
                  go_simp
                try simp only [Act.put, List.getElem_toArray, List.getElem_cons_zero, List.getElem_cons_succ, List.setIfInBounds_toArray, List.set_cons_zero, List.set_cons_succ]
                refine wpAnyH_take (i := 1) (v := (.bool true)) rfl (by kernel_rfl) (by kernel_rfl) (by kernel_rfl) (fun _ _ _ h => h) (Or.inl ⟨by rfl, fun X hS => ?_⟩) hHeld ?_
                · obtain ⟨⟨p0, p1, p2⟩, q0, q1, q2⟩ := AtS.all hS
                  go_simp
                try simp only [Act.put, List.getElem_toArray, List.getElem_cons_zero, List.getElem_cons_succ, List.setIfInBounds_toArray, List.set_cons_zero, List.set_cons_succ]
                refine wpAnyH_take (i := 2) (v := (.bool true)) rfl (by kernel_rfl) (by kernel_rfl) (by kernel_rfl) (fun _ _ _ h => h) (Or.inl ⟨by rfl, fun X hS => ?_⟩) hHeld ?_
                · obtain ⟨⟨p0, p1, p2⟩, q0, q1, q2⟩ := AtS.all hS
                  go_simp
                try simp only [Act.put, List.getElem_toArray, List.getElem_cons_zero, List.getElem_cons_succ, List.setIfInBounds_toArray, List.set_cons_zero, List.set_cons_succ]
                refine wpAnyH_take (i := 3) (v := (.pointer (some ⟨Q, 2, none⟩))) rfl (by kernel_rfl) (by kernel_rfl) (by kernel_rfl) (fun _ _ _ h => h) (Or.inl ⟨by rfl, fun X hS => ?_⟩) hHeld ?_
                · obtain ⟨⟨p0, p1, p2⟩, q0, q1, q2⟩ := AtS.all hS
                  go_simp
                try simp only [Act.put, List.getElem_toArray, List.getElem_cons_zero, List.getElem_cons_succ, List.setIfInBounds_toArray, List.set_cons_zero, List.set_cons_succ]
                refine wpAnyH_take (i := 4) (v := (.bool false)) rfl (by kernel_rfl) (by kernel_rfl) (by kernel_rfl) (fun _ _ _ h => h) (Or.inl ⟨by rfl, fun X hS => ?_⟩) hHeld ?_
                · obtain ⟨⟨p0, p1, p2⟩, q0, q1, q2⟩ := AtS.all hS
                  go_simp
                try simp only [Act.put, List.getElem_toArray, List.getElem_cons_zero, List.getElem_cons_succ, List.setIfInBounds_toArray, List.set_cons_zero, List.set_cons_succ]
                refine wpAnyH_take (i := 5) (v := (.bool true)) rfl (by kernel_rfl) (by kernel_rfl) (by kernel_rfl) (fun _ _ _ h => h) (Or.inl ⟨by rfl, fun X hS => ?_⟩) hHeld ?_
                · obtain ⟨⟨p0, p1, p2⟩, q0, q1, q2⟩ := AtS.all hS
                  go_simp
                try simp only [Act.put, List.getElem_toArray, List.getElem_cons_zero, List.getElem_cons_succ, List.setIfInBounds_toArray, List.set_cons_zero, List.set_cons_succ]
                refine wpAnyH_take (i := 6) (v := (.bool true)) rfl (by kernel_rfl) (by kernel_rfl) (by kernel_rfl) (fun _ _ _ h => h) (Or.inl ⟨by rfl, fun X hS => ?_⟩) hHeld ?_
                · obtain ⟨⟨p0, p1, p2⟩, q0, q1, q2⟩ := AtS.all hS
                  go_simp
                try simp only [Act.put, List.getElem_toArray, List.getElem_cons_zero, List.getElem_cons_succ, List.setIfInBounds_toArray, List.set_cons_zero, List.set_cons_succ]
                refine wpAnyH_take (i := 7) (v := (.bool true)) rfl (by kernel_rfl) (by kernel_rfl) (by kernel_rfl) (fun _ _ _ h => h) (Or.inl ⟨by rfl, fun X hS => ?_⟩) hHeld ?_
                · obtain ⟨⟨p0, p1, p2⟩, q0, q1, q2⟩ := AtS.all hS
                  go_simp
                try simp only [Act.put, List.getElem_toArray, List.getElem_cons_zero, List.getElem_cons_succ, List.setIfInBounds_toArray, List.set_cons_zero, List.set_cons_succ]
                refine wpAnyH_take (i := 8) (v := (.pointer (some ⟨E, 2, none⟩))) rfl (by kernel_rfl) (by kernel_rfl) (by kernel_rfl) (fun _ _ _ h => h) (Or.inl ⟨by rfl, fun X hS => ?_⟩) hHeld ?_
                · obtain ⟨⟨p0, p1, p2⟩, q0, q1, q2⟩ := AtS.all hS
                  go_simp
                try simp only [Act.put, List.getElem_toArray, List.getElem_cons_zero, List.getElem_cons_succ, List.setIfInBounds_toArray, List.set_cons_zero, List.set_cons_succ]
                refine wpAnyH_take (i := 9) (v := (.bool true)) rfl (by kernel_rfl) (by kernel_rfl) (by kernel_rfl) (fun _ _ _ h => h) (Or.inl ⟨by rfl, fun X hS => ?_⟩) hHeld ?_
                · obtain ⟨⟨p0, p1, p2⟩, q0, q1, q2⟩ := AtS.all hS
                  go_simp
                try simp only [Act.put, List.getElem_toArray, List.getElem_cons_zero, List.getElem_cons_succ, List.setIfInBounds_toArray, List.set_cons_zero, List.set_cons_succ]
                refine wpAnyH_take (i := 10) (v := (.bool false)) rfl (by kernel_rfl) (by kernel_rfl) (by kernel_rfl) (fun _ _ _ h => h) (Or.inl ⟨by rfl, fun X hS => ?_⟩) hHeld ?_
                · obtain ⟨⟨p0, p1, p2⟩, q0, q1, q2⟩ := AtS.all hS
                  go_simp
                try simp only [Act.put, List.getElem_toArray, List.getElem_cons_zero, List.getElem_cons_succ, List.setIfInBounds_toArray, List.set_cons_zero, List.set_cons_succ]
                refine wpAnyH_take (i := 11) (v := (.bool false)) rfl (by kernel_rfl) (by kernel_rfl) (by kernel_rfl) (fun _ _ _ h => h) (Or.inl ⟨by rfl, fun X hS => ?_⟩) hHeld ?_
                · obtain ⟨⟨p0, p1, p2⟩, q0, q1, q2⟩ := AtS.all hS
                  go_simp
                try simp only [Act.put, List.getElem_toArray, List.getElem_cons_zero, List.getElem_cons_succ, List.setIfInBounds_toArray, List.set_cons_zero, List.set_cons_succ]
                refine wpAnyH_take (i := 12) (v := (.bool false)) rfl (by kernel_rfl) (by kernel_rfl) (by kernel_rfl) (fun _ _ _ h => h) (Or.inl ⟨by rfl, fun X hS => ?_⟩) hHeld ?_
                · obtain ⟨⟨p0, p1, p2⟩, q0, q1, q2⟩ := AtS.all hS
                  go_simp
                try simp only [Act.put, List.getElem_toArray, List.getElem_cons_zero, List.getElem_cons_succ, List.setIfInBounds_toArray, List.set_cons_zero, List.set_cons_succ]
                refine wpAnyH_take (i := 13) (v := undef) rfl (by kernel_rfl) (by kernel_rfl) (by kernel_rfl) (fun _ _ _ h => h) (Or.inr ⟨by rfl, rfl⟩) hHeld ?_
                try simp only [Act.put, List.getElem_toArray, List.getElem_cons_zero, List.getElem_cons_succ, List.setIfInBounds_toArray, List.set_cons_zero, List.set_cons_succ]
                refine wpAnyH_take (i := 14) (v := undef) rfl (by kernel_rfl) (by kernel_rfl) (by kernel_rfl) (fun _ _ _ h => h) (Or.inr ⟨by rfl, rfl⟩) hHeld ?_
                try simp only [Act.put, List.getElem_toArray, List.getElem_cons_zero, List.getElem_cons_succ, List.setIfInBounds_toArray, List.set_cons_zero, List.set_cons_succ]
                refine wpAnyH_take (i := 15) (v := undef) rfl (by kernel_rfl) (by kernel_rfl) (by kernel_rfl) (fun _ _ _ h => h) (Or.inr ⟨by rfl, rfl⟩) hHeld ?_
                try simp only [Act.put, List.getElem_toArray, List.getElem_cons_zero, List.getElem_cons_succ, List.setIfInBounds_toArray, List.set_cons_zero, List.set_cons_succ]
                refine wpAnyH_take (i := 16) (v := undef) rfl (by kernel_rfl) (by kernel_rfl) (by kernel_rfl) (fun _ _ _ h => h) (Or.inr ⟨by rfl, rfl⟩) hHeld ?_
                try simp only [Act.put, List.getElem_toArray, List.getElem_cons_zero, List.getElem_cons_succ, List.setIfInBounds_toArray, List.set_cons_zero, List.set_cons_succ]
                refine wpAnyH_take (i := 17) (v := undef) rfl (by kernel_rfl) (by kernel_rfl) (by kernel_rfl) (fun _ _ _ h => h) (Or.inr ⟨by rfl, rfl⟩) hHeld ?_
                try simp only [Act.put, List.getElem_toArray, List.getElem_cons_zero, List.getElem_cons_succ, List.setIfInBounds_toArray, List.set_cons_zero, List.set_cons_succ]
                refine wpAnyH_take (i := 18) (v := (.bool false)) rfl (by kernel_rfl) (by kernel_rfl) (by kernel_rfl) (fun _ _ _ h => h) (Or.inl ⟨by rfl, fun X hS => ?_⟩) hHeld ?_
                · obtain ⟨⟨p0, p1, p2⟩, q0, q1, q2⟩ := AtS.all hS
                  go_simp
                try simp only [Act.put, List.getElem_toArray, List.getElem_cons_zero, List.getElem_cons_succ, List.setIfInBounds_toArray, List.set_cons_zero, List.set_cons_succ]
                refine wpAnyH_take (i := 19) (v := (.bool false)) rfl (by kernel_rfl) (by kernel_rfl) (by kernel_rfl) (fun _ _ _ h => h) (Or.inl ⟨by rfl, fun X hS => ?_⟩) hHeld ?_
                · obtain ⟨⟨p0, p1, p2⟩, q0, q1, q2⟩ := AtS.all hS
                  go_simp
                try simp only [Act.put, List.getElem_toArray, List.getElem_cons_zero, List.getElem_cons_succ, List.setIfInBounds_toArray, List.set_cons_zero, List.set_cons_succ]
                refine wpAnyH_take (i := 20) (v := undef) rfl (by kernel_rfl) (by kernel_rfl) (by kernel_rfl) (fun _ _ _ h => h) (Or.inr ⟨by rfl, rfl⟩) hHeld ?_
                try simp only [Act.put, List.getElem_toArray, List.getElem_cons_zero, List.getElem_cons_succ, List.setIfInBounds_toArray, List.set_cons_zero, List.set_cons_succ]
                refine wpAnyH_take (i := 21) (v := undef) rfl (by kernel_rfl) (by kernel_rfl) (by kernel_rfl) (fun _ _ _ h => h) (Or.inr ⟨by rfl, rfl⟩) hHeld ?_
                try simp only [Act.put, List.getElem_toArray, List.getElem_cons_zero, List.getElem_cons_succ, List.setIfInBounds_toArray, List.set_cons_zero, List.set_cons_succ]
                refine wpAnyH_take (i := 22) (v := undef) rfl (by kernel_rfl) (by kernel_rfl) (by kernel_rfl) (fun _ _ _ h => h) (Or.inr ⟨by rfl, rfl⟩) hHeld ?_
                try simp only [Act.put, List.getElem_toArray, List.getElem_cons_zero, List.getElem_cons_succ, List.setIfInBounds_toArray, List.set_cons_zero, List.set_cons_succ]
                refine wpAnyH_take (i := 23) (v := (.bool false)) rfl (by kernel_rfl) (by kernel_rfl) (by kernel_rfl) (fun _ _ _ h => h) (Or.inl ⟨by rfl, fun X hS => ?_⟩) hHeld ?_
                · obtain ⟨⟨p0, p1, p2⟩, q0, q1, q2⟩ := AtS.all hS
                  go_simp
                try simp only [Act.put, List.getElem_toArray, List.getElem_cons_zero, List.getElem_cons_succ, List.setIfInBounds_toArray, List.set_cons_zero, List.set_cons_succ]
                refine wpAnyH_take (i := 24) (v := (.bool false)) rfl (by kernel_rfl) (by kernel_rfl) (by kernel_rfl) (fun _ _ _ h => h) (Or.inl ⟨by rfl, fun X hS => ?_⟩) hHeld ?_
                · obtain ⟨⟨p0, p1, p2⟩, q0, q1, q2⟩ := AtS.all hS
                  go_simp
                try simp only [Act.put, List.getElem_toArray, List.getElem_cons_zero, List.getElem_cons_succ, List.setIfInBounds_toArray, List.set_cons_zero, List.set_cons_succ]
                refine wpAnyH_take (i := 25) (v := undef) rfl (by kernel_rfl) (by kernel_rfl) (by kernel_rfl) (fun _ _ _ h => h) (Or.inr ⟨by rfl, rfl⟩) hHeld ?_
                try simp only [Act.put, List.getElem_toArray, List.getElem_cons_zero, List.getElem_cons_succ, List.setIfInBounds_toArray, List.set_cons_zero, List.set_cons_succ]
                refine wpAnyH_take (i := 26) (v := undef) rfl (by kernel_rfl) (by kernel_rfl) (by kernel_rfl) (fun _ _ _ h => h) (Or.inr ⟨by rfl, rfl⟩) hHeld ?_
                try simp only [Act.put, List.getElem_toArray, List.getElem_cons_zero, List.getElem_cons_succ, List.setIfInBounds_toArray, List.set_cons_zero, List.set_cons_succ]
                refine wpAnyH_take (i := 27) (v := undef) rfl (by kernel_rfl) (by kernel_rfl) (by kernel_rfl) (fun _ _ _ h => h) (Or.inr ⟨by rfl, rfl⟩) hHeld ?_
                try simp only [Act.put, List.getElem_toArray, List.getElem_cons_zero, List.getElem_cons_succ, List.setIfInBounds_toArray, List.set_cons_zero, List.set_cons_succ]
                refine wpAnyH_take (i := 28) (v := undef) rfl (by kernel_rfl) (by kernel_rfl) (by kernel_rfl) (fun _ _ _ h => h) (Or.inr ⟨by rfl, rfl⟩) hHeld ?_
                try simp only [Act.put, List.getElem_toArray, List.getElem_cons_zero, List.getElem_cons_succ, List.setIfInBounds_toArray, List.set_cons_zero, List.set_cons_succ]
                refine wpAnyH_take (i := 29) (v := undef) rfl (by kernel_rfl) (by kernel_rfl) (by kernel_rfl) (fun _ _ _ h => h) (Or.inr ⟨by rfl, rfl⟩) hHeld ?_
                try simp only [Act.put, List.getElem_toArray, List.getElem_cons_zero, List.getElem_cons_succ, List.setIfInBounds_toArray, List.set_cons_zero, List.set_cons_succ]
                refine wpAnyH_take (i := 30) (v := undef) rfl (by kernel_rfl) (by kernel_rfl) (by kernel_rfl) (fun _ _ _ h => h) (Or.inr ⟨by rfl, rfl⟩) hHeld ?_
                try simp only [Act.put, List.getElem_toArray, List.getElem_cons_zero, List.getElem_cons_succ, List.setIfInBounds_toArray, List.set_cons_zero, List.set_cons_succ]
                refine wpAnyH_take (i := 31) (v := undef) rfl (by kernel_rfl) (by kernel_rfl) (by kernel_rfl) (fun _ _ _ h => h) (Or.inr ⟨by rfl, rfl⟩) hHeld ?_
                try simp only [Act.put, List.getElem_toArray, List.getElem_cons_zero, List.getElem_cons_succ, List.setIfInBounds_toArray, List.set_cons_zero, List.set_cons_succ]
                refine wpAnyH_take (i := 32) (v := undef) rfl (by kernel_rfl) (by kernel_rfl) (by kernel_rfl) (fun _ _ _ h => h) (Or.inr ⟨by rfl, rfl⟩) hHeld ?_
                try simp only [Act.put, List.getElem_toArray, List.getElem_cons_zero, List.getElem_cons_succ, List.setIfInBounds_toArray, List.set_cons_zero, List.set_cons_succ]
                refine wpAnyH_take (i := 33) (v := (.bool false)) rfl (by kernel_rfl) (by kernel_rfl) (by kernel_rfl) (fun _ _ _ h => h) (Or.inl ⟨by rfl, fun X hS => ?_⟩) hHeld ?_
                · obtain ⟨⟨p0, p1, p2⟩, q0, q1, q2⟩ := AtS.all hS
                  go_simp
                try simp only [Act.put, List.getElem_toArray, List.getElem_cons_zero, List.getElem_cons_succ, List.setIfInBounds_toArray, List.set_cons_zero, List.set_cons_succ]
                refine wpAnyH_done (by kernel_rfl) ?_ _
                clear hHeld
                have HAS6 := Lib.hid HAS2.out
                clear HAS2
                obtain ⟨⟨p0, p1, p2⟩, q0, q1, q2⟩ := HAS6.out.st.all
                obtain ⟨f0, f1, f2⟩ := HAS6.out.free
                have hst := HAS6.out.store
                simp only at hst
                go_upto_region 8 with fail
                change Code.wp _ _ _ _ (ah3 x4 Q (.int .i64 (adr p : Int)) (.int .i64 (k : Int)) (.bool true))
                obtain ⟨z, hz⟩ : ∃ z, ah3 x4 Q (.int .i64 (adr p : Int)) (.int .i64 (k : Int)) (.bool true) = z := ⟨_, rfl⟩
                rw [hz] at hst ⊢
                have HST := Lib.hid hst
                clear hz hst p0 p1 p2 q0 q1 q2 f0 f1 f2 HAS6
                obtain ⟨hjn, hnl80⟩ := HJN.out
                go_wp2_with fail
                go_roundw
                case rel => exact ⟨j + 1, p + 2 ^ k, (adr p, k, true), by omega, by go_num, HI2, HAH, HST⟩
                case measure => first | (simp [intOf]; omega) | simp [intOf]

            | false =>
              by_cases hkk : k0 = k
              · subst hkk
                by_cases hk10 : k0 < 10
                · have hk10' : (k0 : Int) < 10 := by omega
                  have hrem := two_rem HTI.out hR0 (by rw [hip]; exact HRP.out) hk10
                  obtain ⟨P2, hP2⟩ : ∃ P2, 2 ^ (k0 + 1) = P2 := ⟨_, rfl⟩
                  have hP3 : P2 ≤ 1024 ∧ 0 < P2 := by rw [← hP2]; exact ⟨Nat.pow_le_pow_right (by decide) (show k0 + 1 ≤ 10 by omega), pow2_pos _⟩
                  rw [hP2] at hrem
                  have HCF := Lib.hid fun X (hX : BV B A n s X) => cfirst hX (by have := HZ.out; omega) i0 k0 false hi2
                  have h2k : (2 : Int) * 2 ^ k0 = (P2 : Int) := by rw [← hP2, Nat.pow_succ]; push_cast; exact Int.mul_comm _ _
                  have HM1 : Hid (IntKind.i64.wrap ((2 : Int) * 2 ^ min k0 64) = (P2 : Int) ∧ IntKind.i64.wrap ((2 : Int) * 2 ^ k0) = (P2 : Int)) := Lib.hid ⟨by rw [show min k0 64 = k0 by omega, h2k, IntKind.wrap_i64]; omega, by rw [h2k, IntKind.wrap_i64]; omega⟩
                  obtain ⟨m, hm⟩ : ∃ m, i0 % P2 = m := ⟨_, rfl⟩
                  rw [hm] at hrem
                  have hmlt : m ≤ 1024 := by rw [← hm]; exact Nat.le_trans (Nat.le_of_lt (Nat.mod_lt _ hP3.2)) hP3.1
                  have HM2 : Hid (¬ (P2 = 0) ∧ ¬ ((P2 : Int) = 0) ∧ (i0 : Int) % (P2 : Int) = (m : Int) ∧ Int.tmod (i0 : Int) (P2 : Int) = (m : Int) ∧ IntKind.i64.wrap (m : Int) = (m : Int)) := Lib.hid ⟨by omega, by omega, by rw [← hm]; push_cast; rfl, by rw [Int.tmod_eq_emod_of_nonneg (by omega), ← hm]; push_cast; rfl, by rw [IntKind.wrap_i64]; omega⟩
                  have hrm : ¬ ((m : Int) = 0) := by omega
                  clear hP2 hP3 h2k hm hmlt hip hR0 hi2 hk10
                  as_aux_lemma =>
                    refine wp_region_held_drew (S := AtS Q E (adr i0, k0, false) (adr p, k0, false)) (by kernel_rfl) (HAS.out.drew).self (fun hHeld => ?_)
                    have HAS2 := Lib.hid (HAS.out.drew)
                    clear HAS HB4
                    generalize w4.drew = x4 at *
                    refine wpAnyH_take (i := 0) (v := (.int .i64 (j : Int))) rfl (by kernel_rfl) (by kernel_rfl) (by kernel_rfl) (fun _ _ _ h => h) (Or.inl ⟨by rfl, fun X hS => ?_⟩) hHeld ?_
                    · obtain ⟨⟨p0, p1, p2⟩, q0, q1, q2⟩ := AtS.all hS
                      go_simp
                    try simp only [Act.put, List.getElem_toArray, List.getElem_cons_zero, List.getElem_cons_succ, List.setIfInBounds_toArray, List.set_cons_zero, List.set_cons_succ]
                    refine wpAnyH_take (i := 1) (v := (.bool true)) rfl (by kernel_rfl) (by kernel_rfl) (by kernel_rfl) (fun _ _ _ h => h) (Or.inl ⟨by rfl, fun X hS => ?_⟩) hHeld ?_
                    · obtain ⟨⟨p0, p1, p2⟩, q0, q1, q2⟩ := AtS.all hS
                      go_simp
                    try simp only [Act.put, List.getElem_toArray, List.getElem_cons_zero, List.getElem_cons_succ, List.setIfInBounds_toArray, List.set_cons_zero, List.set_cons_succ]
                    refine wpAnyH_take (i := 2) (v := (.bool true)) rfl (by kernel_rfl) (by kernel_rfl) (by kernel_rfl) (fun _ _ _ h => h) (Or.inl ⟨by rfl, fun X hS => ?_⟩) hHeld ?_
                    · obtain ⟨⟨p0, p1, p2⟩, q0, q1, q2⟩ := AtS.all hS
                      go_simp
                    try simp only [Act.put, List.getElem_toArray, List.getElem_cons_zero, List.getElem_cons_succ, List.setIfInBounds_toArray, List.set_cons_zero, List.set_cons_succ]
                    refine wpAnyH_take (i := 3) (v := (.pointer (some ⟨Q, 2, none⟩))) rfl (by kernel_rfl) (by kernel_rfl) (by kernel_rfl) (fun _ _ _ h => h) (Or.inl ⟨by rfl, fun X hS => ?_⟩) hHeld ?_
                    · obtain ⟨⟨p0, p1, p2⟩, q0, q1, q2⟩ := AtS.all hS
                      go_simp
                    try simp only [Act.put, List.getElem_toArray, List.getElem_cons_zero, List.getElem_cons_succ, List.setIfInBounds_toArray, List.set_cons_zero, List.set_cons_succ]
                    refine wpAnyH_take (i := 4) (v := (.bool false)) rfl (by kernel_rfl) (by kernel_rfl) (by kernel_rfl) (fun _ _ _ h => h) (Or.inl ⟨by rfl, fun X hS => ?_⟩) hHeld ?_
                    · obtain ⟨⟨p0, p1, p2⟩, q0, q1, q2⟩ := AtS.all hS
                      go_simp
                    try simp only [Act.put, List.getElem_toArray, List.getElem_cons_zero, List.getElem_cons_succ, List.setIfInBounds_toArray, List.set_cons_zero, List.set_cons_succ]
                    refine wpAnyH_take (i := 5) (v := (.bool true)) rfl (by kernel_rfl) (by kernel_rfl) (by kernel_rfl) (fun _ _ _ h => h) (Or.inl ⟨by rfl, fun X hS => ?_⟩) hHeld ?_
                    · obtain ⟨⟨p0, p1, p2⟩, q0, q1, q2⟩ := AtS.all hS
                      go_simp
                    try simp only [Act.put, List.getElem_toArray, List.getElem_cons_zero, List.getElem_cons_succ, List.setIfInBounds_toArray, List.set_cons_zero, List.set_cons_succ]
                    refine wpAnyH_take (i := 6) (v := (.bool true)) rfl (by kernel_rfl) (by kernel_rfl) (by kernel_rfl) (fun _ _ _ h => h) (Or.inl ⟨by rfl, fun X hS => ?_⟩) hHeld ?_
                    · obtain ⟨⟨p0, p1, p2⟩, q0, q1, q2⟩ := AtS.all hS
                      go_simp
                    try simp only [Act.put, List.getElem_toArray, List.getElem_cons_zero, List.getElem_cons_succ, List.setIfInBounds_toArray, List.set_cons_zero, List.set_cons_succ]
                    refine wpAnyH_take (i := 7) (v := (.bool true)) rfl (by kernel_rfl) (by kernel_rfl) (by kernel_rfl) (fun _ _ _ h => h) (Or.inl ⟨by rfl, fun X hS => ?_⟩) hHeld ?_
                    · obtain ⟨⟨p0, p1, p2⟩, q0, q1, q2⟩ := AtS.all hS
                      go_simp
                    try simp only [Act.put, List.getElem_toArray, List.getElem_cons_zero, List.getElem_cons_succ, List.setIfInBounds_toArray, List.set_cons_zero, List.set_cons_succ]
                    refine wpAnyH_take (i := 8) (v := (.pointer (some ⟨E, 2, none⟩))) rfl (by kernel_rfl) (by kernel_rfl) (by kernel_rfl) (fun _ _ _ h => h) (Or.inl ⟨by rfl, fun X hS => ?_⟩) hHeld ?_
                    · obtain ⟨⟨p0, p1, p2⟩, q0, q1, q2⟩ := AtS.all hS
                      go_simp
                    try simp only [Act.put, List.getElem_toArray, List.getElem_cons_zero, List.getElem_cons_succ, List.setIfInBounds_toArray, List.set_cons_zero, List.set_cons_succ]
                    refine wpAnyH_take (i := 9) (v := (.bool false)) rfl (by kernel_rfl) (by kernel_rfl) (by kernel_rfl) (fun _ _ _ h => h) (Or.inl ⟨by rfl, fun X hS => ?_⟩) hHeld ?_
                    · obtain ⟨⟨p0, p1, p2⟩, q0, q1, q2⟩ := AtS.all hS
                      go_simp
                    try simp only [Act.put, List.getElem_toArray, List.getElem_cons_zero, List.getElem_cons_succ, List.setIfInBounds_toArray, List.set_cons_zero, List.set_cons_succ]
                    refine wpAnyH_take (i := 10) (v := (.bool true)) rfl (by kernel_rfl) (by kernel_rfl) (by kernel_rfl) (fun _ _ _ h => h) (Or.inl ⟨by rfl, fun X hS => ?_⟩) hHeld ?_
                    · obtain ⟨⟨p0, p1, p2⟩, q0, q1, q2⟩ := AtS.all hS
                      go_simp
                    try simp only [Act.put, List.getElem_toArray, List.getElem_cons_zero, List.getElem_cons_succ, List.setIfInBounds_toArray, List.set_cons_zero, List.set_cons_succ]
                    refine wpAnyH_take (i := 11) (v := (.bool true)) rfl (by kernel_rfl) (by kernel_rfl) (by kernel_rfl) (fun _ _ _ h => h) (Or.inl ⟨by rfl, fun X hS => ?_⟩) hHeld ?_
                    · obtain ⟨⟨p0, p1, p2⟩, q0, q1, q2⟩ := AtS.all hS
                      go_simp
                    try simp only [Act.put, List.getElem_toArray, List.getElem_cons_zero, List.getElem_cons_succ, List.setIfInBounds_toArray, List.set_cons_zero, List.set_cons_succ]
                    refine wpAnyH_take (i := 12) (v := (.bool true)) rfl (by kernel_rfl) (by kernel_rfl) (by kernel_rfl) (fun _ _ _ h => h) (Or.inl ⟨by rfl, fun X hS => ?_⟩) hHeld ?_
                    · obtain ⟨⟨p0, p1, p2⟩, q0, q1, q2⟩ := AtS.all hS
                      go_simp
                    try simp only [Act.put, List.getElem_toArray, List.getElem_cons_zero, List.getElem_cons_succ, List.setIfInBounds_toArray, List.set_cons_zero, List.set_cons_succ]
                    refine wpAnyH_take (i := 13) (v := (.pointer (some ⟨Q, 1, none⟩))) rfl (by kernel_rfl) (by kernel_rfl) (by kernel_rfl) (fun _ _ _ h => h) (Or.inl ⟨by rfl, fun X hS => ?_⟩) hHeld ?_
                    · obtain ⟨⟨p0, p1, p2⟩, q0, q1, q2⟩ := AtS.all hS
                      go_simp
                    try simp only [Act.put, List.getElem_toArray, List.getElem_cons_zero, List.getElem_cons_succ, List.setIfInBounds_toArray, List.set_cons_zero, List.set_cons_succ]
                    refine wpAnyH_take (i := 14) (v := (.int .i64 (k0 : Int))) rfl (by kernel_rfl) (by kernel_rfl) (by kernel_rfl) (fun _ _ _ h => h) (Or.inl ⟨by rfl, fun X hS => ?_⟩) hHeld ?_
                    · obtain ⟨⟨p0, p1, p2⟩, q0, q1, q2⟩ := AtS.all hS
                      go_simp
                    try simp only [Act.put, List.getElem_toArray, List.getElem_cons_zero, List.getElem_cons_succ, List.setIfInBounds_toArray, List.set_cons_zero, List.set_cons_succ]
                    refine wpAnyH_take (i := 15) (v := (.pointer (some ⟨E, 1, none⟩))) rfl (by kernel_rfl) (by kernel_rfl) (by kernel_rfl) (fun _ _ _ h => h) (Or.inl ⟨by rfl, fun X hS => ?_⟩) hHeld ?_
                    · obtain ⟨⟨p0, p1, p2⟩, q0, q1, q2⟩ := AtS.all hS
                      go_simp
                    try simp only [Act.put, List.getElem_toArray, List.getElem_cons_zero, List.getElem_cons_succ, List.setIfInBounds_toArray, List.set_cons_zero, List.set_cons_succ]
                    refine wpAnyH_take (i := 16) (v := (.int .i64 (k0 : Int))) rfl (by kernel_rfl) (by kernel_rfl) (by kernel_rfl) (fun _ _ _ h => h) (Or.inl ⟨by rfl, fun X hS => ?_⟩) hHeld ?_
                    · obtain ⟨⟨p0, p1, p2⟩, q0, q1, q2⟩ := AtS.all hS
                      go_simp
                    try simp only [Act.put, List.getElem_toArray, List.getElem_cons_zero, List.getElem_cons_succ, List.setIfInBounds_toArray, List.set_cons_zero, List.set_cons_succ]
                    refine wpAnyH_take (i := 17) (v := (.bool true)) rfl (by kernel_rfl) (by kernel_rfl) (by kernel_rfl) (fun _ _ _ h => h) (Or.inl ⟨by rfl, fun X hS => ?_⟩) hHeld ?_
                    · obtain ⟨⟨p0, p1, p2⟩, q0, q1, q2⟩ := AtS.all hS
                      go_simp
                    try simp only [Act.put, List.getElem_toArray, List.getElem_cons_zero, List.getElem_cons_succ, List.setIfInBounds_toArray, List.set_cons_zero, List.set_cons_succ]
                    refine wpAnyH_take (i := 18) (v := (.bool true)) rfl (by kernel_rfl) (by kernel_rfl) (by kernel_rfl) (fun _ _ _ h => h) (Or.inl ⟨by rfl, fun X hS => ?_⟩) hHeld ?_
                    · obtain ⟨⟨p0, p1, p2⟩, q0, q1, q2⟩ := AtS.all hS
                      go_simp
                    try simp only [Act.put, List.getElem_toArray, List.getElem_cons_zero, List.getElem_cons_succ, List.setIfInBounds_toArray, List.set_cons_zero, List.set_cons_succ]
                    refine wpAnyH_take (i := 19) (v := (.bool true)) rfl (by kernel_rfl) (by kernel_rfl) (by kernel_rfl) (fun _ _ _ h => h) (Or.inl ⟨by rfl, fun X hS => ?_⟩) hHeld ?_
                    · obtain ⟨⟨p0, p1, p2⟩, q0, q1, q2⟩ := AtS.all hS
                      go_simp
                    try simp only [Act.put, List.getElem_toArray, List.getElem_cons_zero, List.getElem_cons_succ, List.setIfInBounds_toArray, List.set_cons_zero, List.set_cons_succ]
                    refine wpAnyH_take (i := 20) (v := (.pointer (some ⟨E, 1, none⟩))) rfl (by kernel_rfl) (by kernel_rfl) (by kernel_rfl) (fun _ _ _ h => h) (Or.inl ⟨by rfl, fun X hS => ?_⟩) hHeld ?_
                    · obtain ⟨⟨p0, p1, p2⟩, q0, q1, q2⟩ := AtS.all hS
                      go_simp
                    try simp only [Act.put, List.getElem_toArray, List.getElem_cons_zero, List.getElem_cons_succ, List.setIfInBounds_toArray, List.set_cons_zero, List.set_cons_succ]
                    refine wpAnyH_take (i := 21) (v := (.int .i64 (k0 : Int))) rfl (by kernel_rfl) (by kernel_rfl) (by kernel_rfl) (fun _ _ _ h => h) (Or.inl ⟨by rfl, fun X hS => ?_⟩) hHeld ?_
                    · obtain ⟨⟨p0, p1, p2⟩, q0, q1, q2⟩ := AtS.all hS
                      go_simp
                    try simp only [Act.put, List.getElem_toArray, List.getElem_cons_zero, List.getElem_cons_succ, List.setIfInBounds_toArray, List.set_cons_zero, List.set_cons_succ]
                    refine wpAnyH_take (i := 22) (v := (.bool true)) rfl (by kernel_rfl) (by kernel_rfl) (by kernel_rfl) (fun _ _ _ h => h) (Or.inl ⟨by rfl, fun X hS => ?_⟩) hHeld ?_
                    · obtain ⟨⟨p0, p1, p2⟩, q0, q1, q2⟩ := AtS.all hS
                      go_simp
                    try simp only [Act.put, List.getElem_toArray, List.getElem_cons_zero, List.getElem_cons_succ, List.setIfInBounds_toArray, List.set_cons_zero, List.set_cons_succ]
                    refine wpAnyH_take (i := 23) (v := (.bool true)) rfl (by kernel_rfl) (by kernel_rfl) (by kernel_rfl) (fun _ _ _ h => h) (Or.inl ⟨by rfl, fun X hS => ?_⟩) hHeld ?_
                    · obtain ⟨⟨p0, p1, p2⟩, q0, q1, q2⟩ := AtS.all hS
                      go_simp
                    try simp only [Act.put, List.getElem_toArray, List.getElem_cons_zero, List.getElem_cons_succ, List.setIfInBounds_toArray, List.set_cons_zero, List.set_cons_succ]
                    refine wpAnyH_take (i := 24) (v := (.bool true)) rfl (by kernel_rfl) (by kernel_rfl) (by kernel_rfl) (fun _ _ _ h => h) (Or.inl ⟨by rfl, fun X hS => ?_⟩) hHeld ?_
                    · obtain ⟨⟨p0, p1, p2⟩, q0, q1, q2⟩ := AtS.all hS
                      go_simp
                    try simp only [Act.put, List.getElem_toArray, List.getElem_cons_zero, List.getElem_cons_succ, List.setIfInBounds_toArray, List.set_cons_zero, List.set_cons_succ]
                    refine wpAnyH_take (i := 25) (v := (bdyP B)) rfl (by kernel_rfl) (by kernel_rfl) (by kernel_rfl) (fun _ _ _ h => h) (Or.inl ⟨by rfl, fun X hS => ?_⟩) hHeld ?_
                    · obtain ⟨⟨p0, p1, p2⟩, q0, q1, q2⟩ := AtS.all hS
                      go_simp
                    try simp only [Act.put, List.getElem_toArray, List.getElem_cons_zero, List.getElem_cons_succ, List.setIfInBounds_toArray, List.set_cons_zero, List.set_cons_succ]
                    refine wpAnyH_take (i := 26) (v := (.agg #[.int .i64 (adr i0 : Int), .int .i64 (k0 : Int), .bool false])) rfl (by kernel_rfl) (by kernel_rfl) (by kernel_rfl) (fun _ _ _ h => h) (Or.inl ⟨by rfl, fun X hS => ?_⟩) hHeld ?_
                    · obtain ⟨⟨p0, p1, p2⟩, q0, q1, q2⟩ := AtS.all hS
                      go_simp
                    try simp only [Act.put, List.getElem_toArray, List.getElem_cons_zero, List.getElem_cons_succ, List.setIfInBounds_toArray, List.set_cons_zero, List.set_cons_succ]
                    refine wpAnyH_take (i := 28) (v := (.pointer (some ⟨E, 1, none⟩))) rfl (by kernel_rfl) (by kernel_rfl) (by kernel_rfl) (fun _ _ _ h => h) (Or.inl ⟨by rfl, fun X hS => ?_⟩) hHeld ?_
                    · obtain ⟨⟨p0, p1, p2⟩, q0, q1, q2⟩ := AtS.all hS
                      go_simp
                    try simp only [Act.put, List.getElem_toArray, List.getElem_cons_zero, List.getElem_cons_succ, List.setIfInBounds_toArray, List.set_cons_zero, List.set_cons_succ]
                    refine wpAnyH_take (i := 29) (v := (.int .i64 (k0 : Int))) rfl (by kernel_rfl) (by kernel_rfl) (by kernel_rfl) (fun _ _ _ h => h) (Or.inl ⟨by rfl, fun X hS => ?_⟩) hHeld ?_
                    · obtain ⟨⟨p0, p1, p2⟩, q0, q1, q2⟩ := AtS.all hS
                      go_simp
                    try simp only [Act.put, List.getElem_toArray, List.getElem_cons_zero, List.getElem_cons_succ, List.setIfInBounds_toArray, List.set_cons_zero, List.set_cons_succ]
                    refine wpAnyH_take (i := 30) (v := (.int .i64 (P2 : Int))) rfl (by kernel_rfl) (by kernel_rfl) (by kernel_rfl) (fun _ _ _ h => h) (Or.inl ⟨by rfl, fun X hS => ?_⟩) hHeld ?_
                    · obtain ⟨⟨p0, p1, p2⟩, q0, q1, q2⟩ := AtS.all hS
                      obtain ⟨hm1, hm2⟩ := HM1.out
                      go_simp
                    try simp only [Act.put, List.getElem_toArray, List.getElem_cons_zero, List.getElem_cons_succ, List.setIfInBounds_toArray, List.set_cons_zero, List.set_cons_succ]
                    refine wpAnyH_ready (rs := [27]) (by kernel_rfl) (by simp) (AllReadyH.cons rfl (fun K1 hK1 => ?_) AllReadyH.nil)
                    go_simp
                    have HH := Lib.hid hHeld
                    clear hHeld
                    refine (HCF.out _ HAS2.out.r.bv).mono ?_
                    rintro e x5 ⟨rfl, hb⟩
                    have hrb := HH.out.below hb
                    have HAS3 := Lib.hid (HAS2.out.below hb)
                    clear HH hb HAS2
                    refine hK1.out _ _ hrb (fun hHeld => ?_)
                    clear hK1
                    try simp only [Act.put, List.getElem_toArray, List.getElem_cons_zero, List.getElem_cons_succ, List.setIfInBounds_toArray, List.set_cons_zero, List.set_cons_succ]
                    refine wpAnyH_take (i := 31) (v := (.int .i64 (m : Int))) rfl (by kernel_rfl) (by kernel_rfl) (by kernel_rfl) (fun _ _ _ h => h) (Or.inl ⟨by rfl, fun X hS => ?_⟩) hHeld ?_
                    · obtain ⟨⟨p0, p1, p2⟩, q0, q1, q2⟩ := AtS.all hS
                      obtain ⟨hm0, hm1, hm2, hm3, hm4⟩ := HM2.out
                      go_simp
                    try simp only [Act.put, List.getElem_toArray, List.getElem_cons_zero, List.getElem_cons_succ, List.setIfInBounds_toArray, List.set_cons_zero, List.set_cons_succ]
                    refine wpAnyH_take (i := 32) (v := (.bool false)) rfl (by kernel_rfl) (by kernel_rfl) (by kernel_rfl) (fun _ _ _ h => h) (Or.inl ⟨by rfl, fun X hS => ?_⟩) hHeld ?_
                    · obtain ⟨⟨p0, p1, p2⟩, q0, q1, q2⟩ := AtS.all hS
                      go_simp
                    try simp only [Act.put, List.getElem_toArray, List.getElem_cons_zero, List.getElem_cons_succ, List.setIfInBounds_toArray, List.set_cons_zero, List.set_cons_succ]
                    refine wpAnyH_take (i := 33) (v := (.bool false)) rfl (by kernel_rfl) (by kernel_rfl) (by kernel_rfl) (fun _ _ _ h => h) (Or.inl ⟨by rfl, fun X hS => ?_⟩) hHeld ?_
                    · obtain ⟨⟨p0, p1, p2⟩, q0, q1, q2⟩ := AtS.all hS
                      go_simp
                    try simp only [Act.put, List.getElem_toArray, List.getElem_cons_zero, List.getElem_cons_succ, List.setIfInBounds_toArray, List.set_cons_zero, List.set_cons_succ]
                    refine wpAnyH_done (by kernel_rfl) ?_ _
                    clear hHeld
                    have HAS6 := Lib.hid HAS3.out
                    clear HAS3
                    obtain ⟨⟨p0, p1, p2⟩, q0, q1, q2⟩ := HAS6.out.st.all
                    obtain ⟨f0, f1, f2⟩ := HAS6.out.free
                    have hst := HAS6.out.store
                    simp only at hst
                    go_upto_region 8 with fail
                    change Code.wp _ _ _ _ (ah3 x5 Q (.int .i64 (adr p : Int)) (.int .i64 (k0 : Int)) (.bool false))
                    obtain ⟨z, hz⟩ : ∃ z, ah3 x5 Q (.int .i64 (adr p : Int)) (.int .i64 (k0 : Int)) (.bool false) = z := ⟨_, rfl⟩
                    rw [hz] at hst ⊢
                    have HST := Lib.hid hst
                    clear hz hst p0 p1 p2 q0 q1 q2 f0 f1 f2 HAS6
                    obtain ⟨hjn, hnl80⟩ := HJN.out
                    go_wp2_with fail
                    go_roundw
                    case rel => exact ⟨j + 1, p + 2 ^ k0, (adr p, k0, false), by omega, by go_num, HI2, HAH, HST⟩
                    case measure => first | (simp [intOf]; omega) | simp [intOf]

                · have hk10' : ¬ (k0 : Int) < 10 := by omega
                  clear hk10 hip hR0 hi2
                  as_aux_lemma =>
                    refine wp_region_held_drew (S := AtS Q E (adr i0, k0, false) (adr p, k0, false)) (by kernel_rfl) (HAS.out.drew).self (fun hHeld => ?_)
                    have HAS2 := Lib.hid (HAS.out.drew)
                    clear HAS HB4
                    generalize w4.drew = x4 at *
                    refine wpAnyH_take (i := 0) (v := (.int .i64 (j : Int))) rfl (by kernel_rfl) (by kernel_rfl) (by kernel_rfl) (fun _ _ _ h => h) (Or.inl ⟨by rfl, fun X hS => ?_⟩) hHeld ?_
                    · obtain ⟨⟨p0, p1, p2⟩, q0, q1, q2⟩ := AtS.all hS
                      go_simp
                    try simp only [Act.put, List.getElem_toArray, List.getElem_cons_zero, List.getElem_cons_succ, List.setIfInBounds_toArray, List.set_cons_zero, List.set_cons_succ]
                    refine wpAnyH_take (i := 1) (v := (.bool true)) rfl (by kernel_rfl) (by kernel_rfl) (by kernel_rfl) (fun _ _ _ h => h) (Or.inl ⟨by rfl, fun X hS => ?_⟩) hHeld ?_
                    · obtain ⟨⟨p0, p1, p2⟩, q0, q1, q2⟩ := AtS.all hS
                      go_simp
                    try simp only [Act.put, List.getElem_toArray, List.getElem_cons_zero, List.getElem_cons_succ, List.setIfInBounds_toArray, List.set_cons_zero, List.set_cons_succ]
                    refine wpAnyH_take (i := 2) (v := (.bool true)) rfl (by kernel_rfl) (by kernel_rfl) (by kernel_rfl) (fun _ _ _ h => h) (Or.inl ⟨by rfl, fun X hS => ?_⟩) hHeld ?_
                    · obtain ⟨⟨p0, p1, p2⟩, q0, q1, q2⟩ := AtS.all hS
                      go_simp
                    try simp only [Act.put, List.getElem_toArray, List.getElem_cons_zero, List.getElem_cons_succ, List.setIfInBounds_toArray, List.set_cons_zero, List.set_cons_succ]
                    refine wpAnyH_take (i := 3) (v := (.pointer (some ⟨Q, 2, none⟩))) rfl (by kernel_rfl) (by kernel_rfl) (by kernel_rfl) (fun _ _ _ h => h) (Or.inl ⟨by rfl, fun X hS => ?_⟩) hHeld ?_
                    · obtain ⟨⟨p0, p1, p2⟩, q0, q1, q2⟩ := AtS.all hS
                      go_simp
                    try simp only [Act.put, List.getElem_toArray, List.getElem_cons_zero, List.getElem_cons_succ, List.setIfInBounds_toArray, List.set_cons_zero, List.set_cons_succ]
                    refine wpAnyH_take (i := 4) (v := (.bool false)) rfl (by kernel_rfl) (by kernel_rfl) (by kernel_rfl) (fun _ _ _ h => h) (Or.inl ⟨by rfl, fun X hS => ?_⟩) hHeld ?_
                    · obtain ⟨⟨p0, p1, p2⟩, q0, q1, q2⟩ := AtS.all hS
                      go_simp
                    try simp only [Act.put, List.getElem_toArray, List.getElem_cons_zero, List.getElem_cons_succ, List.setIfInBounds_toArray, List.set_cons_zero, List.set_cons_succ]
                    refine wpAnyH_take (i := 5) (v := (.bool true)) rfl (by kernel_rfl) (by kernel_rfl) (by kernel_rfl) (fun _ _ _ h => h) (Or.inl ⟨by rfl, fun X hS => ?_⟩) hHeld ?_
                    · obtain ⟨⟨p0, p1, p2⟩, q0, q1, q2⟩ := AtS.all hS
                      go_simp
                    try simp only [Act.put, List.getElem_toArray, List.getElem_cons_zero, List.getElem_cons_succ, List.setIfInBounds_toArray, List.set_cons_zero, List.set_cons_succ]
                    refine wpAnyH_take (i := 6) (v := (.bool true)) rfl (by kernel_rfl) (by kernel_rfl) (by kernel_rfl) (fun _ _ _ h => h) (Or.inl ⟨by rfl, fun X hS => ?_⟩) hHeld ?_
                    · obtain ⟨⟨p0, p1, p2⟩, q0, q1, q2⟩ := AtS.all hS
                      go_simp
                    try simp only [Act.put, List.getElem_toArray, List.getElem_cons_zero, List.getElem_cons_succ, List.setIfInBounds_toArray, List.set_cons_zero, List.set_cons_succ]
                    refine wpAnyH_take (i := 7) (v := (.bool true)) rfl (by kernel_rfl) (by kernel_rfl) (by kernel_rfl) (fun _ _ _ h => h) (Or.inl ⟨by rfl, fun X hS => ?_⟩) hHeld ?_
                    · obtain ⟨⟨p0, p1, p2⟩, q0, q1, q2⟩ := AtS.all hS
                      go_simp
                    try simp only [Act.put, List.getElem_toArray, List.getElem_cons_zero, List.getElem_cons_succ, List.setIfInBounds_toArray, List.set_cons_zero, List.set_cons_succ]
                    refine wpAnyH_take (i := 8) (v := (.pointer (some ⟨E, 2, none⟩))) rfl (by kernel_rfl) (by kernel_rfl) (by kernel_rfl) (fun _ _ _ h => h) (Or.inl ⟨by rfl, fun X hS => ?_⟩) hHeld ?_
                    · obtain ⟨⟨p0, p1, p2⟩, q0, q1, q2⟩ := AtS.all hS
                      go_simp
                    try simp only [Act.put, List.getElem_toArray, List.getElem_cons_zero, List.getElem_cons_succ, List.setIfInBounds_toArray, List.set_cons_zero, List.set_cons_succ]
                    refine wpAnyH_take (i := 9) (v := (.bool false)) rfl (by kernel_rfl) (by kernel_rfl) (by kernel_rfl) (fun _ _ _ h => h) (Or.inl ⟨by rfl, fun X hS => ?_⟩) hHeld ?_
                    · obtain ⟨⟨p0, p1, p2⟩, q0, q1, q2⟩ := AtS.all hS
                      go_simp
                    try simp only [Act.put, List.getElem_toArray, List.getElem_cons_zero, List.getElem_cons_succ, List.setIfInBounds_toArray, List.set_cons_zero, List.set_cons_succ]
                    refine wpAnyH_take (i := 10) (v := (.bool true)) rfl (by kernel_rfl) (by kernel_rfl) (by kernel_rfl) (fun _ _ _ h => h) (Or.inl ⟨by rfl, fun X hS => ?_⟩) hHeld ?_
                    · obtain ⟨⟨p0, p1, p2⟩, q0, q1, q2⟩ := AtS.all hS
                      go_simp
                    try simp only [Act.put, List.getElem_toArray, List.getElem_cons_zero, List.getElem_cons_succ, List.setIfInBounds_toArray, List.set_cons_zero, List.set_cons_succ]
                    refine wpAnyH_take (i := 11) (v := (.bool true)) rfl (by kernel_rfl) (by kernel_rfl) (by kernel_rfl) (fun _ _ _ h => h) (Or.inl ⟨by rfl, fun X hS => ?_⟩) hHeld ?_
                    · obtain ⟨⟨p0, p1, p2⟩, q0, q1, q2⟩ := AtS.all hS
                      go_simp
                    try simp only [Act.put, List.getElem_toArray, List.getElem_cons_zero, List.getElem_cons_succ, List.setIfInBounds_toArray, List.set_cons_zero, List.set_cons_succ]
                    refine wpAnyH_take (i := 12) (v := (.bool true)) rfl (by kernel_rfl) (by kernel_rfl) (by kernel_rfl) (fun _ _ _ h => h) (Or.inl ⟨by rfl, fun X hS => ?_⟩) hHeld ?_
                    · obtain ⟨⟨p0, p1, p2⟩, q0, q1, q2⟩ := AtS.all hS
                      go_simp
                    try simp only [Act.put, List.getElem_toArray, List.getElem_cons_zero, List.getElem_cons_succ, List.setIfInBounds_toArray, List.set_cons_zero, List.set_cons_succ]
                    refine wpAnyH_take (i := 13) (v := (.pointer (some ⟨Q, 1, none⟩))) rfl (by kernel_rfl) (by kernel_rfl) (by kernel_rfl) (fun _ _ _ h => h) (Or.inl ⟨by rfl, fun X hS => ?_⟩) hHeld ?_
                    · obtain ⟨⟨p0, p1, p2⟩, q0, q1, q2⟩ := AtS.all hS
                      go_simp
                    try simp only [Act.put, List.getElem_toArray, List.getElem_cons_zero, List.getElem_cons_succ, List.setIfInBounds_toArray, List.set_cons_zero, List.set_cons_succ]
                    refine wpAnyH_take (i := 14) (v := (.int .i64 (k0 : Int))) rfl (by kernel_rfl) (by kernel_rfl) (by kernel_rfl) (fun _ _ _ h => h) (Or.inl ⟨by rfl, fun X hS => ?_⟩) hHeld ?_
                    · obtain ⟨⟨p0, p1, p2⟩, q0, q1, q2⟩ := AtS.all hS
                      go_simp
                    try simp only [Act.put, List.getElem_toArray, List.getElem_cons_zero, List.getElem_cons_succ, List.setIfInBounds_toArray, List.set_cons_zero, List.set_cons_succ]
                    refine wpAnyH_take (i := 15) (v := (.pointer (some ⟨E, 1, none⟩))) rfl (by kernel_rfl) (by kernel_rfl) (by kernel_rfl) (fun _ _ _ h => h) (Or.inl ⟨by rfl, fun X hS => ?_⟩) hHeld ?_
                    · obtain ⟨⟨p0, p1, p2⟩, q0, q1, q2⟩ := AtS.all hS
                      go_simp
                    try simp only [Act.put, List.getElem_toArray, List.getElem_cons_zero, List.getElem_cons_succ, List.setIfInBounds_toArray, List.set_cons_zero, List.set_cons_succ]
                    refine wpAnyH_take (i := 16) (v := (.int .i64 (k0 : Int))) rfl (by kernel_rfl) (by kernel_rfl) (by kernel_rfl) (fun _ _ _ h => h) (Or.inl ⟨by rfl, fun X hS => ?_⟩) hHeld ?_
                    · obtain ⟨⟨p0, p1, p2⟩, q0, q1, q2⟩ := AtS.all hS
                      go_simp
                    try simp only [Act.put, List.getElem_toArray, List.getElem_cons_zero, List.getElem_cons_succ, List.setIfInBounds_toArray, List.set_cons_zero, List.set_cons_succ]
                    refine wpAnyH_take (i := 17) (v := (.bool true)) rfl (by kernel_rfl) (by kernel_rfl) (by kernel_rfl) (fun _ _ _ h => h) (Or.inl ⟨by rfl, fun X hS => ?_⟩) hHeld ?_
                    · obtain ⟨⟨p0, p1, p2⟩, q0, q1, q2⟩ := AtS.all hS
                      go_simp
                    try simp only [Act.put, List.getElem_toArray, List.getElem_cons_zero, List.getElem_cons_succ, List.setIfInBounds_toArray, List.set_cons_zero, List.set_cons_succ]
                    refine wpAnyH_take (i := 18) (v := (.bool true)) rfl (by kernel_rfl) (by kernel_rfl) (by kernel_rfl) (fun _ _ _ h => h) (Or.inl ⟨by rfl, fun X hS => ?_⟩) hHeld ?_
                    · obtain ⟨⟨p0, p1, p2⟩, q0, q1, q2⟩ := AtS.all hS
                      go_simp
                    try simp only [Act.put, List.getElem_toArray, List.getElem_cons_zero, List.getElem_cons_succ, List.setIfInBounds_toArray, List.set_cons_zero, List.set_cons_succ]
                    refine wpAnyH_take (i := 19) (v := (.bool true)) rfl (by kernel_rfl) (by kernel_rfl) (by kernel_rfl) (fun _ _ _ h => h) (Or.inl ⟨by rfl, fun X hS => ?_⟩) hHeld ?_
                    · obtain ⟨⟨p0, p1, p2⟩, q0, q1, q2⟩ := AtS.all hS
                      go_simp
                    try simp only [Act.put, List.getElem_toArray, List.getElem_cons_zero, List.getElem_cons_succ, List.setIfInBounds_toArray, List.set_cons_zero, List.set_cons_succ]
                    refine wpAnyH_take (i := 20) (v := (.pointer (some ⟨E, 1, none⟩))) rfl (by kernel_rfl) (by kernel_rfl) (by kernel_rfl) (fun _ _ _ h => h) (Or.inl ⟨by rfl, fun X hS => ?_⟩) hHeld ?_
                    · obtain ⟨⟨p0, p1, p2⟩, q0, q1, q2⟩ := AtS.all hS
                      go_simp
                    try simp only [Act.put, List.getElem_toArray, List.getElem_cons_zero, List.getElem_cons_succ, List.setIfInBounds_toArray, List.set_cons_zero, List.set_cons_succ]
                    refine wpAnyH_take (i := 21) (v := (.int .i64 (k0 : Int))) rfl (by kernel_rfl) (by kernel_rfl) (by kernel_rfl) (fun _ _ _ h => h) (Or.inl ⟨by rfl, fun X hS => ?_⟩) hHeld ?_
                    · obtain ⟨⟨p0, p1, p2⟩, q0, q1, q2⟩ := AtS.all hS
                      go_simp
                    try simp only [Act.put, List.getElem_toArray, List.getElem_cons_zero, List.getElem_cons_succ, List.setIfInBounds_toArray, List.set_cons_zero, List.set_cons_succ]
                    refine wpAnyH_take (i := 22) (v := (.bool false)) rfl (by kernel_rfl) (by kernel_rfl) (by kernel_rfl) (fun _ _ _ h => h) (Or.inl ⟨by rfl, fun X hS => ?_⟩) hHeld ?_
                    · obtain ⟨⟨p0, p1, p2⟩, q0, q1, q2⟩ := AtS.all hS
                      go_simp
                    try simp only [Act.put, List.getElem_toArray, List.getElem_cons_zero, List.getElem_cons_succ, List.setIfInBounds_toArray, List.set_cons_zero, List.set_cons_succ]
                    refine wpAnyH_take (i := 23) (v := (.bool false)) rfl (by kernel_rfl) (by kernel_rfl) (by kernel_rfl) (fun _ _ _ h => h) (Or.inl ⟨by rfl, fun X hS => ?_⟩) hHeld ?_
                    · obtain ⟨⟨p0, p1, p2⟩, q0, q1, q2⟩ := AtS.all hS
                      go_simp
                    try simp only [Act.put, List.getElem_toArray, List.getElem_cons_zero, List.getElem_cons_succ, List.setIfInBounds_toArray, List.set_cons_zero, List.set_cons_succ]
                    refine wpAnyH_take (i := 24) (v := (.bool false)) rfl (by kernel_rfl) (by kernel_rfl) (by kernel_rfl) (fun _ _ _ h => h) (Or.inl ⟨by rfl, fun X hS => ?_⟩) hHeld ?_
                    · obtain ⟨⟨p0, p1, p2⟩, q0, q1, q2⟩ := AtS.all hS
                      go_simp
                    try simp only [Act.put, List.getElem_toArray, List.getElem_cons_zero, List.getElem_cons_succ, List.setIfInBounds_toArray, List.set_cons_zero, List.set_cons_succ]
                    refine wpAnyH_take (i := 25) (v := undef) rfl (by kernel_rfl) (by kernel_rfl) (by kernel_rfl) (fun _ _ _ h => h) (Or.inr ⟨by rfl, rfl⟩) hHeld ?_
                    try simp only [Act.put, List.getElem_toArray, List.getElem_cons_zero, List.getElem_cons_succ, List.setIfInBounds_toArray, List.set_cons_zero, List.set_cons_succ]
                    refine wpAnyH_take (i := 26) (v := undef) rfl (by kernel_rfl) (by kernel_rfl) (by kernel_rfl) (fun _ _ _ h => h) (Or.inr ⟨by rfl, rfl⟩) hHeld ?_
                    try simp only [Act.put, List.getElem_toArray, List.getElem_cons_zero, List.getElem_cons_succ, List.setIfInBounds_toArray, List.set_cons_zero, List.set_cons_succ]
                    refine wpAnyH_take (i := 27) (v := undef) rfl (by kernel_rfl) (by kernel_rfl) (by kernel_rfl) (fun _ _ _ h => h) (Or.inr ⟨by rfl, rfl⟩) hHeld ?_
                    try simp only [Act.put, List.getElem_toArray, List.getElem_cons_zero, List.getElem_cons_succ, List.setIfInBounds_toArray, List.set_cons_zero, List.set_cons_succ]
                    refine wpAnyH_take (i := 28) (v := undef) rfl (by kernel_rfl) (by kernel_rfl) (by kernel_rfl) (fun _ _ _ h => h) (Or.inr ⟨by rfl, rfl⟩) hHeld ?_
                    try simp only [Act.put, List.getElem_toArray, List.getElem_cons_zero, List.getElem_cons_succ, List.setIfInBounds_toArray, List.set_cons_zero, List.set_cons_succ]
                    refine wpAnyH_take (i := 29) (v := undef) rfl (by kernel_rfl) (by kernel_rfl) (by kernel_rfl) (fun _ _ _ h => h) (Or.inr ⟨by rfl, rfl⟩) hHeld ?_
                    try simp only [Act.put, List.getElem_toArray, List.getElem_cons_zero, List.getElem_cons_succ, List.setIfInBounds_toArray, List.set_cons_zero, List.set_cons_succ]
                    refine wpAnyH_take (i := 30) (v := undef) rfl (by kernel_rfl) (by kernel_rfl) (by kernel_rfl) (fun _ _ _ h => h) (Or.inr ⟨by rfl, rfl⟩) hHeld ?_
                    try simp only [Act.put, List.getElem_toArray, List.getElem_cons_zero, List.getElem_cons_succ, List.setIfInBounds_toArray, List.set_cons_zero, List.set_cons_succ]
                    refine wpAnyH_take (i := 31) (v := undef) rfl (by kernel_rfl) (by kernel_rfl) (by kernel_rfl) (fun _ _ _ h => h) (Or.inr ⟨by rfl, rfl⟩) hHeld ?_
                    try simp only [Act.put, List.getElem_toArray, List.getElem_cons_zero, List.getElem_cons_succ, List.setIfInBounds_toArray, List.set_cons_zero, List.set_cons_succ]
                    refine wpAnyH_take (i := 32) (v := undef) rfl (by kernel_rfl) (by kernel_rfl) (by kernel_rfl) (fun _ _ _ h => h) (Or.inr ⟨by rfl, rfl⟩) hHeld ?_
                    try simp only [Act.put, List.getElem_toArray, List.getElem_cons_zero, List.getElem_cons_succ, List.setIfInBounds_toArray, List.set_cons_zero, List.set_cons_succ]
                    refine wpAnyH_take (i := 33) (v := (.bool false)) rfl (by kernel_rfl) (by kernel_rfl) (by kernel_rfl) (fun _ _ _ h => h) (Or.inl ⟨by rfl, fun X hS => ?_⟩) hHeld ?_
                    · obtain ⟨⟨p0, p1, p2⟩, q0, q1, q2⟩ := AtS.all hS
                      go_simp
                    try simp only [Act.put, List.getElem_toArray, List.getElem_cons_zero, List.getElem_cons_succ, List.setIfInBounds_toArray, List.set_cons_zero, List.set_cons_succ]
                    refine wpAnyH_done (by kernel_rfl) ?_ _
                    clear hHeld
                    have HAS6 := Lib.hid HAS2.out
                    clear HAS2
                    obtain ⟨⟨p0, p1, p2⟩, q0, q1, q2⟩ := HAS6.out.st.all
                    obtain ⟨f0, f1, f2⟩ := HAS6.out.free
                    have hst := HAS6.out.store
                    simp only at hst
                    go_upto_region 8 with fail
                    change Code.wp _ _ _ _ (ah3 x4 Q (.int .i64 (adr p : Int)) (.int .i64 (k0 : Int)) (.bool false))
                    obtain ⟨z, hz⟩ : ∃ z, ah3 x4 Q (.int .i64 (adr p : Int)) (.int .i64 (k0 : Int)) (.bool false) = z := ⟨_, rfl⟩
                    rw [hz] at hst ⊢
                    have HST := Lib.hid hst
                    clear hz hst p0 p1 p2 q0 q1 q2 f0 f1 f2 HAS6
                    obtain ⟨hjn, hnl80⟩ := HJN.out
                    go_wp2_with fail
                    go_roundw
                    case rel => exact ⟨j + 1, p + 2 ^ k0, (adr p, k0, false), by omega, by go_num, HI2, HAH, HST⟩
                    case measure => first | (simp [intOf]; omega) | simp [intOf]

              · have hkk' : ¬ ((k0 : Int) = (k : Int)) := by omega
                clear hkk hip hR0 hi2
                refine wp_region_held_drew (S := AtS Q E (adr i0, k0, false) (adr p, k, false)) (by kernel_rfl) (HAS.out.drew).self (fun hHeld => ?_)
                have HAS2 := Lib.hid (HAS.out.drew)
                clear HAS HB4
                generalize w4.drew = x4 at *
                refine wpAnyH_take (i := 0) (v := (.int .i64 (j : Int))) rfl (by kernel_rfl) (by kernel_rfl) (by kernel_rfl) (fun _ _ _ h => h) (Or.inl ⟨by rfl, fun X hS => ?_⟩) hHeld ?_
                · obtain ⟨⟨p0, p1, p2⟩, q0, q1, q2⟩ := AtS.all hS
                  go_simp
                try simp only [Act.put, List.getElem_toArray, List.getElem_cons_zero, List.getElem_cons_succ, List.setIfInBounds_toArray, List.set_cons_zero, List.set_cons_succ]
                refine wpAnyH_take (i := 1) (v := (.bool true)) rfl (by kernel_rfl) (by kernel_rfl) (by kernel_rfl) (fun _ _ _ h => h) (Or.inl ⟨by rfl, fun X hS => ?_⟩) hHeld ?_
                · obtain ⟨⟨p0, p1, p2⟩, q0, q1, q2⟩ := AtS.all hS
                  go_simp
                try simp only [Act.put, List.getElem_toArray, List.getElem_cons_zero, List.getElem_cons_succ, List.setIfInBounds_toArray, List.set_cons_zero, List.set_cons_succ]
                refine wpAnyH_take (i := 2) (v := (.bool true)) rfl (by kernel_rfl) (by kernel_rfl) (by kernel_rfl) (fun _ _ _ h => h) (Or.inl ⟨by rfl, fun X hS => ?_⟩) hHeld ?_
                · obtain ⟨⟨p0, p1, p2⟩, q0, q1, q2⟩ := AtS.all hS
                  go_simp
                try simp only [Act.put, List.getElem_toArray, List.getElem_cons_zero, List.getElem_cons_succ, List.setIfInBounds_toArray, List.set_cons_zero, List.set_cons_succ]
                refine wpAnyH_take (i := 3) (v := (.pointer (some ⟨Q, 2, none⟩))) rfl (by kernel_rfl) (by kernel_rfl) (by kernel_rfl) (fun _ _ _ h => h) (Or.inl ⟨by rfl, fun X hS => ?_⟩) hHeld ?_
                · obtain ⟨⟨p0, p1, p2⟩, q0, q1, q2⟩ := AtS.all hS
                  go_simp
                try simp only [Act.put, List.getElem_toArray, List.getElem_cons_zero, List.getElem_cons_succ, List.setIfInBounds_toArray, List.set_cons_zero, List.set_cons_succ]
                refine wpAnyH_take (i := 4) (v := (.bool false)) rfl (by kernel_rfl) (by kernel_rfl) (by kernel_rfl) (fun _ _ _ h => h) (Or.inl ⟨by rfl, fun X hS => ?_⟩) hHeld ?_
                · obtain ⟨⟨p0, p1, p2⟩, q0, q1, q2⟩ := AtS.all hS
                  go_simp
                try simp only [Act.put, List.getElem_toArray, List.getElem_cons_zero, List.getElem_cons_succ, List.setIfInBounds_toArray, List.set_cons_zero, List.set_cons_succ]
                refine wpAnyH_take (i := 5) (v := (.bool true)) rfl (by kernel_rfl) (by kernel_rfl) (by kernel_rfl) (fun _ _ _ h => h) (Or.inl ⟨by rfl, fun X hS => ?_⟩) hHeld ?_
                · obtain ⟨⟨p0, p1, p2⟩, q0, q1, q2⟩ := AtS.all hS
                  go_simp
                try simp only [Act.put, List.getElem_toArray, List.getElem_cons_zero, List.getElem_cons_succ, List.setIfInBounds_toArray, List.set_cons_zero, List.set_cons_succ]
                refine wpAnyH_take (i := 6) (v := (.bool true)) rfl (by kernel_rfl) (by kernel_rfl) (by kernel_rfl) (fun _ _ _ h => h) (Or.inl ⟨by rfl, fun X hS => ?_⟩) hHeld ?_
                · obtain ⟨⟨p0, p1, p2⟩, q0, q1, q2⟩ := AtS.all hS
                  go_simp
                try simp only [Act.put, List.getElem_toArray, List.getElem_cons_zero, List.getElem_cons_succ, List.setIfInBounds_toArray, List.set_cons_zero, List.set_cons_succ]
                refine wpAnyH_take (i := 7) (v := (.bool true)) rfl (by kernel_rfl) (by kernel_rfl) (by kernel_rfl) (fun _ _ _ h => h) (Or.inl ⟨by rfl, fun X hS => ?_⟩) hHeld ?_
                · obtain ⟨⟨p0, p1, p2⟩, q0, q1, q2⟩ := AtS.all hS
                  go_simp
                try simp only [Act.put, List.getElem_toArray, List.getElem_cons_zero, List.getElem_cons_succ, List.setIfInBounds_toArray, List.set_cons_zero, List.set_cons_succ]
                refine wpAnyH_take (i := 8) (v := (.pointer (some ⟨E, 2, none⟩))) rfl (by kernel_rfl) (by kernel_rfl) (by kernel_rfl) (fun _ _ _ h => h) (Or.inl ⟨by rfl, fun X hS => ?_⟩) hHeld ?_
                · obtain ⟨⟨p0, p1, p2⟩, q0, q1, q2⟩ := AtS.all hS
                  go_simp
                try simp only [Act.put, List.getElem_toArray, List.getElem_cons_zero, List.getElem_cons_succ, List.setIfInBounds_toArray, List.set_cons_zero, List.set_cons_succ]
                refine wpAnyH_take (i := 9) (v := (.bool false)) rfl (by kernel_rfl) (by kernel_rfl) (by kernel_rfl) (fun _ _ _ h => h) (Or.inl ⟨by rfl, fun X hS => ?_⟩) hHeld ?_
                · obtain ⟨⟨p0, p1, p2⟩, q0, q1, q2⟩ := AtS.all hS
                  go_simp
                try simp only [Act.put, List.getElem_toArray, List.getElem_cons_zero, List.getElem_cons_succ, List.setIfInBounds_toArray, List.set_cons_zero, List.set_cons_succ]
                refine wpAnyH_take (i := 10) (v := (.bool true)) rfl (by kernel_rfl) (by kernel_rfl) (by kernel_rfl) (fun _ _ _ h => h) (Or.inl ⟨by rfl, fun X hS => ?_⟩) hHeld ?_
                · obtain ⟨⟨p0, p1, p2⟩, q0, q1, q2⟩ := AtS.all hS
                  go_simp
                try simp only [Act.put, List.getElem_toArray, List.getElem_cons_zero, List.getElem_cons_succ, List.setIfInBounds_toArray, List.set_cons_zero, List.set_cons_succ]
                refine wpAnyH_take (i := 11) (v := (.bool true)) rfl (by kernel_rfl) (by kernel_rfl) (by kernel_rfl) (fun _ _ _ h => h) (Or.inl ⟨by rfl, fun X hS => ?_⟩) hHeld ?_
                · obtain ⟨⟨p0, p1, p2⟩, q0, q1, q2⟩ := AtS.all hS
                  go_simp
                try simp only [Act.put, List.getElem_toArray, List.getElem_cons_zero, List.getElem_cons_succ, List.setIfInBounds_toArray, List.set_cons_zero, List.set_cons_succ]
                refine wpAnyH_take (i := 12) (v := (.bool true)) rfl (by kernel_rfl) (by kernel_rfl) (by kernel_rfl) (fun _ _ _ h => h) (Or.inl ⟨by rfl, fun X hS => ?_⟩) hHeld ?_
                · obtain ⟨⟨p0, p1, p2⟩, q0, q1, q2⟩ := AtS.all hS
                  go_simp
                try simp only [Act.put, List.getElem_toArray, List.getElem_cons_zero, List.getElem_cons_succ, List.setIfInBounds_toArray, List.set_cons_zero, List.set_cons_succ]
                refine wpAnyH_take (i := 13) (v := (.pointer (some ⟨Q, 1, none⟩))) rfl (by kernel_rfl) (by kernel_rfl) (by kernel_rfl) (fun _ _ _ h => h) (Or.inl ⟨by rfl, fun X hS => ?_⟩) hHeld ?_
                · obtain ⟨⟨p0, p1, p2⟩, q0, q1, q2⟩ := AtS.all hS
                  go_simp
                try simp only [Act.put, List.getElem_toArray, List.getElem_cons_zero, List.getElem_cons_succ, List.setIfInBounds_toArray, List.set_cons_zero, List.set_cons_succ]
                refine wpAnyH_take (i := 14) (v := (.int .i64 (k0 : Int))) rfl (by kernel_rfl) (by kernel_rfl) (by kernel_rfl) (fun _ _ _ h => h) (Or.inl ⟨by rfl, fun X hS => ?_⟩) hHeld ?_
                · obtain ⟨⟨p0, p1, p2⟩, q0, q1, q2⟩ := AtS.all hS
                  go_simp
                try simp only [Act.put, List.getElem_toArray, List.getElem_cons_zero, List.getElem_cons_succ, List.setIfInBounds_toArray, List.set_cons_zero, List.set_cons_succ]
                refine wpAnyH_take (i := 15) (v := (.pointer (some ⟨E, 1, none⟩))) rfl (by kernel_rfl) (by kernel_rfl) (by kernel_rfl) (fun _ _ _ h => h) (Or.inl ⟨by rfl, fun X hS => ?_⟩) hHeld ?_
                · obtain ⟨⟨p0, p1, p2⟩, q0, q1, q2⟩ := AtS.all hS
                  go_simp
                try simp only [Act.put, List.getElem_toArray, List.getElem_cons_zero, List.getElem_cons_succ, List.setIfInBounds_toArray, List.set_cons_zero, List.set_cons_succ]
                refine wpAnyH_take (i := 16) (v := (.int .i64 (k : Int))) rfl (by kernel_rfl) (by kernel_rfl) (by kernel_rfl) (fun _ _ _ h => h) (Or.inl ⟨by rfl, fun X hS => ?_⟩) hHeld ?_
                · obtain ⟨⟨p0, p1, p2⟩, q0, q1, q2⟩ := AtS.all hS
                  go_simp
                try simp only [Act.put, List.getElem_toArray, List.getElem_cons_zero, List.getElem_cons_succ, List.setIfInBounds_toArray, List.set_cons_zero, List.set_cons_succ]
                refine wpAnyH_take (i := 17) (v := (.bool false)) rfl (by kernel_rfl) (by kernel_rfl) (by kernel_rfl) (fun _ _ _ h => h) (Or.inl ⟨by rfl, fun X hS => ?_⟩) hHeld ?_
                · obtain ⟨⟨p0, p1, p2⟩, q0, q1, q2⟩ := AtS.all hS
                  go_simp
                try simp only [Act.put, List.getElem_toArray, List.getElem_cons_zero, List.getElem_cons_succ, List.setIfInBounds_toArray, List.set_cons_zero, List.set_cons_succ]
                refine wpAnyH_take (i := 18) (v := (.bool false)) rfl (by kernel_rfl) (by kernel_rfl) (by kernel_rfl) (fun _ _ _ h => h) (Or.inl ⟨by rfl, fun X hS => ?_⟩) hHeld ?_
                · obtain ⟨⟨p0, p1, p2⟩, q0, q1, q2⟩ := AtS.all hS
                  go_simp
                try simp only [Act.put, List.getElem_toArray, List.getElem_cons_zero, List.getElem_cons_succ, List.setIfInBounds_toArray, List.set_cons_zero, List.set_cons_succ]
                refine wpAnyH_take (i := 19) (v := (.bool false)) rfl (by kernel_rfl) (by kernel_rfl) (by kernel_rfl) (fun _ _ _ h => h) (Or.inl ⟨by rfl, fun X hS => ?_⟩) hHeld ?_
                · obtain ⟨⟨p0, p1, p2⟩, q0, q1, q2⟩ := AtS.all hS
                  go_simp
                try simp only [Act.put, List.getElem_toArray, List.getElem_cons_zero, List.getElem_cons_succ, List.setIfInBounds_toArray, List.set_cons_zero, List.set_cons_succ]
                refine wpAnyH_take (i := 20) (v := undef) rfl (by kernel_rfl) (by kernel_rfl) (by kernel_rfl) (fun _ _ _ h => h) (Or.inr ⟨by rfl, rfl⟩) hHeld ?_
                try simp only [Act.put, List.getElem_toArray, List.getElem_cons_zero, List.getElem_cons_succ, List.setIfInBounds_toArray, List.set_cons_zero, List.set_cons_succ]
                refine wpAnyH_take (i := 21) (v := undef) rfl (by kernel_rfl) (by kernel_rfl) (by kernel_rfl) (fun _ _ _ h => h) (Or.inr ⟨by rfl, rfl⟩) hHeld ?_
                try simp only [Act.put, List.getElem_toArray, List.getElem_cons_zero, List.getElem_cons_succ, List.setIfInBounds_toArray, List.set_cons_zero, List.set_cons_succ]
                refine wpAnyH_take (i := 22) (v := undef) rfl (by kernel_rfl) (by kernel_rfl) (by kernel_rfl) (fun _ _ _ h => h) (Or.inr ⟨by rfl, rfl⟩) hHeld ?_
                try simp only [Act.put, List.getElem_toArray, List.getElem_cons_zero, List.getElem_cons_succ, List.setIfInBounds_toArray, List.set_cons_zero, List.set_cons_succ]
                refine wpAnyH_take (i := 23) (v := (.bool false)) rfl (by kernel_rfl) (by kernel_rfl) (by kernel_rfl) (fun _ _ _ h => h) (Or.inl ⟨by rfl, fun X hS => ?_⟩) hHeld ?_
                · obtain ⟨⟨p0, p1, p2⟩, q0, q1, q2⟩ := AtS.all hS
                  go_simp
                try simp only [Act.put, List.getElem_toArray, List.getElem_cons_zero, List.getElem_cons_succ, List.setIfInBounds_toArray, List.set_cons_zero, List.set_cons_succ]
                refine wpAnyH_take (i := 24) (v := (.bool false)) rfl (by kernel_rfl) (by kernel_rfl) (by kernel_rfl) (fun _ _ _ h => h) (Or.inl ⟨by rfl, fun X hS => ?_⟩) hHeld ?_
                · obtain ⟨⟨p0, p1, p2⟩, q0, q1, q2⟩ := AtS.all hS
                  go_simp
                try simp only [Act.put, List.getElem_toArray, List.getElem_cons_zero, List.getElem_cons_succ, List.setIfInBounds_toArray, List.set_cons_zero, List.set_cons_succ]
                refine wpAnyH_take (i := 25) (v := undef) rfl (by kernel_rfl) (by kernel_rfl) (by kernel_rfl) (fun _ _ _ h => h) (Or.inr ⟨by rfl, rfl⟩) hHeld ?_
                try simp only [Act.put, List.getElem_toArray, List.getElem_cons_zero, List.getElem_cons_succ, List.setIfInBounds_toArray, List.set_cons_zero, List.set_cons_succ]
                refine wpAnyH_take (i := 26) (v := undef) rfl (by kernel_rfl) (by kernel_rfl) (by kernel_rfl) (fun _ _ _ h => h) (Or.inr ⟨by rfl, rfl⟩) hHeld ?_
                try simp only [Act.put, List.getElem_toArray, List.getElem_cons_zero, List.getElem_cons_succ, List.setIfInBounds_toArray, List.set_cons_zero, List.set_cons_succ]
                refine wpAnyH_take (i := 27) (v := undef) rfl (by kernel_rfl) (by kernel_rfl) (by kernel_rfl) (fun _ _ _ h => h) (Or.inr ⟨by rfl, rfl⟩) hHeld ?_
                try simp only [Act.put, List.getElem_toArray, List.getElem_cons_zero, List.getElem_cons_succ, List.setIfInBounds_toArray, List.set_cons_zero, List.set_cons_succ]
                refine wpAnyH_take (i := 28) (v := undef) rfl (by kernel_rfl) (by kernel_rfl) (by kernel_rfl) (fun _ _ _ h => h) (Or.inr ⟨by rfl, rfl⟩) hHeld ?_
                try simp only [Act.put, List.getElem_toArray, List.getElem_cons_zero, List.getElem_cons_succ, List.setIfInBounds_toArray, List.set_cons_zero, List.set_cons_succ]
                refine wpAnyH_take (i := 29) (v := undef) rfl (by kernel_rfl) (by kernel_rfl) (by kernel_rfl) (fun _ _ _ h => h) (Or.inr ⟨by rfl, rfl⟩) hHeld ?_
                try simp only [Act.put, List.getElem_toArray, List.getElem_cons_zero, List.getElem_cons_succ, List.setIfInBounds_toArray, List.set_cons_zero, List.set_cons_succ]
                refine wpAnyH_take (i := 30) (v := undef) rfl (by kernel_rfl) (by kernel_rfl) (by kernel_rfl) (fun _ _ _ h => h) (Or.inr ⟨by rfl, rfl⟩) hHeld ?_
                try simp only [Act.put, List.getElem_toArray, List.getElem_cons_zero, List.getElem_cons_succ, List.setIfInBounds_toArray, List.set_cons_zero, List.set_cons_succ]
                refine wpAnyH_take (i := 31) (v := undef) rfl (by kernel_rfl) (by kernel_rfl) (by kernel_rfl) (fun _ _ _ h => h) (Or.inr ⟨by rfl, rfl⟩) hHeld ?_
                try simp only [Act.put, List.getElem_toArray, List.getElem_cons_zero, List.getElem_cons_succ, List.setIfInBounds_toArray, List.set_cons_zero, List.set_cons_succ]
                refine wpAnyH_take (i := 32) (v := undef) rfl (by kernel_rfl) (by kernel_rfl) (by kernel_rfl) (fun _ _ _ h => h) (Or.inr ⟨by rfl, rfl⟩) hHeld ?_
                try simp only [Act.put, List.getElem_toArray, List.getElem_cons_zero, List.getElem_cons_succ, List.setIfInBounds_toArray, List.set_cons_zero, List.set_cons_succ]
                refine wpAnyH_take (i := 33) (v := (.bool false)) rfl (by kernel_rfl) (by kernel_rfl) (by kernel_rfl) (fun _ _ _ h => h) (Or.inl ⟨by rfl, fun X hS => ?_⟩) hHeld ?_
                · obtain ⟨⟨p0, p1, p2⟩, q0, q1, q2⟩ := AtS.all hS
                  go_simp
                try simp only [Act.put, List.getElem_toArray, List.getElem_cons_zero, List.getElem_cons_succ, List.setIfInBounds_toArray, List.set_cons_zero, List.set_cons_succ]
                refine wpAnyH_done (by kernel_rfl) ?_ _
                clear hHeld
                have HAS6 := Lib.hid HAS2.out
                clear HAS2
                obtain ⟨⟨p0, p1, p2⟩, q0, q1, q2⟩ := HAS6.out.st.all
                obtain ⟨f0, f1, f2⟩ := HAS6.out.free
                have hst := HAS6.out.store
                simp only at hst
                go_upto_region 8 with fail
                change Code.wp _ _ _ _ (ah3 x4 Q (.int .i64 (adr p : Int)) (.int .i64 (k : Int)) (.bool false))
                obtain ⟨z, hz⟩ : ∃ z, ah3 x4 Q (.int .i64 (adr p : Int)) (.int .i64 (k : Int)) (.bool false) = z := ⟨_, rfl⟩
                rw [hz] at hst ⊢
                have HST := Lib.hid hst
                clear hz hst p0 p1 p2 q0 q1 q2 f0 f1 f2 HAS6
                obtain ⟨hjn, hnl80⟩ := HJN.out
                go_wp2_with fail
                go_roundw
                case rel => exact ⟨j + 1, p + 2 ^ k, (adr p, k, false), by omega, by go_num, HI2, HAH, HST⟩
                case measure => first | (simp [intOf]; omega) | simp [intOf]

    · obtain rfl : j = nl := by omega
      go_wp2_with fail
      go_ret
      exact ⟨rfl, HAR.out.be⟩
end Go.Proofs.YtfemgekhpcgliaaGreat.Bt
