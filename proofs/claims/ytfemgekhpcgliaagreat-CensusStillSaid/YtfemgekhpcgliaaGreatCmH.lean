/- Several texts in one: TgF; BtI; BtJ; ArClone; BtK; CnA; CnB; CnC; CnD; CnE; CnF. -/
import Derived.Test.YtfemgekhpcgliaaGreatCmB
import Derived.Test.YtfemgekhpcgliaaGreatCmG
import Derived.Lib.SmallJoins
import Derived.Deep.Slices
import Derived.Deep.Strs
import Derived.ChangeSame
import Derived.OpenShut
import Derived.WideShapes
import Derived.WalkSmall
import Derived.Deep.MidRow
import Derived.Deep.DeepCutAuto
import Derived.Deep.RegionHeld3
import Derived.BigRegion
/- The statements' example; TagsNone. -/
namespace Go.Proofs.YtfemgekhpcgliaaGreat.Bt
open Go Go.RowKit Go.Shelf
set_option linter.unusedVariables false

def exS : ASt := layS (fullS 1 (fun _ => 0)) 98 2 3 1 1
theorem ex_run : runV (gC exS 96 8) 3 = .tuple #[.int .i64 2, tagV 3 1, .int .i64 0] := by
  have h1 : runF (gC exS 96 8) 3 = 2 := by decide +kernel
  have h2 : gC exS 96 8 2 = 7 := by decide +kernel
  have h3 : runOk (gC exS 96 8) 3 = true := by unfold runOk; rw [h1, h2]; decide +kernel
  unfold runV
  rw [if_pos h3, h1, h2]
  rfl
set_option maxHeartbeats 2000000 in
theorem awake6 (w : World) : Calls Tryz.prog 85 #[] w (Gives (.bool true) w) := by
  have R1 := Lib.hid ex_run
  have G1 : Hid (gE exS 96 8 3 = 0) := Lib.hid (by decide +kernel)
  have L1 : Hid (layA 96 8 2 1 = ((98 : Nat) : Int)) := Lib.hid (by decide)
  have L2 : Hid (layE (fullS 1 (fun _ => 0)) 96 8 2 1 = 0) := Lib.hid (by decide +kernel)
  go_enter Tryz.func85, Tryz.ntmps85
  go_wp2_with fail
  refine (lopen_any 8 (by omega) _).mono ?_
  rintro e w1 ⟨A, rfl, hx, hb⟩
  have HX1 := Lib.hid hx
  have HB1 := Lib.hid hb
  clear hx hb
  go_wp2_with fail
  have bV := Lib.hid (bel1 w1 (.cells #[.pointer (some ⟨A, 0, none⟩), .int .i64 96, .int .i64 8] 43))
  have HM := Lib.hid (Mine.new HX1.out (.cells #[.pointer (some ⟨A, 0, none⟩), .int .i64 96, .int .i64 8] 43))
  have HR := Lib.hid (heap_new w1 (.cells #[.pointer (some ⟨A, 0, none⟩), .int .i64 96, .int .i64 8] 43))
  refine (tlay_yes (HX1.out.below bV.out) 96 8 (by omega) (by omega) 2 3 1 98 2 (by omega) (by omega) 3 1 1 (.inl ⟨rfl, rfl, rfl, rfl⟩) rfl L1.out L2.out).mono ?_
  rintro e w2 ⟨rfl, hx, hg⟩
  have hr := HM.out.at hg HR.out
  have c0 := (cell_blk hr 0).1; have c1 := (cell_blk hr 1).1; have c2 := (cell_blk hr 2).1
  have HX2 : Hid (On A exS w2) := Lib.hid hx
  have HB2 := Lib.hid ((HB1.out.below HX1.out bV.out).went hg)
  clear hr hx hg HM HR
  go_wp2_with fail
  refine (trun_on HX2.out 96 8 (by omega) (by omega) 3 (by omega) (by omega) G1.out).mono ?_
  rintro e w3 ⟨rfl, hb⟩
  rw [R1.out]
  have HX3 := Lib.hid (HX2.out.below hb)
  have HB3 := Lib.hid (HB2.out.below HX2.out hb)
  clear hb c0 c1 c2
  go_wp2_with fail
  have bT := Lib.hid (bel1 w3 (.cells #[.int .u8 3, .int .u8 1] 118))
  refine (awake4 _).mono ?_
  rintro e w4 ⟨rfl, hb⟩
  have hr := pair_at hb (heap_new w3 (.cells #[.int .u8 3, .int .u8 1] 118))
  have c0 := (cell_blk hr 0).1; have c1 := (cell_blk hr 1).1
  have HF := Lib.hid ((HB3.out.below HX3.out bT.out).below (HX3.out.below bT.out) hb)
  clear hb hr
  go_wp2_with fail
  go_ret
  exact ⟨rfl, HF.out.bel⟩
end Go.Proofs.YtfemgekhpcgliaaGreat.Bt
/- The statement's example. -/
namespace Go.Proofs.YtfemgekhpcgliaaGreat.Bt
open Go Go.RowKit Go.Shelf
set_option linter.unusedVariables false
set_option linter.unusedSimpArgs false
theorem awA6 (w : World) : Calls Tryz.prog 39 #[] w (Gives (.bool true) w) := by
  go_enter Tryz.func39, Tryz.ntmps39
  go_wp2_with fail
  refine (awake6 _).mono ?_
  rintro e w1 ⟨rfl, hb⟩
  have HB := Lib.hid hb
  clear hb
  go_wp2_with fail
  go_ret
  exact ⟨rfl, HB.out⟩
theorem awA7 (w : World) : Calls Tryz.prog 40 #[] w (Gives (.bool true) w) := by
  go_enter Tryz.func40, Tryz.ntmps40
  go_wp2_with fail
  refine (awake7 _).mono ?_
  rintro e w1 ⟨rfl, hb⟩
  have HB := Lib.hid hb
  clear hb
  go_wp2_with fail
  go_ret
  exact ⟨rfl, HB.out⟩
theorem ex_first {A B : Nat} {s : ASt} {w w' : World} {e : Ending} (hr : refB s = false) (h : AllocPost B A 8 0 1 (fun _ => Option.none) s w e w') :
    ∃ R' s', e = .returned (.tuple #[.int .i64 4096, .int .i64 0]) ∧ BV B A 8 s' w' ∧ Bud 9 2 2 R' 2 s' ∧ Went A w w' ∧ R' 0 = some (1, true) ∧ s'.rf = (refS s).rf ∧ s'.lf = (refS s).lf := by
  have u : upN 0 (2 ^ 1) = 0 := by decide
  rcases h with ⟨g1, x, l, R1, s0, ⟨p1, p2, p3, p4, p5, p6⟩, rfl, R', s', h1, h2, h3, h4, h5, h6, h7⟩ | ⟨_, _, ⟨q1, _⟩ | ⟨_, q2, _⟩⟩
  · rcases p6 with ⟨rfl, rfl, rfl⟩ | ⟨c1, c2, c3, c4, rfl⟩
    · cases p2
    · rw [u] at c2
      simp at c2
      subst c2
      have a := p4.al _ _ _ p2
      have hl : 2 ^ 1 ≤ 2 ^ l := Nat.pow_le_pow_right (by decide) p1
      have hx : x = 0 := by omega
      subst hx
      exact ⟨R', s', rfl, h1, h2, h3, (h4 0 1).2 (.inl ⟨rfl, rfl⟩), h6, h7⟩
  · rw [u] at q1; omega
  · rw [hr] at q2; cases q2
theorem ex_second {A B : Nat} {R : Runs} {s : ASt} {w w' : World} {e : Ending} (hr : refB s = false) (hR : Til 2 R 2) (h0 : R 0 = some (1, true)) (h : AllocPost B A 8 2 0 R s w e w') :
    ∃ R' s', e = .returned (.tuple #[.int .i64 12288, .int .i64 0]) ∧ BV B A 8 s' w' ∧ Bud 9 3 3 R' 3 s' ∧ Went A w w' ∧ R' 0 = some (1, true) ∧ R' 2 = some (0, true) ∧ s'.rf = (refS s).rf ∧ s'.lf = (refS s).lf := by
  have u : upN 2 (2 ^ 0) = 2 := by decide
  rcases h with ⟨g1, x, l, R1, s0, ⟨p1, p2, p3, p4, p5, p6⟩, rfl, R', s', h1, h2, h3, h4, h5, h6, h7⟩ | ⟨_, _, ⟨q1, _⟩ | ⟨_, q2, _⟩⟩
  · rcases p6 with ⟨rfl, rfl, rfl⟩ | ⟨c1, c2, c3, c4, rfl⟩
    · have hx := p4.lt p2
      have := (hR.one h0 p2 (p := x) (by omega) (by omega) (Nat.le_refl _) (by have := pow2_pos l; omega)).2.2
      cases this
    · rw [u] at c2
      simp at c2
      subst c2
      have a := p4.al _ _ _ p2
      have hl := pow2_pos l
      have h01 := (p3 0 1).2 h0
      have hx : x = 2 := by
        rcases Nat.lt_or_ge x 2 with c | c
        · have := (p4.one h01 p2 (p := x) (by omega) (by omega) (Nat.le_refl _) (by omega)).2.2
          cases this
        · omega
      subst hx
      exact ⟨R', s', rfl, h1, h2, h3, (h4 0 1).2 (.inr h0), (h4 2 0).2 (.inl ⟨rfl, rfl⟩), h6, h7⟩
  · rw [u] at q1; omega
  · rw [hr] at q2; cases q2
theorem ref_same {s t : ASt} (h1 : t.rf = (refS s).rf) (h2 : t.lf = (refS s).lf) (h : s.rf = false) : t.rf = false := by
  rw [h1]; unfold refS; rw [h]; simp [h]
theorem refB_of {s : ASt} (h : s.rf = false) : refB s = false := by unfold refB; rw [h]; rfl
set_option maxHeartbeats 8000000 in
set_option maxRecDepth 100000 in
theorem awake8 (w : World) : Calls Tryz.prog 8 #[] w (Gives (.bool true) w) := by
  have L1 : Hid (lenN 9 = 9) := Lib.hid (by decide)
  go_enter Tryz.func8, Tryz.ntmps8
  go_wp2_with fail
  refine (on_new 9 _).mono ?_
  rintro e w1 ⟨A, rfl, hA, hx, hb, hm⟩
  rw [L1.out] at hx
  have HX1 := Lib.hid hx
  have HB1 := Lib.hid hb
  have HN := Lib.hid (bnewP hx (by show 9 ≤ 80; omega) ⟨rfl, rfl⟩)
  clear hx hb hm hA
  go_wp2_with fail
  refine HN.out.mono ?_
  rintro e w2 (⟨q, _⟩ | ⟨_, q, _⟩ | ⟨n, B, hn, _, hr, rfl, hbv, hg, hBw⟩)
  · exact absurd q (by decide)
  · exact absurd q (by decide)
  have hn8 : n = 8 := by have : (newS 9).L = 9 := rfl; omega
  subst hn8
  have HV2 := Lib.hid hbv
  have HB2 := Lib.hid (HB1.out.went hg)
  have hbu : Bud 9 0 0 (fun _ => Option.none) 0 (bS0 (newS 9) 8) := Bud.start 8 (by omega) (by omega) _ _
  have hrf : (bS0 (newS 9) 8).rf = false := rfl
  have HA1 := Lib.hid (balloc_any hbv hbu 1 (by omega))
  have HRF := Lib.hid hrf
  clear hbv hg hBw hn hr hbu hrf HN
  go_wp2_with fail
  refine HA1.out.mono ?_
  intro e w3 hap
  obtain ⟨R1, s1, rfl, hbv, hbu, hg, h0, hf1, hf2⟩ := ex_first (refB_of HRF.out) hap
  have HV3 := Lib.hid hbv
  have HB3 := Lib.hid (HB2.out.went hg)
  have HA2 := Lib.hid (balloc_any hbv hbu 0 (by omega))
  have HRF1 := Lib.hid (ref_same hf1 hf2 HRF.out)
  have HTI := Lib.hid (And.intro hbu.ti h0)
  clear hap hbv hbu hg h0 hf1 hf2 HA1
  go_wp2_with fail
  refine HA2.out.mono ?_
  intro e w4 hap
  obtain ⟨R2, s2, rfl, hbv, hbu, hg, h0, h2, hf1, hf2⟩ := ex_second (refB_of HRF1.out) HTI.out.1 HTI.out.2 hap
  have HV4 := Lib.hid hbv
  have HB4 := Lib.hid (HB3.out.went hg)
  have HBU := Lib.hid hbu
  clear hap hbv hbu hg h0 h2 hf1 hf2 HA2
  go_wp2_with fail
  refine (awA6 _).mono ?_
  rintro e w5 ⟨rfl, hb⟩
  have HV5 := Lib.hid (HV4.out.below hb)
  have HB5 := Lib.hid (HB4.out.below HV4.out.1 hb)
  clear hb
  go_wp2_with fail
  refine (awA7 _).mono ?_
  rintro e w6 ⟨rfl, hb⟩
  have HV6 := Lib.hid (HV5.out.below hb)
  have HB6 := Lib.hid (HB5.out.below HV5.out.1 hb)
  clear hb
  go_wp2_with fail
  refine (bbase HV6.out (by omega)).mono ?_
  rintro e w7 ⟨rfl, hb⟩
  have HV7 := Lib.hid (HV6.out.below hb)
  have HB7 := Lib.hid (HB6.out.below HV6.out.1 hb)
  clear hb
  go_wp2_with fail
  refine (bgrown HV7.out 3 (by omega) HBU.out.front HBU.out.gr).mono ?_
  rintro e w8 ⟨rfl, hb⟩
  have HB8 := Lib.hid (HB7.out.below HV7.out.1 hb)
  clear hb
  go_wp2_with fail
  go_ret
  exact ⟨rfl, HB8.out.bel⟩
theorem awA8 (w : World) : Calls Tryz.prog 67 #[] w (Gives (.bool true) w) := by
  go_enter Tryz.func67, Tryz.ntmps67
  go_wp2_with fail
  refine (awake8 _).mono ?_
  rintro e w1 ⟨rfl, hb⟩
  have HB := Lib.hid hb
  clear hb
  go_wp2_with fail
  go_ret
  exact ⟨rfl, HB.out⟩
end Go.Proofs.YtfemgekhpcgliaaGreat.Bt
/- Acts of a buddy that came in, opened; how many pages are committed. -/
namespace Go.Proofs.YtfemgekhpcgliaaGreat.Bt
open Go Go.RowKit Go.Shelf Go.Deep
open Go.ChangeShapes Go.WideShapes Go.ChangeAt
set_option linter.unusedVariables false
set_option linter.unusedSimpArgs false
structure Act8 where
  d : Int
  k : Int
  n : Int
structure Act8.ok (a : Act8) : Prop where
  d0 : 0 ≤ a.d
  d1 : a.d ≤ 255
  k0 : -9223372036854775808 ≤ a.k
  k1 : a.k ≤ 9223372036854775807
  n0 : -9223372036854775808 ≤ a.n
  n1 : a.n ≤ 9223372036854775807
def Act8Cells (w : World) (b off : Nat) (a : Act8) : Prop :=
  w.cell? ⟨b, off, none⟩ = some (.int .u8 a.d) ∧ w.cell? ⟨b, off + 1, none⟩ = some (.int .i64 a.k) ∧ w.cell? ⟨b, off + 2, none⟩ = some (.int .i64 a.n)
def Acts8At (w : World) (p : Option Addr) (acts : List Act8) : Prop :=
  (acts = []) ∨ ∃ b off, p = some ⟨b, off, none⟩ ∧ b < w.heap.size ∧ ∀ i (h : i < acts.length), Act8Cells w b (off + i * 3) acts[i] ∧ acts[i].ok
theorem Tryz.cellsAct8 : Tryz.prog.cellsOf 37 = 3 := by kernel_rfl
theorem Tryz.cellsU8b : Tryz.prog.cellsOf 5 = 1 := by kernel_rfl
set_option maxRecDepth 100000 in
theorem acts8_open {H : Type} {enc : TypeId × Value → H} {w : World} {fuel : Nat} {v : Value} {x : DataW H × List MemPlace} {a : Option Addr} {len cap : Nat} (hv : v = .slice a len cap)
    (h : DataW.trod enc Tryz.prog w 0 (fun _ => true) true fuel 22 v.cells.toList = some x) : ∃ acts : List Act8, acts.length = len ∧ len ≤ 9223372036854775807 ∧ Acts8At w a acts := by
  subst hv
  rcases open_slice Tryz.underlying22 h with ⟨h1, _⟩ | ⟨ad, len', cap', m, n, D, Pl, h1, _, hl, hm, hmm, _, hi⟩
  · simp [Value.cells] at h1
    exact ⟨[], by simp [h1.2.1], by omega, .inl rfl⟩
  · simp [Value.cells] at h1
    obtain ⟨rfl, rfl, rfl⟩ := h1
    unfold maxLen at hm
    have hlm : len ≤ m := by rw [hmm]; simp; omega
    have key : ∀ i, i < len → ∃ act : Act8, act.ok ∧ w.cell? (ad.add (i * 3)) = some (.int .u8 act.d) ∧ w.cell? (ad.add (i * 3 + 1)) = some (.int .i64 act.k) ∧ w.cell? (ad.add (i * 3 + 2)) = some (.int .i64 act.n) := by
      intro i hilt
      obtain ⟨cs', hc, ht⟩ := hi i (by omega)
      rw [Tryz.cellsAct8] at hc
      obtain ⟨_, hcl, hat⟩ := World.cells?_some hc
      obtain ⟨y0, y1, y2, k, _, _, e0, e1, e2⟩ := Go.Deep.trod_struct3 Tryz.underlying37 ht
      match cs', hcl with
      | [c0, c1, c2], _ =>
        simp only [Tryz.cellsInt, Tryz.cellsU8b, List.drop_zero, List.drop_succ_cons, List.take_succ_cons, List.take_zero] at e0 e1 e2
        obtain ⟨d, hd, _, wd⟩ := DataW.trod_int Tryz.underlying5 e0
        obtain ⟨f, hf, _, wf⟩ := DataW.trod_int Tryz.underlying3 e1
        obtain ⟨g, hg, _, wg⟩ := DataW.trod_int Tryz.underlying3 e2
        simp only [List.cons.injEq, and_true] at hd hf hg
        subst hd hf hg
        have b0 := bounds_u8 wd
        have b1 := bounds_i64 wf
        have b2 := bounds_i64 wg
        have a0 := hat 0 (by omega)
        have a1 := hat 1 (by omega)
        have a2 := hat 2 (by omega)
        rw [add_add] at a0 a1 a2
        exact ⟨⟨d, f, g⟩, ⟨b0.1, b0.2, b1.1, b1.2, b2.1, b2.2⟩, by simpa using a0, by simpa using a1, by simpa using a2⟩
    refine ⟨(List.range len).attach.map fun i => Classical.choose (key i.1 (List.mem_range.1 i.2)), by simp, by omega, ?_⟩
    by_cases h0 : len = 0
    · subst h0; exact .inl rfl
    · have k0 := (Classical.choose_spec (key 0 (by omega))).2.1
      obtain ⟨b, off, spot⟩ := ad
      have hspot : spot = none := by simpa [Addr.add] using World.cell?_spot k0
      subst hspot
      refine .inr ⟨b, off, rfl, World.block_lt_of_cell? _ _ (by simpa [Addr.add] using k0), fun i hil => ?_⟩
      have hil' : i < len := by simpa using hil
      have ks := Classical.choose_spec (key i hil')
      have eA : ∀ j, (⟨b, off, none⟩ : Addr).add j = ⟨b, off + j, none⟩ := fun j => by
        simp only [Addr.add]; split <;> simp_all
      simp only [List.getElem_map, List.getElem_attach, List.getElem_range]
      exact ⟨⟨(congrArg w.cell? (eA _).symm).trans ks.2.1, (congrArg w.cell? (eA (i * 3 + 1)).symm).trans ks.2.2.1, (congrArg w.cell? (eA (i * 3 + 2)).symm).trans ks.2.2.2⟩, ks.1⟩
theorem Acts8At.below {p : Option Addr} {l : List Act8} {w y : World} (h : Acts8At w p l) (hb : Below w.heap.size w y) : Acts8At y p l := by
  rcases h with e | ⟨b, off, e, hl, hc⟩
  · exact .inl e
  · have k : ∀ j, y.cell? ⟨b, j, none⟩ = w.cell? ⟨b, j, none⟩ := fun j => World.cell?_of_block (hb.block _ hl)
    refine .inr ⟨b, off, e, Nat.lt_of_lt_of_le hl hb.size, fun i hi => ⟨?_, (hc i hi).2⟩⟩
    obtain ⟨c0, c1, c2⟩ := (hc i hi).1
    exact ⟨(k _).trans c0, (k _).trans c1, (k _).trans c2⟩
set_option maxRecDepth 100000 in
theorem com_up {L e : Nat} (h0 : 0 < e) (h : e ≤ L) (hL : L ≤ 1048576) : countV L [0, e] 0 (L : Int) = (e : Int) := by
  have hr : Rising [0, e] := (good_up h0 h hL).rising
  have hw : withinB L 0 (L : Int) = true := decide_eq_true (by omega)
  unfold countV
  rw [hw, if_pos rfl]
  unfold memCount
  have := count_row ((0 : Nat) : Int) (e : Int) 0 (by omega) L
  rw [show (Int.toNat 0) = 0 from rfl, Int.toNat_natCast]
  have hm : ∀ i : Nat, mem [0, e] (((0 : Nat) : Int) + i) = decide (((0 : Nat) : Int) ≤ ((0 : Nat) : Int) + i ∧ ((0 : Nat) : Int) + i < (e : Int)) := fun i => by
    rw [(mem_two hr _).1, show mem [] (((0 : Nat) : Int) + i) = false from rfl, Bool.or_false]
  simp only [hm]
  rw [this]
  unfold ovI
  omega
section
variable {A P n cap : Nat} {s : ASt} {ps : List (Option Nat)} {p : Option Addr} {w : World}
theorem committed8 (h : ArX A s P ps p n cap w) :
    Calls Tryz.prog 21 #[.pointer (some ⟨A, 0, none⟩)] w fun e w' => e = .returned (.int .i64 (countV s.L s.es 0 s.L)) ∧ Below w.heap.size w w' := by
  have HX := Lib.hid h
  have g := h.good
  have hs := g.small
  have HN := Lib.hid h.num
  clear h
  go_enter Tryz.func21, Tryz.ntmps21
  go_wp2_with fail
  refine (pages_any HX.out).mono ?_
  rintro e w1 ⟨rfl, hb1⟩
  go_wp2_with fail
  refine (cap_any (HX.out.below hb1)).mono ?_
  rintro e w2 ⟨rfl, rfl⟩
  go_wp2_with fail
  refine (count_any s.L p n cap s.es 0 s.L _ g HN.out (HX.out.below hb1).edges (by omega)).mono ?_
  rintro e w3 ⟨rfl, hb3⟩
  go_wp2_with fail
  go_ret
  exact ⟨rfl, hb1.trans (hb3.mono hb1.size)⟩
end
theorem bcommitted {A B n g : Nat} {R : Runs} {s : ASt} {w : World} (h : BV B A n s w) (hB : Bud (n + 1) g g R g s) : Calls Tryz.prog 21 #[.pointer (some ⟨A, 0, none⟩)] w (Gives (.int .i64 (1 + (g : Int))) w) := by
  have e : countV s.L s.es 0 (s.L : Int) = 1 + (g : Int) := by
    have := hB.gG; have := hB.c2
    rw [hB.cL, hB.es, com_up (by omega) (by omega) (by omega)]; omega
  obtain ⟨⟨P, ps, p, np, cap, h⟩, _, _⟩ := h
  refine (committed8 h).mono ?_
  rintro e1 w1 ⟨rfl, hb⟩
  rw [e]
  exact ⟨rfl, hb⟩
end Go.Proofs.YtfemgekhpcgliaaGreat.Bt
/- The contract of Clone: another arena, alike, of blocks of its own, but for its set's edges. -/
namespace Go.Proofs.YtfemgekhpcgliaaGreat.Bt
open Go Go.RowKit Go.Shelf
set_option linter.unusedVariables false

/-- the first i pages' bytes -/
def upTo (m : Nat → UInt8) (i : Nat) : Nat → UInt8 := fun k => if k / 4096 < i then m k else 0
theorem upTo_zero (m : Nat → UInt8) : upTo m 0 = fun _ => 0 := by funext k; simp [upTo]
/-- the twin, so far -/
def Twin (A' P' : Nat) (s : ASt) (p : Option Addr) (n cap i : Nat) (w wr : World) : Prop :=
  ∃ qs, ArX A' { s with mm := upTo s.mm i } P' qs p n cap wr ∧ (∀ j b : Nat, qs[j]? = some (some b) → w.heap.size ≤ b) ∧ Below w.heap.size w wr ∧ w.heap.size ≤ A' ∧ w.heap.size ≤ P'
theorem page_size : (Tryz.prog.info? 98).map (·.size) = some 4096 := by kernel_rfl
theorem pg_one (m : Nat → UInt8) (i : Nat) : (pgCells m i).all (·.oneCell') = true := by
  rw [Array.all_eq_true_iff_forall_mem]
  intro v hv
  simp only [pgCells, List.mem_toArray, List.mem_map] at hv
  obtain ⟨j, _, rfl⟩ := hv
  rfl
theorem pg_range {x : World} {b : Nat} {m : Nat → UInt8} {i : Nat} (h : x.heap[b]? = some (.cells (pgCells m i) 98 (0, 0))) : x.rangeAt b 0 (pgCells m i).toList := fun j v hv => by
  rw [Nat.zero_add, (cell_blk h j).1, ← Array.getElem?_toList]; exact hv
theorem bel1' (w : World) (o : Obj) : Below w.heap.size w (w.alloc o) := (Below.refl _ _).alloc (Nat.le_refl _) _
theorem pairs_new2 (x : World) (a b : Array Value) (T U : TypeId) : ((x.alloc (.cells a T)).alloc (.cells b U)).heap[x.heap.size]? = some (.cells a T (0, 0)) ∧ ((x.alloc (.cells a T)).alloc (.cells b U)).heap[x.heap.size + 1]? = some (.cells b U (0, 0)) := by
  refine ⟨(Below.heap_alloc _ _ _ (by simp)).trans (heap_new _ _), ?_⟩
  have h := heap_new (x.alloc (.cells a T)) (.cells b U)
  rwa [show (x.alloc (.cells a T)).heap.size = x.heap.size + 1 from by simp] at h
section
variable {A P n cap : Nat} {s : ASt} {ps : List (Option Nat)} {p : Option Addr} {w : World}
def ClonePost (A : Nat) (s : ASt) (w : World) (e : Ending) (w' : World) : Prop :=
  ∃ A', e = .returned (.pointer (some ⟨A', 0, none⟩)) ∧ On A' s w' ∧ Below w.heap.size w w' ∧ w.heap.size ≤ A' ∧ (∀ k, OwnW A' w' k → w.heap.size ≤ k) ∧ ∀ k, EdgW A' w' k → EdgW A w k
theorem twin_start (h : ArX A s P ps p n cap w) (w2 : World) (hw : (w.alloc (.cells (headV s (w.heap.size + 1) p n cap) 86)).alloc (.cells (rowV (List.replicate s.L none)) 96) = w2) :
    Twin w.heap.size (w.heap.size + 1) s p n cap 0 w w2 := by
  have hno : ∀ (i b : Nat), (List.replicate s.L (none : Option Nat))[i]? ≠ some (some b) := fun i b h => by
    rw [List.getElem?_replicate] at h; split at h <;> cases h
  obtain ⟨g1, g2⟩ := pairs_new2 w (headV s (w.heap.size + 1) p n cap) (rowV (List.replicate s.L none)) 86 96
  rw [hw] at g1 g2
  have hb : Below w.heap.size w w2 := by
    rw [← hw]; exact ((Below.refl _ w).alloc (Nat.le_refl _) _).alloc (by simp) _
  refine ⟨List.replicate s.L none, ?_, fun j b h => absurd h (hno j b), hb, Nat.le_refl _, by omega⟩
  exact {
    good := h.good
    len := by simp
    hd := g1
    row := g2
    pg := fun i b h => absurd h (hno i b)
    no := fun i _ j _ => by rw [upTo_zero]
    un := fun i b h => absurd h (hno i b)
    edges := h.edges.keep fun b off e => hb.block b (h.ltE e)
    num := h.num
    room := h.room
    nil := h.nil
    ap := by omega
    apg := fun i b h => absurd h (hno i b)
    one := fun i j b h _ => absurd h (hno i b)
    eap := fun b off e => ⟨by have := h.ltE e; omega, by have := h.ltE e; omega, fun i => hno i b⟩
    lfb := h.lfb }
theorem ArX.congr {A P n cap : Nat} {s : ASt} {ps : List (Option Nat)} {p : Option Addr} {x : World} (h : ArX A s P ps p n cap x) {m' : Nat → UInt8} (e : ∀ k, k < s.L * 4096 → s.mm k = m' k) : ArX A { s with mm := m' } P ps p n cap x := by
  have lt : ∀ {i : Nat} {q : Option Nat}, ps[i]? = some q → i < s.L := fun {i q} hq => by
    have := (List.getElem?_eq_some_iff.1 hq).1; rwa [h.len] at this
  exact { h with
    pg := fun i b hb => by
      have hi := lt hb
      rw [h.pg i b hb, pg_ext fun j hj => e (i * 4096 + j) (by omega)]
    no := fun i hi j hj => by
      have hl := lt hi
      show m' _ = 0
      rw [← e _ (by omega)]; exact h.no i hi j hj }
/-- a page that the arena hasn't laid -/
theorem Twin.skip (h : ArX A s P ps p n cap w) {A' P' i : Nat} {wr : World} (t : Twin A' P' s p n cap i w wr) (hq : ps[i]? = some none) : Twin A' P' s p n cap (i + 1) w wr := by
  obtain ⟨qs, hx, h1, h3⟩ := t
  have e : upTo s.mm (i + 1) = upTo s.mm i := by
    funext k
    unfold upTo
    by_cases e1 : k / 4096 < i
    · rw [if_pos e1, if_pos (by omega)]
    · rw [if_neg e1]
      by_cases e2 : k / 4096 = i
      · rw [if_pos (by omega)]
        have := h.no i hq (k % 4096) (by omega)
        rwa [show i * 4096 + k % 4096 = k by omega] at this
      · rw [if_neg (by omega)]
  exact ⟨qs, by rw [e]; exact hx, h1, h3⟩
/-- a page more is there -/
theorem Twin.more {A' P' i b : Nat} {qs : List (Option Nat)} {x : World} (hx : ArX A' { s with mm := upTo s.mm i } P' qs p n cap x) (hb : qs[i]? = some (some b)) (h1 : ∀ j b : Nat, qs[j]? = some (some b) → w.heap.size ≤ b)
    (h3 : Below w.heap.size w x) (h4 : w.heap.size ≤ A' ∧ w.heap.size ≤ P') : Twin A' P' s p n cap (i + 1) w (x.setRow b (pgCells s.mm i)) := by
  refine ⟨qs, ?_, h1, ⟨h3.os, h3.tape, h3.output, by rw [size_setRow]; exact h3.size, fun k hk => (setRow_other _ _ _ _ (by have := h1 i b hb; omega)).trans (h3.block k hk)⟩, h4⟩
  refine hx.paged (m' := upTo s.mm (i + 1)) hb (by rw [size_setRow]; exact Nat.le_refl _) ?_ (fun k _ hk => setRow_other _ _ _ _ hk) (fun k hk => ?_)
  · rw [setRow_heap _ _ _ _ _ _ (hx.pg i b hb)]
    rw [pg_ext (m := s.mm) (m' := upTo s.mm (i + 1)) fun j hj => by unfold upTo; rw [if_pos (by omega)]]
  · show upTo s.mm (i + 1) k = upTo s.mm i k
    unfold upTo
    by_cases e1 : k / 4096 < i
    · rw [if_pos e1, if_pos (by omega)]
    · rw [if_neg e1, if_neg (by omega)]
set_option maxRecDepth 100000 in
set_option maxHeartbeats 4000000 in
theorem clone_any (h : ArX A s P ps p n cap w) : Calls Tryz.prog 14 #[.pointer (some ⟨A, 0, none⟩)] w (ClonePost A s w) := by
  have hsm := h.good.small
  have hmk := run_pages s.L hsm
  obtain ⟨c0, c1, c2, c3, c4⟩ := h.head
  have HX := Lib.hid h
  clear h
  have hA := HX.out.ltA
  have d2 : (w.alloc (.cells #[.int .i64 (s.L : Int), .slice p n cap, .slice (some ⟨P, 0, none⟩) s.L s.L, .bool s.rf, .int .i64 (s.lf : Int)] 86)).cell? ⟨A, 2, none⟩ = some (.slice (some ⟨P, 0, none⟩) s.L s.L) :=
    ((bel1' w _).cell (p := ⟨A, 2, none⟩) hA).trans c2
  have d3 : ((w.alloc (.cells #[.int .i64 (s.L : Int), .slice p n cap, .slice (some ⟨w.heap.size + 1, 0, none⟩) s.L s.L, .bool s.rf, .int .i64 (s.lf : Int)] 86)).alloc (.cells (rowV (List.replicate s.L none)) 96)).cell? ⟨A, 2, none⟩ = some (.slice (some ⟨P, 0, none⟩) s.L s.L) :=
    ((((Below.refl _ w).alloc (Nat.le_refl _) _).alloc (by simp) _).cell (p := ⟨A, 2, none⟩) hA).trans c2
  have HST := Lib.hid (twin_start HX.out _ rfl)
  go_enter Tryz.func14, Tryz.ntmps14
  go_wp2_with fail
  go_loopw [23] (fun i wr => ∃ k : Nat, k ≤ s.L ∧ i = .int .i64 (k : Int) ∧ Twin w.heap.size (w.heap.size + 1) s p n cap k w wr) (fun i _ => s.L - (intOf i).toNat)
  case atStart => exact ⟨0, Nat.zero_le _, rfl, HST.out⟩
  case round =>
    clear HST d2 d3 c0 c1 c2 c3 c4 hmk
    obtain ⟨k, hk, rfl, ht⟩ := hrel
    by_cases hlt : k < s.L
    · have hkl : k < ps.length := by rw [HX.out.len]; exact hlt
      have hbw := ht.choose_spec.2.2.1
      cases hq : ps[k]? with
      | none => rw [List.getElem?_eq_none_iff] at hq; omega
      | some q =>
        have hsl := (HX.out.below hbw).slot hq
        cases q with
        | none =>
          simp only [ptrV] at hsl
          have HT := Lib.hid (ht.skip HX.out hq)
          clear hq ht hbw
          go_wp2_with fail
          go_roundw
          case rel => exact ⟨k + 1, by omega, by go_num, HT.out⟩
          case measure => simp [intOf]; omega
        | some b =>
          simp only [ptrV] at hsl
          have hpg := (HX.out.below hbw).pg k b hq
          have hbl := HX.out.ltG hq
          have hmem := HX.out.un k b hq
          have HPG := Lib.hid hpg
          have HT := Lib.hid ht
          have HU : Hid ((Tryz.prog.info? 98).map (·.size) = some (pgCells s.mm k).toList.length) := Lib.hid (by rw [page_size]; simp [pgCells])
          have HQ := Lib.hid (And.intro hq (And.intro hbl hmem))
          clear hq ht hbw hpg hbl hmem
          go_upto_region 9 with fail
          clear hsl
          have hS0 : (fun X : World => X.rangeAt b 0 (pgCells s.mm k).toList ∧ X.heap[b]? = some (.cells (pgCells s.mm k) 98 (0, 0))) wr.drew := ⟨pg_range (x := wr.drew) HPG.out, HPG.out⟩
          refine wp_region_held_drew (S := fun X : World => X.rangeAt b 0 (pgCells s.mm k).toList ∧ X.heap[b]? = some (.cells (pgCells s.mm k) 98 (0, 0))) (by kernel_rfl) hS0 (fun hHeld => ?_)
          clear hS0
          refine wpAnyH_take (i := 0) (v := (.int .i64 (k : Int))) rfl (by kernel_rfl) (by kernel_rfl) (by kernel_rfl) (fun _ _ _ h => h) (Or.inl ⟨by rfl, fun X hS => ?_⟩) hHeld ?_
          · go_simp
          try simp only [Act.put, List.getElem_toArray, List.getElem_cons_zero, List.getElem_cons_succ, List.setIfInBounds_toArray, List.set_cons_zero, List.set_cons_succ]
          refine wpAnyH_take (i := 2) (v := (.pointer (some ⟨b, 0, none⟩))) rfl (by kernel_rfl) (by kernel_rfl) (by kernel_rfl) (fun _ _ _ h => h) (Or.inl ⟨by rfl, fun X hS => ?_⟩) hHeld ?_
          · go_simp
          try simp only [Act.put, List.getElem_toArray, List.getElem_cons_zero, List.getElem_cons_succ, List.setIfInBounds_toArray, List.set_cons_zero, List.set_cons_succ]
          refine wpAnyH_take (i := 3) (v := (.pointer (some ⟨b, 0, none⟩))) rfl (by kernel_rfl) (by kernel_rfl) (by kernel_rfl) (fun _ _ _ h => h) (Or.inl ⟨by rfl, fun X hS => ?_⟩) hHeld ?_
          · go_simp
          try simp only [Act.put, List.getElem_toArray, List.getElem_cons_zero, List.getElem_cons_succ, List.setIfInBounds_toArray, List.set_cons_zero, List.set_cons_succ]
          refine wpAnyH_take (i := 4) (v := .agg (pgCells s.mm k)) rfl (by kernel_rfl) (by kernel_rfl) (by kernel_rfl) (fun _ _ _ h => h) (yieldsIf_load_mid (by rfl) 98 (.tmp 33) rfl b 0 rfl (pgCells s.mm k).toList _ (fun X hS => hS.1) Tryz.underlying98 rfl HU.out) hHeld ?_
          try simp only [Act.put, List.getElem_toArray, List.getElem_cons_zero, List.getElem_cons_succ, List.setIfInBounds_toArray, List.set_cons_zero, List.set_cons_succ]
          refine wpAnyH_ready (rs := [1]) (by kernel_rfl) (by simp) (AllReadyH.cons rfl (fun K1 hK1 => ?_) AllReadyH.nil)
          go_simp
          obtain ⟨qs, hx, h1q, hbw, hA1, hP1⟩ := HT.out
          have hxd : ArX w.heap.size { s with mm := upTo s.mm k } (w.heap.size + 1) qs p n cap wr.drew := hx.below (Below.refl _ _).drew
          refine (laid_page hxd k hlt HQ.out.2.2).mono ?_
          rintro e x1 ⟨b2, qs2, rfl, hqb, hx1, hst⟩
          have hnb : b ≠ b2 := fun e => by
            rcases hst.news k b2 hqb with h5 | h5
            · have := h1q k b2 h5; have := HQ.out.2.1; omega
            · have := HQ.out.2.1; have h6 : wr.heap.size ≤ b2 := h5; have := hbw.size; omega
          have hno : ¬ Own w.heap.size (w.heap.size + 1) qs b := fun ho => by
            have := HQ.out.2.1
            rcases ho with h5 | h5 | ⟨j, h5⟩
            · omega
            · omega
            · have := h1q j b h5; omega
          have hpg1 := (hst.block b (Nat.lt_of_lt_of_le HQ.out.2.1 hbw.size) hno).trans HPG.out
          have hS1 : (fun X : World => X.rangeAt b 0 (pgCells s.mm k).toList ∧ X.heap[b]? = some (.cells (pgCells s.mm k) 98 (0, 0))) x1 := ⟨pg_range hpg1, hpg1⟩
          have HM : Hid (Twin w.heap.size (w.heap.size + 1) s p n cap (k + 1) w (x1.setRow b2 (pgCells s.mm k))) := Lib.hid (Twin.more hx1 hqb (fun j c hc => by
              rcases hst.news j c hc with h5 | h5
              · exact h1q j c h5
              · exact Nat.le_trans hbw.size h5) (hbw.drew.trans (hst.below hbw.size hA1 hP1 h1q)) ⟨hA1, hP1⟩)
          have HX1 := Lib.hid (hx1.pg k b2 hqb)
          have HS2 : Hid ((fun X : World => X.rangeAt b 0 (pgCells s.mm k).toList ∧ X.heap[b]? = some (.cells (pgCells s.mm k) 98 (0, 0))) (x1.setRow b2 (pgCells s.mm k))) := Lib.hid (by
            have h7 := (setRow_other x1 b2 b (pgCells s.mm k) hnb).trans hpg1
            exact ⟨pg_range h7, h7⟩)
          clear hHeld hx h1q hbw hA1 hP1 hxd hqb hx1 hst hnb hno hpg1
          refine hK1.out _ _ hS1 (fun hHeld => ?_)
          clear hK1 hS1
          try simp only [Act.put, List.getElem_toArray, List.getElem_cons_zero, List.getElem_cons_succ, List.setIfInBounds_toArray, List.set_cons_zero, List.set_cons_succ]
          refine wpAnyH_take (i := 5) (v := .pointer (some ⟨b2, 0, none⟩)) rfl (by kernel_rfl) (by kernel_rfl) (by kernel_rfl) (fun _ _ _ h => h) (Or.inl ⟨by rfl, fun X hS => ?_⟩) hHeld ?_
          · go_simp
          try simp only [Act.put, List.getElem_toArray, List.getElem_cons_zero, List.getElem_cons_succ, List.setIfInBounds_toArray, List.set_cons_zero, List.set_cons_succ]
          refine wpAnyH_ready (rs := [6]) (by kernel_rfl) (by simp) (AllReadyH.cons rfl (fun K2 hK2 => ?_) AllReadyH.nil)
          rw [if_pos (by rfl)]
          refine wp_store_row 98 (.tmp 35) (.tmp 34) rfl b2 (pgCells s.mm k) rfl rfl 98 (pgCells (upTo s.mm k) k) HX1.out (by rw [page_size, pg_size]) (by rw [pg_size, pg_size]) (pg_one _ _) ?_
          refine hK2.out _ _ HS2.out (fun _ => ?_)
          clear hK2 hHeld HX1 HS2 HPG
          try simp only [Act.put, List.getElem_toArray, List.getElem_cons_zero, List.getElem_cons_succ, List.setIfInBounds_toArray, List.set_cons_zero, List.set_cons_succ]
          refine wpAnyH_done (by kernel_rfl) ?_ _
          go_wp2_with fail
          go_roundw
          case rel => exact ⟨k + 1, by omega, by go_num, HM.out⟩
          case measure => simp [intOf]; omega
    · have hk2 : k = s.L := by omega
      subst hk2
      have HT := Lib.hid ht
      clear ht
      go_wp2_with fail
      go_ret
      obtain ⟨qs, hx, h1q, hbw, hA1, hP1⟩ := HT.out
      have hx2 := hx.congr (m' := s.mm) fun i hi => by show upTo s.mm s.L i = s.mm i; unfold upTo; rw [if_pos (by have : i < s.L * 4096 := hi; omega)]
      refine ⟨w.heap.size, rfl, ⟨_, _, _, _, _, hx2⟩, hbw, Nat.le_refl _, fun i ho => ?_, fun i he => ?_⟩
      · rcases (ownW_iff hx2 i).1 ho with h5 | h5 | ⟨j, h5⟩
        · omega
        · omega
        · exact h1q j i h5
      · obtain ⟨off, h5⟩ := (edgW_iff hx2 i).1 he
        exact (edgW_iff HX.out i).2 ⟨off, h5⟩
end
end Go.Proofs.YtfemgekhpcgliaaGreat.Bt
/- What BuddyPlays keeps from act to act. (Written by gen_btk.py.) -/
namespace Go.Proofs.YtfemgekhpcgliaaGreat.Bt
open Go Go.RowKit Go.Shelf
set_option linter.unusedVariables false
set_option linter.unusedSimpArgs false
theorem ref_L (s : ASt) : (refS s).L = s.L := by unfold refS; split <;> (try split) <;> rfl
theorem ref_es (s : ASt) : (refS s).es = s.es := by unfold refS; split <;> (try split) <;> rfl
theorem tkT_none : tkT (fun _ => Option.none) 0 = [] := by rfl
theorem new_cases {A N : Nat} {s : ASt} {w0 w w' : World} {e : Ending} (h : NewPost A s w e w') (hb : Base A w0 w) (hL : s.L = N) (h8 : N ≤ 80) (hF : Fr0 s) :
    (∃ st er, er ≠ 0 ∧ e = .returned (.tuple #[.pointer none, .int .i64 er]) ∧ newV N (rfI s) = .tuple #[bqV 0 0 0 0 (.slice none 0 0), .int .i64 er] ∧ On A st w' ∧ st.L ≤ 80 ∧ thereE st.L st.es 0 ((256 + st.L : Nat) : Int) = 3 ∧ Base A w0 w') ∨
    (∃ n B s', N = n + 1 ∧ 1 ≤ n ∧ e = .returned (.tuple #[bdyP B, .int .i64 0]) ∧ newV N (rfI s) = .tuple #[bqV 1 (n : Int) 0 (rfI s') (.slice none 0 0), .int .i64 0] ∧ BV B A n s' w' ∧ Bud (n + 1) 0 0 (fun _ => Option.none) 0 s' ∧ Base A w0 w') := by
  rcases h with ⟨q1, q2, q3, q4⟩ | ⟨q1, q2, q3, q4, q5⟩ | ⟨n, B, q1, q2, q3, q4, q5, q6, q7⟩
  · exact .inl ⟨s, 3, by decide, q2, by unfold newV; rw [if_pos (by omega)], q3, by omega, by rw [hF.1]; exact there_none8 (by omega) (by omega), hb.went q4⟩
  · have := (rfI_B s).1 q2
    exact .inl ⟨refS s, 4, by decide, q3, by unfold newV; rw [if_neg (by omega), if_pos (by rw [this]; decide), this], q4, by rw [ref_L]; omega, by rw [ref_es, ref_L, hF.1]; exact there_none8 (by omega) (by omega), hb.went q5⟩
  · have := (rfI_B s).2 q3
    have e1 : rfI (bS0 s n) = comR (rfI s) := by rw [← rfI_ref]; exact rfI_same rfl rfl
    exact .inr ⟨n, B, bS0 s n, by omega, q2, q4, by unfold newV; rw [if_neg (by omega), if_neg (by rw [this]; decide), e1, show (N : Int) - 1 = (n : Int) from by omega], q5, Bud.start n q2 (by omega) _ _, hb.went q6⟩
theorem AcAt.below {C : Nat} {d k nn : Int} {x y : World} (h : AcAt C d k nn x) (hb : Below x.heap.size x y) : AcAt C d k nn y := (hb.block _ (Array.getElem?_eq_some_iff.1 (show x.heap[C]? = _ from h)).1).trans h
theorem on_aclone8 {A : Nat} {s : ASt} {w : World} (h : On A s w) : Calls Tryz.prog 14 #[.pointer (some ⟨A, 0, none⟩)] w (ClonePost A s w) := by
  obtain ⟨P, ps, p, n, cap, h⟩ := h; exact clone_any h
/-- between two acts: the buddy, the document's in block Q -/
structure PB (Q n A B g : Nat) (R : Runs) (s : ASt) (u : Option Addr) (tc : Nat) (w0 x : World) : Prop where
  dp : DP A B n g R s u x
  bq : BqAt Q 1 (n : Int) (g : Int) (rfI s) (.slice u (tkT R g).length tc) x
  mq : Mine A Q x
  bs : Base A w0 x
  qs : w0.heap.size ≤ Q
theorem set5_mine {A E E2 : Nat} {s : ASt} {x : World} (ho : On A s x) (he : Mine A E x) (hr : Mine A E2 x) (v0 v1 v2 v3 v4 : Value) : Mine A E2 (set5 x E v0 v1 v2 v3 v4) := by
  have m0 := Mine.set ho he he 0 v0
  have r0 := Mine.set ho he hr 0 v0
  have a0 := ho.set he 0 v0
  have m1 := Mine.set a0 m0 m0 1 v1
  have r1 := Mine.set a0 m0 r0 1 v1
  have a1 := a0.set m0 1 v1
  have m2 := Mine.set a1 m1 m1 2 v2
  have r2 := Mine.set a1 m1 r1 2 v2
  have a2 := a1.set m1 2 v2
  have m3 := Mine.set a2 m2 m2 3 v3
  have r3 := Mine.set a2 m2 r2 3 v3
  have a3 := a2.set m2 3 v3
  exact Mine.set a3 m3 r3 4 v4
theorem set5_base {A E : Nat} {s : ASt} {w x : World} (hb : Base A w x) (ho : On A s x) (he : Mine A E x) (hE : w.heap.size ≤ E) (v0 v1 v2 v3 v4 : Value) : Base A w (set5 x E v0 v1 v2 v3 v4) := by
  have m0 := Mine.set ho he he 0 v0
  have a0 := ho.set he 0 v0
  have m1 := Mine.set a0 m0 m0 1 v1
  have a1 := a0.set m0 1 v1
  have m2 := Mine.set a1 m1 m1 2 v2
  have a2 := a1.set m1 2 v2
  have m3 := Mine.set a2 m2 m2 3 v3
  have a3 := a2.set m2 3 v3
  exact ((((hb.set ho he hE 0 _).set a0 m0 hE 1 _).set a1 m1 hE 2 _).set a2 m2 hE 3 _).set a3 m3 hE 4 _
section
variable {Q n A B g g' tc tc' : Nat} {R R' : Runs} {s s' : ASt} {u u' : Option Addr} {w0 x y : World}
theorem PB.below (h : PB Q n A B g R s u tc w0 x) (hb : Below x.heap.size x y) : PB Q n A B g R s u tc w0 y :=
  ⟨h.dp.below hb, h.bq.below hb, h.mq.went (Went.of_below h.dp.bv.1 hb), h.bs.below h.dp.bv.1 hb, h.qs⟩
/-- behind an act, ahead of the store -/
structure PN (Q P n A B g : Nat) (R : Runs) (s : ASt) (u : Option Addr) (tc : Nat) (w0 x : World) : Prop where
  dp : DP A B n g R s u x
  bq : ∃ (o q g0 r0 : Int) (v : Value), BqAt Q o q g0 r0 v x
  bp : BqAt P 1 (n : Int) (g : Int) (rfI s) (.slice u (tkT R g).length tc) x
  mq : Mine A Q x
  bs : Base A w0 x
  qs : w0.heap.size ≤ Q
theorem PN.below {P : Nat} (h : PN Q P n A B g R s u tc w0 x) (hb : Below x.heap.size x y) : PN Q P n A B g R s u tc w0 y :=
  ⟨h.dp.below hb, by obtain ⟨o, q, g0, r0, v, k⟩ := h.bq; exact ⟨o, q, g0, r0, v, k.below hb⟩, h.bp.below hb, h.mq.went (Went.of_below h.dp.bv.1 hb), h.bs.below h.dp.bv.1 hb, h.qs⟩
theorem PB.act (h : PB Q n A B g R s u tc w0 x) (hp : DP A B n g' R' s' u' y) (hg : Went A x y) : PN Q y.heap.size n A B g' R' s' u' tc' w0 (y.alloc (.cells (bqA 1 (n : Int) (g' : Int) (rfI s') (.slice u' (tkT R' g').length tc')) 33)) := by
  have hb := bel1 y (.cells (bqA 1 (n : Int) (g' : Int) (rfI s') (.slice u' (tkT R' g').length tc')) 33)
  have hq := Went.of_below hp.bv.1 hb
  exact ⟨hp.below hb, ⟨_, _, _, _, _, (h.bq.went h.dp.bv.1 hg).below hb⟩, heap_new _ _, (h.mq.went hg).went hq, (h.bs.went hg).went hq, h.qs⟩
theorem PN.store {P : Nat} (h : PN Q P n A B g R s u tc w0 x) : PB Q n A B g R s u tc w0 (set5 x Q (.int .i64 1) (.int .i64 (n : Int)) (.int .i64 (g : Int)) (.int .i64 (rfI s)) (.slice u (tkT R g).length tc)) := by
  obtain ⟨o, q, g0, r0, v, k⟩ := h.bq
  exact ⟨h.dp.set5 h.mq k _ _ _ _ _, set5_at k _ _ _ _ _, set5_mine h.dp.bv.1 h.mq h.mq _ _ _ _ _, set5_base h.bs h.dp.bv.1 h.mq h.qs _ _ _ _ _, h.qs⟩
theorem PB.start (h : BV B A n s x) (hB : Bud (n + 1) 0 0 (fun _ => Option.none) 0 s) (hb : Base A w0 x) :
    PB x.heap.size n A B 0 (fun _ => Option.none) s Option.none 0 w0 (x.alloc (.cells (bqA 1 (n : Int) 0 (rfI s) (.slice none 0 0)) 33)) := by
  have hw := bel1 x (.cells (bqA 1 (n : Int) 0 (rfI s) (.slice none 0 0)) 33)
  exact ⟨⟨h.below hw, hB, .inl tkT_none⟩, heap_new _ _, Mine.new h.1 _, hb.below h.1 hw, hb.bel.size⟩
end
end Go.Proofs.YtfemgekhpcgliaaGreat.Bt
/- play of census' statements: acts done to both. (Written by gen_cna.py.) -/
namespace Go.Proofs.YtfemgekhpcgliaaGreat.Bt
open Go Go.RowKit Go.Shelf
set_option linter.unusedVariables false
set_option linter.unusedSimpArgs false
/-- what play leaves -/
def PlayP (w : World) (e : Ending) (w' : World) : Prop :=
  (e = .returned (.tuple #[.pointer none, bqV 0 0 0 0 (.slice none 0 0), .bool false]) ∧ Below w.heap.size w w') ∨
  ∃ (n A B g : Nat) (R : Runs) (s : ASt) (u : Option Addr) (tc : Nat), e = .returned (.tuple #[bdyP B, bqV 1 (n : Int) (g : Int) (rfI s) (.slice u (tkT R g).length tc), .bool true]) ∧ DP A B n g R s u w' ∧ Base A w w'
/-- the result's variable, in block O, beside all that -/
structure PO (O Q n A B g : Nat) (R : Runs) (s : ASt) (u : Option Addr) (tc : Nat) (w0 x : World) : Prop where
  pb : PB Q n A B g R s u tc w0 x
  bo : BqAt O 0 0 0 0 (.slice none 0 0) x
  mo : Mine A O x
  ne : O ≠ Q
  os : w0.heap.size ≤ O
structure PON (O Q P n A B g : Nat) (R : Runs) (s : ASt) (u : Option Addr) (tc : Nat) (w0 x : World) : Prop where
  pn : PN Q P n A B g R s u tc w0 x
  bo : BqAt O 0 0 0 0 (.slice none 0 0) x
  mo : Mine A O x
  ne : O ≠ Q
  os : w0.heap.size ≤ O
section
variable {O Q n A B g g' tc tc' : Nat} {R R' : Runs} {s s' : ASt} {u u' : Option Addr} {w0 x y : World}
theorem PO.below (h : PO O Q n A B g R s u tc w0 x) (hb : Below x.heap.size x y) : PO O Q n A B g R s u tc w0 y :=
  ⟨h.pb.below hb, h.bo.below hb, h.mo.went (Went.of_below h.pb.dp.bv.1 hb), h.ne, h.os⟩
theorem PO.act (h : PO O Q n A B g R s u tc w0 x) (hp : DP A B n g' R' s' u' y) (hg : Went A x y) : PON O Q y.heap.size n A B g' R' s' u' tc' w0 (y.alloc (.cells (bqA 1 (n : Int) (g' : Int) (rfI s') (.slice u' (tkT R' g').length tc')) 33)) := by
  have hb := bel1 y (.cells (bqA 1 (n : Int) (g' : Int) (rfI s') (.slice u' (tkT R' g').length tc')) 33)
  exact ⟨h.pb.act hp hg, (h.bo.went h.pb.dp.bv.1 hg).below hb, (h.mo.went hg).went (Went.of_below hp.bv.1 hb), h.ne, h.os⟩
set_option maxHeartbeats 2000000 in
theorem PON.store {P : Nat} (h : PON O Q P n A B g R s u tc w0 x) : PO O Q n A B g R s u tc w0 (set5 x Q (.int .i64 1) (.int .i64 (n : Int)) (.int .i64 (g : Int)) (.int .i64 (rfI s)) (.slice u (tkT R g).length tc)) :=
  ⟨h.pn.store, (show (set5 x Q (.int .i64 1) (.int .i64 (n : Int)) (.int .i64 (g : Int)) (.int .i64 (rfI s)) (.slice u (tkT R g).length tc)).heap[O]? = _ from (set5_far (fun c => h.ne c) _ _ _ _ _).trans h.bo), set5_mine h.pn.dp.bv.1 h.pn.mq h.mo _ _ _ _ _, h.ne, h.os⟩
theorem PO.fin (h : PO O Q n A B g R s u tc w0 x) : PlayP w0 (.returned (.tuple #[bdyP B, bqV 1 (n : Int) (g : Int) (rfI s) (.slice u (tkT R g).length tc), .bool true])) (set5 x O (.int .i64 1) (.int .i64 (n : Int)) (.int .i64 (g : Int)) (.int .i64 (rfI s)) (.slice u (tkT R g).length tc)) ∧
    BqAt O 1 (n : Int) (g : Int) (rfI s) (.slice u (tkT R g).length tc) (set5 x O (.int .i64 1) (.int .i64 (n : Int)) (.int .i64 (g : Int)) (.int .i64 (rfI s)) (.slice u (tkT R g).length tc)) :=
  ⟨.inr ⟨n, A, B, g, R, s, u, tc, rfl, h.pb.dp.set5 h.mo h.bo _ _ _ _ _, set5_base h.pb.bs h.pb.dp.bv.1 h.mo h.os _ _ _ _ _⟩, set5_at h.bo _ _ _ _ _⟩
theorem PlayP.drew {w : World} {e : Ending} {z : World} (h : PlayP w e z) : PlayP w e z.drew := by
  rcases h with ⟨rfl, hb⟩ | ⟨n, A, B, g, R, s, u, tc, rfl, hp, hb⟩
  · exact .inl ⟨rfl, hb.trans ((Below.refl z.heap.size z).drew.mono hb.size)⟩
  · exact .inr ⟨n, A, B, g, R, s, u, tc, rfl, hp.below (Below.refl z.heap.size z).drew, hb.below hp.bv.1 (Below.refl z.heap.size z).drew⟩
end
def PlyC (O Q n B len : Nat) (w : World) (s39 : Value) (wr : World) : Prop :=
  ∃ (i A g : Nat) (R : Runs) (s : ASt) (u : Option Addr) (tc : Nat), i ≤ len ∧ s39 = .int .i64 (i : Int) ∧ PO O Q n A B g R s u tc w wr
set_option maxHeartbeats 16000000 in
set_option maxRecDepth 100000 in
theorem play9 (cap : Int) (p0 : Option Addr) (c0 : Nat) (acts : List Act8) (hlen : acts.length ≤ 60) (w : World) (h : Acts8At w p0 acts) :
    Calls Tryz.prog 23 #[.int .i64 cap, .slice p0 acts.length c0] w (PlayP w) := by
  have HACT := Lib.hid h
  clear h
  obtain ⟨N, hN, hN8⟩ : ∃ N : Nat, (if 0 < if 80 < cap then 80 else cap then if 80 < cap then 80 else cap else 0) = (N : Int) ∧ N ≤ 80 := ⟨(if 0 < if 80 < cap then 80 else cap then if 80 < cap then 80 else cap else 0).toNat, by split <;> split <;> omega, by split <;> split <;> omega⟩
  go_enter Tryz.func23, Tryz.ntmps23
  go_upto_region 2 with fail
  try rw [hN]
  clear hN
  generalize (if 80 < cap then (80 : Int) else cap) = c2
  have HN8 := Lib.hid hN8
  have hln : lenN (N : Int) = N := by unfold lenN; omega
  have HLN := Lib.hid hln
  clear hln hN8
  change Code.wp _ _ _ _ (w.alloc (.cells (bqA 0 0 0 0 (.slice none 0 0)) 33))
  have hb0 := bel1 w (.cells (bqA 0 0 0 0 (.slice none 0 0)) 33)
  have ho0 : BqAt w.heap.size 0 0 0 0 (.slice none 0 0) (w.alloc (.cells (bqA 0 0 0 0 (.slice none 0 0)) 33)) := heap_new _ _
  obtain ⟨y0, hy⟩ : ∃ y, w.alloc (.cells (bqA 0 0 0 0 (.slice none 0 0)) 33) = y := ⟨_, rfl⟩
  obtain ⟨O, hO⟩ : ∃ O, w.heap.size = O := ⟨_, rfl⟩
  rw [hy, hO] at ho0
  rw [hy] at hb0
  have HO0 := Lib.hid ho0; have HB0 := Lib.hid hb0; have HOS := Lib.hid (show w.heap.size ≤ O by omega)
  rw [hy, hO]
  clear ho0 hb0 hy hO
  go_wp2_with fail
  refine (on_new (N : Int) _).mono ?_
  rintro e w1 ⟨A, rfl, hA, hx, hbs, hm⟩
  rw [HLN.out] at hx
  have HX1 := Lib.hid hx
  have HBS1 := Lib.hid (hbs.rebase HB0.out)
  have HM1 := Lib.hid (hm O HO0.out.lt)
  have HO1 := Lib.hid (HO0.out.below hbs.bel)
  have HN := Lib.hid (bnewP hx (by show N ≤ 80; exact HN8.out) ⟨rfl, rfl⟩)
  have HDN := Lib.hid fun X => bnew_any N HN8.out (-1) (by omega) X
  clear hx hbs hm hA HLN HO0
  go_wp2_with fail
  refine HN.out.mono ?_
  rintro e w4 hnp
  have hgo : Went A w1 w4 := by
    rcases hnp with ⟨_, _, _, k⟩ | ⟨_, _, _, _, k⟩ | ⟨_, _, _, _, _, _, _, k, _⟩ <;> exact k
  have HM4 := Lib.hid (HM1.out.went hgo)
  have HO4 := Lib.hid (HO1.out.went HX1.out hgo)
  have hri : rfI (newS N) = -1 := rfl
  rcases new_cases (N := N) hnp HBS1.out rfl HN8.out ⟨rfl, rfl⟩ with ⟨st, er, q1, rfl, q2, q3, q4, q5, q6⟩ | ⟨n, B, s1, q1, q2, rfl, q3, q4, q5, q6⟩
  · have HER := Lib.hid q1
    rw [hri] at q2
    have HV := Lib.hid q2; have HA4 := Lib.hid q3; have HBS4 := Lib.hid q6
    clear q1 q2 q3 q4 q5 q6 hnp HN hgo hri HX1 HBS1 HM1 HO1
    go_wp2_with fail
    refine (HDN.out _).mono ?_
    rintro e w5 ⟨rfl, hb⟩
    rw [HV.out]
    have hq1 : ¬ (er = 0) := HER.out
    have HBS5 := Lib.hid (HBS4.out.below HA4.out hb)
    have HO5 := Lib.hid (HO4.out.below hb)
    clear hb
    go_upto_region 4 with fail
    change Code.wp _ _ _ _ (w5.alloc (.cells (bqA 0 0 0 0 (.slice none 0 0)) 33))
    have hb := bel1 w5 (.cells (bqA 0 0 0 0 (.slice none 0 0)) 33)
    have HB6 := Lib.hid (HBS5.out.bel.trans (hb.mono HBS5.out.bel.size))
    have HO6 := Lib.hid (HO5.out.below hb)
    obtain ⟨y, hy⟩ : ∃ y, w5.alloc (.cells (bqA 0 0 0 0 (.slice none 0 0)) 33) = y := ⟨_, rfl⟩
    rw [hy] at HB6 HO6 ⊢
    clear hb hy
    obtain ⟨e0, e1, e2, e3, e4⟩ := HO6.out.all
    obtain ⟨f0, f1, f2, f3, f4⟩ := HO6.out.free
    go_wp2_with fail
    change bodyPost _ _ _ _ _ (set5 y O (.int .i64 0) (.int .i64 0) (.int .i64 0) (.int .i64 0) (.slice none 0 0))
    have hz := set5_at HO6.out (.int .i64 0) (.int .i64 0) (.int .i64 0) (.int .i64 0) (.slice none 0 0)
    have HZB := Lib.hid (set5_below HB6.out HOS.out (.int .i64 0) (.int .i64 0) (.int .i64 0) (.int .i64 0) (.slice none 0 0))
    obtain ⟨z, hzz⟩ : ∃ z, set5 y O (.int .i64 0) (.int .i64 0) (.int .i64 0) (.int .i64 0) (.slice none 0 0) = z := ⟨_, rfl⟩
    rw [hzz] at hz HZB ⊢
    obtain ⟨g0, g1, g2, g3, g4⟩ := BqAt.all hz
    exact bodyPost_ret (v := .tuple #[.pointer none, bqV 0 0 0 0 (.slice none 0 0), .bool false]) (by simp [results, Tryz.results23, go_sem, g0, g1, g2, g3, g4]) rfl (.inl ⟨rfl, HZB.out⟩)
  · rw [hri] at q3
    have HV := Lib.hid q3; have HA4 := Lib.hid q4; have HBU4 := Lib.hid q5; have HBS4 := Lib.hid q6; have HQ1 := Lib.hid (And.intro q1 q2)
    clear q1 q2 q3 q4 q5 q6 hnp HN hgo hri HX1 HBS1 HM1 HO1
    go_wp2_with fail
    refine (HDN.out _).mono ?_
    rintro e w5 ⟨rfl, hb⟩
    rw [HV.out]
    have hpb := PB.start (HA4.out.below hb) HBU4.out (HBS4.out.below HA4.out.1 hb)
    have hw5 := bel1 w5 (.cells (bqA 1 (n : Int) 0 (rfI s1) (.slice none 0 0)) 33)
    have HPO := Lib.hid (show PO O _ _ _ _ _ _ _ _ _ w _ from ⟨hpb, (HO4.out.below hb).below hw5, (HM4.out.went (Went.of_below HA4.out.1 hb)).went (Went.of_below (HA4.out.1.below hb) hw5), Nat.ne_of_lt (HO4.out.below hb).lt, HOS.out⟩)
    clear hb hpb hw5 HA4 HBS4 HBU4
    go_upto_region 4 with fail
    change Code.wp _ _ _ _ (w5.alloc (.cells (bqA 1 (n : Int) 0 (rfI s1) (.slice none 0 0)) 33))
    obtain ⟨y, hy⟩ : ∃ y, w5.alloc (.cells (bqA 1 (n : Int) 0 (rfI s1) (.slice none 0 0)) 33) = y := ⟨_, rfl⟩
    obtain ⟨Q, hQ⟩ : ∃ Q, w5.heap.size = Q := ⟨_, rfl⟩
    rw [hy, hQ] at HPO
    rw [hy, hQ]
    clear hy hQ HV HDN
    obtain ⟨len, hl⟩ : ∃ len, acts.length = len := ⟨_, rfl⟩
    have HL := Lib.hid hl
    rw [hl] at hlen ⊢
    clear hl
    have HST : Hid (PlyC O Q n B len w (.int .i64 0) y) := Lib.hid ⟨0, A, 0, _, _, _, _, Nat.zero_le _, rfl, HPO.out⟩
    clear HPO
    go_wp2_with fail
    go_loopw [39] (fun s39 wr => PlyC O Q n B len w s39 wr) (fun s39 _ => len - (intOf s39).toNat)
    case atStart => exact HST.out
    case round =>
      clear HST
      obtain ⟨i, A0, g0, R0, s0, u0, tc0, hi, rfl, hv⟩ := hrel
      have HV := Lib.hid hv
      clear hv
      by_cases hlt : i < len
      · obtain ⟨b, off, rfl, hbl, d, k, nn, hc0, hc1, hc2, hkk⟩ : ∃ b off, p0 = some ⟨b, off, none⟩ ∧ b < w.heap.size ∧ ∃ d k nn, w.cell? ⟨b, off + i * 3, none⟩ = some (.int .u8 d) ∧ w.cell? ⟨b, off + i * 3 + 1, none⟩ = some (.int .i64 k) ∧ w.cell? ⟨b, off + i * 3 + 2, none⟩ = some (.int .i64 nn) ∧ (0 ≤ d ∧ d ≤ 255) ∧ (-9223372036854775808 ≤ k ∧ k ≤ 9223372036854775807) ∧ (-9223372036854775808 ≤ nn ∧ nn ≤ 9223372036854775807) := by
          rcases HACT.out with he | ⟨b, off, e, hbl, hc⟩
          · have := HL.out; rw [he] at this; simp at this; omega
          · obtain ⟨⟨x0, x1, x2⟩, hok⟩ := hc i (by rw [HL.out]; exact hlt)
            exact ⟨b, off, e, hbl, _, _, _, x0, x1, x2, ⟨hok.d0, hok.d1⟩, ⟨hok.k0, hok.k1⟩, ⟨hok.n0, hok.n1⟩⟩
        have HK := Lib.hid hkk
        have kk : ∀ j, wr.cell? ⟨b, j, none⟩ = w.cell? ⟨b, j, none⟩ := fun j => World.cell?_of_block (HV.out.pb.bs.bel.block _ hbl)
        have c0' := (kk _).trans hc0
        have c1' := (kk _).trans hc1
        have c2' := (kk _).trans hc2
        clear kk hc0 hc1 hc2 hkk
        go_upto_region 9 with fail
        change Code.wp _ _ _ _ (wr.alloc (.cells (acA d k nn) 37))
        have hpb := HV.out.below (bel1 wr (.cells (acA d k nn) 37))
        have hca : AcAt wr.heap.size d k nn (wr.alloc (.cells (acA d k nn) 37)) := heap_new _ _
        obtain ⟨y1, hy⟩ : ∃ y, wr.alloc (.cells (acA d k nn) 37) = y := ⟨_, rfl⟩
        obtain ⟨E, hE⟩ : ∃ E, wr.heap.size = E := ⟨_, rfl⟩
        rw [hE, hy] at hca
        rw [hy] at hpb
        rw [hE, hy]
        clear hE hy c0' c1' c2' HV
        have HP := Lib.hid hpb
        clear hpb
        have HC := Lib.hid hca
        have HDO := Lib.hid (do_any (tc := tc0) d k nn HK.out.1 HK.out.2.1 HK.out.2.2 HP.out.pb.dp)
        obtain ⟨m0, hm0⟩ : ∃ m, (tkT R0 g0).length = m := ⟨_, rfl⟩
        obtain ⟨r0, hr0⟩ : ∃ r, rfI s0 = r := ⟨_, rfl⟩
        have hbq := HP.out.pb.bq
        rw [hm0, hr0] at HDO hbq
        obtain ⟨q0, q1, q2, q3, q4⟩ := hbq.all
        obtain ⟨c0, c1, c2⟩ := HC.out.all
        clear hbq hca hm0 hr0
        go_wp2_with fail
        refine HDO.out.mono ?_
        rintro e x1 ⟨g1, R1, s1, u1, tc1, rfl, hdp, hg⟩
        clear q0 q1 q2 q3 q4 c0 c1 c2 HDO HC
        have hpn := PO.act (tc' := tc1) HP.out hdp hg
        obtain ⟨m1, hm1⟩ : ∃ m, (tkT R1 g1).length = m := ⟨_, rfl⟩
        obtain ⟨r1, hr1⟩ : ∃ r, rfI s1 = r := ⟨_, rfl⟩
        have HM1 := Lib.hid hm1; have HR1 := Lib.hid hr1
        have hbp := hpn.pn.bp
        rw [hm1, hr1] at hpn hbp
        rw [hm1, hr1]
        clear hm1 hr1 hdp hg HP
        go_upto_region 10 with fail
        change Code.wp _ _ _ _ (x1.alloc (.cells (bqA 1 (n : Int) (g1 : Int) r1 (.slice u1 m1 tc1)) 33))
        obtain ⟨y2, hy⟩ : ∃ y, x1.alloc (.cells (bqA 1 (n : Int) (g1 : Int) r1 (.slice u1 m1 tc1)) 33) = y := ⟨_, rfl⟩
        obtain ⟨P, hP⟩ : ∃ P, x1.heap.size = P := ⟨_, rfl⟩
        rw [hy, hP] at hpn hbp
        rw [hy, hP]
        clear hy hP
        obtain ⟨o3, q3, g3, r3, v3, hk3⟩ := hpn.pn.bq
        obtain ⟨e0, e1, e2, e3, e4⟩ := hk3.all
        obtain ⟨f0, f1, f2, f3, f4⟩ := hk3.free
        obtain ⟨p0', p1', p2', p3', p4'⟩ := hbp.all
        have hst := hpn.store
        rw [HM1.out, HR1.out] at hst
        have HST2 := Lib.hid hst
        clear hst hk3 hpn hbp
        go_upto_region 11 with fail
        change Code.wp _ _ _ _ (set5 y2 Q (.int .i64 1) (.int .i64 (n : Int)) (.int .i64 (g1 : Int)) (.int .i64 r1) (.slice u1 m1 tc1))
        obtain ⟨z, hz⟩ : ∃ z, set5 y2 Q (.int .i64 1) (.int .i64 (n : Int)) (.int .i64 (g1 : Int)) (.int .i64 r1) (.slice u1 m1 tc1) = z := ⟨_, rfl⟩
        rw [hz] at HST2 ⊢
        clear hz e0 e1 e2 e3 e4 f0 f1 f2 f3 f4 p0' p1' p2' p3' p4'
        go_wp2_with fail
        go_roundw
        case rel => exact ⟨i + 1, A0, g1, R1, s1, u1, tc1, by omega, by go_num, HST2.out⟩
        case measure => simp [intOf]; omega
      · obtain ⟨hpl, hoz⟩ := HV.out.fin
        obtain ⟨m0, hm0⟩ : ∃ m, (tkT R0 g0).length = m := ⟨_, rfl⟩
        obtain ⟨r0, hr0⟩ : ∃ r, rfI s0 = r := ⟨_, rfl⟩
        have hbq := HV.out.pb.bq
        rw [hm0, hr0] at hpl hoz hbq
        obtain ⟨q0, q1, q2, q3, q4⟩ := hbq.all
        obtain ⟨e0, e1, e2, e3, e4⟩ := HV.out.bo.all
        obtain ⟨f0, f1, f2, f3, f4⟩ := HV.out.bo.free
        have HPL := Lib.hid hpl; have HOZ := Lib.hid hoz
        clear hpl hoz hbq hm0 hr0
        go_upto_region 12 with fail
        go_region
        go_wp2_with fail
        change bodyPost _ _ _ _ _ (set5 wr O (.int .i64 1) (.int .i64 (n : Int)) (.int .i64 (g0 : Int)) (.int .i64 r0) (.slice u0 m0 tc0)).drew
        obtain ⟨z, hz⟩ : ∃ z, set5 wr O (.int .i64 1) (.int .i64 (n : Int)) (.int .i64 (g0 : Int)) (.int .i64 r0) (.slice u0 m0 tc0) = z := ⟨_, rfl⟩
        rw [hz] at HPL HOZ ⊢
        clear hz q0 q1 q2 q3 q4 e0 e1 e2 e3 e4 f0 f1 f2 f3 f4
        have hz3 := HOZ.out.below (Below.refl z.heap.size z).drew
        obtain ⟨gg0, gg1, gg2, gg3, gg4⟩ := hz3.all
        exact bodyPost_ret (v := .tuple #[bdyP B, bqV 1 (n : Int) (g0 : Int) r0 (.slice u0 m0 tc0), .bool true]) (by simp [results, Tryz.results23, go_sem, gg0, gg1, gg2, gg3, gg4]) rfl HPL.out.drew
end Go.Proofs.YtfemgekhpcgliaaGreat.Bt
/- census' Largest and the document's. (Written by gen_cnb.py.) -/
namespace Go.Proofs.YtfemgekhpcgliaaGreat.Bt
open Go Go.RowKit Go.Shelf
set_option linter.unusedVariables false
set_option linter.unusedSimpArgs false
/-- the greatest order of the free runs of a row; is there one? -/
def lgM (L : List (Nat × Nat × Bool)) : Nat := L.foldl (fun m y => if y.2.2 = true then m else max m y.2.1) 0
def lgB (L : List (Nat × Nat × Bool)) : Bool := L.any fun y => !y.2.2
def lgV (L : List (Nat × Nat × Bool)) : Value := .tuple #[.int .i64 (lgM L : Int), .bool (lgB L)]
theorem lgM_snoc (L : List (Nat × Nat × Bool)) (i k : Nat) (t : Bool) : lgM (L ++ [(i, k, t)]) = if t = true then lgM L else max (lgM L) k := by unfold lgM; rw [List.foldl_append]; rfl
theorem lgB_snoc (L : List (Nat × Nat × Bool)) (i k : Nat) (t : Bool) : lgB (L ++ [(i, k, t)]) = (lgB L || !t) := by unfold lgB; rw [List.any_append]; simp
set_option maxRecDepth 100000 in
set_option maxHeartbeats 8000000 in
theorem clargest {B A n g : Nat} {R : Runs} {s : ASt} {w : World} (h : BV B A n s w) (hB : Bud (n + 1) g g R g s) : Calls Tryz.prog 29 #[bdyP B] w (Gives (lgV (runL R g)) w) := by
  have HGB : Hid (g ≤ 80) := Lib.hid (by have := hB.sz h.2.1; omega)
  have HRU := Lib.hid (bRuns_any h hB)
  clear h hB
  go_enter Tryz.func29, Tryz.ntmps29
  go_wp2_with fail
  refine HRU.out.mono ?_
  rintro e w1 ⟨u, cap, rfl, hru, huf, hb⟩
  obtain ⟨nl, hnl⟩ : ∃ nl, (runL R g).length = nl := ⟨_, rfl⟩
  have HNL := Lib.hid hnl
  have hnl80 : nl ≤ 80 := by have := runL_len R g; have := HGB.out; omega
  have HBW := Lib.hid hb
  have HR1 := Lib.hid hru
  rw [adL_len, hnl]
  clear hru huf hb HRU hnl
  go_wp2_with fail
  go_loopw [4, 5, 11] (fun s4 s5 s11 wr => ∃ j : Nat, j ≤ nl ∧ s4 = .int .i64 (lgM ((runL R g).take j) : Int) ∧ s5 = .bool (lgB ((runL R g).take j)) ∧ s11 = .int .i64 (j : Int) ∧ Hid (Below w1.heap.size w1 wr)) (fun _ _ s11 _ => nl - (intOf s11).toNat)
  case atStart => exact ⟨0, Nat.zero_le _, by rw [List.take_zero]; rfl, by rw [List.take_zero]; rfl, rfl, Lib.hid (Below.refl _ _)⟩
  case round =>
    obtain ⟨j, hj, rfl, rfl, rfl, HWr⟩ := hrel
    by_cases hjn : j < nl
    · have hjn2 : (j : Int) < (nl : Int) := by omega
      have hjL : j < (runL R g).length := by rw [HNL.out]; exact hjn
      rcases HR1.out.below HWr.out with e | ⟨gb, rfl, hgl, hcc⟩
      · have := congrArg List.length e; rw [adL_len, HNL.out] at this; simp at this; omega
      obtain ⟨q0, q1, q2⟩ := hcc j (by rw [adL_len]; exact hjL)
      obtain ⟨y, hy⟩ : ∃ y, (runL R g).getD j r0 = y := ⟨_, rfl⟩
      rw [adL_get hjL, hy] at q0 q1 q2
      have hmm := runL_mem.1 (show (y.1, y.2.1, y.2.2) ∈ runL R g by rw [← hy]; exact getD_mem hjL)
      have HTK := Lib.hid (take_snoc hjL)
      rw [hy] at HTK
      obtain ⟨i, k, t⟩ := y
      simp only at q0 q1 q2
      obtain ⟨M, hM⟩ : ∃ M, lgM ((runL R g).take j) = M := ⟨_, rfl⟩
      obtain ⟨S, hS⟩ : ∃ S, lgB ((runL R g).take j) = S := ⟨_, rfl⟩
      have HM1 : Hid (lgM ((runL R g).take (j + 1)) = if t = true then M else max M k) := Lib.hid (by rw [HTK.out, lgM_snoc, hM])
      have HS1 : Hid (lgB ((runL R g).take (j + 1)) = (S || !t)) := Lib.hid (by rw [HTK.out, lgB_snoc, hS])
      rw [hM, hS]
      clear hcc hjL hgl hy hmm hM hS HTK
      go_upto_region 5 with fail
      have htt : (wr.alloc (.cells #[.int .i64 (adr i : Int), .int .i64 (k : Int), .bool t] 79)).heap[wr.heap.size]? = _ := heap_new wr _
      have HW4 := Lib.hid (HWr.out.trans ((bel1 wr (.cells #[.int .i64 (adr i : Int), .int .i64 (k : Int), .bool t] 79)).mono HWr.out.size))
      obtain ⟨w4, hw4⟩ : ∃ z, wr.alloc (.cells #[.int .i64 (adr i : Int), .int .i64 (k : Int), .bool t] 79) = z := ⟨_, rfl⟩
      obtain ⟨E, hE⟩ : ∃ T, wr.heap.size = T := ⟨_, rfl⟩
      rw [hw4] at htt HW4 ⊢
      rw [hE] at htt ⊢
      have t0 := (cell_blk htt 0).1; have t1 := (cell_blk htt 1).1; have t2 := (cell_blk htt 2).1
      simp at t0 t1 t2
      clear hw4 hE q0 q1 q2 htt
      cases t with
      | true =>
        go_wp2_with fail
        go_roundw
        case rel => exact ⟨j + 1, by omega, by rw [HM1.out]; rfl, by rw [HS1.out]; simp, by go_num, HW4⟩
        case measure => simp [intOf]; omega
      | false =>
        by_cases hMk : (M : Int) < (k : Int)
        · go_wp2_with fail
          go_roundw
          case rel => exact ⟨j + 1, by omega, by rw [HM1.out, if_neg (by decide), Nat.max_eq_right (by omega)], by rw [HS1.out]; simp, by go_num, HW4⟩
          case measure => simp [intOf]; omega
        · go_wp2_with fail
          go_roundw
          case rel => exact ⟨j + 1, by omega, by rw [HM1.out, if_neg (by decide), Nat.max_eq_left (by omega)], by rw [HS1.out]; simp, by go_num, HW4⟩
          case measure => simp [intOf]; omega
    · obtain rfl : j = nl := by omega
      have HV : Hid (lgV (runL R g) = .tuple #[.int .i64 (lgM ((runL R g).take j) : Int), .bool (lgB ((runL R g).take j))]) := Lib.hid (by rw [List.take_of_length_le (by rw [HNL.out]; exact Nat.le_refl _)]; rfl)
      have HE := Lib.hid (HBW.out.trans (HWr.out.mono HBW.out.size))
      go_wp2_with fail
      go_ret2
      exact ⟨by rw [HV.out]; rfl, HE.out⟩
set_option maxRecDepth 100000 in
set_option maxHeartbeats 8000000 in
theorem rlargest (o q r : Int) (g : Nat) (hg : g ≤ 80) (p : Option Addr) (tc : Nat) (R : Runs) (hR : Til g R g) (w : World) (h : RnAt w p (tkT R g)) : Calls Tryz.prog 30 #[bqV o q (g : Int) r (.slice p (tkT R g).length tc)] w (Gives (lgV (runL R g)) w) := by
  have HGB := Lib.hid hg
  have HB0 := Lib.hid (bel1 w (.cells (bqA o q (g : Int) r (.slice p (tkT R g).length tc)) 33))
  have HD0 : Hid (BqAt w.heap.size o q (g : Int) r (.slice p (tkT R g).length tc) (w.alloc (.cells (bqA o q (g : Int) r (.slice p (tkT R g).length tc)) 33))) := Lib.hid (heap_new _ _)
  have HRU := Lib.hid fun X (hX : RnAt X p (tkT R g)) => bruns_any o q r g hg p tc R hR X hX
  obtain ⟨m, hm⟩ : ∃ m, (tkT R g).length = m := ⟨_, rfl⟩
  rw [hm] at HB0 HD0 HRU
  rw [hm]
  have HRN := Lib.hid (h.below HB0.out)
  clear h hR hg hm
  go_enter Tryz.func30, Tryz.ntmps30
  go_upto_region 2 with fail
  obtain ⟨y0, hy⟩ : ∃ y, w.alloc (.cells (bqA o q (g : Int) r (.slice p m tc)) 33) = y := ⟨_, rfl⟩
  obtain ⟨D, hD⟩ : ∃ D, w.heap.size = D := ⟨_, rfl⟩
  change Code.wp _ _ _ _ (w.alloc (.cells (bqA o q (g : Int) r (.slice p m tc)) 33))
  rw [hD] at HD0
  rw [hy] at HB0 HD0 HRN
  rw [hy, hD]
  clear hy hD
  obtain ⟨d0, d1, d2, d3, d4⟩ := HD0.out.all
  go_wp2_with fail
  refine (HRU.out _ HRN.out).mono ?_
  rintro e w1 ⟨u, cap, rfl, hru, huf, hb0⟩
  have hb := HB0.out.trans (hb0.mono HB0.out.size)
  clear hb0 HRN HB0 HD0 d0 d1 d2 d3 d4 HRU
  obtain ⟨nl, hnl⟩ : ∃ nl, (runL R g).length = nl := ⟨_, rfl⟩
  have HNL := Lib.hid hnl
  have hnl80 : nl ≤ 80 := by have := runL_len R g; have := HGB.out; omega
  have HBW := Lib.hid hb
  have HR1 := Lib.hid hru
  rw [hnl]
  clear hru huf hb  hnl
  go_wp2_with fail
  go_loopw [4, 5, 11] (fun s4 s5 s11 wr => ∃ j : Nat, j ≤ nl ∧ s4 = .int .i64 (lgM ((runL R g).take j) : Int) ∧ s5 = .bool (lgB ((runL R g).take j)) ∧ s11 = .int .i64 (j : Int) ∧ Hid (Below w1.heap.size w1 wr)) (fun _ _ s11 _ => nl - (intOf s11).toNat)
  case atStart => exact ⟨0, Nat.zero_le _, by rw [List.take_zero]; rfl, by rw [List.take_zero]; rfl, rfl, Lib.hid (Below.refl _ _)⟩
  case round =>
    obtain ⟨j, hj, rfl, rfl, rfl, HWr⟩ := hrel
    by_cases hjn : j < nl
    · have hjn2 : (j : Int) < (nl : Int) := by omega
      have hjL : j < (runL R g).length := by rw [HNL.out]; exact hjn
      rcases HR1.out.below HWr.out with e | ⟨gb, rfl, hgl, hcc⟩
      · have := congrArg List.length e; rw [HNL.out] at this; simp at this; omega
      obtain ⟨q0, q1, q2⟩ := hcc j (by exact hjL)
      obtain ⟨y, hy⟩ : ∃ y, (runL R g).getD j r0 = y := ⟨_, rfl⟩
      rw [hy] at q0 q1 q2
      have hmm := runL_mem.1 (show (y.1, y.2.1, y.2.2) ∈ runL R g by rw [← hy]; exact getD_mem hjL)
      have HTK := Lib.hid (take_snoc hjL)
      rw [hy] at HTK
      obtain ⟨i, k, t⟩ := y
      simp only at q0 q1 q2
      obtain ⟨M, hM⟩ : ∃ M, lgM ((runL R g).take j) = M := ⟨_, rfl⟩
      obtain ⟨S, hS⟩ : ∃ S, lgB ((runL R g).take j) = S := ⟨_, rfl⟩
      have HM1 : Hid (lgM ((runL R g).take (j + 1)) = if t = true then M else max M k) := Lib.hid (by rw [HTK.out, lgM_snoc, hM])
      have HS1 : Hid (lgB ((runL R g).take (j + 1)) = (S || !t)) := Lib.hid (by rw [HTK.out, lgB_snoc, hS])
      rw [hM, hS]
      clear hcc hjL hgl hy hmm hM hS HTK
      go_upto_region 5 with fail
      have htt : (wr.alloc (.cells #[.int .i64 (i : Int), .int .i64 (k : Int), .bool t] 51)).heap[wr.heap.size]? = _ := heap_new wr _
      have HW4 := Lib.hid (HWr.out.trans ((bel1 wr (.cells #[.int .i64 (i : Int), .int .i64 (k : Int), .bool t] 51)).mono HWr.out.size))
      obtain ⟨w4, hw4⟩ : ∃ z, wr.alloc (.cells #[.int .i64 (i : Int), .int .i64 (k : Int), .bool t] 51) = z := ⟨_, rfl⟩
      obtain ⟨E, hE⟩ : ∃ T, wr.heap.size = T := ⟨_, rfl⟩
      rw [hw4] at htt HW4 ⊢
      rw [hE] at htt ⊢
      have t0 := (cell_blk htt 0).1; have t1 := (cell_blk htt 1).1; have t2 := (cell_blk htt 2).1
      simp at t0 t1 t2
      clear hw4 hE q0 q1 q2 htt
      cases t with
      | true =>
        go_wp2_with fail
        go_roundw
        case rel => exact ⟨j + 1, by omega, by rw [HM1.out]; rfl, by rw [HS1.out]; simp, by go_num, HW4⟩
        case measure => simp [intOf]; omega
      | false =>
        by_cases hMk : (M : Int) < (k : Int)
        · go_wp2_with fail
          go_roundw
          case rel => exact ⟨j + 1, by omega, by rw [HM1.out, if_neg (by decide), Nat.max_eq_right (by omega)], by rw [HS1.out]; simp, by go_num, HW4⟩
          case measure => simp [intOf]; omega
        · go_wp2_with fail
          go_roundw
          case rel => exact ⟨j + 1, by omega, by rw [HM1.out, if_neg (by decide), Nat.max_eq_left (by omega)], by rw [HS1.out]; simp, by go_num, HW4⟩
          case measure => simp [intOf]; omega
    · obtain rfl : j = nl := by omega
      have HV : Hid (lgV (runL R g) = .tuple #[.int .i64 (lgM ((runL R g).take j) : Int), .bool (lgB ((runL R g).take j))]) := Lib.hid (by rw [List.take_of_length_le (by rw [HNL.out]; exact Nat.le_refl _)]; rfl)
      have HE := Lib.hid (HBW.out.trans (HWr.out.mono HBW.out.size))
      go_wp2_with fail
      go_ret2
      exact ⟨by rw [HV.out]; rfl, HE.out⟩
end Go.Proofs.YtfemgekhpcgliaaGreat.Bt
/- census' lay. (Written by gen_cnc.py.) -/
namespace Go.Proofs.YtfemgekhpcgliaaGreat.Bt
open Go Go.RowKit Go.Shelf
set_option linter.unusedVariables false
set_option linter.unusedSimpArgs false
theorem ahas8 {A : Nat} {s : ASt} {w : World} (h : On A s w) (i : Int) :
    Calls Tryz.prog 34 #[.pointer (some ⟨A, 0, none⟩), .int .i64 i] w (Gives (.bool (hasB s.L s.es i)) w) := by
  obtain ⟨P, ps, p, n, cap, h⟩ := h
  have HX := Lib.hid h
  have g := h.good
  have HN := Lib.hid h.num
  clear h
  go_enter Tryz.func34, Tryz.ntmps34
  go_wp2_with fail
  refine (pages_any HX.out).mono ?_
  rintro e w1 ⟨rfl, hb1⟩
  go_wp2_with fail
  refine (has_any s.L p n cap s.es i _ g (HX.out.below hb1).edges HN.out).mono ?_
  rintro e w2 ⟨rfl, hb2⟩
  go_wp2_with fail
  go_ret
  exact ⟨rfl, hb1.trans (hb2.mono hb1.size)⟩
theorem has_up8 {n g i : Nat} {R : Runs} {s : ASt} (hB : Bud (n + 1) g g R g s) (hi : i ≤ n) : hasB s.L s.es (i : Int) = decide (i ≤ g) := by
  have h1 := hB.gG; have h2 := hB.c2
  have hr : Rising [0, 1 + g] := (good_up (L := n + 1) (by omega) (by omega) (by omega)).rising
  unfold hasB
  rw [hB.cL, hB.es, (mem_two hr _).1, show mem [] (i : Int) = false from rfl, Bool.or_false, decide_eq_true (show (0 : Int) ≤ (i : Int) ∧ (i : Int) < ((n + 1 : Nat) : Int) by omega), Bool.true_and]
  exact decide_eq_decide.2 (by omega)
/-- a row of bytes -/
def rowU (l : List Nat) : Array Value := (l.map fun (v : Nat) => Value.int .u8 (v : Int)).toArray
theorem rowU_set (l : List Nat) (i v : Nat) : (rowU l).setIfInBounds i (.int .u8 (v : Int)) = rowU (l.set i v) := by simp [rowU, List.map_set]
theorem rowU_get (l : List Nat) (i : Nat) : (rowU l)[i]? = (l[i]?).map fun (v : Nat) => Value.int .u8 (v : Int) := by simp [rowU]
def ByAt (D : Nat) (l : List Nat) (x : World) : Prop := x.heap[D]? = some (.cells (rowU l) 5 (0, 0))
theorem ByAt.below {D : Nat} {l : List Nat} {x y : World} (h : ByAt D l x) (hb : Below x.heap.size x y) : ByAt D l y := (hb.block _ (Array.getElem?_eq_some_iff.1 (show x.heap[D]? = _ from h)).1).trans h
theorem ByAt.cell {D : Nat} {l : List Nat} {x : World} (h : ByAt D l x) {i : Nat} (hi : i < l.length) : x.cell? ⟨D, i, none⟩ = some (.int .u8 (l.getD i 0 : Nat)) ∧ x.frozen? ⟨D, i, none⟩ = false := by
  refine ⟨?_, (cell_blk h i).2⟩
  rw [(cell_blk h i).1, rowU_get, List.getD_eq_getElem?_getD, List.getElem?_eq_getElem hi]; rfl
theorem ByAt.set {D : Nat} {l : List Nat} {x : World} (h : ByAt D l x) (i v : Nat) : ByAt D (l.set i v) (x.setCell ⟨D, i, none⟩ (.int .u8 (v : Int))) := by
  have := heap_set (o := i) h (.int .u8 (v : Int))
  rw [rowU_set] at this
  exact this
/-- c pages from fr on laid: of those that are there -/
def layL (g : Nat) (l : List Nat) (fr st : Nat) : Nat → List Nat
  | 0 => l
  | c + 1 => if fr + c ≤ g then (layL g l fr st c).set (fr + c) st else layL g l fr st c
theorem layL_len (g : Nat) (l : List Nat) (fr st : Nat) : ∀ c, (layL g l fr st c).length = l.length
  | 0 => rfl
  | c + 1 => by unfold layL; split <;> simp [layL_len g l fr st c]
structure LyR (A B D n : Nat) (s : ASt) (l : List Nat) (w x : World) : Prop where
  bv : BV B A n s x
  md : Mine A D x
  bd : ByAt D l x
  sz : w.heap.size ≤ x.heap.size
  fr : ∀ k, k ≠ D → k < w.heap.size → x.heap[k]? = w.heap[k]?
  be : ∀ b0 w0, b0 ≤ D → Below b0 w0 w → Below b0 w0 x
theorem LyR.below {A B D n : Nat} {s : ASt} {l : List Nat} {w x y : World} (h : LyR A B D n s l w x) (hb : Below x.heap.size x y) : LyR A B D n s l w y :=
  ⟨h.bv.below hb, h.md.went (Went.of_below h.bv.1 hb), h.bd.below hb, Nat.le_trans h.sz hb.size, fun k hk hl => (hb.block _ (Nat.lt_of_lt_of_le hl h.sz)).trans (h.fr k hk hl), fun b0 w0 hD k => (h.be b0 w0 hD k).trans (hb.mono (Nat.le_trans hD (Nat.le_of_lt h.md.lt)))⟩
theorem LyR.set {A B D n : Nat} {s : ASt} {l : List Nat} {w x : World} (h : LyR A B D n s l w x) (i v : Nat) : LyR A B D n s (l.set i v) w (x.setCell ⟨D, i, none⟩ (.int .u8 (v : Int))) := by
  have hne : B ≠ D := fun c => by
    have h1 := h.bv.2.2
    unfold BdyAt at h1
    rw [c, show x.heap[D]? = _ from h.bd] at h1
    simp only [Option.some.injEq, Obj.cells.injEq] at h1
    exact absurd h1.2.1 (by decide)
  exact ⟨⟨h.bv.1.set h.md i _, h.bv.2.1, (Below.heap_setCell _ ⟨D, i, none⟩ _ _ hne).trans h.bv.2.2⟩, Mine.set h.bv.1 h.md h.md i _, h.bd.set i v, by simpa [World.setCell] using h.sz, fun k hk hl => (Below.heap_setCell _ ⟨D, i, none⟩ _ _ hk).trans (h.fr k hk hl), fun b0 w0 hD k => (h.be b0 w0 hD k).setCell (p := ⟨D, i, none⟩) hD _⟩
set_option maxRecDepth 100000 in
set_option maxHeartbeats 8000000 in
theorem clay {A B D n g : Nat} {R : Runs} {s : ASt} {l : List Nat} {w w0 : World} (h : LyR A B D n s l w0 w) (hB : Bud (n + 1) g g R g s) (hl : l.length = n + 1) (fr c st : Nat) (hfr : fr + c ≤ n + 1) :
    Calls Tryz.prog 68 #[.slice (some ⟨D, 0, none⟩) (n + 1) (n + 1), bdyP B, .int .i64 (fr : Int), .int .i64 (c : Int), .int .u8 (st : Int)] w fun e w' => e = .returned (.tuple #[]) ∧ LyR A B D n s (layL g l fr st c) w0 w' := by
  have HZ := Lib.hid (hB.sz h.bv.2.1)
  have HG := Lib.hid hB.gG
  have HH := Lib.hid fun X (hX : On A s X) i (hi : i ≤ n) => (has_up8 hB hi) ▸ ahas8 hX (i : Int)
  have HST : Hid (LyR A B D n s (layL g l fr st 0) w0 w) := Lib.hid h
  have HL := Lib.hid hl
  clear h hB hl
  go_enter Tryz.func68, Tryz.ntmps68
  go_wp2_with fail
  go_loopw [12] (fun s12 wr => ∃ j : Nat, j ≤ c ∧ s12 = .int .i64 (j : Int) ∧ Hid (LyR A B D n s (layL g l fr st j) w0 wr)) (fun s12 _ => c - (intOf s12).toNat)
  case atStart => exact ⟨0, Nat.zero_le _, rfl, HST⟩
  case round =>
    clear HST
    obtain ⟨j, hj, rfl, HR⟩ := hrel
    by_cases hjc : j < c
    · have hj2 : (j : Int) < (c : Int) := by omega
      have hz := HZ.out
      have hw1 : IntKind.i64.wrap ((fr : Int) + (j : Int)) = ((fr + j : Nat) : Int) := by rw [IntKind.wrap_i64]; omega
      obtain ⟨b0, _⟩ := HR.out.bv.all
      have HC := Lib.hid (HH.out _ HR.out.bv.1 (fr + j) (by omega))
      go_wp2_with fail
      refine HC.out.mono ?_
      rintro e w2 ⟨rfl, hb⟩
      have HR2 := Lib.hid (HR.out.below hb)
      clear hb b0 HC HR
      by_cases hg : fr + j ≤ g
      · have hd : decide (fr + j ≤ g) = true := decide_eq_true hg
        have hlt : fr + j < (layL g l fr st j).length := by rw [layL_len, HL.out]; omega
        obtain ⟨c1, c2⟩ := HR2.out.bd.cell hlt
        have hst := HR2.out.set (fr + j) st
        have HS : Hid (LyR A B D n s (layL g l fr st (j + 1)) w0 (w2.setCell ⟨D, fr + j, none⟩ (.int .u8 (st : Int)))) := Lib.hid (by unfold layL; rw [if_pos hg]; exact hst)
        clear hst
        rw [hd]
        have h4 : fr + j < n + 1 := by omega
        have h5 : ((fr + j : Nat) : Int) < ((n + 1 : Nat) : Int) := by omega
        go_wp2_with fail
        go_roundw
        case rel => exact ⟨j + 1, by omega, by go_num, HS⟩
        case measure => simp [intOf]; omega
      · have hd : decide (fr + j ≤ g) = false := decide_eq_false hg
        have HS : Hid (LyR A B D n s (layL g l fr st (j + 1)) w0 w2) := Lib.hid (by unfold layL; rw [if_neg hg]; exact HR2.out)
        rw [hd]
        go_wp2_with fail
        go_roundw
        case rel => exact ⟨j + 1, by omega, by go_num, HS⟩
        case measure => simp [intOf]; omega
    · obtain rfl : j = c := by omega
      go_wp2_with fail
      go_end0
      exact ⟨rfl, HR.out⟩
end Go.Proofs.YtfemgekhpcgliaaGreat.Bt
/- census' States. (Written by gen_cnd.py.) -/
namespace Go.Proofs.YtfemgekhpcgliaaGreat.Bt
open Go Go.RowKit Go.Shelf
set_option linter.unusedVariables false
set_option linter.unusedSimpArgs false
def stF (g : Nat) (l : List Nat) (y : Nat × Nat × Bool) : List Nat := layL g l (1 + y.1) (if y.2.2 = true then 3 else 2) (2 ^ y.2.1)
def stT (R : Runs) (g n j : Nat) : List Nat := ((runL R g).take j).foldl (stF g) (layL g (List.replicate (n + 1) 0) 0 1 1)
theorem LyR.self {A B D n : Nat} {s : ASt} {l : List Nat} {w x : World} (h : LyR A B D n s l w x) : LyR A B D n s l x x := ⟨h.bv, h.md, h.bd, Nat.le_refl _, fun _ _ _ => rfl, fun _ _ _ k => k⟩
theorem LyR.trans {A B D n : Nat} {s : ASt} {l l' : List Nat} {w x y : World} (h : LyR A B D n s l w x) (h2 : LyR A B D n s l' x y) : LyR A B D n s l' w y :=
  ⟨h2.bv, h2.md, h2.bd, Nat.le_trans h.sz h2.sz, fun k hk hl => (h2.fr k hk (Nat.lt_of_lt_of_le hl h.sz)).trans (h.fr k hk hl), fun b0 w0 hD k => h2.be b0 w0 hD (h.be b0 w0 hD k)⟩
theorem stT_succ {R : Runs} {g n j i k : Nat} {t : Bool} (h : ((runL R g).take (j + 1)) = (runL R g).take j ++ [(i, k, t)]) : stT R g n (j + 1) = layL g (stT R g n j) (1 + i) (if t = true then 3 else 2) (2 ^ k) := by
  unfold stT; rw [h, List.foldl_append]; rfl
theorem stT_len (R : Runs) (g n : Nat) : ∀ j, (stT R g n j).length = n + 1 := by
  intro j
  unfold stT
  have : ∀ (L : List (Nat × Nat × Bool)) (l : List Nat), (L.foldl (stF g) l).length = l.length := by
    intro L
    induction L with
    | nil => intro l; rfl
    | cons y t ih => intro l; rw [List.foldl_cons, ih]; unfold stF; exact layL_len _ _ _ _ _
  rw [this, layL_len]; simp
/-- what stands in a round -/
structure StR (A B D E n : Nat) (s : ASt) (l : List Nat) (y : Nat × Nat × Bool) (w w4 x : World) : Prop where
  ly : LyR A B D n s l w x
  fr : w4.heap.size ≤ x.heap.size ∧ ∀ k, k ≠ D → k < w4.heap.size → x.heap[k]? = w4.heap[k]?
  rb : RbV E y x
  ne : E ≠ D
theorem StR.below {A B D E n : Nat} {s : ASt} {l : List Nat} {y : Nat × Nat × Bool} {w w4 x z : World} (h : StR A B D E n s l y w w4 x) (hb : Below x.heap.size x z) : StR A B D E n s l y w w4 z :=
  ⟨h.ly.below hb, ⟨Nat.le_trans h.fr.1 hb.size, fun k hk hl => (hb.block _ (Nat.lt_of_lt_of_le hl h.fr.1)).trans (h.fr.2 k hk hl)⟩, h.rb.below hb, h.ne⟩
theorem StR.lay {A B D E n : Nat} {s : ASt} {l l' : List Nat} {y : Nat × Nat × Bool} {w w4 x z : World} (h : StR A B D E n s l y w w4 x) (h2 : LyR A B D n s l' x z) : StR A B D E n s l' y w w4 z :=
  ⟨h.ly.trans h2, ⟨Nat.le_trans h.fr.1 h2.sz, fun k hk hl => (h2.fr k hk (Nat.lt_of_lt_of_le hl h.fr.1)).trans (h.fr.2 k hk hl)⟩, (h2.fr E h.ne (Array.getElem?_eq_some_iff.1 (show x.heap[E]? = _ from h.rb)).1).trans h.rb, h.ne⟩
def StP (R : Runs) (g n : Nat) (w : World) (e : Ending) (w' : World) : Prop := ∃ D, e = .returned (.slice (some ⟨D, 0, none⟩) (n + 1) (n + 1)) ∧ ByAt D (stT R g n (runL R g).length) w' ∧ w.heap.size ≤ D ∧ Below w.heap.size w w'
theorem Tryz.infoU8 : (Tryz.prog.info? 5).map (fun i => (i.zero, i.size, i.bytes)) = some (some (.int .u8 0), 1, 1) := by kernel_rfl
theorem made_u8 (L : Nat) : madeCells (Value.int .u8 0).cells (L * 1) = rowU (List.replicate L 0) := by
  apply Array.ext_getElem?
  intro j
  rw [rowU_get]
  by_cases hj : j < L
  · simp [madeCells, hj, Value.cells, Nat.mod_one]
  · rw [Array.getElem?_eq_none (by rw [size_madeCells]; omega), List.getElem?_eq_none (by simp; omega)]; rfl
theorem run_u8 (n : Nat) (hn : n ≤ 2000) (w : World) :
    (Instr.makeSlice 57 (.int .i64 ((n : Int) + 1)) (.int .i64 ((n : Int) + 1))).run Tryz.prog w = .ok (.slice (some ⟨w.heap.size, 0, none⟩) (n + 1) (n + 1)) (w.alloc (.cells (rowU (List.replicate (n + 1) 0)) 5)) := by
  obtain ⟨i0, hi, hz0, hz1, hz2⟩ := info_parts Tryz.infoU8
  have h := run_make (P := Tryz.prog) w 57 5 i0 (.int .u8 0) Tryz.underlying57 hi hz0 .i64 .i64 ((n + 1 : Nat) : Int) (n + 1) (by omega) (Int.le_refl _) (by rw [hz2]; omega) (by omega)
  rw [Int.toNat_natCast, hz1, made_u8] at h
  exact h
set_option maxRecDepth 100000 in
set_option maxHeartbeats 8000000 in
theorem cstates {A B n g : Nat} {R : Runs} {s : ASt} {w : World} (h : BV B A n s w) (hB : Bud (n + 1) g g R g s) :
    Calls Tryz.prog 24 #[bdyP B] w (StP R g n w) := by
  have HV := Lib.hid h
  have HB := Lib.hid hB
  have HZ := Lib.hid (hB.sz h.2.1)
  have HC := Lib.hid fun X (hX : BV B A n s X) => h.2.1 ▸ on_cap8 hX.1
  obtain ⟨b0, _⟩ := h.all
  clear hB h
  have hz := HZ.out
  go_enter Tryz.func24, Tryz.ntmps24
  go_wp2_with fail
  refine (HC.out _ HV.out).mono ?_
  rintro e w1 ⟨rfl, rfl⟩
  have hmk := run_u8 n (by omega)
  go_upto_region 4 with fail
  have hly : LyR A B w.heap.size n s (List.replicate (n + 1) 0) w (w.alloc (.cells (rowU (List.replicate (n + 1) 0)) 5)) := ⟨HV.out.below (bel1 w _), Mine.new HV.out.1 _, heap_new _ _, (bel1 w _).size, fun k _ hl => (bel1 w _).block k hl, fun b0 w0 _ k => k.trans ((bel1 w _).mono (by assumption))⟩
  change Code.wp _ _ _ _ (w.alloc (.cells (rowU (List.replicate (n + 1) 0)) 5))
  have HWD : Hid (w.heap.size ≤ w.heap.size) := Lib.hid (Nat.le_refl _)
  obtain ⟨y, hy⟩ : ∃ y, w.alloc (.cells (rowU (List.replicate (n + 1) 0)) 5) = y := ⟨_, rfl⟩
  obtain ⟨D, hD⟩ : ∃ D, w.heap.size = D := ⟨_, rfl⟩
  have HDW : Hid (w.heap.size = D) := Lib.hid hD
  have hly2 : LyR A B D n s (List.replicate (n + 1) 0) w y := by rw [← hD, ← hy]; exact hly
  rw [hy, hD]
  clear hly hy hD HWD b0 hmk
  have HLY := Lib.hid hly2
  have HLAY := Lib.hid fun X (hX : LyR A B D n s (List.replicate (n + 1) 0) w X) => (show Calls Tryz.prog 68 #[.slice (some ⟨D, 0, none⟩) (n + 1) (n + 1), bdyP B, .int .i64 0, .int .i64 1, .int .u8 1] X _ from clay hX HB.out (by simp) 0 1 1 (by omega))
  clear hly2
  go_wp2_with fail
  refine (bbase HLY.out.bv (by omega)).mono ?_
  rintro e w2 ⟨rfl, hb⟩
  have HLY2 := Lib.hid (HLY.out.below hb)
  clear hb HLY
  go_wp2_with fail
  refine (HLAY.out _ HLY2.out).mono ?_
  rintro e w3 ⟨rfl, hl3⟩
  have HLY3 : Hid (LyR A B D n s (stT R g n 0) w w3) := Lib.hid hl3
  have HRU := Lib.hid (bRuns_any hl3.bv HB.out)
  clear hl3 HLY2 HLAY
  go_wp2_with fail
  refine HRU.out.mono ?_
  rintro e w4 ⟨u, cap, rfl, hru, huf, hb⟩
  obtain ⟨nl, hnl⟩ : ∃ nl, (runL R g).length = nl := ⟨_, rfl⟩
  have HNL := Lib.hid hnl
  have hnl80 : nl ≤ 80 := by have := runL_len R g; omega
  have HLY4 := Lib.hid (HLY3.out.below hb)
  have HR1 := Lib.hid hru
  have HUF : Hid (∀ j, u = some ⟨j, 0, none⟩ → j ≠ D ∧ D < w4.heap.size) := Lib.hid fun j hj => ⟨by have := huf j hj; have := HLY3.out.md.lt; omega, HLY4.out.md.lt⟩
  rw [adL_len, hnl]
  clear hru huf hb hnl HRU HLY3
  go_wp2_with fail
  go_loopw [23] (fun s23 wr => ∃ j : Nat, j ≤ nl ∧ s23 = .int .i64 (j : Int) ∧ Hid (LyR A B D n s (stT R g n j) w wr) ∧ Hid (w4.heap.size ≤ wr.heap.size ∧ ∀ k, k ≠ D → k < w4.heap.size → wr.heap[k]? = w4.heap[k]?)) (fun s23 _ => nl - (intOf s23).toNat)
  case atStart => exact ⟨0, Nat.zero_le _, rfl, HLY4, Lib.hid ⟨Nat.le_refl _, fun _ _ _ => rfl⟩⟩
  case round =>
    clear HLY4
    obtain ⟨j, hj, rfl, HL, HFR⟩ := hrel
    by_cases hjn : j < nl
    · have hjn2 : (j : Int) < (nl : Int) := by omega
      have hjL : j < (runL R g).length := by rw [HNL.out]; exact hjn
      have hrn : RnAt wr u (adL (runL R g)) := by
        rcases HR1.out with c | ⟨gb, e, hgl, hcc⟩
        · exact .inl c
        · exact RnAt.far (.inr ⟨gb, e, hgl, hcc⟩) HFR.out.1 fun k hk => HFR.out.2 k (by rw [e] at hk; simp at hk; have := (HUF.out gb e).1; omega) (by rw [e] at hk; simp at hk; omega)
      rcases hrn with e | ⟨gb, rfl, hgl, hcc⟩
      · have := congrArg List.length e; rw [adL_len, HNL.out] at this; simp at this; omega
      obtain ⟨q0, q1, q2⟩ := hcc j (by rw [adL_len]; exact hjL)
      obtain ⟨y, hy⟩ : ∃ y, (runL R g).getD j r0 = y := ⟨_, rfl⟩
      rw [adL_get hjL, hy] at q0 q1 q2
      have hmm := runL_mem.1 (show (y.1, y.2.1, y.2.2) ∈ runL R g by rw [← hy]; exact getD_mem hjL)
      have HTK := Lib.hid (take_snoc hjL)
      rw [hy] at HTK
      obtain ⟨i, k, t⟩ := y
      simp only at q0 q1 q2
      obtain ⟨hk10, hmod, hkg⟩ := HB.out.ti.al _ _ _ hmm.2
      obtain ⟨P, hP⟩ : ∃ P, 2 ^ k = P := ⟨_, rfl⟩
      obtain ⟨q, hq⟩ : ∃ q, 1 + i = q := ⟨_, rfl⟩
      have hP1024 : P ≤ 1024 := by rw [← hP]; exact Nat.pow_le_pow_right (by decide) hk10
      have hgn := HB.out.gG
      simp only at hkg hk10
      rw [hP] at hkg
      have HQP : Hid (1 + i = q ∧ 2 ^ k = P ∧ q + P ≤ n + 1) := Lib.hid ⟨hq, hP, by omega⟩
      have HQ3 : Hid (IntKind.i64.wrap (Int.tdiv (adr i : Int) 4096) = (q : Int) ∧ Int.tdiv (adr i : Int) 4096 = (q : Int) ∧ IntKind.i64.wrap (q : Int) = (q : Int)) := Lib.hid ⟨by rw [adr_div, IntKind.wrap_i64]; omega, by rw [adr_div]; omega, by rw [IntKind.wrap_i64]; omega⟩
      have HQ4 : Hid (IntKind.i64.wrap ((2 : Int) ^ min k 64) = (P : Int)) := Lib.hid (by rw [show min k 64 = k by omega, show ((2 : Int) ^ k) = (P : Int) from by rw [← hP]; push_cast; rfl, IntKind.wrap_i64]; omega)
      clear hcc hjL hgl hy hmm hmod hkg hP hq hP1024 hgn hk10
      go_upto_region 8 with fail
      have htt : RbV wr.heap.size (adr i, k, t) (wr.alloc (.cells #[.int .i64 (adr i : Int), .int .i64 (k : Int), .bool t] 79)) := heap_new wr _
      have hb4 := bel1 wr (.cells #[.int .i64 (adr i : Int), .int .i64 (k : Int), .bool t] 79)
      have HSR : Hid (StR A B D wr.heap.size n s (stT R g n j) (adr i, k, t) w w4 (wr.alloc (.cells #[.int .i64 (adr i : Int), .int .i64 (k : Int), .bool t] 79))) := Lib.hid ⟨HL.out.below hb4, ⟨Nat.le_trans HFR.out.1 hb4.size, fun k hk hl => (hb4.block _ (Nat.lt_of_lt_of_le hl HFR.out.1)).trans (HFR.out.2 k hk hl)⟩, htt, Nat.ne_of_gt HL.out.md.lt⟩
      obtain ⟨y4, hy4⟩ : ∃ z, wr.alloc (.cells #[.int .i64 (adr i : Int), .int .i64 (k : Int), .bool t] 79) = z := ⟨_, rfl⟩
      obtain ⟨E, hE⟩ : ∃ T, wr.heap.size = T := ⟨_, rfl⟩
      rw [hy4, hE] at HSR
      rw [hy4, hE]
      clear htt hb4 hy4 hE q0 q1 q2 HL HFR
      obtain ⟨t0, t1, t2⟩ := HSR.out.rb.all
      cases t with
      | true =>
        have HTS := Lib.hid (stT_succ (n := n) HTK.out)
        rw [HQP.out.1, HQP.out.2.1] at HTS
        have hst0 : StR A B D E n s (stT R g n j) (adr i, k, true) w w4 y4.drew := HSR.out.below (Below.refl y4.heap.size y4).drew
        have HLAY := Lib.hid fun X (hX : LyR A B D n s (stT R g n j) X X) => (show Calls Tryz.prog 68 #[.slice (some ⟨D, 0, none⟩) (n + 1) (n + 1), bdyP B, .int .i64 (q : Int), .int .i64 (P : Int), .int .u8 3] X _ from clay hX HB.out (stT_len R g n j) q P 3 HQP.out.2.2)
        clear HSR
        have hq3 := HQ3.out
        have hq4 := HQ4.out
        go_upto_region 11 with fail
        have HS5 := Lib.hid hst0
        refine wp_region_held_drew (S := RbV E (adr i, k, true)) (by kernel_rfl) hst0.rb (fun hHeld => ?_)
        clear hst0
        generalize y4.drew = y5 at *
        refine wpAnyH_take (i := 0) (v := (.slice (some ⟨D, 0, none⟩) (n + 1) (n + 1))) rfl (by kernel_rfl) (by kernel_rfl) (by kernel_rfl) (fun _ _ _ h => h) (Or.inl ⟨by rfl, fun X hS => ?_⟩) hHeld ?_
        · obtain ⟨s0, s1, s2⟩ := RbV.all hS
          go_simp
        try simp only [Act.put, List.getElem_toArray, List.getElem_cons_zero, List.getElem_cons_succ, List.setIfInBounds_toArray, List.set_cons_zero, List.set_cons_succ]
        refine wpAnyH_take (i := 1) (v := (bdyP B)) rfl (by kernel_rfl) (by kernel_rfl) (by kernel_rfl) (fun _ _ _ h => h) (Or.inl ⟨by rfl, fun X hS => ?_⟩) hHeld ?_
        · obtain ⟨s0, s1, s2⟩ := RbV.all hS
          go_simp
        try simp only [Act.put, List.getElem_toArray, List.getElem_cons_zero, List.getElem_cons_succ, List.setIfInBounds_toArray, List.set_cons_zero, List.set_cons_succ]
        refine wpAnyH_take (i := 2) (v := (.pointer (some ⟨E, 0, none⟩))) rfl (by kernel_rfl) (by kernel_rfl) (by kernel_rfl) (fun _ _ _ h => h) (Or.inl ⟨by rfl, fun X hS => ?_⟩) hHeld ?_
        · obtain ⟨s0, s1, s2⟩ := RbV.all hS
          go_simp
        try simp only [Act.put, List.getElem_toArray, List.getElem_cons_zero, List.getElem_cons_succ, List.setIfInBounds_toArray, List.set_cons_zero, List.set_cons_succ]
        refine wpAnyH_take (i := 3) (v := (.int .i64 (adr i : Int))) rfl (by kernel_rfl) (by kernel_rfl) (by kernel_rfl) (fun _ _ _ h => h) (Or.inl ⟨by rfl, fun X hS => ?_⟩) hHeld ?_
        · obtain ⟨s0, s1, s2⟩ := RbV.all hS
          go_simp
        try simp only [Act.put, List.getElem_toArray, List.getElem_cons_zero, List.getElem_cons_succ, List.setIfInBounds_toArray, List.set_cons_zero, List.set_cons_succ]
        refine wpAnyH_take (i := 4) (v := (.int .i64 (q : Int))) rfl (by kernel_rfl) (by kernel_rfl) (by kernel_rfl) (fun _ _ _ h => h) (Or.inl ⟨by rfl, fun X hS => ?_⟩) hHeld ?_
        · obtain ⟨s0, s1, s2⟩ := RbV.all hS
          go_simp
        try simp only [Act.put, List.getElem_toArray, List.getElem_cons_zero, List.getElem_cons_succ, List.setIfInBounds_toArray, List.set_cons_zero, List.set_cons_succ]
        refine wpAnyH_take (i := 5) (v := (.pointer (some ⟨E, 1, none⟩))) rfl (by kernel_rfl) (by kernel_rfl) (by kernel_rfl) (fun _ _ _ h => h) (Or.inl ⟨by rfl, fun X hS => ?_⟩) hHeld ?_
        · obtain ⟨s0, s1, s2⟩ := RbV.all hS
          go_simp
        try simp only [Act.put, List.getElem_toArray, List.getElem_cons_zero, List.getElem_cons_succ, List.setIfInBounds_toArray, List.set_cons_zero, List.set_cons_succ]
        refine wpAnyH_take (i := 6) (v := (.int .i64 (k : Int))) rfl (by kernel_rfl) (by kernel_rfl) (by kernel_rfl) (fun _ _ _ h => h) (Or.inl ⟨by rfl, fun X hS => ?_⟩) hHeld ?_
        · obtain ⟨s0, s1, s2⟩ := RbV.all hS
          go_simp
        try simp only [Act.put, List.getElem_toArray, List.getElem_cons_zero, List.getElem_cons_succ, List.setIfInBounds_toArray, List.set_cons_zero, List.set_cons_succ]
        refine wpAnyH_take (i := 7) (v := (.int .i64 (P : Int))) rfl (by kernel_rfl) (by kernel_rfl) (by kernel_rfl) (fun _ _ _ h => h) (Or.inl ⟨by rfl, fun X hS => ?_⟩) hHeld ?_
        · obtain ⟨s0, s1, s2⟩ := RbV.all hS
          go_simp
        try simp only [Act.put, List.getElem_toArray, List.getElem_cons_zero, List.getElem_cons_succ, List.setIfInBounds_toArray, List.set_cons_zero, List.set_cons_succ]
        refine wpAnyH_take (i := 8) (v := (.int .u8 3)) rfl (by kernel_rfl) (by kernel_rfl) (by kernel_rfl) (fun _ _ _ h => h) (Or.inl ⟨by rfl, fun X hS => ?_⟩) hHeld ?_
        · obtain ⟨s0, s1, s2⟩ := RbV.all hS
          go_simp
        try simp only [Act.put, List.getElem_toArray, List.getElem_cons_zero, List.getElem_cons_succ, List.setIfInBounds_toArray, List.set_cons_zero, List.set_cons_succ]
        refine wpAnyH_ready (rs := [9]) (by kernel_rfl) (by simp) (AllReadyH.cons rfl (fun K1 hK1 => ?_) AllReadyH.nil)
        go_simp
        refine (HLAY.out _ HS5.out.ly.self).mono ?_
        rintro e x7 ⟨rfl, hl7⟩
        have hn := HS5.out.lay hl7
        have HLL : Hid (LyR A B D n s (stT R g n (j + 1)) w x7) := Lib.hid (by rw [HTS.out]; exact hn.ly)
        have HFF := Lib.hid hn.fr
        have hrb := hn.rb
        clear hHeld hn HS5 hl7
        refine hK1.out _ _ hrb (fun hHeld => ?_)
        clear hK1 hrb
        refine wpAnyH_done (by kernel_rfl) ?_ _
        clear hHeld
        go_wp2_with fail
        go_roundw
        case rel => exact ⟨j + 1, by omega, by go_num, HLL, HFF⟩
        case measure => simp [intOf]; omega

      | false =>
        have HTS := Lib.hid (stT_succ (n := n) HTK.out)
        rw [HQP.out.1, HQP.out.2.1] at HTS
        have hst0 : StR A B D E n s (stT R g n j) (adr i, k, false) w w4 y4.drew := HSR.out.below (Below.refl y4.heap.size y4).drew
        have HLAY := Lib.hid fun X (hX : LyR A B D n s (stT R g n j) X X) => (show Calls Tryz.prog 68 #[.slice (some ⟨D, 0, none⟩) (n + 1) (n + 1), bdyP B, .int .i64 (q : Int), .int .i64 (P : Int), .int .u8 2] X _ from clay hX HB.out (stT_len R g n j) q P 2 HQP.out.2.2)
        clear HSR
        have hq3 := HQ3.out
        have hq4 := HQ4.out
        go_upto_region 11 with fail
        have HS5 := Lib.hid hst0
        refine wp_region_held_drew (S := RbV E (adr i, k, false)) (by kernel_rfl) hst0.rb (fun hHeld => ?_)
        clear hst0
        generalize y4.drew = y5 at *
        refine wpAnyH_take (i := 0) (v := (.slice (some ⟨D, 0, none⟩) (n + 1) (n + 1))) rfl (by kernel_rfl) (by kernel_rfl) (by kernel_rfl) (fun _ _ _ h => h) (Or.inl ⟨by rfl, fun X hS => ?_⟩) hHeld ?_
        · obtain ⟨s0, s1, s2⟩ := RbV.all hS
          go_simp
        try simp only [Act.put, List.getElem_toArray, List.getElem_cons_zero, List.getElem_cons_succ, List.setIfInBounds_toArray, List.set_cons_zero, List.set_cons_succ]
        refine wpAnyH_take (i := 1) (v := (bdyP B)) rfl (by kernel_rfl) (by kernel_rfl) (by kernel_rfl) (fun _ _ _ h => h) (Or.inl ⟨by rfl, fun X hS => ?_⟩) hHeld ?_
        · obtain ⟨s0, s1, s2⟩ := RbV.all hS
          go_simp
        try simp only [Act.put, List.getElem_toArray, List.getElem_cons_zero, List.getElem_cons_succ, List.setIfInBounds_toArray, List.set_cons_zero, List.set_cons_succ]
        refine wpAnyH_take (i := 2) (v := (.pointer (some ⟨E, 0, none⟩))) rfl (by kernel_rfl) (by kernel_rfl) (by kernel_rfl) (fun _ _ _ h => h) (Or.inl ⟨by rfl, fun X hS => ?_⟩) hHeld ?_
        · obtain ⟨s0, s1, s2⟩ := RbV.all hS
          go_simp
        try simp only [Act.put, List.getElem_toArray, List.getElem_cons_zero, List.getElem_cons_succ, List.setIfInBounds_toArray, List.set_cons_zero, List.set_cons_succ]
        refine wpAnyH_take (i := 3) (v := (.int .i64 (adr i : Int))) rfl (by kernel_rfl) (by kernel_rfl) (by kernel_rfl) (fun _ _ _ h => h) (Or.inl ⟨by rfl, fun X hS => ?_⟩) hHeld ?_
        · obtain ⟨s0, s1, s2⟩ := RbV.all hS
          go_simp
        try simp only [Act.put, List.getElem_toArray, List.getElem_cons_zero, List.getElem_cons_succ, List.setIfInBounds_toArray, List.set_cons_zero, List.set_cons_succ]
        refine wpAnyH_take (i := 4) (v := (.int .i64 (q : Int))) rfl (by kernel_rfl) (by kernel_rfl) (by kernel_rfl) (fun _ _ _ h => h) (Or.inl ⟨by rfl, fun X hS => ?_⟩) hHeld ?_
        · obtain ⟨s0, s1, s2⟩ := RbV.all hS
          go_simp
        try simp only [Act.put, List.getElem_toArray, List.getElem_cons_zero, List.getElem_cons_succ, List.setIfInBounds_toArray, List.set_cons_zero, List.set_cons_succ]
        refine wpAnyH_take (i := 5) (v := (.pointer (some ⟨E, 1, none⟩))) rfl (by kernel_rfl) (by kernel_rfl) (by kernel_rfl) (fun _ _ _ h => h) (Or.inl ⟨by rfl, fun X hS => ?_⟩) hHeld ?_
        · obtain ⟨s0, s1, s2⟩ := RbV.all hS
          go_simp
        try simp only [Act.put, List.getElem_toArray, List.getElem_cons_zero, List.getElem_cons_succ, List.setIfInBounds_toArray, List.set_cons_zero, List.set_cons_succ]
        refine wpAnyH_take (i := 6) (v := (.int .i64 (k : Int))) rfl (by kernel_rfl) (by kernel_rfl) (by kernel_rfl) (fun _ _ _ h => h) (Or.inl ⟨by rfl, fun X hS => ?_⟩) hHeld ?_
        · obtain ⟨s0, s1, s2⟩ := RbV.all hS
          go_simp
        try simp only [Act.put, List.getElem_toArray, List.getElem_cons_zero, List.getElem_cons_succ, List.setIfInBounds_toArray, List.set_cons_zero, List.set_cons_succ]
        refine wpAnyH_take (i := 7) (v := (.int .i64 (P : Int))) rfl (by kernel_rfl) (by kernel_rfl) (by kernel_rfl) (fun _ _ _ h => h) (Or.inl ⟨by rfl, fun X hS => ?_⟩) hHeld ?_
        · obtain ⟨s0, s1, s2⟩ := RbV.all hS
          go_simp
        try simp only [Act.put, List.getElem_toArray, List.getElem_cons_zero, List.getElem_cons_succ, List.setIfInBounds_toArray, List.set_cons_zero, List.set_cons_succ]
        refine wpAnyH_take (i := 8) (v := (.int .u8 2)) rfl (by kernel_rfl) (by kernel_rfl) (by kernel_rfl) (fun _ _ _ h => h) (Or.inl ⟨by rfl, fun X hS => ?_⟩) hHeld ?_
        · obtain ⟨s0, s1, s2⟩ := RbV.all hS
          go_simp
        try simp only [Act.put, List.getElem_toArray, List.getElem_cons_zero, List.getElem_cons_succ, List.setIfInBounds_toArray, List.set_cons_zero, List.set_cons_succ]
        refine wpAnyH_ready (rs := [9]) (by kernel_rfl) (by simp) (AllReadyH.cons rfl (fun K1 hK1 => ?_) AllReadyH.nil)
        go_simp
        refine (HLAY.out _ HS5.out.ly.self).mono ?_
        rintro e x7 ⟨rfl, hl7⟩
        have hn := HS5.out.lay hl7
        have HLL : Hid (LyR A B D n s (stT R g n (j + 1)) w x7) := Lib.hid (by rw [HTS.out]; exact hn.ly)
        have HFF := Lib.hid hn.fr
        have hrb := hn.rb
        clear hHeld hn HS5 hl7
        refine hK1.out _ _ hrb (fun hHeld => ?_)
        clear hK1 hrb
        refine wpAnyH_done (by kernel_rfl) ?_ _
        clear hHeld
        go_wp2_with fail
        go_roundw
        case rel => exact ⟨j + 1, by omega, by go_num, HLL, HFF⟩
        case measure => simp [intOf]; omega

    · obtain rfl : j = nl := by omega
      have HE : Hid (StP R g n w (.returned (.slice (some ⟨D, 0, none⟩) (n + 1) (n + 1))) wr) := Lib.hid ⟨D, rfl, by rw [HNL.out]; exact HL.out.bd, by rw [HDW.out]; exact Nat.le_refl _, HL.out.be _ _ (by rw [HDW.out]; exact Nat.le_refl _) (Below.refl _ _)⟩
      go_wp2_with fail
      go_ret
      exact HE.out
end Go.Proofs.YtfemgekhpcgliaaGreat.Bt
/- census' Count. (Written by gen_cne.py.) -/
namespace Go.Proofs.YtfemgekhpcgliaaGreat.Bt
open Go Go.RowKit Go.Shelf
set_option linter.unusedVariables false
set_option linter.unusedSimpArgs false
def cntL (l : List Nat) (v : Int) : Nat := l.countP fun (x : Nat) => decide ((x : Int) = v)
theorem cntL_le (l : List Nat) (v : Int) : cntL l v ≤ l.length := List.countP_le_length
theorem cntL_succ {l : List Nat} {j : Nat} (h : j < l.length) (v : Int) : cntL (l.take (j + 1)) v = cntL (l.take j) v + if ((l.getD j 0 : Nat) : Int) = v then 1 else 0 := by
  unfold cntL
  rw [List.take_add_one, List.getElem?_eq_getElem h, List.countP_append, List.getD_eq_getElem?_getD, List.getElem?_eq_getElem h]
  simp [List.countP_cons]
set_option maxRecDepth 100000 in
set_option maxHeartbeats 8000000 in
theorem ccount {A B n g : Nat} {R : Runs} {s : ASt} {w : World} (h : BV B A n s w) (hB : Bud (n + 1) g g R g s) (v : Int) (hv : 0 ≤ v ∧ v ≤ 255) :
    Calls Tryz.prog 25 #[bdyP B, .int .u8 v] w (Gives (.int .i64 (cntL (stT R g n (runL R g).length) v : Int)) w) := by
  have HS := Lib.hid (cstates h hB)
  have HZ := Lib.hid (hB.sz h.2.1)
  have hn : n ≤ 80 := by have := hB.sz h.2.1; omega
  clear h hB
  go_enter Tryz.func25, Tryz.ntmps25
  go_wp2_with fail
  refine HS.out.mono ?_
  rintro e w1 ⟨D, rfl, hd, hD, hb⟩
  obtain ⟨l, hl⟩ : ∃ l, stT R g n (runL R g).length = l := ⟨_, rfl⟩
  have hll : l.length = n + 1 := by rw [← hl]; exact stT_len _ _ _ _
  have HLQ := Lib.hid hl
  rw [hl] at hd
  try rw [hl]
  have HD := Lib.hid hd; have HB := Lib.hid hb; have HL := Lib.hid hll
  clear hd hb hD hl hll HS
  have HC : ∀ j, Hid (cntL (l.take j) v ≤ n + 1) := fun j => Lib.hid (by have h1 := cntL_le (l.take j) v; rw [List.length_take] at h1; have := HL.out; omega)
  go_wp2_with fail
  go_loopw [5, 11] (fun s5 s11 wr => ∃ j : Nat, j ≤ n + 1 ∧ s5 = .int .i64 (cntL (l.take j) v : Int) ∧ s11 = .int .i64 (j : Int) ∧ w1 = wr) (fun _ s11 _ => n + 1 - (intOf s11).toNat)
  case atStart => exact ⟨0, Nat.zero_le _, by rw [List.take_zero]; rfl, rfl, rfl⟩
  case round =>
    obtain ⟨j, hj, rfl, rfl, rfl⟩ := hrel
    by_cases hjn : j < n + 1
    · have hjn2 : (j : Int) < (n : Int) + 1 := by omega
      have hjL : j < l.length := by rw [HL.out]; exact hjn
      obtain ⟨c0, _⟩ := HD.out.cell hjL
      have HS1 := Lib.hid (cntL_succ hjL v)
      obtain ⟨x, hx⟩ : ∃ x, l.getD j 0 = x := ⟨_, rfl⟩
      obtain ⟨c, hc⟩ : ∃ c, cntL (l.take j) v = c := ⟨_, rfl⟩
      have hc80 := (HC j).out
      rw [hx] at c0 HS1
      rw [hc] at HS1 hc80 ⊢
      clear hjL hx hc
      have hw1 : IntKind.i64.wrap ((c : Int) + 1) = (c : Int) + 1 := by rw [IntKind.wrap_i64]; omega
      by_cases hxv : (x : Int) = v
      · have HS2 : Hid (((cntL (l.take (j + 1)) v : Nat) : Int) = (c : Int) + 1) := Lib.hid (by rw [HS1.out, if_pos hxv]; push_cast; rfl)
        go_wp2_with fail
        go_roundw
        case rel => exact ⟨j + 1, by omega, by rw [HS2.out], by go_num, by trivial⟩
        case measure => simp [intOf]; omega
      · have HS2 : Hid (((cntL (l.take (j + 1)) v : Nat) : Int) = (c : Int)) := Lib.hid (by rw [HS1.out, if_neg hxv]; rfl)
        go_wp2_with fail
        go_roundw
        case rel => exact ⟨j + 1, by omega, by rw [HS2.out], by go_num, by trivial⟩
        case measure => simp [intOf]; omega
    · obtain rfl : j = n + 1 := by omega
      have HE : Hid (l.take (n + 1) = l) := Lib.hid (List.take_of_length_le (by rw [HL.out]; exact Nat.le_refl _))
      rw [HE.out]
      go_wp2_with fail
      go_ret
      exact ⟨by first | rfl | (rw [HLQ.out]; rfl), HB.out⟩
end Go.Proofs.YtfemgekhpcgliaaGreat.Bt
/- census' firstPage. (Written by gen_cnf.py.) -/
namespace Go.Proofs.YtfemgekhpcgliaaGreat.Bt
open Go Go.RowKit Go.Shelf
set_option linter.unusedVariables false
set_option linter.unusedSimpArgs false
set_option maxRecDepth 100000 in
set_option maxHeartbeats 8000000 in
theorem cfirst {A B n : Nat} {s : ASt} {w : World} (h : BV B A n s w) (hn : n ≤ 80) (i k : Nat) (t : Bool) (hi : i ≤ 2000) :
    Calls Tryz.prog 110 #[bdyP B, .agg #[.int .i64 (adr i : Int), .int .i64 (k : Int), .bool t]] w (Gives (.int .i64 (i : Int)) w) := by
  have hb0 := bel1 w (.cells #[.int .i64 (adr i : Int), .int .i64 (k : Int), .bool t] 79)
  have HB5 := Lib.hid (hb0.trans ((Below.refl _ _).drew.mono hb0.size))
  have HV5 := Lib.hid (h.below HB5.out)
  have hst0 : RbV w.heap.size (adr i, k, t) (w.alloc (.cells #[.int .i64 (adr i : Int), .int .i64 (k : Int), .bool t] 79)).drew := (show RbV w.heap.size (adr i, k, t) (w.alloc (.cells #[.int .i64 (adr i : Int), .int .i64 (k : Int), .bool t] 79)) from heap_new w _).below (Below.refl _ _).drew
  have hq1 : IntKind.i64.wrap (Int.tdiv (adr i : Int) 4096) = 1 + (i : Int) := by rw [adr_div, IntKind.wrap_i64]; omega
  have hq2 : IntKind.i64.wrap (1 + (i : Int) - 1) = (i : Int) := by rw [IntKind.wrap_i64]; omega
  have hq3 : Int.tdiv (adr i : Int) 4096 = 1 + (i : Int) := by rw [adr_div]; omega
  have hq4 : IntKind.i64.wrap (1 + (i : Int)) = 1 + (i : Int) := by rw [IntKind.wrap_i64]; omega
  clear h hb0
  go_enter Tryz.func110, Tryz.ntmps110
  go_upto_region 1 with fail
  obtain ⟨y, hy⟩ : ∃ y, w.alloc (.cells #[.int .i64 (adr i : Int), .int .i64 (k : Int), .bool t] 79) = y := ⟨_, rfl⟩
  obtain ⟨E, hE⟩ : ∃ E, w.heap.size = E := ⟨_, rfl⟩
  have HWE := Lib.hid hE
  rw [hy] at HB5 HV5
  rw [hE, hy] at hst0
  try rw [hy]
  try rw [hE]
  clear hy hE
  refine wp_region_held_drew (S := RbV E (adr i, k, t)) (by kernel_rfl) hst0 (fun hHeld => ?_)
  clear hst0
  generalize y.drew = y5 at *
  refine wpAnyH_take (i := 0) (v := (.pointer (some ⟨E, 0, none⟩))) rfl (by kernel_rfl) (by kernel_rfl) (by kernel_rfl) (fun _ _ _ h => h) (Or.inl ⟨by rfl, fun X hS => ?_⟩) hHeld ?_
  · obtain ⟨s0, s1, s2⟩ := RbV.all hS
    go_simp
  try simp only [Act.put, List.getElem_toArray, List.getElem_cons_zero, List.getElem_cons_succ, List.setIfInBounds_toArray, List.set_cons_zero, List.set_cons_succ]
  refine wpAnyH_take (i := 1) (v := (.int .i64 (adr i : Int))) rfl (by kernel_rfl) (by kernel_rfl) (by kernel_rfl) (fun _ _ _ h => h) (Or.inl ⟨by rfl, fun X hS => ?_⟩) hHeld ?_
  · obtain ⟨s0, s1, s2⟩ := RbV.all hS
    go_simp
  try simp only [Act.put, List.getElem_toArray, List.getElem_cons_zero, List.getElem_cons_succ, List.setIfInBounds_toArray, List.set_cons_zero, List.set_cons_succ]
  refine wpAnyH_take (i := 2) (v := (.int .i64 (1 + (i : Int)))) rfl (by kernel_rfl) (by kernel_rfl) (by kernel_rfl) (fun _ _ _ h => h) (Or.inl ⟨by rfl, fun X hS => ?_⟩) hHeld ?_
  · obtain ⟨s0, s1, s2⟩ := RbV.all hS
    go_simp
  try simp only [Act.put, List.getElem_toArray, List.getElem_cons_zero, List.getElem_cons_succ, List.setIfInBounds_toArray, List.set_cons_zero, List.set_cons_succ]
  refine wpAnyH_take (i := 3) (v := (bdyP B)) rfl (by kernel_rfl) (by kernel_rfl) (by kernel_rfl) (fun _ _ _ h => h) (Or.inl ⟨by rfl, fun X hS => ?_⟩) hHeld ?_
  · obtain ⟨s0, s1, s2⟩ := RbV.all hS
    go_simp
  try simp only [Act.put, List.getElem_toArray, List.getElem_cons_zero, List.getElem_cons_succ, List.setIfInBounds_toArray, List.set_cons_zero, List.set_cons_succ]
  refine wpAnyH_ready (rs := [4]) (by kernel_rfl) (by simp) (AllReadyH.cons rfl (fun K1 hK1 => ?_) AllReadyH.nil)
  go_simp
  have HH := Lib.hid hHeld
  clear hHeld
  refine (bbase HV5.out hn).mono ?_
  rintro e w2 ⟨rfl, hb⟩
  have hrb := HH.out.below hb
  have HB6 := Lib.hid (HB5.out.trans (hb.mono HB5.out.size))
  clear HH hb
  refine hK1.out _ _ hrb (fun hHeld => ?_)
  clear hK1
  try simp only [Act.put, List.getElem_toArray, List.getElem_cons_zero, List.getElem_cons_succ, List.setIfInBounds_toArray, List.set_cons_zero, List.set_cons_succ]
  refine wpAnyH_take (i := 5) (v := (.int .i64 (i : Int))) rfl (by kernel_rfl) (by kernel_rfl) (by kernel_rfl) (fun _ _ _ h => h) (Or.inl ⟨by rfl, fun X hS => ?_⟩) hHeld ?_
  · obtain ⟨s0, s1, s2⟩ := RbV.all hS
    go_simp
  try simp only [Act.put, List.getElem_toArray, List.getElem_cons_zero, List.getElem_cons_succ, List.setIfInBounds_toArray, List.set_cons_zero, List.set_cons_succ]
  refine wpAnyH_take (i := 6) (v := (.int .i64 (i : Int))) rfl (by kernel_rfl) (by kernel_rfl) (by kernel_rfl) (fun _ _ _ h => h) (Or.inl ⟨by rfl, fun X hS => ?_⟩) hHeld ?_
  · obtain ⟨s0, s1, s2⟩ := RbV.all hS
    go_simp
  try simp only [Act.put, List.getElem_toArray, List.getElem_cons_zero, List.getElem_cons_succ, List.setIfInBounds_toArray, List.set_cons_zero, List.set_cons_succ]
  refine wpAnyH_done (by kernel_rfl) ?_ _
  clear hHeld
  go_wp2_with fail
  go_ret
  exact ⟨rfl, HB6.out⟩
end Go.Proofs.YtfemgekhpcgliaaGreat.Bt
