/- Several texts in one: TgF; BtI; BtJ; ArClone; BtK; BtL. -/
import Derived.Test.YtgpgclhghljidaaGreatBpC
import Derived.Test.YtgpgclhghljidaaGreatBpI
import Derived.Lib.SmallJoins
import Derived.Deep.Slices
import Derived.Deep.Strs
import Derived.ChangeSame
import Derived.OpenShut
import Derived.WideShapes
import Derived.WalkSmall
import Derived.Test.YtgpgclhghljidaaGreatBpB
import Derived.Deep.MidRow
import Derived.Deep.DeepCutAuto
import Derived.Deep.RegionHeld3
import Derived.BigRegion
/- The statements' example; TagsNone. -/
namespace Go.Proofs.YtgpgclhghljidaaGreat.Bt
open Go Go.RowKit Go.Shelf
set_option linter.unusedVariables false

def exS : ASt := layS (fullS 1 (fun _ => 0)) 98 2 3 1 1
theorem exS_full : exS = fullS 1 (layM (fun _ => 0) 98 2 3 1 1) := rfl
theorem ex_run : runV (gC exS 96 8) 3 = .tuple #[.int .i64 2, tagV 3 1, .int .i64 0] := by
  have h1 : runF (gC exS 96 8) 3 = 2 := by decide +kernel
  have h2 : gC exS 96 8 2 = 7 := by decide +kernel
  have h3 : runOk (gC exS 96 8) 3 = true := by unfold runOk; rw [h1, h2]; decide +kernel
  unfold runV
  rw [if_pos h3, h1, h2]
  rfl
set_option maxHeartbeats 2000000 in
theorem awake6 (w : World) : Calls Tryz.prog 85 #[] w (Gives (.bool true) w) := by
  have R1 := Lib.hid ex_run
  have G1 : Hid (gE exS 96 8 3 = 0) := Lib.hid (by decide +kernel)
  have L1 : Hid (layA 96 8 2 1 = ((98 : Nat) : Int)) := Lib.hid (by decide)
  have L2 : Hid (layE (fullS 1 (fun _ => 0)) 96 8 2 1 = 0) := Lib.hid (by decide +kernel)
  go_enter Tryz.func85, Tryz.ntmps85
  go_wp2_with fail
  refine (lopen_any 8 (by omega) _).mono ?_
  rintro e w1 ⟨A, rfl, hx, hb⟩
  have HX1 := Lib.hid hx
  have HB1 := Lib.hid hb
  clear hx hb
  go_wp2_with fail
  have bV := Lib.hid (bel1 w1 (.cells #[.pointer (some ⟨A, 0, none⟩), .int .i64 96, .int .i64 8] 43))
  have HM := Lib.hid (Mine.new HX1.out (.cells #[.pointer (some ⟨A, 0, none⟩), .int .i64 96, .int .i64 8] 43))
  have HR := Lib.hid (heap_new w1 (.cells #[.pointer (some ⟨A, 0, none⟩), .int .i64 96, .int .i64 8] 43))
  refine (tlay_yes (HX1.out.below bV.out) 96 8 (by omega) (by omega) 2 3 1 98 2 (by omega) (by omega) 3 1 1 (.inl ⟨rfl, rfl, rfl, rfl⟩) rfl L1.out L2.out).mono ?_
  rintro e w2 ⟨rfl, hx, hg⟩
  have hr := HM.out.at hg HR.out
  have c0 := (cell_blk hr 0).1; have c1 := (cell_blk hr 1).1; have c2 := (cell_blk hr 2).1
  have HX2 : Hid (On A exS w2) := Lib.hid hx
  have HB2 := Lib.hid ((HB1.out.below HX1.out bV.out).went hg)
  clear hr hx hg HM HR
  go_wp2_with fail
  refine (trun_on HX2.out 96 8 (by omega) (by omega) 3 (by omega) (by omega) G1.out).mono ?_
  rintro e w3 ⟨rfl, hb⟩
  rw [R1.out]
  have HX3 := Lib.hid (HX2.out.below hb)
  have HB3 := Lib.hid (HB2.out.below HX2.out hb)
  clear hb c0 c1 c2
  go_wp2_with fail
  have bT := Lib.hid (bel1 w3 (.cells #[.int .u8 3, .int .u8 1] 118))
  refine (awake4 _).mono ?_
  rintro e w4 ⟨rfl, hb⟩
  have hr := pair_at hb (heap_new w3 (.cells #[.int .u8 3, .int .u8 1] 118))
  have c0 := (cell_blk hr 0).1; have c1 := (cell_blk hr 1).1
  have HF := Lib.hid ((HB3.out.below HX3.out bT.out).below (HX3.out.below bT.out) hb)
  clear hb hr
  go_wp2_with fail
  go_ret
  exact ⟨rfl, HF.out.bel⟩
abbrev tb0 : Value := .agg #[.pointer none, .int .i64 0, .int .i64 0]
end Go.Proofs.YtgpgclhghljidaaGreat.Bt
/- The statement's example. -/
namespace Go.Proofs.YtgpgclhghljidaaGreat.Bt
open Go Go.RowKit Go.Shelf
set_option linter.unusedVariables false
set_option linter.unusedSimpArgs false
theorem awA6 (w : World) : Calls Tryz.prog 39 #[] w (Gives (.bool true) w) := by
  go_enter Tryz.func39, Tryz.ntmps39
  go_wp2_with fail
  refine (awake6 _).mono ?_
  rintro e w1 ⟨rfl, hb⟩
  have HB := Lib.hid hb
  clear hb
  go_wp2_with fail
  go_ret
  exact ⟨rfl, HB.out⟩
theorem awA7 (w : World) : Calls Tryz.prog 40 #[] w (Gives (.bool true) w) := by
  go_enter Tryz.func40, Tryz.ntmps40
  go_wp2_with fail
  refine (awake7 _).mono ?_
  rintro e w1 ⟨rfl, hb⟩
  have HB := Lib.hid hb
  clear hb
  go_wp2_with fail
  go_ret
  exact ⟨rfl, HB.out⟩
theorem ex_first {A B : Nat} {s : ASt} {w w' : World} {e : Ending} (hr : refB s = false) (h : AllocPost B A 8 0 1 (fun _ => Option.none) s w e w') :
    ∃ R' s', e = .returned (.tuple #[.int .i64 4096, .int .i64 0]) ∧ BV B A 8 s' w' ∧ Bud 9 2 2 R' 2 s' ∧ Went A w w' ∧ R' 0 = some (1, true) ∧ s'.rf = (refS s).rf ∧ s'.lf = (refS s).lf := by
  have u : upN 0 (2 ^ 1) = 0 := by decide
  rcases h with ⟨g1, x, l, R1, s0, ⟨p1, p2, p3, p4, p5, p6⟩, rfl, R', s', h1, h2, h3, h4, h5, h6, h7⟩ | ⟨_, _, ⟨q1, _⟩ | ⟨_, q2, _⟩⟩
  · rcases p6 with ⟨rfl, rfl, rfl⟩ | ⟨c1, c2, c3, c4, rfl⟩
    · cases p2
    · rw [u] at c2
      simp at c2
      subst c2
      have a := p4.al _ _ _ p2
      have hl : 2 ^ 1 ≤ 2 ^ l := Nat.pow_le_pow_right (by decide) p1
      have hx : x = 0 := by omega
      subst hx
      exact ⟨R', s', rfl, h1, h2, h3, (h4 0 1).2 (.inl ⟨rfl, rfl⟩), h6, h7⟩
  · rw [u] at q1; omega
  · rw [hr] at q2; cases q2
theorem ex_second {A B : Nat} {R : Runs} {s : ASt} {w w' : World} {e : Ending} (hr : refB s = false) (hR : Til 2 R 2) (h0 : R 0 = some (1, true)) (h : AllocPost B A 8 2 0 R s w e w') :
    ∃ R' s', e = .returned (.tuple #[.int .i64 12288, .int .i64 0]) ∧ BV B A 8 s' w' ∧ Bud 9 3 3 R' 3 s' ∧ Went A w w' ∧ R' 0 = some (1, true) ∧ R' 2 = some (0, true) ∧ s'.rf = (refS s).rf ∧ s'.lf = (refS s).lf := by
  have u : upN 2 (2 ^ 0) = 2 := by decide
  rcases h with ⟨g1, x, l, R1, s0, ⟨p1, p2, p3, p4, p5, p6⟩, rfl, R', s', h1, h2, h3, h4, h5, h6, h7⟩ | ⟨_, _, ⟨q1, _⟩ | ⟨_, q2, _⟩⟩
  · rcases p6 with ⟨rfl, rfl, rfl⟩ | ⟨c1, c2, c3, c4, rfl⟩
    · have hx := p4.lt p2
      have := (hR.one h0 p2 (p := x) (by omega) (by omega) (Nat.le_refl _) (by have := pow2_pos l; omega)).2.2
      cases this
    · rw [u] at c2
      simp at c2
      subst c2
      have a := p4.al _ _ _ p2
      have hl := pow2_pos l
      have h01 := (p3 0 1).2 h0
      have hx : x = 2 := by
        rcases Nat.lt_or_ge x 2 with c | c
        · have := (p4.one h01 p2 (p := x) (by omega) (by omega) (Nat.le_refl _) (by omega)).2.2
          cases this
        · omega
      subst hx
      exact ⟨R', s', rfl, h1, h2, h3, (h4 0 1).2 (.inr h0), (h4 2 0).2 (.inl ⟨rfl, rfl⟩), h6, h7⟩
  · rw [u] at q1; omega
  · rw [hr] at q2; cases q2
theorem ref_same {s t : ASt} (h1 : t.rf = (refS s).rf) (h2 : t.lf = (refS s).lf) (h : s.rf = false) : t.rf = false := by
  rw [h1]; unfold refS; rw [h]; simp [h]
theorem refB_of {s : ASt} (h : s.rf = false) : refB s = false := by unfold refB; rw [h]; rfl
set_option maxHeartbeats 8000000 in
set_option maxRecDepth 100000 in
theorem awake8 (w : World) : Calls Tryz.prog 8 #[] w (Gives (.bool true) w) := by
  have L1 : Hid (lenN 9 = 9) := Lib.hid (by decide)
  go_enter Tryz.func8, Tryz.ntmps8
  go_wp2_with fail
  refine (on_new 9 _).mono ?_
  rintro e w1 ⟨A, rfl, hA, hx, hb, hm⟩
  rw [L1.out] at hx
  have HX1 := Lib.hid hx
  have HB1 := Lib.hid hb
  have HN := Lib.hid (bnewP hx (by show 9 ≤ 80; omega) ⟨rfl, rfl⟩)
  clear hx hb hm hA
  go_wp2_with fail
  refine HN.out.mono ?_
  rintro e w2 (⟨q, _⟩ | ⟨_, q, _⟩ | ⟨n, B, hn, _, hr, rfl, hbv, hg, hBw⟩)
  · exact absurd q (by decide)
  · exact absurd q (by decide)
  have hn8 : n = 8 := by have : (newS 9).L = 9 := rfl; omega
  subst hn8
  have HV2 := Lib.hid hbv
  have HB2 := Lib.hid (HB1.out.went hg)
  have hbu : Bud 9 0 0 (fun _ => Option.none) 0 (bS0 (newS 9) 8) := Bud.start 8 (by omega) (by omega) _ _
  have hrf : (bS0 (newS 9) 8).rf = false := rfl
  have HA1 := Lib.hid (balloc_any hbv hbu 1 (by omega))
  have HRF := Lib.hid hrf
  clear hbv hg hBw hn hr hbu hrf HN
  go_wp2_with fail
  refine HA1.out.mono ?_
  intro e w3 hap
  obtain ⟨R1, s1, rfl, hbv, hbu, hg, h0, hf1, hf2⟩ := ex_first (refB_of HRF.out) hap
  have HV3 := Lib.hid hbv
  have HB3 := Lib.hid (HB2.out.went hg)
  have HA2 := Lib.hid (balloc_any hbv hbu 0 (by omega))
  have HRF1 := Lib.hid (ref_same hf1 hf2 HRF.out)
  have HTI := Lib.hid (And.intro hbu.ti h0)
  clear hap hbv hbu hg h0 hf1 hf2 HA1
  go_wp2_with fail
  refine HA2.out.mono ?_
  intro e w4 hap
  obtain ⟨R2, s2, rfl, hbv, hbu, hg, h0, h2, hf1, hf2⟩ := ex_second (refB_of HRF1.out) HTI.out.1 HTI.out.2 hap
  have HV4 := Lib.hid hbv
  have HB4 := Lib.hid (HB3.out.went hg)
  have HBU := Lib.hid hbu
  clear hap hbv hbu hg h0 h2 hf1 hf2 HA2
  go_wp2_with fail
  refine (awA6 _).mono ?_
  rintro e w5 ⟨rfl, hb⟩
  have HV5 := Lib.hid (HV4.out.below hb)
  have HB5 := Lib.hid (HB4.out.below HV4.out.1 hb)
  clear hb
  go_wp2_with fail
  refine (awA7 _).mono ?_
  rintro e w6 ⟨rfl, hb⟩
  have HV6 := Lib.hid (HV5.out.below hb)
  have HB6 := Lib.hid (HB5.out.below HV5.out.1 hb)
  clear hb
  go_wp2_with fail
  refine (bbase HV6.out (by omega)).mono ?_
  rintro e w7 ⟨rfl, hb⟩
  have HV7 := Lib.hid (HV6.out.below hb)
  have HB7 := Lib.hid (HB6.out.below HV6.out.1 hb)
  clear hb
  go_wp2_with fail
  refine (bgrown HV7.out 3 (by omega) HBU.out.front HBU.out.gr).mono ?_
  rintro e w8 ⟨rfl, hb⟩
  have HB8 := Lib.hid (HB7.out.below HV7.out.1 hb)
  clear hb
  go_wp2_with fail
  go_ret
  exact ⟨rfl, HB8.out.bel⟩
theorem awA8 (w : World) : Calls Tryz.prog 67 #[] w (Gives (.bool true) w) := by
  go_enter Tryz.func67, Tryz.ntmps67
  go_wp2_with fail
  refine (awake8 _).mono ?_
  rintro e w1 ⟨rfl, hb⟩
  have HB := Lib.hid hb
  clear hb
  go_wp2_with fail
  go_ret
  exact ⟨rfl, HB.out⟩
end Go.Proofs.YtgpgclhghljidaaGreat.Bt
/- Acts of a buddy that came in, opened; how many pages are committed. -/
namespace Go.Proofs.YtgpgclhghljidaaGreat.Bt
open Go Go.RowKit Go.Shelf Go.Deep
open Go.ChangeShapes Go.WideShapes Go.ChangeAt
set_option linter.unusedVariables false
set_option linter.unusedSimpArgs false
structure Act8 where
  d : Int
  k : Int
  n : Int
structure Act8.ok (a : Act8) : Prop where
  d0 : 0 ≤ a.d
  d1 : a.d ≤ 255
  k0 : -9223372036854775808 ≤ a.k
  k1 : a.k ≤ 9223372036854775807
  n0 : -9223372036854775808 ≤ a.n
  n1 : a.n ≤ 9223372036854775807
def Act8Cells (w : World) (b off : Nat) (a : Act8) : Prop :=
  w.cell? ⟨b, off, none⟩ = some (.int .u8 a.d) ∧ w.cell? ⟨b, off + 1, none⟩ = some (.int .i64 a.k) ∧ w.cell? ⟨b, off + 2, none⟩ = some (.int .i64 a.n)
def Acts8At (w : World) (p : Option Addr) (acts : List Act8) : Prop :=
  (acts = []) ∨ ∃ b off, p = some ⟨b, off, none⟩ ∧ b < w.heap.size ∧ ∀ i (h : i < acts.length), Act8Cells w b (off + i * 3) acts[i] ∧ acts[i].ok
theorem Tryz.cellsAct8 : Tryz.prog.cellsOf 37 = 3 := by kernel_rfl
theorem Tryz.cellsU8b : Tryz.prog.cellsOf 5 = 1 := by kernel_rfl
set_option maxRecDepth 100000 in
theorem acts8_open {H : Type} {enc : TypeId × Value → H} {w : World} {fuel : Nat} {v : Value} {x : DataW H × List MemPlace} {a : Option Addr} {len cap : Nat} (hv : v = .slice a len cap)
    (h : DataW.trod enc Tryz.prog w 0 (fun _ => true) true fuel 22 v.cells.toList = some x) : ∃ acts : List Act8, acts.length = len ∧ len ≤ 9223372036854775807 ∧ Acts8At w a acts := by
  subst hv
  rcases open_slice Tryz.underlying22 h with ⟨h1, _⟩ | ⟨ad, len', cap', m, n, D, Pl, h1, _, hl, hm, hmm, _, hi⟩
  · simp [Value.cells] at h1
    exact ⟨[], by simp [h1.2.1], by omega, .inl rfl⟩
  · simp [Value.cells] at h1
    obtain ⟨rfl, rfl, rfl⟩ := h1
    unfold maxLen at hm
    have hlm : len ≤ m := by rw [hmm]; simp; omega
    have key : ∀ i, i < len → ∃ act : Act8, act.ok ∧ w.cell? (ad.add (i * 3)) = some (.int .u8 act.d) ∧ w.cell? (ad.add (i * 3 + 1)) = some (.int .i64 act.k) ∧ w.cell? (ad.add (i * 3 + 2)) = some (.int .i64 act.n) := by
      intro i hilt
      obtain ⟨cs', hc, ht⟩ := hi i (by omega)
      rw [Tryz.cellsAct8] at hc
      obtain ⟨_, hcl, hat⟩ := World.cells?_some hc
      obtain ⟨y0, y1, y2, k, _, _, e0, e1, e2⟩ := Go.Deep.trod_struct3 Tryz.underlying37 ht
      match cs', hcl with
      | [c0, c1, c2], _ =>
        simp only [Tryz.cellsInt, Tryz.cellsU8b, List.drop_zero, List.drop_succ_cons, List.take_succ_cons, List.take_zero] at e0 e1 e2
        obtain ⟨d, hd, _, wd⟩ := DataW.trod_int Tryz.underlying5 e0
        obtain ⟨f, hf, _, wf⟩ := DataW.trod_int Tryz.underlying3 e1
        obtain ⟨g, hg, _, wg⟩ := DataW.trod_int Tryz.underlying3 e2
        simp only [List.cons.injEq, and_true] at hd hf hg
        subst hd hf hg
        have b0 := bounds_u8 wd
        have b1 := bounds_i64 wf
        have b2 := bounds_i64 wg
        have a0 := hat 0 (by omega)
        have a1 := hat 1 (by omega)
        have a2 := hat 2 (by omega)
        rw [add_add] at a0 a1 a2
        exact ⟨⟨d, f, g⟩, ⟨b0.1, b0.2, b1.1, b1.2, b2.1, b2.2⟩, by simpa using a0, by simpa using a1, by simpa using a2⟩
    refine ⟨(List.range len).attach.map fun i => Classical.choose (key i.1 (List.mem_range.1 i.2)), by simp, by omega, ?_⟩
    by_cases h0 : len = 0
    · subst h0; exact .inl rfl
    · have k0 := (Classical.choose_spec (key 0 (by omega))).2.1
      obtain ⟨b, off, spot⟩ := ad
      have hspot : spot = none := by simpa [Addr.add] using World.cell?_spot k0
      subst hspot
      refine .inr ⟨b, off, rfl, World.block_lt_of_cell? _ _ (by simpa [Addr.add] using k0), fun i hil => ?_⟩
      have hil' : i < len := by simpa using hil
      have ks := Classical.choose_spec (key i hil')
      have eA : ∀ j, (⟨b, off, none⟩ : Addr).add j = ⟨b, off + j, none⟩ := fun j => by
        simp only [Addr.add]; split <;> simp_all
      simp only [List.getElem_map, List.getElem_attach, List.getElem_range]
      exact ⟨⟨(congrArg w.cell? (eA _).symm).trans ks.2.1, (congrArg w.cell? (eA (i * 3 + 1)).symm).trans ks.2.2.1, (congrArg w.cell? (eA (i * 3 + 2)).symm).trans ks.2.2.2⟩, ks.1⟩
theorem Acts8At.below {p : Option Addr} {l : List Act8} {w y : World} (h : Acts8At w p l) (hb : Below w.heap.size w y) : Acts8At y p l := by
  rcases h with e | ⟨b, off, e, hl, hc⟩
  · exact .inl e
  · have k : ∀ j, y.cell? ⟨b, j, none⟩ = w.cell? ⟨b, j, none⟩ := fun j => World.cell?_of_block (hb.block _ hl)
    refine .inr ⟨b, off, e, Nat.lt_of_lt_of_le hl hb.size, fun i hi => ⟨?_, (hc i hi).2⟩⟩
    obtain ⟨c0, c1, c2⟩ := (hc i hi).1
    exact ⟨(k _).trans c0, (k _).trans c1, (k _).trans c2⟩
set_option maxRecDepth 100000 in
theorem com_up {L e : Nat} (h0 : 0 < e) (h : e ≤ L) (hL : L ≤ 1048576) : countV L [0, e] 0 (L : Int) = (e : Int) := by
  have hr : Rising [0, e] := (good_up h0 h hL).rising
  have hw : withinB L 0 (L : Int) = true := decide_eq_true (by omega)
  unfold countV
  rw [hw, if_pos rfl]
  unfold memCount
  have := count_row ((0 : Nat) : Int) (e : Int) 0 (by omega) L
  rw [show (Int.toNat 0) = 0 from rfl, Int.toNat_natCast]
  have hm : ∀ i : Nat, mem [0, e] (((0 : Nat) : Int) + i) = decide (((0 : Nat) : Int) ≤ ((0 : Nat) : Int) + i ∧ ((0 : Nat) : Int) + i < (e : Int)) := fun i => by
    rw [(mem_two hr _).1, show mem [] (((0 : Nat) : Int) + i) = false from rfl, Bool.or_false]
  simp only [hm]
  rw [this]
  unfold ovI
  omega
section
variable {A P n cap : Nat} {s : ASt} {ps : List (Option Nat)} {p : Option Addr} {w : World}
theorem committed8 (h : ArX A s P ps p n cap w) :
    Calls Tryz.prog 21 #[.pointer (some ⟨A, 0, none⟩)] w fun e w' => e = .returned (.int .i64 (countV s.L s.es 0 s.L)) ∧ Below w.heap.size w w' := by
  have HX := Lib.hid h
  have g := h.good
  have hs := g.small
  have HN := Lib.hid h.num
  clear h
  go_enter Tryz.func21, Tryz.ntmps21
  go_wp2_with fail
  refine (pages_any HX.out).mono ?_
  rintro e w1 ⟨rfl, hb1⟩
  go_wp2_with fail
  refine (cap_any (HX.out.below hb1)).mono ?_
  rintro e w2 ⟨rfl, rfl⟩
  go_wp2_with fail
  refine (count_any s.L p n cap s.es 0 s.L _ g HN.out (HX.out.below hb1).edges (by omega)).mono ?_
  rintro e w3 ⟨rfl, hb3⟩
  go_wp2_with fail
  go_ret
  exact ⟨rfl, hb1.trans (hb3.mono hb1.size)⟩
end
theorem bcommitted {A B n g : Nat} {R : Runs} {s : ASt} {w : World} (h : BV B A n s w) (hB : Bud (n + 1) g g R g s) : Calls Tryz.prog 21 #[.pointer (some ⟨A, 0, none⟩)] w (Gives (.int .i64 (1 + (g : Int))) w) := by
  have e : countV s.L s.es 0 (s.L : Int) = 1 + (g : Int) := by
    have := hB.gG; have := hB.c2
    rw [hB.cL, hB.es, com_up (by omega) (by omega) (by omega)]; omega
  obtain ⟨⟨P, ps, p, np, cap, h⟩, _, _⟩ := h
  refine (committed8 h).mono ?_
  rintro e1 w1 ⟨rfl, hb⟩
  rw [e]
  exact ⟨rfl, hb⟩
end Go.Proofs.YtgpgclhghljidaaGreat.Bt
/- The contract of Clone: another arena, alike, of blocks of its own, but for its set's edges. -/
namespace Go.Proofs.YtgpgclhghljidaaGreat.Bt
open Go Go.RowKit Go.Shelf
set_option linter.unusedVariables false

/-- the first i pages' bytes -/
def upTo (m : Nat → UInt8) (i : Nat) : Nat → UInt8 := fun k => if k / 4096 < i then m k else 0
theorem upTo_zero (m : Nat → UInt8) : upTo m 0 = fun _ => 0 := by funext k; simp [upTo]
/-- the twin, so far -/
def Twin (A' P' : Nat) (s : ASt) (p : Option Addr) (n cap i : Nat) (w wr : World) : Prop :=
  ∃ qs, ArX A' { s with mm := upTo s.mm i } P' qs p n cap wr ∧ (∀ j b : Nat, qs[j]? = some (some b) → w.heap.size ≤ b) ∧ Below w.heap.size w wr ∧ w.heap.size ≤ A' ∧ w.heap.size ≤ P'
theorem page_size : (Tryz.prog.info? 98).map (·.size) = some 4096 := by kernel_rfl
theorem pg_one (m : Nat → UInt8) (i : Nat) : (pgCells m i).all (·.oneCell') = true := by
  rw [Array.all_eq_true_iff_forall_mem]
  intro v hv
  simp only [pgCells, List.mem_toArray, List.mem_map] at hv
  obtain ⟨j, _, rfl⟩ := hv
  rfl
theorem pg_range {x : World} {b : Nat} {m : Nat → UInt8} {i : Nat} (h : x.heap[b]? = some (.cells (pgCells m i) 98 (0, 0))) : x.rangeAt b 0 (pgCells m i).toList := fun j v hv => by
  rw [Nat.zero_add, (cell_blk h j).1, ← Array.getElem?_toList]; exact hv
theorem bel1' (w : World) (o : Obj) : Below w.heap.size w (w.alloc o) := (Below.refl _ _).alloc (Nat.le_refl _) _
theorem pairs_new2 (x : World) (a b : Array Value) (T U : TypeId) : ((x.alloc (.cells a T)).alloc (.cells b U)).heap[x.heap.size]? = some (.cells a T (0, 0)) ∧ ((x.alloc (.cells a T)).alloc (.cells b U)).heap[x.heap.size + 1]? = some (.cells b U (0, 0)) := by
  refine ⟨(Below.heap_alloc _ _ _ (by simp)).trans (heap_new _ _), ?_⟩
  have h := heap_new (x.alloc (.cells a T)) (.cells b U)
  rwa [show (x.alloc (.cells a T)).heap.size = x.heap.size + 1 from by simp] at h
section
variable {A P n cap : Nat} {s : ASt} {ps : List (Option Nat)} {p : Option Addr} {w : World}
def ClonePost (A : Nat) (s : ASt) (w : World) (e : Ending) (w' : World) : Prop :=
  ∃ A', e = .returned (.pointer (some ⟨A', 0, none⟩)) ∧ On A' s w' ∧ Below w.heap.size w w' ∧ w.heap.size ≤ A' ∧ (∀ k, OwnW A' w' k → w.heap.size ≤ k) ∧ ∀ k, EdgW A' w' k → EdgW A w k
theorem twin_start (h : ArX A s P ps p n cap w) (w2 : World) (hw : (w.alloc (.cells (headV s (w.heap.size + 1) p n cap) 86)).alloc (.cells (rowV (List.replicate s.L none)) 96) = w2) :
    Twin w.heap.size (w.heap.size + 1) s p n cap 0 w w2 := by
  have hno : ∀ (i b : Nat), (List.replicate s.L (none : Option Nat))[i]? ≠ some (some b) := fun i b h => by
    rw [List.getElem?_replicate] at h; split at h <;> cases h
  obtain ⟨g1, g2⟩ := pairs_new2 w (headV s (w.heap.size + 1) p n cap) (rowV (List.replicate s.L none)) 86 96
  rw [hw] at g1 g2
  have hb : Below w.heap.size w w2 := by
    rw [← hw]; exact ((Below.refl _ w).alloc (Nat.le_refl _) _).alloc (by simp) _
  refine ⟨List.replicate s.L none, ?_, fun j b h => absurd h (hno j b), hb, Nat.le_refl _, by omega⟩
  exact {
    good := h.good
    len := by simp
    hd := g1
    row := g2
    pg := fun i b h => absurd h (hno i b)
    no := fun i _ j _ => by rw [upTo_zero]
    un := fun i b h => absurd h (hno i b)
    edges := h.edges.keep fun b off e => hb.block b (h.ltE e)
    num := h.num
    room := h.room
    nil := h.nil
    ap := by omega
    apg := fun i b h => absurd h (hno i b)
    one := fun i j b h _ => absurd h (hno i b)
    eap := fun b off e => ⟨by have := h.ltE e; omega, by have := h.ltE e; omega, fun i => hno i b⟩
    lfb := h.lfb }
theorem ArX.congr {A P n cap : Nat} {s : ASt} {ps : List (Option Nat)} {p : Option Addr} {x : World} (h : ArX A s P ps p n cap x) {m' : Nat → UInt8} (e : ∀ k, k < s.L * 4096 → s.mm k = m' k) : ArX A { s with mm := m' } P ps p n cap x := by
  have lt : ∀ {i : Nat} {q : Option Nat}, ps[i]? = some q → i < s.L := fun {i q} hq => by
    have := (List.getElem?_eq_some_iff.1 hq).1; rwa [h.len] at this
  exact { h with
    pg := fun i b hb => by
      have hi := lt hb
      rw [h.pg i b hb, pg_ext fun j hj => e (i * 4096 + j) (by omega)]
    no := fun i hi j hj => by
      have hl := lt hi
      show m' _ = 0
      rw [← e _ (by omega)]; exact h.no i hi j hj }
/-- a page that the arena hasn't laid -/
theorem Twin.skip (h : ArX A s P ps p n cap w) {A' P' i : Nat} {wr : World} (t : Twin A' P' s p n cap i w wr) (hq : ps[i]? = some none) : Twin A' P' s p n cap (i + 1) w wr := by
  obtain ⟨qs, hx, h1, h3⟩ := t
  have e : upTo s.mm (i + 1) = upTo s.mm i := by
    funext k
    unfold upTo
    by_cases e1 : k / 4096 < i
    · rw [if_pos e1, if_pos (by omega)]
    · rw [if_neg e1]
      by_cases e2 : k / 4096 = i
      · rw [if_pos (by omega)]
        have := h.no i hq (k % 4096) (by omega)
        rwa [show i * 4096 + k % 4096 = k by omega] at this
      · rw [if_neg (by omega)]
  exact ⟨qs, by rw [e]; exact hx, h1, h3⟩
/-- a page more is there -/
theorem Twin.more {A' P' i b : Nat} {qs : List (Option Nat)} {x : World} (hx : ArX A' { s with mm := upTo s.mm i } P' qs p n cap x) (hb : qs[i]? = some (some b)) (h1 : ∀ j b : Nat, qs[j]? = some (some b) → w.heap.size ≤ b)
    (h3 : Below w.heap.size w x) (h4 : w.heap.size ≤ A' ∧ w.heap.size ≤ P') : Twin A' P' s p n cap (i + 1) w (x.setRow b (pgCells s.mm i)) := by
  refine ⟨qs, ?_, h1, ⟨h3.os, h3.tape, h3.output, by rw [size_setRow]; exact h3.size, fun k hk => (setRow_other _ _ _ _ (by have := h1 i b hb; omega)).trans (h3.block k hk)⟩, h4⟩
  refine hx.paged (m' := upTo s.mm (i + 1)) hb (by rw [size_setRow]; exact Nat.le_refl _) ?_ (fun k _ hk => setRow_other _ _ _ _ hk) (fun k hk => ?_)
  · rw [setRow_heap _ _ _ _ _ _ (hx.pg i b hb)]
    rw [pg_ext (m := s.mm) (m' := upTo s.mm (i + 1)) fun j hj => by unfold upTo; rw [if_pos (by omega)]]
  · show upTo s.mm (i + 1) k = upTo s.mm i k
    unfold upTo
    by_cases e1 : k / 4096 < i
    · rw [if_pos e1, if_pos (by omega)]
    · rw [if_neg e1, if_neg (by omega)]
set_option maxRecDepth 100000 in
set_option maxHeartbeats 4000000 in
theorem clone_any (h : ArX A s P ps p n cap w) : Calls Tryz.prog 14 #[.pointer (some ⟨A, 0, none⟩)] w (ClonePost A s w) := by
  have hsm := h.good.small
  have hmk := run_pages s.L hsm
  obtain ⟨c0, c1, c2, c3, c4⟩ := h.head
  have HX := Lib.hid h
  clear h
  have hA := HX.out.ltA
  have d2 : (w.alloc (.cells #[.int .i64 (s.L : Int), .slice p n cap, .slice (some ⟨P, 0, none⟩) s.L s.L, .bool s.rf, .int .i64 (s.lf : Int)] 86)).cell? ⟨A, 2, none⟩ = some (.slice (some ⟨P, 0, none⟩) s.L s.L) :=
    ((bel1' w _).cell (p := ⟨A, 2, none⟩) hA).trans c2
  have d3 : ((w.alloc (.cells #[.int .i64 (s.L : Int), .slice p n cap, .slice (some ⟨w.heap.size + 1, 0, none⟩) s.L s.L, .bool s.rf, .int .i64 (s.lf : Int)] 86)).alloc (.cells (rowV (List.replicate s.L none)) 96)).cell? ⟨A, 2, none⟩ = some (.slice (some ⟨P, 0, none⟩) s.L s.L) :=
    ((((Below.refl _ w).alloc (Nat.le_refl _) _).alloc (by simp) _).cell (p := ⟨A, 2, none⟩) hA).trans c2
  have HST := Lib.hid (twin_start HX.out _ rfl)
  go_enter Tryz.func14, Tryz.ntmps14
  go_wp2_with fail
  go_loopw [23] (fun i wr => ∃ k : Nat, k ≤ s.L ∧ i = .int .i64 (k : Int) ∧ Twin w.heap.size (w.heap.size + 1) s p n cap k w wr) (fun i _ => s.L - (intOf i).toNat)
  case atStart => exact ⟨0, Nat.zero_le _, rfl, HST.out⟩
  case round =>
    clear HST d2 d3 c0 c1 c2 c3 c4 hmk
    obtain ⟨k, hk, rfl, ht⟩ := hrel
    by_cases hlt : k < s.L
    · have hkl : k < ps.length := by rw [HX.out.len]; exact hlt
      have hbw := ht.choose_spec.2.2.1
      cases hq : ps[k]? with
      | none => rw [List.getElem?_eq_none_iff] at hq; omega
      | some q =>
        have hsl := (HX.out.below hbw).slot hq
        cases q with
        | none =>
          simp only [ptrV] at hsl
          have HT := Lib.hid (ht.skip HX.out hq)
          clear hq ht hbw
          go_wp2_with fail
          go_roundw
          case rel => exact ⟨k + 1, by omega, by go_num, HT.out⟩
          case measure => simp [intOf]; omega
        | some b =>
          simp only [ptrV] at hsl
          have hpg := (HX.out.below hbw).pg k b hq
          have hbl := HX.out.ltG hq
          have hmem := HX.out.un k b hq
          have HPG := Lib.hid hpg
          have HT := Lib.hid ht
          have HU : Hid ((Tryz.prog.info? 98).map (·.size) = some (pgCells s.mm k).toList.length) := Lib.hid (by rw [page_size]; simp [pgCells])
          have HQ := Lib.hid (And.intro hq (And.intro hbl hmem))
          clear hq ht hbw hpg hbl hmem
          go_upto_region 9 with fail
          clear hsl
          have hS0 : (fun X : World => X.rangeAt b 0 (pgCells s.mm k).toList ∧ X.heap[b]? = some (.cells (pgCells s.mm k) 98 (0, 0))) wr.drew := ⟨pg_range (x := wr.drew) HPG.out, HPG.out⟩
          refine wp_region_held_drew (S := fun X : World => X.rangeAt b 0 (pgCells s.mm k).toList ∧ X.heap[b]? = some (.cells (pgCells s.mm k) 98 (0, 0))) (by kernel_rfl) hS0 (fun hHeld => ?_)
          clear hS0
          refine wpAnyH_take (i := 0) (v := (.int .i64 (k : Int))) rfl (by kernel_rfl) (by kernel_rfl) (by kernel_rfl) (fun _ _ _ h => h) (Or.inl ⟨by rfl, fun X hS => ?_⟩) hHeld ?_
          · go_simp
          try simp only [Act.put, List.getElem_toArray, List.getElem_cons_zero, List.getElem_cons_succ, List.setIfInBounds_toArray, List.set_cons_zero, List.set_cons_succ]
          refine wpAnyH_take (i := 2) (v := (.pointer (some ⟨b, 0, none⟩))) rfl (by kernel_rfl) (by kernel_rfl) (by kernel_rfl) (fun _ _ _ h => h) (Or.inl ⟨by rfl, fun X hS => ?_⟩) hHeld ?_
          · go_simp
          try simp only [Act.put, List.getElem_toArray, List.getElem_cons_zero, List.getElem_cons_succ, List.setIfInBounds_toArray, List.set_cons_zero, List.set_cons_succ]
          refine wpAnyH_take (i := 3) (v := (.pointer (some ⟨b, 0, none⟩))) rfl (by kernel_rfl) (by kernel_rfl) (by kernel_rfl) (fun _ _ _ h => h) (Or.inl ⟨by rfl, fun X hS => ?_⟩) hHeld ?_
          · go_simp
          try simp only [Act.put, List.getElem_toArray, List.getElem_cons_zero, List.getElem_cons_succ, List.setIfInBounds_toArray, List.set_cons_zero, List.set_cons_succ]
          refine wpAnyH_take (i := 4) (v := .agg (pgCells s.mm k)) rfl (by kernel_rfl) (by kernel_rfl) (by kernel_rfl) (fun _ _ _ h => h) (yieldsIf_load_mid (by rfl) 98 (.tmp 33) rfl b 0 rfl (pgCells s.mm k).toList _ (fun X hS => hS.1) Tryz.underlying98 rfl HU.out) hHeld ?_
          try simp only [Act.put, List.getElem_toArray, List.getElem_cons_zero, List.getElem_cons_succ, List.setIfInBounds_toArray, List.set_cons_zero, List.set_cons_succ]
          refine wpAnyH_ready (rs := [1]) (by kernel_rfl) (by simp) (AllReadyH.cons rfl (fun K1 hK1 => ?_) AllReadyH.nil)
          go_simp
          obtain ⟨qs, hx, h1q, hbw, hA1, hP1⟩ := HT.out
          have hxd : ArX w.heap.size { s with mm := upTo s.mm k } (w.heap.size + 1) qs p n cap wr.drew := hx.below (Below.refl _ _).drew
          refine (laid_page hxd k hlt HQ.out.2.2).mono ?_
          rintro e x1 ⟨b2, qs2, rfl, hqb, hx1, hst⟩
          have hnb : b ≠ b2 := fun e => by
            rcases hst.news k b2 hqb with h5 | h5
            · have := h1q k b2 h5; have := HQ.out.2.1; omega
            · have := HQ.out.2.1; have h6 : wr.heap.size ≤ b2 := h5; have := hbw.size; omega
          have hno : ¬ Own w.heap.size (w.heap.size + 1) qs b := fun ho => by
            have := HQ.out.2.1
            rcases ho with h5 | h5 | ⟨j, h5⟩
            · omega
            · omega
            · have := h1q j b h5; omega
          have hpg1 := (hst.block b (Nat.lt_of_lt_of_le HQ.out.2.1 hbw.size) hno).trans HPG.out
          have hS1 : (fun X : World => X.rangeAt b 0 (pgCells s.mm k).toList ∧ X.heap[b]? = some (.cells (pgCells s.mm k) 98 (0, 0))) x1 := ⟨pg_range hpg1, hpg1⟩
          have HM : Hid (Twin w.heap.size (w.heap.size + 1) s p n cap (k + 1) w (x1.setRow b2 (pgCells s.mm k))) := Lib.hid (Twin.more hx1 hqb (fun j c hc => by
              rcases hst.news j c hc with h5 | h5
              · exact h1q j c h5
              · exact Nat.le_trans hbw.size h5) (hbw.drew.trans (hst.below hbw.size hA1 hP1 h1q)) ⟨hA1, hP1⟩)
          have HX1 := Lib.hid (hx1.pg k b2 hqb)
          have HS2 : Hid ((fun X : World => X.rangeAt b 0 (pgCells s.mm k).toList ∧ X.heap[b]? = some (.cells (pgCells s.mm k) 98 (0, 0))) (x1.setRow b2 (pgCells s.mm k))) := Lib.hid (by
            have h7 := (setRow_other x1 b2 b (pgCells s.mm k) hnb).trans hpg1
            exact ⟨pg_range h7, h7⟩)
          clear hHeld hx h1q hbw hA1 hP1 hxd hqb hx1 hst hnb hno hpg1
          refine hK1.out _ _ hS1 (fun hHeld => ?_)
          clear hK1 hS1
          try simp only [Act.put, List.getElem_toArray, List.getElem_cons_zero, List.getElem_cons_succ, List.setIfInBounds_toArray, List.set_cons_zero, List.set_cons_succ]
          refine wpAnyH_take (i := 5) (v := .pointer (some ⟨b2, 0, none⟩)) rfl (by kernel_rfl) (by kernel_rfl) (by kernel_rfl) (fun _ _ _ h => h) (Or.inl ⟨by rfl, fun X hS => ?_⟩) hHeld ?_
          · go_simp
          try simp only [Act.put, List.getElem_toArray, List.getElem_cons_zero, List.getElem_cons_succ, List.setIfInBounds_toArray, List.set_cons_zero, List.set_cons_succ]
          refine wpAnyH_ready (rs := [6]) (by kernel_rfl) (by simp) (AllReadyH.cons rfl (fun K2 hK2 => ?_) AllReadyH.nil)
          rw [if_pos (by rfl)]
          refine wp_store_row 98 (.tmp 35) (.tmp 34) rfl b2 (pgCells s.mm k) rfl rfl 98 (pgCells (upTo s.mm k) k) HX1.out (by rw [page_size, pg_size]) (by rw [pg_size, pg_size]) (pg_one _ _) ?_
          refine hK2.out _ _ HS2.out (fun _ => ?_)
          clear hK2 hHeld HX1 HS2 HPG
          try simp only [Act.put, List.getElem_toArray, List.getElem_cons_zero, List.getElem_cons_succ, List.setIfInBounds_toArray, List.set_cons_zero, List.set_cons_succ]
          refine wpAnyH_done (by kernel_rfl) ?_ _
          go_wp2_with fail
          go_roundw
          case rel => exact ⟨k + 1, by omega, by go_num, HM.out⟩
          case measure => simp [intOf]; omega
    · have hk2 : k = s.L := by omega
      subst hk2
      have HT := Lib.hid ht
      clear ht
      go_wp2_with fail
      go_ret
      obtain ⟨qs, hx, h1q, hbw, hA1, hP1⟩ := HT.out
      have hx2 := hx.congr (m' := s.mm) fun i hi => by show upTo s.mm s.L i = s.mm i; unfold upTo; rw [if_pos (by have : i < s.L * 4096 := hi; omega)]
      refine ⟨w.heap.size, rfl, ⟨_, _, _, _, _, hx2⟩, hbw, Nat.le_refl _, fun i ho => ?_, fun i he => ?_⟩
      · rcases (ownW_iff hx2 i).1 ho with h5 | h5 | ⟨j, h5⟩
        · omega
        · omega
        · exact h1q j i h5
      · obtain ⟨off, h5⟩ := (edgW_iff hx2 i).1 he
        exact (edgW_iff HX.out i).2 ⟨off, h5⟩
end
end Go.Proofs.YtgpgclhghljidaaGreat.Bt
/- What BuddyPlays keeps from act to act. (Written by gen_btk.py.) -/
namespace Go.Proofs.YtgpgclhghljidaaGreat.Bt
open Go Go.RowKit Go.Shelf
set_option linter.unusedVariables false
set_option linter.unusedSimpArgs false
theorem ref_L (s : ASt) : (refS s).L = s.L := by unfold refS; split <;> (try split) <;> rfl
theorem ref_es (s : ASt) : (refS s).es = s.es := by unfold refS; split <;> (try split) <;> rfl
theorem tkT_none : tkT (fun _ => Option.none) 0 = [] := by rfl
theorem new_cases {A N : Nat} {s : ASt} {w0 w w' : World} {e : Ending} (h : NewPost A s w e w') (hb : Base A w0 w) (hL : s.L = N) (h8 : N ≤ 80) (hF : Fr0 s) :
    (∃ st er, er ≠ 0 ∧ e = .returned (.tuple #[.pointer none, .int .i64 er]) ∧ newV N (rfI s) = .tuple #[bqV 0 0 0 0 (.slice none 0 0), .int .i64 er] ∧ On A st w' ∧ st.L ≤ 80 ∧ thereE st.L st.es 0 ((256 + st.L : Nat) : Int) = 3 ∧ Base A w0 w') ∨
    (∃ n B s', N = n + 1 ∧ 1 ≤ n ∧ e = .returned (.tuple #[bdyP B, .int .i64 0]) ∧ newV N (rfI s) = .tuple #[bqV 1 (n : Int) 0 (rfI s') (.slice none 0 0), .int .i64 0] ∧ BV B A n s' w' ∧ Bud (n + 1) 0 0 (fun _ => Option.none) 0 s' ∧ Base A w0 w') := by
  rcases h with ⟨q1, q2, q3, q4⟩ | ⟨q1, q2, q3, q4, q5⟩ | ⟨n, B, q1, q2, q3, q4, q5, q6, q7⟩
  · exact .inl ⟨s, 3, by decide, q2, by unfold newV; rw [if_pos (by omega)], q3, by omega, by rw [hF.1]; exact there_none8 (by omega) (by omega), hb.went q4⟩
  · have := (rfI_B s).1 q2
    exact .inl ⟨refS s, 4, by decide, q3, by unfold newV; rw [if_neg (by omega), if_pos (by rw [this]; decide), this], q4, by rw [ref_L]; omega, by rw [ref_es, ref_L, hF.1]; exact there_none8 (by omega) (by omega), hb.went q5⟩
  · have := (rfI_B s).2 q3
    have e1 : rfI (bS0 s n) = comR (rfI s) := by rw [← rfI_ref]; exact rfI_same rfl rfl
    exact .inr ⟨n, B, bS0 s n, by omega, q2, q4, by unfold newV; rw [if_neg (by omega), if_neg (by rw [this]; decide), e1, show (N : Int) - 1 = (n : Int) from by omega], q5, Bud.start n q2 (by omega) _ _, hb.went q6⟩
theorem AcAt.below {C : Nat} {d k nn : Int} {x y : World} (h : AcAt C d k nn x) (hb : Below x.heap.size x y) : AcAt C d k nn y := (hb.block _ (Array.getElem?_eq_some_iff.1 (show x.heap[C]? = _ from h)).1).trans h
theorem on_aclone8 {A : Nat} {s : ASt} {w : World} (h : On A s w) : Calls Tryz.prog 14 #[.pointer (some ⟨A, 0, none⟩)] w (ClonePost A s w) := by
  obtain ⟨P, ps, p, n, cap, h⟩ := h; exact clone_any h
/-- between two acts: the buddy, the document's in block Q -/
structure PB (Q n A B g : Nat) (R : Runs) (s : ASt) (u : Option Addr) (tc : Nat) (w0 x : World) : Prop where
  dp : DP A B n g R s u x
  bq : BqAt Q 1 (n : Int) (g : Int) (rfI s) (.slice u (tkT R g).length tc) x
  mq : Mine A Q x
  bs : Base A w0 x
  qs : w0.heap.size ≤ Q
theorem set5_mine {A E E2 : Nat} {s : ASt} {x : World} (ho : On A s x) (he : Mine A E x) (hr : Mine A E2 x) (v0 v1 v2 v3 v4 : Value) : Mine A E2 (set5 x E v0 v1 v2 v3 v4) := by
  have m0 := Mine.set ho he he 0 v0
  have r0 := Mine.set ho he hr 0 v0
  have a0 := ho.set he 0 v0
  have m1 := Mine.set a0 m0 m0 1 v1
  have r1 := Mine.set a0 m0 r0 1 v1
  have a1 := a0.set m0 1 v1
  have m2 := Mine.set a1 m1 m1 2 v2
  have r2 := Mine.set a1 m1 r1 2 v2
  have a2 := a1.set m1 2 v2
  have m3 := Mine.set a2 m2 m2 3 v3
  have r3 := Mine.set a2 m2 r2 3 v3
  have a3 := a2.set m2 3 v3
  exact Mine.set a3 m3 r3 4 v4
theorem set5_base {A E : Nat} {s : ASt} {w x : World} (hb : Base A w x) (ho : On A s x) (he : Mine A E x) (hE : w.heap.size ≤ E) (v0 v1 v2 v3 v4 : Value) : Base A w (set5 x E v0 v1 v2 v3 v4) := by
  have m0 := Mine.set ho he he 0 v0
  have a0 := ho.set he 0 v0
  have m1 := Mine.set a0 m0 m0 1 v1
  have a1 := a0.set m0 1 v1
  have m2 := Mine.set a1 m1 m1 2 v2
  have a2 := a1.set m1 2 v2
  have m3 := Mine.set a2 m2 m2 3 v3
  have a3 := a2.set m2 3 v3
  exact ((((hb.set ho he hE 0 _).set a0 m0 hE 1 _).set a1 m1 hE 2 _).set a2 m2 hE 3 _).set a3 m3 hE 4 _
section
variable {Q n A B g g' tc tc' : Nat} {R R' : Runs} {s s' : ASt} {u u' : Option Addr} {w0 x y : World}
theorem PB.below (h : PB Q n A B g R s u tc w0 x) (hb : Below x.heap.size x y) : PB Q n A B g R s u tc w0 y :=
  ⟨h.dp.below hb, h.bq.below hb, h.mq.went (Went.of_below h.dp.bv.1 hb), h.bs.below h.dp.bv.1 hb, h.qs⟩
/-- behind an act, ahead of the store -/
structure PN (Q P n A B g : Nat) (R : Runs) (s : ASt) (u : Option Addr) (tc : Nat) (w0 x : World) : Prop where
  dp : DP A B n g R s u x
  bq : ∃ (o q g0 r0 : Int) (v : Value), BqAt Q o q g0 r0 v x
  bp : BqAt P 1 (n : Int) (g : Int) (rfI s) (.slice u (tkT R g).length tc) x
  mq : Mine A Q x
  bs : Base A w0 x
  qs : w0.heap.size ≤ Q
theorem PN.below {P : Nat} (h : PN Q P n A B g R s u tc w0 x) (hb : Below x.heap.size x y) : PN Q P n A B g R s u tc w0 y :=
  ⟨h.dp.below hb, by obtain ⟨o, q, g0, r0, v, k⟩ := h.bq; exact ⟨o, q, g0, r0, v, k.below hb⟩, h.bp.below hb, h.mq.went (Went.of_below h.dp.bv.1 hb), h.bs.below h.dp.bv.1 hb, h.qs⟩
theorem PB.act (h : PB Q n A B g R s u tc w0 x) (hp : DP A B n g' R' s' u' y) (hg : Went A x y) : PN Q y.heap.size n A B g' R' s' u' tc' w0 (y.alloc (.cells (bqA 1 (n : Int) (g' : Int) (rfI s') (.slice u' (tkT R' g').length tc')) 33)) := by
  have hb := bel1 y (.cells (bqA 1 (n : Int) (g' : Int) (rfI s') (.slice u' (tkT R' g').length tc')) 33)
  have hq := Went.of_below hp.bv.1 hb
  exact ⟨hp.below hb, ⟨_, _, _, _, _, (h.bq.went h.dp.bv.1 hg).below hb⟩, heap_new _ _, (h.mq.went hg).went hq, (h.bs.went hg).went hq, h.qs⟩
theorem PN.store {P : Nat} (h : PN Q P n A B g R s u tc w0 x) : PB Q n A B g R s u tc w0 (set5 x Q (.int .i64 1) (.int .i64 (n : Int)) (.int .i64 (g : Int)) (.int .i64 (rfI s)) (.slice u (tkT R g).length tc)) := by
  obtain ⟨o, q, g0, r0, v, k⟩ := h.bq
  exact ⟨h.dp.set5 h.mq k _ _ _ _ _, set5_at k _ _ _ _ _, set5_mine h.dp.bv.1 h.mq h.mq _ _ _ _ _, set5_base h.bs h.dp.bv.1 h.mq h.qs _ _ _ _ _, h.qs⟩
/-- the clone's buddy -/
theorem PB.clone {A2 B2 : Nat} {z : World} (h : PB Q n A B g R s u tc w0 x) (ho : On A2 s y) (hb : Below x.heap.size x y) (hown : ∀ k, OwnW A2 y k → x.heap.size ≤ k) (hedg : ∀ k, EdgW A2 y k → EdgW A x k) (hz : Below y.heap.size y z) (hB : BdyAt B2 A2 n z) :
    PB Q n A2 B2 g R s u tc w0 z := by
  have hxz := hb.trans (hz.mono hb.size)
  have hm : Mine A2 Q y := ⟨Nat.lt_of_lt_of_le h.mq.lt hb.size, fun k => by have := hown _ k; have := h.mq.lt; omega, fun k => h.mq.edg (hedg _ k)⟩
  have hbs : Base A2 w0 y := ⟨h.bs.bel.trans (hb.mono h.bs.bel.size), fun k hk => Nat.le_trans h.bs.bel.size (hown k hk), fun k hk => h.bs.edg k (hedg k hk)⟩
  exact ⟨⟨⟨ho.below hz, h.dp.bv.2.1, hB⟩, h.dp.bu, h.dp.rn.below hxz⟩, h.bq.below hxz, hm.went (Went.of_below ho hz), hbs.below ho hz, h.qs⟩
theorem PB.start (h : BV B A n s x) (hB : Bud (n + 1) 0 0 (fun _ => Option.none) 0 s) (hb : Base A w0 x) :
    PB x.heap.size n A B 0 (fun _ => Option.none) s Option.none 0 w0 (x.alloc (.cells (bqA 1 (n : Int) 0 (rfI s) (.slice none 0 0)) 33)) := by
  have hw := bel1 x (.cells (bqA 1 (n : Int) 0 (rfI s) (.slice none 0 0)) 33)
  exact ⟨⟨h.below hw, hB, .inl tkT_none⟩, heap_new _ _, Mine.new h.1 _, hb.below h.1 hw, hb.bel.size⟩
end
end Go.Proofs.YtgpgclhghljidaaGreat.Bt
/- The walk of BuddyPlays. (Written by gen_btl.py.) -/
namespace Go.Proofs.YtgpgclhghljidaaGreat.Bt
open Go Go.RowKit Go.Shelf
set_option linter.unusedVariables false
set_option linter.unusedSimpArgs false
def PlyL (Q n len : Nat) (w : World) (s11 s75 : Value) (wr : World) : Prop :=
  ∃ (i A B g : Nat) (R : Runs) (s : ASt) (u : Option Addr) (tc : Nat), i ≤ len ∧ s75 = .int .i64 (i : Int) ∧ s11 = bdyP B ∧ PB Q n A B g R s u tc w wr
set_option maxHeartbeats 16000000 in
set_option maxRecDepth 100000 in
theorem plays8_all (cap : Int) (hcap : -9223372036854775808 ≤ cap ∧ cap ≤ 9223372036854775807) (rf : Int) (hrf : -9223372036854775808 ≤ rf ∧ rf ≤ 9223372036854775807) (p0 : Option Addr) (c0 : Nat) (acts : List Act8) (hlen : acts.length ≤ 9223372036854775807) (again : Int) (hag : 0 ≤ again ∧ again ≤ 255) (w : World) (h : Acts8At w p0 acts) :
    Calls Tryz.prog 3 #[.int .i64 cap, .int .i64 rf, .slice p0 acts.length c0, .int .u8 again] w fun e w' => e = .returned (.bool true) ∧ Below w.heap.size w w' := by
  have HACT := Lib.hid h
  clear h
  go_enter Tryz.func3, Tryz.ntmps3
  go_wp2_with fail
  refine (awake8 _).mono ?_
  rintro e w0 ⟨rfl, hb⟩
  have HB0 := Lib.hid hb
  have HAC0 := Lib.hid (HACT.out.below hb)
  clear hb
  by_cases h60 : (60 : Int) < (acts.length : Int)
  · go_wp2_with fail
    go_ret
    exact ⟨rfl, HB0.out⟩
  obtain ⟨N, hN, hN8⟩ : ∃ N : Nat, (if 0 < if 80 < cap then 80 else cap then if 80 < cap then 80 else cap else 0) = (N : Int) ∧ N ≤ 80 := ⟨(if 0 < if 80 < cap then 80 else cap then if 80 < cap then 80 else cap else 0).toNat, by split <;> split <;> omega, by split <;> split <;> omega⟩
  go_upto_region 6 with fail
  try rw [hN]
  clear hN
  generalize (if 80 < cap then (80 : Int) else cap) = c2
  have HN8 := Lib.hid hN8
  have hln : lenN (N : Int) = N := by unfold lenN; omega
  have HLN := Lib.hid hln
  clear hln hN8
  go_wp2_with fail
  refine (on_new (N : Int) _).mono ?_
  rintro e w1 ⟨A, rfl, hA, hx, hbs, hm⟩
  rw [HLN.out] at hx
  have HX1 := Lib.hid hx
  have HBS1 := Lib.hid (hbs.rebase HB0.out)
  clear hx hbs hm hA HLN
  by_cases h0 : rf < 0
  · have h1 : ¬ (0 ≤ rf) := by omega
    have HO : Hid (∃ s0 : ASt, On A s0 w1 ∧ Base A w w1 ∧ s0.L = N ∧ Fr0 s0 ∧ rfI s0 = (if -1 < rf then rf else -1)) := Lib.hid ⟨newS N, HX1.out, HBS1.out, rfl, ⟨rfl, rfl⟩, by rw [if_neg (by omega)]; rfl⟩
    clear HX1 HBS1
    obtain ⟨s0, hx, hbs, hsl, hfr, hri⟩ := HO.out
    have HX := Lib.hid hx; have HBS := Lib.hid hbs; have HSL := Lib.hid hsl; have HFR := Lib.hid hfr; have HRI := Lib.hid hri
    have HN := Lib.hid (bnewP hx (by rw [hsl]; exact HN8.out) hfr)
    have HDN := Lib.hid fun X => bnew_any N HN8.out (rfI s0) (rfI_le hx) X
    obtain ⟨r, hr⟩ : ∃ r, rfI s0 = r := ⟨_, rfl⟩
    have HRR := Lib.hid hr
    rw [hr] at HDN
    have HMM : Hid ((if rf < -1 then (-1 : Int) else rf) = r) := Lib.hid (by have := HRI.out; rw [if_neg (by omega)] at this; split <;> omega)
    clear hx hbs hsl hfr hri hr HO
    go_wp2_with fail
    refine HN.out.mono ?_
    rintro e w4 hnp
    rcases new_cases hnp HBS.out HSL.out HN8.out HFR.out with ⟨st, er, q1, rfl, q2, q3, q4, q5, q6⟩ | ⟨n, B, s1, q1, q2, rfl, q3, q4, q5, q6⟩
    · have HER := Lib.hid q1
      have HV := Lib.hid q2; have HA4 := Lib.hid q3; have HBS4 := Lib.hid q6
      have HOP := Lib.hid fun X (hX : On A st X) => bopen_no hX q4 q5
      clear q1 q2 q3 q4 q5 q6 hnp HN HX HBS
      rw [HRR.out] at HV
      have hmm := HMM.out
      go_wp2_with fail
      refine (HDN.out _).mono ?_
      rintro e w5 ⟨rfl, hb⟩
      rw [HV.out]
      have HA5 := Lib.hid (HA4.out.below hb)
      have HBS5 := Lib.hid (HBS4.out.below HA4.out hb)
      clear hb HA4 HBS4
      have hq1 : ¬ (er = 0) := HER.out
      go_upto_region 11 with fail
      have hb := bel1 w5 (.cells (bqA 0 0 0 0 (.slice none 0 0)) 33)
      change Code.wp _ _ _ _ (w5.alloc (.cells (bqA 0 0 0 0 (.slice none 0 0)) 33))
      have HA6 := Lib.hid (HA5.out.below hb)
      have HBS6 := Lib.hid (HBS5.out.below HA5.out hb)
      obtain ⟨y, hy⟩ : ∃ y, w5.alloc (.cells (bqA 0 0 0 0 (.slice none 0 0)) 33) = y := ⟨_, rfl⟩
      rw [hy] at HA6 HBS6 ⊢
      clear hb hy HA5 HBS5
      go_wp2_with fail
      refine (HOP.out _ HA6.out).mono ?_
      rintro e w6 ⟨rfl, hb⟩
      have HBS7 := Lib.hid (HBS6.out.below HA6.out hb)
      clear hb HA6 HBS6
      go_wp2_with fail
      go_ret
      exact ⟨rfl, HBS7.out.bel⟩
    · have HV := Lib.hid q3; have HA4 := Lib.hid q4; have HBU4 := Lib.hid q5; have HBS4 := Lib.hid q6; have HQ1 := Lib.hid (And.intro q1 q2)
      clear q1 q2 q3 q4 q5 q6 hnp HN HX HBS
      rw [HRR.out] at HV
      have hmm := HMM.out
      go_wp2_with fail
      refine (HDN.out _).mono ?_
      rintro e w5 ⟨rfl, hb⟩
      rw [HV.out]
      have HPB := Lib.hid (PB.start (HA4.out.below hb) HBU4.out (HBS4.out.below HA4.out.1 hb))
      clear hb HA4 HBS4 HBU4
      go_upto_region 11 with fail
      change Code.wp _ _ _ _ (w5.alloc (.cells (bqA 1 (n : Int) 0 (rfI s1) (.slice none 0 0)) 33))
      obtain ⟨y, hy⟩ : ∃ y, w5.alloc (.cells (bqA 1 (n : Int) 0 (rfI s1) (.slice none 0 0)) 33) = y := ⟨_, rfl⟩
      obtain ⟨Q, hQ⟩ : ∃ Q, w5.heap.size = Q := ⟨_, rfl⟩
      rw [hy, hQ] at HPB
      rw [hy, hQ]
      clear hy hQ HV HDN
      obtain ⟨len, hl⟩ : ∃ len, acts.length = len := ⟨_, rfl⟩
      have HL := Lib.hid hl
      rw [hl] at h60 ⊢
      clear hl hlen
      have HST : Hid (PlyL Q n len w (bdyP B) (.int .i64 0) y) := Lib.hid ⟨0, A, B, 0, _, _, _, _, Nat.zero_le _, rfl, rfl, HPB.out⟩
      clear HPB
      go_wp2_with fail
      go_loopw [11, 75] (fun s11 s75 wr => PlyL Q n len w s11 s75 wr) (fun _ s75 _ => len - (intOf s75).toNat)
      case atStart => exact HST.out
      case round =>
        clear HST
        obtain ⟨i, A0, B0, g0, R0, s0, u0, tc0, hi, rfl, rfl, hv⟩ := hrel
        have HV := Lib.hid hv
        clear hv
        by_cases hlt : i < len
        · obtain ⟨b, off, rfl, hbl, d, k, nn, hc0, hc1, hc2, hkk⟩ : ∃ b off, p0 = some ⟨b, off, none⟩ ∧ b < w.heap.size ∧ ∃ d k nn, w.cell? ⟨b, off + i * 3, none⟩ = some (.int .u8 d) ∧ w.cell? ⟨b, off + i * 3 + 1, none⟩ = some (.int .i64 k) ∧ w.cell? ⟨b, off + i * 3 + 2, none⟩ = some (.int .i64 nn) ∧ (0 ≤ d ∧ d ≤ 255) ∧ (-9223372036854775808 ≤ k ∧ k ≤ 9223372036854775807) ∧ (-9223372036854775808 ≤ nn ∧ nn ≤ 9223372036854775807) := by
            rcases HACT.out with he | ⟨b, off, e, hbl, hc⟩
            · have := HL.out; rw [he] at this; simp at this; omega
            · obtain ⟨⟨x0, x1, x2⟩, hok⟩ := hc i (by rw [HL.out]; exact hlt)
              exact ⟨b, off, e, hbl, _, _, _, x0, x1, x2, ⟨hok.d0, hok.d1⟩, ⟨hok.k0, hok.k1⟩, ⟨hok.n0, hok.n1⟩⟩
          have HK := Lib.hid hkk
          have kk : ∀ j, wr.cell? ⟨b, j, none⟩ = w.cell? ⟨b, j, none⟩ := fun j => World.cell?_of_block (HV.out.bs.bel.block _ hbl)
          have c0' := (kk _).trans hc0
          have c1' := (kk _).trans hc1
          have c2' := (kk _).trans hc2
          clear kk hc0 hc1 hc2 hkk
          go_upto_region 19 with fail
          change Code.wp _ _ _ _ (wr.alloc (.cells (acA d k nn) 37))
          have hpb := HV.out.below (bel1 wr (.cells (acA d k nn) 37))
          have hca : AcAt wr.heap.size d k nn (wr.alloc (.cells (acA d k nn) 37)) := heap_new _ _
          obtain ⟨y1, hy⟩ : ∃ y, wr.alloc (.cells (acA d k nn) 37) = y := ⟨_, rfl⟩
          obtain ⟨E, hE⟩ : ∃ E, wr.heap.size = E := ⟨_, rfl⟩
          rw [hE, hy] at hca
          rw [hy] at hpb
          rw [hE, hy]
          clear hE hy c0' c1' c2' HV
          have QP : IntKind.i64.wrap again = again := IntWalk.i64_in _ (by omega)
          have QP2 : wrap64 again = again := IntWalk.wrap64_in _ ⟨by omega, by omega⟩
          by_cases hia : (i : Int) = again
          · have HP0 := Lib.hid hpb
            have HC0 := Lib.hid hca
            obtain ⟨b0, _⟩ := hpb.dp.bv.all
            clear hpb hca
            go_wp2_with fail
            refine (on_aclone8 HP0.out.dp.bv.1).mono ?_
            rintro e x7 ⟨A2, rfl, hx, hb, -, hown, hedg⟩
            have HX7 := Lib.hid (And.intro hx (And.intro hb (And.intro hown hedg)))
            clear hx hb hown hedg b0
            go_wp2_with fail
            refine (bopen_yes HX7.out.1 HP0.out.dp.bu).mono ?_
            rintro e x8 ⟨B2, rfl, hB, -, hb⟩
            have HP := Lib.hid (HP0.out.clone HX7.out.1 HX7.out.2.1 HX7.out.2.2.1 HX7.out.2.2.2 hb hB)
            have hca : AcAt E d k nn x8 := (HC0.out.below HX7.out.2.1).below hb
            clear hB hb HX7 HP0 HC0
            have HC := Lib.hid hca
            have HDO := Lib.hid (do_any (tc := tc0) d k nn HK.out.1 HK.out.2.1 HK.out.2.2 HP.out.dp)
            obtain ⟨m0, hm0⟩ : ∃ m, (tkT R0 g0).length = m := ⟨_, rfl⟩
            obtain ⟨r0, hr0⟩ : ∃ r, rfI s0 = r := ⟨_, rfl⟩
            have hbq := HP.out.bq
            rw [hm0, hr0] at HDO hbq
            obtain ⟨q0, q1, q2, q3, q4⟩ := hbq.all
            obtain ⟨c0, c1, c2⟩ := HC.out.all
            clear hbq hca hm0 hr0
            go_wp2_with fail
            refine HDO.out.mono ?_
            rintro e x1 ⟨g1, R1, s1, u1, tc1, rfl, hdp, hg⟩
            clear q0 q1 q2 q3 q4 c0 c1 c2 HDO HC
            have hpn := PB.act (tc' := tc1) HP.out hdp hg
            obtain ⟨m1, hm1⟩ : ∃ m, (tkT R1 g1).length = m := ⟨_, rfl⟩
            obtain ⟨r1, hr1⟩ : ∃ r, rfI s1 = r := ⟨_, rfl⟩
            have HM1 := Lib.hid hm1; have HR1 := Lib.hid hr1
            have HZ := Lib.hid (hdp.bu.sz hdp.bv.2.1)
            have hbp := hpn.bp
            rw [hm1, hr1] at hpn hbp
            rw [hm1, hr1]
            clear hm1 hr1 hdp hg HP
            go_upto_region 25 with fail
            change Code.wp _ _ _ _ (x1.alloc (.cells (bqA 1 (n : Int) (g1 : Int) r1 (.slice u1 m1 tc1)) 33))
            obtain ⟨y2, hy⟩ : ∃ y, x1.alloc (.cells (bqA 1 (n : Int) (g1 : Int) r1 (.slice u1 m1 tc1)) 33) = y := ⟨_, rfl⟩
            obtain ⟨P, hP⟩ : ∃ P, x1.heap.size = P := ⟨_, rfl⟩
            rw [hy, hP] at hpn hbp
            rw [hy, hP]
            clear hy hP
            have hs0 := And.intro (hpn.below (Below.refl y2.heap.size y2).drew) (hbp.below (Below.refl y2.heap.size y2).drew)
            clear hpn hbp
            have HWG : Hid (IntKind.i64.wrap (1 + (g1 : Int)) = 1 + (g1 : Int)) := Lib.hid (by have := HZ.out; rw [IntKind.wrap_i64]; omega)
            refine wp_region_held_drew (S := fun X : World => PN Q P n A2 B2 g1 R1 s1 u1 tc1 w X ∧ BqAt P 1 (n : Int) (g1 : Int) r1 (.slice u1 m1 tc1) X) (by kernel_rfl) hs0 (fun hHeld => ?_)
            clear hs0
            generalize y2.drew = y3 at *
            refine wpAnyH_take (i := 0) (v := (.bool true)) rfl (by kernel_rfl) (by kernel_rfl) (by kernel_rfl) (fun _ _ _ h => h) (Or.inl ⟨by rfl, fun X hS => ?_⟩) hHeld ?_
            · obtain ⟨hS1, hS2⟩ := hS
              obtain ⟨p0, p1, p2, p3, p4⟩ := hS2.all
              obtain ⟨b0, _⟩ := hS1.dp.bv.all
              clear hS1 hS2
              go_simp
            try simp only [Act.put, List.getElem_toArray, List.getElem_cons_zero, List.getElem_cons_succ, List.setIfInBounds_toArray, List.set_cons_zero, List.set_cons_succ]
            refine wpAnyH_take (i := 1) (v := (.bool false)) rfl (by kernel_rfl) (by kernel_rfl) (by kernel_rfl) (fun _ _ _ h => h) (Or.inl ⟨by rfl, fun X hS => ?_⟩) hHeld ?_
            · obtain ⟨hS1, hS2⟩ := hS
              obtain ⟨p0, p1, p2, p3, p4⟩ := hS2.all
              obtain ⟨b0, _⟩ := hS1.dp.bv.all
              clear hS1 hS2
              go_simp
            try simp only [Act.put, List.getElem_toArray, List.getElem_cons_zero, List.getElem_cons_succ, List.setIfInBounds_toArray, List.set_cons_zero, List.set_cons_succ]
            refine wpAnyH_take (i := 2) (v := (.bool false)) rfl (by kernel_rfl) (by kernel_rfl) (by kernel_rfl) (fun _ _ _ h => h) (Or.inl ⟨by rfl, fun X hS => ?_⟩) hHeld ?_
            · obtain ⟨hS1, hS2⟩ := hS
              obtain ⟨p0, p1, p2, p3, p4⟩ := hS2.all
              obtain ⟨b0, _⟩ := hS1.dp.bv.all
              clear hS1 hS2
              go_simp
            try simp only [Act.put, List.getElem_toArray, List.getElem_cons_zero, List.getElem_cons_succ, List.setIfInBounds_toArray, List.set_cons_zero, List.set_cons_succ]
            refine wpAnyH_take (i := 3) (v := (bdyP B2)) rfl (by kernel_rfl) (by kernel_rfl) (by kernel_rfl) (fun _ _ _ h => h) (Or.inl ⟨by rfl, fun X hS => ?_⟩) hHeld ?_
            · obtain ⟨hS1, hS2⟩ := hS
              obtain ⟨p0, p1, p2, p3, p4⟩ := hS2.all
              obtain ⟨b0, _⟩ := hS1.dp.bv.all
              clear hS1 hS2
              go_simp
            try simp only [Act.put, List.getElem_toArray, List.getElem_cons_zero, List.getElem_cons_succ, List.setIfInBounds_toArray, List.set_cons_zero, List.set_cons_succ]
            refine wpAnyH_take (i := 5) (v := (.pointer (some ⟨P, 2, none⟩))) rfl (by kernel_rfl) (by kernel_rfl) (by kernel_rfl) (fun _ _ _ h => h) (Or.inl ⟨by rfl, fun X hS => ?_⟩) hHeld ?_
            · obtain ⟨hS1, hS2⟩ := hS
              obtain ⟨p0, p1, p2, p3, p4⟩ := hS2.all
              obtain ⟨b0, _⟩ := hS1.dp.bv.all
              clear hS1 hS2
              go_simp
            try simp only [Act.put, List.getElem_toArray, List.getElem_cons_zero, List.getElem_cons_succ, List.setIfInBounds_toArray, List.set_cons_zero, List.set_cons_succ]
            refine wpAnyH_take (i := 6) (v := (.int .i64 (g1 : Int))) rfl (by kernel_rfl) (by kernel_rfl) (by kernel_rfl) (fun _ _ _ h => h) (Or.inl ⟨by rfl, fun X hS => ?_⟩) hHeld ?_
            · obtain ⟨hS1, hS2⟩ := hS
              obtain ⟨p0, p1, p2, p3, p4⟩ := hS2.all
              obtain ⟨b0, _⟩ := hS1.dp.bv.all
              clear hS1 hS2
              go_simp
            try simp only [Act.put, List.getElem_toArray, List.getElem_cons_zero, List.getElem_cons_succ, List.setIfInBounds_toArray, List.set_cons_zero, List.set_cons_succ]
            refine wpAnyH_ready (rs := [4]) (by kernel_rfl) (by simp) (AllReadyH.cons rfl (fun K1 hK1 => ?_) AllReadyH.nil)
            go_simp
            have HH := Lib.hid hHeld
            clear hHeld
            refine (bgrown HH.out.1.dp.bv g1 (by have := HZ.out; omega) HH.out.1.dp.bu.front HH.out.1.dp.bu.gr).mono ?_
            rintro e x1 ⟨rfl, hb⟩
            have hn := And.intro (HH.out.1.below hb) (HH.out.2.below hb)
            clear hb HH
            refine hK1.out _ _ hn (fun hHeld => ?_)
            clear hK1
            try simp only [Act.put, List.getElem_toArray, List.getElem_cons_zero, List.getElem_cons_succ, List.setIfInBounds_toArray, List.set_cons_zero, List.set_cons_succ]
            refine wpAnyH_take (i := 7) (v := (.bool false)) rfl (by kernel_rfl) (by kernel_rfl) (by kernel_rfl) (fun _ _ _ h => h) (Or.inl ⟨by rfl, fun X hS => ?_⟩) hHeld ?_
            · obtain ⟨hS1, hS2⟩ := hS
              obtain ⟨p0, p1, p2, p3, p4⟩ := hS2.all
              obtain ⟨b0, _⟩ := hS1.dp.bv.all
              clear hS1 hS2
              go_simp
            try simp only [Act.put, List.getElem_toArray, List.getElem_cons_zero, List.getElem_cons_succ, List.setIfInBounds_toArray, List.set_cons_zero, List.set_cons_succ]
            refine wpAnyH_take (i := 8) (v := (.bool false)) rfl (by kernel_rfl) (by kernel_rfl) (by kernel_rfl) (fun _ _ _ h => h) (Or.inl ⟨by rfl, fun X hS => ?_⟩) hHeld ?_
            · obtain ⟨hS1, hS2⟩ := hS
              obtain ⟨p0, p1, p2, p3, p4⟩ := hS2.all
              obtain ⟨b0, _⟩ := hS1.dp.bv.all
              clear hS1 hS2
              go_simp
            try simp only [Act.put, List.getElem_toArray, List.getElem_cons_zero, List.getElem_cons_succ, List.setIfInBounds_toArray, List.set_cons_zero, List.set_cons_succ]
            refine wpAnyH_take (i := 9) (v := (.bool false)) rfl (by kernel_rfl) (by kernel_rfl) (by kernel_rfl) (fun _ _ _ h => h) (Or.inl ⟨by rfl, fun X hS => ?_⟩) hHeld ?_
            · obtain ⟨hS1, hS2⟩ := hS
              obtain ⟨p0, p1, p2, p3, p4⟩ := hS2.all
              obtain ⟨b0, _⟩ := hS1.dp.bv.all
              clear hS1 hS2
              go_simp
            try simp only [Act.put, List.getElem_toArray, List.getElem_cons_zero, List.getElem_cons_succ, List.setIfInBounds_toArray, List.set_cons_zero, List.set_cons_succ]
            refine wpAnyH_take (i := 10) (v := (bdyP B2)) rfl (by kernel_rfl) (by kernel_rfl) (by kernel_rfl) (fun _ _ _ h => h) (Or.inl ⟨by rfl, fun X hS => ?_⟩) hHeld ?_
            · obtain ⟨hS1, hS2⟩ := hS
              obtain ⟨p0, p1, p2, p3, p4⟩ := hS2.all
              obtain ⟨b0, _⟩ := hS1.dp.bv.all
              clear hS1 hS2
              go_simp
            try simp only [Act.put, List.getElem_toArray, List.getElem_cons_zero, List.getElem_cons_succ, List.setIfInBounds_toArray, List.set_cons_zero, List.set_cons_succ]
            refine wpAnyH_take (i := 12) (v := (.pointer (some ⟨P, 0, none⟩))) rfl (by kernel_rfl) (by kernel_rfl) (by kernel_rfl) (fun _ _ _ h => h) (Or.inl ⟨by rfl, fun X hS => ?_⟩) hHeld ?_
            · obtain ⟨hS1, hS2⟩ := hS
              obtain ⟨p0, p1, p2, p3, p4⟩ := hS2.all
              obtain ⟨b0, _⟩ := hS1.dp.bv.all
              clear hS1 hS2
              go_simp
            try simp only [Act.put, List.getElem_toArray, List.getElem_cons_zero, List.getElem_cons_succ, List.setIfInBounds_toArray, List.set_cons_zero, List.set_cons_succ]
            refine wpAnyH_take (i := 13) (v := (.int .i64 1)) rfl (by kernel_rfl) (by kernel_rfl) (by kernel_rfl) (fun _ _ _ h => h) (Or.inl ⟨by rfl, fun X hS => ?_⟩) hHeld ?_
            · obtain ⟨hS1, hS2⟩ := hS
              obtain ⟨p0, p1, p2, p3, p4⟩ := hS2.all
              obtain ⟨b0, _⟩ := hS1.dp.bv.all
              clear hS1 hS2
              go_simp
            try simp only [Act.put, List.getElem_toArray, List.getElem_cons_zero, List.getElem_cons_succ, List.setIfInBounds_toArray, List.set_cons_zero, List.set_cons_succ]
            refine wpAnyH_ready (rs := [11]) (by kernel_rfl) (by simp) (AllReadyH.cons rfl (fun K1 hK1 => ?_) AllReadyH.nil)
            go_simp
            have HH := Lib.hid hHeld
            clear hHeld
            refine (bbase HH.out.1.dp.bv (by have := HZ.out; omega)).mono ?_
            rintro e x2 ⟨rfl, hb⟩
            have hn := And.intro (HH.out.1.below hb) (HH.out.2.below hb)
            clear hb HH
            refine hK1.out _ _ hn (fun hHeld => ?_)
            clear hK1
            try simp only [Act.put, List.getElem_toArray, List.getElem_cons_zero, List.getElem_cons_succ, List.setIfInBounds_toArray, List.set_cons_zero, List.set_cons_succ]
            refine wpAnyH_take (i := 14) (v := (.bool false)) rfl (by kernel_rfl) (by kernel_rfl) (by kernel_rfl) (fun _ _ _ h => h) (Or.inl ⟨by rfl, fun X hS => ?_⟩) hHeld ?_
            · obtain ⟨hS1, hS2⟩ := hS
              obtain ⟨p0, p1, p2, p3, p4⟩ := hS2.all
              obtain ⟨b0, _⟩ := hS1.dp.bv.all
              clear hS1 hS2
              go_simp
            try simp only [Act.put, List.getElem_toArray, List.getElem_cons_zero, List.getElem_cons_succ, List.setIfInBounds_toArray, List.set_cons_zero, List.set_cons_succ]
            refine wpAnyH_take (i := 15) (v := (.bool false)) rfl (by kernel_rfl) (by kernel_rfl) (by kernel_rfl) (fun _ _ _ h => h) (Or.inl ⟨by rfl, fun X hS => ?_⟩) hHeld ?_
            · obtain ⟨hS1, hS2⟩ := hS
              obtain ⟨p0, p1, p2, p3, p4⟩ := hS2.all
              obtain ⟨b0, _⟩ := hS1.dp.bv.all
              clear hS1 hS2
              go_simp
            try simp only [Act.put, List.getElem_toArray, List.getElem_cons_zero, List.getElem_cons_succ, List.setIfInBounds_toArray, List.set_cons_zero, List.set_cons_succ]
            refine wpAnyH_take (i := 16) (v := (.bool false)) rfl (by kernel_rfl) (by kernel_rfl) (by kernel_rfl) (fun _ _ _ h => h) (Or.inl ⟨by rfl, fun X hS => ?_⟩) hHeld ?_
            · obtain ⟨hS1, hS2⟩ := hS
              obtain ⟨p0, p1, p2, p3, p4⟩ := hS2.all
              obtain ⟨b0, _⟩ := hS1.dp.bv.all
              clear hS1 hS2
              go_simp
            try simp only [Act.put, List.getElem_toArray, List.getElem_cons_zero, List.getElem_cons_succ, List.setIfInBounds_toArray, List.set_cons_zero, List.set_cons_succ]
            refine wpAnyH_take (i := 17) (v := (bdyP B2)) rfl (by kernel_rfl) (by kernel_rfl) (by kernel_rfl) (fun _ _ _ h => h) (Or.inl ⟨by rfl, fun X hS => ?_⟩) hHeld ?_
            · obtain ⟨hS1, hS2⟩ := hS
              obtain ⟨p0, p1, p2, p3, p4⟩ := hS2.all
              obtain ⟨b0, _⟩ := hS1.dp.bv.all
              clear hS1 hS2
              go_simp
            try simp only [Act.put, List.getElem_toArray, List.getElem_cons_zero, List.getElem_cons_succ, List.setIfInBounds_toArray, List.set_cons_zero, List.set_cons_succ]
            refine wpAnyH_take (i := 19) (v := (bqV 1 (n : Int) (g1 : Int) r1 (.slice u1 m1 tc1))) rfl (by kernel_rfl) (by kernel_rfl) (by kernel_rfl) (fun _ _ _ h => h) (Or.inl ⟨by rfl, fun X hS => ?_⟩) hHeld ?_
            · obtain ⟨hS1, hS2⟩ := hS
              obtain ⟨p0, p1, p2, p3, p4⟩ := hS2.all
              obtain ⟨b0, _⟩ := hS1.dp.bv.all
              clear hS1 hS2
              go_simp
            try simp only [Act.put, List.getElem_toArray, List.getElem_cons_zero, List.getElem_cons_succ, List.setIfInBounds_toArray, List.set_cons_zero, List.set_cons_succ]
            refine wpAnyH_ready (rs := [18]) (by kernel_rfl) (by simp) (AllReadyH.cons rfl (fun K1 hK1 => ?_) AllReadyH.nil)
            go_simp
            have HH := Lib.hid hHeld
            clear hHeld
            refine (bof_any HH.out.1.dp.bv HH.out.1.dp.bu).mono ?_
            rintro e x3 ⟨ua, ca, rfl, hra, _, hb⟩
            have HRA := Lib.hid hra
            clear hra
            have hn := And.intro (HH.out.1.below hb) (HH.out.2.below hb)
            clear hb HH
            refine hK1.out _ _ hn (fun hHeld => ?_)
            clear hK1
            try simp only [Act.put, List.getElem_toArray, List.getElem_cons_zero, List.getElem_cons_succ, List.setIfInBounds_toArray, List.set_cons_zero, List.set_cons_succ]
            refine wpAnyH_ready (rs := [20]) (by kernel_rfl) (by simp) (AllReadyH.cons rfl (fun K1 hK1 => ?_) AllReadyH.nil)
            go_simp
            have HH := Lib.hid hHeld
            clear hHeld
            have hrr := bruns_any 1 (n : Int) r1 g1 (by have := HZ.out; omega) u1 tc1 R1 HH.out.1.dp.bu.ti x3 HH.out.1.dp.rn
            rw [HM1.out] at hrr
            refine hrr.mono ?_
            rintro e x4 ⟨ub, cb, rfl, hrb, _, hb⟩
            have HRB := Lib.hid hrb
            have HRA4 := Lib.hid (HRA.out.below hb)
            clear hrb HRA hrr
            have hn := And.intro (HH.out.1.below hb) (HH.out.2.below hb)
            clear hb HH
            refine hK1.out _ _ hn (fun hHeld => ?_)
            clear hK1
            try simp only [Act.put, List.getElem_toArray, List.getElem_cons_zero, List.getElem_cons_succ, List.setIfInBounds_toArray, List.set_cons_zero, List.set_cons_succ]
            refine wpAnyH_ready (rs := [21]) (by kernel_rfl) (by simp) (AllReadyH.cons rfl (fun K1 hK1 => ?_) AllReadyH.nil)
            go_simp
            have HH := Lib.hid hHeld
            clear hHeld
            refine (requal_any ua ub ca cb (runL R1 g1) (by have := runL_len R1 g1; have := HZ.out; omega) x4 HRA4.out HRB.out).mono ?_
            rintro e x5 ⟨rfl, hb⟩
            clear HRA4 HRB
            have hn := And.intro (HH.out.1.below hb) (HH.out.2.below hb)
            clear hb HH
            refine hK1.out _ _ hn (fun hHeld => ?_)
            clear hK1
            try simp only [Act.put, List.getElem_toArray, List.getElem_cons_zero, List.getElem_cons_succ, List.setIfInBounds_toArray, List.set_cons_zero, List.set_cons_succ]
            refine wpAnyH_take (i := 22) (v := (.bool false)) rfl (by kernel_rfl) (by kernel_rfl) (by kernel_rfl) (fun _ _ _ h => h) (Or.inl ⟨by rfl, fun X hS => ?_⟩) hHeld ?_
            · obtain ⟨hS1, hS2⟩ := hS
              obtain ⟨p0, p1, p2, p3, p4⟩ := hS2.all
              obtain ⟨b0, _⟩ := hS1.dp.bv.all
              clear hS1 hS2
              go_simp
            try simp only [Act.put, List.getElem_toArray, List.getElem_cons_zero, List.getElem_cons_succ, List.setIfInBounds_toArray, List.set_cons_zero, List.set_cons_succ]
            refine wpAnyH_take (i := 23) (v := (.bool false)) rfl (by kernel_rfl) (by kernel_rfl) (by kernel_rfl) (fun _ _ _ h => h) (Or.inl ⟨by rfl, fun X hS => ?_⟩) hHeld ?_
            · obtain ⟨hS1, hS2⟩ := hS
              obtain ⟨p0, p1, p2, p3, p4⟩ := hS2.all
              obtain ⟨b0, _⟩ := hS1.dp.bv.all
              clear hS1 hS2
              go_simp
            try simp only [Act.put, List.getElem_toArray, List.getElem_cons_zero, List.getElem_cons_succ, List.setIfInBounds_toArray, List.set_cons_zero, List.set_cons_succ]
            refine wpAnyH_take (i := 24) (v := (.bool false)) rfl (by kernel_rfl) (by kernel_rfl) (by kernel_rfl) (fun _ _ _ h => h) (Or.inl ⟨by rfl, fun X hS => ?_⟩) hHeld ?_
            · obtain ⟨hS1, hS2⟩ := hS
              obtain ⟨p0, p1, p2, p3, p4⟩ := hS2.all
              obtain ⟨b0, _⟩ := hS1.dp.bv.all
              clear hS1 hS2
              go_simp
            try simp only [Act.put, List.getElem_toArray, List.getElem_cons_zero, List.getElem_cons_succ, List.setIfInBounds_toArray, List.set_cons_zero, List.set_cons_succ]
            refine wpAnyH_take (i := 25) (v := (bdyP B2)) rfl (by kernel_rfl) (by kernel_rfl) (by kernel_rfl) (fun _ _ _ h => h) (Or.inl ⟨by rfl, fun X hS => ?_⟩) hHeld ?_
            · obtain ⟨hS1, hS2⟩ := hS
              obtain ⟨p0, p1, p2, p3, p4⟩ := hS2.all
              obtain ⟨b0, _⟩ := hS1.dp.bv.all
              clear hS1 hS2
              go_simp
            try simp only [Act.put, List.getElem_toArray, List.getElem_cons_zero, List.getElem_cons_succ, List.setIfInBounds_toArray, List.set_cons_zero, List.set_cons_succ]
            refine wpAnyH_take (i := 26) (v := (bdyP B2)) rfl (by kernel_rfl) (by kernel_rfl) (by kernel_rfl) (fun _ _ _ h => h) (Or.inl ⟨by rfl, fun X hS => ?_⟩) hHeld ?_
            · obtain ⟨hS1, hS2⟩ := hS
              obtain ⟨p0, p1, p2, p3, p4⟩ := hS2.all
              obtain ⟨b0, _⟩ := hS1.dp.bv.all
              clear hS1 hS2
              go_simp
            try simp only [Act.put, List.getElem_toArray, List.getElem_cons_zero, List.getElem_cons_succ, List.setIfInBounds_toArray, List.set_cons_zero, List.set_cons_succ]
            refine wpAnyH_take (i := 27) (v := (.pointer (some ⟨B2, 0, none⟩))) rfl (by kernel_rfl) (by kernel_rfl) (by kernel_rfl) (fun _ _ _ h => h) (Or.inl ⟨by rfl, fun X hS => ?_⟩) hHeld ?_
            · obtain ⟨hS1, hS2⟩ := hS
              obtain ⟨p0, p1, p2, p3, p4⟩ := hS2.all
              obtain ⟨b0, _⟩ := hS1.dp.bv.all
              clear hS1 hS2
              go_simp
            try simp only [Act.put, List.getElem_toArray, List.getElem_cons_zero, List.getElem_cons_succ, List.setIfInBounds_toArray, List.set_cons_zero, List.set_cons_succ]
            refine wpAnyH_take (i := 28) (v := (.pointer (some ⟨A2, 0, none⟩))) rfl (by kernel_rfl) (by kernel_rfl) (by kernel_rfl) (fun _ _ _ h => h) (Or.inl ⟨by rfl, fun X hS => ?_⟩) hHeld ?_
            · obtain ⟨hS1, hS2⟩ := hS
              obtain ⟨p0, p1, p2, p3, p4⟩ := hS2.all
              obtain ⟨b0, _⟩ := hS1.dp.bv.all
              clear hS1 hS2
              go_simp
            try simp only [Act.put, List.getElem_toArray, List.getElem_cons_zero, List.getElem_cons_succ, List.setIfInBounds_toArray, List.set_cons_zero, List.set_cons_succ]
            refine wpAnyH_take (i := 30) (v := (.pointer (some ⟨P, 0, none⟩))) rfl (by kernel_rfl) (by kernel_rfl) (by kernel_rfl) (fun _ _ _ h => h) (Or.inl ⟨by rfl, fun X hS => ?_⟩) hHeld ?_
            · obtain ⟨hS1, hS2⟩ := hS
              obtain ⟨p0, p1, p2, p3, p4⟩ := hS2.all
              obtain ⟨b0, _⟩ := hS1.dp.bv.all
              clear hS1 hS2
              go_simp
            try simp only [Act.put, List.getElem_toArray, List.getElem_cons_zero, List.getElem_cons_succ, List.setIfInBounds_toArray, List.set_cons_zero, List.set_cons_succ]
            refine wpAnyH_take (i := 31) (v := (.int .i64 1)) rfl (by kernel_rfl) (by kernel_rfl) (by kernel_rfl) (fun _ _ _ h => h) (Or.inl ⟨by rfl, fun X hS => ?_⟩) hHeld ?_
            · obtain ⟨hS1, hS2⟩ := hS
              obtain ⟨p0, p1, p2, p3, p4⟩ := hS2.all
              obtain ⟨b0, _⟩ := hS1.dp.bv.all
              clear hS1 hS2
              go_simp
            try simp only [Act.put, List.getElem_toArray, List.getElem_cons_zero, List.getElem_cons_succ, List.setIfInBounds_toArray, List.set_cons_zero, List.set_cons_succ]
            refine wpAnyH_take (i := 32) (v := (.pointer (some ⟨P, 2, none⟩))) rfl (by kernel_rfl) (by kernel_rfl) (by kernel_rfl) (fun _ _ _ h => h) (Or.inl ⟨by rfl, fun X hS => ?_⟩) hHeld ?_
            · obtain ⟨hS1, hS2⟩ := hS
              obtain ⟨p0, p1, p2, p3, p4⟩ := hS2.all
              obtain ⟨b0, _⟩ := hS1.dp.bv.all
              clear hS1 hS2
              go_simp
            try simp only [Act.put, List.getElem_toArray, List.getElem_cons_zero, List.getElem_cons_succ, List.setIfInBounds_toArray, List.set_cons_zero, List.set_cons_succ]
            refine wpAnyH_take (i := 33) (v := (.int .i64 (g1 : Int))) rfl (by kernel_rfl) (by kernel_rfl) (by kernel_rfl) (fun _ _ _ h => h) (Or.inl ⟨by rfl, fun X hS => ?_⟩) hHeld ?_
            · obtain ⟨hS1, hS2⟩ := hS
              obtain ⟨p0, p1, p2, p3, p4⟩ := hS2.all
              obtain ⟨b0, _⟩ := hS1.dp.bv.all
              clear hS1 hS2
              go_simp
            try simp only [Act.put, List.getElem_toArray, List.getElem_cons_zero, List.getElem_cons_succ, List.setIfInBounds_toArray, List.set_cons_zero, List.set_cons_succ]
            refine wpAnyH_take (i := 34) (v := (.int .i64 (1 + (g1 : Int)))) rfl (by kernel_rfl) (by kernel_rfl) (by kernel_rfl) (fun _ _ _ h => h) (Or.inl ⟨by rfl, fun X hS => ?_⟩) hHeld ?_
            · obtain ⟨hS1, hS2⟩ := hS
              obtain ⟨p0, p1, p2, p3, p4⟩ := hS2.all
              obtain ⟨b0, _⟩ := hS1.dp.bv.all
              clear hS1 hS2
              have hwg := HWG.out
              go_simp
            try simp only [Act.put, List.getElem_toArray, List.getElem_cons_zero, List.getElem_cons_succ, List.setIfInBounds_toArray, List.set_cons_zero, List.set_cons_succ]
            refine wpAnyH_ready (rs := [29]) (by kernel_rfl) (by simp) (AllReadyH.cons rfl (fun K1 hK1 => ?_) AllReadyH.nil)
            go_simp
            have HH := Lib.hid hHeld
            clear hHeld
            refine (bcommitted HH.out.1.dp.bv HH.out.1.dp.bu).mono ?_
            rintro e x6 ⟨rfl, hb⟩
            have hn := And.intro (HH.out.1.below hb) (HH.out.2.below hb)
            clear hb HH
            refine hK1.out _ _ hn (fun hHeld => ?_)
            clear hK1
            try simp only [Act.put, List.getElem_toArray, List.getElem_cons_zero, List.getElem_cons_succ, List.setIfInBounds_toArray, List.set_cons_zero, List.set_cons_succ]
            refine wpAnyH_take (i := 35) (v := (.bool false)) rfl (by kernel_rfl) (by kernel_rfl) (by kernel_rfl) (fun _ _ _ h => h) (Or.inl ⟨by rfl, fun X hS => ?_⟩) hHeld ?_
            · obtain ⟨hS1, hS2⟩ := hS
              obtain ⟨p0, p1, p2, p3, p4⟩ := hS2.all
              obtain ⟨b0, _⟩ := hS1.dp.bv.all
              clear hS1 hS2
              go_simp
            try simp only [Act.put, List.getElem_toArray, List.getElem_cons_zero, List.getElem_cons_succ, List.setIfInBounds_toArray, List.set_cons_zero, List.set_cons_succ]
            refine wpAnyH_take (i := 36) (v := (.bool false)) rfl (by kernel_rfl) (by kernel_rfl) (by kernel_rfl) (fun _ _ _ h => h) (Or.inl ⟨by rfl, fun X hS => ?_⟩) hHeld ?_
            · obtain ⟨hS1, hS2⟩ := hS
              obtain ⟨p0, p1, p2, p3, p4⟩ := hS2.all
              obtain ⟨b0, _⟩ := hS1.dp.bv.all
              clear hS1 hS2
              go_simp
            try simp only [Act.put, List.getElem_toArray, List.getElem_cons_zero, List.getElem_cons_succ, List.setIfInBounds_toArray, List.set_cons_zero, List.set_cons_succ]
            refine wpAnyH_done (by kernel_rfl) ?_ _
            have HF := Lib.hid hHeld
            clear hHeld
            obtain ⟨o3, q3, g3, r3, v3, hk3⟩ := HF.out.1.bq
            obtain ⟨e0, e1, e2, e3, e4⟩ := hk3.all
            obtain ⟨f0, f1, f2, f3, f4⟩ := hk3.free
            obtain ⟨p0', p1', p2', p3', p4'⟩ := HF.out.2.all
            clear hk3
            have hst := HF.out.1.store
            rw [HM1.out, HR1.out] at hst
            have HST2 := Lib.hid hst
            clear hst
            go_upto_region 28 with fail
            change Code.wp _ _ _ _ (set5 x6 Q (.int .i64 1) (.int .i64 (n : Int)) (.int .i64 (g1 : Int)) (.int .i64 r1) (.slice u1 m1 tc1))
            obtain ⟨z, hz⟩ : ∃ z, set5 x6 Q (.int .i64 1) (.int .i64 (n : Int)) (.int .i64 (g1 : Int)) (.int .i64 r1) (.slice u1 m1 tc1) = z := ⟨_, rfl⟩
            rw [hz] at HST2 ⊢
            clear hz e0 e1 e2 e3 e4 f0 f1 f2 f3 f4 p0' p1' p2' p3' p4' HF
            go_wp2_with fail
            go_roundw
            case rel => exact ⟨i + 1, A2, B2, g1, R1, s1, u1, tc1, by omega, by go_num, rfl, HST2.out⟩
            case measure => simp [intOf]; omega
          · have HP := Lib.hid hpb
            clear hpb
            have HC := Lib.hid hca
            have HDO := Lib.hid (do_any (tc := tc0) d k nn HK.out.1 HK.out.2.1 HK.out.2.2 HP.out.dp)
            obtain ⟨m0, hm0⟩ : ∃ m, (tkT R0 g0).length = m := ⟨_, rfl⟩
            obtain ⟨r0, hr0⟩ : ∃ r, rfI s0 = r := ⟨_, rfl⟩
            have hbq := HP.out.bq
            rw [hm0, hr0] at HDO hbq
            obtain ⟨q0, q1, q2, q3, q4⟩ := hbq.all
            obtain ⟨c0, c1, c2⟩ := HC.out.all
            clear hbq hca hm0 hr0
            go_wp2_with fail
            refine HDO.out.mono ?_
            rintro e x1 ⟨g1, R1, s1, u1, tc1, rfl, hdp, hg⟩
            clear q0 q1 q2 q3 q4 c0 c1 c2 HDO HC
            have hpn := PB.act (tc' := tc1) HP.out hdp hg
            obtain ⟨m1, hm1⟩ : ∃ m, (tkT R1 g1).length = m := ⟨_, rfl⟩
            obtain ⟨r1, hr1⟩ : ∃ r, rfI s1 = r := ⟨_, rfl⟩
            have HM1 := Lib.hid hm1; have HR1 := Lib.hid hr1
            have HZ := Lib.hid (hdp.bu.sz hdp.bv.2.1)
            have hbp := hpn.bp
            rw [hm1, hr1] at hpn hbp
            rw [hm1, hr1]
            clear hm1 hr1 hdp hg HP
            go_upto_region 25 with fail
            change Code.wp _ _ _ _ (x1.alloc (.cells (bqA 1 (n : Int) (g1 : Int) r1 (.slice u1 m1 tc1)) 33))
            obtain ⟨y2, hy⟩ : ∃ y, x1.alloc (.cells (bqA 1 (n : Int) (g1 : Int) r1 (.slice u1 m1 tc1)) 33) = y := ⟨_, rfl⟩
            obtain ⟨P, hP⟩ : ∃ P, x1.heap.size = P := ⟨_, rfl⟩
            rw [hy, hP] at hpn hbp
            rw [hy, hP]
            clear hy hP
            have hs0 := And.intro (hpn.below (Below.refl y2.heap.size y2).drew) (hbp.below (Below.refl y2.heap.size y2).drew)
            clear hpn hbp
            have HWG : Hid (IntKind.i64.wrap (1 + (g1 : Int)) = 1 + (g1 : Int)) := Lib.hid (by have := HZ.out; rw [IntKind.wrap_i64]; omega)
            refine wp_region_held_drew (S := fun X : World => PN Q P n A0 B0 g1 R1 s1 u1 tc1 w X ∧ BqAt P 1 (n : Int) (g1 : Int) r1 (.slice u1 m1 tc1) X) (by kernel_rfl) hs0 (fun hHeld => ?_)
            clear hs0
            generalize y2.drew = y3 at *
            refine wpAnyH_take (i := 0) (v := (.bool true)) rfl (by kernel_rfl) (by kernel_rfl) (by kernel_rfl) (fun _ _ _ h => h) (Or.inl ⟨by rfl, fun X hS => ?_⟩) hHeld ?_
            · obtain ⟨hS1, hS2⟩ := hS
              obtain ⟨p0, p1, p2, p3, p4⟩ := hS2.all
              obtain ⟨b0, _⟩ := hS1.dp.bv.all
              clear hS1 hS2
              go_simp
            try simp only [Act.put, List.getElem_toArray, List.getElem_cons_zero, List.getElem_cons_succ, List.setIfInBounds_toArray, List.set_cons_zero, List.set_cons_succ]
            refine wpAnyH_take (i := 1) (v := (.bool false)) rfl (by kernel_rfl) (by kernel_rfl) (by kernel_rfl) (fun _ _ _ h => h) (Or.inl ⟨by rfl, fun X hS => ?_⟩) hHeld ?_
            · obtain ⟨hS1, hS2⟩ := hS
              obtain ⟨p0, p1, p2, p3, p4⟩ := hS2.all
              obtain ⟨b0, _⟩ := hS1.dp.bv.all
              clear hS1 hS2
              go_simp
            try simp only [Act.put, List.getElem_toArray, List.getElem_cons_zero, List.getElem_cons_succ, List.setIfInBounds_toArray, List.set_cons_zero, List.set_cons_succ]
            refine wpAnyH_take (i := 2) (v := (.bool false)) rfl (by kernel_rfl) (by kernel_rfl) (by kernel_rfl) (fun _ _ _ h => h) (Or.inl ⟨by rfl, fun X hS => ?_⟩) hHeld ?_
            · obtain ⟨hS1, hS2⟩ := hS
              obtain ⟨p0, p1, p2, p3, p4⟩ := hS2.all
              obtain ⟨b0, _⟩ := hS1.dp.bv.all
              clear hS1 hS2
              go_simp
            try simp only [Act.put, List.getElem_toArray, List.getElem_cons_zero, List.getElem_cons_succ, List.setIfInBounds_toArray, List.set_cons_zero, List.set_cons_succ]
            refine wpAnyH_take (i := 3) (v := (bdyP B0)) rfl (by kernel_rfl) (by kernel_rfl) (by kernel_rfl) (fun _ _ _ h => h) (Or.inl ⟨by rfl, fun X hS => ?_⟩) hHeld ?_
            · obtain ⟨hS1, hS2⟩ := hS
              obtain ⟨p0, p1, p2, p3, p4⟩ := hS2.all
              obtain ⟨b0, _⟩ := hS1.dp.bv.all
              clear hS1 hS2
              go_simp
            try simp only [Act.put, List.getElem_toArray, List.getElem_cons_zero, List.getElem_cons_succ, List.setIfInBounds_toArray, List.set_cons_zero, List.set_cons_succ]
            refine wpAnyH_take (i := 5) (v := (.pointer (some ⟨P, 2, none⟩))) rfl (by kernel_rfl) (by kernel_rfl) (by kernel_rfl) (fun _ _ _ h => h) (Or.inl ⟨by rfl, fun X hS => ?_⟩) hHeld ?_
            · obtain ⟨hS1, hS2⟩ := hS
              obtain ⟨p0, p1, p2, p3, p4⟩ := hS2.all
              obtain ⟨b0, _⟩ := hS1.dp.bv.all
              clear hS1 hS2
              go_simp
            try simp only [Act.put, List.getElem_toArray, List.getElem_cons_zero, List.getElem_cons_succ, List.setIfInBounds_toArray, List.set_cons_zero, List.set_cons_succ]
            refine wpAnyH_take (i := 6) (v := (.int .i64 (g1 : Int))) rfl (by kernel_rfl) (by kernel_rfl) (by kernel_rfl) (fun _ _ _ h => h) (Or.inl ⟨by rfl, fun X hS => ?_⟩) hHeld ?_
            · obtain ⟨hS1, hS2⟩ := hS
              obtain ⟨p0, p1, p2, p3, p4⟩ := hS2.all
              obtain ⟨b0, _⟩ := hS1.dp.bv.all
              clear hS1 hS2
              go_simp
            try simp only [Act.put, List.getElem_toArray, List.getElem_cons_zero, List.getElem_cons_succ, List.setIfInBounds_toArray, List.set_cons_zero, List.set_cons_succ]
            refine wpAnyH_ready (rs := [4]) (by kernel_rfl) (by simp) (AllReadyH.cons rfl (fun K1 hK1 => ?_) AllReadyH.nil)
            go_simp
            have HH := Lib.hid hHeld
            clear hHeld
            refine (bgrown HH.out.1.dp.bv g1 (by have := HZ.out; omega) HH.out.1.dp.bu.front HH.out.1.dp.bu.gr).mono ?_
            rintro e x1 ⟨rfl, hb⟩
            have hn := And.intro (HH.out.1.below hb) (HH.out.2.below hb)
            clear hb HH
            refine hK1.out _ _ hn (fun hHeld => ?_)
            clear hK1
            try simp only [Act.put, List.getElem_toArray, List.getElem_cons_zero, List.getElem_cons_succ, List.setIfInBounds_toArray, List.set_cons_zero, List.set_cons_succ]
            refine wpAnyH_take (i := 7) (v := (.bool false)) rfl (by kernel_rfl) (by kernel_rfl) (by kernel_rfl) (fun _ _ _ h => h) (Or.inl ⟨by rfl, fun X hS => ?_⟩) hHeld ?_
            · obtain ⟨hS1, hS2⟩ := hS
              obtain ⟨p0, p1, p2, p3, p4⟩ := hS2.all
              obtain ⟨b0, _⟩ := hS1.dp.bv.all
              clear hS1 hS2
              go_simp
            try simp only [Act.put, List.getElem_toArray, List.getElem_cons_zero, List.getElem_cons_succ, List.setIfInBounds_toArray, List.set_cons_zero, List.set_cons_succ]
            refine wpAnyH_take (i := 8) (v := (.bool false)) rfl (by kernel_rfl) (by kernel_rfl) (by kernel_rfl) (fun _ _ _ h => h) (Or.inl ⟨by rfl, fun X hS => ?_⟩) hHeld ?_
            · obtain ⟨hS1, hS2⟩ := hS
              obtain ⟨p0, p1, p2, p3, p4⟩ := hS2.all
              obtain ⟨b0, _⟩ := hS1.dp.bv.all
              clear hS1 hS2
              go_simp
            try simp only [Act.put, List.getElem_toArray, List.getElem_cons_zero, List.getElem_cons_succ, List.setIfInBounds_toArray, List.set_cons_zero, List.set_cons_succ]
            refine wpAnyH_take (i := 9) (v := (.bool false)) rfl (by kernel_rfl) (by kernel_rfl) (by kernel_rfl) (fun _ _ _ h => h) (Or.inl ⟨by rfl, fun X hS => ?_⟩) hHeld ?_
            · obtain ⟨hS1, hS2⟩ := hS
              obtain ⟨p0, p1, p2, p3, p4⟩ := hS2.all
              obtain ⟨b0, _⟩ := hS1.dp.bv.all
              clear hS1 hS2
              go_simp
            try simp only [Act.put, List.getElem_toArray, List.getElem_cons_zero, List.getElem_cons_succ, List.setIfInBounds_toArray, List.set_cons_zero, List.set_cons_succ]
            refine wpAnyH_take (i := 10) (v := (bdyP B0)) rfl (by kernel_rfl) (by kernel_rfl) (by kernel_rfl) (fun _ _ _ h => h) (Or.inl ⟨by rfl, fun X hS => ?_⟩) hHeld ?_
            · obtain ⟨hS1, hS2⟩ := hS
              obtain ⟨p0, p1, p2, p3, p4⟩ := hS2.all
              obtain ⟨b0, _⟩ := hS1.dp.bv.all
              clear hS1 hS2
              go_simp
            try simp only [Act.put, List.getElem_toArray, List.getElem_cons_zero, List.getElem_cons_succ, List.setIfInBounds_toArray, List.set_cons_zero, List.set_cons_succ]
            refine wpAnyH_take (i := 12) (v := (.pointer (some ⟨P, 0, none⟩))) rfl (by kernel_rfl) (by kernel_rfl) (by kernel_rfl) (fun _ _ _ h => h) (Or.inl ⟨by rfl, fun X hS => ?_⟩) hHeld ?_
            · obtain ⟨hS1, hS2⟩ := hS
              obtain ⟨p0, p1, p2, p3, p4⟩ := hS2.all
              obtain ⟨b0, _⟩ := hS1.dp.bv.all
              clear hS1 hS2
              go_simp
            try simp only [Act.put, List.getElem_toArray, List.getElem_cons_zero, List.getElem_cons_succ, List.setIfInBounds_toArray, List.set_cons_zero, List.set_cons_succ]
            refine wpAnyH_take (i := 13) (v := (.int .i64 1)) rfl (by kernel_rfl) (by kernel_rfl) (by kernel_rfl) (fun _ _ _ h => h) (Or.inl ⟨by rfl, fun X hS => ?_⟩) hHeld ?_
            · obtain ⟨hS1, hS2⟩ := hS
              obtain ⟨p0, p1, p2, p3, p4⟩ := hS2.all
              obtain ⟨b0, _⟩ := hS1.dp.bv.all
              clear hS1 hS2
              go_simp
            try simp only [Act.put, List.getElem_toArray, List.getElem_cons_zero, List.getElem_cons_succ, List.setIfInBounds_toArray, List.set_cons_zero, List.set_cons_succ]
            refine wpAnyH_ready (rs := [11]) (by kernel_rfl) (by simp) (AllReadyH.cons rfl (fun K1 hK1 => ?_) AllReadyH.nil)
            go_simp
            have HH := Lib.hid hHeld
            clear hHeld
            refine (bbase HH.out.1.dp.bv (by have := HZ.out; omega)).mono ?_
            rintro e x2 ⟨rfl, hb⟩
            have hn := And.intro (HH.out.1.below hb) (HH.out.2.below hb)
            clear hb HH
            refine hK1.out _ _ hn (fun hHeld => ?_)
            clear hK1
            try simp only [Act.put, List.getElem_toArray, List.getElem_cons_zero, List.getElem_cons_succ, List.setIfInBounds_toArray, List.set_cons_zero, List.set_cons_succ]
            refine wpAnyH_take (i := 14) (v := (.bool false)) rfl (by kernel_rfl) (by kernel_rfl) (by kernel_rfl) (fun _ _ _ h => h) (Or.inl ⟨by rfl, fun X hS => ?_⟩) hHeld ?_
            · obtain ⟨hS1, hS2⟩ := hS
              obtain ⟨p0, p1, p2, p3, p4⟩ := hS2.all
              obtain ⟨b0, _⟩ := hS1.dp.bv.all
              clear hS1 hS2
              go_simp
            try simp only [Act.put, List.getElem_toArray, List.getElem_cons_zero, List.getElem_cons_succ, List.setIfInBounds_toArray, List.set_cons_zero, List.set_cons_succ]
            refine wpAnyH_take (i := 15) (v := (.bool false)) rfl (by kernel_rfl) (by kernel_rfl) (by kernel_rfl) (fun _ _ _ h => h) (Or.inl ⟨by rfl, fun X hS => ?_⟩) hHeld ?_
            · obtain ⟨hS1, hS2⟩ := hS
              obtain ⟨p0, p1, p2, p3, p4⟩ := hS2.all
              obtain ⟨b0, _⟩ := hS1.dp.bv.all
              clear hS1 hS2
              go_simp
            try simp only [Act.put, List.getElem_toArray, List.getElem_cons_zero, List.getElem_cons_succ, List.setIfInBounds_toArray, List.set_cons_zero, List.set_cons_succ]
            refine wpAnyH_take (i := 16) (v := (.bool false)) rfl (by kernel_rfl) (by kernel_rfl) (by kernel_rfl) (fun _ _ _ h => h) (Or.inl ⟨by rfl, fun X hS => ?_⟩) hHeld ?_
            · obtain ⟨hS1, hS2⟩ := hS
              obtain ⟨p0, p1, p2, p3, p4⟩ := hS2.all
              obtain ⟨b0, _⟩ := hS1.dp.bv.all
              clear hS1 hS2
              go_simp
            try simp only [Act.put, List.getElem_toArray, List.getElem_cons_zero, List.getElem_cons_succ, List.setIfInBounds_toArray, List.set_cons_zero, List.set_cons_succ]
            refine wpAnyH_take (i := 17) (v := (bdyP B0)) rfl (by kernel_rfl) (by kernel_rfl) (by kernel_rfl) (fun _ _ _ h => h) (Or.inl ⟨by rfl, fun X hS => ?_⟩) hHeld ?_
            · obtain ⟨hS1, hS2⟩ := hS
              obtain ⟨p0, p1, p2, p3, p4⟩ := hS2.all
              obtain ⟨b0, _⟩ := hS1.dp.bv.all
              clear hS1 hS2
              go_simp
            try simp only [Act.put, List.getElem_toArray, List.getElem_cons_zero, List.getElem_cons_succ, List.setIfInBounds_toArray, List.set_cons_zero, List.set_cons_succ]
            refine wpAnyH_take (i := 19) (v := (bqV 1 (n : Int) (g1 : Int) r1 (.slice u1 m1 tc1))) rfl (by kernel_rfl) (by kernel_rfl) (by kernel_rfl) (fun _ _ _ h => h) (Or.inl ⟨by rfl, fun X hS => ?_⟩) hHeld ?_
            · obtain ⟨hS1, hS2⟩ := hS
              obtain ⟨p0, p1, p2, p3, p4⟩ := hS2.all
              obtain ⟨b0, _⟩ := hS1.dp.bv.all
              clear hS1 hS2
              go_simp
            try simp only [Act.put, List.getElem_toArray, List.getElem_cons_zero, List.getElem_cons_succ, List.setIfInBounds_toArray, List.set_cons_zero, List.set_cons_succ]
            refine wpAnyH_ready (rs := [18]) (by kernel_rfl) (by simp) (AllReadyH.cons rfl (fun K1 hK1 => ?_) AllReadyH.nil)
            go_simp
            have HH := Lib.hid hHeld
            clear hHeld
            refine (bof_any HH.out.1.dp.bv HH.out.1.dp.bu).mono ?_
            rintro e x3 ⟨ua, ca, rfl, hra, _, hb⟩
            have HRA := Lib.hid hra
            clear hra
            have hn := And.intro (HH.out.1.below hb) (HH.out.2.below hb)
            clear hb HH
            refine hK1.out _ _ hn (fun hHeld => ?_)
            clear hK1
            try simp only [Act.put, List.getElem_toArray, List.getElem_cons_zero, List.getElem_cons_succ, List.setIfInBounds_toArray, List.set_cons_zero, List.set_cons_succ]
            refine wpAnyH_ready (rs := [20]) (by kernel_rfl) (by simp) (AllReadyH.cons rfl (fun K1 hK1 => ?_) AllReadyH.nil)
            go_simp
            have HH := Lib.hid hHeld
            clear hHeld
            have hrr := bruns_any 1 (n : Int) r1 g1 (by have := HZ.out; omega) u1 tc1 R1 HH.out.1.dp.bu.ti x3 HH.out.1.dp.rn
            rw [HM1.out] at hrr
            refine hrr.mono ?_
            rintro e x4 ⟨ub, cb, rfl, hrb, _, hb⟩
            have HRB := Lib.hid hrb
            have HRA4 := Lib.hid (HRA.out.below hb)
            clear hrb HRA hrr
            have hn := And.intro (HH.out.1.below hb) (HH.out.2.below hb)
            clear hb HH
            refine hK1.out _ _ hn (fun hHeld => ?_)
            clear hK1
            try simp only [Act.put, List.getElem_toArray, List.getElem_cons_zero, List.getElem_cons_succ, List.setIfInBounds_toArray, List.set_cons_zero, List.set_cons_succ]
            refine wpAnyH_ready (rs := [21]) (by kernel_rfl) (by simp) (AllReadyH.cons rfl (fun K1 hK1 => ?_) AllReadyH.nil)
            go_simp
            have HH := Lib.hid hHeld
            clear hHeld
            refine (requal_any ua ub ca cb (runL R1 g1) (by have := runL_len R1 g1; have := HZ.out; omega) x4 HRA4.out HRB.out).mono ?_
            rintro e x5 ⟨rfl, hb⟩
            clear HRA4 HRB
            have hn := And.intro (HH.out.1.below hb) (HH.out.2.below hb)
            clear hb HH
            refine hK1.out _ _ hn (fun hHeld => ?_)
            clear hK1
            try simp only [Act.put, List.getElem_toArray, List.getElem_cons_zero, List.getElem_cons_succ, List.setIfInBounds_toArray, List.set_cons_zero, List.set_cons_succ]
            refine wpAnyH_take (i := 22) (v := (.bool false)) rfl (by kernel_rfl) (by kernel_rfl) (by kernel_rfl) (fun _ _ _ h => h) (Or.inl ⟨by rfl, fun X hS => ?_⟩) hHeld ?_
            · obtain ⟨hS1, hS2⟩ := hS
              obtain ⟨p0, p1, p2, p3, p4⟩ := hS2.all
              obtain ⟨b0, _⟩ := hS1.dp.bv.all
              clear hS1 hS2
              go_simp
            try simp only [Act.put, List.getElem_toArray, List.getElem_cons_zero, List.getElem_cons_succ, List.setIfInBounds_toArray, List.set_cons_zero, List.set_cons_succ]
            refine wpAnyH_take (i := 23) (v := (.bool false)) rfl (by kernel_rfl) (by kernel_rfl) (by kernel_rfl) (fun _ _ _ h => h) (Or.inl ⟨by rfl, fun X hS => ?_⟩) hHeld ?_
            · obtain ⟨hS1, hS2⟩ := hS
              obtain ⟨p0, p1, p2, p3, p4⟩ := hS2.all
              obtain ⟨b0, _⟩ := hS1.dp.bv.all
              clear hS1 hS2
              go_simp
            try simp only [Act.put, List.getElem_toArray, List.getElem_cons_zero, List.getElem_cons_succ, List.setIfInBounds_toArray, List.set_cons_zero, List.set_cons_succ]
            refine wpAnyH_take (i := 24) (v := (.bool false)) rfl (by kernel_rfl) (by kernel_rfl) (by kernel_rfl) (fun _ _ _ h => h) (Or.inl ⟨by rfl, fun X hS => ?_⟩) hHeld ?_
            · obtain ⟨hS1, hS2⟩ := hS
              obtain ⟨p0, p1, p2, p3, p4⟩ := hS2.all
              obtain ⟨b0, _⟩ := hS1.dp.bv.all
              clear hS1 hS2
              go_simp
            try simp only [Act.put, List.getElem_toArray, List.getElem_cons_zero, List.getElem_cons_succ, List.setIfInBounds_toArray, List.set_cons_zero, List.set_cons_succ]
            refine wpAnyH_take (i := 25) (v := (bdyP B0)) rfl (by kernel_rfl) (by kernel_rfl) (by kernel_rfl) (fun _ _ _ h => h) (Or.inl ⟨by rfl, fun X hS => ?_⟩) hHeld ?_
            · obtain ⟨hS1, hS2⟩ := hS
              obtain ⟨p0, p1, p2, p3, p4⟩ := hS2.all
              obtain ⟨b0, _⟩ := hS1.dp.bv.all
              clear hS1 hS2
              go_simp
            try simp only [Act.put, List.getElem_toArray, List.getElem_cons_zero, List.getElem_cons_succ, List.setIfInBounds_toArray, List.set_cons_zero, List.set_cons_succ]
            refine wpAnyH_take (i := 26) (v := (bdyP B0)) rfl (by kernel_rfl) (by kernel_rfl) (by kernel_rfl) (fun _ _ _ h => h) (Or.inl ⟨by rfl, fun X hS => ?_⟩) hHeld ?_
            · obtain ⟨hS1, hS2⟩ := hS
              obtain ⟨p0, p1, p2, p3, p4⟩ := hS2.all
              obtain ⟨b0, _⟩ := hS1.dp.bv.all
              clear hS1 hS2
              go_simp
            try simp only [Act.put, List.getElem_toArray, List.getElem_cons_zero, List.getElem_cons_succ, List.setIfInBounds_toArray, List.set_cons_zero, List.set_cons_succ]
            refine wpAnyH_take (i := 27) (v := (.pointer (some ⟨B0, 0, none⟩))) rfl (by kernel_rfl) (by kernel_rfl) (by kernel_rfl) (fun _ _ _ h => h) (Or.inl ⟨by rfl, fun X hS => ?_⟩) hHeld ?_
            · obtain ⟨hS1, hS2⟩ := hS
              obtain ⟨p0, p1, p2, p3, p4⟩ := hS2.all
              obtain ⟨b0, _⟩ := hS1.dp.bv.all
              clear hS1 hS2
              go_simp
            try simp only [Act.put, List.getElem_toArray, List.getElem_cons_zero, List.getElem_cons_succ, List.setIfInBounds_toArray, List.set_cons_zero, List.set_cons_succ]
            refine wpAnyH_take (i := 28) (v := (.pointer (some ⟨A0, 0, none⟩))) rfl (by kernel_rfl) (by kernel_rfl) (by kernel_rfl) (fun _ _ _ h => h) (Or.inl ⟨by rfl, fun X hS => ?_⟩) hHeld ?_
            · obtain ⟨hS1, hS2⟩ := hS
              obtain ⟨p0, p1, p2, p3, p4⟩ := hS2.all
              obtain ⟨b0, _⟩ := hS1.dp.bv.all
              clear hS1 hS2
              go_simp
            try simp only [Act.put, List.getElem_toArray, List.getElem_cons_zero, List.getElem_cons_succ, List.setIfInBounds_toArray, List.set_cons_zero, List.set_cons_succ]
            refine wpAnyH_take (i := 30) (v := (.pointer (some ⟨P, 0, none⟩))) rfl (by kernel_rfl) (by kernel_rfl) (by kernel_rfl) (fun _ _ _ h => h) (Or.inl ⟨by rfl, fun X hS => ?_⟩) hHeld ?_
            · obtain ⟨hS1, hS2⟩ := hS
              obtain ⟨p0, p1, p2, p3, p4⟩ := hS2.all
              obtain ⟨b0, _⟩ := hS1.dp.bv.all
              clear hS1 hS2
              go_simp
            try simp only [Act.put, List.getElem_toArray, List.getElem_cons_zero, List.getElem_cons_succ, List.setIfInBounds_toArray, List.set_cons_zero, List.set_cons_succ]
            refine wpAnyH_take (i := 31) (v := (.int .i64 1)) rfl (by kernel_rfl) (by kernel_rfl) (by kernel_rfl) (fun _ _ _ h => h) (Or.inl ⟨by rfl, fun X hS => ?_⟩) hHeld ?_
            · obtain ⟨hS1, hS2⟩ := hS
              obtain ⟨p0, p1, p2, p3, p4⟩ := hS2.all
              obtain ⟨b0, _⟩ := hS1.dp.bv.all
              clear hS1 hS2
              go_simp
            try simp only [Act.put, List.getElem_toArray, List.getElem_cons_zero, List.getElem_cons_succ, List.setIfInBounds_toArray, List.set_cons_zero, List.set_cons_succ]
            refine wpAnyH_take (i := 32) (v := (.pointer (some ⟨P, 2, none⟩))) rfl (by kernel_rfl) (by kernel_rfl) (by kernel_rfl) (fun _ _ _ h => h) (Or.inl ⟨by rfl, fun X hS => ?_⟩) hHeld ?_
            · obtain ⟨hS1, hS2⟩ := hS
              obtain ⟨p0, p1, p2, p3, p4⟩ := hS2.all
              obtain ⟨b0, _⟩ := hS1.dp.bv.all
              clear hS1 hS2
              go_simp
            try simp only [Act.put, List.getElem_toArray, List.getElem_cons_zero, List.getElem_cons_succ, List.setIfInBounds_toArray, List.set_cons_zero, List.set_cons_succ]
            refine wpAnyH_take (i := 33) (v := (.int .i64 (g1 : Int))) rfl (by kernel_rfl) (by kernel_rfl) (by kernel_rfl) (fun _ _ _ h => h) (Or.inl ⟨by rfl, fun X hS => ?_⟩) hHeld ?_
            · obtain ⟨hS1, hS2⟩ := hS
              obtain ⟨p0, p1, p2, p3, p4⟩ := hS2.all
              obtain ⟨b0, _⟩ := hS1.dp.bv.all
              clear hS1 hS2
              go_simp
            try simp only [Act.put, List.getElem_toArray, List.getElem_cons_zero, List.getElem_cons_succ, List.setIfInBounds_toArray, List.set_cons_zero, List.set_cons_succ]
            refine wpAnyH_take (i := 34) (v := (.int .i64 (1 + (g1 : Int)))) rfl (by kernel_rfl) (by kernel_rfl) (by kernel_rfl) (fun _ _ _ h => h) (Or.inl ⟨by rfl, fun X hS => ?_⟩) hHeld ?_
            · obtain ⟨hS1, hS2⟩ := hS
              obtain ⟨p0, p1, p2, p3, p4⟩ := hS2.all
              obtain ⟨b0, _⟩ := hS1.dp.bv.all
              clear hS1 hS2
              have hwg := HWG.out
              go_simp
            try simp only [Act.put, List.getElem_toArray, List.getElem_cons_zero, List.getElem_cons_succ, List.setIfInBounds_toArray, List.set_cons_zero, List.set_cons_succ]
            refine wpAnyH_ready (rs := [29]) (by kernel_rfl) (by simp) (AllReadyH.cons rfl (fun K1 hK1 => ?_) AllReadyH.nil)
            go_simp
            have HH := Lib.hid hHeld
            clear hHeld
            refine (bcommitted HH.out.1.dp.bv HH.out.1.dp.bu).mono ?_
            rintro e x6 ⟨rfl, hb⟩
            have hn := And.intro (HH.out.1.below hb) (HH.out.2.below hb)
            clear hb HH
            refine hK1.out _ _ hn (fun hHeld => ?_)
            clear hK1
            try simp only [Act.put, List.getElem_toArray, List.getElem_cons_zero, List.getElem_cons_succ, List.setIfInBounds_toArray, List.set_cons_zero, List.set_cons_succ]
            refine wpAnyH_take (i := 35) (v := (.bool false)) rfl (by kernel_rfl) (by kernel_rfl) (by kernel_rfl) (fun _ _ _ h => h) (Or.inl ⟨by rfl, fun X hS => ?_⟩) hHeld ?_
            · obtain ⟨hS1, hS2⟩ := hS
              obtain ⟨p0, p1, p2, p3, p4⟩ := hS2.all
              obtain ⟨b0, _⟩ := hS1.dp.bv.all
              clear hS1 hS2
              go_simp
            try simp only [Act.put, List.getElem_toArray, List.getElem_cons_zero, List.getElem_cons_succ, List.setIfInBounds_toArray, List.set_cons_zero, List.set_cons_succ]
            refine wpAnyH_take (i := 36) (v := (.bool false)) rfl (by kernel_rfl) (by kernel_rfl) (by kernel_rfl) (fun _ _ _ h => h) (Or.inl ⟨by rfl, fun X hS => ?_⟩) hHeld ?_
            · obtain ⟨hS1, hS2⟩ := hS
              obtain ⟨p0, p1, p2, p3, p4⟩ := hS2.all
              obtain ⟨b0, _⟩ := hS1.dp.bv.all
              clear hS1 hS2
              go_simp
            try simp only [Act.put, List.getElem_toArray, List.getElem_cons_zero, List.getElem_cons_succ, List.setIfInBounds_toArray, List.set_cons_zero, List.set_cons_succ]
            refine wpAnyH_done (by kernel_rfl) ?_ _
            have HF := Lib.hid hHeld
            clear hHeld
            obtain ⟨o3, q3, g3, r3, v3, hk3⟩ := HF.out.1.bq
            obtain ⟨e0, e1, e2, e3, e4⟩ := hk3.all
            obtain ⟨f0, f1, f2, f3, f4⟩ := hk3.free
            obtain ⟨p0', p1', p2', p3', p4'⟩ := HF.out.2.all
            clear hk3
            have hst := HF.out.1.store
            rw [HM1.out, HR1.out] at hst
            have HST2 := Lib.hid hst
            clear hst
            go_upto_region 28 with fail
            change Code.wp _ _ _ _ (set5 x6 Q (.int .i64 1) (.int .i64 (n : Int)) (.int .i64 (g1 : Int)) (.int .i64 r1) (.slice u1 m1 tc1))
            obtain ⟨z, hz⟩ : ∃ z, set5 x6 Q (.int .i64 1) (.int .i64 (n : Int)) (.int .i64 (g1 : Int)) (.int .i64 r1) (.slice u1 m1 tc1) = z := ⟨_, rfl⟩
            rw [hz] at HST2 ⊢
            clear hz e0 e1 e2 e3 e4 f0 f1 f2 f3 f4 p0' p1' p2' p3' p4' HF
            go_wp2_with fail
            go_roundw
            case rel => exact ⟨i + 1, A0, B0, g1, R1, s1, u1, tc1, by omega, by go_num, rfl, HST2.out⟩
            case measure => simp [intOf]; omega
        · go_wp2_with fail
          go_ret
          exact ⟨rfl, HV.out.bs.bel⟩

  · have h1 : 0 ≤ rf := by omega
    go_wp2_with fail
    refine (on_refuse8 HX1.out rf hrf.2).mono ?_
    rintro e w2 ⟨rfl, ho, hg⟩
    have HO := Lib.hid (show ∃ s0 : ASt, On A s0 w2 ∧ Base A w w2 ∧ s0.L = N ∧ Fr0 s0 ∧ rfI s0 = (if -1 < rf then rf else -1) from ⟨_, ho, HBS1.out.went hg, rfl, ⟨rfl, rfl⟩, by rw [if_pos (by omega)]; unfold rfI; rw [if_pos rfl]; show ((rf.toNat : Nat) : Int) = rf; omega⟩)
    clear ho hg HX1 HBS1
    obtain ⟨s0, hx, hbs, hsl, hfr, hri⟩ := HO.out
    have HX := Lib.hid hx; have HBS := Lib.hid hbs; have HSL := Lib.hid hsl; have HFR := Lib.hid hfr; have HRI := Lib.hid hri
    have HN := Lib.hid (bnewP hx (by rw [hsl]; exact HN8.out) hfr)
    have HDN := Lib.hid fun X => bnew_any N HN8.out (rfI s0) (rfI_le hx) X
    obtain ⟨r, hr⟩ : ∃ r, rfI s0 = r := ⟨_, rfl⟩
    have HRR := Lib.hid hr
    rw [hr] at HDN
    have HMM : Hid (r = rf) := Lib.hid (by have := HRI.out; rw [if_pos (by omega)] at this; omega)
    clear hx hbs hsl hfr hri hr HO
    go_wp2_with fail
    refine HN.out.mono ?_
    rintro e w4 hnp
    rcases new_cases hnp HBS.out HSL.out HN8.out HFR.out with ⟨st, er, q1, rfl, q2, q3, q4, q5, q6⟩ | ⟨n, B, s1, q1, q2, rfl, q3, q4, q5, q6⟩
    · have HER := Lib.hid q1
      have HV := Lib.hid q2; have HA4 := Lib.hid q3; have HBS4 := Lib.hid q6
      have HOP := Lib.hid fun X (hX : On A st X) => bopen_no hX q4 q5
      clear q1 q2 q3 q4 q5 q6 hnp HN HX HBS
      rw [HRR.out] at HV
      rw [HMM.out] at HDN HV
      have hmm : ¬ (rf < -1) := by omega
      go_wp2_with fail
      refine (HDN.out _).mono ?_
      rintro e w5 ⟨rfl, hb⟩
      rw [HV.out]
      have HA5 := Lib.hid (HA4.out.below hb)
      have HBS5 := Lib.hid (HBS4.out.below HA4.out hb)
      clear hb HA4 HBS4
      have hq1 : ¬ (er = 0) := HER.out
      go_upto_region 11 with fail
      have hb := bel1 w5 (.cells (bqA 0 0 0 0 (.slice none 0 0)) 33)
      change Code.wp _ _ _ _ (w5.alloc (.cells (bqA 0 0 0 0 (.slice none 0 0)) 33))
      have HA6 := Lib.hid (HA5.out.below hb)
      have HBS6 := Lib.hid (HBS5.out.below HA5.out hb)
      obtain ⟨y, hy⟩ : ∃ y, w5.alloc (.cells (bqA 0 0 0 0 (.slice none 0 0)) 33) = y := ⟨_, rfl⟩
      rw [hy] at HA6 HBS6 ⊢
      clear hb hy HA5 HBS5
      go_wp2_with fail
      refine (HOP.out _ HA6.out).mono ?_
      rintro e w6 ⟨rfl, hb⟩
      have HBS7 := Lib.hid (HBS6.out.below HA6.out hb)
      clear hb HA6 HBS6
      go_wp2_with fail
      go_ret
      exact ⟨rfl, HBS7.out.bel⟩
    · have HV := Lib.hid q3; have HA4 := Lib.hid q4; have HBU4 := Lib.hid q5; have HBS4 := Lib.hid q6; have HQ1 := Lib.hid (And.intro q1 q2)
      clear q1 q2 q3 q4 q5 q6 hnp HN HX HBS
      rw [HRR.out] at HV
      rw [HMM.out] at HDN HV
      have hmm : ¬ (rf < -1) := by omega
      go_wp2_with fail
      refine (HDN.out _).mono ?_
      rintro e w5 ⟨rfl, hb⟩
      rw [HV.out]
      have HPB := Lib.hid (PB.start (HA4.out.below hb) HBU4.out (HBS4.out.below HA4.out.1 hb))
      clear hb HA4 HBS4 HBU4
      go_upto_region 11 with fail
      change Code.wp _ _ _ _ (w5.alloc (.cells (bqA 1 (n : Int) 0 (rfI s1) (.slice none 0 0)) 33))
      obtain ⟨y, hy⟩ : ∃ y, w5.alloc (.cells (bqA 1 (n : Int) 0 (rfI s1) (.slice none 0 0)) 33) = y := ⟨_, rfl⟩
      obtain ⟨Q, hQ⟩ : ∃ Q, w5.heap.size = Q := ⟨_, rfl⟩
      rw [hy, hQ] at HPB
      rw [hy, hQ]
      clear hy hQ HV HDN
      obtain ⟨len, hl⟩ : ∃ len, acts.length = len := ⟨_, rfl⟩
      have HL := Lib.hid hl
      rw [hl] at h60 ⊢
      clear hl hlen
      have HST : Hid (PlyL Q n len w (bdyP B) (.int .i64 0) y) := Lib.hid ⟨0, A, B, 0, _, _, _, _, Nat.zero_le _, rfl, rfl, HPB.out⟩
      clear HPB
      go_wp2_with fail
      go_loopw [11, 75] (fun s11 s75 wr => PlyL Q n len w s11 s75 wr) (fun _ s75 _ => len - (intOf s75).toNat)
      case atStart => exact HST.out
      case round =>
        clear HST
        obtain ⟨i, A0, B0, g0, R0, s0, u0, tc0, hi, rfl, rfl, hv⟩ := hrel
        have HV := Lib.hid hv
        clear hv
        by_cases hlt : i < len
        · obtain ⟨b, off, rfl, hbl, d, k, nn, hc0, hc1, hc2, hkk⟩ : ∃ b off, p0 = some ⟨b, off, none⟩ ∧ b < w.heap.size ∧ ∃ d k nn, w.cell? ⟨b, off + i * 3, none⟩ = some (.int .u8 d) ∧ w.cell? ⟨b, off + i * 3 + 1, none⟩ = some (.int .i64 k) ∧ w.cell? ⟨b, off + i * 3 + 2, none⟩ = some (.int .i64 nn) ∧ (0 ≤ d ∧ d ≤ 255) ∧ (-9223372036854775808 ≤ k ∧ k ≤ 9223372036854775807) ∧ (-9223372036854775808 ≤ nn ∧ nn ≤ 9223372036854775807) := by
            rcases HACT.out with he | ⟨b, off, e, hbl, hc⟩
            · have := HL.out; rw [he] at this; simp at this; omega
            · obtain ⟨⟨x0, x1, x2⟩, hok⟩ := hc i (by rw [HL.out]; exact hlt)
              exact ⟨b, off, e, hbl, _, _, _, x0, x1, x2, ⟨hok.d0, hok.d1⟩, ⟨hok.k0, hok.k1⟩, ⟨hok.n0, hok.n1⟩⟩
          have HK := Lib.hid hkk
          have kk : ∀ j, wr.cell? ⟨b, j, none⟩ = w.cell? ⟨b, j, none⟩ := fun j => World.cell?_of_block (HV.out.bs.bel.block _ hbl)
          have c0' := (kk _).trans hc0
          have c1' := (kk _).trans hc1
          have c2' := (kk _).trans hc2
          clear kk hc0 hc1 hc2 hkk
          go_upto_region 19 with fail
          change Code.wp _ _ _ _ (wr.alloc (.cells (acA d k nn) 37))
          have hpb := HV.out.below (bel1 wr (.cells (acA d k nn) 37))
          have hca : AcAt wr.heap.size d k nn (wr.alloc (.cells (acA d k nn) 37)) := heap_new _ _
          obtain ⟨y1, hy⟩ : ∃ y, wr.alloc (.cells (acA d k nn) 37) = y := ⟨_, rfl⟩
          obtain ⟨E, hE⟩ : ∃ E, wr.heap.size = E := ⟨_, rfl⟩
          rw [hE, hy] at hca
          rw [hy] at hpb
          rw [hE, hy]
          clear hE hy c0' c1' c2' HV
          have QP : IntKind.i64.wrap again = again := IntWalk.i64_in _ (by omega)
          have QP2 : wrap64 again = again := IntWalk.wrap64_in _ ⟨by omega, by omega⟩
          by_cases hia : (i : Int) = again
          · have HP0 := Lib.hid hpb
            have HC0 := Lib.hid hca
            obtain ⟨b0, _⟩ := hpb.dp.bv.all
            clear hpb hca
            go_wp2_with fail
            refine (on_aclone8 HP0.out.dp.bv.1).mono ?_
            rintro e x7 ⟨A2, rfl, hx, hb, -, hown, hedg⟩
            have HX7 := Lib.hid (And.intro hx (And.intro hb (And.intro hown hedg)))
            clear hx hb hown hedg b0
            go_wp2_with fail
            refine (bopen_yes HX7.out.1 HP0.out.dp.bu).mono ?_
            rintro e x8 ⟨B2, rfl, hB, -, hb⟩
            have HP := Lib.hid (HP0.out.clone HX7.out.1 HX7.out.2.1 HX7.out.2.2.1 HX7.out.2.2.2 hb hB)
            have hca : AcAt E d k nn x8 := (HC0.out.below HX7.out.2.1).below hb
            clear hB hb HX7 HP0 HC0
            have HC := Lib.hid hca
            have HDO := Lib.hid (do_any (tc := tc0) d k nn HK.out.1 HK.out.2.1 HK.out.2.2 HP.out.dp)
            obtain ⟨m0, hm0⟩ : ∃ m, (tkT R0 g0).length = m := ⟨_, rfl⟩
            obtain ⟨r0, hr0⟩ : ∃ r, rfI s0 = r := ⟨_, rfl⟩
            have hbq := HP.out.bq
            rw [hm0, hr0] at HDO hbq
            obtain ⟨q0, q1, q2, q3, q4⟩ := hbq.all
            obtain ⟨c0, c1, c2⟩ := HC.out.all
            clear hbq hca hm0 hr0
            go_wp2_with fail
            refine HDO.out.mono ?_
            rintro e x1 ⟨g1, R1, s1, u1, tc1, rfl, hdp, hg⟩
            clear q0 q1 q2 q3 q4 c0 c1 c2 HDO HC
            have hpn := PB.act (tc' := tc1) HP.out hdp hg
            obtain ⟨m1, hm1⟩ : ∃ m, (tkT R1 g1).length = m := ⟨_, rfl⟩
            obtain ⟨r1, hr1⟩ : ∃ r, rfI s1 = r := ⟨_, rfl⟩
            have HM1 := Lib.hid hm1; have HR1 := Lib.hid hr1
            have HZ := Lib.hid (hdp.bu.sz hdp.bv.2.1)
            have hbp := hpn.bp
            rw [hm1, hr1] at hpn hbp
            rw [hm1, hr1]
            clear hm1 hr1 hdp hg HP
            go_upto_region 25 with fail
            change Code.wp _ _ _ _ (x1.alloc (.cells (bqA 1 (n : Int) (g1 : Int) r1 (.slice u1 m1 tc1)) 33))
            obtain ⟨y2, hy⟩ : ∃ y, x1.alloc (.cells (bqA 1 (n : Int) (g1 : Int) r1 (.slice u1 m1 tc1)) 33) = y := ⟨_, rfl⟩
            obtain ⟨P, hP⟩ : ∃ P, x1.heap.size = P := ⟨_, rfl⟩
            rw [hy, hP] at hpn hbp
            rw [hy, hP]
            clear hy hP
            have hs0 := And.intro (hpn.below (Below.refl y2.heap.size y2).drew) (hbp.below (Below.refl y2.heap.size y2).drew)
            clear hpn hbp
            have HWG : Hid (IntKind.i64.wrap (1 + (g1 : Int)) = 1 + (g1 : Int)) := Lib.hid (by have := HZ.out; rw [IntKind.wrap_i64]; omega)
            refine wp_region_held_drew (S := fun X : World => PN Q P n A2 B2 g1 R1 s1 u1 tc1 w X ∧ BqAt P 1 (n : Int) (g1 : Int) r1 (.slice u1 m1 tc1) X) (by kernel_rfl) hs0 (fun hHeld => ?_)
            clear hs0
            generalize y2.drew = y3 at *
            refine wpAnyH_take (i := 0) (v := (.bool true)) rfl (by kernel_rfl) (by kernel_rfl) (by kernel_rfl) (fun _ _ _ h => h) (Or.inl ⟨by rfl, fun X hS => ?_⟩) hHeld ?_
            · obtain ⟨hS1, hS2⟩ := hS
              obtain ⟨p0, p1, p2, p3, p4⟩ := hS2.all
              obtain ⟨b0, _⟩ := hS1.dp.bv.all
              clear hS1 hS2
              go_simp
            try simp only [Act.put, List.getElem_toArray, List.getElem_cons_zero, List.getElem_cons_succ, List.setIfInBounds_toArray, List.set_cons_zero, List.set_cons_succ]
            refine wpAnyH_take (i := 1) (v := (.bool false)) rfl (by kernel_rfl) (by kernel_rfl) (by kernel_rfl) (fun _ _ _ h => h) (Or.inl ⟨by rfl, fun X hS => ?_⟩) hHeld ?_
            · obtain ⟨hS1, hS2⟩ := hS
              obtain ⟨p0, p1, p2, p3, p4⟩ := hS2.all
              obtain ⟨b0, _⟩ := hS1.dp.bv.all
              clear hS1 hS2
              go_simp
            try simp only [Act.put, List.getElem_toArray, List.getElem_cons_zero, List.getElem_cons_succ, List.setIfInBounds_toArray, List.set_cons_zero, List.set_cons_succ]
            refine wpAnyH_take (i := 2) (v := (.bool false)) rfl (by kernel_rfl) (by kernel_rfl) (by kernel_rfl) (fun _ _ _ h => h) (Or.inl ⟨by rfl, fun X hS => ?_⟩) hHeld ?_
            · obtain ⟨hS1, hS2⟩ := hS
              obtain ⟨p0, p1, p2, p3, p4⟩ := hS2.all
              obtain ⟨b0, _⟩ := hS1.dp.bv.all
              clear hS1 hS2
              go_simp
            try simp only [Act.put, List.getElem_toArray, List.getElem_cons_zero, List.getElem_cons_succ, List.setIfInBounds_toArray, List.set_cons_zero, List.set_cons_succ]
            refine wpAnyH_take (i := 3) (v := (bdyP B2)) rfl (by kernel_rfl) (by kernel_rfl) (by kernel_rfl) (fun _ _ _ h => h) (Or.inl ⟨by rfl, fun X hS => ?_⟩) hHeld ?_
            · obtain ⟨hS1, hS2⟩ := hS
              obtain ⟨p0, p1, p2, p3, p4⟩ := hS2.all
              obtain ⟨b0, _⟩ := hS1.dp.bv.all
              clear hS1 hS2
              go_simp
            try simp only [Act.put, List.getElem_toArray, List.getElem_cons_zero, List.getElem_cons_succ, List.setIfInBounds_toArray, List.set_cons_zero, List.set_cons_succ]
            refine wpAnyH_take (i := 5) (v := (.pointer (some ⟨P, 2, none⟩))) rfl (by kernel_rfl) (by kernel_rfl) (by kernel_rfl) (fun _ _ _ h => h) (Or.inl ⟨by rfl, fun X hS => ?_⟩) hHeld ?_
            · obtain ⟨hS1, hS2⟩ := hS
              obtain ⟨p0, p1, p2, p3, p4⟩ := hS2.all
              obtain ⟨b0, _⟩ := hS1.dp.bv.all
              clear hS1 hS2
              go_simp
            try simp only [Act.put, List.getElem_toArray, List.getElem_cons_zero, List.getElem_cons_succ, List.setIfInBounds_toArray, List.set_cons_zero, List.set_cons_succ]
            refine wpAnyH_take (i := 6) (v := (.int .i64 (g1 : Int))) rfl (by kernel_rfl) (by kernel_rfl) (by kernel_rfl) (fun _ _ _ h => h) (Or.inl ⟨by rfl, fun X hS => ?_⟩) hHeld ?_
            · obtain ⟨hS1, hS2⟩ := hS
              obtain ⟨p0, p1, p2, p3, p4⟩ := hS2.all
              obtain ⟨b0, _⟩ := hS1.dp.bv.all
              clear hS1 hS2
              go_simp
            try simp only [Act.put, List.getElem_toArray, List.getElem_cons_zero, List.getElem_cons_succ, List.setIfInBounds_toArray, List.set_cons_zero, List.set_cons_succ]
            refine wpAnyH_ready (rs := [4]) (by kernel_rfl) (by simp) (AllReadyH.cons rfl (fun K1 hK1 => ?_) AllReadyH.nil)
            go_simp
            have HH := Lib.hid hHeld
            clear hHeld
            refine (bgrown HH.out.1.dp.bv g1 (by have := HZ.out; omega) HH.out.1.dp.bu.front HH.out.1.dp.bu.gr).mono ?_
            rintro e x1 ⟨rfl, hb⟩
            have hn := And.intro (HH.out.1.below hb) (HH.out.2.below hb)
            clear hb HH
            refine hK1.out _ _ hn (fun hHeld => ?_)
            clear hK1
            try simp only [Act.put, List.getElem_toArray, List.getElem_cons_zero, List.getElem_cons_succ, List.setIfInBounds_toArray, List.set_cons_zero, List.set_cons_succ]
            refine wpAnyH_take (i := 7) (v := (.bool false)) rfl (by kernel_rfl) (by kernel_rfl) (by kernel_rfl) (fun _ _ _ h => h) (Or.inl ⟨by rfl, fun X hS => ?_⟩) hHeld ?_
            · obtain ⟨hS1, hS2⟩ := hS
              obtain ⟨p0, p1, p2, p3, p4⟩ := hS2.all
              obtain ⟨b0, _⟩ := hS1.dp.bv.all
              clear hS1 hS2
              go_simp
            try simp only [Act.put, List.getElem_toArray, List.getElem_cons_zero, List.getElem_cons_succ, List.setIfInBounds_toArray, List.set_cons_zero, List.set_cons_succ]
            refine wpAnyH_take (i := 8) (v := (.bool false)) rfl (by kernel_rfl) (by kernel_rfl) (by kernel_rfl) (fun _ _ _ h => h) (Or.inl ⟨by rfl, fun X hS => ?_⟩) hHeld ?_
            · obtain ⟨hS1, hS2⟩ := hS
              obtain ⟨p0, p1, p2, p3, p4⟩ := hS2.all
              obtain ⟨b0, _⟩ := hS1.dp.bv.all
              clear hS1 hS2
              go_simp
            try simp only [Act.put, List.getElem_toArray, List.getElem_cons_zero, List.getElem_cons_succ, List.setIfInBounds_toArray, List.set_cons_zero, List.set_cons_succ]
            refine wpAnyH_take (i := 9) (v := (.bool false)) rfl (by kernel_rfl) (by kernel_rfl) (by kernel_rfl) (fun _ _ _ h => h) (Or.inl ⟨by rfl, fun X hS => ?_⟩) hHeld ?_
            · obtain ⟨hS1, hS2⟩ := hS
              obtain ⟨p0, p1, p2, p3, p4⟩ := hS2.all
              obtain ⟨b0, _⟩ := hS1.dp.bv.all
              clear hS1 hS2
              go_simp
            try simp only [Act.put, List.getElem_toArray, List.getElem_cons_zero, List.getElem_cons_succ, List.setIfInBounds_toArray, List.set_cons_zero, List.set_cons_succ]
            refine wpAnyH_take (i := 10) (v := (bdyP B2)) rfl (by kernel_rfl) (by kernel_rfl) (by kernel_rfl) (fun _ _ _ h => h) (Or.inl ⟨by rfl, fun X hS => ?_⟩) hHeld ?_
            · obtain ⟨hS1, hS2⟩ := hS
              obtain ⟨p0, p1, p2, p3, p4⟩ := hS2.all
              obtain ⟨b0, _⟩ := hS1.dp.bv.all
              clear hS1 hS2
              go_simp
            try simp only [Act.put, List.getElem_toArray, List.getElem_cons_zero, List.getElem_cons_succ, List.setIfInBounds_toArray, List.set_cons_zero, List.set_cons_succ]
            refine wpAnyH_take (i := 12) (v := (.pointer (some ⟨P, 0, none⟩))) rfl (by kernel_rfl) (by kernel_rfl) (by kernel_rfl) (fun _ _ _ h => h) (Or.inl ⟨by rfl, fun X hS => ?_⟩) hHeld ?_
            · obtain ⟨hS1, hS2⟩ := hS
              obtain ⟨p0, p1, p2, p3, p4⟩ := hS2.all
              obtain ⟨b0, _⟩ := hS1.dp.bv.all
              clear hS1 hS2
              go_simp
            try simp only [Act.put, List.getElem_toArray, List.getElem_cons_zero, List.getElem_cons_succ, List.setIfInBounds_toArray, List.set_cons_zero, List.set_cons_succ]
            refine wpAnyH_take (i := 13) (v := (.int .i64 1)) rfl (by kernel_rfl) (by kernel_rfl) (by kernel_rfl) (fun _ _ _ h => h) (Or.inl ⟨by rfl, fun X hS => ?_⟩) hHeld ?_
            · obtain ⟨hS1, hS2⟩ := hS
              obtain ⟨p0, p1, p2, p3, p4⟩ := hS2.all
              obtain ⟨b0, _⟩ := hS1.dp.bv.all
              clear hS1 hS2
              go_simp
            try simp only [Act.put, List.getElem_toArray, List.getElem_cons_zero, List.getElem_cons_succ, List.setIfInBounds_toArray, List.set_cons_zero, List.set_cons_succ]
            refine wpAnyH_ready (rs := [11]) (by kernel_rfl) (by simp) (AllReadyH.cons rfl (fun K1 hK1 => ?_) AllReadyH.nil)
            go_simp
            have HH := Lib.hid hHeld
            clear hHeld
            refine (bbase HH.out.1.dp.bv (by have := HZ.out; omega)).mono ?_
            rintro e x2 ⟨rfl, hb⟩
            have hn := And.intro (HH.out.1.below hb) (HH.out.2.below hb)
            clear hb HH
            refine hK1.out _ _ hn (fun hHeld => ?_)
            clear hK1
            try simp only [Act.put, List.getElem_toArray, List.getElem_cons_zero, List.getElem_cons_succ, List.setIfInBounds_toArray, List.set_cons_zero, List.set_cons_succ]
            refine wpAnyH_take (i := 14) (v := (.bool false)) rfl (by kernel_rfl) (by kernel_rfl) (by kernel_rfl) (fun _ _ _ h => h) (Or.inl ⟨by rfl, fun X hS => ?_⟩) hHeld ?_
            · obtain ⟨hS1, hS2⟩ := hS
              obtain ⟨p0, p1, p2, p3, p4⟩ := hS2.all
              obtain ⟨b0, _⟩ := hS1.dp.bv.all
              clear hS1 hS2
              go_simp
            try simp only [Act.put, List.getElem_toArray, List.getElem_cons_zero, List.getElem_cons_succ, List.setIfInBounds_toArray, List.set_cons_zero, List.set_cons_succ]
            refine wpAnyH_take (i := 15) (v := (.bool false)) rfl (by kernel_rfl) (by kernel_rfl) (by kernel_rfl) (fun _ _ _ h => h) (Or.inl ⟨by rfl, fun X hS => ?_⟩) hHeld ?_
            · obtain ⟨hS1, hS2⟩ := hS
              obtain ⟨p0, p1, p2, p3, p4⟩ := hS2.all
              obtain ⟨b0, _⟩ := hS1.dp.bv.all
              clear hS1 hS2
              go_simp
            try simp only [Act.put, List.getElem_toArray, List.getElem_cons_zero, List.getElem_cons_succ, List.setIfInBounds_toArray, List.set_cons_zero, List.set_cons_succ]
            refine wpAnyH_take (i := 16) (v := (.bool false)) rfl (by kernel_rfl) (by kernel_rfl) (by kernel_rfl) (fun _ _ _ h => h) (Or.inl ⟨by rfl, fun X hS => ?_⟩) hHeld ?_
            · obtain ⟨hS1, hS2⟩ := hS
              obtain ⟨p0, p1, p2, p3, p4⟩ := hS2.all
              obtain ⟨b0, _⟩ := hS1.dp.bv.all
              clear hS1 hS2
              go_simp
            try simp only [Act.put, List.getElem_toArray, List.getElem_cons_zero, List.getElem_cons_succ, List.setIfInBounds_toArray, List.set_cons_zero, List.set_cons_succ]
            refine wpAnyH_take (i := 17) (v := (bdyP B2)) rfl (by kernel_rfl) (by kernel_rfl) (by kernel_rfl) (fun _ _ _ h => h) (Or.inl ⟨by rfl, fun X hS => ?_⟩) hHeld ?_
            · obtain ⟨hS1, hS2⟩ := hS
              obtain ⟨p0, p1, p2, p3, p4⟩ := hS2.all
              obtain ⟨b0, _⟩ := hS1.dp.bv.all
              clear hS1 hS2
              go_simp
            try simp only [Act.put, List.getElem_toArray, List.getElem_cons_zero, List.getElem_cons_succ, List.setIfInBounds_toArray, List.set_cons_zero, List.set_cons_succ]
            refine wpAnyH_take (i := 19) (v := (bqV 1 (n : Int) (g1 : Int) r1 (.slice u1 m1 tc1))) rfl (by kernel_rfl) (by kernel_rfl) (by kernel_rfl) (fun _ _ _ h => h) (Or.inl ⟨by rfl, fun X hS => ?_⟩) hHeld ?_
            · obtain ⟨hS1, hS2⟩ := hS
              obtain ⟨p0, p1, p2, p3, p4⟩ := hS2.all
              obtain ⟨b0, _⟩ := hS1.dp.bv.all
              clear hS1 hS2
              go_simp
            try simp only [Act.put, List.getElem_toArray, List.getElem_cons_zero, List.getElem_cons_succ, List.setIfInBounds_toArray, List.set_cons_zero, List.set_cons_succ]
            refine wpAnyH_ready (rs := [18]) (by kernel_rfl) (by simp) (AllReadyH.cons rfl (fun K1 hK1 => ?_) AllReadyH.nil)
            go_simp
            have HH := Lib.hid hHeld
            clear hHeld
            refine (bof_any HH.out.1.dp.bv HH.out.1.dp.bu).mono ?_
            rintro e x3 ⟨ua, ca, rfl, hra, _, hb⟩
            have HRA := Lib.hid hra
            clear hra
            have hn := And.intro (HH.out.1.below hb) (HH.out.2.below hb)
            clear hb HH
            refine hK1.out _ _ hn (fun hHeld => ?_)
            clear hK1
            try simp only [Act.put, List.getElem_toArray, List.getElem_cons_zero, List.getElem_cons_succ, List.setIfInBounds_toArray, List.set_cons_zero, List.set_cons_succ]
            refine wpAnyH_ready (rs := [20]) (by kernel_rfl) (by simp) (AllReadyH.cons rfl (fun K1 hK1 => ?_) AllReadyH.nil)
            go_simp
            have HH := Lib.hid hHeld
            clear hHeld
            have hrr := bruns_any 1 (n : Int) r1 g1 (by have := HZ.out; omega) u1 tc1 R1 HH.out.1.dp.bu.ti x3 HH.out.1.dp.rn
            rw [HM1.out] at hrr
            refine hrr.mono ?_
            rintro e x4 ⟨ub, cb, rfl, hrb, _, hb⟩
            have HRB := Lib.hid hrb
            have HRA4 := Lib.hid (HRA.out.below hb)
            clear hrb HRA hrr
            have hn := And.intro (HH.out.1.below hb) (HH.out.2.below hb)
            clear hb HH
            refine hK1.out _ _ hn (fun hHeld => ?_)
            clear hK1
            try simp only [Act.put, List.getElem_toArray, List.getElem_cons_zero, List.getElem_cons_succ, List.setIfInBounds_toArray, List.set_cons_zero, List.set_cons_succ]
            refine wpAnyH_ready (rs := [21]) (by kernel_rfl) (by simp) (AllReadyH.cons rfl (fun K1 hK1 => ?_) AllReadyH.nil)
            go_simp
            have HH := Lib.hid hHeld
            clear hHeld
            refine (requal_any ua ub ca cb (runL R1 g1) (by have := runL_len R1 g1; have := HZ.out; omega) x4 HRA4.out HRB.out).mono ?_
            rintro e x5 ⟨rfl, hb⟩
            clear HRA4 HRB
            have hn := And.intro (HH.out.1.below hb) (HH.out.2.below hb)
            clear hb HH
            refine hK1.out _ _ hn (fun hHeld => ?_)
            clear hK1
            try simp only [Act.put, List.getElem_toArray, List.getElem_cons_zero, List.getElem_cons_succ, List.setIfInBounds_toArray, List.set_cons_zero, List.set_cons_succ]
            refine wpAnyH_take (i := 22) (v := (.bool false)) rfl (by kernel_rfl) (by kernel_rfl) (by kernel_rfl) (fun _ _ _ h => h) (Or.inl ⟨by rfl, fun X hS => ?_⟩) hHeld ?_
            · obtain ⟨hS1, hS2⟩ := hS
              obtain ⟨p0, p1, p2, p3, p4⟩ := hS2.all
              obtain ⟨b0, _⟩ := hS1.dp.bv.all
              clear hS1 hS2
              go_simp
            try simp only [Act.put, List.getElem_toArray, List.getElem_cons_zero, List.getElem_cons_succ, List.setIfInBounds_toArray, List.set_cons_zero, List.set_cons_succ]
            refine wpAnyH_take (i := 23) (v := (.bool false)) rfl (by kernel_rfl) (by kernel_rfl) (by kernel_rfl) (fun _ _ _ h => h) (Or.inl ⟨by rfl, fun X hS => ?_⟩) hHeld ?_
            · obtain ⟨hS1, hS2⟩ := hS
              obtain ⟨p0, p1, p2, p3, p4⟩ := hS2.all
              obtain ⟨b0, _⟩ := hS1.dp.bv.all
              clear hS1 hS2
              go_simp
            try simp only [Act.put, List.getElem_toArray, List.getElem_cons_zero, List.getElem_cons_succ, List.setIfInBounds_toArray, List.set_cons_zero, List.set_cons_succ]
            refine wpAnyH_take (i := 24) (v := (.bool false)) rfl (by kernel_rfl) (by kernel_rfl) (by kernel_rfl) (fun _ _ _ h => h) (Or.inl ⟨by rfl, fun X hS => ?_⟩) hHeld ?_
            · obtain ⟨hS1, hS2⟩ := hS
              obtain ⟨p0, p1, p2, p3, p4⟩ := hS2.all
              obtain ⟨b0, _⟩ := hS1.dp.bv.all
              clear hS1 hS2
              go_simp
            try simp only [Act.put, List.getElem_toArray, List.getElem_cons_zero, List.getElem_cons_succ, List.setIfInBounds_toArray, List.set_cons_zero, List.set_cons_succ]
            refine wpAnyH_take (i := 25) (v := (bdyP B2)) rfl (by kernel_rfl) (by kernel_rfl) (by kernel_rfl) (fun _ _ _ h => h) (Or.inl ⟨by rfl, fun X hS => ?_⟩) hHeld ?_
            · obtain ⟨hS1, hS2⟩ := hS
              obtain ⟨p0, p1, p2, p3, p4⟩ := hS2.all
              obtain ⟨b0, _⟩ := hS1.dp.bv.all
              clear hS1 hS2
              go_simp
            try simp only [Act.put, List.getElem_toArray, List.getElem_cons_zero, List.getElem_cons_succ, List.setIfInBounds_toArray, List.set_cons_zero, List.set_cons_succ]
            refine wpAnyH_take (i := 26) (v := (bdyP B2)) rfl (by kernel_rfl) (by kernel_rfl) (by kernel_rfl) (fun _ _ _ h => h) (Or.inl ⟨by rfl, fun X hS => ?_⟩) hHeld ?_
            · obtain ⟨hS1, hS2⟩ := hS
              obtain ⟨p0, p1, p2, p3, p4⟩ := hS2.all
              obtain ⟨b0, _⟩ := hS1.dp.bv.all
              clear hS1 hS2
              go_simp
            try simp only [Act.put, List.getElem_toArray, List.getElem_cons_zero, List.getElem_cons_succ, List.setIfInBounds_toArray, List.set_cons_zero, List.set_cons_succ]
            refine wpAnyH_take (i := 27) (v := (.pointer (some ⟨B2, 0, none⟩))) rfl (by kernel_rfl) (by kernel_rfl) (by kernel_rfl) (fun _ _ _ h => h) (Or.inl ⟨by rfl, fun X hS => ?_⟩) hHeld ?_
            · obtain ⟨hS1, hS2⟩ := hS
              obtain ⟨p0, p1, p2, p3, p4⟩ := hS2.all
              obtain ⟨b0, _⟩ := hS1.dp.bv.all
              clear hS1 hS2
              go_simp
            try simp only [Act.put, List.getElem_toArray, List.getElem_cons_zero, List.getElem_cons_succ, List.setIfInBounds_toArray, List.set_cons_zero, List.set_cons_succ]
            refine wpAnyH_take (i := 28) (v := (.pointer (some ⟨A2, 0, none⟩))) rfl (by kernel_rfl) (by kernel_rfl) (by kernel_rfl) (fun _ _ _ h => h) (Or.inl ⟨by rfl, fun X hS => ?_⟩) hHeld ?_
            · obtain ⟨hS1, hS2⟩ := hS
              obtain ⟨p0, p1, p2, p3, p4⟩ := hS2.all
              obtain ⟨b0, _⟩ := hS1.dp.bv.all
              clear hS1 hS2
              go_simp
            try simp only [Act.put, List.getElem_toArray, List.getElem_cons_zero, List.getElem_cons_succ, List.setIfInBounds_toArray, List.set_cons_zero, List.set_cons_succ]
            refine wpAnyH_take (i := 30) (v := (.pointer (some ⟨P, 0, none⟩))) rfl (by kernel_rfl) (by kernel_rfl) (by kernel_rfl) (fun _ _ _ h => h) (Or.inl ⟨by rfl, fun X hS => ?_⟩) hHeld ?_
            · obtain ⟨hS1, hS2⟩ := hS
              obtain ⟨p0, p1, p2, p3, p4⟩ := hS2.all
              obtain ⟨b0, _⟩ := hS1.dp.bv.all
              clear hS1 hS2
              go_simp
            try simp only [Act.put, List.getElem_toArray, List.getElem_cons_zero, List.getElem_cons_succ, List.setIfInBounds_toArray, List.set_cons_zero, List.set_cons_succ]
            refine wpAnyH_take (i := 31) (v := (.int .i64 1)) rfl (by kernel_rfl) (by kernel_rfl) (by kernel_rfl) (fun _ _ _ h => h) (Or.inl ⟨by rfl, fun X hS => ?_⟩) hHeld ?_
            · obtain ⟨hS1, hS2⟩ := hS
              obtain ⟨p0, p1, p2, p3, p4⟩ := hS2.all
              obtain ⟨b0, _⟩ := hS1.dp.bv.all
              clear hS1 hS2
              go_simp
            try simp only [Act.put, List.getElem_toArray, List.getElem_cons_zero, List.getElem_cons_succ, List.setIfInBounds_toArray, List.set_cons_zero, List.set_cons_succ]
            refine wpAnyH_take (i := 32) (v := (.pointer (some ⟨P, 2, none⟩))) rfl (by kernel_rfl) (by kernel_rfl) (by kernel_rfl) (fun _ _ _ h => h) (Or.inl ⟨by rfl, fun X hS => ?_⟩) hHeld ?_
            · obtain ⟨hS1, hS2⟩ := hS
              obtain ⟨p0, p1, p2, p3, p4⟩ := hS2.all
              obtain ⟨b0, _⟩ := hS1.dp.bv.all
              clear hS1 hS2
              go_simp
            try simp only [Act.put, List.getElem_toArray, List.getElem_cons_zero, List.getElem_cons_succ, List.setIfInBounds_toArray, List.set_cons_zero, List.set_cons_succ]
            refine wpAnyH_take (i := 33) (v := (.int .i64 (g1 : Int))) rfl (by kernel_rfl) (by kernel_rfl) (by kernel_rfl) (fun _ _ _ h => h) (Or.inl ⟨by rfl, fun X hS => ?_⟩) hHeld ?_
            · obtain ⟨hS1, hS2⟩ := hS
              obtain ⟨p0, p1, p2, p3, p4⟩ := hS2.all
              obtain ⟨b0, _⟩ := hS1.dp.bv.all
              clear hS1 hS2
              go_simp
            try simp only [Act.put, List.getElem_toArray, List.getElem_cons_zero, List.getElem_cons_succ, List.setIfInBounds_toArray, List.set_cons_zero, List.set_cons_succ]
            refine wpAnyH_take (i := 34) (v := (.int .i64 (1 + (g1 : Int)))) rfl (by kernel_rfl) (by kernel_rfl) (by kernel_rfl) (fun _ _ _ h => h) (Or.inl ⟨by rfl, fun X hS => ?_⟩) hHeld ?_
            · obtain ⟨hS1, hS2⟩ := hS
              obtain ⟨p0, p1, p2, p3, p4⟩ := hS2.all
              obtain ⟨b0, _⟩ := hS1.dp.bv.all
              clear hS1 hS2
              have hwg := HWG.out
              go_simp
            try simp only [Act.put, List.getElem_toArray, List.getElem_cons_zero, List.getElem_cons_succ, List.setIfInBounds_toArray, List.set_cons_zero, List.set_cons_succ]
            refine wpAnyH_ready (rs := [29]) (by kernel_rfl) (by simp) (AllReadyH.cons rfl (fun K1 hK1 => ?_) AllReadyH.nil)
            go_simp
            have HH := Lib.hid hHeld
            clear hHeld
            refine (bcommitted HH.out.1.dp.bv HH.out.1.dp.bu).mono ?_
            rintro e x6 ⟨rfl, hb⟩
            have hn := And.intro (HH.out.1.below hb) (HH.out.2.below hb)
            clear hb HH
            refine hK1.out _ _ hn (fun hHeld => ?_)
            clear hK1
            try simp only [Act.put, List.getElem_toArray, List.getElem_cons_zero, List.getElem_cons_succ, List.setIfInBounds_toArray, List.set_cons_zero, List.set_cons_succ]
            refine wpAnyH_take (i := 35) (v := (.bool false)) rfl (by kernel_rfl) (by kernel_rfl) (by kernel_rfl) (fun _ _ _ h => h) (Or.inl ⟨by rfl, fun X hS => ?_⟩) hHeld ?_
            · obtain ⟨hS1, hS2⟩ := hS
              obtain ⟨p0, p1, p2, p3, p4⟩ := hS2.all
              obtain ⟨b0, _⟩ := hS1.dp.bv.all
              clear hS1 hS2
              go_simp
            try simp only [Act.put, List.getElem_toArray, List.getElem_cons_zero, List.getElem_cons_succ, List.setIfInBounds_toArray, List.set_cons_zero, List.set_cons_succ]
            refine wpAnyH_take (i := 36) (v := (.bool false)) rfl (by kernel_rfl) (by kernel_rfl) (by kernel_rfl) (fun _ _ _ h => h) (Or.inl ⟨by rfl, fun X hS => ?_⟩) hHeld ?_
            · obtain ⟨hS1, hS2⟩ := hS
              obtain ⟨p0, p1, p2, p3, p4⟩ := hS2.all
              obtain ⟨b0, _⟩ := hS1.dp.bv.all
              clear hS1 hS2
              go_simp
            try simp only [Act.put, List.getElem_toArray, List.getElem_cons_zero, List.getElem_cons_succ, List.setIfInBounds_toArray, List.set_cons_zero, List.set_cons_succ]
            refine wpAnyH_done (by kernel_rfl) ?_ _
            have HF := Lib.hid hHeld
            clear hHeld
            obtain ⟨o3, q3, g3, r3, v3, hk3⟩ := HF.out.1.bq
            obtain ⟨e0, e1, e2, e3, e4⟩ := hk3.all
            obtain ⟨f0, f1, f2, f3, f4⟩ := hk3.free
            obtain ⟨p0', p1', p2', p3', p4'⟩ := HF.out.2.all
            clear hk3
            have hst := HF.out.1.store
            rw [HM1.out, HR1.out] at hst
            have HST2 := Lib.hid hst
            clear hst
            go_upto_region 28 with fail
            change Code.wp _ _ _ _ (set5 x6 Q (.int .i64 1) (.int .i64 (n : Int)) (.int .i64 (g1 : Int)) (.int .i64 r1) (.slice u1 m1 tc1))
            obtain ⟨z, hz⟩ : ∃ z, set5 x6 Q (.int .i64 1) (.int .i64 (n : Int)) (.int .i64 (g1 : Int)) (.int .i64 r1) (.slice u1 m1 tc1) = z := ⟨_, rfl⟩
            rw [hz] at HST2 ⊢
            clear hz e0 e1 e2 e3 e4 f0 f1 f2 f3 f4 p0' p1' p2' p3' p4' HF
            go_wp2_with fail
            go_roundw
            case rel => exact ⟨i + 1, A2, B2, g1, R1, s1, u1, tc1, by omega, by go_num, rfl, HST2.out⟩
            case measure => simp [intOf]; omega
          · have HP := Lib.hid hpb
            clear hpb
            have HC := Lib.hid hca
            have HDO := Lib.hid (do_any (tc := tc0) d k nn HK.out.1 HK.out.2.1 HK.out.2.2 HP.out.dp)
            obtain ⟨m0, hm0⟩ : ∃ m, (tkT R0 g0).length = m := ⟨_, rfl⟩
            obtain ⟨r0, hr0⟩ : ∃ r, rfI s0 = r := ⟨_, rfl⟩
            have hbq := HP.out.bq
            rw [hm0, hr0] at HDO hbq
            obtain ⟨q0, q1, q2, q3, q4⟩ := hbq.all
            obtain ⟨c0, c1, c2⟩ := HC.out.all
            clear hbq hca hm0 hr0
            go_wp2_with fail
            refine HDO.out.mono ?_
            rintro e x1 ⟨g1, R1, s1, u1, tc1, rfl, hdp, hg⟩
            clear q0 q1 q2 q3 q4 c0 c1 c2 HDO HC
            have hpn := PB.act (tc' := tc1) HP.out hdp hg
            obtain ⟨m1, hm1⟩ : ∃ m, (tkT R1 g1).length = m := ⟨_, rfl⟩
            obtain ⟨r1, hr1⟩ : ∃ r, rfI s1 = r := ⟨_, rfl⟩
            have HM1 := Lib.hid hm1; have HR1 := Lib.hid hr1
            have HZ := Lib.hid (hdp.bu.sz hdp.bv.2.1)
            have hbp := hpn.bp
            rw [hm1, hr1] at hpn hbp
            rw [hm1, hr1]
            clear hm1 hr1 hdp hg HP
            go_upto_region 25 with fail
            change Code.wp _ _ _ _ (x1.alloc (.cells (bqA 1 (n : Int) (g1 : Int) r1 (.slice u1 m1 tc1)) 33))
            obtain ⟨y2, hy⟩ : ∃ y, x1.alloc (.cells (bqA 1 (n : Int) (g1 : Int) r1 (.slice u1 m1 tc1)) 33) = y := ⟨_, rfl⟩
            obtain ⟨P, hP⟩ : ∃ P, x1.heap.size = P := ⟨_, rfl⟩
            rw [hy, hP] at hpn hbp
            rw [hy, hP]
            clear hy hP
            have hs0 := And.intro (hpn.below (Below.refl y2.heap.size y2).drew) (hbp.below (Below.refl y2.heap.size y2).drew)
            clear hpn hbp
            have HWG : Hid (IntKind.i64.wrap (1 + (g1 : Int)) = 1 + (g1 : Int)) := Lib.hid (by have := HZ.out; rw [IntKind.wrap_i64]; omega)
            refine wp_region_held_drew (S := fun X : World => PN Q P n A0 B0 g1 R1 s1 u1 tc1 w X ∧ BqAt P 1 (n : Int) (g1 : Int) r1 (.slice u1 m1 tc1) X) (by kernel_rfl) hs0 (fun hHeld => ?_)
            clear hs0
            generalize y2.drew = y3 at *
            refine wpAnyH_take (i := 0) (v := (.bool true)) rfl (by kernel_rfl) (by kernel_rfl) (by kernel_rfl) (fun _ _ _ h => h) (Or.inl ⟨by rfl, fun X hS => ?_⟩) hHeld ?_
            · obtain ⟨hS1, hS2⟩ := hS
              obtain ⟨p0, p1, p2, p3, p4⟩ := hS2.all
              obtain ⟨b0, _⟩ := hS1.dp.bv.all
              clear hS1 hS2
              go_simp
            try simp only [Act.put, List.getElem_toArray, List.getElem_cons_zero, List.getElem_cons_succ, List.setIfInBounds_toArray, List.set_cons_zero, List.set_cons_succ]
            refine wpAnyH_take (i := 1) (v := (.bool false)) rfl (by kernel_rfl) (by kernel_rfl) (by kernel_rfl) (fun _ _ _ h => h) (Or.inl ⟨by rfl, fun X hS => ?_⟩) hHeld ?_
            · obtain ⟨hS1, hS2⟩ := hS
              obtain ⟨p0, p1, p2, p3, p4⟩ := hS2.all
              obtain ⟨b0, _⟩ := hS1.dp.bv.all
              clear hS1 hS2
              go_simp
            try simp only [Act.put, List.getElem_toArray, List.getElem_cons_zero, List.getElem_cons_succ, List.setIfInBounds_toArray, List.set_cons_zero, List.set_cons_succ]
            refine wpAnyH_take (i := 2) (v := (.bool false)) rfl (by kernel_rfl) (by kernel_rfl) (by kernel_rfl) (fun _ _ _ h => h) (Or.inl ⟨by rfl, fun X hS => ?_⟩) hHeld ?_
            · obtain ⟨hS1, hS2⟩ := hS
              obtain ⟨p0, p1, p2, p3, p4⟩ := hS2.all
              obtain ⟨b0, _⟩ := hS1.dp.bv.all
              clear hS1 hS2
              go_simp
            try simp only [Act.put, List.getElem_toArray, List.getElem_cons_zero, List.getElem_cons_succ, List.setIfInBounds_toArray, List.set_cons_zero, List.set_cons_succ]
            refine wpAnyH_take (i := 3) (v := (bdyP B0)) rfl (by kernel_rfl) (by kernel_rfl) (by kernel_rfl) (fun _ _ _ h => h) (Or.inl ⟨by rfl, fun X hS => ?_⟩) hHeld ?_
            · obtain ⟨hS1, hS2⟩ := hS
              obtain ⟨p0, p1, p2, p3, p4⟩ := hS2.all
              obtain ⟨b0, _⟩ := hS1.dp.bv.all
              clear hS1 hS2
              go_simp
            try simp only [Act.put, List.getElem_toArray, List.getElem_cons_zero, List.getElem_cons_succ, List.setIfInBounds_toArray, List.set_cons_zero, List.set_cons_succ]
            refine wpAnyH_take (i := 5) (v := (.pointer (some ⟨P, 2, none⟩))) rfl (by kernel_rfl) (by kernel_rfl) (by kernel_rfl) (fun _ _ _ h => h) (Or.inl ⟨by rfl, fun X hS => ?_⟩) hHeld ?_
            · obtain ⟨hS1, hS2⟩ := hS
              obtain ⟨p0, p1, p2, p3, p4⟩ := hS2.all
              obtain ⟨b0, _⟩ := hS1.dp.bv.all
              clear hS1 hS2
              go_simp
            try simp only [Act.put, List.getElem_toArray, List.getElem_cons_zero, List.getElem_cons_succ, List.setIfInBounds_toArray, List.set_cons_zero, List.set_cons_succ]
            refine wpAnyH_take (i := 6) (v := (.int .i64 (g1 : Int))) rfl (by kernel_rfl) (by kernel_rfl) (by kernel_rfl) (fun _ _ _ h => h) (Or.inl ⟨by rfl, fun X hS => ?_⟩) hHeld ?_
            · obtain ⟨hS1, hS2⟩ := hS
              obtain ⟨p0, p1, p2, p3, p4⟩ := hS2.all
              obtain ⟨b0, _⟩ := hS1.dp.bv.all
              clear hS1 hS2
              go_simp
            try simp only [Act.put, List.getElem_toArray, List.getElem_cons_zero, List.getElem_cons_succ, List.setIfInBounds_toArray, List.set_cons_zero, List.set_cons_succ]
            refine wpAnyH_ready (rs := [4]) (by kernel_rfl) (by simp) (AllReadyH.cons rfl (fun K1 hK1 => ?_) AllReadyH.nil)
            go_simp
            have HH := Lib.hid hHeld
            clear hHeld
            refine (bgrown HH.out.1.dp.bv g1 (by have := HZ.out; omega) HH.out.1.dp.bu.front HH.out.1.dp.bu.gr).mono ?_
            rintro e x1 ⟨rfl, hb⟩
            have hn := And.intro (HH.out.1.below hb) (HH.out.2.below hb)
            clear hb HH
            refine hK1.out _ _ hn (fun hHeld => ?_)
            clear hK1
            try simp only [Act.put, List.getElem_toArray, List.getElem_cons_zero, List.getElem_cons_succ, List.setIfInBounds_toArray, List.set_cons_zero, List.set_cons_succ]
            refine wpAnyH_take (i := 7) (v := (.bool false)) rfl (by kernel_rfl) (by kernel_rfl) (by kernel_rfl) (fun _ _ _ h => h) (Or.inl ⟨by rfl, fun X hS => ?_⟩) hHeld ?_
            · obtain ⟨hS1, hS2⟩ := hS
              obtain ⟨p0, p1, p2, p3, p4⟩ := hS2.all
              obtain ⟨b0, _⟩ := hS1.dp.bv.all
              clear hS1 hS2
              go_simp
            try simp only [Act.put, List.getElem_toArray, List.getElem_cons_zero, List.getElem_cons_succ, List.setIfInBounds_toArray, List.set_cons_zero, List.set_cons_succ]
            refine wpAnyH_take (i := 8) (v := (.bool false)) rfl (by kernel_rfl) (by kernel_rfl) (by kernel_rfl) (fun _ _ _ h => h) (Or.inl ⟨by rfl, fun X hS => ?_⟩) hHeld ?_
            · obtain ⟨hS1, hS2⟩ := hS
              obtain ⟨p0, p1, p2, p3, p4⟩ := hS2.all
              obtain ⟨b0, _⟩ := hS1.dp.bv.all
              clear hS1 hS2
              go_simp
            try simp only [Act.put, List.getElem_toArray, List.getElem_cons_zero, List.getElem_cons_succ, List.setIfInBounds_toArray, List.set_cons_zero, List.set_cons_succ]
            refine wpAnyH_take (i := 9) (v := (.bool false)) rfl (by kernel_rfl) (by kernel_rfl) (by kernel_rfl) (fun _ _ _ h => h) (Or.inl ⟨by rfl, fun X hS => ?_⟩) hHeld ?_
            · obtain ⟨hS1, hS2⟩ := hS
              obtain ⟨p0, p1, p2, p3, p4⟩ := hS2.all
              obtain ⟨b0, _⟩ := hS1.dp.bv.all
              clear hS1 hS2
              go_simp
            try simp only [Act.put, List.getElem_toArray, List.getElem_cons_zero, List.getElem_cons_succ, List.setIfInBounds_toArray, List.set_cons_zero, List.set_cons_succ]
            refine wpAnyH_take (i := 10) (v := (bdyP B0)) rfl (by kernel_rfl) (by kernel_rfl) (by kernel_rfl) (fun _ _ _ h => h) (Or.inl ⟨by rfl, fun X hS => ?_⟩) hHeld ?_
            · obtain ⟨hS1, hS2⟩ := hS
              obtain ⟨p0, p1, p2, p3, p4⟩ := hS2.all
              obtain ⟨b0, _⟩ := hS1.dp.bv.all
              clear hS1 hS2
              go_simp
            try simp only [Act.put, List.getElem_toArray, List.getElem_cons_zero, List.getElem_cons_succ, List.setIfInBounds_toArray, List.set_cons_zero, List.set_cons_succ]
            refine wpAnyH_take (i := 12) (v := (.pointer (some ⟨P, 0, none⟩))) rfl (by kernel_rfl) (by kernel_rfl) (by kernel_rfl) (fun _ _ _ h => h) (Or.inl ⟨by rfl, fun X hS => ?_⟩) hHeld ?_
            · obtain ⟨hS1, hS2⟩ := hS
              obtain ⟨p0, p1, p2, p3, p4⟩ := hS2.all
              obtain ⟨b0, _⟩ := hS1.dp.bv.all
              clear hS1 hS2
              go_simp
            try simp only [Act.put, List.getElem_toArray, List.getElem_cons_zero, List.getElem_cons_succ, List.setIfInBounds_toArray, List.set_cons_zero, List.set_cons_succ]
            refine wpAnyH_take (i := 13) (v := (.int .i64 1)) rfl (by kernel_rfl) (by kernel_rfl) (by kernel_rfl) (fun _ _ _ h => h) (Or.inl ⟨by rfl, fun X hS => ?_⟩) hHeld ?_
            · obtain ⟨hS1, hS2⟩ := hS
              obtain ⟨p0, p1, p2, p3, p4⟩ := hS2.all
              obtain ⟨b0, _⟩ := hS1.dp.bv.all
              clear hS1 hS2
              go_simp
            try simp only [Act.put, List.getElem_toArray, List.getElem_cons_zero, List.getElem_cons_succ, List.setIfInBounds_toArray, List.set_cons_zero, List.set_cons_succ]
            refine wpAnyH_ready (rs := [11]) (by kernel_rfl) (by simp) (AllReadyH.cons rfl (fun K1 hK1 => ?_) AllReadyH.nil)
            go_simp
            have HH := Lib.hid hHeld
            clear hHeld
            refine (bbase HH.out.1.dp.bv (by have := HZ.out; omega)).mono ?_
            rintro e x2 ⟨rfl, hb⟩
            have hn := And.intro (HH.out.1.below hb) (HH.out.2.below hb)
            clear hb HH
            refine hK1.out _ _ hn (fun hHeld => ?_)
            clear hK1
            try simp only [Act.put, List.getElem_toArray, List.getElem_cons_zero, List.getElem_cons_succ, List.setIfInBounds_toArray, List.set_cons_zero, List.set_cons_succ]
            refine wpAnyH_take (i := 14) (v := (.bool false)) rfl (by kernel_rfl) (by kernel_rfl) (by kernel_rfl) (fun _ _ _ h => h) (Or.inl ⟨by rfl, fun X hS => ?_⟩) hHeld ?_
            · obtain ⟨hS1, hS2⟩ := hS
              obtain ⟨p0, p1, p2, p3, p4⟩ := hS2.all
              obtain ⟨b0, _⟩ := hS1.dp.bv.all
              clear hS1 hS2
              go_simp
            try simp only [Act.put, List.getElem_toArray, List.getElem_cons_zero, List.getElem_cons_succ, List.setIfInBounds_toArray, List.set_cons_zero, List.set_cons_succ]
            refine wpAnyH_take (i := 15) (v := (.bool false)) rfl (by kernel_rfl) (by kernel_rfl) (by kernel_rfl) (fun _ _ _ h => h) (Or.inl ⟨by rfl, fun X hS => ?_⟩) hHeld ?_
            · obtain ⟨hS1, hS2⟩ := hS
              obtain ⟨p0, p1, p2, p3, p4⟩ := hS2.all
              obtain ⟨b0, _⟩ := hS1.dp.bv.all
              clear hS1 hS2
              go_simp
            try simp only [Act.put, List.getElem_toArray, List.getElem_cons_zero, List.getElem_cons_succ, List.setIfInBounds_toArray, List.set_cons_zero, List.set_cons_succ]
            refine wpAnyH_take (i := 16) (v := (.bool false)) rfl (by kernel_rfl) (by kernel_rfl) (by kernel_rfl) (fun _ _ _ h => h) (Or.inl ⟨by rfl, fun X hS => ?_⟩) hHeld ?_
            · obtain ⟨hS1, hS2⟩ := hS
              obtain ⟨p0, p1, p2, p3, p4⟩ := hS2.all
              obtain ⟨b0, _⟩ := hS1.dp.bv.all
              clear hS1 hS2
              go_simp
            try simp only [Act.put, List.getElem_toArray, List.getElem_cons_zero, List.getElem_cons_succ, List.setIfInBounds_toArray, List.set_cons_zero, List.set_cons_succ]
            refine wpAnyH_take (i := 17) (v := (bdyP B0)) rfl (by kernel_rfl) (by kernel_rfl) (by kernel_rfl) (fun _ _ _ h => h) (Or.inl ⟨by rfl, fun X hS => ?_⟩) hHeld ?_
            · obtain ⟨hS1, hS2⟩ := hS
              obtain ⟨p0, p1, p2, p3, p4⟩ := hS2.all
              obtain ⟨b0, _⟩ := hS1.dp.bv.all
              clear hS1 hS2
              go_simp
            try simp only [Act.put, List.getElem_toArray, List.getElem_cons_zero, List.getElem_cons_succ, List.setIfInBounds_toArray, List.set_cons_zero, List.set_cons_succ]
            refine wpAnyH_take (i := 19) (v := (bqV 1 (n : Int) (g1 : Int) r1 (.slice u1 m1 tc1))) rfl (by kernel_rfl) (by kernel_rfl) (by kernel_rfl) (fun _ _ _ h => h) (Or.inl ⟨by rfl, fun X hS => ?_⟩) hHeld ?_
            · obtain ⟨hS1, hS2⟩ := hS
              obtain ⟨p0, p1, p2, p3, p4⟩ := hS2.all
              obtain ⟨b0, _⟩ := hS1.dp.bv.all
              clear hS1 hS2
              go_simp
            try simp only [Act.put, List.getElem_toArray, List.getElem_cons_zero, List.getElem_cons_succ, List.setIfInBounds_toArray, List.set_cons_zero, List.set_cons_succ]
            refine wpAnyH_ready (rs := [18]) (by kernel_rfl) (by simp) (AllReadyH.cons rfl (fun K1 hK1 => ?_) AllReadyH.nil)
            go_simp
            have HH := Lib.hid hHeld
            clear hHeld
            refine (bof_any HH.out.1.dp.bv HH.out.1.dp.bu).mono ?_
            rintro e x3 ⟨ua, ca, rfl, hra, _, hb⟩
            have HRA := Lib.hid hra
            clear hra
            have hn := And.intro (HH.out.1.below hb) (HH.out.2.below hb)
            clear hb HH
            refine hK1.out _ _ hn (fun hHeld => ?_)
            clear hK1
            try simp only [Act.put, List.getElem_toArray, List.getElem_cons_zero, List.getElem_cons_succ, List.setIfInBounds_toArray, List.set_cons_zero, List.set_cons_succ]
            refine wpAnyH_ready (rs := [20]) (by kernel_rfl) (by simp) (AllReadyH.cons rfl (fun K1 hK1 => ?_) AllReadyH.nil)
            go_simp
            have HH := Lib.hid hHeld
            clear hHeld
            have hrr := bruns_any 1 (n : Int) r1 g1 (by have := HZ.out; omega) u1 tc1 R1 HH.out.1.dp.bu.ti x3 HH.out.1.dp.rn
            rw [HM1.out] at hrr
            refine hrr.mono ?_
            rintro e x4 ⟨ub, cb, rfl, hrb, _, hb⟩
            have HRB := Lib.hid hrb
            have HRA4 := Lib.hid (HRA.out.below hb)
            clear hrb HRA hrr
            have hn := And.intro (HH.out.1.below hb) (HH.out.2.below hb)
            clear hb HH
            refine hK1.out _ _ hn (fun hHeld => ?_)
            clear hK1
            try simp only [Act.put, List.getElem_toArray, List.getElem_cons_zero, List.getElem_cons_succ, List.setIfInBounds_toArray, List.set_cons_zero, List.set_cons_succ]
            refine wpAnyH_ready (rs := [21]) (by kernel_rfl) (by simp) (AllReadyH.cons rfl (fun K1 hK1 => ?_) AllReadyH.nil)
            go_simp
            have HH := Lib.hid hHeld
            clear hHeld
            refine (requal_any ua ub ca cb (runL R1 g1) (by have := runL_len R1 g1; have := HZ.out; omega) x4 HRA4.out HRB.out).mono ?_
            rintro e x5 ⟨rfl, hb⟩
            clear HRA4 HRB
            have hn := And.intro (HH.out.1.below hb) (HH.out.2.below hb)
            clear hb HH
            refine hK1.out _ _ hn (fun hHeld => ?_)
            clear hK1
            try simp only [Act.put, List.getElem_toArray, List.getElem_cons_zero, List.getElem_cons_succ, List.setIfInBounds_toArray, List.set_cons_zero, List.set_cons_succ]
            refine wpAnyH_take (i := 22) (v := (.bool false)) rfl (by kernel_rfl) (by kernel_rfl) (by kernel_rfl) (fun _ _ _ h => h) (Or.inl ⟨by rfl, fun X hS => ?_⟩) hHeld ?_
            · obtain ⟨hS1, hS2⟩ := hS
              obtain ⟨p0, p1, p2, p3, p4⟩ := hS2.all
              obtain ⟨b0, _⟩ := hS1.dp.bv.all
              clear hS1 hS2
              go_simp
            try simp only [Act.put, List.getElem_toArray, List.getElem_cons_zero, List.getElem_cons_succ, List.setIfInBounds_toArray, List.set_cons_zero, List.set_cons_succ]
            refine wpAnyH_take (i := 23) (v := (.bool false)) rfl (by kernel_rfl) (by kernel_rfl) (by kernel_rfl) (fun _ _ _ h => h) (Or.inl ⟨by rfl, fun X hS => ?_⟩) hHeld ?_
            · obtain ⟨hS1, hS2⟩ := hS
              obtain ⟨p0, p1, p2, p3, p4⟩ := hS2.all
              obtain ⟨b0, _⟩ := hS1.dp.bv.all
              clear hS1 hS2
              go_simp
            try simp only [Act.put, List.getElem_toArray, List.getElem_cons_zero, List.getElem_cons_succ, List.setIfInBounds_toArray, List.set_cons_zero, List.set_cons_succ]
            refine wpAnyH_take (i := 24) (v := (.bool false)) rfl (by kernel_rfl) (by kernel_rfl) (by kernel_rfl) (fun _ _ _ h => h) (Or.inl ⟨by rfl, fun X hS => ?_⟩) hHeld ?_
            · obtain ⟨hS1, hS2⟩ := hS
              obtain ⟨p0, p1, p2, p3, p4⟩ := hS2.all
              obtain ⟨b0, _⟩ := hS1.dp.bv.all
              clear hS1 hS2
              go_simp
            try simp only [Act.put, List.getElem_toArray, List.getElem_cons_zero, List.getElem_cons_succ, List.setIfInBounds_toArray, List.set_cons_zero, List.set_cons_succ]
            refine wpAnyH_take (i := 25) (v := (bdyP B0)) rfl (by kernel_rfl) (by kernel_rfl) (by kernel_rfl) (fun _ _ _ h => h) (Or.inl ⟨by rfl, fun X hS => ?_⟩) hHeld ?_
            · obtain ⟨hS1, hS2⟩ := hS
              obtain ⟨p0, p1, p2, p3, p4⟩ := hS2.all
              obtain ⟨b0, _⟩ := hS1.dp.bv.all
              clear hS1 hS2
              go_simp
            try simp only [Act.put, List.getElem_toArray, List.getElem_cons_zero, List.getElem_cons_succ, List.setIfInBounds_toArray, List.set_cons_zero, List.set_cons_succ]
            refine wpAnyH_take (i := 26) (v := (bdyP B0)) rfl (by kernel_rfl) (by kernel_rfl) (by kernel_rfl) (fun _ _ _ h => h) (Or.inl ⟨by rfl, fun X hS => ?_⟩) hHeld ?_
            · obtain ⟨hS1, hS2⟩ := hS
              obtain ⟨p0, p1, p2, p3, p4⟩ := hS2.all
              obtain ⟨b0, _⟩ := hS1.dp.bv.all
              clear hS1 hS2
              go_simp
            try simp only [Act.put, List.getElem_toArray, List.getElem_cons_zero, List.getElem_cons_succ, List.setIfInBounds_toArray, List.set_cons_zero, List.set_cons_succ]
            refine wpAnyH_take (i := 27) (v := (.pointer (some ⟨B0, 0, none⟩))) rfl (by kernel_rfl) (by kernel_rfl) (by kernel_rfl) (fun _ _ _ h => h) (Or.inl ⟨by rfl, fun X hS => ?_⟩) hHeld ?_
            · obtain ⟨hS1, hS2⟩ := hS
              obtain ⟨p0, p1, p2, p3, p4⟩ := hS2.all
              obtain ⟨b0, _⟩ := hS1.dp.bv.all
              clear hS1 hS2
              go_simp
            try simp only [Act.put, List.getElem_toArray, List.getElem_cons_zero, List.getElem_cons_succ, List.setIfInBounds_toArray, List.set_cons_zero, List.set_cons_succ]
            refine wpAnyH_take (i := 28) (v := (.pointer (some ⟨A0, 0, none⟩))) rfl (by kernel_rfl) (by kernel_rfl) (by kernel_rfl) (fun _ _ _ h => h) (Or.inl ⟨by rfl, fun X hS => ?_⟩) hHeld ?_
            · obtain ⟨hS1, hS2⟩ := hS
              obtain ⟨p0, p1, p2, p3, p4⟩ := hS2.all
              obtain ⟨b0, _⟩ := hS1.dp.bv.all
              clear hS1 hS2
              go_simp
            try simp only [Act.put, List.getElem_toArray, List.getElem_cons_zero, List.getElem_cons_succ, List.setIfInBounds_toArray, List.set_cons_zero, List.set_cons_succ]
            refine wpAnyH_take (i := 30) (v := (.pointer (some ⟨P, 0, none⟩))) rfl (by kernel_rfl) (by kernel_rfl) (by kernel_rfl) (fun _ _ _ h => h) (Or.inl ⟨by rfl, fun X hS => ?_⟩) hHeld ?_
            · obtain ⟨hS1, hS2⟩ := hS
              obtain ⟨p0, p1, p2, p3, p4⟩ := hS2.all
              obtain ⟨b0, _⟩ := hS1.dp.bv.all
              clear hS1 hS2
              go_simp
            try simp only [Act.put, List.getElem_toArray, List.getElem_cons_zero, List.getElem_cons_succ, List.setIfInBounds_toArray, List.set_cons_zero, List.set_cons_succ]
            refine wpAnyH_take (i := 31) (v := (.int .i64 1)) rfl (by kernel_rfl) (by kernel_rfl) (by kernel_rfl) (fun _ _ _ h => h) (Or.inl ⟨by rfl, fun X hS => ?_⟩) hHeld ?_
            · obtain ⟨hS1, hS2⟩ := hS
              obtain ⟨p0, p1, p2, p3, p4⟩ := hS2.all
              obtain ⟨b0, _⟩ := hS1.dp.bv.all
              clear hS1 hS2
              go_simp
            try simp only [Act.put, List.getElem_toArray, List.getElem_cons_zero, List.getElem_cons_succ, List.setIfInBounds_toArray, List.set_cons_zero, List.set_cons_succ]
            refine wpAnyH_take (i := 32) (v := (.pointer (some ⟨P, 2, none⟩))) rfl (by kernel_rfl) (by kernel_rfl) (by kernel_rfl) (fun _ _ _ h => h) (Or.inl ⟨by rfl, fun X hS => ?_⟩) hHeld ?_
            · obtain ⟨hS1, hS2⟩ := hS
              obtain ⟨p0, p1, p2, p3, p4⟩ := hS2.all
              obtain ⟨b0, _⟩ := hS1.dp.bv.all
              clear hS1 hS2
              go_simp
            try simp only [Act.put, List.getElem_toArray, List.getElem_cons_zero, List.getElem_cons_succ, List.setIfInBounds_toArray, List.set_cons_zero, List.set_cons_succ]
            refine wpAnyH_take (i := 33) (v := (.int .i64 (g1 : Int))) rfl (by kernel_rfl) (by kernel_rfl) (by kernel_rfl) (fun _ _ _ h => h) (Or.inl ⟨by rfl, fun X hS => ?_⟩) hHeld ?_
            · obtain ⟨hS1, hS2⟩ := hS
              obtain ⟨p0, p1, p2, p3, p4⟩ := hS2.all
              obtain ⟨b0, _⟩ := hS1.dp.bv.all
              clear hS1 hS2
              go_simp
            try simp only [Act.put, List.getElem_toArray, List.getElem_cons_zero, List.getElem_cons_succ, List.setIfInBounds_toArray, List.set_cons_zero, List.set_cons_succ]
            refine wpAnyH_take (i := 34) (v := (.int .i64 (1 + (g1 : Int)))) rfl (by kernel_rfl) (by kernel_rfl) (by kernel_rfl) (fun _ _ _ h => h) (Or.inl ⟨by rfl, fun X hS => ?_⟩) hHeld ?_
            · obtain ⟨hS1, hS2⟩ := hS
              obtain ⟨p0, p1, p2, p3, p4⟩ := hS2.all
              obtain ⟨b0, _⟩ := hS1.dp.bv.all
              clear hS1 hS2
              have hwg := HWG.out
              go_simp
            try simp only [Act.put, List.getElem_toArray, List.getElem_cons_zero, List.getElem_cons_succ, List.setIfInBounds_toArray, List.set_cons_zero, List.set_cons_succ]
            refine wpAnyH_ready (rs := [29]) (by kernel_rfl) (by simp) (AllReadyH.cons rfl (fun K1 hK1 => ?_) AllReadyH.nil)
            go_simp
            have HH := Lib.hid hHeld
            clear hHeld
            refine (bcommitted HH.out.1.dp.bv HH.out.1.dp.bu).mono ?_
            rintro e x6 ⟨rfl, hb⟩
            have hn := And.intro (HH.out.1.below hb) (HH.out.2.below hb)
            clear hb HH
            refine hK1.out _ _ hn (fun hHeld => ?_)
            clear hK1
            try simp only [Act.put, List.getElem_toArray, List.getElem_cons_zero, List.getElem_cons_succ, List.setIfInBounds_toArray, List.set_cons_zero, List.set_cons_succ]
            refine wpAnyH_take (i := 35) (v := (.bool false)) rfl (by kernel_rfl) (by kernel_rfl) (by kernel_rfl) (fun _ _ _ h => h) (Or.inl ⟨by rfl, fun X hS => ?_⟩) hHeld ?_
            · obtain ⟨hS1, hS2⟩ := hS
              obtain ⟨p0, p1, p2, p3, p4⟩ := hS2.all
              obtain ⟨b0, _⟩ := hS1.dp.bv.all
              clear hS1 hS2
              go_simp
            try simp only [Act.put, List.getElem_toArray, List.getElem_cons_zero, List.getElem_cons_succ, List.setIfInBounds_toArray, List.set_cons_zero, List.set_cons_succ]
            refine wpAnyH_take (i := 36) (v := (.bool false)) rfl (by kernel_rfl) (by kernel_rfl) (by kernel_rfl) (fun _ _ _ h => h) (Or.inl ⟨by rfl, fun X hS => ?_⟩) hHeld ?_
            · obtain ⟨hS1, hS2⟩ := hS
              obtain ⟨p0, p1, p2, p3, p4⟩ := hS2.all
              obtain ⟨b0, _⟩ := hS1.dp.bv.all
              clear hS1 hS2
              go_simp
            try simp only [Act.put, List.getElem_toArray, List.getElem_cons_zero, List.getElem_cons_succ, List.setIfInBounds_toArray, List.set_cons_zero, List.set_cons_succ]
            refine wpAnyH_done (by kernel_rfl) ?_ _
            have HF := Lib.hid hHeld
            clear hHeld
            obtain ⟨o3, q3, g3, r3, v3, hk3⟩ := HF.out.1.bq
            obtain ⟨e0, e1, e2, e3, e4⟩ := hk3.all
            obtain ⟨f0, f1, f2, f3, f4⟩ := hk3.free
            obtain ⟨p0', p1', p2', p3', p4'⟩ := HF.out.2.all
            clear hk3
            have hst := HF.out.1.store
            rw [HM1.out, HR1.out] at hst
            have HST2 := Lib.hid hst
            clear hst
            go_upto_region 28 with fail
            change Code.wp _ _ _ _ (set5 x6 Q (.int .i64 1) (.int .i64 (n : Int)) (.int .i64 (g1 : Int)) (.int .i64 r1) (.slice u1 m1 tc1))
            obtain ⟨z, hz⟩ : ∃ z, set5 x6 Q (.int .i64 1) (.int .i64 (n : Int)) (.int .i64 (g1 : Int)) (.int .i64 r1) (.slice u1 m1 tc1) = z := ⟨_, rfl⟩
            rw [hz] at HST2 ⊢
            clear hz e0 e1 e2 e3 e4 f0 f1 f2 f3 f4 p0' p1' p2' p3' p4' HF
            go_wp2_with fail
            go_roundw
            case rel => exact ⟨i + 1, A0, B0, g1, R1, s1, u1, tc1, by omega, by go_num, rfl, HST2.out⟩
            case measure => simp [intOf]; omega
        · go_wp2_with fail
          go_ret
          exact ⟨rfl, HV.out.bs.bel⟩
end Go.Proofs.YtgpgclhghljidaaGreat.Bt
