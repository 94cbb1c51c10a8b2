import Derived.Test.YtfemgekhpcgliaaGreatCmJ
/- CensusGives. (Written by gen_cnq.py.) -/
namespace Go.Proofs.YtfemgekhpcgliaaGreat.Bt
open Go Go.RowKit Go.Shelf
set_option linter.unusedVariables false
set_option linter.unusedSimpArgs false
theorem PW.went {A B n : Nat} {s s' : ASt} {w0 x z : World} (h : PW A B n s w0 x) (hv : BV B A n s' z) (hg : Went A x z) : PW A B n s' w0 z := ⟨hv, h.bs.went hg⟩
/-- what Alloc leaves where nothing is refused -/
theorem gives_cases {B A n g k : Nat} {R : Runs} {s : ASt} {w w' : World} {e : Ending} (hr : refB s = false) (hB : Bud (n + 1) g g R g s) (hk : k ≤ 10) (hz : g ≤ n) (h : AllocPost B A n g k R s w e w') :
    (∃ (x g1 : Nat) (R' : Runs) (s' : ASt), e = .returned (.tuple #[.int .i64 (adr x : Int), .int .i64 0]) ∧ canB n g k R = true ∧ BV B A n s' w' ∧ Went A w w' ∧ Bud (n + 1) g1 g1 R' g1 s' ∧ cntL (stA R' g1 n) 3 = cntL (stA R g n) 3 + 2 ^ k) ∨
    (e = .returned (.tuple #[.int .i64 0, .int .i64 4]) ∧ canB n g k R = false ∧ BV B A n s w' ∧ Went A w w') := by
  rcases h with ⟨g1, x, l, R1, s0, ⟨p1, p2, p3, p4, p5, p6⟩, rfl, R', s', h1, h2, h3, h4, h5, h6, h7⟩ | ⟨rfl, q0, ⟨q1, q2, q3⟩ | ⟨_, q2, _⟩⟩
  · have hg1 : g1 ≤ n := by have := h2.gG; omega
    have ha := p4.al _ _ _ p2
    have hpw : 2 ^ k ≤ 2 ^ l := Nat.pow_le_pow_right (by decide) p1
    refine .inl ⟨x, g1, R', s', rfl, ?_, h1, h3, h2, cntA_more (t := true) (l := l) hB.ti hz h2.ti hg1 h4 (fun i l' hi => ?_) (by omega)⟩
    · unfold canB
      rcases p6 with ⟨rfl, rfl, _⟩ | ⟨c1, c2, c3, _⟩
      · rw [(fitB_iff p4).2 ⟨x, l, p2, p1⟩]; rfl
      · rw [decide_eq_true (by omega)]; simp
    · have hi1 := (p3 i l').2 hi
      rcases Nat.lt_trichotomy i x with c | c | c
      · exact .inl (p4.dj _ _ _ _ _ _ hi1 p2 c)
      · subst c; rw [hi1] at p2; cases p2
      · have := p4.dj _ _ _ _ _ _ p2 hi1 c; exact .inr (by omega)
  · refine .inr ⟨rfl, ?_, q2, q3⟩
    unfold canB
    rw [(fitB_no hB.ti).2 q0, decide_eq_false (by omega)]; rfl
  · rw [hr] at q2; cases q2
set_option maxHeartbeats 16000000 in
set_option maxRecDepth 100000 in
theorem gives9 (cap : Int) (p0 : Option Addr) (c0 : Nat) (acts : List Act8) (hlen : acts.length ≤ 9223372036854775807) (order : Int) (w : World) (h : Acts8At w p0 acts) :
    Calls Tryz.prog 5 #[.int .i64 cap, .slice p0 acts.length c0, .int .i64 order] w fun e w' => e = .returned (.bool true) ∧ Below w.heap.size w w' := by
  have HACT := Lib.hid h
  clear h
  go_enter Tryz.func5, Tryz.ntmps5
  go_wp2_with fail
  refine (awake9 _).mono ?_
  rintro e w0 ⟨rfl, hb⟩
  have HB0 := Lib.hid hb
  have HAC0 := Lib.hid (HACT.out.below hb)
  clear hb
  by_cases h60 : (60 : Int) < (acts.length : Int)
  · go_wp2_with fail
    go_ret
    exact ⟨rfl, HB0.out⟩
  have HPL := Lib.hid (play9 cap p0 c0 acts (by omega) _ HAC0.out)
  go_wp2_with fail
  refine HPL.out.mono ?_
  rintro e w1 (⟨rfl, hb⟩ | ⟨n, A, B, g, R, s, u, tc, rfl, hdp, hbs⟩)
  · have hb2 := HB0.out.trans (hb.mono HB0.out.size)
    have HB2 := Lib.hid (hb2.alloc hb2.size (.cells (bqA 0 0 0 0 (.slice none 0 0)) 33))
    clear hb hb2 HPL
    go_wp2_with fail
    go_ret
    exact ⟨rfl, HB2.out⟩
  obtain ⟨m, hm⟩ : ∃ m, (tkT R g).length = m := ⟨_, rfl⟩
  rw [hm]
  have hz := hdp.bu.sz hdp.bv.2.1
  have HPE1 : Hid (PW A B n s w (w1.alloc (.cells (bqA 1 (n : Int) (g : Int) (rfI s) (.slice u m tc)) 33))) := Lib.hid (PW.below ⟨hdp.bv, hbs.rebase HB0.out⟩ (bel1 w1 _))
  have HZ := Lib.hid (And.intro hz.2.1 hz.2.2.1)
  have HBU := Lib.hid (hdp.bu.refuse true (1 : Int).toNat)
  clear hdp hbs hm hz HPL HAC0 HACT
  go_upto_region 6 with fail
  change Code.wp _ _ _ _ (w1.alloc (.cells (bqA 1 (n : Int) (g : Int) (rfI s) (.slice u m tc)) 33))
  obtain ⟨w2, hw2⟩ : ∃ y, w1.alloc (.cells (bqA 1 (n : Int) (g : Int) (rfI s) (.slice u m tc)) 33) = y := ⟨_, rfl⟩
  rw [hw2] at HPE1 ⊢
  clear hw2
  obtain ⟨b0, _⟩ := HPE1.out.bv.all
  go_wp2_with fail
  refine (on_refuse8 HPE1.out.bv.1 1 (by omega)).mono ?_
  rintro e w3 ⟨rfl, ho, hg⟩
  have hv3 := HPE1.out.bv.went ho hg rfl
  have HPE3 := Lib.hid (HPE1.out.went hv3 hg)
  obtain ⟨s1, hs1⟩ : ∃ s1, ({ s with rf := true, lf := (1 : Int).toNat } : ASt) = s1 := ⟨_, rfl⟩
  have HRF : Hid (refB s1 = false) := Lib.hid (by rw [← hs1]; rfl)
  rw [hs1] at HPE3 HBU
  clear ho hg hv3 hs1 b0 HPE1
  have HRI := Lib.hid fun X (hX : BV B A n s1 X) => cright hX HBU.out
  obtain ⟨c3, hc3⟩ : ∃ c3, cntL (stA R g n) 3 = c3 := ⟨_, rfl⟩
  have HC3 : Hid (∀ X, BV B A n s1 X → Calls Tryz.prog 25 #[bdyP B, .int .u8 3] X (Gives (.int .i64 (c3 : Int)) X)) := Lib.hid fun X hX => hc3 ▸ ccount hX HBU.out 3 ⟨by omega, by omega⟩
  have H3 := Lib.hid hc3
  have HC3B : Hid (c3 ≤ 81) := Lib.hid (by have := cntL_le (stA R g n) 3; rw [stA_len] at this; have := HZ.out; omega)
  clear hc3
  by_cases hko : order < 0 ∨ 10 < order
  · have HCA := Lib.hid fun X (hX : BV B A n s1 X) => ccan_out B X order hko
    have HAL := Lib.hid fun X (hX : BV B A n s1 X) => balloc_out hX order hko
    have hdd : ¬ (0 ≤ order ∧ order ≤ 10) := by omega
    go_wp2_with fail
    refine (HCA.out _ HPE3.out.bv).mono ?_
    rintro e w4 ⟨rfl, hb⟩
    have HPE4 := Lib.hid (HPE3.out.below hb)
    clear hb HPE3 HCA
    go_wp2_with fail
    refine (HRI.out _ HPE4.out.bv).mono ?_
    rintro e w5 ⟨rfl, hb⟩
    have HPE5 := Lib.hid (HPE4.out.below hb)
    clear hb HPE4
    go_wp2_with fail
    refine (HC3.out _ HPE5.out.bv).mono ?_
    rintro e w6 ⟨rfl, hb⟩
    have HPE6 := Lib.hid (HPE5.out.below hb)
    clear hb HPE5
    go_wp2_with fail

    refine (HAL.out _ HPE6.out.bv).mono ?_
    rintro e w7 ⟨rfl, rfl⟩
    have HPE7 := Lib.hid HPE6.out
    clear HPE6 HAL
    rcases hko with hko | hko
    · have hd0 : ¬ (0 ≤ order) := by omega
      go_wp2_with fail
      refine (HRI.out _ HPE7.out.bv).mono ?_
      rintro e w8 ⟨rfl, hb⟩
      have HPE8 := Lib.hid (HPE7.out.below hb)
      clear hb HPE7
      go_wp2_with fail
      refine (HC3.out _ HPE8.out.bv).mono ?_
      rintro e w9 ⟨rfl, hb⟩
      have HPE9 := Lib.hid (HPE8.out.below hb)
      clear hb HPE8
      go_wp2_with fail
      go_ret
      exact ⟨rfl, HPE9.out.bs.bel⟩

    · have hd0 : 0 ≤ order := by omega
      have hd1 : ¬ (order ≤ 10) := by omega
      have hd2 : decide (order ≤ 10) = false := decide_eq_false hd1
      go_wp2_with fail
      refine (HRI.out _ HPE7.out.bv).mono ?_
      rintro e w8 ⟨rfl, hb⟩
      have HPE8 := Lib.hid (HPE7.out.below hb)
      clear hb HPE7
      go_wp2_with fail
      refine (HC3.out _ HPE8.out.bv).mono ?_
      rintro e w9 ⟨rfl, hb⟩
      have HPE9 := Lib.hid (HPE8.out.below hb)
      clear hb HPE8
      go_wp2_with fail
      go_ret
      exact ⟨rfl, HPE9.out.bs.bel⟩

  · obtain ⟨k, rfl⟩ := Int.eq_ofNat_of_zero_le (show 0 ≤ order by omega)
    have hk : k ≤ 10 := by omega
    have hk1 : (k : Int) ≤ 10 := by omega
    have hk0 : 0 ≤ (k : Int) := by omega
    have HK := Lib.hid hk
    have HCA0 := Lib.hid fun X (hX : BV B A n s1 X) => ccan hX HBU.out k hk
    have HAL := Lib.hid fun X (hX : BV B A n s1 X) => balloc_any hX HBU.out k hk
    obtain ⟨cb, hcb⟩ : ∃ cb, canB n g k R = cb := ⟨_, rfl⟩
    rw [hcb] at HCA0
    have HCB := Lib.hid hcb
    have HCA := HCA0
    clear hko hk hcb HCA0
    go_wp2_with fail
    refine (HCA.out _ HPE3.out.bv).mono ?_
    rintro e w4 ⟨rfl, hb⟩
    have HPE4 := Lib.hid (HPE3.out.below hb)
    clear hb HPE3 HCA
    go_wp2_with fail
    refine (HRI.out _ HPE4.out.bv).mono ?_
    rintro e w5 ⟨rfl, hb⟩
    have HPE5 := Lib.hid (HPE4.out.below hb)
    clear hb HPE4
    go_wp2_with fail
    refine (HC3.out _ HPE5.out.bv).mono ?_
    rintro e w6 ⟨rfl, hb⟩
    have HPE6 := Lib.hid (HPE5.out.below hb)
    clear hb HPE5
    go_wp2_with fail

    refine (HAL.out _ HPE6.out.bv).mono ?_
    intro e w7 hap
    rcases gives_cases HRF.out HBU.out HK.out HZ.out.2 hap with ⟨x, g1, R', s', rfl, hc, hbv, hwt, hbu, hcn⟩ | ⟨rfl, hc, hbv, hwt⟩
    · rw [HCB.out] at hc
      subst hc
      rw [H3.out] at hcn
      have HPE7 := Lib.hid (HPE6.out.went hbv hwt)
      have HRI2 := Lib.hid fun X (hX : BV B A n s' X) => cright hX hbu
      obtain ⟨P, hP⟩ : ∃ P, 2 ^ k = P := ⟨_, rfl⟩
      rw [hP] at hcn
      have HCT : Hid (∀ X, BV B A n s' X → Calls Tryz.prog 25 #[bdyP B, .int .u8 3] X (Gives (.int .i64 ((c3 + P : Nat) : Int)) X)) := Lib.hid fun X hX => hcn ▸ ccount hX hbu 3 ⟨by omega, by omega⟩
      have hPb : P ≤ 1024 := by rw [← hP]; exact Nat.pow_le_pow_right (by decide) HK.out
      have hc81 := HC3B.out
      have h2k : ((2 : Int) ^ k) = (P : Int) := by rw [← hP]; push_cast; rfl
      have HM1 : Hid (IntKind.i64.wrap ((2 : Int) ^ min k 64) = (P : Int) ∧ IntKind.i64.wrap ((2 : Int) ^ k) = (P : Int)) := Lib.hid ⟨by rw [show min k 64 = k by have := HK.out; omega, h2k, IntKind.wrap_i64]; omega, by rw [h2k, IntKind.wrap_i64]; omega⟩
      have HM2 : Hid (IntKind.i64.wrap ((c3 : Int) + (P : Int)) = ((c3 + P : Nat) : Int)) := Lib.hid (by rw [IntKind.wrap_i64]; omega)
      clear hap hbv hwt hbu hcn hP hPb hc81 h2k HPE6 HAL
      go_wp2_with fail
      refine (HRI2.out _ HPE7.out.bv).mono ?_
      rintro e w9 ⟨rfl, hb⟩
      have HPE9 := Lib.hid (HPE7.out.below hb)
      clear hb HPE7
      go_upto_region 15 with fail
      refine wp_region_held_drew (S := fun X : World => X.cell? ⟨B, 0, none⟩ = some (.pointer (some ⟨A, 0, none⟩)) ∧ X.cell? ⟨B, 1, none⟩ = some (.pointer (some ⟨A, 0, none⟩))) (by kernel_rfl) ⟨(HPE9.out.below (Below.refl w9.heap.size w9).drew).bv.all.1, (HPE9.out.below (Below.refl w9.heap.size w9).drew).bv.all.2.1⟩ (fun hHeld => ?_)
      have HPE9d := Lib.hid (HPE9.out.below (Below.refl w9.heap.size w9).drew)
      clear HPE9
      generalize w9.drew = x0 at *
      refine wpAnyH_take (i := 0) (v := (bdyP B)) rfl (by kernel_rfl) (by kernel_rfl) (by kernel_rfl) (fun _ _ _ h => h) (Or.inl ⟨by rfl, fun X hS => ?_⟩) hHeld ?_
      · obtain ⟨b0, b1⟩ := hS
        go_simp
      try simp only [Act.put, List.getElem_toArray, List.getElem_cons_zero, List.getElem_cons_succ, List.setIfInBounds_toArray, List.set_cons_zero, List.set_cons_succ]
      refine wpAnyH_take (i := 2) (v := (.int .i64 (c3 : Int))) rfl (by kernel_rfl) (by kernel_rfl) (by kernel_rfl) (fun _ _ _ h => h) (Or.inl ⟨by rfl, fun X hS => ?_⟩) hHeld ?_
      · obtain ⟨b0, b1⟩ := hS
        go_simp
      try simp only [Act.put, List.getElem_toArray, List.getElem_cons_zero, List.getElem_cons_succ, List.setIfInBounds_toArray, List.set_cons_zero, List.set_cons_succ]
      refine wpAnyH_take (i := 3) (v := (.int .i64 (k : Int))) rfl (by kernel_rfl) (by kernel_rfl) (by kernel_rfl) (fun _ _ _ h => h) (Or.inl ⟨by rfl, fun X hS => ?_⟩) hHeld ?_
      · obtain ⟨b0, b1⟩ := hS
        go_simp
      try simp only [Act.put, List.getElem_toArray, List.getElem_cons_zero, List.getElem_cons_succ, List.setIfInBounds_toArray, List.set_cons_zero, List.set_cons_succ]
      refine wpAnyH_take (i := 4) (v := (.int .i64 (P : Int))) rfl (by kernel_rfl) (by kernel_rfl) (by kernel_rfl) (fun _ _ _ h => h) (Or.inl ⟨by rfl, fun X hS => ?_⟩) hHeld ?_
      · obtain ⟨b0, b1⟩ := hS
        obtain ⟨hm1, hm2⟩ := HM1.out
        go_simp
      try simp only [Act.put, List.getElem_toArray, List.getElem_cons_zero, List.getElem_cons_succ, List.setIfInBounds_toArray, List.set_cons_zero, List.set_cons_succ]
      refine wpAnyH_take (i := 5) (v := (.int .i64 ((c3 + P : Nat) : Int))) rfl (by kernel_rfl) (by kernel_rfl) (by kernel_rfl) (fun _ _ _ h => h) (Or.inl ⟨by rfl, fun X hS => ?_⟩) hHeld ?_
      · obtain ⟨b0, b1⟩ := hS
        have hm1 := HM2.out
        go_simp
      try simp only [Act.put, List.getElem_toArray, List.getElem_cons_zero, List.getElem_cons_succ, List.setIfInBounds_toArray, List.set_cons_zero, List.set_cons_succ]
      refine wpAnyH_ready (rs := [1]) (by kernel_rfl) (by simp) (AllReadyH.cons rfl (fun K1 hK1 => ?_) AllReadyH.nil)
      go_simp
      have HH := Lib.hid hHeld
      clear hHeld
      refine (HCT.out _ HPE9d.out.bv).mono ?_
      rintro e x1 ⟨rfl, hb⟩
      have HPF := Lib.hid (HPE9d.out.below hb)
      have hrb := And.intro HPF.out.bv.all.1 HPF.out.bv.all.2.1
      clear HH hb HPE9d
      refine hK1.out _ _ hrb (fun hHeld => ?_)
      clear hK1
      try simp only [Act.put, List.getElem_toArray, List.getElem_cons_zero, List.getElem_cons_succ, List.setIfInBounds_toArray, List.set_cons_zero, List.set_cons_succ]
      refine wpAnyH_take (i := 6) (v := (.bool true)) rfl (by kernel_rfl) (by kernel_rfl) (by kernel_rfl) (fun _ _ _ h => h) (Or.inl ⟨by rfl, fun X hS => ?_⟩) hHeld ?_
      · obtain ⟨b0, b1⟩ := hS
        go_simp
      try simp only [Act.put, List.getElem_toArray, List.getElem_cons_zero, List.getElem_cons_succ, List.setIfInBounds_toArray, List.set_cons_zero, List.set_cons_succ]
      refine wpAnyH_take (i := 7) (v := (.bool true)) rfl (by kernel_rfl) (by kernel_rfl) (by kernel_rfl) (fun _ _ _ h => h) (Or.inl ⟨by rfl, fun X hS => ?_⟩) hHeld ?_
      · obtain ⟨b0, b1⟩ := hS
        go_simp
      try simp only [Act.put, List.getElem_toArray, List.getElem_cons_zero, List.getElem_cons_succ, List.setIfInBounds_toArray, List.set_cons_zero, List.set_cons_succ]
      refine wpAnyH_done (by kernel_rfl) ?_ _
      clear hHeld

      go_wp2_with fail
      go_ret
      exact ⟨rfl, HPF.out.bs.bel⟩
    · rw [HCB.out] at hc
      subst hc
      have HPE7 := Lib.hid (HPE6.out.went hbv hwt)
      clear hap hbv hwt HPE6 HAL
      go_wp2_with fail
      refine (HRI.out _ HPE7.out.bv).mono ?_
      rintro e w8 ⟨rfl, hb⟩
      have HPE8 := Lib.hid (HPE7.out.below hb)
      clear hb HPE7
      go_wp2_with fail
      refine (HC3.out _ HPE8.out.bv).mono ?_
      rintro e w9 ⟨rfl, hb⟩
      have HPE9 := Lib.hid (HPE8.out.below hb)
      clear hb HPE8
      go_wp2_with fail
      go_ret
      exact ⟨rfl, HPE9.out.bs.bel⟩

end Go.Proofs.YtfemgekhpcgliaaGreat.Bt
