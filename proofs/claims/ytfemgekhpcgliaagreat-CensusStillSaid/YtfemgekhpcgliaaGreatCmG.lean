/- Several texts in one: BtG; BtH. -/
import Derived.Test.YtfemgekhpcgliaaGreatCmF
/- The statement's Do: Alloc. -/
namespace Go.Proofs.YtfemgekhpcgliaaGreat.Bt
open Go Go.RowKit Go.Shelf
set_option linter.unusedVariables false
set_option linter.unusedSimpArgs false
theorem alloc_both {A B n g : Nat} {R : Runs} {s : ASt} {u : Option Addr} {w : World} (hp : DP A B n g R s u w) (kn : Nat) (hk : kn ≤ 10) :
    Calls Tryz.prog 33 #[bdyP B, .int .i64 (kn : Int)] w fun e w' =>
      (∃ (g1 x l : Nat) (R1 R' : Runs) (s' : ASt), e = .returned (.tuple #[.int .i64 (adr x : Int), .int .i64 0]) ∧ Sc n g kn (rfI s) R g1 x l (rfI s') R1 ∧ g1 ≤ n ∧ x < g1 ∧ tkT R' g1 = outL (tkT R g) x kn ∧ BV B A n s' w' ∧ Bud (n + 1) g1 g1 R' g1 s' ∧ Went A w w') ∨
      (∃ s', e = .returned (.tuple #[.int .i64 0, .int .i64 4]) ∧ Least R g kn none ∧ growQ n g (rfI s) kn (upN g (2 ^ kn)) = ((g : Int), rfI s', 4) ∧ DP A B n g R s' u w' ∧ Went A w w') := by
  refine (balloc_any hp.bv hp.bu kn hk).mono ?_
  rintro e w' (⟨g1, x, l, R1, s0, hpk, rfl, R', s', h1, h2, h3, h4, h5, h6, h7⟩ | ⟨rfl, hn, ⟨q1, q2, q3⟩ | ⟨q1, q2, q3⟩⟩)
  · obtain ⟨p1, p2, p3, p4, p5, p6⟩ := hpk
    have hr : rfI s' = rfI s0 := rfI_same h6 h7
    have hg1 := h2.sz h1.2.1
    refine .inl ⟨g1, x, l, R1, R', s', rfl, ⟨p4, p3, p5, ?_⟩, by omega, p4.lt p2, ?_, h1, h2, h3⟩
    · rcases p6 with ⟨rfl, rfl, rfl⟩ | ⟨c1, c2, c3, c4, rfl⟩
      · exact .inl ⟨rfl, rfl, hr⟩
      · refine .inr ⟨c1, ?_⟩
        unfold growQ
        rw [if_neg (by omega), (rfI_B s).2 c4, if_neg (by decide), hr, rfI_ref, c2]
    · refine outL_is (l := 0) (c := 0) hp.bu.ti h2.ti h4 fun l c => ?_
      have := (p3 x l).2 c
      rw [p2] at this
      cases (some_of this).2
  · refine .inr ⟨s, rfl, hn, ?_, ⟨q2, hp.bu, hp.rn.went hp.bv.1 q3⟩, q3⟩
    unfold growQ; rw [if_pos (by omega)]
  · refine .inr ⟨refS s, rfl, hn, ?_, ⟨q3.1, q3.2.1, hp.rn.went hp.bv.1 q3.2.2⟩, q3.2.2⟩
    unfold growQ; rw [if_neg (by omega), (rfI_B s).1 q2, if_pos (by decide), rfI_ref]
set_option maxHeartbeats 16000000 in
set_option maxRecDepth 100000 in
theorem do_alloc0 {A B n g : Nat} {R : Runs} {s : ASt} {u : Option Addr} {tc : Nat} {w : World} (d k nn : Int) (hm : Int.tmod d 8 = 0) (hd : 0 ≤ d ∧ d ≤ 255) (hk : -9223372036854775808 ≤ k ∧ k ≤ 9223372036854775807) (hnn : -9223372036854775808 ≤ nn ∧ nn ≤ 9223372036854775807) (hp : DP A B n g R s u w) :
    Calls Tryz.prog 15 #[bdyP B, bqV 1 (n : Int) (g : Int) (rfI s) (.slice u (tkT R g).length tc), .agg #[.int .u8 d, .int .i64 k, .int .i64 nn]] w (DoP A B n w) := by
  have hz := hp.bu.sz hp.bv.2.1
  have hr := rfI_le hp.bv.1
  have HP := Lib.hid hp
  have HB := Lib.hid (do_begin (tc := tc) d k nn hp)
  have HZ := Lib.hid hz
  have HR := Lib.hid hr
  have HKK := Lib.hid hk; have HNN := Lib.hid hnn
  obtain ⟨m, hmm⟩ : ∃ m, (tkT R g).length = m := ⟨_, rfl⟩
  have HM := Lib.hid hmm
  obtain ⟨r, hrr⟩ : ∃ r, rfI s = r := ⟨_, rfl⟩
  have HRR := Lib.hid hrr
  rw [hmm, hrr] at HB
  rw [hmm, hrr]
  rw [hrr] at HR
  clear hp hz hr hmm hrr hk hnn
  go_enter Tryz.func15, Tryz.ntmps15
  go_upto_region 1 with fail
  obtain ⟨y, hy⟩ : ∃ y, ((w.alloc (.cells (bqA 1 (n : Int) (g : Int) r (.slice u m tc)) 33)).alloc (.cells (acA d k nn) 37)).alloc (.cells (bqA 0 0 0 0 (.slice none 0 0)) 33) = y := ⟨_, rfl⟩
  obtain ⟨hpy, hly, hny⟩ := HB.out y hy.symm
  rw [hy]
  obtain ⟨D, hD⟩ : ∃ D, w.heap.size = D := ⟨_, rfl⟩
  obtain ⟨C, hC⟩ : ∃ C, w.heap.size + 1 = C := ⟨_, rfl⟩
  obtain ⟨E, hE⟩ : ∃ E, w.heap.size + 2 = E := ⟨_, rfl⟩
  have hE2 : w.heap.size + 1 + 1 = E := hE
  rw [hE, hC, hD] at hly hny
  rw [hE2, hC, hD]
  have HPY := Lib.hid hpy; have HLY := Lib.hid hly; have HDN := Lib.hid hny
  obtain ⟨d0, d1, d2, d3, d4⟩ := hly.bd.all
  obtain ⟨c0, c1, c2⟩ := hly.bc.all
  clear hpy hly hny hy hD hC hE hE2 HB
  by_cases hk10 : k < 0 ∨ 10 < k
  · have HQ := Lib.hid fun X => ball_arg 1 (n : Int) (g : Int) r u m tc k hk10 X
    go_wp2_with fail
    refine (balloc_out HPY.out.bv k hk10).mono ?_
    rintro e w' ⟨rfl, rfl⟩
    go_wp2_with fail
    refine (HQ.out _).mono ?_
    rintro e x2 ⟨rfl, hb⟩
    have HP2 := Lib.hid (HPY.out.below (hb.alloc hb.size (.cells (bqA 1 (n : Int) (g : Int) r (.slice u m tc)) 33)))
    have HL := Lib.hid (HLY.out.below HPY.out.bv.1 (hb.alloc hb.size (.cells (bqA 1 (n : Int) (g : Int) r (.slice u m tc)) 33)))
    have HG : Hid (BqAt x2.heap.size 1 (n : Int) (g : Int) r (.slice u m tc) (x2.alloc (.cells (bqA 1 (n : Int) (g : Int) r (.slice u m tc)) 33))) := Lib.hid (heap_new x2 _)
    clear hb d0 d1 d2 d3 d4 c0 c1 c2 HQ
    go_upto_region 5 with fail
    obtain ⟨x3, hx3⟩ : ∃ x3, x2.alloc (.cells (bqA 1 (n : Int) (g : Int) r (.slice u m tc)) 33) = x3 := ⟨_, rfl⟩
    obtain ⟨G, hG⟩ : ∃ G, x2.heap.size = G := ⟨_, rfl⟩
    rw [hx3] at HP2 HL HG ⊢
    rw [hG] at HG ⊢
    clear hx3 hG
    have HDO := Lib.hid (do_end (tc := tc) HP2.out HL.out HDN.out)
    rw [HM.out, HRR.out] at HDO
    obtain ⟨k0, k1, k2, k3, k4⟩ := HG.out.all
    obtain ⟨d0, d1, d2, d3, d4⟩ := HL.out.bd.all
    obtain ⟨e0, e1, e2, e3, e4⟩ := HL.out.be.all
    obtain ⟨f0, f1, f2, f3, f4⟩ := HL.out.be.free
    go_region
    go_wp2_with fail
    change bodyPost _ _ _ _ _ (set5 x3 E (.int .i64 1) (.int .i64 (n : Int)) (.int .i64 (g : Int)) (.int .i64 r) (.slice u m tc)).drew
    obtain ⟨z, hzz⟩ : ∃ z, set5 x3 E (.int .i64 1) (.int .i64 (n : Int)) (.int .i64 (g : Int)) (.int .i64 r) (.slice u m tc) = z := ⟨_, rfl⟩
    obtain ⟨hz1, hz2⟩ := HDO.out z hzz.symm
    have HZ2 := Lib.hid hz2.drew
    have hz3 : BqAt E 1 (n : Int) (g : Int) r (.slice u m tc) z.drew := hz1.below (Below.refl z.heap.size z).drew
    rw [hzz]
    clear hzz hz2 hz1 d0 d1 d2 d3 d4 e0 e1 e2 e3 e4 f0 f1 f2 f3 f4
    obtain ⟨gg0, gg1, gg2, gg3, gg4⟩ := hz3.all
    exact bodyPost_ret (v := .tuple #[bqV 1 (n : Int) (g : Int) r (.slice u m tc), .bool true]) (by simp [results, Tryz.results15, go_sem, gg0, gg1, gg2, gg3, gg4]) rfl HZ2.out

  · obtain ⟨kn, rfl⟩ := Int.eq_ofNat_of_zero_le (show 0 ≤ k by omega)
    have hkn : kn ≤ 10 := by omega
    have HKN := Lib.hid hkn
    have HG := Lib.hid (alloc_both HPY.out kn hkn)
    rw [HRR.out] at HG
    clear hk10 hkn
    go_wp2_with fail
    refine HG.out.mono ?_
    rintro e x1 (⟨g1, x, l, R1, R', s', rfl, hsc, hg1, hxg, ht, hbv, hbu, hg⟩ | ⟨s', rfl, hn, hq, hp1, hg⟩)
    · have HRN := Lib.hid (HPY.out.rn.went HPY.out.bv.1 hg)
      have HL1 := Lib.hid (HLY.out.went HPY.out.bv.1 hg)
      have HBB := Lib.hid (And.intro hbv hbu)
      have HT := Lib.hid ht
      obtain ⟨r', hr'⟩ : ∃ r', rfI s' = r' := ⟨_, rfl⟩
      have HR' := Lib.hid hr'
      rw [hr'] at hsc
      have HQ := Lib.hid fun X (hX : RnAt X u (tkT R g)) => ball_ok 1 r HR.out n g (by have := HZ.out; omega) (by have := HZ.out; omega) u tc R HPY.out.bu.ti kn HKN.out X hX g1 x l r' R1 hsc (by have := HZ.out; omega)
      rw [HM.out] at HQ
      have HXB : Hid (x < g1 ∧ g1 ≤ 80) := Lib.hid (by have := HZ.out; omega)
      clear hsc hg1 hxg ht hbv hbu hg hr' d0 d1 d2 d3 d4 c0 c1 c2 HG
      obtain ⟨d0, d1, d2, d3, d4⟩ := HL1.out.bd.all
      obtain ⟨c0, c1, c2⟩ := HL1.out.bc.all
      go_wp2_with fail
      refine (HQ.out _ HRN.out).mono ?_
      rintro e x2 ⟨u', cap', rfl, hru, hb⟩
      obtain ⟨m', hm'⟩ : ∃ m', (outL (tkT R g) x kn).length = m' := ⟨_, rfl⟩
      have HM' : Hid ((tkT R' g1).length = m') := Lib.hid (by rw [HT.out]; exact hm')
      rw [hm']
      have hb3 := hb.alloc hb.size (.cells (bqA 1 (n : Int) (g1 : Int) r' (.slice u' m' cap')) 33)
      have HP2 : Hid (DP A B n g1 R' s' u' (x2.alloc (.cells (bqA 1 (n : Int) (g1 : Int) r' (.slice u' m' cap')) 33))) := Lib.hid ⟨HBB.out.1.below hb3, HBB.out.2, by rw [HT.out]; exact hru.below (bel1 x2 _)⟩
      have HL := Lib.hid (HL1.out.below HBB.out.1.1 hb3)
      have HGE : Hid (x2.heap.size ≠ E) := Lib.hid (Nat.ne_of_gt (HL1.out.below HBB.out.1.1 hb).be.lt)
      have HG : Hid (BqAt x2.heap.size 1 (n : Int) (g1 : Int) r' (.slice u' m' cap') (x2.alloc (.cells (bqA 1 (n : Int) (g1 : Int) r' (.slice u' m' cap')) 33))) := Lib.hid (heap_new x2 _)
      clear hb hb3 hru hm' d0 d1 d2 d3 d4 c0 c1 c2 HQ
      go_upto_region 5 with fail
      obtain ⟨x3, hx3⟩ : ∃ x3, x2.alloc (.cells (bqA 1 (n : Int) (g1 : Int) r' (.slice u' m' cap')) 33) = x3 := ⟨_, rfl⟩
      obtain ⟨G, hG⟩ : ∃ G, x2.heap.size = G := ⟨_, rfl⟩
      rw [hx3] at HP2 HL HG ⊢
      rw [hG] at HG HGE ⊢
      clear hx3 hG
      have HDO := Lib.hid (do_end (tc := cap') HP2.out HL.out HDN.out)
      rw [HM'.out, HR'.out] at HDO
      obtain ⟨k0, k1, k2, k3, k4⟩ := HG.out.all
      have hq1 : IntKind.i64.wrap ((x : Int) + 1) = (x : Int) + 1 := by have := HXB.out; rw [IntKind.wrap_i64]; omega
      have hq2 : IntKind.i64.wrap (((x : Int) + 1) * 4096) = (adr x : Int) := by have := HXB.out; unfold adr; rw [IntKind.wrap_i64]; omega
      have hgl := HG.out.below (Below.refl x3.heap.size x3).drew
      have HL4 := Lib.hid (HL.out.below HP2.out.bv.1 (Below.refl x3.heap.size x3).drew)
      have HP4 := Lib.hid (HP2.out.below (Below.refl x3.heap.size x3).drew)
      have HDO4 := Lib.hid (do_end (tc := cap') HP4.out HL4.out HDN.out)
      rw [HM'.out, HR'.out] at HDO4
      have hdl := HL4.out.bd
      have hGE := HGE.out
      have hs0 := And.intro hgl.all hdl.all.1
      have hs1 := And.intro (BqAt.all (show BqAt G 1 (n : Int) (g1 : Int) r' (.slice u' m' cap') (set5 x3.drew E (.int .i64 1) (.int .i64 (n : Int)) (.int .i64 (g1 : Int)) (.int .i64 r') (.slice u' m' cap')) from (set5_far hGE _ _ _ _ _).trans hgl)) (BqAt.all (show BqAt D 1 (n : Int) (g : Int) r (.slice u m tc) (set5 x3.drew E (.int .i64 1) (.int .i64 (n : Int)) (.int .i64 (g1 : Int)) (.int .i64 r') (.slice u' m' cap')) from (set5_far HDN.out.ne.1 _ _ _ _ _).trans hdl)).1
      obtain ⟨⟨p0, p1, p2, p3, p4⟩, p5⟩ := hs0
      obtain ⟨⟨r0', r1', r2', r3', r4'⟩, r5'⟩ := hs1
      obtain ⟨e0, e1, e2, e3, e4⟩ := HL4.out.be.all
      obtain ⟨f0, f1, f2, f3, f4⟩ := HL4.out.be.free
      clear hgl hdl k0 k1 k2 k3 k4
      refine wp_region_held_drew (S := fun X : World => X.cell? ⟨G, 0, none⟩ = some (.int .i64 1) ∧ X.cell? ⟨G, 1, none⟩ = some (.int .i64 (n : Int)) ∧ X.cell? ⟨G, 2, none⟩ = some (.int .i64 (g1 : Int)) ∧ X.cell? ⟨G, 3, none⟩ = some (.int .i64 r') ∧ X.cell? ⟨G, 4, none⟩ = some (.slice u' m' cap') ∧ X.cell? ⟨D, 0, none⟩ = some (.int .i64 1)) (by kernel_rfl) ⟨p0, p1, p2, p3, p4, p5⟩ (fun hHeld => ?_)
      generalize x3.drew = x4 at *
      refine wpAnyH_take (i := 0) (v := (bqV 1 (n : Int) (g1 : Int) r' (.slice u' m' cap'))) rfl (by kernel_rfl) (by kernel_rfl) (by kernel_rfl) (fun _ _ _ h => h) (Or.inl ⟨by rfl, fun X hS => ?_⟩) hHeld ?_
      · obtain ⟨p0, p1, p2, p3, p4, p5⟩ := hS
        go_simp
      try simp only [Act.put, List.getElem_toArray, List.getElem_cons_zero, List.getElem_cons_succ, List.setIfInBounds_toArray, List.set_cons_zero, List.set_cons_succ]
      refine wpAnyH_take (i := 1) (v := (.int .i64 0)) rfl (by kernel_rfl) (by kernel_rfl) (by kernel_rfl) (fun _ _ _ h => h) (Or.inl ⟨by rfl, fun X hS => ?_⟩) hHeld ?_
      · obtain ⟨p0, p1, p2, p3, p4, p5⟩ := hS
        go_simp
      try simp only [Act.put, List.getElem_toArray, List.getElem_cons_zero, List.getElem_cons_succ, List.setIfInBounds_toArray, List.set_cons_zero, List.set_cons_succ]
      refine wpAnyH_take (i := 2) (v := (.int .i64 0)) rfl (by kernel_rfl) (by kernel_rfl) (by kernel_rfl) (fun _ _ _ h => h) (Or.inl ⟨by rfl, fun X hS => ?_⟩) hHeld ?_
      · obtain ⟨p0, p1, p2, p3, p4, p5⟩ := hS
        go_simp
      try simp only [Act.put, List.getElem_toArray, List.getElem_cons_zero, List.getElem_cons_succ, List.setIfInBounds_toArray, List.set_cons_zero, List.set_cons_succ]
      refine wpAnyH_take (i := 3) (v := (.bool true)) rfl (by kernel_rfl) (by kernel_rfl) (by kernel_rfl) (fun _ _ _ h => h) (Or.inl ⟨by rfl, fun X hS => ?_⟩) hHeld ?_
      · obtain ⟨p0, p1, p2, p3, p4, p5⟩ := hS
        go_simp
      try simp only [Act.put, List.getElem_toArray, List.getElem_cons_zero, List.getElem_cons_succ, List.setIfInBounds_toArray, List.set_cons_zero, List.set_cons_succ]
      refine wpAnyH_take (i := 4) (v := (.bool true)) rfl (by kernel_rfl) (by kernel_rfl) (by kernel_rfl) (fun _ _ _ h => h) (Or.inl ⟨by rfl, fun X hS => ?_⟩) hHeld ?_
      · obtain ⟨p0, p1, p2, p3, p4, p5⟩ := hS
        go_simp
      try simp only [Act.put, List.getElem_toArray, List.getElem_cons_zero, List.getElem_cons_succ, List.setIfInBounds_toArray, List.set_cons_zero, List.set_cons_succ]
      refine wpAnyH_take (i := 5) (v := (.int .i64 0)) rfl (by kernel_rfl) (by kernel_rfl) (by kernel_rfl) (fun _ _ _ h => h) (Or.inl ⟨by rfl, fun X hS => ?_⟩) hHeld ?_
      · obtain ⟨p0, p1, p2, p3, p4, p5⟩ := hS
        go_simp
      try simp only [Act.put, List.getElem_toArray, List.getElem_cons_zero, List.getElem_cons_succ, List.setIfInBounds_toArray, List.set_cons_zero, List.set_cons_succ]
      refine wpAnyH_take (i := 6) (v := (.bool false)) rfl (by kernel_rfl) (by kernel_rfl) (by kernel_rfl) (fun _ _ _ h => h) (Or.inl ⟨by rfl, fun X hS => ?_⟩) hHeld ?_
      · obtain ⟨p0, p1, p2, p3, p4, p5⟩ := hS
        go_simp
      try simp only [Act.put, List.getElem_toArray, List.getElem_cons_zero, List.getElem_cons_succ, List.setIfInBounds_toArray, List.set_cons_zero, List.set_cons_succ]
      refine wpAnyH_take (i := 7) (v := (.bool false)) rfl (by kernel_rfl) (by kernel_rfl) (by kernel_rfl) (fun _ _ _ h => h) (Or.inl ⟨by rfl, fun X hS => ?_⟩) hHeld ?_
      · obtain ⟨p0, p1, p2, p3, p4, p5⟩ := hS
        go_simp
      try simp only [Act.put, List.getElem_toArray, List.getElem_cons_zero, List.getElem_cons_succ, List.setIfInBounds_toArray, List.set_cons_zero, List.set_cons_succ]
      refine wpAnyH_take (i := 8) (v := undef) rfl (by kernel_rfl) (by kernel_rfl) (by kernel_rfl) (fun _ _ _ h => h) (Or.inr ⟨by rfl, rfl⟩) hHeld ?_
      try simp only [Act.put, List.getElem_toArray, List.getElem_cons_zero, List.getElem_cons_succ, List.setIfInBounds_toArray, List.set_cons_zero, List.set_cons_succ]
      refine wpAnyH_take (i := 9) (v := undef) rfl (by kernel_rfl) (by kernel_rfl) (by kernel_rfl) (fun _ _ _ h => h) (Or.inr ⟨by rfl, rfl⟩) hHeld ?_
      try simp only [Act.put, List.getElem_toArray, List.getElem_cons_zero, List.getElem_cons_succ, List.setIfInBounds_toArray, List.set_cons_zero, List.set_cons_succ]
      refine wpAnyH_take (i := 10) (v := (.bool false)) rfl (by kernel_rfl) (by kernel_rfl) (by kernel_rfl) (fun _ _ _ h => h) (Or.inl ⟨by rfl, fun X hS => ?_⟩) hHeld ?_
      · obtain ⟨p0, p1, p2, p3, p4, p5⟩ := hS
        go_simp
      try simp only [Act.put, List.getElem_toArray, List.getElem_cons_zero, List.getElem_cons_succ, List.setIfInBounds_toArray, List.set_cons_zero, List.set_cons_succ]
      refine wpAnyH_take (i := 11) (v := (.bool false)) rfl (by kernel_rfl) (by kernel_rfl) (by kernel_rfl) (fun _ _ _ h => h) (Or.inl ⟨by rfl, fun X hS => ?_⟩) hHeld ?_
      · obtain ⟨p0, p1, p2, p3, p4, p5⟩ := hS
        go_simp
      try simp only [Act.put, List.getElem_toArray, List.getElem_cons_zero, List.getElem_cons_succ, List.setIfInBounds_toArray, List.set_cons_zero, List.set_cons_succ]
      refine wpAnyH_take (i := 12) (v := (.int .i64 0)) rfl (by kernel_rfl) (by kernel_rfl) (by kernel_rfl) (fun _ _ _ h => h) (Or.inl ⟨by rfl, fun X hS => ?_⟩) hHeld ?_
      · obtain ⟨p0, p1, p2, p3, p4, p5⟩ := hS
        go_simp
      try simp only [Act.put, List.getElem_toArray, List.getElem_cons_zero, List.getElem_cons_succ, List.setIfInBounds_toArray, List.set_cons_zero, List.set_cons_succ]
      refine wpAnyH_take (i := 13) (v := (.bool true)) rfl (by kernel_rfl) (by kernel_rfl) (by kernel_rfl) (fun _ _ _ h => h) (Or.inl ⟨by rfl, fun X hS => ?_⟩) hHeld ?_
      · obtain ⟨p0, p1, p2, p3, p4, p5⟩ := hS
        go_simp
      try simp only [Act.put, List.getElem_toArray, List.getElem_cons_zero, List.getElem_cons_succ, List.setIfInBounds_toArray, List.set_cons_zero, List.set_cons_succ]
      refine wpAnyH_take (i := 14) (v := (.bool true)) rfl (by kernel_rfl) (by kernel_rfl) (by kernel_rfl) (fun _ _ _ h => h) (Or.inl ⟨by rfl, fun X hS => ?_⟩) hHeld ?_
      · obtain ⟨p0, p1, p2, p3, p4, p5⟩ := hS
        go_simp
      try simp only [Act.put, List.getElem_toArray, List.getElem_cons_zero, List.getElem_cons_succ, List.setIfInBounds_toArray, List.set_cons_zero, List.set_cons_succ]
      refine wpAnyH_take (i := 15) (v := (.int .i64 (adr x : Int))) rfl (by kernel_rfl) (by kernel_rfl) (by kernel_rfl) (fun _ _ _ h => h) (Or.inl ⟨by rfl, fun X hS => ?_⟩) hHeld ?_
      · obtain ⟨p0, p1, p2, p3, p4, p5⟩ := hS
        go_simp
      try simp only [Act.put, List.getElem_toArray, List.getElem_cons_zero, List.getElem_cons_succ, List.setIfInBounds_toArray, List.set_cons_zero, List.set_cons_succ]
      refine wpAnyH_take (i := 16) (v := (.int .i64 (x : Int))) rfl (by kernel_rfl) (by kernel_rfl) (by kernel_rfl) (fun _ _ _ h => h) (Or.inl ⟨by rfl, fun X hS => ?_⟩) hHeld ?_
      · obtain ⟨p0, p1, p2, p3, p4, p5⟩ := hS
        go_simp
      try simp only [Act.put, List.getElem_toArray, List.getElem_cons_zero, List.getElem_cons_succ, List.setIfInBounds_toArray, List.set_cons_zero, List.set_cons_succ]
      refine wpAnyH_take (i := 17) (v := (.pointer (some ⟨D, 0, none⟩))) rfl (by kernel_rfl) (by kernel_rfl) (by kernel_rfl) (fun _ _ _ h => h) (Or.inl ⟨by rfl, fun X hS => ?_⟩) hHeld ?_
      · obtain ⟨p0, p1, p2, p3, p4, p5⟩ := hS
        go_simp
      try simp only [Act.put, List.getElem_toArray, List.getElem_cons_zero, List.getElem_cons_succ, List.setIfInBounds_toArray, List.set_cons_zero, List.set_cons_succ]
      refine wpAnyH_take (i := 18) (v := (.int .i64 1)) rfl (by kernel_rfl) (by kernel_rfl) (by kernel_rfl) (fun _ _ _ h => h) (Or.inl ⟨by rfl, fun X hS => ?_⟩) hHeld ?_
      · obtain ⟨p0, p1, p2, p3, p4, p5⟩ := hS
        go_simp
      try simp only [Act.put, List.getElem_toArray, List.getElem_cons_zero, List.getElem_cons_succ, List.setIfInBounds_toArray, List.set_cons_zero, List.set_cons_succ]
      refine wpAnyH_take (i := 19) (v := (.int .i64 ((x : Int) + 1))) rfl (by kernel_rfl) (by kernel_rfl) (by kernel_rfl) (fun _ _ _ h => h) (Or.inl ⟨by rfl, fun X hS => ?_⟩) hHeld ?_
      · obtain ⟨p0, p1, p2, p3, p4, p5⟩ := hS
        go_simp
      try simp only [Act.put, List.getElem_toArray, List.getElem_cons_zero, List.getElem_cons_succ, List.setIfInBounds_toArray, List.set_cons_zero, List.set_cons_succ]
      refine wpAnyH_take (i := 20) (v := (.int .i64 (adr x : Int))) rfl (by kernel_rfl) (by kernel_rfl) (by kernel_rfl) (fun _ _ _ h => h) (Or.inl ⟨by rfl, fun X hS => ?_⟩) hHeld ?_
      · obtain ⟨p0, p1, p2, p3, p4, p5⟩ := hS
        go_simp
      try simp only [Act.put, List.getElem_toArray, List.getElem_cons_zero, List.getElem_cons_succ, List.setIfInBounds_toArray, List.set_cons_zero, List.set_cons_succ]
      refine wpAnyH_take (i := 21) (v := (.bool true)) rfl (by kernel_rfl) (by kernel_rfl) (by kernel_rfl) (fun _ _ _ h => h) (Or.inl ⟨by rfl, fun X hS => ?_⟩) hHeld ?_
      · obtain ⟨p0, p1, p2, p3, p4, p5⟩ := hS
        go_simp
      try simp only [Act.put, List.getElem_toArray, List.getElem_cons_zero, List.getElem_cons_succ, List.setIfInBounds_toArray, List.set_cons_zero, List.set_cons_succ]
      refine wpAnyH_take (i := 22) (v := (.bool true)) rfl (by kernel_rfl) (by kernel_rfl) (by kernel_rfl) (fun _ _ _ h => h) (Or.inl ⟨by rfl, fun X hS => ?_⟩) hHeld ?_
      · obtain ⟨p0, p1, p2, p3, p4, p5⟩ := hS
        go_simp
      try simp only [Act.put, List.getElem_toArray, List.getElem_cons_zero, List.getElem_cons_succ, List.setIfInBounds_toArray, List.set_cons_zero, List.set_cons_succ]
      refine wpAnyH_take (i := 23) (v := (.bool true)) rfl (by kernel_rfl) (by kernel_rfl) (by kernel_rfl) (fun _ _ _ h => h) (Or.inl ⟨by rfl, fun X hS => ?_⟩) hHeld ?_
      · obtain ⟨p0, p1, p2, p3, p4, p5⟩ := hS
        go_simp
      try simp only [Act.put, List.getElem_toArray, List.getElem_cons_zero, List.getElem_cons_succ, List.setIfInBounds_toArray, List.set_cons_zero, List.set_cons_succ]
      refine wpAnyH_take (i := 24) (v := (.bool true)) rfl (by kernel_rfl) (by kernel_rfl) (by kernel_rfl) (fun _ _ _ h => h) (Or.inl ⟨by rfl, fun X hS => ?_⟩) hHeld ?_
      · obtain ⟨p0, p1, p2, p3, p4, p5⟩ := hS
        go_simp
      try simp only [Act.put, List.getElem_toArray, List.getElem_cons_zero, List.getElem_cons_succ, List.setIfInBounds_toArray, List.set_cons_zero, List.set_cons_succ]
      refine wpAnyH_ready (rs := [25]) (by kernel_rfl) (by simp) (AllReadyH.cons rfl (fun K1 hK1 => ?_) AllReadyH.nil)
      go_simp
      refine hK1.out _ _ ⟨r0', r1', r2', r3', r4', r5'⟩ (fun hHeld => ?_)
      clear hK1
      try simp only [Act.put, List.getElem_toArray, List.getElem_cons_zero, List.getElem_cons_succ, List.setIfInBounds_toArray, List.set_cons_zero, List.set_cons_succ]
      refine wpAnyH_take (i := 26) (v := (.bool true)) rfl (by kernel_rfl) (by kernel_rfl) (by kernel_rfl) (fun _ _ _ h => h) (Or.inl ⟨by rfl, fun X hS => ?_⟩) hHeld ?_
      · obtain ⟨p0, p1, p2, p3, p4, p5⟩ := hS
        go_simp
      try simp only [Act.put, List.getElem_toArray, List.getElem_cons_zero, List.getElem_cons_succ, List.setIfInBounds_toArray, List.set_cons_zero, List.set_cons_succ]
      refine wpAnyH_done (by kernel_rfl) ?_ _
      clear hHeld p0 p1 p2 p3 p4 p5 r0' r1' r2' r3' r4' r5'
      obtain ⟨d0, d1, d2, d3, d4⟩ := HL4.out.bd.all
      go_wp2_with fail
      change bodyPost _ _ _ _ _ (set5 x4 E (.int .i64 1) (.int .i64 (n : Int)) (.int .i64 (g1 : Int)) (.int .i64 r') (.slice u' m' cap'))
      obtain ⟨z, hzz⟩ : ∃ z, set5 x4 E (.int .i64 1) (.int .i64 (n : Int)) (.int .i64 (g1 : Int)) (.int .i64 r') (.slice u' m' cap') = z := ⟨_, rfl⟩
      obtain ⟨hz1, hz2⟩ := HDO4.out z hzz.symm
      have HZ2 := Lib.hid hz2
      rw [hzz]
      clear hzz hz2 d0 d1 d2 d3 d4 e0 e1 e2 e3 e4 f0 f1 f2 f3 f4
      obtain ⟨gg0, gg1, gg2, gg3, gg4⟩ := hz1.all
      exact bodyPost_ret (v := .tuple #[bqV 1 (n : Int) (g1 : Int) r' (.slice u' m' cap'), .bool true]) (by simp [results, Tryz.results15, go_sem, gg0, gg1, gg2, gg3, gg4]) rfl HZ2.out
    · have HL1 := Lib.hid (HLY.out.went HPY.out.bv.1 hg)
      have HP1 := Lib.hid hp1
      obtain ⟨r', hr'⟩ : ∃ r', rfI s' = r' := ⟨_, rfl⟩
      have HR' := Lib.hid hr'
      rw [hr'] at hq
      have HQ := Lib.hid fun X (hX : RnAt X u (tkT R g)) => ball_no 1 r HR.out n g (by have := HZ.out; omega) (by have := HZ.out; omega) u tc R HPY.out.bu.ti kn HKN.out X hX r' 4 hn hq (by decide)
      rw [HM.out] at HQ
      clear hp1 hg hq hn hr' d0 d1 d2 d3 d4 c0 c1 c2 HG
      obtain ⟨d0, d1, d2, d3, d4⟩ := HL1.out.bd.all
      obtain ⟨c0, c1, c2⟩ := HL1.out.bc.all
      go_wp2_with fail
      refine (HQ.out _ HP1.out.rn).mono ?_
      rintro e x2 ⟨rfl, hb⟩
      have hb3 := hb.alloc hb.size (.cells (bqA 1 (n : Int) (g : Int) r' (.slice u m tc)) 33)
      have HP2 := Lib.hid (HP1.out.below hb3)
      have HL := Lib.hid (HL1.out.below HP1.out.bv.1 hb3)
      have HG : Hid (BqAt x2.heap.size 1 (n : Int) (g : Int) r' (.slice u m tc) (x2.alloc (.cells (bqA 1 (n : Int) (g : Int) r' (.slice u m tc)) 33))) := Lib.hid (heap_new x2 _)
      clear hb hb3 d0 d1 d2 d3 d4 c0 c1 c2 HQ
      go_upto_region 5 with fail
      obtain ⟨x3, hx3⟩ : ∃ x3, x2.alloc (.cells (bqA 1 (n : Int) (g : Int) r' (.slice u m tc)) 33) = x3 := ⟨_, rfl⟩
      obtain ⟨G, hG⟩ : ∃ G, x2.heap.size = G := ⟨_, rfl⟩
      rw [hx3] at HP2 HL HG ⊢
      rw [hG] at HG ⊢
      clear hx3 hG
      have HDO := Lib.hid (do_end (tc := tc) HP2.out HL.out HDN.out)
      rw [HM.out, HR'.out] at HDO
      obtain ⟨k0, k1, k2, k3, k4⟩ := HG.out.all
      obtain ⟨d0, d1, d2, d3, d4⟩ := HL.out.bd.all
      obtain ⟨e0, e1, e2, e3, e4⟩ := HL.out.be.all
      obtain ⟨f0, f1, f2, f3, f4⟩ := HL.out.be.free
      go_region
      go_wp2_with fail
      change bodyPost _ _ _ _ _ (set5 x3 E (.int .i64 1) (.int .i64 (n : Int)) (.int .i64 (g : Int)) (.int .i64 r') (.slice u m tc)).drew
      obtain ⟨z, hzz⟩ : ∃ z, set5 x3 E (.int .i64 1) (.int .i64 (n : Int)) (.int .i64 (g : Int)) (.int .i64 r') (.slice u m tc) = z := ⟨_, rfl⟩
      obtain ⟨hz1, hz2⟩ := HDO.out z hzz.symm
      have HZ2 := Lib.hid hz2.drew
      have hz3 : BqAt E 1 (n : Int) (g : Int) r' (.slice u m tc) z.drew := hz1.below (Below.refl z.heap.size z).drew
      rw [hzz]
      clear hzz hz2 hz1 d0 d1 d2 d3 d4 e0 e1 e2 e3 e4 f0 f1 f2 f3 f4
      obtain ⟨gg0, gg1, gg2, gg3, gg4⟩ := hz3.all
      exact bodyPost_ret (v := .tuple #[bqV 1 (n : Int) (g : Int) r' (.slice u m tc), .bool true]) (by simp [results, Tryz.results15, go_sem, gg0, gg1, gg2, gg3, gg4]) rfl HZ2.out

set_option maxHeartbeats 16000000 in
set_option maxRecDepth 100000 in
theorem do_alloc1 {A B n g : Nat} {R : Runs} {s : ASt} {u : Option Addr} {tc : Nat} {w : World} (d k nn : Int) (hm : Int.tmod d 8 = 1) (hd : 0 ≤ d ∧ d ≤ 255) (hk : -9223372036854775808 ≤ k ∧ k ≤ 9223372036854775807) (hnn : -9223372036854775808 ≤ nn ∧ nn ≤ 9223372036854775807) (hp : DP A B n g R s u w) :
    Calls Tryz.prog 15 #[bdyP B, bqV 1 (n : Int) (g : Int) (rfI s) (.slice u (tkT R g).length tc), .agg #[.int .u8 d, .int .i64 k, .int .i64 nn]] w (DoP A B n w) := by
  have hz := hp.bu.sz hp.bv.2.1
  have hr := rfI_le hp.bv.1
  have HP := Lib.hid hp
  have HB := Lib.hid (do_begin (tc := tc) d k nn hp)
  have HZ := Lib.hid hz
  have HR := Lib.hid hr
  have HKK := Lib.hid hk; have HNN := Lib.hid hnn
  obtain ⟨m, hmm⟩ : ∃ m, (tkT R g).length = m := ⟨_, rfl⟩
  have HM := Lib.hid hmm
  obtain ⟨r, hrr⟩ : ∃ r, rfI s = r := ⟨_, rfl⟩
  have HRR := Lib.hid hrr
  rw [hmm, hrr] at HB
  rw [hmm, hrr]
  rw [hrr] at HR
  clear hp hz hr hmm hrr hk hnn
  go_enter Tryz.func15, Tryz.ntmps15
  go_upto_region 1 with fail
  obtain ⟨y, hy⟩ : ∃ y, ((w.alloc (.cells (bqA 1 (n : Int) (g : Int) r (.slice u m tc)) 33)).alloc (.cells (acA d k nn) 37)).alloc (.cells (bqA 0 0 0 0 (.slice none 0 0)) 33) = y := ⟨_, rfl⟩
  obtain ⟨hpy, hly, hny⟩ := HB.out y hy.symm
  rw [hy]
  obtain ⟨D, hD⟩ : ∃ D, w.heap.size = D := ⟨_, rfl⟩
  obtain ⟨C, hC⟩ : ∃ C, w.heap.size + 1 = C := ⟨_, rfl⟩
  obtain ⟨E, hE⟩ : ∃ E, w.heap.size + 2 = E := ⟨_, rfl⟩
  have hE2 : w.heap.size + 1 + 1 = E := hE
  rw [hE, hC, hD] at hly hny
  rw [hE2, hC, hD]
  have HPY := Lib.hid hpy; have HLY := Lib.hid hly; have HDN := Lib.hid hny
  obtain ⟨d0, d1, d2, d3, d4⟩ := hly.bd.all
  obtain ⟨c0, c1, c2⟩ := hly.bc.all
  clear hpy hly hny hy hD hC hE hE2 HB
  by_cases hk10 : k < 0 ∨ 10 < k
  · have HQ := Lib.hid fun X => ball_arg 1 (n : Int) (g : Int) r u m tc k hk10 X
    go_wp2_with fail
    refine (balloc_out HPY.out.bv k hk10).mono ?_
    rintro e w' ⟨rfl, rfl⟩
    go_wp2_with fail
    refine (HQ.out _).mono ?_
    rintro e x2 ⟨rfl, hb⟩
    have HP2 := Lib.hid (HPY.out.below (hb.alloc hb.size (.cells (bqA 1 (n : Int) (g : Int) r (.slice u m tc)) 33)))
    have HL := Lib.hid (HLY.out.below HPY.out.bv.1 (hb.alloc hb.size (.cells (bqA 1 (n : Int) (g : Int) r (.slice u m tc)) 33)))
    have HG : Hid (BqAt x2.heap.size 1 (n : Int) (g : Int) r (.slice u m tc) (x2.alloc (.cells (bqA 1 (n : Int) (g : Int) r (.slice u m tc)) 33))) := Lib.hid (heap_new x2 _)
    clear hb d0 d1 d2 d3 d4 c0 c1 c2 HQ
    go_upto_region 5 with fail
    obtain ⟨x3, hx3⟩ : ∃ x3, x2.alloc (.cells (bqA 1 (n : Int) (g : Int) r (.slice u m tc)) 33) = x3 := ⟨_, rfl⟩
    obtain ⟨G, hG⟩ : ∃ G, x2.heap.size = G := ⟨_, rfl⟩
    rw [hx3] at HP2 HL HG ⊢
    rw [hG] at HG ⊢
    clear hx3 hG
    have HDO := Lib.hid (do_end (tc := tc) HP2.out HL.out HDN.out)
    rw [HM.out, HRR.out] at HDO
    obtain ⟨k0, k1, k2, k3, k4⟩ := HG.out.all
    obtain ⟨d0, d1, d2, d3, d4⟩ := HL.out.bd.all
    obtain ⟨e0, e1, e2, e3, e4⟩ := HL.out.be.all
    obtain ⟨f0, f1, f2, f3, f4⟩ := HL.out.be.free
    go_region
    go_wp2_with fail
    change bodyPost _ _ _ _ _ (set5 x3 E (.int .i64 1) (.int .i64 (n : Int)) (.int .i64 (g : Int)) (.int .i64 r) (.slice u m tc)).drew
    obtain ⟨z, hzz⟩ : ∃ z, set5 x3 E (.int .i64 1) (.int .i64 (n : Int)) (.int .i64 (g : Int)) (.int .i64 r) (.slice u m tc) = z := ⟨_, rfl⟩
    obtain ⟨hz1, hz2⟩ := HDO.out z hzz.symm
    have HZ2 := Lib.hid hz2.drew
    have hz3 : BqAt E 1 (n : Int) (g : Int) r (.slice u m tc) z.drew := hz1.below (Below.refl z.heap.size z).drew
    rw [hzz]
    clear hzz hz2 hz1 d0 d1 d2 d3 d4 e0 e1 e2 e3 e4 f0 f1 f2 f3 f4
    obtain ⟨gg0, gg1, gg2, gg3, gg4⟩ := hz3.all
    exact bodyPost_ret (v := .tuple #[bqV 1 (n : Int) (g : Int) r (.slice u m tc), .bool true]) (by simp [results, Tryz.results15, go_sem, gg0, gg1, gg2, gg3, gg4]) rfl HZ2.out

  · obtain ⟨kn, rfl⟩ := Int.eq_ofNat_of_zero_le (show 0 ≤ k by omega)
    have hkn : kn ≤ 10 := by omega
    have HKN := Lib.hid hkn
    have HG := Lib.hid (alloc_both HPY.out kn hkn)
    rw [HRR.out] at HG
    clear hk10 hkn
    go_wp2_with fail
    refine HG.out.mono ?_
    rintro e x1 (⟨g1, x, l, R1, R', s', rfl, hsc, hg1, hxg, ht, hbv, hbu, hg⟩ | ⟨s', rfl, hn, hq, hp1, hg⟩)
    · have HRN := Lib.hid (HPY.out.rn.went HPY.out.bv.1 hg)
      have HL1 := Lib.hid (HLY.out.went HPY.out.bv.1 hg)
      have HBB := Lib.hid (And.intro hbv hbu)
      have HT := Lib.hid ht
      obtain ⟨r', hr'⟩ : ∃ r', rfI s' = r' := ⟨_, rfl⟩
      have HR' := Lib.hid hr'
      rw [hr'] at hsc
      have HQ := Lib.hid fun X (hX : RnAt X u (tkT R g)) => ball_ok 1 r HR.out n g (by have := HZ.out; omega) (by have := HZ.out; omega) u tc R HPY.out.bu.ti kn HKN.out X hX g1 x l r' R1 hsc (by have := HZ.out; omega)
      rw [HM.out] at HQ
      have HXB : Hid (x < g1 ∧ g1 ≤ 80) := Lib.hid (by have := HZ.out; omega)
      clear hsc hg1 hxg ht hbv hbu hg hr' d0 d1 d2 d3 d4 c0 c1 c2 HG
      obtain ⟨d0, d1, d2, d3, d4⟩ := HL1.out.bd.all
      obtain ⟨c0, c1, c2⟩ := HL1.out.bc.all
      go_wp2_with fail
      refine (HQ.out _ HRN.out).mono ?_
      rintro e x2 ⟨u', cap', rfl, hru, hb⟩
      obtain ⟨m', hm'⟩ : ∃ m', (outL (tkT R g) x kn).length = m' := ⟨_, rfl⟩
      have HM' : Hid ((tkT R' g1).length = m') := Lib.hid (by rw [HT.out]; exact hm')
      rw [hm']
      have hb3 := hb.alloc hb.size (.cells (bqA 1 (n : Int) (g1 : Int) r' (.slice u' m' cap')) 33)
      have HP2 : Hid (DP A B n g1 R' s' u' (x2.alloc (.cells (bqA 1 (n : Int) (g1 : Int) r' (.slice u' m' cap')) 33))) := Lib.hid ⟨HBB.out.1.below hb3, HBB.out.2, by rw [HT.out]; exact hru.below (bel1 x2 _)⟩
      have HL := Lib.hid (HL1.out.below HBB.out.1.1 hb3)
      have HGE : Hid (x2.heap.size ≠ E) := Lib.hid (Nat.ne_of_gt (HL1.out.below HBB.out.1.1 hb).be.lt)
      have HG : Hid (BqAt x2.heap.size 1 (n : Int) (g1 : Int) r' (.slice u' m' cap') (x2.alloc (.cells (bqA 1 (n : Int) (g1 : Int) r' (.slice u' m' cap')) 33))) := Lib.hid (heap_new x2 _)
      clear hb hb3 hru hm' d0 d1 d2 d3 d4 c0 c1 c2 HQ
      go_upto_region 5 with fail
      obtain ⟨x3, hx3⟩ : ∃ x3, x2.alloc (.cells (bqA 1 (n : Int) (g1 : Int) r' (.slice u' m' cap')) 33) = x3 := ⟨_, rfl⟩
      obtain ⟨G, hG⟩ : ∃ G, x2.heap.size = G := ⟨_, rfl⟩
      rw [hx3] at HP2 HL HG ⊢
      rw [hG] at HG HGE ⊢
      clear hx3 hG
      have HDO := Lib.hid (do_end (tc := cap') HP2.out HL.out HDN.out)
      rw [HM'.out, HR'.out] at HDO
      obtain ⟨k0, k1, k2, k3, k4⟩ := HG.out.all
      have hq1 : IntKind.i64.wrap ((x : Int) + 1) = (x : Int) + 1 := by have := HXB.out; rw [IntKind.wrap_i64]; omega
      have hq2 : IntKind.i64.wrap (((x : Int) + 1) * 4096) = (adr x : Int) := by have := HXB.out; unfold adr; rw [IntKind.wrap_i64]; omega
      have hgl := HG.out.below (Below.refl x3.heap.size x3).drew
      have HL4 := Lib.hid (HL.out.below HP2.out.bv.1 (Below.refl x3.heap.size x3).drew)
      have HP4 := Lib.hid (HP2.out.below (Below.refl x3.heap.size x3).drew)
      have HDO4 := Lib.hid (do_end (tc := cap') HP4.out HL4.out HDN.out)
      rw [HM'.out, HR'.out] at HDO4
      have hdl := HL4.out.bd
      have hGE := HGE.out
      have hs0 := And.intro hgl.all hdl.all.1
      have hs1 := And.intro (BqAt.all (show BqAt G 1 (n : Int) (g1 : Int) r' (.slice u' m' cap') (set5 x3.drew E (.int .i64 1) (.int .i64 (n : Int)) (.int .i64 (g1 : Int)) (.int .i64 r') (.slice u' m' cap')) from (set5_far hGE _ _ _ _ _).trans hgl)) (BqAt.all (show BqAt D 1 (n : Int) (g : Int) r (.slice u m tc) (set5 x3.drew E (.int .i64 1) (.int .i64 (n : Int)) (.int .i64 (g1 : Int)) (.int .i64 r') (.slice u' m' cap')) from (set5_far HDN.out.ne.1 _ _ _ _ _).trans hdl)).1
      obtain ⟨⟨p0, p1, p2, p3, p4⟩, p5⟩ := hs0
      obtain ⟨⟨r0', r1', r2', r3', r4'⟩, r5'⟩ := hs1
      obtain ⟨e0, e1, e2, e3, e4⟩ := HL4.out.be.all
      obtain ⟨f0, f1, f2, f3, f4⟩ := HL4.out.be.free
      clear hgl hdl k0 k1 k2 k3 k4
      refine wp_region_held_drew (S := fun X : World => X.cell? ⟨G, 0, none⟩ = some (.int .i64 1) ∧ X.cell? ⟨G, 1, none⟩ = some (.int .i64 (n : Int)) ∧ X.cell? ⟨G, 2, none⟩ = some (.int .i64 (g1 : Int)) ∧ X.cell? ⟨G, 3, none⟩ = some (.int .i64 r') ∧ X.cell? ⟨G, 4, none⟩ = some (.slice u' m' cap') ∧ X.cell? ⟨D, 0, none⟩ = some (.int .i64 1)) (by kernel_rfl) ⟨p0, p1, p2, p3, p4, p5⟩ (fun hHeld => ?_)
      generalize x3.drew = x4 at *
      refine wpAnyH_take (i := 0) (v := (bqV 1 (n : Int) (g1 : Int) r' (.slice u' m' cap'))) rfl (by kernel_rfl) (by kernel_rfl) (by kernel_rfl) (fun _ _ _ h => h) (Or.inl ⟨by rfl, fun X hS => ?_⟩) hHeld ?_
      · obtain ⟨p0, p1, p2, p3, p4, p5⟩ := hS
        go_simp
      try simp only [Act.put, List.getElem_toArray, List.getElem_cons_zero, List.getElem_cons_succ, List.setIfInBounds_toArray, List.set_cons_zero, List.set_cons_succ]
      refine wpAnyH_take (i := 1) (v := (.int .i64 0)) rfl (by kernel_rfl) (by kernel_rfl) (by kernel_rfl) (fun _ _ _ h => h) (Or.inl ⟨by rfl, fun X hS => ?_⟩) hHeld ?_
      · obtain ⟨p0, p1, p2, p3, p4, p5⟩ := hS
        go_simp
      try simp only [Act.put, List.getElem_toArray, List.getElem_cons_zero, List.getElem_cons_succ, List.setIfInBounds_toArray, List.set_cons_zero, List.set_cons_succ]
      refine wpAnyH_take (i := 2) (v := (.int .i64 0)) rfl (by kernel_rfl) (by kernel_rfl) (by kernel_rfl) (fun _ _ _ h => h) (Or.inl ⟨by rfl, fun X hS => ?_⟩) hHeld ?_
      · obtain ⟨p0, p1, p2, p3, p4, p5⟩ := hS
        go_simp
      try simp only [Act.put, List.getElem_toArray, List.getElem_cons_zero, List.getElem_cons_succ, List.setIfInBounds_toArray, List.set_cons_zero, List.set_cons_succ]
      refine wpAnyH_take (i := 3) (v := (.bool true)) rfl (by kernel_rfl) (by kernel_rfl) (by kernel_rfl) (fun _ _ _ h => h) (Or.inl ⟨by rfl, fun X hS => ?_⟩) hHeld ?_
      · obtain ⟨p0, p1, p2, p3, p4, p5⟩ := hS
        go_simp
      try simp only [Act.put, List.getElem_toArray, List.getElem_cons_zero, List.getElem_cons_succ, List.setIfInBounds_toArray, List.set_cons_zero, List.set_cons_succ]
      refine wpAnyH_take (i := 4) (v := (.bool true)) rfl (by kernel_rfl) (by kernel_rfl) (by kernel_rfl) (fun _ _ _ h => h) (Or.inl ⟨by rfl, fun X hS => ?_⟩) hHeld ?_
      · obtain ⟨p0, p1, p2, p3, p4, p5⟩ := hS
        go_simp
      try simp only [Act.put, List.getElem_toArray, List.getElem_cons_zero, List.getElem_cons_succ, List.setIfInBounds_toArray, List.set_cons_zero, List.set_cons_succ]
      refine wpAnyH_take (i := 5) (v := (.int .i64 0)) rfl (by kernel_rfl) (by kernel_rfl) (by kernel_rfl) (fun _ _ _ h => h) (Or.inl ⟨by rfl, fun X hS => ?_⟩) hHeld ?_
      · obtain ⟨p0, p1, p2, p3, p4, p5⟩ := hS
        go_simp
      try simp only [Act.put, List.getElem_toArray, List.getElem_cons_zero, List.getElem_cons_succ, List.setIfInBounds_toArray, List.set_cons_zero, List.set_cons_succ]
      refine wpAnyH_take (i := 6) (v := (.bool false)) rfl (by kernel_rfl) (by kernel_rfl) (by kernel_rfl) (fun _ _ _ h => h) (Or.inl ⟨by rfl, fun X hS => ?_⟩) hHeld ?_
      · obtain ⟨p0, p1, p2, p3, p4, p5⟩ := hS
        go_simp
      try simp only [Act.put, List.getElem_toArray, List.getElem_cons_zero, List.getElem_cons_succ, List.setIfInBounds_toArray, List.set_cons_zero, List.set_cons_succ]
      refine wpAnyH_take (i := 7) (v := (.bool false)) rfl (by kernel_rfl) (by kernel_rfl) (by kernel_rfl) (fun _ _ _ h => h) (Or.inl ⟨by rfl, fun X hS => ?_⟩) hHeld ?_
      · obtain ⟨p0, p1, p2, p3, p4, p5⟩ := hS
        go_simp
      try simp only [Act.put, List.getElem_toArray, List.getElem_cons_zero, List.getElem_cons_succ, List.setIfInBounds_toArray, List.set_cons_zero, List.set_cons_succ]
      refine wpAnyH_take (i := 8) (v := undef) rfl (by kernel_rfl) (by kernel_rfl) (by kernel_rfl) (fun _ _ _ h => h) (Or.inr ⟨by rfl, rfl⟩) hHeld ?_
      try simp only [Act.put, List.getElem_toArray, List.getElem_cons_zero, List.getElem_cons_succ, List.setIfInBounds_toArray, List.set_cons_zero, List.set_cons_succ]
      refine wpAnyH_take (i := 9) (v := undef) rfl (by kernel_rfl) (by kernel_rfl) (by kernel_rfl) (fun _ _ _ h => h) (Or.inr ⟨by rfl, rfl⟩) hHeld ?_
      try simp only [Act.put, List.getElem_toArray, List.getElem_cons_zero, List.getElem_cons_succ, List.setIfInBounds_toArray, List.set_cons_zero, List.set_cons_succ]
      refine wpAnyH_take (i := 10) (v := (.bool false)) rfl (by kernel_rfl) (by kernel_rfl) (by kernel_rfl) (fun _ _ _ h => h) (Or.inl ⟨by rfl, fun X hS => ?_⟩) hHeld ?_
      · obtain ⟨p0, p1, p2, p3, p4, p5⟩ := hS
        go_simp
      try simp only [Act.put, List.getElem_toArray, List.getElem_cons_zero, List.getElem_cons_succ, List.setIfInBounds_toArray, List.set_cons_zero, List.set_cons_succ]
      refine wpAnyH_take (i := 11) (v := (.bool false)) rfl (by kernel_rfl) (by kernel_rfl) (by kernel_rfl) (fun _ _ _ h => h) (Or.inl ⟨by rfl, fun X hS => ?_⟩) hHeld ?_
      · obtain ⟨p0, p1, p2, p3, p4, p5⟩ := hS
        go_simp
      try simp only [Act.put, List.getElem_toArray, List.getElem_cons_zero, List.getElem_cons_succ, List.setIfInBounds_toArray, List.set_cons_zero, List.set_cons_succ]
      refine wpAnyH_take (i := 12) (v := (.int .i64 0)) rfl (by kernel_rfl) (by kernel_rfl) (by kernel_rfl) (fun _ _ _ h => h) (Or.inl ⟨by rfl, fun X hS => ?_⟩) hHeld ?_
      · obtain ⟨p0, p1, p2, p3, p4, p5⟩ := hS
        go_simp
      try simp only [Act.put, List.getElem_toArray, List.getElem_cons_zero, List.getElem_cons_succ, List.setIfInBounds_toArray, List.set_cons_zero, List.set_cons_succ]
      refine wpAnyH_take (i := 13) (v := (.bool true)) rfl (by kernel_rfl) (by kernel_rfl) (by kernel_rfl) (fun _ _ _ h => h) (Or.inl ⟨by rfl, fun X hS => ?_⟩) hHeld ?_
      · obtain ⟨p0, p1, p2, p3, p4, p5⟩ := hS
        go_simp
      try simp only [Act.put, List.getElem_toArray, List.getElem_cons_zero, List.getElem_cons_succ, List.setIfInBounds_toArray, List.set_cons_zero, List.set_cons_succ]
      refine wpAnyH_take (i := 14) (v := (.bool true)) rfl (by kernel_rfl) (by kernel_rfl) (by kernel_rfl) (fun _ _ _ h => h) (Or.inl ⟨by rfl, fun X hS => ?_⟩) hHeld ?_
      · obtain ⟨p0, p1, p2, p3, p4, p5⟩ := hS
        go_simp
      try simp only [Act.put, List.getElem_toArray, List.getElem_cons_zero, List.getElem_cons_succ, List.setIfInBounds_toArray, List.set_cons_zero, List.set_cons_succ]
      refine wpAnyH_take (i := 15) (v := (.int .i64 (adr x : Int))) rfl (by kernel_rfl) (by kernel_rfl) (by kernel_rfl) (fun _ _ _ h => h) (Or.inl ⟨by rfl, fun X hS => ?_⟩) hHeld ?_
      · obtain ⟨p0, p1, p2, p3, p4, p5⟩ := hS
        go_simp
      try simp only [Act.put, List.getElem_toArray, List.getElem_cons_zero, List.getElem_cons_succ, List.setIfInBounds_toArray, List.set_cons_zero, List.set_cons_succ]
      refine wpAnyH_take (i := 16) (v := (.int .i64 (x : Int))) rfl (by kernel_rfl) (by kernel_rfl) (by kernel_rfl) (fun _ _ _ h => h) (Or.inl ⟨by rfl, fun X hS => ?_⟩) hHeld ?_
      · obtain ⟨p0, p1, p2, p3, p4, p5⟩ := hS
        go_simp
      try simp only [Act.put, List.getElem_toArray, List.getElem_cons_zero, List.getElem_cons_succ, List.setIfInBounds_toArray, List.set_cons_zero, List.set_cons_succ]
      refine wpAnyH_take (i := 17) (v := (.pointer (some ⟨D, 0, none⟩))) rfl (by kernel_rfl) (by kernel_rfl) (by kernel_rfl) (fun _ _ _ h => h) (Or.inl ⟨by rfl, fun X hS => ?_⟩) hHeld ?_
      · obtain ⟨p0, p1, p2, p3, p4, p5⟩ := hS
        go_simp
      try simp only [Act.put, List.getElem_toArray, List.getElem_cons_zero, List.getElem_cons_succ, List.setIfInBounds_toArray, List.set_cons_zero, List.set_cons_succ]
      refine wpAnyH_take (i := 18) (v := (.int .i64 1)) rfl (by kernel_rfl) (by kernel_rfl) (by kernel_rfl) (fun _ _ _ h => h) (Or.inl ⟨by rfl, fun X hS => ?_⟩) hHeld ?_
      · obtain ⟨p0, p1, p2, p3, p4, p5⟩ := hS
        go_simp
      try simp only [Act.put, List.getElem_toArray, List.getElem_cons_zero, List.getElem_cons_succ, List.setIfInBounds_toArray, List.set_cons_zero, List.set_cons_succ]
      refine wpAnyH_take (i := 19) (v := (.int .i64 ((x : Int) + 1))) rfl (by kernel_rfl) (by kernel_rfl) (by kernel_rfl) (fun _ _ _ h => h) (Or.inl ⟨by rfl, fun X hS => ?_⟩) hHeld ?_
      · obtain ⟨p0, p1, p2, p3, p4, p5⟩ := hS
        go_simp
      try simp only [Act.put, List.getElem_toArray, List.getElem_cons_zero, List.getElem_cons_succ, List.setIfInBounds_toArray, List.set_cons_zero, List.set_cons_succ]
      refine wpAnyH_take (i := 20) (v := (.int .i64 (adr x : Int))) rfl (by kernel_rfl) (by kernel_rfl) (by kernel_rfl) (fun _ _ _ h => h) (Or.inl ⟨by rfl, fun X hS => ?_⟩) hHeld ?_
      · obtain ⟨p0, p1, p2, p3, p4, p5⟩ := hS
        go_simp
      try simp only [Act.put, List.getElem_toArray, List.getElem_cons_zero, List.getElem_cons_succ, List.setIfInBounds_toArray, List.set_cons_zero, List.set_cons_succ]
      refine wpAnyH_take (i := 21) (v := (.bool true)) rfl (by kernel_rfl) (by kernel_rfl) (by kernel_rfl) (fun _ _ _ h => h) (Or.inl ⟨by rfl, fun X hS => ?_⟩) hHeld ?_
      · obtain ⟨p0, p1, p2, p3, p4, p5⟩ := hS
        go_simp
      try simp only [Act.put, List.getElem_toArray, List.getElem_cons_zero, List.getElem_cons_succ, List.setIfInBounds_toArray, List.set_cons_zero, List.set_cons_succ]
      refine wpAnyH_take (i := 22) (v := (.bool true)) rfl (by kernel_rfl) (by kernel_rfl) (by kernel_rfl) (fun _ _ _ h => h) (Or.inl ⟨by rfl, fun X hS => ?_⟩) hHeld ?_
      · obtain ⟨p0, p1, p2, p3, p4, p5⟩ := hS
        go_simp
      try simp only [Act.put, List.getElem_toArray, List.getElem_cons_zero, List.getElem_cons_succ, List.setIfInBounds_toArray, List.set_cons_zero, List.set_cons_succ]
      refine wpAnyH_take (i := 23) (v := (.bool true)) rfl (by kernel_rfl) (by kernel_rfl) (by kernel_rfl) (fun _ _ _ h => h) (Or.inl ⟨by rfl, fun X hS => ?_⟩) hHeld ?_
      · obtain ⟨p0, p1, p2, p3, p4, p5⟩ := hS
        go_simp
      try simp only [Act.put, List.getElem_toArray, List.getElem_cons_zero, List.getElem_cons_succ, List.setIfInBounds_toArray, List.set_cons_zero, List.set_cons_succ]
      refine wpAnyH_take (i := 24) (v := (.bool true)) rfl (by kernel_rfl) (by kernel_rfl) (by kernel_rfl) (fun _ _ _ h => h) (Or.inl ⟨by rfl, fun X hS => ?_⟩) hHeld ?_
      · obtain ⟨p0, p1, p2, p3, p4, p5⟩ := hS
        go_simp
      try simp only [Act.put, List.getElem_toArray, List.getElem_cons_zero, List.getElem_cons_succ, List.setIfInBounds_toArray, List.set_cons_zero, List.set_cons_succ]
      refine wpAnyH_ready (rs := [25]) (by kernel_rfl) (by simp) (AllReadyH.cons rfl (fun K1 hK1 => ?_) AllReadyH.nil)
      go_simp
      refine hK1.out _ _ ⟨r0', r1', r2', r3', r4', r5'⟩ (fun hHeld => ?_)
      clear hK1
      try simp only [Act.put, List.getElem_toArray, List.getElem_cons_zero, List.getElem_cons_succ, List.setIfInBounds_toArray, List.set_cons_zero, List.set_cons_succ]
      refine wpAnyH_take (i := 26) (v := (.bool true)) rfl (by kernel_rfl) (by kernel_rfl) (by kernel_rfl) (fun _ _ _ h => h) (Or.inl ⟨by rfl, fun X hS => ?_⟩) hHeld ?_
      · obtain ⟨p0, p1, p2, p3, p4, p5⟩ := hS
        go_simp
      try simp only [Act.put, List.getElem_toArray, List.getElem_cons_zero, List.getElem_cons_succ, List.setIfInBounds_toArray, List.set_cons_zero, List.set_cons_succ]
      refine wpAnyH_done (by kernel_rfl) ?_ _
      clear hHeld p0 p1 p2 p3 p4 p5 r0' r1' r2' r3' r4' r5'
      obtain ⟨d0, d1, d2, d3, d4⟩ := HL4.out.bd.all
      go_wp2_with fail
      change bodyPost _ _ _ _ _ (set5 x4 E (.int .i64 1) (.int .i64 (n : Int)) (.int .i64 (g1 : Int)) (.int .i64 r') (.slice u' m' cap'))
      obtain ⟨z, hzz⟩ : ∃ z, set5 x4 E (.int .i64 1) (.int .i64 (n : Int)) (.int .i64 (g1 : Int)) (.int .i64 r') (.slice u' m' cap') = z := ⟨_, rfl⟩
      obtain ⟨hz1, hz2⟩ := HDO4.out z hzz.symm
      have HZ2 := Lib.hid hz2
      rw [hzz]
      clear hzz hz2 d0 d1 d2 d3 d4 e0 e1 e2 e3 e4 f0 f1 f2 f3 f4
      obtain ⟨gg0, gg1, gg2, gg3, gg4⟩ := hz1.all
      exact bodyPost_ret (v := .tuple #[bqV 1 (n : Int) (g1 : Int) r' (.slice u' m' cap'), .bool true]) (by simp [results, Tryz.results15, go_sem, gg0, gg1, gg2, gg3, gg4]) rfl HZ2.out
    · have HL1 := Lib.hid (HLY.out.went HPY.out.bv.1 hg)
      have HP1 := Lib.hid hp1
      obtain ⟨r', hr'⟩ : ∃ r', rfI s' = r' := ⟨_, rfl⟩
      have HR' := Lib.hid hr'
      rw [hr'] at hq
      have HQ := Lib.hid fun X (hX : RnAt X u (tkT R g)) => ball_no 1 r HR.out n g (by have := HZ.out; omega) (by have := HZ.out; omega) u tc R HPY.out.bu.ti kn HKN.out X hX r' 4 hn hq (by decide)
      rw [HM.out] at HQ
      clear hp1 hg hq hn hr' d0 d1 d2 d3 d4 c0 c1 c2 HG
      obtain ⟨d0, d1, d2, d3, d4⟩ := HL1.out.bd.all
      obtain ⟨c0, c1, c2⟩ := HL1.out.bc.all
      go_wp2_with fail
      refine (HQ.out _ HP1.out.rn).mono ?_
      rintro e x2 ⟨rfl, hb⟩
      have hb3 := hb.alloc hb.size (.cells (bqA 1 (n : Int) (g : Int) r' (.slice u m tc)) 33)
      have HP2 := Lib.hid (HP1.out.below hb3)
      have HL := Lib.hid (HL1.out.below HP1.out.bv.1 hb3)
      have HG : Hid (BqAt x2.heap.size 1 (n : Int) (g : Int) r' (.slice u m tc) (x2.alloc (.cells (bqA 1 (n : Int) (g : Int) r' (.slice u m tc)) 33))) := Lib.hid (heap_new x2 _)
      clear hb hb3 d0 d1 d2 d3 d4 c0 c1 c2 HQ
      go_upto_region 5 with fail
      obtain ⟨x3, hx3⟩ : ∃ x3, x2.alloc (.cells (bqA 1 (n : Int) (g : Int) r' (.slice u m tc)) 33) = x3 := ⟨_, rfl⟩
      obtain ⟨G, hG⟩ : ∃ G, x2.heap.size = G := ⟨_, rfl⟩
      rw [hx3] at HP2 HL HG ⊢
      rw [hG] at HG ⊢
      clear hx3 hG
      have HDO := Lib.hid (do_end (tc := tc) HP2.out HL.out HDN.out)
      rw [HM.out, HR'.out] at HDO
      obtain ⟨k0, k1, k2, k3, k4⟩ := HG.out.all
      obtain ⟨d0, d1, d2, d3, d4⟩ := HL.out.bd.all
      obtain ⟨e0, e1, e2, e3, e4⟩ := HL.out.be.all
      obtain ⟨f0, f1, f2, f3, f4⟩ := HL.out.be.free
      go_region
      go_wp2_with fail
      change bodyPost _ _ _ _ _ (set5 x3 E (.int .i64 1) (.int .i64 (n : Int)) (.int .i64 (g : Int)) (.int .i64 r') (.slice u m tc)).drew
      obtain ⟨z, hzz⟩ : ∃ z, set5 x3 E (.int .i64 1) (.int .i64 (n : Int)) (.int .i64 (g : Int)) (.int .i64 r') (.slice u m tc) = z := ⟨_, rfl⟩
      obtain ⟨hz1, hz2⟩ := HDO.out z hzz.symm
      have HZ2 := Lib.hid hz2.drew
      have hz3 : BqAt E 1 (n : Int) (g : Int) r' (.slice u m tc) z.drew := hz1.below (Below.refl z.heap.size z).drew
      rw [hzz]
      clear hzz hz2 hz1 d0 d1 d2 d3 d4 e0 e1 e2 e3 e4 f0 f1 f2 f3 f4
      obtain ⟨gg0, gg1, gg2, gg3, gg4⟩ := hz3.all
      exact bodyPost_ret (v := .tuple #[bqV 1 (n : Int) (g : Int) r' (.slice u m tc), .bool true]) (by simp [results, Tryz.results15, go_sem, gg0, gg1, gg2, gg3, gg4]) rfl HZ2.out

set_option maxHeartbeats 16000000 in
set_option maxRecDepth 100000 in
theorem do_alloc2 {A B n g : Nat} {R : Runs} {s : ASt} {u : Option Addr} {tc : Nat} {w : World} (d k nn : Int) (hm : Int.tmod d 8 = 2) (hd : 0 ≤ d ∧ d ≤ 255) (hk : -9223372036854775808 ≤ k ∧ k ≤ 9223372036854775807) (hnn : -9223372036854775808 ≤ nn ∧ nn ≤ 9223372036854775807) (hp : DP A B n g R s u w) :
    Calls Tryz.prog 15 #[bdyP B, bqV 1 (n : Int) (g : Int) (rfI s) (.slice u (tkT R g).length tc), .agg #[.int .u8 d, .int .i64 k, .int .i64 nn]] w (DoP A B n w) := by
  have hz := hp.bu.sz hp.bv.2.1
  have hr := rfI_le hp.bv.1
  have HP := Lib.hid hp
  have HB := Lib.hid (do_begin (tc := tc) d k nn hp)
  have HZ := Lib.hid hz
  have HR := Lib.hid hr
  have HKK := Lib.hid hk; have HNN := Lib.hid hnn
  obtain ⟨m, hmm⟩ : ∃ m, (tkT R g).length = m := ⟨_, rfl⟩
  have HM := Lib.hid hmm
  obtain ⟨r, hrr⟩ : ∃ r, rfI s = r := ⟨_, rfl⟩
  have HRR := Lib.hid hrr
  rw [hmm, hrr] at HB
  rw [hmm, hrr]
  rw [hrr] at HR
  clear hp hz hr hmm hrr hk hnn
  go_enter Tryz.func15, Tryz.ntmps15
  go_upto_region 1 with fail
  obtain ⟨y, hy⟩ : ∃ y, ((w.alloc (.cells (bqA 1 (n : Int) (g : Int) r (.slice u m tc)) 33)).alloc (.cells (acA d k nn) 37)).alloc (.cells (bqA 0 0 0 0 (.slice none 0 0)) 33) = y := ⟨_, rfl⟩
  obtain ⟨hpy, hly, hny⟩ := HB.out y hy.symm
  rw [hy]
  obtain ⟨D, hD⟩ : ∃ D, w.heap.size = D := ⟨_, rfl⟩
  obtain ⟨C, hC⟩ : ∃ C, w.heap.size + 1 = C := ⟨_, rfl⟩
  obtain ⟨E, hE⟩ : ∃ E, w.heap.size + 2 = E := ⟨_, rfl⟩
  have hE2 : w.heap.size + 1 + 1 = E := hE
  rw [hE, hC, hD] at hly hny
  rw [hE2, hC, hD]
  have HPY := Lib.hid hpy; have HLY := Lib.hid hly; have HDN := Lib.hid hny
  obtain ⟨d0, d1, d2, d3, d4⟩ := hly.bd.all
  obtain ⟨c0, c1, c2⟩ := hly.bc.all
  clear hpy hly hny hy hD hC hE hE2 HB
  by_cases hk10 : k < 0 ∨ 10 < k
  · have HQ := Lib.hid fun X => ball_arg 1 (n : Int) (g : Int) r u m tc k hk10 X
    go_wp2_with fail
    refine (balloc_out HPY.out.bv k hk10).mono ?_
    rintro e w' ⟨rfl, rfl⟩
    go_wp2_with fail
    refine (HQ.out _).mono ?_
    rintro e x2 ⟨rfl, hb⟩
    have HP2 := Lib.hid (HPY.out.below (hb.alloc hb.size (.cells (bqA 1 (n : Int) (g : Int) r (.slice u m tc)) 33)))
    have HL := Lib.hid (HLY.out.below HPY.out.bv.1 (hb.alloc hb.size (.cells (bqA 1 (n : Int) (g : Int) r (.slice u m tc)) 33)))
    have HG : Hid (BqAt x2.heap.size 1 (n : Int) (g : Int) r (.slice u m tc) (x2.alloc (.cells (bqA 1 (n : Int) (g : Int) r (.slice u m tc)) 33))) := Lib.hid (heap_new x2 _)
    clear hb d0 d1 d2 d3 d4 c0 c1 c2 HQ
    go_upto_region 5 with fail
    obtain ⟨x3, hx3⟩ : ∃ x3, x2.alloc (.cells (bqA 1 (n : Int) (g : Int) r (.slice u m tc)) 33) = x3 := ⟨_, rfl⟩
    obtain ⟨G, hG⟩ : ∃ G, x2.heap.size = G := ⟨_, rfl⟩
    rw [hx3] at HP2 HL HG ⊢
    rw [hG] at HG ⊢
    clear hx3 hG
    have HDO := Lib.hid (do_end (tc := tc) HP2.out HL.out HDN.out)
    rw [HM.out, HRR.out] at HDO
    obtain ⟨k0, k1, k2, k3, k4⟩ := HG.out.all
    obtain ⟨d0, d1, d2, d3, d4⟩ := HL.out.bd.all
    obtain ⟨e0, e1, e2, e3, e4⟩ := HL.out.be.all
    obtain ⟨f0, f1, f2, f3, f4⟩ := HL.out.be.free
    go_region
    go_wp2_with fail
    change bodyPost _ _ _ _ _ (set5 x3 E (.int .i64 1) (.int .i64 (n : Int)) (.int .i64 (g : Int)) (.int .i64 r) (.slice u m tc)).drew
    obtain ⟨z, hzz⟩ : ∃ z, set5 x3 E (.int .i64 1) (.int .i64 (n : Int)) (.int .i64 (g : Int)) (.int .i64 r) (.slice u m tc) = z := ⟨_, rfl⟩
    obtain ⟨hz1, hz2⟩ := HDO.out z hzz.symm
    have HZ2 := Lib.hid hz2.drew
    have hz3 : BqAt E 1 (n : Int) (g : Int) r (.slice u m tc) z.drew := hz1.below (Below.refl z.heap.size z).drew
    rw [hzz]
    clear hzz hz2 hz1 d0 d1 d2 d3 d4 e0 e1 e2 e3 e4 f0 f1 f2 f3 f4
    obtain ⟨gg0, gg1, gg2, gg3, gg4⟩ := hz3.all
    exact bodyPost_ret (v := .tuple #[bqV 1 (n : Int) (g : Int) r (.slice u m tc), .bool true]) (by simp [results, Tryz.results15, go_sem, gg0, gg1, gg2, gg3, gg4]) rfl HZ2.out

  · obtain ⟨kn, rfl⟩ := Int.eq_ofNat_of_zero_le (show 0 ≤ k by omega)
    have hkn : kn ≤ 10 := by omega
    have HKN := Lib.hid hkn
    have HG := Lib.hid (alloc_both HPY.out kn hkn)
    rw [HRR.out] at HG
    clear hk10 hkn
    go_wp2_with fail
    refine HG.out.mono ?_
    rintro e x1 (⟨g1, x, l, R1, R', s', rfl, hsc, hg1, hxg, ht, hbv, hbu, hg⟩ | ⟨s', rfl, hn, hq, hp1, hg⟩)
    · have HRN := Lib.hid (HPY.out.rn.went HPY.out.bv.1 hg)
      have HL1 := Lib.hid (HLY.out.went HPY.out.bv.1 hg)
      have HBB := Lib.hid (And.intro hbv hbu)
      have HT := Lib.hid ht
      obtain ⟨r', hr'⟩ : ∃ r', rfI s' = r' := ⟨_, rfl⟩
      have HR' := Lib.hid hr'
      rw [hr'] at hsc
      have HQ := Lib.hid fun X (hX : RnAt X u (tkT R g)) => ball_ok 1 r HR.out n g (by have := HZ.out; omega) (by have := HZ.out; omega) u tc R HPY.out.bu.ti kn HKN.out X hX g1 x l r' R1 hsc (by have := HZ.out; omega)
      rw [HM.out] at HQ
      have HXB : Hid (x < g1 ∧ g1 ≤ 80) := Lib.hid (by have := HZ.out; omega)
      clear hsc hg1 hxg ht hbv hbu hg hr' d0 d1 d2 d3 d4 c0 c1 c2 HG
      obtain ⟨d0, d1, d2, d3, d4⟩ := HL1.out.bd.all
      obtain ⟨c0, c1, c2⟩ := HL1.out.bc.all
      go_wp2_with fail
      refine (HQ.out _ HRN.out).mono ?_
      rintro e x2 ⟨u', cap', rfl, hru, hb⟩
      obtain ⟨m', hm'⟩ : ∃ m', (outL (tkT R g) x kn).length = m' := ⟨_, rfl⟩
      have HM' : Hid ((tkT R' g1).length = m') := Lib.hid (by rw [HT.out]; exact hm')
      rw [hm']
      have hb3 := hb.alloc hb.size (.cells (bqA 1 (n : Int) (g1 : Int) r' (.slice u' m' cap')) 33)
      have HP2 : Hid (DP A B n g1 R' s' u' (x2.alloc (.cells (bqA 1 (n : Int) (g1 : Int) r' (.slice u' m' cap')) 33))) := Lib.hid ⟨HBB.out.1.below hb3, HBB.out.2, by rw [HT.out]; exact hru.below (bel1 x2 _)⟩
      have HL := Lib.hid (HL1.out.below HBB.out.1.1 hb3)
      have HGE : Hid (x2.heap.size ≠ E) := Lib.hid (Nat.ne_of_gt (HL1.out.below HBB.out.1.1 hb).be.lt)
      have HG : Hid (BqAt x2.heap.size 1 (n : Int) (g1 : Int) r' (.slice u' m' cap') (x2.alloc (.cells (bqA 1 (n : Int) (g1 : Int) r' (.slice u' m' cap')) 33))) := Lib.hid (heap_new x2 _)
      clear hb hb3 hru hm' d0 d1 d2 d3 d4 c0 c1 c2 HQ
      go_upto_region 5 with fail
      obtain ⟨x3, hx3⟩ : ∃ x3, x2.alloc (.cells (bqA 1 (n : Int) (g1 : Int) r' (.slice u' m' cap')) 33) = x3 := ⟨_, rfl⟩
      obtain ⟨G, hG⟩ : ∃ G, x2.heap.size = G := ⟨_, rfl⟩
      rw [hx3] at HP2 HL HG ⊢
      rw [hG] at HG HGE ⊢
      clear hx3 hG
      have HDO := Lib.hid (do_end (tc := cap') HP2.out HL.out HDN.out)
      rw [HM'.out, HR'.out] at HDO
      obtain ⟨k0, k1, k2, k3, k4⟩ := HG.out.all
      have hq1 : IntKind.i64.wrap ((x : Int) + 1) = (x : Int) + 1 := by have := HXB.out; rw [IntKind.wrap_i64]; omega
      have hq2 : IntKind.i64.wrap (((x : Int) + 1) * 4096) = (adr x : Int) := by have := HXB.out; unfold adr; rw [IntKind.wrap_i64]; omega
      have hgl := HG.out.below (Below.refl x3.heap.size x3).drew
      have HL4 := Lib.hid (HL.out.below HP2.out.bv.1 (Below.refl x3.heap.size x3).drew)
      have HP4 := Lib.hid (HP2.out.below (Below.refl x3.heap.size x3).drew)
      have HDO4 := Lib.hid (do_end (tc := cap') HP4.out HL4.out HDN.out)
      rw [HM'.out, HR'.out] at HDO4
      have hdl := HL4.out.bd
      have hGE := HGE.out
      have hs0 := And.intro hgl.all hdl.all.1
      have hs1 := And.intro (BqAt.all (show BqAt G 1 (n : Int) (g1 : Int) r' (.slice u' m' cap') (set5 x3.drew E (.int .i64 1) (.int .i64 (n : Int)) (.int .i64 (g1 : Int)) (.int .i64 r') (.slice u' m' cap')) from (set5_far hGE _ _ _ _ _).trans hgl)) (BqAt.all (show BqAt D 1 (n : Int) (g : Int) r (.slice u m tc) (set5 x3.drew E (.int .i64 1) (.int .i64 (n : Int)) (.int .i64 (g1 : Int)) (.int .i64 r') (.slice u' m' cap')) from (set5_far HDN.out.ne.1 _ _ _ _ _).trans hdl)).1
      obtain ⟨⟨p0, p1, p2, p3, p4⟩, p5⟩ := hs0
      obtain ⟨⟨r0', r1', r2', r3', r4'⟩, r5'⟩ := hs1
      obtain ⟨e0, e1, e2, e3, e4⟩ := HL4.out.be.all
      obtain ⟨f0, f1, f2, f3, f4⟩ := HL4.out.be.free
      clear hgl hdl k0 k1 k2 k3 k4
      refine wp_region_held_drew (S := fun X : World => X.cell? ⟨G, 0, none⟩ = some (.int .i64 1) ∧ X.cell? ⟨G, 1, none⟩ = some (.int .i64 (n : Int)) ∧ X.cell? ⟨G, 2, none⟩ = some (.int .i64 (g1 : Int)) ∧ X.cell? ⟨G, 3, none⟩ = some (.int .i64 r') ∧ X.cell? ⟨G, 4, none⟩ = some (.slice u' m' cap') ∧ X.cell? ⟨D, 0, none⟩ = some (.int .i64 1)) (by kernel_rfl) ⟨p0, p1, p2, p3, p4, p5⟩ (fun hHeld => ?_)
      generalize x3.drew = x4 at *
      refine wpAnyH_take (i := 0) (v := (bqV 1 (n : Int) (g1 : Int) r' (.slice u' m' cap'))) rfl (by kernel_rfl) (by kernel_rfl) (by kernel_rfl) (fun _ _ _ h => h) (Or.inl ⟨by rfl, fun X hS => ?_⟩) hHeld ?_
      · obtain ⟨p0, p1, p2, p3, p4, p5⟩ := hS
        go_simp
      try simp only [Act.put, List.getElem_toArray, List.getElem_cons_zero, List.getElem_cons_succ, List.setIfInBounds_toArray, List.set_cons_zero, List.set_cons_succ]
      refine wpAnyH_take (i := 1) (v := (.int .i64 0)) rfl (by kernel_rfl) (by kernel_rfl) (by kernel_rfl) (fun _ _ _ h => h) (Or.inl ⟨by rfl, fun X hS => ?_⟩) hHeld ?_
      · obtain ⟨p0, p1, p2, p3, p4, p5⟩ := hS
        go_simp
      try simp only [Act.put, List.getElem_toArray, List.getElem_cons_zero, List.getElem_cons_succ, List.setIfInBounds_toArray, List.set_cons_zero, List.set_cons_succ]
      refine wpAnyH_take (i := 2) (v := (.int .i64 0)) rfl (by kernel_rfl) (by kernel_rfl) (by kernel_rfl) (fun _ _ _ h => h) (Or.inl ⟨by rfl, fun X hS => ?_⟩) hHeld ?_
      · obtain ⟨p0, p1, p2, p3, p4, p5⟩ := hS
        go_simp
      try simp only [Act.put, List.getElem_toArray, List.getElem_cons_zero, List.getElem_cons_succ, List.setIfInBounds_toArray, List.set_cons_zero, List.set_cons_succ]
      refine wpAnyH_take (i := 3) (v := (.bool true)) rfl (by kernel_rfl) (by kernel_rfl) (by kernel_rfl) (fun _ _ _ h => h) (Or.inl ⟨by rfl, fun X hS => ?_⟩) hHeld ?_
      · obtain ⟨p0, p1, p2, p3, p4, p5⟩ := hS
        go_simp
      try simp only [Act.put, List.getElem_toArray, List.getElem_cons_zero, List.getElem_cons_succ, List.setIfInBounds_toArray, List.set_cons_zero, List.set_cons_succ]
      refine wpAnyH_take (i := 4) (v := (.bool true)) rfl (by kernel_rfl) (by kernel_rfl) (by kernel_rfl) (fun _ _ _ h => h) (Or.inl ⟨by rfl, fun X hS => ?_⟩) hHeld ?_
      · obtain ⟨p0, p1, p2, p3, p4, p5⟩ := hS
        go_simp
      try simp only [Act.put, List.getElem_toArray, List.getElem_cons_zero, List.getElem_cons_succ, List.setIfInBounds_toArray, List.set_cons_zero, List.set_cons_succ]
      refine wpAnyH_take (i := 5) (v := (.int .i64 0)) rfl (by kernel_rfl) (by kernel_rfl) (by kernel_rfl) (fun _ _ _ h => h) (Or.inl ⟨by rfl, fun X hS => ?_⟩) hHeld ?_
      · obtain ⟨p0, p1, p2, p3, p4, p5⟩ := hS
        go_simp
      try simp only [Act.put, List.getElem_toArray, List.getElem_cons_zero, List.getElem_cons_succ, List.setIfInBounds_toArray, List.set_cons_zero, List.set_cons_succ]
      refine wpAnyH_take (i := 6) (v := (.bool false)) rfl (by kernel_rfl) (by kernel_rfl) (by kernel_rfl) (fun _ _ _ h => h) (Or.inl ⟨by rfl, fun X hS => ?_⟩) hHeld ?_
      · obtain ⟨p0, p1, p2, p3, p4, p5⟩ := hS
        go_simp
      try simp only [Act.put, List.getElem_toArray, List.getElem_cons_zero, List.getElem_cons_succ, List.setIfInBounds_toArray, List.set_cons_zero, List.set_cons_succ]
      refine wpAnyH_take (i := 7) (v := (.bool false)) rfl (by kernel_rfl) (by kernel_rfl) (by kernel_rfl) (fun _ _ _ h => h) (Or.inl ⟨by rfl, fun X hS => ?_⟩) hHeld ?_
      · obtain ⟨p0, p1, p2, p3, p4, p5⟩ := hS
        go_simp
      try simp only [Act.put, List.getElem_toArray, List.getElem_cons_zero, List.getElem_cons_succ, List.setIfInBounds_toArray, List.set_cons_zero, List.set_cons_succ]
      refine wpAnyH_take (i := 8) (v := undef) rfl (by kernel_rfl) (by kernel_rfl) (by kernel_rfl) (fun _ _ _ h => h) (Or.inr ⟨by rfl, rfl⟩) hHeld ?_
      try simp only [Act.put, List.getElem_toArray, List.getElem_cons_zero, List.getElem_cons_succ, List.setIfInBounds_toArray, List.set_cons_zero, List.set_cons_succ]
      refine wpAnyH_take (i := 9) (v := undef) rfl (by kernel_rfl) (by kernel_rfl) (by kernel_rfl) (fun _ _ _ h => h) (Or.inr ⟨by rfl, rfl⟩) hHeld ?_
      try simp only [Act.put, List.getElem_toArray, List.getElem_cons_zero, List.getElem_cons_succ, List.setIfInBounds_toArray, List.set_cons_zero, List.set_cons_succ]
      refine wpAnyH_take (i := 10) (v := (.bool false)) rfl (by kernel_rfl) (by kernel_rfl) (by kernel_rfl) (fun _ _ _ h => h) (Or.inl ⟨by rfl, fun X hS => ?_⟩) hHeld ?_
      · obtain ⟨p0, p1, p2, p3, p4, p5⟩ := hS
        go_simp
      try simp only [Act.put, List.getElem_toArray, List.getElem_cons_zero, List.getElem_cons_succ, List.setIfInBounds_toArray, List.set_cons_zero, List.set_cons_succ]
      refine wpAnyH_take (i := 11) (v := (.bool false)) rfl (by kernel_rfl) (by kernel_rfl) (by kernel_rfl) (fun _ _ _ h => h) (Or.inl ⟨by rfl, fun X hS => ?_⟩) hHeld ?_
      · obtain ⟨p0, p1, p2, p3, p4, p5⟩ := hS
        go_simp
      try simp only [Act.put, List.getElem_toArray, List.getElem_cons_zero, List.getElem_cons_succ, List.setIfInBounds_toArray, List.set_cons_zero, List.set_cons_succ]
      refine wpAnyH_take (i := 12) (v := (.int .i64 0)) rfl (by kernel_rfl) (by kernel_rfl) (by kernel_rfl) (fun _ _ _ h => h) (Or.inl ⟨by rfl, fun X hS => ?_⟩) hHeld ?_
      · obtain ⟨p0, p1, p2, p3, p4, p5⟩ := hS
        go_simp
      try simp only [Act.put, List.getElem_toArray, List.getElem_cons_zero, List.getElem_cons_succ, List.setIfInBounds_toArray, List.set_cons_zero, List.set_cons_succ]
      refine wpAnyH_take (i := 13) (v := (.bool true)) rfl (by kernel_rfl) (by kernel_rfl) (by kernel_rfl) (fun _ _ _ h => h) (Or.inl ⟨by rfl, fun X hS => ?_⟩) hHeld ?_
      · obtain ⟨p0, p1, p2, p3, p4, p5⟩ := hS
        go_simp
      try simp only [Act.put, List.getElem_toArray, List.getElem_cons_zero, List.getElem_cons_succ, List.setIfInBounds_toArray, List.set_cons_zero, List.set_cons_succ]
      refine wpAnyH_take (i := 14) (v := (.bool true)) rfl (by kernel_rfl) (by kernel_rfl) (by kernel_rfl) (fun _ _ _ h => h) (Or.inl ⟨by rfl, fun X hS => ?_⟩) hHeld ?_
      · obtain ⟨p0, p1, p2, p3, p4, p5⟩ := hS
        go_simp
      try simp only [Act.put, List.getElem_toArray, List.getElem_cons_zero, List.getElem_cons_succ, List.setIfInBounds_toArray, List.set_cons_zero, List.set_cons_succ]
      refine wpAnyH_take (i := 15) (v := (.int .i64 (adr x : Int))) rfl (by kernel_rfl) (by kernel_rfl) (by kernel_rfl) (fun _ _ _ h => h) (Or.inl ⟨by rfl, fun X hS => ?_⟩) hHeld ?_
      · obtain ⟨p0, p1, p2, p3, p4, p5⟩ := hS
        go_simp
      try simp only [Act.put, List.getElem_toArray, List.getElem_cons_zero, List.getElem_cons_succ, List.setIfInBounds_toArray, List.set_cons_zero, List.set_cons_succ]
      refine wpAnyH_take (i := 16) (v := (.int .i64 (x : Int))) rfl (by kernel_rfl) (by kernel_rfl) (by kernel_rfl) (fun _ _ _ h => h) (Or.inl ⟨by rfl, fun X hS => ?_⟩) hHeld ?_
      · obtain ⟨p0, p1, p2, p3, p4, p5⟩ := hS
        go_simp
      try simp only [Act.put, List.getElem_toArray, List.getElem_cons_zero, List.getElem_cons_succ, List.setIfInBounds_toArray, List.set_cons_zero, List.set_cons_succ]
      refine wpAnyH_take (i := 17) (v := (.pointer (some ⟨D, 0, none⟩))) rfl (by kernel_rfl) (by kernel_rfl) (by kernel_rfl) (fun _ _ _ h => h) (Or.inl ⟨by rfl, fun X hS => ?_⟩) hHeld ?_
      · obtain ⟨p0, p1, p2, p3, p4, p5⟩ := hS
        go_simp
      try simp only [Act.put, List.getElem_toArray, List.getElem_cons_zero, List.getElem_cons_succ, List.setIfInBounds_toArray, List.set_cons_zero, List.set_cons_succ]
      refine wpAnyH_take (i := 18) (v := (.int .i64 1)) rfl (by kernel_rfl) (by kernel_rfl) (by kernel_rfl) (fun _ _ _ h => h) (Or.inl ⟨by rfl, fun X hS => ?_⟩) hHeld ?_
      · obtain ⟨p0, p1, p2, p3, p4, p5⟩ := hS
        go_simp
      try simp only [Act.put, List.getElem_toArray, List.getElem_cons_zero, List.getElem_cons_succ, List.setIfInBounds_toArray, List.set_cons_zero, List.set_cons_succ]
      refine wpAnyH_take (i := 19) (v := (.int .i64 ((x : Int) + 1))) rfl (by kernel_rfl) (by kernel_rfl) (by kernel_rfl) (fun _ _ _ h => h) (Or.inl ⟨by rfl, fun X hS => ?_⟩) hHeld ?_
      · obtain ⟨p0, p1, p2, p3, p4, p5⟩ := hS
        go_simp
      try simp only [Act.put, List.getElem_toArray, List.getElem_cons_zero, List.getElem_cons_succ, List.setIfInBounds_toArray, List.set_cons_zero, List.set_cons_succ]
      refine wpAnyH_take (i := 20) (v := (.int .i64 (adr x : Int))) rfl (by kernel_rfl) (by kernel_rfl) (by kernel_rfl) (fun _ _ _ h => h) (Or.inl ⟨by rfl, fun X hS => ?_⟩) hHeld ?_
      · obtain ⟨p0, p1, p2, p3, p4, p5⟩ := hS
        go_simp
      try simp only [Act.put, List.getElem_toArray, List.getElem_cons_zero, List.getElem_cons_succ, List.setIfInBounds_toArray, List.set_cons_zero, List.set_cons_succ]
      refine wpAnyH_take (i := 21) (v := (.bool true)) rfl (by kernel_rfl) (by kernel_rfl) (by kernel_rfl) (fun _ _ _ h => h) (Or.inl ⟨by rfl, fun X hS => ?_⟩) hHeld ?_
      · obtain ⟨p0, p1, p2, p3, p4, p5⟩ := hS
        go_simp
      try simp only [Act.put, List.getElem_toArray, List.getElem_cons_zero, List.getElem_cons_succ, List.setIfInBounds_toArray, List.set_cons_zero, List.set_cons_succ]
      refine wpAnyH_take (i := 22) (v := (.bool true)) rfl (by kernel_rfl) (by kernel_rfl) (by kernel_rfl) (fun _ _ _ h => h) (Or.inl ⟨by rfl, fun X hS => ?_⟩) hHeld ?_
      · obtain ⟨p0, p1, p2, p3, p4, p5⟩ := hS
        go_simp
      try simp only [Act.put, List.getElem_toArray, List.getElem_cons_zero, List.getElem_cons_succ, List.setIfInBounds_toArray, List.set_cons_zero, List.set_cons_succ]
      refine wpAnyH_take (i := 23) (v := (.bool true)) rfl (by kernel_rfl) (by kernel_rfl) (by kernel_rfl) (fun _ _ _ h => h) (Or.inl ⟨by rfl, fun X hS => ?_⟩) hHeld ?_
      · obtain ⟨p0, p1, p2, p3, p4, p5⟩ := hS
        go_simp
      try simp only [Act.put, List.getElem_toArray, List.getElem_cons_zero, List.getElem_cons_succ, List.setIfInBounds_toArray, List.set_cons_zero, List.set_cons_succ]
      refine wpAnyH_take (i := 24) (v := (.bool true)) rfl (by kernel_rfl) (by kernel_rfl) (by kernel_rfl) (fun _ _ _ h => h) (Or.inl ⟨by rfl, fun X hS => ?_⟩) hHeld ?_
      · obtain ⟨p0, p1, p2, p3, p4, p5⟩ := hS
        go_simp
      try simp only [Act.put, List.getElem_toArray, List.getElem_cons_zero, List.getElem_cons_succ, List.setIfInBounds_toArray, List.set_cons_zero, List.set_cons_succ]
      refine wpAnyH_ready (rs := [25]) (by kernel_rfl) (by simp) (AllReadyH.cons rfl (fun K1 hK1 => ?_) AllReadyH.nil)
      go_simp
      refine hK1.out _ _ ⟨r0', r1', r2', r3', r4', r5'⟩ (fun hHeld => ?_)
      clear hK1
      try simp only [Act.put, List.getElem_toArray, List.getElem_cons_zero, List.getElem_cons_succ, List.setIfInBounds_toArray, List.set_cons_zero, List.set_cons_succ]
      refine wpAnyH_take (i := 26) (v := (.bool true)) rfl (by kernel_rfl) (by kernel_rfl) (by kernel_rfl) (fun _ _ _ h => h) (Or.inl ⟨by rfl, fun X hS => ?_⟩) hHeld ?_
      · obtain ⟨p0, p1, p2, p3, p4, p5⟩ := hS
        go_simp
      try simp only [Act.put, List.getElem_toArray, List.getElem_cons_zero, List.getElem_cons_succ, List.setIfInBounds_toArray, List.set_cons_zero, List.set_cons_succ]
      refine wpAnyH_done (by kernel_rfl) ?_ _
      clear hHeld p0 p1 p2 p3 p4 p5 r0' r1' r2' r3' r4' r5'
      obtain ⟨d0, d1, d2, d3, d4⟩ := HL4.out.bd.all
      go_wp2_with fail
      change bodyPost _ _ _ _ _ (set5 x4 E (.int .i64 1) (.int .i64 (n : Int)) (.int .i64 (g1 : Int)) (.int .i64 r') (.slice u' m' cap'))
      obtain ⟨z, hzz⟩ : ∃ z, set5 x4 E (.int .i64 1) (.int .i64 (n : Int)) (.int .i64 (g1 : Int)) (.int .i64 r') (.slice u' m' cap') = z := ⟨_, rfl⟩
      obtain ⟨hz1, hz2⟩ := HDO4.out z hzz.symm
      have HZ2 := Lib.hid hz2
      rw [hzz]
      clear hzz hz2 d0 d1 d2 d3 d4 e0 e1 e2 e3 e4 f0 f1 f2 f3 f4
      obtain ⟨gg0, gg1, gg2, gg3, gg4⟩ := hz1.all
      exact bodyPost_ret (v := .tuple #[bqV 1 (n : Int) (g1 : Int) r' (.slice u' m' cap'), .bool true]) (by simp [results, Tryz.results15, go_sem, gg0, gg1, gg2, gg3, gg4]) rfl HZ2.out
    · have HL1 := Lib.hid (HLY.out.went HPY.out.bv.1 hg)
      have HP1 := Lib.hid hp1
      obtain ⟨r', hr'⟩ : ∃ r', rfI s' = r' := ⟨_, rfl⟩
      have HR' := Lib.hid hr'
      rw [hr'] at hq
      have HQ := Lib.hid fun X (hX : RnAt X u (tkT R g)) => ball_no 1 r HR.out n g (by have := HZ.out; omega) (by have := HZ.out; omega) u tc R HPY.out.bu.ti kn HKN.out X hX r' 4 hn hq (by decide)
      rw [HM.out] at HQ
      clear hp1 hg hq hn hr' d0 d1 d2 d3 d4 c0 c1 c2 HG
      obtain ⟨d0, d1, d2, d3, d4⟩ := HL1.out.bd.all
      obtain ⟨c0, c1, c2⟩ := HL1.out.bc.all
      go_wp2_with fail
      refine (HQ.out _ HP1.out.rn).mono ?_
      rintro e x2 ⟨rfl, hb⟩
      have hb3 := hb.alloc hb.size (.cells (bqA 1 (n : Int) (g : Int) r' (.slice u m tc)) 33)
      have HP2 := Lib.hid (HP1.out.below hb3)
      have HL := Lib.hid (HL1.out.below HP1.out.bv.1 hb3)
      have HG : Hid (BqAt x2.heap.size 1 (n : Int) (g : Int) r' (.slice u m tc) (x2.alloc (.cells (bqA 1 (n : Int) (g : Int) r' (.slice u m tc)) 33))) := Lib.hid (heap_new x2 _)
      clear hb hb3 d0 d1 d2 d3 d4 c0 c1 c2 HQ
      go_upto_region 5 with fail
      obtain ⟨x3, hx3⟩ : ∃ x3, x2.alloc (.cells (bqA 1 (n : Int) (g : Int) r' (.slice u m tc)) 33) = x3 := ⟨_, rfl⟩
      obtain ⟨G, hG⟩ : ∃ G, x2.heap.size = G := ⟨_, rfl⟩
      rw [hx3] at HP2 HL HG ⊢
      rw [hG] at HG ⊢
      clear hx3 hG
      have HDO := Lib.hid (do_end (tc := tc) HP2.out HL.out HDN.out)
      rw [HM.out, HR'.out] at HDO
      obtain ⟨k0, k1, k2, k3, k4⟩ := HG.out.all
      obtain ⟨d0, d1, d2, d3, d4⟩ := HL.out.bd.all
      obtain ⟨e0, e1, e2, e3, e4⟩ := HL.out.be.all
      obtain ⟨f0, f1, f2, f3, f4⟩ := HL.out.be.free
      go_region
      go_wp2_with fail
      change bodyPost _ _ _ _ _ (set5 x3 E (.int .i64 1) (.int .i64 (n : Int)) (.int .i64 (g : Int)) (.int .i64 r') (.slice u m tc)).drew
      obtain ⟨z, hzz⟩ : ∃ z, set5 x3 E (.int .i64 1) (.int .i64 (n : Int)) (.int .i64 (g : Int)) (.int .i64 r') (.slice u m tc) = z := ⟨_, rfl⟩
      obtain ⟨hz1, hz2⟩ := HDO.out z hzz.symm
      have HZ2 := Lib.hid hz2.drew
      have hz3 : BqAt E 1 (n : Int) (g : Int) r' (.slice u m tc) z.drew := hz1.below (Below.refl z.heap.size z).drew
      rw [hzz]
      clear hzz hz2 hz1 d0 d1 d2 d3 d4 e0 e1 e2 e3 e4 f0 f1 f2 f3 f4
      obtain ⟨gg0, gg1, gg2, gg3, gg4⟩ := hz3.all
      exact bodyPost_ret (v := .tuple #[bqV 1 (n : Int) (g : Int) r' (.slice u m tc), .bool true]) (by simp [results, Tryz.results15, go_sem, gg0, gg1, gg2, gg3, gg4]) rfl HZ2.out

end Go.Proofs.YtfemgekhpcgliaaGreat.Bt
/- The statement's Do: Free. -/
namespace Go.Proofs.YtfemgekhpcgliaaGreat.Bt
open Go Go.RowKit Go.Shelf
set_option linter.unusedVariables false
set_option linter.unusedSimpArgs false
set_option maxHeartbeats 16000000 in
set_option maxRecDepth 100000 in
theorem do_free3 {A B n g : Nat} {R : Runs} {s : ASt} {u : Option Addr} {tc : Nat} {w : World} (d k nn : Int) (hm : Int.tmod d 8 = 3) (hd : 0 ≤ d ∧ d ≤ 255) (hk : -9223372036854775808 ≤ k ∧ k ≤ 9223372036854775807) (hnn : -9223372036854775808 ≤ nn ∧ nn ≤ 9223372036854775807) (hp : DP A B n g R s u w) :
    Calls Tryz.prog 15 #[bdyP B, bqV 1 (n : Int) (g : Int) (rfI s) (.slice u (tkT R g).length tc), .agg #[.int .u8 d, .int .i64 k, .int .i64 nn]] w (DoP A B n w) := by
  have hz := hp.bu.sz hp.bv.2.1
  have hr := rfI_le hp.bv.1
  have HP := Lib.hid hp
  have HB := Lib.hid (do_begin (tc := tc) d k nn hp)
  have HZ := Lib.hid hz
  have HR := Lib.hid hr
  have HKK := Lib.hid hk; have HNN := Lib.hid hnn
  obtain ⟨m, hmm⟩ : ∃ m, (tkT R g).length = m := ⟨_, rfl⟩
  have HM := Lib.hid hmm
  obtain ⟨r, hrr⟩ : ∃ r, rfI s = r := ⟨_, rfl⟩
  have HRR := Lib.hid hrr
  rw [hmm, hrr] at HB
  rw [hmm, hrr]
  rw [hrr] at HR
  clear hp hz hr hmm hrr hk hnn
  go_enter Tryz.func15, Tryz.ntmps15
  go_upto_region 1 with fail
  obtain ⟨y, hy⟩ : ∃ y, ((w.alloc (.cells (bqA 1 (n : Int) (g : Int) r (.slice u m tc)) 33)).alloc (.cells (acA d k nn) 37)).alloc (.cells (bqA 0 0 0 0 (.slice none 0 0)) 33) = y := ⟨_, rfl⟩
  obtain ⟨hpy, hly, hny⟩ := HB.out y hy.symm
  rw [hy]
  obtain ⟨D, hD⟩ : ∃ D, w.heap.size = D := ⟨_, rfl⟩
  obtain ⟨C, hC⟩ : ∃ C, w.heap.size + 1 = C := ⟨_, rfl⟩
  obtain ⟨E, hE⟩ : ∃ E, w.heap.size + 2 = E := ⟨_, rfl⟩
  have hE2 : w.heap.size + 1 + 1 = E := hE
  rw [hE, hC, hD] at hly hny
  rw [hE2, hC, hD]
  have HPY := Lib.hid hpy; have HLY := Lib.hid hly; have HDN := Lib.hid hny
  obtain ⟨d0, d1, d2, d3, d4⟩ := hly.bd.all
  obtain ⟨c0, c1, c2⟩ := hly.bc.all
  clear hpy hly hny hy hD hC hE hE2 HB
  have HPK := Lib.hid (bpick_any HPY.out.bv HPY.out.bu nn HNN.out.2)
  have HOR := Lib.hid fun X s0 (h1 : BV B A n s0 X) (h2 : Bud (n + 1) g g R g s0) (a : Int) h3 h4 => border_any h1 h2 a h3 h4
  go_wp2_with fail
  refine HPK.out.mono ?_
  rintro e x1 ⟨a, rfl, hb, hpk⟩
  have HP1 := Lib.hid (HPY.out.below hb)
  have HL1 := Lib.hid (HLY.out.below HPY.out.bv.1 hb)
  clear hb d0 d1 d2 d3 d4 c0 c1 c2 HPK
  obtain ⟨d0, d1, d2, d3, d4⟩ := HL1.out.bd.all
  obtain ⟨c0, c1, c2⟩ := HL1.out.bc.all
  rcases hpk with ⟨rfl, hpk⟩ | ⟨x, k0, rfl, hpk⟩
  · have hpa := hpk
    have HA := Lib.hid hpa
    clear hpk hpa
    have hO := HOR.out _ _ HP1.out.bv HP1.out.bu (0 : Int) (by  omega) (by  omega)
    have HO := Lib.hid hO
    clear hO
    have hw1 : IntKind.i64.wrap (Int.tdiv (0 : Int) 4096) = (0 : Int) := by rw [(show Int.tdiv (0 : Int) 4096 = 0 from rfl), IntKind.wrap_i64]; omega
    have hw2 : IntKind.i64.wrap ((0 : Int) - 1) = (-1 : Int) := by rw [IntKind.wrap_i64]; omega
    have hw3 : Int.tdiv (0 : Int) 4096 = (0 : Int) := (show Int.tdiv (0 : Int) 4096 = 0 from rfl)
    have hw4 : IntKind.i64.wrap (0 : Int) = (0 : Int) := by rw [IntKind.wrap_i64]; omega
    go_wp2_with fail
    refine HO.out.mono ?_
    rintro e x2 ⟨k1, e1, rfl, hv, hb⟩
    have hke : k1 = (0 : Int) ∧ e1 = 8 := by
      rcases hv with ⟨p, l, q1, q2, q3, q4⟩ | ⟨q1, q2, q3⟩
      · exact absurd q2 (HA.out p l)
      · exact ⟨q2, q3⟩
    obtain ⟨rfl, rfl⟩ := hke
    have HP2 := Lib.hid (HP1.out.below hb)
    have HL2 := Lib.hid (HL1.out.below HP1.out.bv.1 hb)
    clear hb hv d0 d1 d2 d3 d4 c0 c1 c2 HO HOR
    obtain ⟨d0, d1, d2, d3, d4⟩ := HL2.out.bd.all
    have HRO := Lib.hid fun X (hX : RnAt X u (tkT R g)) => bord_any 1 (n : Int) (g : Int) r u tc (tkT R g) (by have := tkT_len R g; have := HZ.out; omega) (-1 : Int) X hX
    rw [HM.out, ord_no (R := R) (g := g) (a := (-1 : Int)) (fun i k q => by omega)] at HRO
    go_wp2_with fail
    refine (HRO.out _ HP2.out.rn).mono ?_
    rintro e x3 ⟨rfl, hb⟩
    have HP3 := Lib.hid (HP2.out.below hb)
    have HL3 := Lib.hid (HL2.out.below HP2.out.bv.1 hb)
    clear hb d0 d1 d2 d3 d4 HRO
    have hF := bFree_any HP3.out.bv HP3.out.bu (0 : Int) (by  omega) (by  omega)
    have HF := Lib.hid hF
    clear hF
    go_wp2_with fail
    refine HF.out.mono ?_
    rintro e x4 hfp
    rcases hfp with ⟨p, l, q1, q2, _⟩ | ⟨q1, rfl, hb⟩
    · exact absurd q2 (HA.out p l)
    have HP4 := Lib.hid (HP3.out.below hb)
    have HL4 := Lib.hid (HL3.out.below HP3.out.bv.1 hb)
    have HR' := HRR
    have HRF := Lib.hid fun X (hX : RnAt X u (tkT R g)) => bfr_no 1 (n : Int) (g : Int) r u tc (tkT R g) (by have := tkT_len R g; have := HZ.out; omega) (-1 : Int) X hX (ord_no (R := R) (g := g) (a := (-1 : Int)) (fun i k q => by omega))
    rw [HM.out] at HRF
    clear q1 hb HF
    obtain ⟨d0, d1, d2, d3, d4⟩ := HL4.out.bd.all
    go_wp2_with fail
    refine (HRF.out _ HP4.out.rn).mono ?_
    rintro e x5 ⟨u', cap', rfl, hru, hb⟩
    obtain ⟨m', hm'⟩ : ∃ m', (tkT R g).length = m' := ⟨_, rfl⟩
    have HM' := Lib.hid hm'
    try rw [hm']
    have HP5 : Hid (DP A B n g R s u' x5) := Lib.hid ⟨HP4.out.bv.below hb, HP4.out.bu, hru⟩
    have HL5 := Lib.hid (HL4.out.below HP4.out.bv.1 hb)
    clear hb hru d0 d1 d2 d3 d4 HRF
    have hmm : m = m' := by rw [← HM.out, hm']
    subst hmm
    clear hm'
    obtain ⟨d0, d1, d2, d3, d4⟩ := HL5.out.bd.all
    obtain ⟨k0', k1', k2', k3', k4'⟩ := HL5.out.bd.free
    go_upto_region 13 with fail
    change Code.wp _ _ _ _ (set5 x5 D (.int .i64 1) (.int .i64 (n : Int)) (.int .i64 (g : Int)) (.int .i64 r) (.slice u' m cap'))
    have HL := Lib.hid (HL5.out.setD HDN.out HP5.out.bv.1 (g : Int) r (.slice u' m cap'))
    have HP6 := Lib.hid (HP5.out.set5 HL5.out.md HL5.out.bd (.int .i64 1) (.int .i64 (n : Int)) (.int .i64 (g : Int)) (.int .i64 r) (.slice u' m cap'))
    obtain ⟨x6, hx6⟩ : ∃ x6, set5 x5 D (.int .i64 1) (.int .i64 (n : Int)) (.int .i64 (g : Int)) (.int .i64 r) (.slice u' m cap') = x6 := ⟨_, rfl⟩
    rw [hx6] at HL HP6 ⊢
    have HDO := Lib.hid (do_end (tc := cap') HP6.out HL.out HDN.out)
    rw [HM'.out, HR'.out] at HDO
    clear hx6 d0 d1 d2 d3 d4 k0' k1' k2' k3' k4'
    obtain ⟨d0, d1, d2, d3, d4⟩ := HL.out.bd.all
    obtain ⟨e0, e1, e2, e3, e4⟩ := HL.out.be.all
    obtain ⟨f0, f1, f2, f3, f4⟩ := HL.out.be.free
    go_wp2_with fail
    change bodyPost _ _ _ _ _ (set5 x6 E (.int .i64 1) (.int .i64 (n : Int)) (.int .i64 (g : Int)) (.int .i64 r) (.slice u' m cap'))
    obtain ⟨z, hzz⟩ : ∃ z, set5 x6 E (.int .i64 1) (.int .i64 (n : Int)) (.int .i64 (g : Int)) (.int .i64 r) (.slice u' m cap') = z := ⟨_, rfl⟩
    obtain ⟨hz1, hz2⟩ := HDO.out z hzz.symm
    have HZ2 := Lib.hid hz2
    rw [hzz]
    clear hzz hz2 d0 d1 d2 d3 d4 e0 e1 e2 e3 e4 f0 f1 f2 f3 f4
    obtain ⟨gg0, gg1, gg2, gg3, gg4⟩ := hz1.all
    exact bodyPost_ret (v := .tuple #[bqV 1 (n : Int) (g : Int) r (.slice u' m cap'), .bool true]) (by simp [results, Tryz.results15, go_sem, gg0, gg1, gg2, gg3, gg4]) rfl HZ2.out

  · have HXL : Hid (x < 80) := Lib.hid (by have := HP1.out.bu.ti.lt hpk; have := HZ.out; omega)
    have hxl := HXL.out
    have hpa := hpk
    have HA := Lib.hid hpa
    clear hpk hpa
    have hO := HOR.out _ _ HP1.out.bv HP1.out.bu (adr x : Int) (by have := HXL.out; unfold adr; omega) (by have := HXL.out; unfold adr; omega)
    have HO := Lib.hid hO
    clear hO
    have hw1 : IntKind.i64.wrap (Int.tdiv (adr x : Int) 4096) = ((1 : Int) + (x : Int)) := by rw [(show Int.tdiv (adr x : Int) 4096 = 1 + (x : Int) by rw [adr_div]; omega), IntKind.wrap_i64]; omega
    have hw2 : IntKind.i64.wrap (((1 : Int) + (x : Int)) - 1) = (x : Int) := by rw [IntKind.wrap_i64]; omega
    have hw3 : Int.tdiv (adr x : Int) 4096 = ((1 : Int) + (x : Int)) := (show Int.tdiv (adr x : Int) 4096 = 1 + (x : Int) by rw [adr_div]; omega)
    have hw4 : IntKind.i64.wrap ((1 : Int) + (x : Int)) = ((1 : Int) + (x : Int)) := by rw [IntKind.wrap_i64]; omega
    go_wp2_with fail
    refine HO.out.mono ?_
    rintro e x2 ⟨k1, e1, rfl, hv, hb⟩
    have hke : k1 = (k0 : Int) ∧ e1 = 0 := by
      rcases hv with ⟨p, l, q1, q2, q3, q4⟩ | ⟨q1, q2, q3⟩
      · have : p = x := by unfold adr at q1; omega
        subst this
        rw [HA.out] at q2
        exact ⟨by rw [q3, (some_of q2).1], q4⟩
      · exact absurd HA.out (q1 x k0 rfl)
    obtain ⟨rfl, rfl⟩ := hke
    have HP2 := Lib.hid (HP1.out.below hb)
    have HL2 := Lib.hid (HL1.out.below HP1.out.bv.1 hb)
    clear hb hv d0 d1 d2 d3 d4 c0 c1 c2 HO HOR
    obtain ⟨d0, d1, d2, d3, d4⟩ := HL2.out.bd.all
    have HRO := Lib.hid fun X (hX : RnAt X u (tkT R g)) => bord_any 1 (n : Int) (g : Int) r u tc (tkT R g) (by have := tkT_len R g; have := HZ.out; omega) (x : Int) X hX
    rw [HM.out, ord_tk HP2.out.bu.ti HA.out] at HRO
    go_wp2_with fail
    refine (HRO.out _ HP2.out.rn).mono ?_
    rintro e x3 ⟨rfl, hb⟩
    have HP3 := Lib.hid (HP2.out.below hb)
    have HL3 := Lib.hid (HL2.out.below HP2.out.bv.1 hb)
    clear hb d0 d1 d2 d3 d4 HRO
    have hF := bFree_any HP3.out.bv HP3.out.bu (adr x : Int) (by have := HXL.out; unfold adr; omega) (by have := HXL.out; unfold adr; omega)
    have HF := Lib.hid hF
    clear hF
    go_wp2_with fail
    refine HF.out.mono ?_
    rintro e x4 hfp
    rcases hfp with ⟨p, l, q1, q2, rfl, R', s', g1, g2, g3, g4, g5, g6, g7⟩ | ⟨q1, q2, q3⟩
    rotate_left
    · exact absurd HA.out (q1 x k0 rfl)
    have hpx : p = x := by unfold adr at q1; omega
    subst hpx
    have ht := wr8_tk HP3.out.bu.ti g2.ti g4
    have HRN := Lib.hid (HP3.out.rn.went HP3.out.bv.1 g3)
    have HB4 := Lib.hid (And.intro g1 g2)
    have HL4 := Lib.hid (HL3.out.went HP3.out.bv.1 g3)
    have HT := Lib.hid ht
    have HR' : Hid (rfI s' = r) := Lib.hid (by rw [rfI_same g6 g7]; exact HRR.out)
    have HRF := Lib.hid fun X (hX : RnAt X u (tkT R g)) => bfr_yes 1 (n : Int) (g : Int) r u tc (tkT R g) (by have := tkT_len R g; have := HZ.out; omega) (p : Int) X hX (k0 : Int) (ord_tk HP3.out.bu.ti HA.out)
    rw [HM.out, HT.out] at HRF
    clear g1 g2 g3 g4 g5 g6 g7 q1 q2 ht HF
    obtain ⟨d0, d1, d2, d3, d4⟩ := HL4.out.bd.all
    go_wp2_with fail
    refine (HRF.out _ HRN.out).mono ?_
    rintro e x5 ⟨u', cap', rfl, hru, hb⟩
    obtain ⟨m', hm'⟩ : ∃ m', (tkT R' g).length = m' := ⟨_, rfl⟩
    have HM' := Lib.hid hm'
    rw [hm']
    have HP5 : Hid (DP A B n g R' s' u' x5) := Lib.hid ⟨HB4.out.1.below hb, HB4.out.2, hru⟩
    have HL5 := Lib.hid (HL4.out.below HB4.out.1.1 hb)
    clear hb hru hm' d0 d1 d2 d3 d4 HRF
    obtain ⟨d0, d1, d2, d3, d4⟩ := HL5.out.bd.all
    obtain ⟨k0', k1', k2', k3', k4'⟩ := HL5.out.bd.free
    go_upto_region 13 with fail
    change Code.wp _ _ _ _ (set5 x5 D (.int .i64 1) (.int .i64 (n : Int)) (.int .i64 (g : Int)) (.int .i64 r) (.slice u' m' cap'))
    have HL := Lib.hid (HL5.out.setD HDN.out HP5.out.bv.1 (g : Int) r (.slice u' m' cap'))
    have HP6 := Lib.hid (HP5.out.set5 HL5.out.md HL5.out.bd (.int .i64 1) (.int .i64 (n : Int)) (.int .i64 (g : Int)) (.int .i64 r) (.slice u' m' cap'))
    obtain ⟨x6, hx6⟩ : ∃ x6, set5 x5 D (.int .i64 1) (.int .i64 (n : Int)) (.int .i64 (g : Int)) (.int .i64 r) (.slice u' m' cap') = x6 := ⟨_, rfl⟩
    rw [hx6] at HL HP6 ⊢
    have HDO := Lib.hid (do_end (tc := cap') HP6.out HL.out HDN.out)
    rw [HM'.out, HR'.out] at HDO
    clear hx6 d0 d1 d2 d3 d4 k0' k1' k2' k3' k4'
    obtain ⟨d0, d1, d2, d3, d4⟩ := HL.out.bd.all
    obtain ⟨e0, e1, e2, e3, e4⟩ := HL.out.be.all
    obtain ⟨f0, f1, f2, f3, f4⟩ := HL.out.be.free
    go_wp2_with fail
    change bodyPost _ _ _ _ _ (set5 x6 E (.int .i64 1) (.int .i64 (n : Int)) (.int .i64 (g : Int)) (.int .i64 r) (.slice u' m' cap'))
    obtain ⟨z, hzz⟩ : ∃ z, set5 x6 E (.int .i64 1) (.int .i64 (n : Int)) (.int .i64 (g : Int)) (.int .i64 r) (.slice u' m' cap') = z := ⟨_, rfl⟩
    obtain ⟨hz1, hz2⟩ := HDO.out z hzz.symm
    have HZ2 := Lib.hid hz2
    rw [hzz]
    clear hzz hz2 d0 d1 d2 d3 d4 e0 e1 e2 e3 e4 f0 f1 f2 f3 f4
    obtain ⟨gg0, gg1, gg2, gg3, gg4⟩ := hz1.all
    exact bodyPost_ret (v := .tuple #[bqV 1 (n : Int) (g : Int) r (.slice u' m' cap'), .bool true]) (by simp [results, Tryz.results15, go_sem, gg0, gg1, gg2, gg3, gg4]) rfl HZ2.out

set_option maxHeartbeats 16000000 in
set_option maxRecDepth 100000 in
theorem do_free4 {A B n g : Nat} {R : Runs} {s : ASt} {u : Option Addr} {tc : Nat} {w : World} (d k nn : Int) (hm : Int.tmod d 8 = 4) (hd : 0 ≤ d ∧ d ≤ 255) (hk : -9223372036854775808 ≤ k ∧ k ≤ 9223372036854775807) (hnn : -9223372036854775808 ≤ nn ∧ nn ≤ 9223372036854775807) (hp : DP A B n g R s u w) :
    Calls Tryz.prog 15 #[bdyP B, bqV 1 (n : Int) (g : Int) (rfI s) (.slice u (tkT R g).length tc), .agg #[.int .u8 d, .int .i64 k, .int .i64 nn]] w (DoP A B n w) := by
  have hz := hp.bu.sz hp.bv.2.1
  have hr := rfI_le hp.bv.1
  have HP := Lib.hid hp
  have HB := Lib.hid (do_begin (tc := tc) d k nn hp)
  have HZ := Lib.hid hz
  have HR := Lib.hid hr
  have HKK := Lib.hid hk; have HNN := Lib.hid hnn
  obtain ⟨m, hmm⟩ : ∃ m, (tkT R g).length = m := ⟨_, rfl⟩
  have HM := Lib.hid hmm
  obtain ⟨r, hrr⟩ : ∃ r, rfI s = r := ⟨_, rfl⟩
  have HRR := Lib.hid hrr
  rw [hmm, hrr] at HB
  rw [hmm, hrr]
  rw [hrr] at HR
  clear hp hz hr hmm hrr hk hnn
  go_enter Tryz.func15, Tryz.ntmps15
  go_upto_region 1 with fail
  obtain ⟨y, hy⟩ : ∃ y, ((w.alloc (.cells (bqA 1 (n : Int) (g : Int) r (.slice u m tc)) 33)).alloc (.cells (acA d k nn) 37)).alloc (.cells (bqA 0 0 0 0 (.slice none 0 0)) 33) = y := ⟨_, rfl⟩
  obtain ⟨hpy, hly, hny⟩ := HB.out y hy.symm
  rw [hy]
  obtain ⟨D, hD⟩ : ∃ D, w.heap.size = D := ⟨_, rfl⟩
  obtain ⟨C, hC⟩ : ∃ C, w.heap.size + 1 = C := ⟨_, rfl⟩
  obtain ⟨E, hE⟩ : ∃ E, w.heap.size + 2 = E := ⟨_, rfl⟩
  have hE2 : w.heap.size + 1 + 1 = E := hE
  rw [hE, hC, hD] at hly hny
  rw [hE2, hC, hD]
  have HPY := Lib.hid hpy; have HLY := Lib.hid hly; have HDN := Lib.hid hny
  obtain ⟨d0, d1, d2, d3, d4⟩ := hly.bd.all
  obtain ⟨c0, c1, c2⟩ := hly.bc.all
  clear hpy hly hny hy hD hC hE hE2 HB
  have HPK := Lib.hid (bpick_any HPY.out.bv HPY.out.bu nn HNN.out.2)
  have HOR := Lib.hid fun X s0 (h1 : BV B A n s0 X) (h2 : Bud (n + 1) g g R g s0) (a : Int) h3 h4 => border_any h1 h2 a h3 h4
  go_wp2_with fail
  refine HPK.out.mono ?_
  rintro e x1 ⟨a, rfl, hb, hpk⟩
  have HP1 := Lib.hid (HPY.out.below hb)
  have HL1 := Lib.hid (HLY.out.below HPY.out.bv.1 hb)
  clear hb d0 d1 d2 d3 d4 c0 c1 c2 HPK
  obtain ⟨d0, d1, d2, d3, d4⟩ := HL1.out.bd.all
  obtain ⟨c0, c1, c2⟩ := HL1.out.bc.all
  rcases hpk with ⟨rfl, hpk⟩ | ⟨x, k0, rfl, hpk⟩
  · have hpa := hpk
    have HA := Lib.hid hpa
    clear hpk hpa
    have hO := HOR.out _ _ HP1.out.bv HP1.out.bu (0 : Int) (by  omega) (by  omega)
    have HO := Lib.hid hO
    clear hO
    have hw1 : IntKind.i64.wrap (Int.tdiv (0 : Int) 4096) = (0 : Int) := by rw [(show Int.tdiv (0 : Int) 4096 = 0 from rfl), IntKind.wrap_i64]; omega
    have hw2 : IntKind.i64.wrap ((0 : Int) - 1) = (-1 : Int) := by rw [IntKind.wrap_i64]; omega
    have hw3 : Int.tdiv (0 : Int) 4096 = (0 : Int) := (show Int.tdiv (0 : Int) 4096 = 0 from rfl)
    have hw4 : IntKind.i64.wrap (0 : Int) = (0 : Int) := by rw [IntKind.wrap_i64]; omega
    go_wp2_with fail
    refine HO.out.mono ?_
    rintro e x2 ⟨k1, e1, rfl, hv, hb⟩
    have hke : k1 = (0 : Int) ∧ e1 = 8 := by
      rcases hv with ⟨p, l, q1, q2, q3, q4⟩ | ⟨q1, q2, q3⟩
      · exact absurd q2 (HA.out p l)
      · exact ⟨q2, q3⟩
    obtain ⟨rfl, rfl⟩ := hke
    have HP2 := Lib.hid (HP1.out.below hb)
    have HL2 := Lib.hid (HL1.out.below HP1.out.bv.1 hb)
    clear hb hv d0 d1 d2 d3 d4 c0 c1 c2 HO HOR
    obtain ⟨d0, d1, d2, d3, d4⟩ := HL2.out.bd.all
    have HRO := Lib.hid fun X (hX : RnAt X u (tkT R g)) => bord_any 1 (n : Int) (g : Int) r u tc (tkT R g) (by have := tkT_len R g; have := HZ.out; omega) (-1 : Int) X hX
    rw [HM.out, ord_no (R := R) (g := g) (a := (-1 : Int)) (fun i k q => by omega)] at HRO
    go_wp2_with fail
    refine (HRO.out _ HP2.out.rn).mono ?_
    rintro e x3 ⟨rfl, hb⟩
    have HP3 := Lib.hid (HP2.out.below hb)
    have HL3 := Lib.hid (HL2.out.below HP2.out.bv.1 hb)
    clear hb d0 d1 d2 d3 d4 HRO
    have hF := bFree_any HP3.out.bv HP3.out.bu (0 : Int) (by  omega) (by  omega)
    have HF := Lib.hid hF
    clear hF
    go_wp2_with fail
    refine HF.out.mono ?_
    rintro e x4 hfp
    rcases hfp with ⟨p, l, q1, q2, _⟩ | ⟨q1, rfl, hb⟩
    · exact absurd q2 (HA.out p l)
    have HP4 := Lib.hid (HP3.out.below hb)
    have HL4 := Lib.hid (HL3.out.below HP3.out.bv.1 hb)
    have HR' := HRR
    have HRF := Lib.hid fun X (hX : RnAt X u (tkT R g)) => bfr_no 1 (n : Int) (g : Int) r u tc (tkT R g) (by have := tkT_len R g; have := HZ.out; omega) (-1 : Int) X hX (ord_no (R := R) (g := g) (a := (-1 : Int)) (fun i k q => by omega))
    rw [HM.out] at HRF
    clear q1 hb HF
    obtain ⟨d0, d1, d2, d3, d4⟩ := HL4.out.bd.all
    go_wp2_with fail
    refine (HRF.out _ HP4.out.rn).mono ?_
    rintro e x5 ⟨u', cap', rfl, hru, hb⟩
    obtain ⟨m', hm'⟩ : ∃ m', (tkT R g).length = m' := ⟨_, rfl⟩
    have HM' := Lib.hid hm'
    try rw [hm']
    have HP5 : Hid (DP A B n g R s u' x5) := Lib.hid ⟨HP4.out.bv.below hb, HP4.out.bu, hru⟩
    have HL5 := Lib.hid (HL4.out.below HP4.out.bv.1 hb)
    clear hb hru d0 d1 d2 d3 d4 HRF
    have hmm : m = m' := by rw [← HM.out, hm']
    subst hmm
    clear hm'
    obtain ⟨d0, d1, d2, d3, d4⟩ := HL5.out.bd.all
    obtain ⟨k0', k1', k2', k3', k4'⟩ := HL5.out.bd.free
    go_upto_region 13 with fail
    change Code.wp _ _ _ _ (set5 x5 D (.int .i64 1) (.int .i64 (n : Int)) (.int .i64 (g : Int)) (.int .i64 r) (.slice u' m cap'))
    have HL := Lib.hid (HL5.out.setD HDN.out HP5.out.bv.1 (g : Int) r (.slice u' m cap'))
    have HP6 := Lib.hid (HP5.out.set5 HL5.out.md HL5.out.bd (.int .i64 1) (.int .i64 (n : Int)) (.int .i64 (g : Int)) (.int .i64 r) (.slice u' m cap'))
    obtain ⟨x6, hx6⟩ : ∃ x6, set5 x5 D (.int .i64 1) (.int .i64 (n : Int)) (.int .i64 (g : Int)) (.int .i64 r) (.slice u' m cap') = x6 := ⟨_, rfl⟩
    rw [hx6] at HL HP6 ⊢
    have HDO := Lib.hid (do_end (tc := cap') HP6.out HL.out HDN.out)
    rw [HM'.out, HR'.out] at HDO
    clear hx6 d0 d1 d2 d3 d4 k0' k1' k2' k3' k4'
    obtain ⟨d0, d1, d2, d3, d4⟩ := HL.out.bd.all
    obtain ⟨e0, e1, e2, e3, e4⟩ := HL.out.be.all
    obtain ⟨f0, f1, f2, f3, f4⟩ := HL.out.be.free
    go_wp2_with fail
    change bodyPost _ _ _ _ _ (set5 x6 E (.int .i64 1) (.int .i64 (n : Int)) (.int .i64 (g : Int)) (.int .i64 r) (.slice u' m cap'))
    obtain ⟨z, hzz⟩ : ∃ z, set5 x6 E (.int .i64 1) (.int .i64 (n : Int)) (.int .i64 (g : Int)) (.int .i64 r) (.slice u' m cap') = z := ⟨_, rfl⟩
    obtain ⟨hz1, hz2⟩ := HDO.out z hzz.symm
    have HZ2 := Lib.hid hz2
    rw [hzz]
    clear hzz hz2 d0 d1 d2 d3 d4 e0 e1 e2 e3 e4 f0 f1 f2 f3 f4
    obtain ⟨gg0, gg1, gg2, gg3, gg4⟩ := hz1.all
    exact bodyPost_ret (v := .tuple #[bqV 1 (n : Int) (g : Int) r (.slice u' m cap'), .bool true]) (by simp [results, Tryz.results15, go_sem, gg0, gg1, gg2, gg3, gg4]) rfl HZ2.out

  · have HXL : Hid (x < 80) := Lib.hid (by have := HP1.out.bu.ti.lt hpk; have := HZ.out; omega)
    have hxl := HXL.out
    have hpa := hpk
    have HA := Lib.hid hpa
    clear hpk hpa
    have hO := HOR.out _ _ HP1.out.bv HP1.out.bu (adr x : Int) (by have := HXL.out; unfold adr; omega) (by have := HXL.out; unfold adr; omega)
    have HO := Lib.hid hO
    clear hO
    have hw1 : IntKind.i64.wrap (Int.tdiv (adr x : Int) 4096) = ((1 : Int) + (x : Int)) := by rw [(show Int.tdiv (adr x : Int) 4096 = 1 + (x : Int) by rw [adr_div]; omega), IntKind.wrap_i64]; omega
    have hw2 : IntKind.i64.wrap (((1 : Int) + (x : Int)) - 1) = (x : Int) := by rw [IntKind.wrap_i64]; omega
    have hw3 : Int.tdiv (adr x : Int) 4096 = ((1 : Int) + (x : Int)) := (show Int.tdiv (adr x : Int) 4096 = 1 + (x : Int) by rw [adr_div]; omega)
    have hw4 : IntKind.i64.wrap ((1 : Int) + (x : Int)) = ((1 : Int) + (x : Int)) := by rw [IntKind.wrap_i64]; omega
    go_wp2_with fail
    refine HO.out.mono ?_
    rintro e x2 ⟨k1, e1, rfl, hv, hb⟩
    have hke : k1 = (k0 : Int) ∧ e1 = 0 := by
      rcases hv with ⟨p, l, q1, q2, q3, q4⟩ | ⟨q1, q2, q3⟩
      · have : p = x := by unfold adr at q1; omega
        subst this
        rw [HA.out] at q2
        exact ⟨by rw [q3, (some_of q2).1], q4⟩
      · exact absurd HA.out (q1 x k0 rfl)
    obtain ⟨rfl, rfl⟩ := hke
    have HP2 := Lib.hid (HP1.out.below hb)
    have HL2 := Lib.hid (HL1.out.below HP1.out.bv.1 hb)
    clear hb hv d0 d1 d2 d3 d4 c0 c1 c2 HO HOR
    obtain ⟨d0, d1, d2, d3, d4⟩ := HL2.out.bd.all
    have HRO := Lib.hid fun X (hX : RnAt X u (tkT R g)) => bord_any 1 (n : Int) (g : Int) r u tc (tkT R g) (by have := tkT_len R g; have := HZ.out; omega) (x : Int) X hX
    rw [HM.out, ord_tk HP2.out.bu.ti HA.out] at HRO
    go_wp2_with fail
    refine (HRO.out _ HP2.out.rn).mono ?_
    rintro e x3 ⟨rfl, hb⟩
    have HP3 := Lib.hid (HP2.out.below hb)
    have HL3 := Lib.hid (HL2.out.below HP2.out.bv.1 hb)
    clear hb d0 d1 d2 d3 d4 HRO
    have hF := bFree_any HP3.out.bv HP3.out.bu (adr x : Int) (by have := HXL.out; unfold adr; omega) (by have := HXL.out; unfold adr; omega)
    have HF := Lib.hid hF
    clear hF
    go_wp2_with fail
    refine HF.out.mono ?_
    rintro e x4 hfp
    rcases hfp with ⟨p, l, q1, q2, rfl, R', s', g1, g2, g3, g4, g5, g6, g7⟩ | ⟨q1, q2, q3⟩
    rotate_left
    · exact absurd HA.out (q1 x k0 rfl)
    have hpx : p = x := by unfold adr at q1; omega
    subst hpx
    have ht := wr8_tk HP3.out.bu.ti g2.ti g4
    have HRN := Lib.hid (HP3.out.rn.went HP3.out.bv.1 g3)
    have HB4 := Lib.hid (And.intro g1 g2)
    have HL4 := Lib.hid (HL3.out.went HP3.out.bv.1 g3)
    have HT := Lib.hid ht
    have HR' : Hid (rfI s' = r) := Lib.hid (by rw [rfI_same g6 g7]; exact HRR.out)
    have HRF := Lib.hid fun X (hX : RnAt X u (tkT R g)) => bfr_yes 1 (n : Int) (g : Int) r u tc (tkT R g) (by have := tkT_len R g; have := HZ.out; omega) (p : Int) X hX (k0 : Int) (ord_tk HP3.out.bu.ti HA.out)
    rw [HM.out, HT.out] at HRF
    clear g1 g2 g3 g4 g5 g6 g7 q1 q2 ht HF
    obtain ⟨d0, d1, d2, d3, d4⟩ := HL4.out.bd.all
    go_wp2_with fail
    refine (HRF.out _ HRN.out).mono ?_
    rintro e x5 ⟨u', cap', rfl, hru, hb⟩
    obtain ⟨m', hm'⟩ : ∃ m', (tkT R' g).length = m' := ⟨_, rfl⟩
    have HM' := Lib.hid hm'
    rw [hm']
    have HP5 : Hid (DP A B n g R' s' u' x5) := Lib.hid ⟨HB4.out.1.below hb, HB4.out.2, hru⟩
    have HL5 := Lib.hid (HL4.out.below HB4.out.1.1 hb)
    clear hb hru hm' d0 d1 d2 d3 d4 HRF
    obtain ⟨d0, d1, d2, d3, d4⟩ := HL5.out.bd.all
    obtain ⟨k0', k1', k2', k3', k4'⟩ := HL5.out.bd.free
    go_upto_region 13 with fail
    change Code.wp _ _ _ _ (set5 x5 D (.int .i64 1) (.int .i64 (n : Int)) (.int .i64 (g : Int)) (.int .i64 r) (.slice u' m' cap'))
    have HL := Lib.hid (HL5.out.setD HDN.out HP5.out.bv.1 (g : Int) r (.slice u' m' cap'))
    have HP6 := Lib.hid (HP5.out.set5 HL5.out.md HL5.out.bd (.int .i64 1) (.int .i64 (n : Int)) (.int .i64 (g : Int)) (.int .i64 r) (.slice u' m' cap'))
    obtain ⟨x6, hx6⟩ : ∃ x6, set5 x5 D (.int .i64 1) (.int .i64 (n : Int)) (.int .i64 (g : Int)) (.int .i64 r) (.slice u' m' cap') = x6 := ⟨_, rfl⟩
    rw [hx6] at HL HP6 ⊢
    have HDO := Lib.hid (do_end (tc := cap') HP6.out HL.out HDN.out)
    rw [HM'.out, HR'.out] at HDO
    clear hx6 d0 d1 d2 d3 d4 k0' k1' k2' k3' k4'
    obtain ⟨d0, d1, d2, d3, d4⟩ := HL.out.bd.all
    obtain ⟨e0, e1, e2, e3, e4⟩ := HL.out.be.all
    obtain ⟨f0, f1, f2, f3, f4⟩ := HL.out.be.free
    go_wp2_with fail
    change bodyPost _ _ _ _ _ (set5 x6 E (.int .i64 1) (.int .i64 (n : Int)) (.int .i64 (g : Int)) (.int .i64 r) (.slice u' m' cap'))
    obtain ⟨z, hzz⟩ : ∃ z, set5 x6 E (.int .i64 1) (.int .i64 (n : Int)) (.int .i64 (g : Int)) (.int .i64 r) (.slice u' m' cap') = z := ⟨_, rfl⟩
    obtain ⟨hz1, hz2⟩ := HDO.out z hzz.symm
    have HZ2 := Lib.hid hz2
    rw [hzz]
    clear hzz hz2 d0 d1 d2 d3 d4 e0 e1 e2 e3 e4 f0 f1 f2 f3 f4
    obtain ⟨gg0, gg1, gg2, gg3, gg4⟩ := hz1.all
    exact bodyPost_ret (v := .tuple #[bqV 1 (n : Int) (g : Int) r (.slice u' m' cap'), .bool true]) (by simp [results, Tryz.results15, go_sem, gg0, gg1, gg2, gg3, gg4]) rfl HZ2.out

theorem do_any {A B n g : Nat} {R : Runs} {s : ASt} {u : Option Addr} {tc : Nat} {w : World} (d k nn : Int) (hd : 0 ≤ d ∧ d ≤ 255) (hk : -9223372036854775808 ≤ k ∧ k ≤ 9223372036854775807) (hnn : -9223372036854775808 ≤ nn ∧ nn ≤ 9223372036854775807) (hp : DP A B n g R s u w) :
    Calls Tryz.prog 15 #[bdyP B, bqV 1 (n : Int) (g : Int) (rfI s) (.slice u (tkT R g).length tc), .agg #[.int .u8 d, .int .i64 k, .int .i64 nn]] w (DoP A B n w) := by
  have hm : d.tmod 8 = d % 8 := Int.tmod_eq_emod_of_nonneg hd.1
  have h8 : d % 8 = 0 ∨ d % 8 = 1 ∨ d % 8 = 2 ∨ d % 8 = 3 ∨ d % 8 = 4 ∨ d % 8 = 5 ∨ d % 8 = 6 ∨ d % 8 = 7 := by omega
  rcases h8 with q | q | q | q | q | q | q | q <;> rw [q] at hm
  · exact do_alloc0 d k nn hm hd hk hnn hp
  · exact do_alloc1 d k nn hm hd hk hnn hp
  · exact do_alloc2 d k nn hm hd hk hnn hp
  · exact do_free3 d k nn hm hd hk hnn hp
  · exact do_free4 d k nn hm hd hk hnn hp
  · exact do_grow d k nn hm hd hk hnn hp
  · exact do_shrink d k nn hm hd hk hnn hp
  · exact do_refuse d k nn hm hd hk hnn hp
end Go.Proofs.YtfemgekhpcgliaaGreat.Bt
