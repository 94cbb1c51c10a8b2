import Derived.Test.YtfemgekhpcgliaaGreatCmJ
import Derived.Test.YtfemgekhpcgliaaGreatCnN
/- CensusTells. (Written by gen_cnr.py.) -/
namespace Go.Proofs.YtfemgekhpcgliaaGreat.Bt
open Go Go.RowKit Go.Shelf
set_option linter.unusedVariables false
set_option linter.unusedSimpArgs false
/-- a buddy, the document's in block Q, and the document's row in block E -/
structure PT (A B Q E n g : Nat) (R : Runs) (s : ASt) (u : Option Addr) (m tc : Nat) (r : Int) (w0 x : World) : Prop where
  dp : DP A B n g R s u x
  bq : BqAt Q 1 (n : Int) (g : Int) r (.slice u m tc) x
  be : ByAt E (stA R g n) x
  bs : Base A w0 x
theorem PT.below {A B Q E n g : Nat} {R : Runs} {s : ASt} {u : Option Addr} {m tc : Nat} {r : Int} {w0 x z : World} (h : PT A B Q E n g R s u m tc r w0 x) (hb : Below x.heap.size x z) : PT A B Q E n g R s u m tc r w0 z :=
  ⟨h.dp.below hb, h.bq.below hb, h.be.below hb, h.bs.below h.dp.bv.1 hb⟩
theorem can_both {A B n g : Nat} {R : Runs} {s : ASt} {u : Option Addr} (tc : Nat) (r : Int) (order : Int) (hB : Bud (n + 1) g g R g s) :
    ∃ cb, (∀ X, DP A B n g R s u X → Calls Tryz.prog 26 #[bdyP B, .int .i64 order] X (Gives (.bool cb) X)) ∧ (∀ X, DP A B n g R s u X → Calls Tryz.prog 32 #[bqV 1 (n : Int) (g : Int) r (.slice u (tkT R g).length tc), .int .i64 order] X (Gives (.bool cb) X)) := by
  by_cases h : order < 0 ∨ 10 < order
  · exact ⟨false, fun X _ => ccan_out B X order h, fun X _ => rcan_out _ _ _ _ _ _ order h X⟩
  · obtain ⟨k, rfl⟩ := Int.eq_ofNat_of_zero_le (show 0 ≤ order by omega)
    exact ⟨canB n g k R, fun X hX => ccan hX.bv hB k (by omega), fun X hX => rcan hX tc r k (by omega)⟩
set_option maxHeartbeats 16000000 in
set_option maxRecDepth 100000 in
theorem tells9 (cap : Int) (p0 : Option Addr) (c0 : Nat) (acts : List Act8) (hlen : acts.length ≤ 9223372036854775807) (order st : Int) (hst : 0 ≤ st ∧ st ≤ 255) (w : World) (h : Acts8At w p0 acts) :
    Calls Tryz.prog 4 #[.int .i64 cap, .slice p0 acts.length c0, .int .i64 order, .int .u8 st] w fun e w' => e = .returned (.bool true) ∧ Below w.heap.size w w' := by
  have HACT := Lib.hid h
  clear h
  go_enter Tryz.func4, Tryz.ntmps4
  go_wp2_with fail
  refine (awake9 _).mono ?_
  rintro e w0 ⟨rfl, hb⟩
  have HB0 := Lib.hid hb
  have HAC0 := Lib.hid (HACT.out.below hb)
  clear hb
  by_cases h60 : (60 : Int) < (acts.length : Int)
  · go_wp2_with fail
    go_ret
    exact ⟨rfl, HB0.out⟩
  have HPL := Lib.hid (play9 cap p0 c0 acts (by omega) _ HAC0.out)
  go_wp2_with fail
  refine HPL.out.mono ?_
  rintro e w1 (⟨rfl, hb⟩ | ⟨n, A, B, g, R, s, u, tc, rfl, hdp, hbs⟩)
  · have hb2 := HB0.out.trans (hb.mono HB0.out.size)
    have HB2 := Lib.hid (hb2.alloc hb2.size (.cells (bqA 0 0 0 0 (.slice none 0 0)) 33))
    clear hb hb2 HPL
    go_upto_region 6 with fail
    change Code.wp _ _ _ _ (w1.alloc (.cells (bqA 0 0 0 0 (.slice none 0 0)) 33))
    obtain ⟨w2, hw2⟩ : ∃ y, w1.alloc (.cells (bqA 0 0 0 0 (.slice none 0 0)) 33) = y := ⟨_, rfl⟩
    rw [hw2] at HB2 ⊢
    clear hw2
    go_wp2_with fail
    refine (cstates_nil _).mono ?_
    rintro e w3 ⟨rfl, hb⟩
    have HB3 := Lib.hid (HB2.out.trans (hb.mono HB2.out.size))
    clear hb
    go_wp2_with fail
    refine (ccount_nil _).mono ?_
    rintro e w4 ⟨rfl, hb⟩
    have HB4 := Lib.hid (HB3.out.trans (hb.mono HB3.out.size))
    clear hb
    go_wp2_with fail
    refine (ccan_nil _ 0).mono ?_
    rintro e w5 ⟨rfl, hb⟩
    have HB5 := Lib.hid (HB4.out.trans (hb.mono HB4.out.size))
    clear hb
    go_wp2_with fail
    refine (cright_nil _).mono ?_
    rintro e w6 ⟨rfl, hb⟩
    have HB6 := Lib.hid (HB5.out.trans (hb.mono HB5.out.size))
    clear hb
    go_wp2_with fail
    go_ret
    exact ⟨rfl, HB6.out⟩
  obtain ⟨m, hm⟩ : ∃ m, (tkT R g).length = m := ⟨_, rfl⟩
  rw [hm]
  obtain ⟨r, hr⟩ : ∃ r, rfI s = r := ⟨_, rfl⟩
  rw [hr]
  have hz := hdp.bu.sz hdp.bv.2.1
  have hti := hdp.bu.ti
  have hb1 := bel1 w1 (.cells (bqA 1 (n : Int) (g : Int) r (.slice u m tc)) 33)
  have hbq : BqAt w1.heap.size 1 (n : Int) (g : Int) r (.slice u m tc) (w1.alloc (.cells (bqA 1 (n : Int) (g : Int) r (.slice u m tc)) 33)) := heap_new _ _
  have HP2 : Hid (DP A B n g R s u (w1.alloc (.cells (bqA 1 (n : Int) (g : Int) r (.slice u m tc)) 33)) ∧ BqAt w1.heap.size 1 (n : Int) (g : Int) r (.slice u m tc) (w1.alloc (.cells (bqA 1 (n : Int) (g : Int) r (.slice u m tc)) 33)) ∧ Base A w (w1.alloc (.cells (bqA 1 (n : Int) (g : Int) r (.slice u m tc)) 33))) := Lib.hid ⟨hdp.below hb1, hbq, (hbs.rebase HB0.out).below hdp.bv.1 hb1⟩
  have HRS : Hid (∀ X, DP A B n g R s u X → Calls Tryz.prog 28 #[bqV 1 (n : Int) (g : Int) r (.slice u m tc)] X (RsP R g n X)) := Lib.hid fun X hX => hm ▸ rstates hz.2.1 hz.2.2.1 hti hX.rn tc r
  have HST := Lib.hid fun X (hX : BV B A n s X) => cstates hX hdp.bu
  have HLG := Lib.hid fun X (hX : BV B A n s X) => clargest hX hdp.bu
  have HRL : Hid (∀ X, DP A B n g R s u X → Calls Tryz.prog 30 #[bqV 1 (n : Int) (g : Int) r (.slice u m tc)] X (Gives (lgV (runL R g)) X)) := Lib.hid fun X hX => hm ▸ rlargest 1 (n : Int) r g (by omega) u tc R hti X hX.rn
  have HCA0 := can_both (A := A) (B := B) (u := u) tc r order hdp.bu
  rw [hm] at HCA0
  obtain ⟨cb, hca⟩ := HCA0
  have HCA := Lib.hid hca
  obtain ⟨c, hc⟩ : ∃ c, cntL (stA R g n) st = c := ⟨_, rfl⟩
  have HCO : Hid (∀ X, BV B A n s X → Calls Tryz.prog 25 #[bdyP B, .int .u8 st] X (Gives (.int .i64 (c : Int)) X)) := Lib.hid fun X hX => hc ▸ ccount hX hdp.bu st hst
  have HEQ : Hid (∀ D E X, ByAt D (stA R g n) X → ByAt E (stA R g n) X → Calls Tryz.prog 31 #[.slice (some ⟨D, 0, none⟩) (n + 1) (n + 1), .slice (some ⟨E, 0, none⟩) (n + 1) (n + 1)] X (Gives (.bool true) X)) := Lib.hid fun D E X h1 h2 => by
    have := bequal_any D E (n + 1) (n + 1) (stA R g n) (by rw [stA_len]; omega) X h1 h2
    rw [stA_len] at this
    exact this
  have HCE := Lib.hid hc
  obtain ⟨l, hl⟩ : ∃ l, stA R g n = l := ⟨_, rfl⟩
  have HLL : Hid (l.length = n + 1) := Lib.hid (hl ▸ stA_len R g n)
  have HLE := Lib.hid hl
  have HN80 := Lib.hid hz.2.1
  clear hdp hbs hm hr hz hti hb1 hbq HPL HAC0 HACT hca hc hl
  go_upto_region 6 with fail
  change Code.wp _ _ _ _ (w1.alloc (.cells (bqA 1 (n : Int) (g : Int) r (.slice u m tc)) 33))
  obtain ⟨w2, hw2⟩ : ∃ y, w1.alloc (.cells (bqA 1 (n : Int) (g : Int) r (.slice u m tc)) 33) = y := ⟨_, rfl⟩
  obtain ⟨Q, hQ⟩ : ∃ Q, w1.heap.size = Q := ⟨_, rfl⟩
  rw [hw2, hQ] at HP2
  rw [hw2, hQ]
  clear hw2 hQ
  obtain ⟨q0, q1, q2, q3, q4⟩ := HP2.out.2.1.all
  go_wp2_with fail
  refine (HRS.out _ HP2.out.1).mono ?_
  rintro e w3 ⟨E, rfl, hd, hD, hb⟩
  have HPT : Hid (PT A B Q E n g R s u m tc r w w3) := Lib.hid ⟨HP2.out.1.below hb, HP2.out.2.1.below hb, hd, HP2.out.2.2.below HP2.out.1.bv.1 hb⟩
  clear hd hD hb HP2 q0 q1 q2 q3 q4 HRS
  go_wp2_with fail
  go_loopw [13, 51] (fun s13 s51 wr => ∃ j : Nat, j ≤ n + 1 ∧ s13 = .int .i64 (cntL (l.take j) st : Int) ∧ s51 = .int .i64 (j : Int) ∧ Hid (PT A B Q E n g R s u m tc r w wr)) (fun _ s51 _ => n + 1 - (intOf s51).toNat)
  case atStart => exact ⟨0, Nat.zero_le _, by rw [List.take_zero]; rfl, rfl, HPT⟩
  case round =>
    clear HPT
    obtain ⟨j, hj, rfl, rfl, HPT⟩ := hrel
    by_cases hjn : j < n + 1
    · have hjn2 : (j : Int) < (n : Int) + 1 := by omega
      have hjL : j < l.length := by rw [HLL.out]; exact hjn
      have hbe := HPT.out.be
      rw [HLE.out] at hbe
      obtain ⟨c0, _⟩ := hbe.cell hjL
      have HS1 := Lib.hid (cntL_succ hjL st)
      obtain ⟨x, hx⟩ : ∃ x, l.getD j 0 = x := ⟨_, rfl⟩
      have hcb : cntL (l.take j) st ≤ n + 1 := by have h1 := cntL_le (l.take j) st; rw [List.length_take] at h1; omega
      obtain ⟨a, ha⟩ : ∃ a, cntL (l.take j) st = a := ⟨_, rfl⟩
      rw [hx] at c0 HS1
      rw [ha] at HS1 hcb ⊢
      have hn80 := HN80.out
      clear hjL hx ha hbe
      have hw1 : IntKind.i64.wrap ((a : Int) + 1) = (a : Int) + 1 := by rw [IntKind.wrap_i64]; omega
      by_cases hxv : (x : Int) = st
      · have HS2 : Hid (((cntL (l.take (j + 1)) st : Nat) : Int) = (a : Int) + 1) := Lib.hid (by rw [HS1.out, if_pos hxv]; push_cast; rfl)
        go_wp2_with fail
        go_roundw
        case rel => exact ⟨j + 1, by omega, by rw [HS2.out], by go_num, HPT⟩
        case measure => simp [intOf]; omega
      · have HS2 : Hid (((cntL (l.take (j + 1)) st : Nat) : Int) = (a : Int)) := Lib.hid (by rw [HS1.out, if_neg hxv]; rfl)
        go_wp2_with fail
        go_roundw
        case rel => exact ⟨j + 1, by omega, by rw [HS2.out], by go_num, HPT⟩
        case measure => simp [intOf]; omega
    · have hje : l.take j = l := List.take_of_length_le (by rw [HLL.out]; omega)
      have hjn3 : ¬ ((j : Int) < (n : Int) + 1) := by omega
      have hcc : cntL l st = c := by rw [← HLE.out]; exact HCE.out
      rw [hje, hcc]
      clear hje hcc hj hjn
      go_wp2_with fail
      refine (HLG.out _ HPT.out.dp.bv).mono ?_
      rintro e w4 ⟨rfl, hb⟩
      have HPT4 := Lib.hid (HPT.out.below hb)
      clear hb HPT
      obtain ⟨q0, q1, q2, q3, q4⟩ := HPT4.out.bq.all
      unfold lgV at HRL ⊢
      obtain ⟨M, hM⟩ : ∃ M, lgM (runL R g) = M := ⟨_, rfl⟩
      obtain ⟨bb, hbb⟩ : ∃ bb, lgB (runL R g) = bb := ⟨_, rfl⟩
      rw [hM, hbb] at HRL ⊢
      clear hM hbb
      go_wp2_with fail
      refine (HRL.out _ HPT4.out.dp).mono ?_
      rintro e w5 ⟨rfl, hb⟩
      have HPT := Lib.hid (HPT4.out.below hb)
      clear hb HPT4 q0 q1 q2 q3 q4
      go_upto_region 18 with fail
      refine wp_region_held_drew (S := BqAt Q 1 (n : Int) (g : Int) r (.slice u m tc)) (by kernel_rfl) (HPT.out.below (Below.refl w5.heap.size w5).drew).bq (fun hHeld => ?_)
      have HPTd := Lib.hid (HPT.out.below (Below.refl w5.heap.size w5).drew)
      clear HPT
      generalize w5.drew = x0 at *
      refine wpAnyH_take (i := 0) (v := (bdyP B)) rfl (by kernel_rfl) (by kernel_rfl) (by kernel_rfl) (fun _ _ _ h => h) (Or.inl ⟨by rfl, fun X hS => ?_⟩) hHeld ?_
      · obtain ⟨q0, q1, q2, q3, q4⟩ := BqAt.all hS
        go_simp
      try simp only [Act.put, List.getElem_toArray, List.getElem_cons_zero, List.getElem_cons_succ, List.setIfInBounds_toArray, List.set_cons_zero, List.set_cons_succ]
      refine wpAnyH_take (i := 2) (v := (.slice (some ⟨E, 0, none⟩) (n + 1) (n + 1))) rfl (by kernel_rfl) (by kernel_rfl) (by kernel_rfl) (fun _ _ _ h => h) (Or.inl ⟨by rfl, fun X hS => ?_⟩) hHeld ?_
      · obtain ⟨q0, q1, q2, q3, q4⟩ := BqAt.all hS
        go_simp
      try simp only [Act.put, List.getElem_toArray, List.getElem_cons_zero, List.getElem_cons_succ, List.setIfInBounds_toArray, List.set_cons_zero, List.set_cons_succ]
      refine wpAnyH_ready (rs := [1]) (by kernel_rfl) (by simp) (AllReadyH.cons rfl (fun K1 hK1 => ?_) AllReadyH.nil)
      go_simp
      have HH := Lib.hid hHeld
      clear hHeld
      refine (HST.out _ HPTd.out.dp.bv).mono ?_
      rintro e x1 ⟨D, rfl, hd, hD, hb⟩
      have HPT1 := Lib.hid (HPTd.out.below hb)
      have HD := Lib.hid hd
      have hrb := HPT1.out.bq
      clear HH hb HPTd hd hD
      refine hK1.out _ _ hrb (fun hHeld => ?_)
      clear hK1
      try simp only [Act.put, List.getElem_toArray, List.getElem_cons_zero, List.getElem_cons_succ, List.setIfInBounds_toArray, List.set_cons_zero, List.set_cons_succ]
      refine wpAnyH_ready (rs := [3]) (by kernel_rfl) (by simp) (AllReadyH.cons rfl (fun K1 hK1 => ?_) AllReadyH.nil)
      go_simp
      have HH := Lib.hid hHeld
      clear hHeld
      refine (HEQ.out D E _ HD.out HPT1.out.be).mono ?_
      rintro e x2 ⟨rfl, hb⟩
      have HPT2 := Lib.hid (HPT1.out.below hb)
      have hrb := HPT2.out.bq
      clear HH hb HPT1 HD
      refine hK1.out _ _ hrb (fun hHeld => ?_)
      clear hK1
      try simp only [Act.put, List.getElem_toArray, List.getElem_cons_zero, List.getElem_cons_succ, List.setIfInBounds_toArray, List.set_cons_zero, List.set_cons_succ]
      refine wpAnyH_take (i := 4) (v := (.bool true)) rfl (by kernel_rfl) (by kernel_rfl) (by kernel_rfl) (fun _ _ _ h => h) (Or.inl ⟨by rfl, fun X hS => ?_⟩) hHeld ?_
      · obtain ⟨q0, q1, q2, q3, q4⟩ := BqAt.all hS
        go_simp
      try simp only [Act.put, List.getElem_toArray, List.getElem_cons_zero, List.getElem_cons_succ, List.setIfInBounds_toArray, List.set_cons_zero, List.set_cons_succ]
      refine wpAnyH_take (i := 5) (v := (bdyP B)) rfl (by kernel_rfl) (by kernel_rfl) (by kernel_rfl) (fun _ _ _ h => h) (Or.inl ⟨by rfl, fun X hS => ?_⟩) hHeld ?_
      · obtain ⟨q0, q1, q2, q3, q4⟩ := BqAt.all hS
        go_simp
      try simp only [Act.put, List.getElem_toArray, List.getElem_cons_zero, List.getElem_cons_succ, List.setIfInBounds_toArray, List.set_cons_zero, List.set_cons_succ]
      refine wpAnyH_take (i := 6) (v := (.int .u8 st)) rfl (by kernel_rfl) (by kernel_rfl) (by kernel_rfl) (fun _ _ _ h => h) (Or.inl ⟨by rfl, fun X hS => ?_⟩) hHeld ?_
      · obtain ⟨q0, q1, q2, q3, q4⟩ := BqAt.all hS
        go_simp
      try simp only [Act.put, List.getElem_toArray, List.getElem_cons_zero, List.getElem_cons_succ, List.setIfInBounds_toArray, List.set_cons_zero, List.set_cons_succ]
      refine wpAnyH_take (i := 8) (v := (.int .i64 (c : Int))) rfl (by kernel_rfl) (by kernel_rfl) (by kernel_rfl) (fun _ _ _ h => h) (Or.inl ⟨by rfl, fun X hS => ?_⟩) hHeld ?_
      · obtain ⟨q0, q1, q2, q3, q4⟩ := BqAt.all hS
        go_simp
      try simp only [Act.put, List.getElem_toArray, List.getElem_cons_zero, List.getElem_cons_succ, List.setIfInBounds_toArray, List.set_cons_zero, List.set_cons_succ]
      refine wpAnyH_ready (rs := [7]) (by kernel_rfl) (by simp) (AllReadyH.cons rfl (fun K1 hK1 => ?_) AllReadyH.nil)
      go_simp
      have HH := Lib.hid hHeld
      clear hHeld
      refine (HCO.out _ HPT2.out.dp.bv).mono ?_
      rintro e x3 ⟨rfl, hb⟩
      have HPT3 := Lib.hid (HPT2.out.below hb)
      have hrb := HPT3.out.bq
      clear HH hb HPT2
      refine hK1.out _ _ hrb (fun hHeld => ?_)
      clear hK1
      try simp only [Act.put, List.getElem_toArray, List.getElem_cons_zero, List.getElem_cons_succ, List.setIfInBounds_toArray, List.set_cons_zero, List.set_cons_succ]
      refine wpAnyH_take (i := 9) (v := (.bool true)) rfl (by kernel_rfl) (by kernel_rfl) (by kernel_rfl) (fun _ _ _ h => h) (Or.inl ⟨by rfl, fun X hS => ?_⟩) hHeld ?_
      · obtain ⟨q0, q1, q2, q3, q4⟩ := BqAt.all hS
        go_simp
      try simp only [Act.put, List.getElem_toArray, List.getElem_cons_zero, List.getElem_cons_succ, List.setIfInBounds_toArray, List.set_cons_zero, List.set_cons_succ]
      refine wpAnyH_take (i := 10) (v := (.bool true)) rfl (by kernel_rfl) (by kernel_rfl) (by kernel_rfl) (fun _ _ _ h => h) (Or.inl ⟨by rfl, fun X hS => ?_⟩) hHeld ?_
      · obtain ⟨q0, q1, q2, q3, q4⟩ := BqAt.all hS
        go_simp
      try simp only [Act.put, List.getElem_toArray, List.getElem_cons_zero, List.getElem_cons_succ, List.setIfInBounds_toArray, List.set_cons_zero, List.set_cons_succ]
      refine wpAnyH_take (i := 11) (v := (.bool true)) rfl (by kernel_rfl) (by kernel_rfl) (by kernel_rfl) (fun _ _ _ h => h) (Or.inl ⟨by rfl, fun X hS => ?_⟩) hHeld ?_
      · obtain ⟨q0, q1, q2, q3, q4⟩ := BqAt.all hS
        go_simp
      try simp only [Act.put, List.getElem_toArray, List.getElem_cons_zero, List.getElem_cons_succ, List.setIfInBounds_toArray, List.set_cons_zero, List.set_cons_succ]
      refine wpAnyH_take (i := 12) (v := (.int .i64 (M : Int))) rfl (by kernel_rfl) (by kernel_rfl) (by kernel_rfl) (fun _ _ _ h => h) (Or.inl ⟨by rfl, fun X hS => ?_⟩) hHeld ?_
      · obtain ⟨q0, q1, q2, q3, q4⟩ := BqAt.all hS
        go_simp
      try simp only [Act.put, List.getElem_toArray, List.getElem_cons_zero, List.getElem_cons_succ, List.setIfInBounds_toArray, List.set_cons_zero, List.set_cons_succ]
      refine wpAnyH_take (i := 13) (v := (.int .i64 (M : Int))) rfl (by kernel_rfl) (by kernel_rfl) (by kernel_rfl) (fun _ _ _ h => h) (Or.inl ⟨by rfl, fun X hS => ?_⟩) hHeld ?_
      · obtain ⟨q0, q1, q2, q3, q4⟩ := BqAt.all hS
        go_simp
      try simp only [Act.put, List.getElem_toArray, List.getElem_cons_zero, List.getElem_cons_succ, List.setIfInBounds_toArray, List.set_cons_zero, List.set_cons_succ]
      refine wpAnyH_take (i := 14) (v := (.bool true)) rfl (by kernel_rfl) (by kernel_rfl) (by kernel_rfl) (fun _ _ _ h => h) (Or.inl ⟨by rfl, fun X hS => ?_⟩) hHeld ?_
      · obtain ⟨q0, q1, q2, q3, q4⟩ := BqAt.all hS
        go_simp
      try simp only [Act.put, List.getElem_toArray, List.getElem_cons_zero, List.getElem_cons_succ, List.setIfInBounds_toArray, List.set_cons_zero, List.set_cons_succ]
      refine wpAnyH_take (i := 15) (v := (.bool true)) rfl (by kernel_rfl) (by kernel_rfl) (by kernel_rfl) (fun _ _ _ h => h) (Or.inl ⟨by rfl, fun X hS => ?_⟩) hHeld ?_
      · obtain ⟨q0, q1, q2, q3, q4⟩ := BqAt.all hS
        go_simp
      try simp only [Act.put, List.getElem_toArray, List.getElem_cons_zero, List.getElem_cons_succ, List.setIfInBounds_toArray, List.set_cons_zero, List.set_cons_succ]
      refine wpAnyH_take (i := 16) (v := (.bool true)) rfl (by kernel_rfl) (by kernel_rfl) (by kernel_rfl) (fun _ _ _ h => h) (Or.inl ⟨by rfl, fun X hS => ?_⟩) hHeld ?_
      · obtain ⟨q0, q1, q2, q3, q4⟩ := BqAt.all hS
        go_simp
      try simp only [Act.put, List.getElem_toArray, List.getElem_cons_zero, List.getElem_cons_succ, List.setIfInBounds_toArray, List.set_cons_zero, List.set_cons_succ]
      refine wpAnyH_take (i := 17) (v := (.bool bb)) rfl (by kernel_rfl) (by kernel_rfl) (by kernel_rfl) (fun _ _ _ h => h) (Or.inl ⟨by rfl, fun X hS => ?_⟩) hHeld ?_
      · obtain ⟨q0, q1, q2, q3, q4⟩ := BqAt.all hS
        go_simp
      try simp only [Act.put, List.getElem_toArray, List.getElem_cons_zero, List.getElem_cons_succ, List.setIfInBounds_toArray, List.set_cons_zero, List.set_cons_succ]
      refine wpAnyH_take (i := 18) (v := (.bool bb)) rfl (by kernel_rfl) (by kernel_rfl) (by kernel_rfl) (fun _ _ _ h => h) (Or.inl ⟨by rfl, fun X hS => ?_⟩) hHeld ?_
      · obtain ⟨q0, q1, q2, q3, q4⟩ := BqAt.all hS
        go_simp
      try simp only [Act.put, List.getElem_toArray, List.getElem_cons_zero, List.getElem_cons_succ, List.setIfInBounds_toArray, List.set_cons_zero, List.set_cons_succ]
      refine wpAnyH_take (i := 19) (v := (.bool true)) rfl (by kernel_rfl) (by kernel_rfl) (by kernel_rfl) (fun _ _ _ h => h) (Or.inl ⟨by rfl, fun X hS => ?_⟩) hHeld ?_
      · obtain ⟨q0, q1, q2, q3, q4⟩ := BqAt.all hS
        go_simp
      try simp only [Act.put, List.getElem_toArray, List.getElem_cons_zero, List.getElem_cons_succ, List.setIfInBounds_toArray, List.set_cons_zero, List.set_cons_succ]
      refine wpAnyH_take (i := 20) (v := (.bool true)) rfl (by kernel_rfl) (by kernel_rfl) (by kernel_rfl) (fun _ _ _ h => h) (Or.inl ⟨by rfl, fun X hS => ?_⟩) hHeld ?_
      · obtain ⟨q0, q1, q2, q3, q4⟩ := BqAt.all hS
        go_simp
      try simp only [Act.put, List.getElem_toArray, List.getElem_cons_zero, List.getElem_cons_succ, List.setIfInBounds_toArray, List.set_cons_zero, List.set_cons_succ]
      refine wpAnyH_take (i := 21) (v := (.bool true)) rfl (by kernel_rfl) (by kernel_rfl) (by kernel_rfl) (fun _ _ _ h => h) (Or.inl ⟨by rfl, fun X hS => ?_⟩) hHeld ?_
      · obtain ⟨q0, q1, q2, q3, q4⟩ := BqAt.all hS
        go_simp
      try simp only [Act.put, List.getElem_toArray, List.getElem_cons_zero, List.getElem_cons_succ, List.setIfInBounds_toArray, List.set_cons_zero, List.set_cons_succ]
      refine wpAnyH_take (i := 22) (v := (bdyP B)) rfl (by kernel_rfl) (by kernel_rfl) (by kernel_rfl) (fun _ _ _ h => h) (Or.inl ⟨by rfl, fun X hS => ?_⟩) hHeld ?_
      · obtain ⟨q0, q1, q2, q3, q4⟩ := BqAt.all hS
        go_simp
      try simp only [Act.put, List.getElem_toArray, List.getElem_cons_zero, List.getElem_cons_succ, List.setIfInBounds_toArray, List.set_cons_zero, List.set_cons_succ]
      refine wpAnyH_take (i := 23) (v := (.int .i64 order)) rfl (by kernel_rfl) (by kernel_rfl) (by kernel_rfl) (fun _ _ _ h => h) (Or.inl ⟨by rfl, fun X hS => ?_⟩) hHeld ?_
      · obtain ⟨q0, q1, q2, q3, q4⟩ := BqAt.all hS
        go_simp
      try simp only [Act.put, List.getElem_toArray, List.getElem_cons_zero, List.getElem_cons_succ, List.setIfInBounds_toArray, List.set_cons_zero, List.set_cons_succ]
      refine wpAnyH_take (i := 25) (v := (bqV 1 (n : Int) (g : Int) r (.slice u m tc))) rfl (by kernel_rfl) (by kernel_rfl) (by kernel_rfl) (fun _ _ _ h => h) (Or.inl ⟨by rfl, fun X hS => ?_⟩) hHeld ?_
      · obtain ⟨q0, q1, q2, q3, q4⟩ := BqAt.all hS
        go_simp
      try simp only [Act.put, List.getElem_toArray, List.getElem_cons_zero, List.getElem_cons_succ, List.setIfInBounds_toArray, List.set_cons_zero, List.set_cons_succ]
      refine wpAnyH_take (i := 26) (v := (.int .i64 order)) rfl (by kernel_rfl) (by kernel_rfl) (by kernel_rfl) (fun _ _ _ h => h) (Or.inl ⟨by rfl, fun X hS => ?_⟩) hHeld ?_
      · obtain ⟨q0, q1, q2, q3, q4⟩ := BqAt.all hS
        go_simp
      try simp only [Act.put, List.getElem_toArray, List.getElem_cons_zero, List.getElem_cons_succ, List.setIfInBounds_toArray, List.set_cons_zero, List.set_cons_succ]
      refine wpAnyH_ready (rs := [24]) (by kernel_rfl) (by simp) (AllReadyH.cons rfl (fun K1 hK1 => ?_) AllReadyH.nil)
      go_simp
      have HH := Lib.hid hHeld
      clear hHeld
      refine (HCA.out.1 _ HPT3.out.dp).mono ?_
      rintro e x4 ⟨rfl, hb⟩
      have HPT4 := Lib.hid (HPT3.out.below hb)
      have hrb := HPT4.out.bq
      clear HH hb HPT3
      refine hK1.out _ _ hrb (fun hHeld => ?_)
      clear hK1
      try simp only [Act.put, List.getElem_toArray, List.getElem_cons_zero, List.getElem_cons_succ, List.setIfInBounds_toArray, List.set_cons_zero, List.set_cons_succ]
      refine wpAnyH_ready (rs := [27]) (by kernel_rfl) (by simp) (AllReadyH.cons rfl (fun K1 hK1 => ?_) AllReadyH.nil)
      go_simp
      have HH := Lib.hid hHeld
      clear hHeld
      refine (HCA.out.2 _ HPT4.out.dp).mono ?_
      rintro e x5 ⟨rfl, hb⟩
      have HPT5 := Lib.hid (HPT4.out.below hb)
      have hrb := HPT5.out.bq
      clear HH hb HPT4
      refine hK1.out _ _ hrb (fun hHeld => ?_)
      clear hK1
      try simp only [Act.put, List.getElem_toArray, List.getElem_cons_zero, List.getElem_cons_succ, List.setIfInBounds_toArray, List.set_cons_zero, List.set_cons_succ]
      refine wpAnyH_take (i := 28) (v := (.bool true)) rfl (by kernel_rfl) (by kernel_rfl) (by kernel_rfl) (fun _ _ _ h => h) (Or.inl ⟨by rfl, fun X hS => ?_⟩) hHeld ?_
      · obtain ⟨q0, q1, q2, q3, q4⟩ := BqAt.all hS
        go_simp
      try simp only [Act.put, List.getElem_toArray, List.getElem_cons_zero, List.getElem_cons_succ, List.setIfInBounds_toArray, List.set_cons_zero, List.set_cons_succ]
      refine wpAnyH_take (i := 29) (v := (.bool true)) rfl (by kernel_rfl) (by kernel_rfl) (by kernel_rfl) (fun _ _ _ h => h) (Or.inl ⟨by rfl, fun X hS => ?_⟩) hHeld ?_
      · obtain ⟨q0, q1, q2, q3, q4⟩ := BqAt.all hS
        go_simp
      try simp only [Act.put, List.getElem_toArray, List.getElem_cons_zero, List.getElem_cons_succ, List.setIfInBounds_toArray, List.set_cons_zero, List.set_cons_succ]
      refine wpAnyH_take (i := 30) (v := (.bool true)) rfl (by kernel_rfl) (by kernel_rfl) (by kernel_rfl) (fun _ _ _ h => h) (Or.inl ⟨by rfl, fun X hS => ?_⟩) hHeld ?_
      · obtain ⟨q0, q1, q2, q3, q4⟩ := BqAt.all hS
        go_simp
      try simp only [Act.put, List.getElem_toArray, List.getElem_cons_zero, List.getElem_cons_succ, List.setIfInBounds_toArray, List.set_cons_zero, List.set_cons_succ]
      refine wpAnyH_done (by kernel_rfl) ?_ _
      clear hHeld

      go_wp2_with fail
      go_ret
      exact ⟨rfl, HPT5.out.bs.bel⟩
end Go.Proofs.YtfemgekhpcgliaaGreat.Bt
