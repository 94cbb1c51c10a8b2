/- The contract of Same, and the walk of BitsParts: for every length, every acts, every row in two parts it returns true. -/
import Derived.Test.YtioiipilgljeeaaBitsFirstW
import Derived.Test.YtioiipilgljeeaaBitsCount
namespace Go.Proofs.Ytioiipilgljeeaa.Bt
open Go Go.RowKit

theorem row_ints {w : World} {p : Option Addr} {es : List Nat} (h : RowAt w p es) : IntsRow w p (es.map fun (e : Nat) => (e : Int)) := by
  rcases h with ⟨rfl, rfl⟩ | ⟨b, off, rfl, hlt, hc⟩
  · exact .inl rfl
  · refine .inr ⟨b, off, rfl, hlt, fun k hk => ?_⟩
    have hk' : k < es.length := by simpa using hk
    rw [hc k hk']
    simp [List.getD_eq_getElem?_getD, List.getElem?_eq_getElem hk']
theorem map_beq (a b : List Nat) : ((a.map fun (e : Nat) => (e : Int)) == (b.map fun (e : Nat) => (e : Int))) = (a == b) := by
  rw [Bool.eq_iff_iff, beq_iff_eq, beq_iff_eq]
  constructor
  · intro h
    refine List.map_inj_right (f := fun (e : Nat) => (e : Int)) (fun x y hxy => by exact_mod_cast hxy) |>.1 h
  · rintro rfl; rfl
def SamePost (L M : Nat) (a b : List Nat) (w : World) (e : Ending) (w' : World) : Prop := e = .returned (.bool (L == M && a == b)) ∧ Below w.heap.size w w'
theorem same_any (L M : Nat) (p q : Option Addr) (n m cp cq : Nat) (a b : List Nat) (w : World) (ra : RowAt w p a) (rb : RowAt w q b) (hn : n = a.length) (hm : m = b.length) (hl : a.length ≤ 1048577) :
    Calls Try.prog 30 #[.agg #[.int .i64 L, .slice p n cp], .agg #[.int .i64 M, .slice q m cq]] w (SamePost L M a b w) := by
  have HN := Lib.hid hn; have HM := Lib.hid hm; clear hn hm
  have B2 : Below w.heap.size w ((w.alloc (.cells #[.int .i64 (L : Int), .slice p n cp] 35)).alloc (.cells #[.int .i64 (M : Int), .slice q m cq] 35)) := ((Below.refl _ _).alloc (Nat.le_refl _) _).alloc (by simp) _
  by_cases h : L = M
  · subst h
    go_enter Try.func30, Try.ntmps30
    go_wp2_with fail
    refine (equal_any p q cp cq n m _ _ (by rw [HN.out]; simp) (by rw [HM.out]; simp) (by rw [HN.out]; omega) _ (row_ints (ra.below B2)) (row_ints (rb.below B2))).mono ?_
    rintro e w1 ⟨rfl, nd, rfl⟩
    rw [map_beq]
    go_wp2_with fail
    go_ret
    exact ⟨by simp, below_drewN B2 _⟩
  · have hd : ((L : Int) == (M : Int)) = false := beq_eq_false_iff_ne.2 (by omega)
    have hf : (L == M) = false := beq_eq_false_iff_ne.2 h
    have HF := Lib.hid hf; clear h hf
    go_enter Try.func30, Try.ntmps30
    go_wp2_with fail
    go_ret
    exact ⟨by rw [HF.out]; rfl, B2⟩

theorem VarAt.made {w : World} {L n cap : Nat} {p : Option Addr} {es : List Nat} (g : Good L es) (hr : RowAt w p es) (hn : n = es.length) (hc : n ≤ cap) (hp : p = none → cap = 0) : VarAt w.heap.size L es (w.alloc (.cells #[.int .i64 (L : Int), .slice p n cap] 35)) :=
  ⟨p, n, cap, g, by simp, by simp, by simp, by simp, hr.below ((Below.refl _ _).alloc (Nat.le_refl _) _), hn, hc, hp, fun b off e => by subst e; have := hr.lt; omega⟩

theorem mem_laidS {L : Nat} {es : List Nat} (g : Good L es) {fr n : Int} (hw : withinB L fr n = true) (inn : Bool) (i : Int) : mem (laidS L es fr n inn) i = if fr ≤ i ∧ i < fr + n then inn else mem es i := by
  have hwi : 0 ≤ fr ∧ 0 ≤ n ∧ n ≤ L - fr := by simpa [withinB] using hw
  unfold laidS
  by_cases h0 : n = 0
  · subst h0; simp; omega
  · rw [hw, decide_eq_true h0, Bool.true_and, if_pos rfl, mem_laid g.rising, show ((fr.toNat : Nat) : Int) = fr from by omega, show ((n.toNat : Nat) : Int) = n from by omega]
theorem parts_same {L : Nat} {es : List Nat} (g : Good L es) {fr n cut : Int} (hw : withinB L fr n = true) (h0 : 0 ≤ cut) (h1 : cut ≤ n) (inn : Bool) :
    laidS L (laidS L es fr cut inn) (fr + cut) (n - cut) inn = laidS L es fr n inn := by
  have hwi : 0 ≤ fr ∧ 0 ≤ n ∧ n ≤ L - fr := by simpa [withinB] using hw
  have w1 : withinB L fr cut = true := by unfold withinB; simp; omega
  have w2 : withinB L (fr + cut) (n - cut) = true := by unfold withinB; simp; omega
  refine good_ext (laidS_good (laidS_good g _ _ _) _ _ _) (laidS_good g _ _ _) fun i _ => ?_
  rw [mem_laidS (laidS_good g _ _ _) w2, mem_laidS g w1, mem_laidS g hw]
  by_cases c1 : fr + cut ≤ i ∧ (i : Int) < fr + cut + (n - cut)
  · rw [if_pos c1, if_pos (by omega)]
  · rw [if_neg c1]
    by_cases c2 : fr ≤ i ∧ (i : Int) < fr + cut
    · rw [if_pos c2, if_pos (by omega)]
    · rw [if_neg c2, if_neg (by omega)]
theorem count_all {L : Nat} {es : List Nat} (g : Good L es) {fr n : Int} (hw : withinB L fr n = true) : countV L (laidS L es fr n true) fr n = n := by
  have hwi : 0 ≤ fr ∧ 0 ≤ n ∧ n ≤ L - fr := by simpa [withinB] using hw
  unfold countV memCount
  rw [hw, if_pos rfl, List.countP_eq_length.2 fun i hi => ?_]
  · simp; omega
  · have := List.mem_range.1 hi
    rw [mem_laidS g hw, if_pos (by omega)]
theorem count_none {L : Nat} {es : List Nat} (g : Good L es) {fr n : Int} (hw : withinB L fr n = true) : countV L (laidS L es fr n false) fr n = 0 := by
  have hwi : 0 ≤ fr ∧ 0 ≤ n ∧ n ≤ L - fr := by simpa [withinB] using hw
  unfold countV memCount
  rw [hw, if_pos rfl, List.countP_eq_zero.2 fun i hi => ?_]
  · rfl
  · have := List.mem_range.1 hi
    rw [mem_laidS g hw, if_pos (by omega)]; simp

set_option maxHeartbeats 4000000 in
theorem parts_walk (a0 a2 a3 a4 : Int) (p1 : Option Addr) (c1 : Nat) (acts : List ActL) (hacts : acts.length ≤ 9223372036854775807) (w : World) (h1 : ActsAt w p1 acts) (hl : acts.length ≤ 60) (h0 : a0 ≤ 2000) (hq2 : a2 ≤ 9223372036854775807) (hq4 : -9223372036854775808 ≤ a4) :
    Calls Try.prog 8 #[.int .i64 a0, .slice p1 acts.length c1, .int .i64 a2, .int .i64 a3, .int .i64 a4] w (TrueAt w) := by
  go_enter Try.func8, Try.ntmps8
  go_wp2_with fail
  refine (awake_calls _).mono ?_
  rintro e w1 ⟨rfl, hb1⟩
  go_wp2_with fail
  refine (new_any _ _).mono ?_
  rintro e w2 ⟨rfl, hb2⟩
  have hL := lenN_le a0
  generalize lenN a0 = L at *
  have B2 : Below w.heap.size w w2 := hb1.trans (hb2.mono hb1.size)
  go_wp2_with fail
  have HV := VarAt.new w2 L hL
  have B3 : Below w.heap.size w (w2.alloc (.cells #[.int .i64 (L : Int), .slice none 0 0] 35)) := B2.alloc B2.size _
  have hS : w.heap.size ≤ w2.heap.size := B2.size
  generalize w2.alloc (.cells #[.int .i64 (L : Int), .slice none 0 0] 35) = w3 at *
  generalize w2.heap.size = S at *
  go_loopw [38] (fun i x => RunRel S L w acts.length i x) (fun i _ => acts.length - (intOf i).toNat)
  case atStart => exact ⟨0, [], by omega, rfl, HV, B3⟩
  case round =>
    obtain ⟨k, es, hk, rfl, hv, hB⟩ := hrel
    have HVr := hv
    by_cases hlt : k < acts.length
    · have HA := h1.below hB
      rcases HA with h | ⟨b, off, rfl, hbl, hc⟩
      · rw [h] at hlt; simp at hlt
      · obtain ⟨⟨e0, e1, e2⟩, hok⟩ := hc k hlt
        obtain ⟨act, hact⟩ : ∃ act, acts[k] = act := ⟨_, rfl⟩
        rw [hact] at e0 e1 e2 hok
        obtain ⟨inn, fr, n⟩ := act
        simp only at e0 e1 e2
        have BA : Below w.heap.size w (wr.alloc (.cells #[.bool inn, .int .i64 fr, .int .i64 n] 42)) := hB.alloc hB.size _
        have HVa := hv.below ((Below.refl _ _).alloc (Nat.le_refl _) (.cells #[.bool inn, .int .i64 fr, .int .i64 n] 42))
        have HVk := HVa
        have hSl := hv.lt
        obtain ⟨p, m, cap, g, c0, c1', z0, z1, hr, hn, hcp, hpn, hne⟩ := HVa
        have HN := Lib.hid hn; have HP := Lib.hid hpn; have HQ := Lib.hid hne
        clear hn hpn hact hc h1 hne hv
        go_wp2_with fail
        refine (done_none L p m cap es ⟨inn, fr, n⟩ none 0 _ g hr HN.out hcp HP.out hok.2.1).mono ?_
        rintro e w5 ⟨p', n', cap', q, cq, tt, rfl, hn', hc', hp', hr', hpp', hb5⟩
        have HN' := Lib.hid hn'; have HP' := Lib.hid hp'; clear hn' hp'
        have HV5 := HVk.below hb5
        have HS := HV5.store (laidS_good g fr n inn) hr' HN'.out hc' HP'.out hpp' HQ.out (by simp; omega)
        have BF : Below w.heap.size w ((w5.setCell ⟨S, 0, none⟩ (.int .i64 (L : Int))).setCell ⟨S, 1, none⟩ (.slice p' n' cap')) := ((BA.trans (hb5.mono BA.size)).setCell (p := ⟨S, 0, none⟩) hS _).setCell (p := ⟨S, 1, none⟩) hS _
        obtain ⟨_, _, _, _, d0, d1, y0, y1, _⟩ := HV5
        go_wp2_with fail
        go_roundw
        case rel => exact ⟨k + 1, _, by omega, by go_num, HS, BF⟩
        case measure => simp [intOf]; omega
    · have HVr2 := Lib.hid HVr
      obtain ⟨p, m, cap, g, c0, c1', z0, z1, hr, hn, hcp, hpn, hne⟩ := hv
      have HN := Lib.hid hn; have HP := Lib.hid hpn
      clear hn hpn h1 hne HVr
      have hLs := g.small
      go_wp2_with fail
      have HVt := HVr2
      refine (with_any L p m cap es a2 a3 _ g hr HN.out hcp HP.out hq2).mono ?_
      rintro e w5 ⟨p5, n5, c5, rfl, hn5, hc5, hp5, hr5, _, hb5⟩
      have HN5 := Lib.hid hn5; have HP5 := Lib.hid hp5; clear hn5 hp5
      have VS5 := HVr2.out.below hb5
      have BT : Below w5.heap.size w5 (w5.alloc (.cells #[.int .i64 (L : Int), .slice p5 n5 c5] 35)) := (Below.refl _ _).alloc (Nat.le_refl _) _
      have VT := VarAt.made (laidS_good g a2 a3 true) hr5 HN5.out hc5 HP5.out
      have VS := VS5.below BT
      have B6 : Below w.heap.size w (w5.alloc (.cells #[.int .i64 (L : Int), .slice p5 n5 c5] 35)) := (hB.trans (hb5.mono hB.size)).trans (BT.mono (hB.trans (hb5.mono hB.size)).size)
      have VSk := Lib.hid VS; have VTk := Lib.hid VT
      clear VS5 HVt HVr2 c0 c1' z0 z1
      obtain ⟨ps, ns, cs, _, hc0, hc1, _, _, hrs, hns, hcs, hps, _⟩ := VS
      obtain ⟨pt, nt, ct, _, hd0, hd1, _, _, hrt, hnt, _, _, _⟩ := VT
      have HNs := Lib.hid hns; have HPs := Lib.hid hps; have HNt := Lib.hid hnt
      clear hns hps hnt
      have VS := VSk.out
      have VT := VTk.out
      cases hw : withinB L a2 a3 with
      | false =>
        have HE : Hid (laidErr L a2 a3 = 3) := Lib.hid (by unfold laidErr; rw [hw]; rfl)
        have HS : Hid (laidS L es a2 a3 true = es) := Lib.hid (laid_same (.inl hw))
        rw [HE.out]
        clear hw
        go_wp2_with fail
        refine (same_any L L ps pt ns nt cs ct es _ _ hrs hrt HNs.out HNt.out (good_len g)).mono ?_
        rw [HS.out]
        rintro e w7 ⟨rfl, hb7⟩
        go_wp2_with fail
        go_ret
        exact ⟨by simp, B6.trans (hb7.mono B6.size)⟩
      | true =>
        have HE : Hid (laidErr L a2 a3 = 0) := Lib.hid (by unfold laidErr; rw [hw]; rfl)
        have hwi : 0 ≤ a2 ∧ 0 ≤ a3 ∧ a3 ≤ L - a2 := by simpa [withinB] using hw
        have HW := Lib.hid hw
        rw [HE.out]
        clear hw
        by_cases k1 : a4 ≤ 0
        · have k2 : ¬ a3 < a4 := by omega
          have hC : 0 ≤ (0 : Int) ∧ (0 : Int) ≤ a3 := by omega
          have HEq : Hid (laidS L (laidS L es a2 0 true) a2 a3 true = laidS L es a2 a3 true) := Lib.hid (by have e := parts_same g HW.out hC.1 hC.2 true; simpa using e)
          have HE1 : Hid (laidErr L a2 0 = 0) := Lib.hid (by unfold laidErr; rw [show withinB L a2 0 = true from by unfold withinB; simp; omega]; rfl)
          have HE2 : Hid (laidErr L a2 a3 = 0) := Lib.hid (by unfold laidErr; rw [show withinB L a2 a3 = true from by unfold withinB; simp; omega]; rfl)
          go_wp2_with fail
          refine (with_any L ps ns cs es a2 0 _ g hrs HNs.out hcs HPs.out hq2).mono ?_
          rintro e w7 ⟨p7, n7, c7, rfl, hn7, hc7, hp7, hr7, _, hb7⟩
          rw [HE1.out]
          have HN7 := Lib.hid hn7; have HP7 := Lib.hid hp7; clear hn7 hp7
          have B7 : Below w.heap.size w w7 := B6.trans (hb7.mono B6.size)
          have g7 := laidS_good g a2 0 true
          have VA8 := VarAt.made g7 hr7 HN7.out hc7 HP7.out
          have BA : Below w7.heap.size w7 (w7.alloc (.cells #[.int .i64 (L : Int), .slice p7 n7 c7] 35)) := (Below.refl _ _).alloc (Nat.le_refl _) _
          have R8 := hr7.below BA
          have B8 : Below w.heap.size w (w7.alloc (.cells #[.int .i64 (L : Int), .slice p7 n7 c7] 35)) := B7.trans (BA.mono B7.size)
          have ne7 : Hid (∀ b off, p7 = some ⟨b, off, none⟩ → b ≠ w7.heap.size) := Lib.hid fun b off e => by subst e; have := hr7.lt; omega
          clear hc0 hc1 hd0 hd1 VT VS
          go_wp2_with fail
          refine (with_any L p7 n7 c7 _ a2 a3 _ g7 R8 HN7.out hc7 HP7.out (by omega)).mono ?_
          rintro e w9 ⟨p9, n9, c9, rfl, hn9, hc9, hp9, hr9, hx9, hb9⟩
          rw [HE2.out]
          rw [HEq.out] at hn9 hr9
          have HN9 := Lib.hid hn9; have HP9 := Lib.hid hp9; clear hn9 hp9
          have B9 : Below w.heap.size w w9 := B8.trans (hb9.mono B8.size)
          have VA9 := VA8.below hb9
          have gE := laidS_good g a2 a3 true
          have VA10 := VA9.store gE hr9 HN9.out hc9 HP9.out hx9 ne7.out (by simp)
          obtain ⟨_, _, _, _, y0, y1, z0, z1, _⟩ := VA9
          have B10 : Below w.heap.size w ((w9.setCell ⟨w7.heap.size, 0, none⟩ (.int .i64 (L : Int))).setCell ⟨w7.heap.size, 1, none⟩ (.slice p9 n9 c9)) := (B9.setCell (p := ⟨w7.heap.size, 0, none⟩) B7.size _).setCell (p := ⟨w7.heap.size, 1, none⟩) B7.size _
          have BY : Below (w5.alloc (.cells #[.int .i64 (L : Int), .slice p5 n5 c5] 35)).heap.size (w5.alloc (.cells #[.int .i64 (L : Int), .slice p5 n5 c5] 35)) ((w9.setCell ⟨w7.heap.size, 0, none⟩ (.int .i64 (L : Int))).setCell ⟨w7.heap.size, 1, none⟩ (.slice p9 n9 c9)) :=
            (((hb7.trans (BA.mono hb7.size)).trans (hb9.mono (by have := hb7.size; simp at this ⊢; omega))).setCell (p := ⟨w7.heap.size, 0, none⟩) hb7.size _).setCell (p := ⟨w7.heap.size, 1, none⟩) hb7.size _
          have VT10 := VTk.out.below BY
          have VTh := Lib.hid VT10; have VAh := Lib.hid VA10
          obtain ⟨pa, na, ca, _, x0, x1, _, _, hra, hna, hca, hpa, _⟩ := VA10
          have HNa := Lib.hid hna; have HPa := Lib.hid hpa
          clear VT10 VA8 hna hpa BY
          go_wp2_with fail
          refine (without_any L pa na ca _ a2 a3 _ gE hra HNa.out hca HPa.out hq2).mono ?_
          rintro e w11 ⟨p11, n11, c11, rfl, hn11, hc11, hp11, hr11, _, hb11⟩
          rw [HE.out]
          have HN11 := Lib.hid hn11; have HP11 := Lib.hid hp11; clear hn11 hp11
          have g11 := laidS_good gE a2 a3 false
          have B11 : Below w.heap.size w w11 := B10.trans (hb11.mono B10.size)
          have BB : Below w11.heap.size w11 (w11.alloc (.cells #[.int .i64 (L : Int), .slice p11 n11 c11] 35)) := (Below.refl _ _).alloc (Nat.le_refl _) _
          have VB12 := VarAt.made g11 hr11 HN11.out hc11 HP11.out
          have VT12 := (VTh.out.below hb11).below BB
          have VA12 := (VAh.out.below hb11).below BB
          have B12 := B11.trans (BB.mono B11.size)
          have VBh := Lib.hid VB12; have VTh2 := Lib.hid VT12; have VAh2 := Lib.hid VA12
          obtain ⟨pt2, nt2, ct2, _, t20, t21, _, _, hrt2, hnt2, _, _, _⟩ := VT12
          have HNt2 := Lib.hid hnt2
          clear VB12 VA12 hnt2 x0 x1 y0 y1 z0 z1
          go_wp2_with fail
          refine (count_any L pt2 nt2 ct2 _ a2 a3 _ gE HNt2.out hrt2 hq2).mono ?_
          rintro e w13 ⟨rfl, hb13⟩
          rw [HE.out, count_all g HW.out]
          have VB13 := VBh.out.below hb13
          have B13 := B12.trans (hb13.mono B12.size)
          have VBh3 := Lib.hid VB13
          obtain ⟨pb, nb, cb, _, b0, b1, _, _, hrb, hnb, _, _, _⟩ := VB13
          have HNb := Lib.hid hnb
          clear hnb t20 t21
          go_wp2_with fail
          refine (count_any L pb nb cb _ a2 a3 _ g11 HNb.out hrb hq2).mono ?_
          rintro e w14 ⟨rfl, hb14⟩
          rw [HE.out, count_none gE HW.out]
          have B14 := B13.trans (hb14.mono B13.size)
          have VA14 := (VAh2.out.below hb13).below hb14
          have VT14 := (VTh2.out.below hb13).below hb14
          obtain ⟨pa4, na4, ca4, _, a40, a41, _, _, hra4, hna4, _, _, _⟩ := VA14
          obtain ⟨pt4, nt4, ct4, _, t40, t41, _, _, hrt4, hnt4, _, _, _⟩ := VT14
          have HNa4 := Lib.hid hna4; have HNt4 := Lib.hid hnt4
          clear hna4 hnt4 b0 b1
          go_wp2_with fail
          refine (same_any L L pa4 pt4 na4 nt4 ca4 ct4 _ _ _ hra4 hrt4 HNa4.out HNt4.out (good_len gE)).mono ?_
          rintro e w15 ⟨rfl, hb15⟩
          have hss : (L == L && laidS L es a2 a3 true == laidS L es a2 a3 true) = true := by simp
          rw [hss]
          go_wp2_with fail
          go_ret
          exact ⟨rfl, B14.trans (hb15.mono B14.size)⟩
        · by_cases k3 : a3 ≤ 0
          · have hC : 0 ≤ (0 : Int) ∧ (0 : Int) ≤ a3 := by omega
            have HEq : Hid (laidS L (laidS L es a2 0 true) a2 a3 true = laidS L es a2 a3 true) := Lib.hid (by have e := parts_same g HW.out hC.1 hC.2 true; simpa using e)
            have HE1 : Hid (laidErr L a2 0 = 0) := Lib.hid (by unfold laidErr; rw [show withinB L a2 0 = true from by unfold withinB; simp; omega]; rfl)
            have HE2 : Hid (laidErr L a2 a3 = 0) := Lib.hid (by unfold laidErr; rw [show withinB L a2 a3 = true from by unfold withinB; simp; omega]; rfl)
            go_wp2_with fail
            refine (with_any L ps ns cs es a2 0 _ g hrs HNs.out hcs HPs.out hq2).mono ?_
            rintro e w7 ⟨p7, n7, c7, rfl, hn7, hc7, hp7, hr7, _, hb7⟩
            rw [HE1.out]
            have HN7 := Lib.hid hn7; have HP7 := Lib.hid hp7; clear hn7 hp7
            have B7 : Below w.heap.size w w7 := B6.trans (hb7.mono B6.size)
            have g7 := laidS_good g a2 0 true
            have VA8 := VarAt.made g7 hr7 HN7.out hc7 HP7.out
            have BA : Below w7.heap.size w7 (w7.alloc (.cells #[.int .i64 (L : Int), .slice p7 n7 c7] 35)) := (Below.refl _ _).alloc (Nat.le_refl _) _
            have R8 := hr7.below BA
            have B8 : Below w.heap.size w (w7.alloc (.cells #[.int .i64 (L : Int), .slice p7 n7 c7] 35)) := B7.trans (BA.mono B7.size)
            have ne7 : Hid (∀ b off, p7 = some ⟨b, off, none⟩ → b ≠ w7.heap.size) := Lib.hid fun b off e => by subst e; have := hr7.lt; omega
            clear hc0 hc1 hd0 hd1 VT VS
            go_wp2_with fail
            refine (with_any L p7 n7 c7 _ a2 a3 _ g7 R8 HN7.out hc7 HP7.out (by omega)).mono ?_
            rintro e w9 ⟨p9, n9, c9, rfl, hn9, hc9, hp9, hr9, hx9, hb9⟩
            rw [HE2.out]
            rw [HEq.out] at hn9 hr9
            have HN9 := Lib.hid hn9; have HP9 := Lib.hid hp9; clear hn9 hp9
            have B9 : Below w.heap.size w w9 := B8.trans (hb9.mono B8.size)
            have VA9 := VA8.below hb9
            have gE := laidS_good g a2 a3 true
            have VA10 := VA9.store gE hr9 HN9.out hc9 HP9.out hx9 ne7.out (by simp)
            obtain ⟨_, _, _, _, y0, y1, z0, z1, _⟩ := VA9
            have B10 : Below w.heap.size w ((w9.setCell ⟨w7.heap.size, 0, none⟩ (.int .i64 (L : Int))).setCell ⟨w7.heap.size, 1, none⟩ (.slice p9 n9 c9)) := (B9.setCell (p := ⟨w7.heap.size, 0, none⟩) B7.size _).setCell (p := ⟨w7.heap.size, 1, none⟩) B7.size _
            have BY : Below (w5.alloc (.cells #[.int .i64 (L : Int), .slice p5 n5 c5] 35)).heap.size (w5.alloc (.cells #[.int .i64 (L : Int), .slice p5 n5 c5] 35)) ((w9.setCell ⟨w7.heap.size, 0, none⟩ (.int .i64 (L : Int))).setCell ⟨w7.heap.size, 1, none⟩ (.slice p9 n9 c9)) :=
              (((hb7.trans (BA.mono hb7.size)).trans (hb9.mono (by have := hb7.size; simp at this ⊢; omega))).setCell (p := ⟨w7.heap.size, 0, none⟩) hb7.size _).setCell (p := ⟨w7.heap.size, 1, none⟩) hb7.size _
            have VT10 := VTk.out.below BY
            have VTh := Lib.hid VT10; have VAh := Lib.hid VA10
            obtain ⟨pa, na, ca, _, x0, x1, _, _, hra, hna, hca, hpa, _⟩ := VA10
            have HNa := Lib.hid hna; have HPa := Lib.hid hpa
            clear VT10 VA8 hna hpa BY
            go_wp2_with fail
            refine (without_any L pa na ca _ a2 a3 _ gE hra HNa.out hca HPa.out hq2).mono ?_
            rintro e w11 ⟨p11, n11, c11, rfl, hn11, hc11, hp11, hr11, _, hb11⟩
            rw [HE.out]
            have HN11 := Lib.hid hn11; have HP11 := Lib.hid hp11; clear hn11 hp11
            have g11 := laidS_good gE a2 a3 false
            have B11 : Below w.heap.size w w11 := B10.trans (hb11.mono B10.size)
            have BB : Below w11.heap.size w11 (w11.alloc (.cells #[.int .i64 (L : Int), .slice p11 n11 c11] 35)) := (Below.refl _ _).alloc (Nat.le_refl _) _
            have VB12 := VarAt.made g11 hr11 HN11.out hc11 HP11.out
            have VT12 := (VTh.out.below hb11).below BB
            have VA12 := (VAh.out.below hb11).below BB
            have B12 := B11.trans (BB.mono B11.size)
            have VBh := Lib.hid VB12; have VTh2 := Lib.hid VT12; have VAh2 := Lib.hid VA12
            obtain ⟨pt2, nt2, ct2, _, t20, t21, _, _, hrt2, hnt2, _, _, _⟩ := VT12
            have HNt2 := Lib.hid hnt2
            clear VB12 VA12 hnt2 x0 x1 y0 y1 z0 z1
            go_wp2_with fail
            refine (count_any L pt2 nt2 ct2 _ a2 a3 _ gE HNt2.out hrt2 hq2).mono ?_
            rintro e w13 ⟨rfl, hb13⟩
            rw [HE.out, count_all g HW.out]
            have VB13 := VBh.out.below hb13
            have B13 := B12.trans (hb13.mono B12.size)
            have VBh3 := Lib.hid VB13
            obtain ⟨pb, nb, cb, _, b0, b1, _, _, hrb, hnb, _, _, _⟩ := VB13
            have HNb := Lib.hid hnb
            clear hnb t20 t21
            go_wp2_with fail
            refine (count_any L pb nb cb _ a2 a3 _ g11 HNb.out hrb hq2).mono ?_
            rintro e w14 ⟨rfl, hb14⟩
            rw [HE.out, count_none gE HW.out]
            have B14 := B13.trans (hb14.mono B13.size)
            have VA14 := (VAh2.out.below hb13).below hb14
            have VT14 := (VTh2.out.below hb13).below hb14
            obtain ⟨pa4, na4, ca4, _, a40, a41, _, _, hra4, hna4, _, _, _⟩ := VA14
            obtain ⟨pt4, nt4, ct4, _, t40, t41, _, _, hrt4, hnt4, _, _, _⟩ := VT14
            have HNa4 := Lib.hid hna4; have HNt4 := Lib.hid hnt4
            clear hna4 hnt4 b0 b1
            go_wp2_with fail
            refine (same_any L L pa4 pt4 na4 nt4 ca4 ct4 _ _ _ hra4 hrt4 HNa4.out HNt4.out (good_len gE)).mono ?_
            rintro e w15 ⟨rfl, hb15⟩
            have hss : (L == L && laidS L es a2 a3 true == laidS L es a2 a3 true) = true := by simp
            rw [hss]
            go_wp2_with fail
            go_ret
            exact ⟨rfl, B14.trans (hb15.mono B14.size)⟩
          · by_cases k2 : a3 < a4
            · have hC : 0 ≤ (a3 : Int) ∧ (a3 : Int) ≤ a3 := by omega
              have HEq : Hid (laidS L (laidS L es a2 a3 true) (a2 + a3) 0 true = laidS L es a2 a3 true) := Lib.hid (by have e := parts_same g HW.out hC.1 hC.2 true; simpa using e)
              have HE1 : Hid (laidErr L a2 a3 = 0) := Lib.hid (by unfold laidErr; rw [show withinB L a2 a3 = true from by unfold withinB; simp; omega]; rfl)
              have HE2 : Hid (laidErr L (a2 + a3) 0 = 0) := Lib.hid (by unfold laidErr; rw [show withinB L (a2 + a3) 0 = true from by unfold withinB; simp; omega]; rfl)
              go_wp2_with fail
              refine (with_any L ps ns cs es a2 a3 _ g hrs HNs.out hcs HPs.out hq2).mono ?_
              rintro e w7 ⟨p7, n7, c7, rfl, hn7, hc7, hp7, hr7, _, hb7⟩
              rw [HE1.out]
              have HN7 := Lib.hid hn7; have HP7 := Lib.hid hp7; clear hn7 hp7
              have B7 : Below w.heap.size w w7 := B6.trans (hb7.mono B6.size)
              have g7 := laidS_good g a2 a3 true
              have VA8 := VarAt.made g7 hr7 HN7.out hc7 HP7.out
              have BA : Below w7.heap.size w7 (w7.alloc (.cells #[.int .i64 (L : Int), .slice p7 n7 c7] 35)) := (Below.refl _ _).alloc (Nat.le_refl _) _
              have R8 := hr7.below BA
              have B8 : Below w.heap.size w (w7.alloc (.cells #[.int .i64 (L : Int), .slice p7 n7 c7] 35)) := B7.trans (BA.mono B7.size)
              have ne7 : Hid (∀ b off, p7 = some ⟨b, off, none⟩ → b ≠ w7.heap.size) := Lib.hid fun b off e => by subst e; have := hr7.lt; omega
              clear hc0 hc1 hd0 hd1 VT VS
              go_wp2_with fail
              refine (with_any L p7 n7 c7 _ (a2 + a3) 0 _ g7 R8 HN7.out hc7 HP7.out (by omega)).mono ?_
              rintro e w9 ⟨p9, n9, c9, rfl, hn9, hc9, hp9, hr9, hx9, hb9⟩
              rw [HE2.out]
              rw [HEq.out] at hn9 hr9
              have HN9 := Lib.hid hn9; have HP9 := Lib.hid hp9; clear hn9 hp9
              have B9 : Below w.heap.size w w9 := B8.trans (hb9.mono B8.size)
              have VA9 := VA8.below hb9
              have gE := laidS_good g a2 a3 true
              have VA10 := VA9.store gE hr9 HN9.out hc9 HP9.out hx9 ne7.out (by simp)
              obtain ⟨_, _, _, _, y0, y1, z0, z1, _⟩ := VA9
              have B10 : Below w.heap.size w ((w9.setCell ⟨w7.heap.size, 0, none⟩ (.int .i64 (L : Int))).setCell ⟨w7.heap.size, 1, none⟩ (.slice p9 n9 c9)) := (B9.setCell (p := ⟨w7.heap.size, 0, none⟩) B7.size _).setCell (p := ⟨w7.heap.size, 1, none⟩) B7.size _
              have BY : Below (w5.alloc (.cells #[.int .i64 (L : Int), .slice p5 n5 c5] 35)).heap.size (w5.alloc (.cells #[.int .i64 (L : Int), .slice p5 n5 c5] 35)) ((w9.setCell ⟨w7.heap.size, 0, none⟩ (.int .i64 (L : Int))).setCell ⟨w7.heap.size, 1, none⟩ (.slice p9 n9 c9)) :=
                (((hb7.trans (BA.mono hb7.size)).trans (hb9.mono (by have := hb7.size; simp at this ⊢; omega))).setCell (p := ⟨w7.heap.size, 0, none⟩) hb7.size _).setCell (p := ⟨w7.heap.size, 1, none⟩) hb7.size _
              have VT10 := VTk.out.below BY
              have VTh := Lib.hid VT10; have VAh := Lib.hid VA10
              obtain ⟨pa, na, ca, _, x0, x1, _, _, hra, hna, hca, hpa, _⟩ := VA10
              have HNa := Lib.hid hna; have HPa := Lib.hid hpa
              clear VT10 VA8 hna hpa BY
              go_wp2_with fail
              refine (without_any L pa na ca _ a2 a3 _ gE hra HNa.out hca HPa.out hq2).mono ?_
              rintro e w11 ⟨p11, n11, c11, rfl, hn11, hc11, hp11, hr11, _, hb11⟩
              rw [HE.out]
              have HN11 := Lib.hid hn11; have HP11 := Lib.hid hp11; clear hn11 hp11
              have g11 := laidS_good gE a2 a3 false
              have B11 : Below w.heap.size w w11 := B10.trans (hb11.mono B10.size)
              have BB : Below w11.heap.size w11 (w11.alloc (.cells #[.int .i64 (L : Int), .slice p11 n11 c11] 35)) := (Below.refl _ _).alloc (Nat.le_refl _) _
              have VB12 := VarAt.made g11 hr11 HN11.out hc11 HP11.out
              have VT12 := (VTh.out.below hb11).below BB
              have VA12 := (VAh.out.below hb11).below BB
              have B12 := B11.trans (BB.mono B11.size)
              have VBh := Lib.hid VB12; have VTh2 := Lib.hid VT12; have VAh2 := Lib.hid VA12
              obtain ⟨pt2, nt2, ct2, _, t20, t21, _, _, hrt2, hnt2, _, _, _⟩ := VT12
              have HNt2 := Lib.hid hnt2
              clear VB12 VA12 hnt2 x0 x1 y0 y1 z0 z1
              go_wp2_with fail
              refine (count_any L pt2 nt2 ct2 _ a2 a3 _ gE HNt2.out hrt2 hq2).mono ?_
              rintro e w13 ⟨rfl, hb13⟩
              rw [HE.out, count_all g HW.out]
              have VB13 := VBh.out.below hb13
              have B13 := B12.trans (hb13.mono B12.size)
              have VBh3 := Lib.hid VB13
              obtain ⟨pb, nb, cb, _, b0, b1, _, _, hrb, hnb, _, _, _⟩ := VB13
              have HNb := Lib.hid hnb
              clear hnb t20 t21
              go_wp2_with fail
              refine (count_any L pb nb cb _ a2 a3 _ g11 HNb.out hrb hq2).mono ?_
              rintro e w14 ⟨rfl, hb14⟩
              rw [HE.out, count_none gE HW.out]
              have B14 := B13.trans (hb14.mono B13.size)
              have VA14 := (VAh2.out.below hb13).below hb14
              have VT14 := (VTh2.out.below hb13).below hb14
              obtain ⟨pa4, na4, ca4, _, a40, a41, _, _, hra4, hna4, _, _, _⟩ := VA14
              obtain ⟨pt4, nt4, ct4, _, t40, t41, _, _, hrt4, hnt4, _, _, _⟩ := VT14
              have HNa4 := Lib.hid hna4; have HNt4 := Lib.hid hnt4
              clear hna4 hnt4 b0 b1
              go_wp2_with fail
              refine (same_any L L pa4 pt4 na4 nt4 ca4 ct4 _ _ _ hra4 hrt4 HNa4.out HNt4.out (good_len gE)).mono ?_
              rintro e w15 ⟨rfl, hb15⟩
              have hss : (L == L && laidS L es a2 a3 true == laidS L es a2 a3 true) = true := by simp
              rw [hss]
              go_wp2_with fail
              go_ret
              exact ⟨rfl, B14.trans (hb15.mono B14.size)⟩
            · have hC : 0 ≤ (a4 : Int) ∧ (a4 : Int) ≤ a3 := by omega
              have HEq : Hid (laidS L (laidS L es a2 a4 true) (a2 + a4) (a3 - a4) true = laidS L es a2 a3 true) := Lib.hid (by have e := parts_same g HW.out hC.1 hC.2 true; simpa using e)
              have HE1 : Hid (laidErr L a2 a4 = 0) := Lib.hid (by unfold laidErr; rw [show withinB L a2 a4 = true from by unfold withinB; simp; omega]; rfl)
              have HE2 : Hid (laidErr L (a2 + a4) (a3 - a4) = 0) := Lib.hid (by unfold laidErr; rw [show withinB L (a2 + a4) (a3 - a4) = true from by unfold withinB; simp; omega]; rfl)
              go_wp2_with fail
              refine (with_any L ps ns cs es a2 a4 _ g hrs HNs.out hcs HPs.out hq2).mono ?_
              rintro e w7 ⟨p7, n7, c7, rfl, hn7, hc7, hp7, hr7, _, hb7⟩
              rw [HE1.out]
              have HN7 := Lib.hid hn7; have HP7 := Lib.hid hp7; clear hn7 hp7
              have B7 : Below w.heap.size w w7 := B6.trans (hb7.mono B6.size)
              have g7 := laidS_good g a2 a4 true
              have VA8 := VarAt.made g7 hr7 HN7.out hc7 HP7.out
              have BA : Below w7.heap.size w7 (w7.alloc (.cells #[.int .i64 (L : Int), .slice p7 n7 c7] 35)) := (Below.refl _ _).alloc (Nat.le_refl _) _
              have R8 := hr7.below BA
              have B8 : Below w.heap.size w (w7.alloc (.cells #[.int .i64 (L : Int), .slice p7 n7 c7] 35)) := B7.trans (BA.mono B7.size)
              have ne7 : Hid (∀ b off, p7 = some ⟨b, off, none⟩ → b ≠ w7.heap.size) := Lib.hid fun b off e => by subst e; have := hr7.lt; omega
              clear hc0 hc1 hd0 hd1 VT VS
              go_wp2_with fail
              refine (with_any L p7 n7 c7 _ (a2 + a4) (a3 - a4) _ g7 R8 HN7.out hc7 HP7.out (by omega)).mono ?_
              rintro e w9 ⟨p9, n9, c9, rfl, hn9, hc9, hp9, hr9, hx9, hb9⟩
              rw [HE2.out]
              rw [HEq.out] at hn9 hr9
              have HN9 := Lib.hid hn9; have HP9 := Lib.hid hp9; clear hn9 hp9
              have B9 : Below w.heap.size w w9 := B8.trans (hb9.mono B8.size)
              have VA9 := VA8.below hb9
              have gE := laidS_good g a2 a3 true
              have VA10 := VA9.store gE hr9 HN9.out hc9 HP9.out hx9 ne7.out (by simp)
              obtain ⟨_, _, _, _, y0, y1, z0, z1, _⟩ := VA9
              have B10 : Below w.heap.size w ((w9.setCell ⟨w7.heap.size, 0, none⟩ (.int .i64 (L : Int))).setCell ⟨w7.heap.size, 1, none⟩ (.slice p9 n9 c9)) := (B9.setCell (p := ⟨w7.heap.size, 0, none⟩) B7.size _).setCell (p := ⟨w7.heap.size, 1, none⟩) B7.size _
              have BY : Below (w5.alloc (.cells #[.int .i64 (L : Int), .slice p5 n5 c5] 35)).heap.size (w5.alloc (.cells #[.int .i64 (L : Int), .slice p5 n5 c5] 35)) ((w9.setCell ⟨w7.heap.size, 0, none⟩ (.int .i64 (L : Int))).setCell ⟨w7.heap.size, 1, none⟩ (.slice p9 n9 c9)) :=
                (((hb7.trans (BA.mono hb7.size)).trans (hb9.mono (by have := hb7.size; simp at this ⊢; omega))).setCell (p := ⟨w7.heap.size, 0, none⟩) hb7.size _).setCell (p := ⟨w7.heap.size, 1, none⟩) hb7.size _
              have VT10 := VTk.out.below BY
              have VTh := Lib.hid VT10; have VAh := Lib.hid VA10
              obtain ⟨pa, na, ca, _, x0, x1, _, _, hra, hna, hca, hpa, _⟩ := VA10
              have HNa := Lib.hid hna; have HPa := Lib.hid hpa
              clear VT10 VA8 hna hpa BY
              go_wp2_with fail
              refine (without_any L pa na ca _ a2 a3 _ gE hra HNa.out hca HPa.out hq2).mono ?_
              rintro e w11 ⟨p11, n11, c11, rfl, hn11, hc11, hp11, hr11, _, hb11⟩
              rw [HE.out]
              have HN11 := Lib.hid hn11; have HP11 := Lib.hid hp11; clear hn11 hp11
              have g11 := laidS_good gE a2 a3 false
              have B11 : Below w.heap.size w w11 := B10.trans (hb11.mono B10.size)
              have BB : Below w11.heap.size w11 (w11.alloc (.cells #[.int .i64 (L : Int), .slice p11 n11 c11] 35)) := (Below.refl _ _).alloc (Nat.le_refl _) _
              have VB12 := VarAt.made g11 hr11 HN11.out hc11 HP11.out
              have VT12 := (VTh.out.below hb11).below BB
              have VA12 := (VAh.out.below hb11).below BB
              have B12 := B11.trans (BB.mono B11.size)
              have VBh := Lib.hid VB12; have VTh2 := Lib.hid VT12; have VAh2 := Lib.hid VA12
              obtain ⟨pt2, nt2, ct2, _, t20, t21, _, _, hrt2, hnt2, _, _, _⟩ := VT12
              have HNt2 := Lib.hid hnt2
              clear VB12 VA12 hnt2 x0 x1 y0 y1 z0 z1
              go_wp2_with fail
              refine (count_any L pt2 nt2 ct2 _ a2 a3 _ gE HNt2.out hrt2 hq2).mono ?_
              rintro e w13 ⟨rfl, hb13⟩
              rw [HE.out, count_all g HW.out]
              have VB13 := VBh.out.below hb13
              have B13 := B12.trans (hb13.mono B12.size)
              have VBh3 := Lib.hid VB13
              obtain ⟨pb, nb, cb, _, b0, b1, _, _, hrb, hnb, _, _, _⟩ := VB13
              have HNb := Lib.hid hnb
              clear hnb t20 t21
              go_wp2_with fail
              refine (count_any L pb nb cb _ a2 a3 _ g11 HNb.out hrb hq2).mono ?_
              rintro e w14 ⟨rfl, hb14⟩
              rw [HE.out, count_none gE HW.out]
              have B14 := B13.trans (hb14.mono B13.size)
              have VA14 := (VAh2.out.below hb13).below hb14
              have VT14 := (VTh2.out.below hb13).below hb14
              obtain ⟨pa4, na4, ca4, _, a40, a41, _, _, hra4, hna4, _, _, _⟩ := VA14
              obtain ⟨pt4, nt4, ct4, _, t40, t41, _, _, hrt4, hnt4, _, _, _⟩ := VT14
              have HNa4 := Lib.hid hna4; have HNt4 := Lib.hid hnt4
              clear hna4 hnt4 b0 b1
              go_wp2_with fail
              refine (same_any L L pa4 pt4 na4 nt4 ca4 ct4 _ _ _ hra4 hrt4 HNa4.out HNt4.out (good_len gE)).mono ?_
              rintro e w15 ⟨rfl, hb15⟩
              have hss : (L == L && laidS L es a2 a3 true == laidS L es a2 a3 true) = true := by simp
              rw [hss]
              go_wp2_with fail
              go_ret
              exact ⟨rfl, B14.trans (hb15.mono B14.size)⟩

theorem parts_out (a0 a2 a3 a4 : Int) (p1 : Option Addr) (c1 len : Nat) (hlen : len ≤ 9223372036854775807) (w : World) (h : ¬ (len ≤ 60 ∧ a0 ≤ 2000)) :
    Calls Try.prog 8 #[.int .i64 a0, .slice p1 len c1, .int .i64 a2, .int .i64 a3, .int .i64 a4] w (TrueAt w) := by
  by_cases h1 : len ≤ 60
  · have h0 : ¬ a0 ≤ 2000 := fun h2 => h ⟨h1, h2⟩
    clear h
    go_enter Try.func8, Try.ntmps8
    go_wp2_with fail
    refine (awake_calls _).mono ?_
    rintro e w1 ⟨rfl, hb1⟩
    go_wp2_with fail
    go_ret
    exact ⟨rfl, hb1⟩
  · clear h
    go_enter Try.func8, Try.ntmps8
    go_wp2_with fail
    refine (awake_calls _).mono ?_
    rintro e w1 ⟨rfl, hb1⟩
    go_wp2_with fail
    go_ret
    exact ⟨rfl, hb1⟩
theorem parts_all (a0 a2 a3 a4 : Int) (p1 : Option Addr) (c1 len : Nat) (w : World) (h : ∃ acts : List ActL, acts.length = len ∧ len ≤ 9223372036854775807 ∧ ActsAt w p1 acts) (q2 : (Lit.int .i64 a2).wf = true) (q4 : (Lit.int .i64 a4).wf = true) :
    Calls Try.prog 8 #[.int .i64 a0, .slice p1 len c1, .int .i64 a2, .int .i64 a3, .int .i64 a4] w (TrueAt w) := by
  obtain ⟨acts, rfl, hlen, ha⟩ := h
  by_cases hc : acts.length ≤ 60 ∧ a0 ≤ 2000
  · exact parts_walk a0 a2 a3 a4 p1 c1 acts hlen w ha hc.1 hc.2 (bounds_i64 q2).2 (bounds_i64 q4).1
  · exact parts_out a0 a2 a3 a4 p1 c1 _ hlen w hc
end Go.Proofs.Ytioiipilgljeeaa.Bt
