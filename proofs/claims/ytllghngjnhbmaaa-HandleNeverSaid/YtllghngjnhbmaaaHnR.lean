/- HandleNever. (Written by gen_hnr.py.) -/
import Derived.Test.YtllghngjnhbmaaaHnX
namespace Go.Proofs.Ytllghngjnhbmaaa.Bt
open Go Go.RowKit Go.Shelf Go.Maps
set_option linter.unusedVariables false
set_option linter.unusedSimpArgs false
theorem ns100 : nS 100 = 6 := rfl
theorem wf_u64 {x : Int} (h : (Lit.int .u64 x).wf = true) : ∃ n : Nat, n < 18446744073709551616 ∧ x = (n : Int) := by
  have e1 : IntKind.u64.min = 0 := by decide
  have e2 : IntKind.u64.max = 18446744073709551615 := by decide
  simp only [Lit.wf, e1, e2] at h
  simp at h
  obtain ⟨n, rfl⟩ := Int.eq_ofNat_of_zero_le (show 0 ≤ x by omega)
  exact ⟨n, by omega, rfl⟩
theorem NvP.same {n : Nat} {m m' : Nat → UInt8} {q : Nat → Nat × Nat} {l : List Nat} {Dt Dg : DataW Unit} (h : NvP n m q l Dt Dg) (hd : Hd m' n q) : NvP n m' q l Dt Dg := { h with hd := hd }
set_option maxHeartbeats 16000000 in
set_option maxRecDepth 100000 in
theorem hnever (p0 : Option Addr) (c0' : Nat) (acts : List Act17) (hlen : acts.length ≤ 9223372036854775807) (w : World) (h : Acts17At w p0 acts) :
    Calls Try.prog 4 #[.slice p0 acts.length c0'] w fun e w' => e = .returned (.bool true) ∧ Below w.heap.size w w' := by
  have HACT := Lib.hid h
  have hmm := @run_makeMap Try.prog
  clear h
  go_enter Try.func4, Try.ntmps4
  go_wp2_with fail
  refine (awake17 _).mono ?_
  rintro e w0 ⟨rfl, hb⟩
  have HB0 := Lib.hid hb
  clear hb
  by_cases h80 : (80 : Int) < (acts.length : Int)
  · go_wp2_with fail
    go_ret
    exact ⟨rfl, HB0.out⟩
  go_wp2_with fail
  refine (open17 100 (by omega) _).mono ?_
  rintro e w1 ⟨A, rfl, hx, hb⟩
  have HT0 := Lib.hid (TvS.start (vs := 100) hx (hb.rebase HB0.out))
  have HWC := Lib.hid (Nat.le_trans HB0.out.size hb.bel.size)
  clear hx hb
  go_upto_region 6 with fail
  change Code.wp _ _ _ _ (w1.alloc (.cells #[.pointer (some ⟨A, 0, none⟩), .int .i64 16, .int .i64 ((100 : Nat) : Int)] 29))
  have HCL : Hid (w1.heap.size < (w1.alloc (.cells #[.pointer (some ⟨A, 0, none⟩), .int .i64 16, .int .i64 ((100 : Nat) : Int)] 29)).heap.size) := Lib.hid (by simp)
  obtain ⟨y, hy⟩ : ∃ y, w1.alloc (.cells #[.pointer (some ⟨A, 0, none⟩), .int .i64 16, .int .i64 ((100 : Nat) : Int)] 29) = y := ⟨_, rfl⟩
  obtain ⟨C, hC⟩ : ∃ C, w1.heap.size = C := ⟨_, rfl⟩
  rw [hy, hC] at HT0 HCL
  rw [hC] at HWC
  rw [hy, hC]
  clear hy hC
  obtain ⟨n, hn⟩ : ∃ n, nS 100 = n := ⟨_, rfl⟩
  have hn2 : n ≤ 256 := by rw [← hn]; exact Nat.min_le_right _ _
  have HN2 := Lib.hid hn2
  have HDR := Lib.hid fun m q (hd : Hd m n q) hh (hb : hh < 18446744073709551616) X (hX : On A (hS m) X) => hn ▸ hDrop (vs := 100) hX (by omega) (hn.symm ▸ hd) hh hb
  have HGY := Lib.hid fun m q (hd : Hd m n q) hh (hb : hh < 18446744073709551616) (hi : isH n q hh) X (hX : On A (hS m) X) => hGet_yes (q := q) (vs := 100) hX (by omega) (hn.symm ▸ hd) hh hb (hn.symm ▸ hi)
  have HGN := Lib.hid fun m q (hd : Hd m n q) hh (hb : hh < 18446744073709551616) (hi : ¬ isH n q hh) X (hX : On A (hS m) X) => hGet_no (q := q) (vs := 100) hX (by omega) (hn.symm ▸ hd) hh hb (hn.symm ▸ hi)
  have HNE := Lib.hid fun m q (hd : Hd m n q) a (ha : a ≤ 9223372036854775807) X (hX : On A (hS m) X) => hn ▸ hNew (vs := 100) hX (by omega) (hn.symm ▸ hd) a ha
  have HAL := Lib.hid fun m q (hd : Hd m n q) X (hX : On A (hS m) X) => hn ▸ hAllT (vs := 100) hX (by omega) (hn.symm ▸ hd)
  have HD0 : Hid (NvP n (fun _ => 0) q00 [] (.map []) (.map [])) := Lib.hid (NvP.start n)
  clear hn hn2
  obtain ⟨len, hl⟩ : ∃ len, acts.length = len := ⟨_, rfl⟩
  have HL := Lib.hid hl
  have HL80 : Hid (len ≤ 80) := Lib.hid (by omega)
  rw [hl]
  clear hl hlen h80
  have HS0 := Lib.hid (NvS.start HT0.out HCL.out HWC.out)
  clear HT0 HCL HWC HB0
  go_upto_region 7 with fail
  change Code.wp _ _ _ _ ((y.alloc (.map #[] 0)).alloc (.map #[] 0))
  have e1 : (y.alloc (.map #[] 0)).heap.size = y.heap.size + 1 := by simp
  obtain ⟨z0, hz0⟩ : ∃ z0, (y.alloc (.map #[] 0)).alloc (.map #[] 0) = z0 := ⟨_, rfl⟩
  obtain ⟨bt, hbt⟩ : ∃ bt, y.heap.size = bt := ⟨_, rfl⟩
  obtain ⟨bg, hbg⟩ : ∃ bg, bt + 1 = bg := ⟨_, rfl⟩
  rw [hz0, hbt, hbg] at HS0
  try rw [e1]
  rw [hz0]
  simp only [hbt, hbg]
  clear hz0 hbt hbg e1
  obtain ⟨b0, hb0⟩ : ∃ b0, bt = b0 := ⟨_, rfl⟩
  have HS1 : Hid (NvS C A b0 bt bg 0 0 (fun _ => 0) (.slice none 0 0) [] (.map []) (.map []) w z0) := Lib.hid (hb0 ▸ HS0.out)
  clear HS0 hb0 hmm
  go_wp2_with fail
  go_loopw [8, 32] (fun s8 s32 wr => ∃ (j kt kg : Nat) (m : Nat → UInt8) (q : Nat → Nat × Nat) (l : List Nat) (Dt Dg : DataW Unit), j ≤ len ∧ s32 = .int .i64 (j : Int) ∧ Hid (kt ≤ j ∧ kg ≤ j) ∧ Hid (NvP n m q l Dt Dg) ∧ Hid (NvS C A b0 bt bg kt kg m s8 l Dt Dg w wr)) (fun _ s32 _ => len - (intOf s32).toNat)
  case atStart => exact ⟨0, 0, 0, _, _, _, _, _, Nat.zero_le _, rfl, Lib.hid ⟨Nat.le_refl _, Nat.le_refl _⟩, HD0, HS1⟩
  case round =>
    clear HS1 HD0
    obtain ⟨j, kt, kg, m, q, l, Dt, Dg, hj, rfl, HK, HP, HV⟩ := hrel
    have HV0 := HV.out
    obtain ⟨p, cp, rfl, hc⟩ := HV.out.lv.hd
    have HC := Lib.hid hc
    have HNL2 : Hid (l.length ≤ 256) := Lib.hid (by rw [← live_len HN2.out HP.out.hd.b HP.out.nd HP.out.me]; exact Nat.le_trans (hL_len q n) HN2.out)
    obtain ⟨nl, hnl⟩ : ∃ nl, l.length = nl := ⟨_, rfl⟩
    have HNL := Lib.hid hnl
    rw [hnl] at HV HNL2
    rw [hnl]
    clear hnl HV0 hc
    by_cases hjn : j < len
    · have hjn2 : (j : Int) < (len : Int) := by omega
      have hj0 : (0 : Int) ≤ (j : Int) := by omega
      have hjL : j < acts.length := by rw [HL.out]; exact hjn
      have HJN := Lib.hid (And.intro hjn HL80.out)
      rcases HACT.out.below HV.out.tv.bs.bel with e | ⟨b, off, rfl, hbl, hc⟩
      · rw [e] at hjL; simp at hjL
      obtain ⟨⟨k0, k1, k2, k3, k4⟩, hok⟩ := hc j hjL
      obtain ⟨a, ha⟩ : ∃ a, acts[j] = a := ⟨_, rfl⟩
      rw [ha] at k0 k1 k2 k3 k4 hok
      have HOK := Lib.hid hok
      have HA0 : Hid (AcV wr.heap.size a (wr.alloc (.cells (acC a) 36)) ∧ NvS C A b0 bt bg kt kg m (.slice p nl cp) l Dt Dg w (wr.alloc (.cells (acC a) 36))) := Lib.hid ⟨heap_new _ _, HV.out.below (bel1 _ _)⟩
      clear hc hbl hjL ha hok hj hjn HV
      go_upto_region 11 with fail
      change Code.wp _ _ _ _ (wr.alloc (.cells (acC a) 36))
      obtain ⟨y3, hy3⟩ : ∃ y, wr.alloc (.cells (acC a) 36) = y := ⟨_, rfl⟩
      obtain ⟨F, hF⟩ : ∃ F, wr.heap.size = F := ⟨_, rfl⟩
      rw [hy3, hF] at HA0
      rw [hy3, hF]
      clear hy3 hF k0 k1 k2 k3 k4
      have HA1 := Lib.hid HA0.out.1
      have HV2 := Lib.hid HA0.out.2
      clear HA0
      obtain ⟨d0, d1, d2, d3, d4⟩ := HA1.out.all
      obtain ⟨dv, hdv⟩ : ∃ dv, a.d = dv := ⟨_, rfl⟩
      obtain ⟨an, han⟩ : ∃ an, a.a = an := ⟨_, rfl⟩
      obtain ⟨nv, hnv⟩ : ∃ nv, a.n = nv := ⟨_, rfl⟩
      have hdb := HOK.out.dB
      have hab := HOK.out.aB
      have hnb := HOK.out.nB
      rw [hdv] at hdb d0
      rw [han] at hab d2
      rw [hnv] at hnb d1
      obtain ⟨rk, hrk⟩ : ∃ rk, Int.tmod dv 6 = rk := ⟨_, rfl⟩
      have hrb : 0 ≤ rk ∧ rk < 6 := by rw [← hrk, Int.tmod_eq_emod_of_nonneg hdb.1]; omega
      have hrw : IntKind.u8.wrap rk = rk := by rw [IntKind.wrap_u8]; omega
      clear hdv han hnv hdb
      by_cases r4 : rk < 3
      · have HNW := Lib.hid fun X (hX : On A (hS m) X) => HNE.out m q HP.out.hd an hab.2 X hX
        obtain ⟨c0, c1, c2⟩ := HV2.out.tv.all
        clear hab hnb hrb
        go_wp2_with fail
        refine (HNW.out _ HV2.out.tv.on).mono ?_
        rintro e x2 ⟨m2, q2, h2, e2, rfl, ho, hd2, hg, hcase⟩
        have HV3 := Lib.hid (HV2.out.went ho hg)
        clear ho hg HV2 HNW c0 c1 c2 d0 d1 d2 d3 d4
        rcases hcase with ⟨_, rfl, rfl, rfl⟩ | ⟨_, _, rfl, rfl, rfl⟩ | ⟨ha1, i, hin, hfr, _, rfl, rfl, rfl⟩
        · have HPN := Lib.hid (HP.out.same hd2)
          have HNS := HV3
          have HKK : Hid (kt ≤ j + 1 ∧ kg ≤ j + 1) := Lib.hid (by have := HK.out; omega)
          clear hd2 HV3
          obtain ⟨hjn, hlen80⟩ := HJN.out
          go_wp2_with fail
          go_roundw
          case rel => exact ⟨j + 1, _, _, _, _, _, _, _, by omega, by go_num, HKK, HPN, HNS⟩
          case measure => simp [intOf]; omega
        · have HPN := Lib.hid (HP.out.same hd2)
          have HNS := HV3
          have HKK : Hid (kt ≤ j + 1 ∧ kg ≤ j + 1) := Lib.hid (by have := HK.out; omega)
          clear hd2 HV3
          obtain ⟨hjn, hlen80⟩ := HJN.out
          go_wp2_with fail
          go_roundw
          case rel => exact ⟨j + 1, _, _, _, _, _, _, _, by omega, by go_num, HKK, HPN, HNS⟩
          case measure => simp [intOf]; omega
        · have HTO := Lib.hid (new_told HN2.out hin hfr (a := an.toNat) (by omega))
          have HPN := Lib.hid (HP.out.new HN2.out hin hfr (by omega) hd2)
          have HKK : Hid (kt + 1 ≤ j + 1 ∧ kg ≤ j + 1) := Lib.hid (by have := HK.out; omega)
          have HIM := Lib.hid HP.out.tm
          obtain ⟨hh, hhe⟩ : ∃ hh, hOf q i = hh := ⟨_, rfl⟩
          obtain ⟨q2, hq2⟩ : ∃ q2, upd q i (an.toNat, (q i).2 + 1) = q2 := ⟨_, rfl⟩
          rw [hhe, hq2] at HTO HPN
          rw [hhe]
          have hlk0 := map_look HV3.out.tm 59 Try.underlying59 hh HTO.out.2.1 0 ((HP.out.tr _ _).2 HTO.out.1)
          obtain ⟨x3, hup, hnv3⟩ := HV3.out.putT (by have := HK.out; have := HJN.out; omega) 59 Try.underlying59 hh 1 HTO.out.2.1 (by omega)
          have e11 : ((1 : Nat) : Int) = 1 := rfl
          rw [e11] at hup hnv3
          have hlk1 := map_look hnv3.tm 59 Try.underlying59 hh HTO.out.2.1 1 (atKey_put_same (k := .int .u64 (hh : Int)) HIM.out (by trivial) _ _)
          have HN3 := Lib.hid hnv3
          have HN4 := Lib.hid (hnv3.below (bel1 x3 (.cells #[.int .u64 (hh : Int)] 34)))
          obtain ⟨v', x4, hap, hlv, hgr⟩ := HN4.out.lv.append (news := [hh]) HN4.out.tv.on (by have := HNL2.out; have := HNL.out; simp; omega) HN4.out.o1.2.2.2.2.2 60 ⟨x3.heap.size, 0, none⟩ 1 1 rfl (cell_one_new x3 (.int .u64 (hh : Int)) 34)
          have HNS := Lib.hid (HN4.out.row hlv hgr)
          clear e11 hhe hq2 hd2 hfr hin ha1 hnv3 HV3 hlv hgr HN3 HN4 HIM HTO
          go_upto_region 25 with (at_builtin; refine wpList_append_run rfl _ _ 60 rfl _ _ _ rfl rfl hap ?_)
          clear hlk0 hup hlk1 hap
          go_wp2_with (first | (at_range; refine wpList_range_own _ rfl _ 59 rfl 34 3 lawH Try.underlying59 _ bt _ _ rfl HNS.out.tm ?_; intro y0 hrg0 hg0 hs0) | go_in)
          try go_frame
          have HY0 := Lib.hid (HNS.out.below (below_of_grown hg0))
          have HMR := Lib.hid (Mine.late HNS.out.tv.on (below_of_grown hg0) (Nat.le_refl _) (by omega))
          have HRN : Hid (b0 ≤ x4.heap.size ∧ x4.heap.size ≠ bt ∧ x4.heap.size ≠ bg ∧ (v').ownBlock ≠ some x4.heap.size) := Lib.hid ⟨HNS.out.o1.2.2.2.2.2, (Nat.ne_of_lt HNS.out.mt.lt).symm, (Nat.ne_of_lt HNS.out.mg.lt).symm, fun e => by
            have := (HNS.out.lv.ow.lt _ e).2
            omega⟩
          obtain ⟨rr, hrr⟩ : ∃ rr, x4.heap.size = rr := ⟨_, rfl⟩
          rw [hrr] at HMR HRN hrg0
          rw [hrr]
          clear hrr hg0 hs0
          go_loopw [] (fun wr => ∃ (left : Lit → Bool) (cnt : Nat), wr.ranges Try.prog 34 (plainElem Try.prog 3) bt rr (kt + 1) (Dt.put (.int .u64 (hh : Int)) (.lit (.int .i64 1))) left cnt ∧ Hid (NvS C A b0 bt bg (kt + 1) kg m2 v' (l ++ [hh]) (Dt.put (.int .u64 (hh : Int)) (.lit (.int .i64 1))) Dg w wr) ∧ Hid (Mine A rr wr)) (fun wr => wr.rangeLeft bt rr)
          case atStart => exact ⟨_, _, hrg0, HY0, HMR⟩
          case round =>
            clear HY0 HMR hrg0
            obtain ⟨left, cnt, hrg, HNr, HMr⟩ := hrel
            go_wp2_with (first | (at_next; refine wpList_next_ranges_ii _ rfl _ rfl 34 3 .u64 .i64 lawH Try.underlying34 Try.underlying3 bt rr _ _ _ _ rfl hrg ?_ ?_) | go_in)
            · intro hc0 hl0
              have HNZ := Lib.hid HNr.out
              clear hrg HMr hl0 hc0
              obtain ⟨hjn, hlen80⟩ := HJN.out
              go_wp2_with fail
              go_roundw
              case rel => exact ⟨j + 1, _, _, _, _, _, _, _, by omega, by go_num, HKK, HPN, HNZ⟩
              case measure => simp [intOf]; omega
            · intro x c y1 cnt1 hwx hwc hlx hat hrg1 hlt hg1 hs1 hen
              have HN1 := Lib.hid (HNr.out.side HMr.out HRN.out.1 HRN.out.2.1 HRN.out.2.2.1 HRN.out.2.2.2 hg1)
              have HM1 := Lib.hid (Mine.mine HNr.out.tv.on HMr.out HMr.out hg1)
              obtain ⟨xh, hxb, rfl⟩ := wf_u64 hwx
              have HTQ : Hid (Tq n q2 xh) := Lib.hid (by
                by_cases ct : Tq n q2 xh
                · exact ct
                · have e1 := (HPN.out.tr xh (.lit (.int .i64 0))).2 ct
                  have e2 := (HPN.out.tr xh (.lit (.int .i64 1))).2 ct
                  rw [hat] at e1 e2
                  simp at e1 e2
                  omega)
              have HRE := Lib.hid hrg.left_eq
              have HRG := Lib.hid hrg1
              obtain ⟨c0, c1, c2⟩ := HN1.out.tv.all
              clear hrg hrg1 hwx hwc hlx hat hg1 hs1 HNr HMr
              by_cases hi : isH n q2 xh
              · have HGE := Lib.hid fun X (hX : On A (hS m2) X) => HGY.out m2 q2 HPN.out.hd xh hxb hi X hX
                have HLK := Lib.hid fun X (hX : NvS C A b0 bt bg (kt + 1) kg m2 v' (l ++ [hh]) (Dt.put (.int .u64 (hh : Int)) (.lit (.int .i64 1))) Dg w X) => map_look hX.gm 59 Try.underlying59 xh hxb 0 ((HPN.out.gr xh _).2 fun k => k.2 hi)
                obtain ⟨av, hav⟩ : ∃ av, (q2 (xh % 256)).1 = av := ⟨_, rfl⟩
                rw [hav] at HGE
                clear hav hi hxb
                go_wp2_with fail
                refine (HGE.out _ HN1.out.tv.on).mono ?_
                rintro e y2 ⟨rfl, hb⟩
                have HN2 := Lib.hid (HN1.out.below hb)
                have HM2 := Lib.hid (HM1.out.went (Went.of_below HN1.out.tv.on hb))
                have HR2 := Lib.hid (HRG.out.kept (row := none) ⟨hb.os, hb.tape, hb.output, hb.size, fun k hk _ => hb.block k hk⟩ (by simp) (by simp))
                have hlk := HLK.out _ HN2.out
                clear hb HN1 HM1 HRG HGE HLK c0 c1 c2
                go_wp2_with fail
                go_roundw
                case rel => exact ⟨_, _, HR2.out, HN2, HM2⟩
                case measure => rw [HR2.out.left_eq, HRE.out]; exact hlt
              · have HGE := Lib.hid fun X (hX : On A (hS m2) X) => HGN.out m2 q2 HPN.out.hd xh hxb hi X hX
                have HLK := Lib.hid fun X (hX : NvS C A b0 bt bg (kt + 1) kg m2 v' (l ++ [hh]) (Dt.put (.int .u64 (hh : Int)) (.lit (.int .i64 1))) Dg w X) => map_look hX.gm 59 Try.underlying59 xh hxb 1 ((HPN.out.gr xh _).1 ⟨HTQ.out, hi⟩)
                clear hi hxb
                go_wp2_with fail
                refine (HGE.out _ HN1.out.tv.on).mono ?_
                rintro e y2 ⟨rfl, hb⟩
                have HN2 := Lib.hid (HN1.out.below hb)
                have HM2 := Lib.hid (HM1.out.went (Went.of_below HN1.out.tv.on hb))
                have HR2 := Lib.hid (HRG.out.kept (row := none) ⟨hb.os, hb.tape, hb.output, hb.size, fun k hk _ => hb.block k hk⟩ (by simp) (by simp))
                have hlk := HLK.out _ HN2.out
                clear hb HN1 HM1 HRG HGE HLK c0 c1 c2
                go_wp2_with fail
                go_roundw
                case rel => exact ⟨_, _, HR2.out, HN2, HM2⟩
                case measure => rw [HR2.out.left_eq, HRE.out]; exact hlt

      · have r4' : ¬ (rk < 3) := r4
        have hlm := HNL2.out
        by_cases h0 : nl = 0
        · subst h0
          have HPN := HP
          have HNS := HV2
          have HKK : Hid (kt ≤ j + 1 ∧ kg ≤ j + 1) := Lib.hid (by have := HK.out; omega)
          clear hab hnb hrb hlm HV2
          go_wp2_with (first | (at_range; refine wpList_range_own _ rfl _ 59 rfl 34 3 lawH Try.underlying59 _ bt _ _ rfl HNS.out.tm ?_; intro y0 hrg0 hg0 hs0) | go_in)
          try go_frame
          have HY0 := Lib.hid (HNS.out.below (below_of_grown hg0))
          have HMR := Lib.hid (Mine.late HNS.out.tv.on (below_of_grown hg0) (Nat.le_refl _) (by omega))
          have HRN : Hid (b0 ≤ y3.heap.size ∧ y3.heap.size ≠ bt ∧ y3.heap.size ≠ bg ∧ ((Value.slice p 0 cp)).ownBlock ≠ some y3.heap.size) := Lib.hid ⟨HNS.out.o1.2.2.2.2.2, (Nat.ne_of_lt HNS.out.mt.lt).symm, (Nat.ne_of_lt HNS.out.mg.lt).symm, fun e => by
            have := (HNS.out.lv.ow.lt _ e).2
            omega⟩
          obtain ⟨rr, hrr⟩ : ∃ rr, y3.heap.size = rr := ⟨_, rfl⟩
          rw [hrr] at HMR HRN hrg0
          rw [hrr]
          clear hrr hg0 hs0
          go_loopw [] (fun wr => ∃ (left : Lit → Bool) (cnt : Nat), wr.ranges Try.prog 34 (plainElem Try.prog 3) bt rr kt Dt left cnt ∧ Hid (NvS C A b0 bt bg kt kg m (Value.slice p 0 cp) l Dt Dg w wr) ∧ Hid (Mine A rr wr)) (fun wr => wr.rangeLeft bt rr)
          case atStart => exact ⟨_, _, hrg0, HY0, HMR⟩
          case round =>
            clear HY0 HMR hrg0
            obtain ⟨left, cnt, hrg, HNr, HMr⟩ := hrel
            go_wp2_with (first | (at_next; refine wpList_next_ranges_ii _ rfl _ rfl 34 3 .u64 .i64 lawH Try.underlying34 Try.underlying3 bt rr _ _ _ _ rfl hrg ?_ ?_) | go_in)
            · intro hc0 hl0
              have HNZ := Lib.hid HNr.out
              clear hrg HMr hl0 hc0
              obtain ⟨hjn, hlen80⟩ := HJN.out
              go_wp2_with fail
              go_roundw
              case rel => exact ⟨j + 1, _, _, _, _, _, _, _, by omega, by go_num, HKK, HPN, HNZ⟩
              case measure => simp [intOf]; omega
            · intro x c y1 cnt1 hwx hwc hlx hat hrg1 hlt hg1 hs1 hen
              have HN1 := Lib.hid (HNr.out.side HMr.out HRN.out.1 HRN.out.2.1 HRN.out.2.2.1 HRN.out.2.2.2 hg1)
              have HM1 := Lib.hid (Mine.mine HNr.out.tv.on HMr.out HMr.out hg1)
              obtain ⟨xh, hxb, rfl⟩ := wf_u64 hwx
              have HTQ : Hid (Tq n q xh) := Lib.hid (by
                by_cases ct : Tq n q xh
                · exact ct
                · have e1 := (HPN.out.tr xh (.lit (.int .i64 0))).2 ct
                  have e2 := (HPN.out.tr xh (.lit (.int .i64 1))).2 ct
                  rw [hat] at e1 e2
                  simp at e1 e2
                  omega)
              have HRE := Lib.hid hrg.left_eq
              have HRG := Lib.hid hrg1
              obtain ⟨c0, c1, c2⟩ := HN1.out.tv.all
              clear hrg hrg1 hwx hwc hlx hat hg1 hs1 HNr HMr
              by_cases hi : isH n q xh
              · have HGE := Lib.hid fun X (hX : On A (hS m) X) => HGY.out m q HPN.out.hd xh hxb hi X hX
                have HLK := Lib.hid fun X (hX : NvS C A b0 bt bg kt kg m (Value.slice p 0 cp) l Dt Dg w X) => map_look hX.gm 59 Try.underlying59 xh hxb 0 ((HPN.out.gr xh _).2 fun k => k.2 hi)
                obtain ⟨av, hav⟩ : ∃ av, (q (xh % 256)).1 = av := ⟨_, rfl⟩
                rw [hav] at HGE
                clear hav hi hxb
                go_wp2_with fail
                refine (HGE.out _ HN1.out.tv.on).mono ?_
                rintro e y2 ⟨rfl, hb⟩
                have HN2 := Lib.hid (HN1.out.below hb)
                have HM2 := Lib.hid (HM1.out.went (Went.of_below HN1.out.tv.on hb))
                have HR2 := Lib.hid (HRG.out.kept (row := none) ⟨hb.os, hb.tape, hb.output, hb.size, fun k hk _ => hb.block k hk⟩ (by simp) (by simp))
                have hlk := HLK.out _ HN2.out
                clear hb HN1 HM1 HRG HGE HLK c0 c1 c2
                go_wp2_with fail
                go_roundw
                case rel => exact ⟨_, _, HR2.out, HN2, HM2⟩
                case measure => rw [HR2.out.left_eq, HRE.out]; exact hlt
              · have HGE := Lib.hid fun X (hX : On A (hS m) X) => HGN.out m q HPN.out.hd xh hxb hi X hX
                have HLK := Lib.hid fun X (hX : NvS C A b0 bt bg kt kg m (Value.slice p 0 cp) l Dt Dg w X) => map_look hX.gm 59 Try.underlying59 xh hxb 1 ((HPN.out.gr xh _).1 ⟨HTQ.out, hi⟩)
                clear hi hxb
                go_wp2_with fail
                refine (HGE.out _ HN1.out.tv.on).mono ?_
                rintro e y2 ⟨rfl, hb⟩
                have HN2 := Lib.hid (HN1.out.below hb)
                have HM2 := Lib.hid (HM1.out.went (Went.of_below HN1.out.tv.on hb))
                have HR2 := Lib.hid (HRG.out.kept (row := none) ⟨hb.os, hb.tape, hb.output, hb.size, fun k hk _ => hb.block k hk⟩ (by simp) (by simp))
                have hlk := HLK.out _ HN2.out
                clear hb HN1 HM1 HRG HGE HLK c0 c1 c2
                go_wp2_with fail
                go_roundw
                case rel => exact ⟨_, _, HR2.out, HN2, HM2⟩
                case measure => rw [HR2.out.left_eq, HRE.out]; exact hlt

        · have hn0 : ¬ ((nl : Int) = 0) := by omega
          have hnp : (0 : Int) < (nl : Int) := by omega
          obtain ⟨z, hz⟩ : ∃ z : Nat, max 0 nv = (z : Int) := ⟨(max 0 nv).toNat, by omega⟩
          have hzz : (if 0 < nv then nv else 0) = (z : Int) := by rw [← hz]; split <;> omega
          have hr : Int.tmod (z : Int) (nl : Int) = ((z % nl : Nat) : Int) := by rw [Int.tmod_eq_emod_of_nonneg (by omega)]; rfl
          have hlt := Nat.mod_lt z (show 0 < nl by omega)
          obtain ⟨dd, hd⟩ : ∃ d, z % nl = d := ⟨_, rfl⟩
          rw [hd] at hr hlt
          have hdl : dd < l.length := by rw [HNL.out]; exact hlt
          rcases HC.out with e | ⟨gp, rfl, hg, hcc⟩
          · rw [e] at hdl; simp at hdl
          have hcell := HV2.out.cells dd hdl
          have hmem : l.getD dd 0 ∈ l := by rw [List.getD_eq_getElem?_getD, List.getElem?_eq_getElem hdl]; exact List.getElem_mem hdl
          obtain ⟨hh, hx⟩ : ∃ x, l.getD dd 0 = x := ⟨_, rfl⟩
          rw [hx] at hcell hmem
          have hd2 : (dd : Int) < (nl : Int) := by omega
          have hd0 : (0 : Int) ≤ (dd : Int) := by omega

          have HI := Lib.hid ((HP.out.me hh).1 hmem)
          have HHB : Hid (hh < 18446744073709551616) := Lib.hid (by have := (HP.out.hd.b (hh % 256)).2; have := HI.out.2.2; omega)
          have HDRR := Lib.hid fun X (hX : On A (hS m) X) => HDR.out m q HP.out.hd hh HHB.out X hX
          have HDL := Lib.hid (And.intro hdl hx)
          obtain ⟨c0, c1, c2⟩ := HV2.out.tv.all
          clear hcc hg hmem hx hdl hd hz hab hnb hrb hlm
          go_wp2_with fail
          refine (HDRR.out _ HV2.out.tv.on).mono ?_
          rintro e x1 ⟨m2, q2, er, rfl, ho, hd2, hg, ⟨_, rfl, rfl⟩ | ⟨hno, _⟩⟩
          rotate_left
          · exact absurd HI.out hno
          have HN3 := Lib.hid (HV2.out.went ho hg)
          obtain ⟨hnp1, hnp2⟩ := HP.out.drop HDL.out.1 HDL.out.2 hd2
          have HPN := Lib.hid hnp1
          have HG0 := Lib.hid hnp2
          obtain ⟨q2, hq2⟩ : ∃ q2, upd q (hh % 256) (0, (q (hh % 256)).2) = q2 := ⟨_, rfl⟩
          rw [hq2] at HPN
          have HDD := Lib.hid (And.intro hd2.b hlt)
          clear hnp1 hnp2 hq2 hd2 ho hg HV2 HDRR hcell hzz hr c0 c1 c2 d0 d1 d2 d3 d4
          have HN6 := HN3
          have hcap : nl ≤ cp := by
            rcases HN3.out.lv.ow.2 with ⟨e, _⟩ | ⟨g, cap, cur, e, _, _, h1, _⟩
            · cases e
            · simp only [Value.slice.injEq] at e
              have := HNL.out
              omega
          have hdc : ¬ (cp < dd) := by omega
          have hwd : IntKind.i64.wrap ((dd : Int) + 1) = (dd : Int) + 1 := by rw [IntKind.wrap_i64]; have := HNL2.out; omega
          have hrg : 0 ≤ (dd : Int) + 1 ∧ (dd : Int) + 1 ≤ (nl : Int) := by omega
          have HAD2 : ∃ ad : Addr, (if cp = dd + 1 then some (⟨gp, 0, none⟩ : Addr) else some ⟨gp, dd + 1, none⟩) = some ad ∧ ∀ X : World, (∀ j, j < l.length → X.cell? ⟨gp, j, none⟩ = some (.int .u64 ((l.getD j 0 : Nat) : Int))) → ∀ j u, (hV (l.drop (dd + 1)))[j]? = some u → X.cell? (ad.add j) = some u := by
            by_cases c : cp = dd + 1
            · refine ⟨_, if_pos c, fun X hX j u hu => ?_⟩
              rw [List.drop_eq_nil_of_le (by have := HNL.out; omega)] at hu
              simp [hV] at hu
            · refine ⟨_, if_neg c, fun X hX j u hu => ?_⟩
              refine part_cells (a := dd + 1) hX (l.length) j u ?_
              rw [List.take_of_length_le (by simp)]
              exact hu
          obtain ⟨ad, had⟩ := HAD2
          have HAD := Lib.hid had
          clear had
          go_upto_region 23 with fail
          clear HN6
          refine wp_region_held_drew (S := NvS C A b0 bt bg kt kg m2 (.slice (some ⟨gp, 0, none⟩) nl cp) l Dt Dg w) (by kernel_rfl) (HN3.out.below (Below.refl x1.heap.size x1).drew) (fun hHeld => ?_)
          have HN4 := Lib.hid (HN3.out.below (Below.refl x1.heap.size x1).drew)
          clear HN3
          generalize x1.drew = x2 at *
          refine wpAnyH_take (i := 1) (v := (.slice (some ⟨gp, 0, none⟩) nl cp)) rfl (by kernel_rfl) (by kernel_rfl) (by kernel_rfl) (fun _ _ _ h => h) (Or.inl ⟨by rfl, fun X hS => ?_⟩) hHeld ?_
          · skip
            go_simp
          try simp only [Act.put, List.getElem_toArray, List.getElem_cons_zero, List.getElem_cons_succ, List.setIfInBounds_toArray, List.set_cons_zero, List.set_cons_succ]
          refine wpAnyH_take (i := 2) (v := (.int .i64 (dd : Int))) rfl (by kernel_rfl) (by kernel_rfl) (by kernel_rfl) (fun _ _ _ h => h) (Or.inl ⟨by rfl, fun X hS => ?_⟩) hHeld ?_
          · skip
            go_simp
          try simp only [Act.put, List.getElem_toArray, List.getElem_cons_zero, List.getElem_cons_succ, List.setIfInBounds_toArray, List.set_cons_zero, List.set_cons_succ]
          refine wpAnyH_take (i := 3) (v := (.slice (some ⟨gp, 0, none⟩) dd cp)) rfl (by kernel_rfl) (by kernel_rfl) (by kernel_rfl) (fun _ _ _ h => h) (Or.inl ⟨by rfl, fun X hS => ?_⟩) hHeld ?_
          · go_simp
            all_goals skip
          try simp only [Act.put, List.getElem_toArray, List.getElem_cons_zero, List.getElem_cons_succ, List.setIfInBounds_toArray, List.set_cons_zero, List.set_cons_succ]
          refine wpAnyH_take (i := 5) (v := (.slice (some ⟨gp, 0, none⟩) nl cp)) rfl (by kernel_rfl) (by kernel_rfl) (by kernel_rfl) (fun _ _ _ h => h) (Or.inl ⟨by rfl, fun X hS => ?_⟩) hHeld ?_
          · skip
            go_simp
          try simp only [Act.put, List.getElem_toArray, List.getElem_cons_zero, List.getElem_cons_succ, List.setIfInBounds_toArray, List.set_cons_zero, List.set_cons_succ]
          refine wpAnyH_take (i := 6) (v := (.int .i64 (dd : Int))) rfl (by kernel_rfl) (by kernel_rfl) (by kernel_rfl) (fun _ _ _ h => h) (Or.inl ⟨by rfl, fun X hS => ?_⟩) hHeld ?_
          · skip
            go_simp
          try simp only [Act.put, List.getElem_toArray, List.getElem_cons_zero, List.getElem_cons_succ, List.setIfInBounds_toArray, List.set_cons_zero, List.set_cons_succ]
          refine wpAnyH_take (i := 7) (v := (.int .i64 ((dd : Int) + 1))) rfl (by kernel_rfl) (by kernel_rfl) (by kernel_rfl) (fun _ _ _ h => h) (Or.inl ⟨by rfl, fun X hS => ?_⟩) hHeld ?_
          · go_simp
            all_goals skip
          try simp only [Act.put, List.getElem_toArray, List.getElem_cons_zero, List.getElem_cons_succ, List.setIfInBounds_toArray, List.set_cons_zero, List.set_cons_succ]
          refine wpAnyH_take (i := 8) (v := (.slice (some ad) (nl - (dd + 1)) (cp - (dd + 1)))) rfl (by kernel_rfl) (by kernel_rfl) (by kernel_rfl) (fun _ _ _ h => h) (Or.inl ⟨by rfl, fun X hS => ?_⟩) hHeld ?_
          · go_simp
            rw [HAD.out.1]
          try simp only [Act.put, List.getElem_toArray, List.getElem_cons_zero, List.getElem_cons_succ, List.setIfInBounds_toArray, List.set_cons_zero, List.set_cons_succ]
          refine wpAnyH_ready (rs := [0]) (by kernel_rfl) (by simp) (AllReadyH.cons rfl (fun K1 hK1 => ?_) AllReadyH.nil)
          go_simp
          have HN5 := Lib.hid (HN4.out.below (bel1 x2 (.cells #[] 34)))
          have HL5 := Lib.hid (LvR.lit0 HN4.out.tv.on)
          clear hHeld
          refine hK1.out _ _ HN5.out (fun hHeld => ?_)
          clear hK1
          try simp only [Act.put, List.getElem_toArray, List.getElem_cons_zero, List.getElem_cons_succ, List.setIfInBounds_toArray, List.set_cons_zero, List.set_cons_succ]
          have hvl : ∀ g, (Value.slice (some ⟨gp, 0, none⟩) nl cp).ownBlock = some g → g < x2.heap.size := fun g e => (HN4.out.lv.ow.lt g e).2
          have hsz5 : x2.heap.size ≤ (x2.alloc (.cells #[] 34)).heap.size := by simp
          obtain ⟨v1, x3, hap1, hlv1, hgr1⟩ := HL5.out.append (news := l.take dd) HN5.out.tv.on (by have := HNL2.out; have := HNL.out; simp; omega) hsz5 60 ⟨gp, 0, none⟩ dd cp (by have := HNL.out; simp; omega) (part_cells (a := 0) (fun j hj => HN5.out.cells j hj) dd)
          rw [List.nil_append] at hlv1
          have HN6 := Lib.hid (HN5.out.parts hvl HN4.out.mt.lt HN4.out.mg.lt HN4.out.o1.2.2.2.2.2 (v1 := .slice (some ⟨x2.heap.size, 0, none⟩) 0 0) (fun r e => ⟨by simp only [Value.ownBlock, Option.some.injEq] at e; omega, HL5.out.mi r e⟩) hgr1)
          obtain ⟨v2, x4, hap2, hlv2, hgr2⟩ := hlv1.append (news := l.drop (dd + 1)) HN6.out.tv.on (by have := HNL2.out; have := HNL.out; simp; omega) (Nat.le_trans hsz5 hgr1.size) 60 ad (nl - (dd + 1)) (cp - (dd + 1)) (by have := HNL.out; simp; omega) (HAD.out.2 x3 (fun j hj => HN6.out.cells j hj))
          have HN7 := Lib.hid (HN6.out.parts hvl HN4.out.mt.lt HN4.out.mg.lt HN4.out.o1.2.2.2.2.2 (v1 := v1) (fun r e => ⟨(hlv1.ow.lt r e).1, hlv1.mi r e⟩) hgr2)
          have HN8 := Lib.hid (HN7.out.swap (hlv2.mono HN4.out.o1.2.2.2.2.2))
          clear hlv1 hlv2 hgr1 hgr2 hvl hsz5
          refine wpAnyH_ready (rs := [4]) (by kernel_rfl) (by simp) (AllReadyH.cons rfl (fun K1 hK1 => ?_) AllReadyH.nil)
          refine wp_append_run _ _ 60 rfl _ _ _ rfl rfl hap1 ?_
          clear hHeld
          refine hK1.out _ _ HN6.out (fun hHeld => ?_)
          clear hK1
          try simp only [Act.put, List.getElem_toArray, List.getElem_cons_zero, List.getElem_cons_succ, List.setIfInBounds_toArray, List.set_cons_zero, List.set_cons_succ]
          refine wpAnyH_ready (rs := [9]) (by kernel_rfl) (by simp) (AllReadyH.cons rfl (fun K1 hK1 => ?_) AllReadyH.nil)
          refine wp_append_run _ _ 60 rfl _ _ _ rfl rfl hap2 ?_
          clear hHeld
          refine hK1.out _ _ HN7.out (fun hHeld => ?_)
          clear hK1
          try simp only [Act.put, List.getElem_toArray, List.getElem_cons_zero, List.getElem_cons_succ, List.setIfInBounds_toArray, List.set_cons_zero, List.set_cons_succ]
          refine wpAnyH_ready (rs := [10]) (by kernel_rfl) (by simp) (AllReadyH.cons rfl (fun K1 hK1 => ?_) AllReadyH.nil)
          go_simp
          clear hHeld
          refine hK1.out _ _ HN7.out (fun hHeld => ?_)
          clear hK1
          try simp only [Act.put, List.getElem_toArray, List.getElem_cons_zero, List.getElem_cons_succ, List.setIfInBounds_toArray, List.set_cons_zero, List.set_cons_succ]
          refine wpAnyH_done (by kernel_rfl) ?_ _
          clear hHeld hap1 hap2 HN4 HN5 HN6 HN7 HL5

          have hlk0 := map_look HN8.out.gm 59 Try.underlying59 hh HHB.out 0 HG0.out
          obtain ⟨x5, hup, hnv5⟩ := HN8.out.putG (by have := HK.out; have := HJN.out; omega) 59 Try.underlying59 hh 1 HHB.out (by omega)
          have e11 : ((1 : Nat) : Int) = 1 := rfl
          rw [e11] at hup hnv5
          have HNS := Lib.hid hnv5
          have HKK : Hid (kt ≤ j + 1 ∧ kg + 1 ≤ j + 1) := Lib.hid (by have := HK.out; omega)
          clear e11 hnv5 HN8
          go_upto_region 25 with fail
          clear hlk0 hup
          go_wp2_with (first | (at_range; refine wpList_range_own _ rfl _ 59 rfl 34 3 lawH Try.underlying59 _ bt _ _ rfl HNS.out.tm ?_; intro y0 hrg0 hg0 hs0) | go_in)
          try go_frame
          have HY0 := Lib.hid (HNS.out.below (below_of_grown hg0))
          have HMR := Lib.hid (Mine.late HNS.out.tv.on (below_of_grown hg0) (Nat.le_refl _) (by omega))
          have HRN : Hid (b0 ≤ x5.heap.size ∧ x5.heap.size ≠ bt ∧ x5.heap.size ≠ bg ∧ (v2).ownBlock ≠ some x5.heap.size) := Lib.hid ⟨HNS.out.o1.2.2.2.2.2, (Nat.ne_of_lt HNS.out.mt.lt).symm, (Nat.ne_of_lt HNS.out.mg.lt).symm, fun e => by
            have := (HNS.out.lv.ow.lt _ e).2
            omega⟩
          obtain ⟨rr, hrr⟩ : ∃ rr, x5.heap.size = rr := ⟨_, rfl⟩
          rw [hrr] at HMR HRN hrg0
          rw [hrr]
          clear hrr hg0 hs0
          go_loopw [] (fun wr => ∃ (left : Lit → Bool) (cnt : Nat), wr.ranges Try.prog 34 (plainElem Try.prog 3) bt rr kt Dt left cnt ∧ Hid (NvS C A b0 bt bg kt (kg + 1) m2 v2 (l.take dd ++ l.drop (dd + 1)) Dt (Dg.put (.int .u64 (hh : Int)) (.lit (.int .i64 1))) w wr) ∧ Hid (Mine A rr wr)) (fun wr => wr.rangeLeft bt rr)
          case atStart => exact ⟨_, _, hrg0, HY0, HMR⟩
          case round =>
            clear HY0 HMR hrg0
            obtain ⟨left, cnt, hrg, HNr, HMr⟩ := hrel
            go_wp2_with (first | (at_next; refine wpList_next_ranges_ii _ rfl _ rfl 34 3 .u64 .i64 lawH Try.underlying34 Try.underlying3 bt rr _ _ _ _ rfl hrg ?_ ?_) | go_in)
            · intro hc0 hl0
              have HNZ := Lib.hid HNr.out
              clear hrg HMr hl0 hc0
              obtain ⟨hjn, hlen80⟩ := HJN.out
              go_wp2_with fail
              go_roundw
              case rel => exact ⟨j + 1, _, _, _, _, _, _, _, by omega, by go_num, HKK, HPN, HNZ⟩
              case measure => simp [intOf]; omega
            · intro x c y1 cnt1 hwx hwc hlx hat hrg1 hlt hg1 hs1 hen
              have HN1 := Lib.hid (HNr.out.side HMr.out HRN.out.1 HRN.out.2.1 HRN.out.2.2.1 HRN.out.2.2.2 hg1)
              have HM1 := Lib.hid (Mine.mine HNr.out.tv.on HMr.out HMr.out hg1)
              obtain ⟨xh, hxb, rfl⟩ := wf_u64 hwx
              have HTQ : Hid (Tq n q2 xh) := Lib.hid (by
                by_cases ct : Tq n q2 xh
                · exact ct
                · have e1 := (HPN.out.tr xh (.lit (.int .i64 0))).2 ct
                  have e2 := (HPN.out.tr xh (.lit (.int .i64 1))).2 ct
                  rw [hat] at e1 e2
                  simp at e1 e2
                  omega)
              have HRE := Lib.hid hrg.left_eq
              have HRG := Lib.hid hrg1
              obtain ⟨c0, c1, c2⟩ := HN1.out.tv.all
              clear hrg hrg1 hwx hwc hlx hat hg1 hs1 HNr HMr
              by_cases hi : isH n q2 xh
              · have HGE := Lib.hid fun X (hX : On A (hS m2) X) => HGY.out m2 q2 HPN.out.hd xh hxb hi X hX
                have HLK := Lib.hid fun X (hX : NvS C A b0 bt bg kt (kg + 1) m2 v2 (l.take dd ++ l.drop (dd + 1)) Dt (Dg.put (.int .u64 (hh : Int)) (.lit (.int .i64 1))) w X) => map_look hX.gm 59 Try.underlying59 xh hxb 0 ((HPN.out.gr xh _).2 fun k => k.2 hi)
                obtain ⟨av, hav⟩ : ∃ av, (q2 (xh % 256)).1 = av := ⟨_, rfl⟩
                rw [hav] at HGE
                clear hav hi hxb
                go_wp2_with fail
                refine (HGE.out _ HN1.out.tv.on).mono ?_
                rintro e y2 ⟨rfl, hb⟩
                have HN2 := Lib.hid (HN1.out.below hb)
                have HM2 := Lib.hid (HM1.out.went (Went.of_below HN1.out.tv.on hb))
                have HR2 := Lib.hid (HRG.out.kept (row := none) ⟨hb.os, hb.tape, hb.output, hb.size, fun k hk _ => hb.block k hk⟩ (by simp) (by simp))
                have hlk := HLK.out _ HN2.out
                clear hb HN1 HM1 HRG HGE HLK c0 c1 c2
                go_wp2_with fail
                go_roundw
                case rel => exact ⟨_, _, HR2.out, HN2, HM2⟩
                case measure => rw [HR2.out.left_eq, HRE.out]; exact hlt
              · have HGE := Lib.hid fun X (hX : On A (hS m2) X) => HGN.out m2 q2 HPN.out.hd xh hxb hi X hX
                have HLK := Lib.hid fun X (hX : NvS C A b0 bt bg kt (kg + 1) m2 v2 (l.take dd ++ l.drop (dd + 1)) Dt (Dg.put (.int .u64 (hh : Int)) (.lit (.int .i64 1))) w X) => map_look hX.gm 59 Try.underlying59 xh hxb 1 ((HPN.out.gr xh _).1 ⟨HTQ.out, hi⟩)
                clear hi hxb
                go_wp2_with fail
                refine (HGE.out _ HN1.out.tv.on).mono ?_
                rintro e y2 ⟨rfl, hb⟩
                have HN2 := Lib.hid (HN1.out.below hb)
                have HM2 := Lib.hid (HM1.out.went (Went.of_below HN1.out.tv.on hb))
                have HR2 := Lib.hid (HRG.out.kept (row := none) ⟨hb.os, hb.tape, hb.output, hb.size, fun k hk _ => hb.block k hk⟩ (by simp) (by simp))
                have hlk := HLK.out _ HN2.out
                clear hb HN1 HM1 HRG HGE HLK c0 c1 c2
                go_wp2_with fail
                go_roundw
                case rel => exact ⟨_, _, HR2.out, HN2, HM2⟩
                case measure => rw [HR2.out.left_eq, HRE.out]; exact hlt

    · have hjn3 : ¬ ((j : Int) < (len : Int)) := by omega
      clear hj hjn
      obtain ⟨c0, c1, c2⟩ := HV.out.tv.all
      go_wp2_with fail
      refine (HAL.out m q HP.out.hd _ HV.out.tv.on).mono ?_
      rintro e x1 ⟨v, rfl, ⟨p2, cp2, rfl, _⟩, _, hb⟩
      have HV2 := Lib.hid (HV.out.below hb)
      rw [live_len HN2.out HP.out.hd.b HP.out.nd HP.out.me, HNL.out]
      clear hb HV c0 c1 c2
      go_wp2_with fail
      go_ret
      exact ⟨rfl, HV2.out.tv.bs.bel⟩
end Go.Proofs.Ytllghngjnhbmaaa.Bt
