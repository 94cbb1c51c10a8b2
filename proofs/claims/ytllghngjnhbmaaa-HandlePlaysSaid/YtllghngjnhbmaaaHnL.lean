/- HandlePlays. (Written by gen_hnl.py.) -/
import Derived.Test.YtllghngjnhbmaaaHnZ
import Derived.Test.YtllghngjnhbmaaaArClone
namespace Go.Proofs.Ytllghngjnhbmaaa.Bt
open Go Go.RowKit Go.Shelf
set_option linter.unusedVariables false
set_option linter.unusedSimpArgs false
/-- between two acts: the table in block C, the document's in block D -/
structure PlS (C A vs D n : Nat) (m : Nat → UInt8) (q : Nat → Nat × Nat) (w x : World) : Prop where
  v : TvS C A vs m w x
  r : SlB D n q x
section
variable {C A vs D D' n : Nat} {m m' : Nat → UInt8} {q q' : Nat → Nat × Nat} {w x z : World}
theorem PlS.below (h : PlS C A vs D n m q w x) (hb : Below x.heap.size x z) : PlS C A vs D n m q w z := ⟨h.v.below hb, h.r.below hb⟩
theorem PlS.went (h : PlS C A vs D n m q w x) (ho : On A (hS m') z) (hg : Went A x z) : PlS C A vs D n m' q w z :=
  ⟨h.v.went ho hg, hg.keep h.v.on (show x.heap[D]? = _ from h.r) (by decide) (by decide) (by decide)⟩
theorem PlS.row (h : PlS C A vs D n m q w x) (hb : Below x.heap.size x z) (hs : SlB D' n q' z) : PlS C A vs D' n m q' w z := ⟨h.v.below hb, hs⟩
end
theorem AcV.went {D A : Nat} {a : Act17} {s : ASt} {x z : World} (h : AcV D a x) (hx : On A s x) (hg : Went A x z) : AcV D a z := hg.keep hx (show x.heap[D]? = _ from h) (by decide) (by decide) (by decide)
theorem hclone {A : Nat} {s : ASt} {w : World} (h : On A s w) : Calls Try.prog 21 #[.pointer (some ⟨A, 0, none⟩)] w (ClonePost A s w) := by
  obtain ⟨P, ps, p, n, cap, h⟩ := h; exact clone_any h
set_option maxHeartbeats 16000000 in
set_option maxRecDepth 100000 in
theorem hplays (size : Int) (hsz : 0 ≤ size ∧ size ≤ 65535) (p0 : Option Addr) (c0' : Nat) (acts : List Act17) (hlen : acts.length ≤ 9223372036854775807) (w : World) (h : Acts17At w p0 acts) :
    Calls Try.prog 3 #[.int .u16 size, .slice p0 acts.length c0'] w fun e w' => e = .returned (.bool true) ∧ Below w.heap.size w w' := by
  have HACT := Lib.hid h
  obtain ⟨sz, rfl⟩ := Int.eq_ofNat_of_zero_le hsz.1
  obtain ⟨vs, hvs⟩ : ∃ vs, sz % 5001 = vs := ⟨_, rfl⟩
  have hv : vs ≤ 5000 := by rw [← hvs]; have := Nat.mod_lt sz (show 0 < 5001 by omega); omega
  have q1 : Int.tmod (sz : Int) 5001 = (vs : Int) := by rw [Int.tmod_eq_emod_of_nonneg (by omega), ← hvs]; rfl
  have q2 : IntKind.i64.wrap (sz : Int) = (sz : Int) := by rw [IntKind.wrap_i64]; omega
  have q3 : IntKind.i64.wrap (vs : Int) = (vs : Int) := by rw [IntKind.wrap_i64]; omega
  have q4 : (sz : Int) % 5001 = (vs : Int) := by rw [← hvs]; rfl
  have HQ := Lib.hid (And.intro q1 (And.intro q2 (And.intro q3 q4)))
  have HV := Lib.hid hv
  clear h q1 q2 q3 q4 hvs hv hsz
  go_enter Try.func3, Try.ntmps3
  go_wp2_with fail
  refine (awake17 _).mono ?_
  rintro e w0 ⟨rfl, hb⟩
  have HB0 := Lib.hid hb
  have HAC0 := Lib.hid (HACT.out.below hb)
  clear hb
  by_cases h80 : (80 : Int) < (acts.length : Int)
  · go_wp2_with fail
    go_ret
    exact ⟨rfl, HB0.out⟩
  obtain ⟨q1, q2, q3, q4⟩ := HQ.out
  go_wp2_with fail
  refine (open17 vs HV.out _).mono ?_
  rintro e w1 ⟨A, rfl, hx, hb⟩
  have HT0 := Lib.hid (TvS.start (vs := vs) hx (hb.rebase HB0.out))
  have HAC1 := Lib.hid ((HAC0.out.below hb.bel).below (bel1 w1 (.cells #[.pointer (some ⟨A, 0, none⟩), .int .i64 16, .int .i64 (vs : Int)] 29)))
  clear hx hb q1 q2 q3 q4 HAC0
  go_upto_region 7 with fail
  change Code.wp _ _ _ _ (w1.alloc (.cells #[.pointer (some ⟨A, 0, none⟩), .int .i64 16, .int .i64 (vs : Int)] 29))
  obtain ⟨y, hy⟩ : ∃ y, w1.alloc (.cells #[.pointer (some ⟨A, 0, none⟩), .int .i64 16, .int .i64 (vs : Int)] 29) = y := ⟨_, rfl⟩
  obtain ⟨C, hC⟩ : ∃ C, w1.heap.size = C := ⟨_, rfl⟩
  rw [hy] at HAC1
  rw [hy, hC] at HT0
  rw [hy, hC]
  clear hy hC
  obtain ⟨d, hd⟩ : ∃ d, vs / 16 = d := ⟨_, rfl⟩
  obtain ⟨n, hn⟩ : ∃ n, nS vs = n := ⟨_, rfl⟩
  have hmin : (if (256 : Int) < (d : Int) then (256 : Int) else (d : Int)) = (n : Int) := by rw [← hn]; unfold nS; rw [hd]; split <;> omega
  have hmin2 : (if (d : Int) < (256 : Int) then (d : Int) else (256 : Int)) = (n : Int) := by rw [← hn]; unfold nS; rw [hd]; split <;> omega
  have hn2 : n ≤ 256 := by rw [← hn]; exact Nat.min_le_right _ _
  have q1 : IntKind.i64.wrap ((vs : Int).tdiv 16) = (d : Int) := by have := HV.out; rw [Int.tdiv_eq_ediv_of_nonneg (by omega), IntWalk.i64_in _ (by omega)]; omega
  have q2 : (vs : Int).tdiv 16 = (d : Int) := by rw [Int.tdiv_eq_ediv_of_nonneg (by omega)]; omega
  have hd5 : d ≤ 5000 := by have := HV.out; omega
  have q3 : IntKind.i64.wrap (d : Int) = (d : Int) := by rw [IntKind.wrap_i64]; omega
  have q4 : wrap64 (d : Int) = (d : Int) := IntWalk.wrap64_in _ ⟨by omega, by omega⟩
  have q5 : (vs : Int) / 16 = (d : Int) := by omega
  have hmk := run_slots n (by omega) y
  have HN2 := Lib.hid hn2
  have hv := HV.out
  have HDR := Lib.hid fun m q (hd : Hd m n q) hh (hb : hh < 18446744073709551616) X (hX : On A (hS m) X) => hn ▸ hDrop hX hv (hn.symm ▸ hd) hh hb
  have HMO := Lib.hid fun m q (hd : Hd m n q) hh (hb : hh < 18446744073709551616) an (h1 : 1 ≤ an) (h2 : an < 9223372036854775808) X (hX : On A (hS m) X) => hn ▸ hMove hX hv (hn.symm ▸ hd) hh hb an h1 h2
  have HGY := Lib.hid fun m q (hd : Hd m n q) hh (hb : hh < 18446744073709551616) (hi : isH n q hh) X (hX : On A (hS m) X) => hGet_yes (q := q) hX hv (hn.symm ▸ hd) hh hb (hn.symm ▸ hi)
  have HGN := Lib.hid fun m q (hd : Hd m n q) hh (hb : hh < 18446744073709551616) (hi : ¬ isH n q hh) X (hX : On A (hS m) X) => hGet_no (q := q) hX hv (hn.symm ▸ hd) hh hb (hn.symm ▸ hi)
  have HNX := Lib.hid fun m q (hd : Hd m n q) X (hX : On A (hS m) X) => hn ▸ hNext hX hv (hn.symm ▸ hd)
  have HNE := Lib.hid fun m q (hd : Hd m n q) a (ha : a ≤ 9223372036854775807) X (hX : On A (hS m) X) => hn ▸ hNew hX hv (hn.symm ▸ hd) a ha
  have HTO := Lib.hid fun m q D (hd : Hd m n q) X (hX : On A (hS m) X) (hr : SlB D n q X) => told_ok hn hX hv hd hr
  have HTO2 := Lib.hid fun A2 m q D (hd : Hd m n q) X (hX : On A2 (hS m) X) (hr : SlB D n q X) => told_ok hn hX hv hd hr
  have HSD := Lib.hid fun q (hq : ∀ i, (q i).1 < 9223372036854775808 ∧ (q i).2 < 72057594037927936) hh X N (hr : SlB N n q X) => sDrop hn2 hq hh hr
  have HSMO := Lib.hid fun q (hq : ∀ i, (q i).1 < 9223372036854775808 ∧ (q i).2 < 72057594037927936) hh an (h1 : 1 ≤ an) X N (hr : SlB N n q X) => sMove hn2 hq hh an h1 hr
  have HSGE := Lib.hid fun q (hq : ∀ i, (q i).1 < 9223372036854775808 ∧ (q i).2 < 72057594037927936) hh X N (hr : SlB N n q X) => sGet hn2 hq hh hr
  have HSN := Lib.hid fun q (hq : ∀ i, (q i).1 < 9223372036854775808 ∧ (q i).2 < 72057594037927936) a X N (hr : SlB N n q X) => sNew N n hn2 q hq a X hr
  have HNA := Lib.hid fun q (hq : ∀ i, (q i).1 < 9223372036854775808 ∧ (q i).2 < 72057594037927936) X N (hr : SlB N n q X) a (hok : Act17.ok a) => name_any hn2 hq hr a hok
  have HP0 : Hid (PlS C A vs y.heap.size n (fun _ => 0) q00 w (y.alloc (.cells (slC n q00) 72))) := Lib.hid ⟨HT0.out.below (bel1 _ _), heap_new _ _⟩
  have HAC2 := Lib.hid (HAC1.out.below (bel1 y (.cells (slC n q00) 72)))
  clear hn hd hn2 hd5 hv HAC1 HT0
  go_upto_region 10 with fail
  change Code.wp _ _ _ _ (y.alloc (.cells (slC n q00) 72))
  obtain ⟨y2, hy2⟩ : ∃ y2, y.alloc (.cells (slC n q00) 72) = y2 := ⟨_, rfl⟩
  obtain ⟨D0, hD0⟩ : ∃ D, y.heap.size = D := ⟨_, rfl⟩
  rw [hy2, hD0] at HP0
  rw [hy2] at HAC2
  rw [hy2, hD0]
  clear hy2 hD0 hmk hmin hmin2 q1 q2 q3 q4 q5
  obtain ⟨len, hl⟩ : ∃ len, acts.length = len := ⟨_, rfl⟩
  have HL := Lib.hid hl
  have HL80 : Hid (len ≤ 80) := Lib.hid (by omega)
  rw [hl]
  clear hl hlen h80
  have HD0 : Hid (Hd (fun _ => 0) n q00) := Lib.hid (hd_new n)
  have HY := Lib.hid (Below.refl y2.heap.size y2)
  go_wp2_with fail
  go_loopw [9, 53] (fun s9 s53 wr => ∃ (j D : Nat) (m : Nat → UInt8) (q : Nat → Nat × Nat), j ≤ len ∧ s9 = .slice (some ⟨D, 0, none⟩) n n ∧ s53 = .int .i64 (j : Int) ∧ Hid (Hd m n q) ∧ Hid (PlS C A vs D n m q w wr)) (fun _ s53 _ => len - (intOf s53).toNat)
  case atStart => exact ⟨0, D0, _, _, Nat.zero_le _, rfl, rfl, HD0, HP0⟩
  case round =>
    obtain ⟨j, D, m, q, hj, rfl, rfl, HDM, HP⟩ := hrel
    by_cases hjn : j < len
    · have hjn2 : (j : Int) < (len : Int) := by omega
      have hj0 : (0 : Int) ≤ (j : Int) := by omega
      have hjL : j < acts.length := by rw [HL.out]; exact hjn
      have HJN := Lib.hid (And.intro hjn HL80.out)
      have HQB := Lib.hid HDM.out.b
      rcases HACT.out.below HP.out.v.bs.bel with e | ⟨b, off, rfl, hbl, hc⟩
      · rw [e] at hjL; simp at hjL
      obtain ⟨⟨k0, k1, k2, k3, k4⟩, hok⟩ := hc j hjL
      obtain ⟨a, ha⟩ : ∃ a, acts[j] = a := ⟨_, rfl⟩
      rw [ha] at k0 k1 k2 k3 k4 hok
      have HOK := Lib.hid hok
      have HA0 : Hid (AcV wr.heap.size a (wr.alloc (.cells (acC a) 36)) ∧ PlS C A vs D n m q w (wr.alloc (.cells (acC a) 36))) := Lib.hid ⟨heap_new _ _, HP.out.below (bel1 _ _)⟩
      clear hc hbl hjL ha hok hj hjn HP
      go_upto_region 13 with fail
      change Code.wp _ _ _ _ (wr.alloc (.cells (acC a) 36))
      obtain ⟨y3, hy3⟩ : ∃ y, wr.alloc (.cells (acC a) 36) = y := ⟨_, rfl⟩
      obtain ⟨F, hF⟩ : ∃ F, wr.heap.size = F := ⟨_, rfl⟩
      rw [hy3, hF] at HA0
      rw [hy3, hF]
      clear hy3 hF k0 k1 k2 k3 k4
      obtain ⟨d0, d1, d2, d3, d4⟩ := HA0.out.1.all
      go_wp2_with fail
      refine (HNA.out q HQB.out _ D HA0.out.2.r a HOK.out).mono ?_
      rintro e x0 ⟨hh, hh64, rfl, hb⟩
      have HAC1 := Lib.hid (HA0.out.1.below hb)
      have HP1 := Lib.hid (HA0.out.2.below hb)
      clear hb HA0 d0 d1 d2 d3 d4
      obtain ⟨d0, d1, d2, d3, d4⟩ := HAC1.out.all
      obtain ⟨dv, hdv⟩ : ∃ dv, a.d = dv := ⟨_, rfl⟩
      obtain ⟨an, han⟩ : ∃ an, a.a = an := ⟨_, rfl⟩
      have hdb := HOK.out.dB
      have hab := HOK.out.aB
      have HAN := Lib.hid han
      rw [hdv] at hdb d0
      rw [han] at hab d2
      obtain ⟨rk, hrk⟩ : ∃ rk, Int.tmod dv 6 = rk := ⟨_, rfl⟩
      have hrb : 0 ≤ rk ∧ rk < 6 := by rw [← hrk, Int.tmod_eq_emod_of_nonneg hdb.1]; omega
      have hrw : IntKind.u8.wrap rk = rk := by rw [IntKind.wrap_u8]; omega
      clear hdv han hdb
      by_cases r3 : rk = 3
      · subst r3
        clear hrb
        obtain ⟨c0, c1, c2⟩ := HP1.out.v.all
        go_wp2_with fail
        refine (HDR.out m q HDM.out hh hh64 _ HP1.out.v.on).mono ?_
        rintro e x1 ⟨m2, q2, er, rfl, ho, hd2, hg, hc⟩
        have HAC2 := Lib.hid (HAC1.out.went HP1.out.v.on hg)
        have HP2 := Lib.hid (HP1.out.went ho hg)
        have HD2 := Lib.hid hd2
        have HC2 := Lib.hid (show AltT n hh 0 q q2 er from hc)
        clear ho hd2 hg hc HP1 c0 c1 c2 d0 d1 d2 d3 d4
        go_wp2_with fail
        refine (HSD.out q HQB.out hh _ D HP2.out.r).mono ?_
        rintro e x2 ⟨D2, q3, er2, rfl, hs3, hb, hc⟩
        obtain ⟨rfl, rfl⟩ := HC2.out.one hc
        have HP3 := Lib.hid (HP2.out.row hb hs3)
        clear hs3 hb hc HP2 HC2
        have HTD := Lib.hid (HTO.out m2 q2 D2 HD2.out _ HP3.out.v.on HP3.out.r)
        obtain ⟨c0, c1, c2⟩ := HP3.out.v.all
        go_wp2_with fail
        refine HTD.out.mono ?_
        rintro e x3 ⟨rfl, hb⟩
        have HPE := Lib.hid (HP3.out.below hb)
        have HDE := Lib.hid HD2.out
        clear hb HP3 HTD c0 c1 c2
        obtain ⟨hjn, hlen80⟩ := HJN.out
        go_wp2_with fail
        go_roundw
        case rel => exact ⟨j + 1, _, _, _, by omega, rfl, by go_num, HDE, HPE⟩
        case measure => simp [intOf]; omega

      · by_cases r4 : rk = 4
        · subst r4
          clear hrb
          by_cases ha1 : an < 1
          · have HMA := Lib.hid fun X (hX : On A (hS m) X) => hMove_arg (vs := vs) hX (hh : Int) an ha1
            have HSM := Lib.hid fun X (hX : SlB D n q X) => sMove_arg hX (hh : Int) an ha1
            obtain ⟨c0, c1, c2⟩ := HP1.out.v.all
            go_wp2_with fail
            refine (HMA.out _ HP1.out.v.on).mono ?_
            rintro e x1 ⟨rfl, ho, hg⟩
            have HAC2 := Lib.hid (HAC1.out.went HP1.out.v.on hg)
            have HP2 := Lib.hid (HP1.out.went ho hg)
            clear ho hg HP1 c0 c1 c2 d0 d1 d2 d3 d4 HMA
            obtain ⟨d0, d1, d2, d3, d4⟩ := HAC2.out.all
            rw [HAN.out] at d2
            go_wp2_with fail
            refine (HSM.out _ HP2.out.r).mono ?_
            rintro e x2 ⟨rfl, hb⟩
            have HP3 := Lib.hid (HP2.out.row hb (HP2.out.r.below hb))
            clear hb HP2 HSM d0 d1 d2 d3 d4 ha1
            have HTD := Lib.hid (HTO.out m q D HDM.out _ HP3.out.v.on HP3.out.r)
            obtain ⟨c0, c1, c2⟩ := HP3.out.v.all
            go_wp2_with fail
            refine HTD.out.mono ?_
            rintro e x3 ⟨rfl, hb⟩
            have HPE := Lib.hid (HP3.out.below hb)
            have HDE := Lib.hid HDM.out
            clear hb HP3 HTD c0 c1 c2
            obtain ⟨hjn, hlen80⟩ := HJN.out
            go_wp2_with fail
            go_roundw
            case rel => exact ⟨j + 1, _, _, _, by omega, rfl, by go_num, HDE, HPE⟩
            case measure => simp [intOf]; omega

          · obtain ⟨ak, rfl⟩ := Int.eq_ofNat_of_zero_le (show 0 ≤ an by omega)
            have hk1 : 1 ≤ ak := by omega
            have hk2 : ak < 9223372036854775808 := by omega
            have HMV := Lib.hid fun X (hX : On A (hS m) X) => HMO.out m q HDM.out hh hh64 ak hk1 hk2 X hX
            have HSM := Lib.hid fun X (hX : SlB D n q X) => HSMO.out q HQB.out hh ak hk1 X D hX
            clear ha1 hk1 hk2 hab
            obtain ⟨c0, c1, c2⟩ := HP1.out.v.all
            go_wp2_with fail
            refine (HMV.out _ HP1.out.v.on).mono ?_
            rintro e x1 ⟨m2, q2, er, rfl, ho, hd2, hg, hc⟩
            have HAC2 := Lib.hid (HAC1.out.went HP1.out.v.on hg)
            have HP2 := Lib.hid (HP1.out.went ho hg)
            have HD2 := Lib.hid hd2
            have HC2 := Lib.hid (show AltT n hh ak q q2 er from hc)
            clear ho hd2 hg hc HP1 c0 c1 c2 d0 d1 d2 d3 d4 HMV
            obtain ⟨d0, d1, d2, d3, d4⟩ := HAC2.out.all
            rw [HAN.out] at d2
            go_wp2_with fail
            refine (HSM.out _ HP2.out.r).mono ?_
            rintro e x2 ⟨D2, q3, er2, rfl, hs3, hb, hc⟩
            obtain ⟨rfl, rfl⟩ := HC2.out.one hc
            have HP3 := Lib.hid (HP2.out.row hb hs3)
            clear hs3 hb hc HP2 HC2 HSM d0 d1 d2 d3 d4
            have HTD := Lib.hid (HTO.out m2 q2 D2 HD2.out _ HP3.out.v.on HP3.out.r)
            obtain ⟨c0, c1, c2⟩ := HP3.out.v.all
            go_wp2_with fail
            refine HTD.out.mono ?_
            rintro e x3 ⟨rfl, hb⟩
            have HPE := Lib.hid (HP3.out.below hb)
            have HDE := Lib.hid HD2.out
            clear hb HP3 HTD c0 c1 c2
            obtain ⟨hjn, hlen80⟩ := HJN.out
            go_wp2_with fail
            go_roundw
            case rel => exact ⟨j + 1, _, _, _, by omega, rfl, by go_num, HDE, HPE⟩
            case measure => simp [intOf]; omega

        · by_cases r5 : rk = 5
          · subst r5
            clear hrb
            by_cases hi : isH n q hh
            · have HGE := Lib.hid fun X (hX : On A (hS m) X) => HGY.out m q HDM.out hh hh64 hi X hX
              have HSG : Hid (∀ X, SlB D n q X → Calls Try.prog 15 #[.slice (some ⟨D, 0, none⟩) n n, .int .u64 (hh : Int)] X (Gives (.tuple #[.int .i64 ((q (hh % 256)).1 : Int), .int .i64 0]) X)) := Lib.hid fun X hX => by
                refine (HSGE.out q HQB.out hh X D hX).mono ?_
                rintro e x1 ⟨⟨_, rfl⟩ | ⟨hno, _⟩, hb⟩
                rotate_left
                · exact absurd hi hno
                exact ⟨rfl, hb⟩
              obtain ⟨x, hx⟩ : ∃ x, (q (hh % 256)).1 = x := ⟨_, rfl⟩
              rw [hx] at HGE HSG
              clear hi
              obtain ⟨c0, c1, c2⟩ := HP1.out.v.all
              go_wp2_with fail
              refine (HGE.out _ HP1.out.v.on).mono ?_
              rintro e x1 ⟨rfl, hb⟩
              have HP2 := Lib.hid (HP1.out.below hb)
              clear hb HP1 c0 c1 c2 d0 d1 d2 d3 d4 HGE
              go_wp2_with fail
              refine (HSG.out _ HP2.out.r).mono ?_
              rintro e x2 ⟨rfl, hb⟩
              have HP3 := Lib.hid (HP2.out.below hb)
              clear hb HP2 HSG
              have HTD := Lib.hid (HTO.out m q D HDM.out _ HP3.out.v.on HP3.out.r)
              obtain ⟨c0, c1, c2⟩ := HP3.out.v.all
              go_wp2_with fail
              refine HTD.out.mono ?_
              rintro e x3 ⟨rfl, hb⟩
              have HPE := Lib.hid (HP3.out.below hb)
              have HDE := Lib.hid HDM.out
              clear hb HP3 HTD c0 c1 c2
              obtain ⟨hjn, hlen80⟩ := HJN.out
              go_wp2_with fail
              go_roundw
              case rel => exact ⟨j + 1, _, _, _, by omega, rfl, by go_num, HDE, HPE⟩
              case measure => simp [intOf]; omega

            · have HGE := Lib.hid fun X (hX : On A (hS m) X) => HGN.out m q HDM.out hh hh64 hi X hX
              have HSG : Hid (∀ X, SlB D n q X → Calls Try.prog 15 #[.slice (some ⟨D, 0, none⟩) n n, .int .u64 (hh : Int)] X (Gives (.tuple #[.int .i64 0, .int .i64 6]) X)) := Lib.hid fun X hX => by
                refine (HSGE.out q HQB.out hh X D hX).mono ?_
                rintro e x1 ⟨⟨hno, _⟩ | ⟨_, rfl⟩, hb⟩
                · exact absurd hno hi
                exact ⟨rfl, hb⟩
              clear hi
              obtain ⟨c0, c1, c2⟩ := HP1.out.v.all
              go_wp2_with fail
              refine (HGE.out _ HP1.out.v.on).mono ?_
              rintro e x1 ⟨rfl, hb⟩
              have HP2 := Lib.hid (HP1.out.below hb)
              clear hb HP1 c0 c1 c2 d0 d1 d2 d3 d4 HGE
              go_wp2_with fail
              refine (HSG.out _ HP2.out.r).mono ?_
              rintro e x2 ⟨rfl, hb⟩
              have HP3 := Lib.hid (HP2.out.below hb)
              clear hb HP2 HSG
              have HTD := Lib.hid (HTO.out m q D HDM.out _ HP3.out.v.on HP3.out.r)
              obtain ⟨c0, c1, c2⟩ := HP3.out.v.all
              go_wp2_with fail
              refine HTD.out.mono ?_
              rintro e x3 ⟨rfl, hb⟩
              have HPE := Lib.hid (HP3.out.below hb)
              have HDE := Lib.hid HDM.out
              clear hb HP3 HTD c0 c1 c2
              obtain ⟨hjn, hlen80⟩ := HJN.out
              go_wp2_with fail
              go_roundw
              case rel => exact ⟨j + 1, _, _, _, by omega, rfl, by go_num, HDE, HPE⟩
              case measure => simp [intOf]; omega

          · clear hrb
            have HNT := Lib.hid fun X (hX : On A (hS m) X) => HNX.out m q HDM.out X hX
            have HNW := Lib.hid fun X (hX : On A (hS m) X) => HNE.out m q HDM.out an hab.2 X hX
            obtain ⟨c0, c1, c2⟩ := HP1.out.v.all
            clear hab
            go_wp2_with fail
            refine (HNT.out _ HP1.out.v.on).mono ?_
            rintro e x1 ⟨hnt, hb⟩
            obtain ⟨h1, e1, rfl, HA1⟩ : ∃ h1 e1 : Int, e = .returned (.tuple #[.int .u64 h1, .int .i64 e1]) ∧ Hid (∀ q2 h2 e2, AltN n 1 q q2 h2 e2 → h1 = h2 ∧ e1 = e2) := by
              rcases hnt with ⟨i, hi, hf, hk, rfl⟩ | ⟨hk, rfl⟩
              · refine ⟨_, _, rfl, Lib.hid ?_⟩
                rintro q2 h2 e2 (⟨c, _⟩ | ⟨_, c, _⟩ | ⟨_, i2, hi2, hf2, hk2, _, rfl, rfl⟩)
                · exact absurd c (by decide)
                · exact absurd hf (c i hi)
                · have : i = i2 := by
                    rcases Nat.lt_trichotomy i i2 with c | c | c
                    · exact absurd hf (hk2 i c)
                    · exact c
                    · exact absurd hf2 (hk i2 c)
                  subst this
                  exact ⟨rfl, rfl⟩
              · refine ⟨_, _, rfl, Lib.hid ?_⟩
                rintro q2 h2 e2 (⟨c, _⟩ | ⟨_, c, _, rfl, rfl⟩ | ⟨_, i2, hi2, hf2, _⟩)
                · exact absurd c (by decide)
                · exact ⟨rfl, rfl⟩
                · exact absurd hf2 (hk i2 hi2)
            have HP2 := Lib.hid (HP1.out.below hb)
            have HAC2 := Lib.hid (HAC1.out.below hb)
            clear hnt hb HP1 c0 c1 c2 d0 d1 d2 d3 d4 HNT
            go_wp2_with fail
            refine (HSN.out q HQB.out 1 _ D HP2.out.r).mono ?_
            rintro e x2 ⟨D1, q1, h2, e2, rfl, _, hb, hc⟩
            obtain ⟨rfl, rfl⟩ := HA1.out _ _ _ hc
            have HP3 := Lib.hid (HP2.out.below hb)
            have HAC3 := Lib.hid (HAC2.out.below hb)
            clear hb hc HP2 HAC2 HA1
            obtain ⟨c0, c1, c2⟩ := HP3.out.v.all
            obtain ⟨d0, d1, d2, d3, d4⟩ := HAC3.out.all
            rw [HAN.out] at d2
            go_wp2_with fail
            refine (HNW.out _ HP3.out.v.on).mono ?_
            rintro e x3 ⟨m2, q2, h3, e3, rfl, ho, hd2, hg, hc⟩
            have HAC4 := Lib.hid (HAC3.out.went HP3.out.v.on hg)
            have HP4 := Lib.hid (HP3.out.went ho hg)
            have HD2 := Lib.hid hd2
            have HC2 := Lib.hid (show AltN n an q q2 h3 e3 from hc)
            clear ho hd2 hg hc HP3 HAC3 c0 c1 c2 d0 d1 d2 d3 d4 HNW
            obtain ⟨d0, d1, d2, d3, d4⟩ := HAC4.out.all
            rw [HAN.out] at d2
            go_wp2_with fail
            refine (HSN.out q HQB.out an _ D HP4.out.r).mono ?_
            rintro e x4 ⟨D2, q3, h4, e4, rfl, hs3, hb, hc⟩
            obtain ⟨rfl, rfl, rfl⟩ := HC2.out.one hc
            have HP5 := Lib.hid (HP4.out.row hb hs3)
            clear hs3 hb hc HP4 HAC4 HC2 d0 d1 d2 d3 d4
            have HTD := Lib.hid (HTO.out m2 q2 D2 HD2.out _ HP5.out.v.on HP5.out.r)
            obtain ⟨c0, c1, c2⟩ := HP5.out.v.all
            go_wp2_with fail
            refine HTD.out.mono ?_
            rintro e x5 ⟨rfl, hb⟩
            have HPE := Lib.hid (HP5.out.below hb)
            have HDE := Lib.hid HD2.out
            clear hb HP5 HTD c0 c1 c2
            obtain ⟨hjn, hlen80⟩ := HJN.out
            go_wp2_with fail
            go_roundw
            case rel => exact ⟨j + 1, _, _, _, by omega, rfl, by go_num, HDE, HPE⟩
            case measure => simp [intOf]; omega

    · have hjn3 : ¬ ((j : Int) < (len : Int)) := by omega
      clear hj hjn
      go_wp2_with fail
      refine (hclone HP.out.v.on).mono ?_
      rintro e x1 ⟨A2, rfl, ho2, hb, _, _, _⟩
      have HP2 := Lib.hid (And.intro (HP.out.below hb) ho2)
      have HOF : Hid (∀ X, On A2 (hS m) X → Calls Try.prog 20 #[.pointer (some ⟨A2, 0, none⟩), .int .i64 16, .int .i64 (vs : Int)] X (Gives (.tuple #[vwV A2 16 vs, .int .i64 0]) X)) := Lib.hid fun X hX => by
        have hv := HV.out
        have := on_of hX 16 (vs : Int) (by omega)
        rw [hS_there (by omega) (by omega) (by omega), ofV_ok] at this
        exact this
      clear ho2 hb HP
      go_wp2_with fail
      refine (HOF.out _ HP2.out.2).mono ?_
      rintro e x2 ⟨rfl, hb⟩
      have HP3 : Hid ((PlS C A vs D n m q w (x2.alloc (.cells #[.pointer (some ⟨A2, 0, none⟩), .int .i64 16, .int .i64 (vs : Int)] 27)) ∧ On A2 (hS m) (x2.alloc (.cells #[.pointer (some ⟨A2, 0, none⟩), .int .i64 16, .int .i64 (vs : Int)] 27))) ∧ (x2.alloc (.cells #[.pointer (some ⟨A2, 0, none⟩), .int .i64 16, .int .i64 (vs : Int)] 27)).heap[x2.heap.size]? = some (.cells #[.pointer (some ⟨A2, 0, none⟩), .int .i64 16, .int .i64 (vs : Int)] 27 (0, 0))) := Lib.hid ⟨⟨(HP2.out.1.below hb).below (bel1 _ _), (HP2.out.2.below hb).below (bel1 _ _)⟩, heap_new _ _⟩
      clear hb HP2
      go_upto_region 40 with fail
      change Code.wp _ _ _ _ (x2.alloc (.cells #[.pointer (some ⟨A2, 0, none⟩), .int .i64 16, .int .i64 (vs : Int)] 27))
      obtain ⟨x3, hx3⟩ : ∃ y, x2.alloc (.cells #[.pointer (some ⟨A2, 0, none⟩), .int .i64 16, .int .i64 (vs : Int)] 27) = y := ⟨_, rfl⟩
      obtain ⟨F, hF⟩ : ∃ F, x2.heap.size = F := ⟨_, rfl⟩
      rw [hx3, hF] at HP3
      rw [hx3, hF]
      clear hx3 hF
      have c0 := (cell_blk HP3.out.2 0).1; have c1 := (cell_blk HP3.out.2 1).1; have c2 := (cell_blk HP3.out.2 2).1
      go_wp2_with fail
      refine (hopen (some ⟨A2, 0, none⟩) 16 vs _).mono ?_
      rintro e x4 ⟨rfl, hb⟩
      have HP4 := Lib.hid (And.intro (HP3.out.1.1.below hb) (HP3.out.1.2.below hb))
      clear hb HP3 c0 c1 c2
      go_wp2_with fail
      refine (HTO2.out A2 m q D HDM.out _ HP4.out.2 HP4.out.1.r).mono ?_
      rintro e x5 ⟨rfl, hb⟩
      have HP5 := Lib.hid (HP4.out.1.below hb)
      clear hb HP4
      go_wp2_with fail
      go_ret
      exact ⟨rfl, HP5.out.v.bs.bel⟩
end Go.Proofs.Ytllghngjnhbmaaa.Bt
