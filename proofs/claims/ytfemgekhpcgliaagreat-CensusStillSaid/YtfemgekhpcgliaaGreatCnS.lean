import Derived.Test.YtfemgekhpcgliaaGreatCmJ
/- CensusStill. (Written by gen_cns.py.) -/
namespace Go.Proofs.YtfemgekhpcgliaaGreat.Bt
open Go Go.RowKit Go.Shelf
set_option linter.unusedVariables false
set_option linter.unusedSimpArgs false
/-- a buddy, a clone of its arena, and the runs that it had -/
structure PU (A B A2 n : Nat) (s : ASt) (L : List (Nat × Nat × Bool)) (u2 : Option Addr) (w0 x : World) : Prop where
  bv : BV B A n s x
  on2 : On A2 s x
  rn : RnAt x u2 L
  bs : Base A w0 x
theorem PU.below {A B A2 n : Nat} {s : ASt} {L : List (Nat × Nat × Bool)} {u2 : Option Addr} {w0 x z : World} (h : PU A B A2 n s L u2 w0 x) (hb : Below x.heap.size x z) : PU A B A2 n s L u2 w0 z :=
  ⟨h.bv.below hb, h.on2.below hb, h.rn.below hb, h.bs.below h.bv.1 hb⟩
theorem can_one {A B n g : Nat} {R : Runs} {s : ASt} (order : Int) (hB : Bud (n + 1) g g R g s) :
    ∃ cb, ∀ X, BV B A n s X → Calls Tryz.prog 26 #[bdyP B, .int .i64 order] X (Gives (.bool cb) X) := by
  by_cases h : order < 0 ∨ 10 < order
  · exact ⟨false, fun X _ => ccan_out B X order h⟩
  · obtain ⟨k, rfl⟩ := Int.eq_ofNat_of_zero_le (show 0 ≤ order by omega)
    exact ⟨canB n g k R, fun X hX => ccan hX hB k (by omega)⟩
set_option maxHeartbeats 16000000 in
set_option maxRecDepth 100000 in
theorem still9 (cap : Int) (p0 : Option Addr) (c0 : Nat) (acts : List Act8) (hlen : acts.length ≤ 9223372036854775807) (order st : Int) (hst : 0 ≤ st ∧ st ≤ 255) (w : World) (h : Acts8At w p0 acts) :
    Calls Tryz.prog 7 #[.int .i64 cap, .slice p0 acts.length c0, .int .i64 order, .int .u8 st] w fun e w' => e = .returned (.bool true) ∧ Below w.heap.size w w' := by
  have HACT := Lib.hid h
  clear h
  go_enter Tryz.func7, Tryz.ntmps7
  go_wp2_with fail
  refine (awake9 _).mono ?_
  rintro e w0 ⟨rfl, hb⟩
  have HB0 := Lib.hid hb
  have HAC0 := Lib.hid (HACT.out.below hb)
  clear hb
  by_cases h60 : (60 : Int) < (acts.length : Int)
  · go_wp2_with fail
    go_ret
    exact ⟨rfl, HB0.out⟩
  have HPL := Lib.hid (play9 cap p0 c0 acts (by omega) _ HAC0.out)
  go_wp2_with fail
  refine HPL.out.mono ?_
  rintro e w1 (⟨rfl, hb⟩ | ⟨n, A, B, g, R, s, u, tc, rfl, hdp, hbs⟩)
  · have hb2 := HB0.out.trans (hb.mono HB0.out.size)
    have HB2 := Lib.hid (hb2.alloc hb2.size (.cells (bqA 0 0 0 0 (.slice none 0 0)) 33))
    clear hb hb2 HPL
    go_wp2_with fail
    go_ret
    exact ⟨rfl, HB2.out⟩
  obtain ⟨m, hm⟩ : ∃ m, (tkT R g).length = m := ⟨_, rfl⟩
  rw [hm]
  have hz := hdp.bu.sz hdp.bv.2.1
  have HPE1 : Hid (PW A B n s w (w1.alloc (.cells (bqA 1 (n : Int) (g : Int) (rfI s) (.slice u m tc)) 33))) := Lib.hid (PW.below ⟨hdp.bv, hbs.rebase HB0.out⟩ (bel1 w1 _))
  have HN80 := Lib.hid hz.2.1
  have HRU := Lib.hid fun X (hX : BV B A n s X) => bRuns_any hX hdp.bu
  have HST := Lib.hid fun X (hX : BV B A n s X) => cstates hX hdp.bu
  have HCO := Lib.hid fun X (hX : BV B A n s X) => ccount hX hdp.bu st hst
  have HLG := Lib.hid fun X (hX : BV B A n s X) => clargest hX hdp.bu
  have HRI := Lib.hid fun X (hX : BV B A n s X) => cright hX hdp.bu
  obtain ⟨cb, hcb⟩ := can_one (A := A) (B := B) order hdp.bu
  have HCA := Lib.hid hcb
  have hLn := hdp.bv.2.1
  have HCP : Hid (∀ X, BV B A n s X → Calls Tryz.prog 35 #[.pointer (some ⟨A, 0, none⟩)] X fun e w' => e = .returned (.int .i64 ((n : Int) + 1)) ∧ X = w') := Lib.hid fun X hX => by
    have e : ((n : Int) + 1) = ((s.L : Nat) : Int) := by rw [hLn]; push_cast; rfl
    rw [e]; exact on_cap8 hX.1
  have HRL : Hid ((adL (runL R g)).length ≤ 2000) := Lib.hid (by rw [adL_len]; have := runL_len R g; omega)
  clear hdp hbs hm hz hcb hLn HPL HAC0 HACT
  go_upto_region 6 with fail
  change Code.wp _ _ _ _ (w1.alloc (.cells (bqA 1 (n : Int) (g : Int) (rfI s) (.slice u m tc)) 33))
  obtain ⟨w2, hw2⟩ : ∃ y, w1.alloc (.cells (bqA 1 (n : Int) (g : Int) (rfI s) (.slice u m tc)) 33) = y := ⟨_, rfl⟩
  rw [hw2] at HPE1 ⊢
  clear hw2
  obtain ⟨b0, _⟩ := HPE1.out.bv.all
  go_wp2_with fail
  refine (on_aclone8 HPE1.out.bv.1).mono ?_
  rintro e w3 ⟨A2, rfl, ho2, hb, _, _, _⟩
  have HPE3 := Lib.hid (And.intro (HPE1.out.below hb) ho2)
  clear ho2 hb HPE1 b0
  go_wp2_with fail
  refine (HRU.out _ HPE3.out.1.bv).mono ?_
  rintro e w4 ⟨u2, cap2, rfl, hru, huf, hb⟩
  have HPU4 : Hid (PU A B A2 n s (adL (runL R g)) u2 w w4) := Lib.hid ⟨HPE3.out.1.bv.below hb, HPE3.out.2.below hb, hru, HPE3.out.1.bs.below HPE3.out.1.bv.1 hb⟩
  clear hru huf hb HPE3
  obtain ⟨L, hL⟩ : ∃ L, adL (runL R g) = L := ⟨_, rfl⟩
  have HLR := Lib.hid hL
  rw [hL] at HPU4 HRL ⊢
  clear hL
  obtain ⟨nl, hnl⟩ : ∃ nl, L.length = nl := ⟨_, rfl⟩
  have HNL := Lib.hid hnl
  rw [hnl]
  clear hnl
  go_wp2_with fail
  refine (HST.out _ HPU4.out.bv).mono ?_
  rintro e w5 ⟨D, rfl, hd, hD, hb⟩
  have HPU5 := Lib.hid (HPU4.out.below hb)
  clear hb hd hD HPU4
  go_wp2_with fail
  refine (HCO.out _ HPU5.out.bv).mono ?_
  rintro e w6 ⟨rfl, hb⟩
  have HPU6 := Lib.hid (HPU5.out.below hb)
  clear hb HPU5
  go_wp2_with fail
  refine (HLG.out _ HPU6.out.bv).mono ?_
  rintro e w7 ⟨rfl, hb⟩
  have HPU7 := Lib.hid (HPU6.out.below hb)
  clear hb HPU6
  unfold lgV
  go_wp2_with fail
  refine (HCA.out _ HPU7.out.bv).mono ?_
  rintro e w8 ⟨rfl, hb⟩
  have HPU8 := Lib.hid (HPU7.out.below hb)
  clear hb HPU7
  go_wp2_with fail
  refine (HRI.out _ HPU8.out.bv).mono ?_
  rintro e w9 ⟨rfl, hb⟩
  have HPU9 := Lib.hid (HPU8.out.below hb)
  clear hb HPU8
  obtain ⟨b0, _⟩ := HPU9.out.bv.all
  go_wp2_with fail
  refine (HCP.out _ HPU9.out.bv).mono ?_
  rintro e w10 ⟨rfl, rfl⟩
  clear b0
  go_wp2_with fail
  go_loopw [57] (fun s57 wr => ∃ j : Nat, j ≤ n + 1 ∧ s57 = .int .i64 (j : Int) ∧ Hid (PU A B A2 n s L u2 w wr)) (fun s57 _ => n + 1 - (intOf s57).toNat)
  case atStart => exact ⟨0, Nat.zero_le _, rfl, HPU9⟩
  case round =>
    clear HPU9
    obtain ⟨j, hj, rfl, HPX⟩ := hrel
    by_cases hjn : j < n + 1
    · have hjn2 : (j : Int) < (n : Int) + 1 := by omega
      have hn80 := HN80.out
      have hwm : IntKind.i64.wrap ((j : Int) * 4096) = (j : Int) * 4096 := by rw [IntKind.wrap_i64]; omega
      have HAB : Hid (∀ (AA : Nat) X, On AA s X → Calls Tryz.prog 37 #[.pointer (some ⟨AA, 0, none⟩), .int .i64 ((j : Int) * 4096), .int .i64 4096] X (Gives (.tuple #[.string (byV s ((j : Int) * 4096) 4096), .int .i64 (thereE s.L s.es ((j : Int) * 4096) 4096)]) X)) := Lib.hid fun AA X hX => on_abytes hX _ _ (by omega)
      obtain ⟨by0, hby⟩ : ∃ b, byV s ((j : Int) * 4096) 4096 = b := ⟨_, rfl⟩
      obtain ⟨er, her⟩ : ∃ e, thereE s.L s.es ((j : Int) * 4096) 4096 = e := ⟨_, rfl⟩
      rw [hby, her] at HAB
      clear hby her
      go_wp2_with fail
      refine (HAB.out A2 _ HPX.out.on2).mono ?_
      rintro e w11 ⟨rfl, hb⟩
      have HPX2 := Lib.hid (HPX.out.below hb)
      clear hb HPX
      obtain ⟨b0, _⟩ := HPX2.out.bv.all
      go_wp2_with fail
      refine (HAB.out A _ HPX2.out.bv.1).mono ?_
      rintro e w12 ⟨rfl, hb⟩
      have HPX3 := Lib.hid (HPX2.out.below hb)
      clear hb HPX2 b0
      go_wp2_with fail
      go_roundw
      case rel => exact ⟨j + 1, by omega, by go_num, HPX3⟩
      case measure => simp [intOf]; omega
    · have hjn3 : ¬ ((j : Int) < (n : Int) + 1) := by omega
      clear hj hjn
      go_wp2_with fail
      refine (HRU.out _ HPX.out.bv).mono ?_
      rintro e w11 ⟨u3, cap3, rfl, hru, huf, hb⟩
      have HPX2 := Lib.hid (HPX.out.below hb)
      have HR3 := Lib.hid hru
      have HEQ := Lib.hid (prequal_any u3 u2 cap3 cap2 L HRL.out w11 (HLR.out ▸ hru) HPX2.out.rn)
      rw [HNL.out] at HEQ
      rw [HLR.out, HNL.out]
      clear hru huf hb HPX
      go_wp2_with fail
      refine HEQ.out.mono ?_
      rintro e w12 ⟨rfl, hb⟩
      have HPX3 := Lib.hid (HPX2.out.below hb)
      clear hb HPX2
      go_wp2_with fail
      go_ret
      exact ⟨rfl, HPX3.out.bs.bel⟩
end Go.Proofs.YtfemgekhpcgliaaGreat.Bt
