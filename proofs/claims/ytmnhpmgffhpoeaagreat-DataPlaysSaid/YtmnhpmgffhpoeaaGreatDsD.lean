/- DataPlays: the walk. (Written by gen_dsd.py.) -/
import Derived.Test.YtmnhpmgffhpoeaaGreatDsC
import Derived.Test.YtmnhpmgffhpoeaaGreatArClone
namespace Go.Proofs.YtmnhpmgffhpoeaaGreat.Bt
open Go Go.RowKit Go.Shelf
set_option linter.unusedVariables false
set_option linter.unusedSimpArgs false
/-- between two acts -/
structure PlD (C A vs : Nat) (p : Option Addr) (L : List Itm) (m : Nat → UInt8) (w x : World) : Prop where
  v : KyS C A vs m w x
  l : Ky m (vs / 32) L
  d : RowG 49 iL 2 p L x
  u : (L.map Itm.k).Nodup
section
variable {C A vs : Nat} {p p' : Option Addr} {L M : List Itm} {m m' : Nat → UInt8} {w x z : World}
theorem PlD.below (h : PlD C A vs p L m w x) (hb : Below x.heap.size x z) : PlD C A vs p L m w z := ⟨h.v.below hb, h.l, h.d.below hb, h.u⟩
end
theorem hcloneD {A : Nat} {s : ASt} {w : World} (h : On A s w) : Calls Tryz.prog 19 #[.pointer (some ⟨A, 0, none⟩)] w (ClonePost A s w) := by
  obtain ⟨P, ps, p, n, cap, h⟩ := h; exact clone_any h
theorem wrapS {d : Nat} (h : d ≤ 400) : IntKind.i64.wrap (d : Int) = (d : Int) := by rw [IntKind.wrap_i64]; omega
theorem wrapT {d : Nat} (h : d ≤ 400) : wrap64 (d : Int) = (d : Int) := IntWalk.wrap64_in _ ⟨by omega, by omega⟩
theorem quoS {vs d : Nat} (h : vs / 32 = d) : (vs : Int) / 32 = (d : Int) := by omega
theorem quoT {vs d : Nat} (h : vs / 32 = d) : (vs : Int).tdiv 32 = (d : Int) := by rw [Int.tdiv_eq_ediv_of_nonneg (by omega)]; omega
theorem divS {vs d : Nat} (h : vs / 32 = d) (hv : vs ≤ 400) : d ≤ 400 := by omega
theorem setL_same {L : List Itm} {n : Nat} {t : Itm} (h : setC L n t ≠ 0) : setL L n t = L := by unfold setL; rw [if_neg h]
/-- the program's keys are ahead, the document's row not yet -/
structure HfD (C A vs : Nat) (p : Option Addr) (L M : List Itm) (m : Nat → UInt8) (w x : World) : Prop where
  v : KyS C A vs m w x
  l : Ky m (vs / 32) M
  d : RowG 49 iL 2 p L x
section
variable {C A vs : Nat} {p p' : Option Addr} {L M : List Itm} {m m' : Nat → UInt8} {w x z : World}
theorem PlD.half (h : PlD C A vs p L m w x) (ho : On A (cS m') z) (hl : Ky m' (vs / 32) M) (hg : Went A x z) : HfD C A vs p L M m' w z := ⟨h.v.went ho hg, hl, h.d.went notRfI h.v.on hg⟩
theorem HfD.below (h : HfD C A vs p L M m w x) (hb : Below x.heap.size x z) : HfD C A vs p L M m w z := ⟨h.v.below hb, h.l, h.d.below hb⟩
theorem HfD.done (h : HfD C A vs p L M m w x) (hb : Below x.heap.size x z) (hd : RowG 49 iL 2 p' M z) (hu : (M.map Itm.k).Nodup) : PlD C A vs p' M m w z := ⟨h.v.below hb, h.l, hd, hu⟩
end
set_option maxRecDepth 100000 in
set_option maxHeartbeats 32000000 in
theorem dataPlays (size : Int) (hsz : 0 ≤ size ∧ size ≤ 65535) (p0 : Option Addr) (c0' : Nat) (acts : List Act22) (hl9 : acts.length ≤ 9223372036854775807) (w : World) (hA : Acts22At w p0 acts) :
    Calls Tryz.prog 3 #[.int .u16 size, .slice p0 acts.length c0'] w fun e w' => e = .returned (.bool true) ∧ Below w.heap.size w w' := by
  have HA := Lib.hid hA
  have HLI := Lib.hid fun X (hb : Below w.heap.size w X) => light22 (w := X) p0 c0' acts (hA.below hb) hl9
  obtain ⟨sz, rfl⟩ := Int.eq_ofNat_of_zero_le hsz.1
  obtain ⟨vs, hvs⟩ : ∃ vs, sz % 401 = vs := ⟨_, rfl⟩
  have hv : vs ≤ 400 := by rw [← hvs]; have := Nat.mod_lt sz (show 0 < 401 by omega); omega
  have q1 : Int.tmod (sz : Int) 401 = (vs : Int) := by rw [Int.tmod_eq_emod_of_nonneg (by omega), ← hvs]; rfl
  have q2 : IntKind.i64.wrap (sz : Int) = (sz : Int) := by rw [IntKind.wrap_i64]; omega
  have q3 : IntKind.i64.wrap (vs : Int) = (vs : Int) := by rw [IntKind.wrap_i64]; omega
  have q4 : (sz : Int) % 401 = (vs : Int) := by rw [← hvs]; rfl
  have HQ := Lib.hid (And.intro q1 (And.intro q2 (And.intro q3 q4)))
  have HV := Lib.hid hv
  obtain ⟨d, hd⟩ : ∃ d, vs / 32 = d := ⟨_, rfl⟩
  have HD := Lib.hid hd
  have q5 : (vs : Int) / 32 = (d : Int) := quoS hd
  have q6 : (vs : Int).tdiv 32 = (d : Int) := quoT hd
  have q7 : wrap64 (d : Int) = (d : Int) := wrapT (divS hd hv)
  have q8 : IntKind.i64.wrap (d : Int) = (d : Int) := wrapS (divS hd hv)
  have HQ5 := Lib.hid (And.intro q5 (And.intro q6 (And.intro q7 q8)))
  obtain ⟨N, hN⟩ : ∃ N, acts.length = N := ⟨_, rfl⟩
  have HN := Lib.hid hN
  rw [hN] at hl9 HLI
  rw [hN]
  clear hA hN q1 q2 q3 q4 q5 q6 q7 q8 hvs hv hsz hd
  go_enter Tryz.func3, Tryz.ntmps3
  go_wp2_with fail
  refine (awake22 _).mono ?_
  rintro e w1 ⟨rfl, hb⟩
  have HB1 := Lib.hid hb
  clear hb
  go_wp2_with fail
  refine (HLI.out _ HB1.out).mono ?_
  rintro e w2 ⟨⟨bl, rfl, himp⟩, hb⟩
  have HB2 := Lib.hid (HB1.out.trans (hb.mono HB1.out.size))
  clear hb HB1 HLI
  rcases bl with _ | _
  · clear himp
    go_wp2_with fail
    go_ret
    exact ⟨rfl, HB2.out⟩
  have HLG := Lib.hid (himp rfl)
  clear himp
  obtain ⟨q1, q2, q3, q4⟩ := HQ.out
  go_wp2_with fail
  refine (open22 vs HV.out _).mono ?_
  rintro e w3 ⟨A, rfl, hx, hbs⟩
  have HV0 := Lib.hid (KyS.start (vs := vs) hx (hbs.rebase HB2.out))
  clear hx hbs q1 q2 q3 q4
  go_upto_region 7 with fail
  change Code.wp _ _ _ _ (w3.alloc (.cells (vwC A 40 vs) 30))
  obtain ⟨y, hy⟩ : ∃ y, w3.alloc (.cells (vwC A 40 vs) 30) = y := ⟨_, rfl⟩
  obtain ⟨C, hC⟩ : ∃ C, w3.heap.size = C := ⟨_, rfl⟩
  rw [hy, hC] at HV0
  rw [hy, hC]
  clear hy hC
  have HP0 : Hid (∃ m, PlD C A vs none [] m w y) := Lib.hid ⟨_, HV0.out, Ky.new _, RowG.nil _ _ _ _ _, by simp⟩
  have hN60 : N ≤ 60 := by have := HLG.out.1; have := HN.out; omega
  clear HV0
  go_wp2_with fail
  go_loopw [9, 39] (fun s9 s39 wr => ∃ (i : Nat) (p : Option Addr) (cap : Nat) (L : List Itm), i ≤ N ∧ s9 = .slice p L.length cap ∧ s39 = .int .i64 (i : Int) ∧ Hid (∃ m, PlD C A vs p L m w wr)) (fun _ s39 _ => N - (intOf s39).toNat)
  case atStart => exact ⟨0, none, 0, [], Nat.zero_le _, rfl, rfl, HP0⟩
  case round =>
    clear HP0
    obtain ⟨i, p, cap, L, hi, rfl, rfl, HS⟩ := hrel
    obtain ⟨m0, hp0⟩ := HS.out
    have HP := Lib.hid hp0
    clear hp0 HS
    by_cases hin : i < N
    · have hin2 : (i : Int) < (N : Int) := by omega
      obtain ⟨a, ha⟩ : ∃ a, acts[i]? = some a := ⟨_, List.getElem?_eq_getElem (by have := HN.out; omega)⟩
      have hokw : a.ok w := by
        obtain ⟨b, o, -, -, -, h⟩ := HA.out.get ha
        exact h
      obtain ⟨g, off, rfl, q0, q1, hok⟩ := (HA.out.below HP.out.v.bs.bel).get ha
      have HAT := Lib.hid hokw.at'
      have HIB : Hid (∀ t ∈ a.l, t.k.size ≤ 9223372036854775807 ∧ t.x < 18446744073709551616) := Lib.hid hok.iB
      have HLM := Lib.hid (HLG.out.2 a (List.mem_of_getElem? ha))
      have hdb := hok.dB
      clear ha hok hokw
      obtain ⟨dv, hdv⟩ : ∃ dv, a.d = dv := ⟨_, rfl⟩
      rw [hdv] at hdb q0
      clear hdv
      obtain ⟨M, hM⟩ : ∃ M, a.l.length = M := ⟨_, rfl⟩
      have hM12 : M ≤ 12 := by have := HLM.out.1; omega
      rw [hM] at q1
      by_cases hM0 : M = 0
      · subst hM0
        have HP1 := Lib.hid ((HP.out.below (bel1 wr (.cells #[.int .u8 dv, .slice a.p 0 a.c] 36))).below (bel1 _ (.cells #[.string ⟨#[]⟩, .int .u64 0] 39)))
        have HD8 := Lib.hid (blk_at (bel1 (wr.alloc (.cells #[.int .u8 dv, .slice a.p 0 a.c] 36)) (.cells #[.string ⟨#[]⟩, .int .u64 0] 39)) (heap_new wr (.cells #[.int .u8 dv, .slice a.p 0 a.c] 36)))
        have HD9 := Lib.hid (heap_new (wr.alloc (.cells #[.int .u8 dv, .slice a.p 0 a.c] 36)) (.cells #[.string ⟨#[]⟩, .int .u64 0] 39))
        go_upto_region 18 with fail
        change Code.wp _ _ _ _ ((wr.alloc (.cells #[.int .u8 dv, .slice a.p 0 a.c] 36)).alloc (.cells #[.string ⟨#[]⟩, .int .u64 0] 39))
        obtain ⟨y2, hy2⟩ : ∃ z, (wr.alloc (.cells #[.int .u8 dv, .slice a.p 0 a.c] 36)).alloc (.cells #[.string ⟨#[]⟩, .int .u64 0] 39) = z := ⟨_, rfl⟩
        obtain ⟨D8, hD8⟩ : ∃ z, wr.heap.size = z := ⟨_, rfl⟩
        obtain ⟨D9, hD9⟩ : ∃ z, (wr.alloc (.cells #[.int .u8 dv, .slice a.p 0 a.c] 36)).heap.size = z := ⟨_, rfl⟩
        have hD89 : wr.heap.size + 1 = D9 := by rw [← hD9]; simp
        rw [hy2] at HP1 HD8 HD9
        rw [hD8] at HD8
        rw [hD9] at HD9
        rw [hy2, hD89, hD8]
        clear hy2 hD8 hD9 hD89
        obtain ⟨rk, hrk⟩ : ∃ rk, Int.tmod dv 4 = rk := ⟨_, rfl⟩
        have hrb : 0 ≤ rk ∧ rk < 4 := by rw [← hrk, Int.tmod_eq_emod_of_nonneg hdb.1]; omega
        have hrw : IntKind.u8.wrap rk = rk := by rw [IntKind.wrap_u8]; omega
        have hrk2 : dv % 4 = rk := by rw [← hrk, Int.tmod_eq_emod_of_nonneg hdb.1]
        have d0 := (cell_blk HD8.out 0).1; have d1 := (cell_blk HD8.out 1).1
        have e0 := (cell_blk HD9.out 0).1; have e1 := (cell_blk HD9.out 1).1
        obtain ⟨c0, c1, c2⟩ := HP1.out.v.all
        obtain ⟨k, hk⟩ : ∃ k : ByteArray, (⟨#[]⟩ : ByteArray) = k := ⟨_, rfl⟩
        obtain ⟨xv, hxx⟩ : ∃ x : Nat, 0 = x := ⟨_, rfl⟩
        have hks : k.size ≤ 40 := by rw [← hk]; decide
        have hxv : xv < 18446744073709551616 := by rw [← hxx]; decide
        obtain ⟨M, hMM⟩ : ∃ M : Nat, 0 = M := ⟨_, rfl⟩
        have hM := hM.trans hMM
        have hM12 : M ≤ 12 := by rw [← hMM]; decide
        have HD8 := Lib.hid (show y2.heap[D8]? = some (.cells #[.int .u8 dv, .slice a.p M a.c] 36) by rw [← hMM]; exact HD8.out)
        have HD9 := Lib.hid (show y2.heap[D9]? = some (.cells #[.string k, .int .u64 (xv : Int)] 39) by rw [← hk, ← hxx]; exact HD9.out)
        clear q0 q1 d0 d1 e0 e1 hk hxx hMM
        have d0 := (cell_blk HD8.out 0).1; have d1 := (cell_blk HD8.out 1).1
        have e0 := (cell_blk HD9.out 0).1; have e1 := (cell_blk HD9.out 1).1
        by_cases r2 : rk = 2
        · subst r2
          have hk2b : (Int.tmod dv 4 == 2) = true := by rw [hrk]; rfl
          clear hrb
          obtain ⟨M1, hM1⟩ : ∃ l, kPutL (vs / 32) L a.l = l := ⟨_, rfl⟩
          obtain ⟨r, hr⟩ : ∃ l, putsC (vs / 32) L a.l = l := ⟨_, rfl⟩
          have HKP := Lib.hid (kPut HP1.out.v.on HV.out HP1.out.l a.l a.p a.c (HAT.out.below HP1.out.v.bs.bel) (by omega) HIB.out)
          have HUN := Lib.hid (nd_kPutL (vs / 32) a.l L HP1.out.u)
          rw [hM1, hr, hM] at HKP
          rw [hM1] at HUN
          go_wp2_with fail
          refine HKP.out.mono ?_
          rintro e x1 ⟨m1, rfl, ho, hl, hg⟩
          have HH := Lib.hid (HP1.out.half ho hl hg)
          have HDX1 := Lib.hid (hg.keep HP1.out.v.on HD9.out (by decide) (by decide) (by decide))
          have HDA1 := Lib.hid (hg.keep HP1.out.v.on HD8.out (by decide) (by decide) (by decide))
          have HOF2 := Lib.hid (rof22 (w := x1) (L := a.l) a.p a.c (by omega) (HAT.out.below HH.out.v.bs.bel))
          rw [hM] at HOF2
          have hLn : L.length ≤ vs / 32 := HP1.out.l.len
          have hLu := HP1.out.u
          clear ho hl hg HD8 HD9 HKP d0 d1 e0 e1 c0 c1 c2 HP HP1
          have d1 := (cell_blk HDA1.out 1).1
          obtain ⟨q5, q6, q7, q8⟩ := HQ5.out
          go_wp2_with fail
          refine HOF2.out.mono ?_
          rintro e x2 ⟨pt, ct, rfl, hrt, hb⟩
          clear q5 q6 q7 q8
          have HH2 := Lib.hid (HH.out.below hb)
          have HDX2 := Lib.hid (blk_at hb HDX1.out)
          have HRP := Lib.hid (rput22 (w := x2) (p := p) (cap := cap) (n := vs / 32) a.l pt ct HH2.out.d hrt hLn (by have := HV.out; omega) hLu (by omega) (fun t ht => (HIB.out t ht).1))
          rw [hM1, hr, hM, HD.out] at HRP
          rw [hM]
          clear hb hrt HOF2 HH HDX1 HDA1 d1 hLn hLu
          go_wp2_with fail
          refine HRP.out.mono ?_
          rintro e X ⟨p9, c9, rfl, hd9, hb⟩
          have HP9 := Lib.hid (HH2.out.done hb hd9 HUN.out)
          have HDX := Lib.hid (blk_at hb HDX2.out)
          clear hb hd9 HH2 HDX2 HRP HUN hM1 hr
          have HMB : Hid (M1.length ≤ 100) := Lib.hid (by have := HP9.out.l.len; have := HV.out; omega)
          have e0 := (cell_blk HDX.out 0).1; have e1 := (cell_blk HDX.out 1).1
          obtain ⟨c0, c1, c2⟩ := HP9.out.v.all
          obtain ⟨gx, hgx⟩ : ∃ g, getX M1 k = g := ⟨_, rfl⟩
          obtain ⟨gb, hgb⟩ : ∃ g, getB M1 k = g := ⟨_, rfl⟩
          have HKG := Lib.hid (kget HP9.out.v.on HV.out HP9.out.l k)
          rw [hgx, hgb] at HKG
          go_wp2_with fail
          refine HKG.out.mono ?_
          rintro e y3 ⟨rfl, hb⟩
          have HP10 := Lib.hid (HP9.out.below hb)
          have HDY := Lib.hid (blk_at hb HDX.out)
          clear hb HP9 HDX HKG e0 e1 c0 c1 c2
          have e0 := (cell_blk HDY.out 0).1; have e1 := (cell_blk HDY.out 1).1
          have HRG := Lib.hid (rget22 p9 c9 k HP10.out.d HMB.out)
          rw [hgx, hgb] at HRG
          go_wp2_with fail
          refine HRG.out.mono ?_
          rintro e y4 ⟨rfl, hb⟩
          have HP11 := Lib.hid (HP10.out.below hb)
          clear hb HP10 HDY HRG e0 e1 hgx hgb
          obtain ⟨c0, c1, c2⟩ := HP11.out.v.all
          have hne1 : ((gx : Int) != (gx : Int)) = false := by simp
          have hne2 : (gb != gb) = false := by cases gb <;> rfl
          go_wp2_with fail
          refine (kall HP11.out.v.on HV.out HP11.out.l).mono ?_
          rintro e y5 ⟨p5, c5, rfl, hcap, -, hr⟩
          have HP12 := Lib.hid (HP11.out.below hr.bl)
          have HOF := Lib.hid (rof22 (w := y5) p5 c5 HMB.out (RowI.row hr).its)
          clear hr hcap HP11 c0 c1 c2
          go_wp2_with fail
          refine HOF.out.mono ?_
          rintro e y6 ⟨p6, c6, rfl, hro, hb⟩
          have HP13 := Lib.hid (HP12.out.below hb)
          have HEQ := Lib.hid (requal22 (w := y6) p6 p9 c6 c9 HMB.out hro HP13.out.d)
          clear hb hro HP12 HOF
          go_wp2_with fail
          refine HEQ.out.mono ?_
          rintro e y7 ⟨rfl, hb⟩
          have HPZ : Hid (∃ m, PlD C A vs p9 M1 m w y7) := Lib.hid ⟨_, HP13.out.below hb⟩
          clear hb HP13 HEQ
          go_wp2_with fail
          go_roundw
          case rel => exact ⟨i + 1, p9, c9, M1, by omega, rfl, by go_num, HPZ⟩
          case measure => simp [intOf]; omega

        by_cases r3 : rk = 3
        · subst r3
          have hk2b : (Int.tmod dv 4 == 2) = false := by rw [hrk]; rfl
          have hk3b : (Int.tmod dv 4 == 3) = true := by rw [hrk]; rfl
          clear hrb r2
          obtain ⟨M1, hM1⟩ : ∃ l, drL L k = l := ⟨_, rfl⟩
          obtain ⟨r, hr⟩ : ∃ l, drC L k = l := ⟨_, rfl⟩
          have HKP := Lib.hid (kDrop HP1.out.v.on HV.out HP1.out.l k)
          have HUN := Lib.hid (nd_drL (k := k) HP1.out.u)
          rw [hM1, hr] at HKP
          rw [hM1] at HUN
          go_wp2_with fail
          refine HKP.out.mono ?_
          rintro e x1 ⟨m1, rfl, ho, hl, hg⟩
          have HH := Lib.hid (HP1.out.half ho hl hg)
          have HDX1 := Lib.hid (hg.keep HP1.out.v.on HD9.out (by decide) (by decide) (by decide))
          have HDA1 := Lib.hid (hg.keep HP1.out.v.on HD8.out (by decide) (by decide) (by decide))
          have hLn : L.length ≤ vs / 32 := HP1.out.l.len
          have hLu := HP1.out.u
          have HRP := Lib.hid (rdrop22 (w := x1) p cap k HH.out.d (by have := HV.out; omega) hLu)
          rw [hM1, hr] at HRP
          clear ho hl hg HD8 HD9 HKP d0 d1 e0 e1 c0 c1 c2 HP HP1 hLn hLu
          have e0 := (cell_blk HDX1.out 0).1; have e1 := (cell_blk HDX1.out 1).1
          go_wp2_with fail
          refine HRP.out.mono ?_
          rintro e X ⟨p9, c9, rfl, hd9, hb⟩
          have HP9 := Lib.hid (HH.out.done hb hd9 HUN.out)
          have HDX := Lib.hid (blk_at hb HDX1.out)
          clear hb hd9 HH HDX1 HDA1 HRP HUN hM1 hr e0 e1
          have HMB : Hid (M1.length ≤ 100) := Lib.hid (by have := HP9.out.l.len; have := HV.out; omega)
          have e0 := (cell_blk HDX.out 0).1; have e1 := (cell_blk HDX.out 1).1
          obtain ⟨c0, c1, c2⟩ := HP9.out.v.all
          obtain ⟨gx, hgx⟩ : ∃ g, getX M1 k = g := ⟨_, rfl⟩
          obtain ⟨gb, hgb⟩ : ∃ g, getB M1 k = g := ⟨_, rfl⟩
          have HKG := Lib.hid (kget HP9.out.v.on HV.out HP9.out.l k)
          rw [hgx, hgb] at HKG
          go_wp2_with fail
          refine HKG.out.mono ?_
          rintro e y3 ⟨rfl, hb⟩
          have HP10 := Lib.hid (HP9.out.below hb)
          have HDY := Lib.hid (blk_at hb HDX.out)
          clear hb HP9 HDX HKG e0 e1 c0 c1 c2
          have e0 := (cell_blk HDY.out 0).1; have e1 := (cell_blk HDY.out 1).1
          have HRG := Lib.hid (rget22 p9 c9 k HP10.out.d HMB.out)
          rw [hgx, hgb] at HRG
          go_wp2_with fail
          refine HRG.out.mono ?_
          rintro e y4 ⟨rfl, hb⟩
          have HP11 := Lib.hid (HP10.out.below hb)
          clear hb HP10 HDY HRG e0 e1 hgx hgb
          obtain ⟨c0, c1, c2⟩ := HP11.out.v.all
          have hne1 : ((gx : Int) != (gx : Int)) = false := by simp
          have hne2 : (gb != gb) = false := by cases gb <;> rfl
          go_wp2_with fail
          refine (kall HP11.out.v.on HV.out HP11.out.l).mono ?_
          rintro e y5 ⟨p5, c5, rfl, hcap, -, hr⟩
          have HP12 := Lib.hid (HP11.out.below hr.bl)
          have HOF := Lib.hid (rof22 (w := y5) p5 c5 HMB.out (RowI.row hr).its)
          clear hr hcap HP11 c0 c1 c2
          go_wp2_with fail
          refine HOF.out.mono ?_
          rintro e y6 ⟨p6, c6, rfl, hro, hb⟩
          have HP13 := Lib.hid (HP12.out.below hb)
          have HEQ := Lib.hid (requal22 (w := y6) p6 p9 c6 c9 HMB.out hro HP13.out.d)
          clear hb hro HP12 HOF
          go_wp2_with fail
          refine HEQ.out.mono ?_
          rintro e y7 ⟨rfl, hb⟩
          have HPZ : Hid (∃ m, PlD C A vs p9 M1 m w y7) := Lib.hid ⟨_, HP13.out.below hb⟩
          clear hb HP13 HEQ
          go_wp2_with fail
          go_roundw
          case rel => exact ⟨i + 1, p9, c9, M1, by omega, rfl, by go_num, HPZ⟩
          case measure => simp [intOf]; omega

        have hk2b : (Int.tmod dv 4 == 2) = false := by rw [hrk]; simpa using r2
        have hk3b : (Int.tmod dv 4 == 3) = false := by rw [hrk]; simpa using r3
        clear hrb
        obtain ⟨M1, hM1⟩ : ∃ l, setL L (vs / 32) ⟨k, xv⟩ = l := ⟨_, rfl⟩
        obtain ⟨r, hr⟩ : ∃ l, setC L (vs / 32) ⟨k, xv⟩ = l := ⟨_, rfl⟩
        have HKP := Lib.hid (kSet HP1.out.v.on HV.out HP1.out.l k xv (by omega) hxv)
        rw [putsC_one, kPutL_one, hM1, hr] at HKP
        have HUN := Lib.hid (nd_setL (n := vs / 32) (t := ⟨k, xv⟩) HP1.out.u)
        rw [hM1] at HUN
        go_wp2_with fail
        refine HKP.out.mono ?_
        rintro e x1 ⟨m1, rfl, ho, hl, hg⟩
        have HH := Lib.hid (HP1.out.half ho hl hg)
        have HDX1 := Lib.hid (hg.keep HP1.out.v.on HD9.out (by decide) (by decide) (by decide))
        have HDA1 := Lib.hid (hg.keep HP1.out.v.on HD8.out (by decide) (by decide) (by decide))
        have hLn : L.length ≤ vs / 32 := HP1.out.l.len
        have hLu := HP1.out.u
        have HRP := Lib.hid (rset22 (w := x1) (p := p) (cap := cap) (n := vs / 32) ⟨k, xv⟩ HH.out.d hLn (by have := HV.out; omega) hLu (by show k.size ≤ _; omega))
        rw [hM1, hr, HD.out] at HRP
        clear ho hl hg HD8 HD9 HKP d0 d1 e0 e1 c0 c1 c2 HP HP1 hLn hLu
        have e0 := (cell_blk HDX1.out 0).1; have e1 := (cell_blk HDX1.out 1).1
        obtain ⟨q5, q6, q7, q8⟩ := HQ5.out
        go_wp2_with fail
        refine HRP.out.mono ?_
        rintro e X ⟨p9, c9, rfl, hd9, hb⟩
        have HP9 := Lib.hid (HH.out.done hb hd9 HUN.out)
        have HDX := Lib.hid (blk_at hb HDX1.out)
        clear hb hd9 HH HDX1 HDA1 HRP HUN hM1 hr e0 e1 q5 q6 q7 q8
        have HMB : Hid (M1.length ≤ 100) := Lib.hid (by have := HP9.out.l.len; have := HV.out; omega)
        have e0 := (cell_blk HDX.out 0).1; have e1 := (cell_blk HDX.out 1).1
        obtain ⟨c0, c1, c2⟩ := HP9.out.v.all
        obtain ⟨gx, hgx⟩ : ∃ g, getX M1 k = g := ⟨_, rfl⟩
        obtain ⟨gb, hgb⟩ : ∃ g, getB M1 k = g := ⟨_, rfl⟩
        have HKG := Lib.hid (kget HP9.out.v.on HV.out HP9.out.l k)
        rw [hgx, hgb] at HKG
        go_wp2_with fail
        refine HKG.out.mono ?_
        rintro e y3 ⟨rfl, hb⟩
        have HP10 := Lib.hid (HP9.out.below hb)
        have HDY := Lib.hid (blk_at hb HDX.out)
        clear hb HP9 HDX HKG e0 e1 c0 c1 c2
        have e0 := (cell_blk HDY.out 0).1; have e1 := (cell_blk HDY.out 1).1
        have HRG := Lib.hid (rget22 p9 c9 k HP10.out.d HMB.out)
        rw [hgx, hgb] at HRG
        go_wp2_with fail
        refine HRG.out.mono ?_
        rintro e y4 ⟨rfl, hb⟩
        have HP11 := Lib.hid (HP10.out.below hb)
        clear hb HP10 HDY HRG e0 e1 hgx hgb
        obtain ⟨c0, c1, c2⟩ := HP11.out.v.all
        have hne1 : ((gx : Int) != (gx : Int)) = false := by simp
        have hne2 : (gb != gb) = false := by cases gb <;> rfl
        go_wp2_with fail
        refine (kall HP11.out.v.on HV.out HP11.out.l).mono ?_
        rintro e y5 ⟨p5, c5, rfl, hcap, -, hr⟩
        have HP12 := Lib.hid (HP11.out.below hr.bl)
        have HOF := Lib.hid (rof22 (w := y5) p5 c5 HMB.out (RowI.row hr).its)
        clear hr hcap HP11 c0 c1 c2
        go_wp2_with fail
        refine HOF.out.mono ?_
        rintro e y6 ⟨p6, c6, rfl, hro, hb⟩
        have HP13 := Lib.hid (HP12.out.below hb)
        have HEQ := Lib.hid (requal22 (w := y6) p6 p9 c6 c9 HMB.out hro HP13.out.d)
        clear hb hro HP12 HOF
        go_wp2_with fail
        refine HEQ.out.mono ?_
        rintro e y7 ⟨rfl, hb⟩
        have HPZ : Hid (∃ m, PlD C A vs p9 M1 m w y7) := Lib.hid ⟨_, HP13.out.below hb⟩
        clear hb HP13 HEQ
        go_wp2_with fail
        go_roundw
        case rel => exact ⟨i + 1, p9, c9, M1, by omega, rfl, by go_num, HPZ⟩
        case measure => simp [intOf]; omega
      · obtain ⟨t, ht⟩ : ∃ t, a.l[0]? = some t := ⟨_, List.getElem?_eq_getElem (by omega)⟩
        have hMi : (0 : Int) < (M : Int) := by omega
        obtain ⟨g2, o2, hp2, r0, r1⟩ := (HAT.out.below HP.out.v.bs.bel).cell ht
        rw [Nat.zero_mul, Nat.add_zero] at r0 r1
        obtain ⟨k, xv⟩ := t
        have hks : k.size ≤ 40 := HLM.out.2 _ (List.mem_of_getElem? ht)
        have hxv : xv < 18446744073709551616 := (HIB.out _ (List.mem_of_getElem? ht)).2
        simp only at r0 r1
        clear ht
        rw [hp2] at q1
        have hb2 : Below wr.heap.size wr ((wr.alloc (.cells #[.int .u8 dv, .slice (some ⟨g2, o2, none⟩) M a.c] 36)).alloc (.cells #[.string ⟨#[]⟩, .int .u64 0] 39)) := (bel1 wr _).trans ((bel1 _ _).mono (by simp))
        have s0 := (World.cell?_of_block (hb2.block _ (World.block_lt_of_cell? _ _ r0))).trans r0
        have s1 := (World.cell?_of_block (hb2.block _ (World.block_lt_of_cell? _ _ r1))).trans r1
        clear hb2
        have HP1 := Lib.hid ((HP.out.below (bel1 wr (.cells #[.int .u8 dv, .slice (some ⟨g2, o2, none⟩) M a.c] 36))).below (bel1 _ (.cells #[.string k, .int .u64 (xv : Int)] 39)))
        have HD8 := Lib.hid (blk_at (bel1 (wr.alloc (.cells #[.int .u8 dv, .slice (some ⟨g2, o2, none⟩) M a.c] 36)) (.cells #[.string k, .int .u64 (xv : Int)] 39)) (heap_new wr (.cells #[.int .u8 dv, .slice (some ⟨g2, o2, none⟩) M a.c] 36)))
        have HD9 := Lib.hid (heap_new (wr.alloc (.cells #[.int .u8 dv, .slice (some ⟨g2, o2, none⟩) M a.c] 36)) (.cells #[.string k, .int .u64 (xv : Int)] 39))
        go_upto_region 18 with fail
        change Code.wp _ _ _ _ ((wr.alloc (.cells #[.int .u8 dv, .slice (some ⟨g2, o2, none⟩) M a.c] 36)).alloc (.cells #[.string k, .int .u64 (xv : Int)] 39))
        obtain ⟨y2, hy2⟩ : ∃ z, (wr.alloc (.cells #[.int .u8 dv, .slice (some ⟨g2, o2, none⟩) M a.c] 36)).alloc (.cells #[.string k, .int .u64 (xv : Int)] 39) = z := ⟨_, rfl⟩
        obtain ⟨D8, hD8⟩ : ∃ z, wr.heap.size = z := ⟨_, rfl⟩
        obtain ⟨D9, hD9⟩ : ∃ z, (wr.alloc (.cells #[.int .u8 dv, .slice (some ⟨g2, o2, none⟩) M a.c] 36)).heap.size = z := ⟨_, rfl⟩
        have hD89 : wr.heap.size + 1 = D9 := by rw [← hD9]; simp
        rw [hy2] at HP1 HD8 HD9
        rw [hD8] at HD8
        rw [hD9] at HD9
        rw [hy2, hD89, hD8]
        clear hy2 hD8 hD9 hD89
        obtain ⟨rk, hrk⟩ : ∃ rk, Int.tmod dv 4 = rk := ⟨_, rfl⟩
        have hrb : 0 ≤ rk ∧ rk < 4 := by rw [← hrk, Int.tmod_eq_emod_of_nonneg hdb.1]; omega
        have hrw : IntKind.u8.wrap rk = rk := by rw [IntKind.wrap_u8]; omega
        have hrk2 : dv % 4 = rk := by rw [← hrk, Int.tmod_eq_emod_of_nonneg hdb.1]
        have d0 := (cell_blk HD8.out 0).1; have d1 := (cell_blk HD8.out 1).1
        have e0 := (cell_blk HD9.out 0).1; have e1 := (cell_blk HD9.out 1).1
        obtain ⟨c0, c1, c2⟩ := HP1.out.v.all
        have HHP := Lib.hid hp2
        rw [← hp2] at HD8
        clear q0 q1 r0 r1 s0 s1
        have d1 := (cell_blk HD8.out 1).1
        clear hp2
        by_cases r2 : rk = 2
        · subst r2
          have hk2b : (Int.tmod dv 4 == 2) = true := by rw [hrk]; rfl
          clear hrb
          obtain ⟨M1, hM1⟩ : ∃ l, kPutL (vs / 32) L a.l = l := ⟨_, rfl⟩
          obtain ⟨r, hr⟩ : ∃ l, putsC (vs / 32) L a.l = l := ⟨_, rfl⟩
          have HKP := Lib.hid (kPut HP1.out.v.on HV.out HP1.out.l a.l a.p a.c (HAT.out.below HP1.out.v.bs.bel) (by omega) HIB.out)
          have HUN := Lib.hid (nd_kPutL (vs / 32) a.l L HP1.out.u)
          rw [hM1, hr, hM, HHP.out] at HKP
          rw [hM1] at HUN
          go_wp2_with fail
          refine HKP.out.mono ?_
          rintro e x1 ⟨m1, rfl, ho, hl, hg⟩
          have HH := Lib.hid (HP1.out.half ho hl hg)
          have HDX1 := Lib.hid (hg.keep HP1.out.v.on HD9.out (by decide) (by decide) (by decide))
          have HDA1 := Lib.hid (hg.keep HP1.out.v.on HD8.out (by decide) (by decide) (by decide))
          have HOF2 := Lib.hid (rof22 (w := x1) (L := a.l) a.p a.c (by omega) (HAT.out.below HH.out.v.bs.bel))
          rw [hM] at HOF2
          have hLn : L.length ≤ vs / 32 := HP1.out.l.len
          have hLu := HP1.out.u
          clear ho hl hg HD8 HD9 HKP d0 d1 e0 e1 c0 c1 c2 HP HP1
          have d1 := (cell_blk HDA1.out 1).1
          obtain ⟨q5, q6, q7, q8⟩ := HQ5.out
          go_wp2_with fail
          refine HOF2.out.mono ?_
          rintro e x2 ⟨pt, ct, rfl, hrt, hb⟩
          clear q5 q6 q7 q8
          have HH2 := Lib.hid (HH.out.below hb)
          have HDX2 := Lib.hid (blk_at hb HDX1.out)
          have HRP := Lib.hid (rput22 (w := x2) (p := p) (cap := cap) (n := vs / 32) a.l pt ct HH2.out.d hrt hLn (by have := HV.out; omega) hLu (by omega) (fun t ht => (HIB.out t ht).1))
          rw [hM1, hr, hM, HD.out] at HRP
          rw [hM]
          clear hb hrt HOF2 HH HDX1 HDA1 d1 hLn hLu
          go_wp2_with fail
          refine HRP.out.mono ?_
          rintro e X ⟨p9, c9, rfl, hd9, hb⟩
          have HP9 := Lib.hid (HH2.out.done hb hd9 HUN.out)
          have HDX := Lib.hid (blk_at hb HDX2.out)
          clear hb hd9 HH2 HDX2 HRP HUN hM1 hr
          have HMB : Hid (M1.length ≤ 100) := Lib.hid (by have := HP9.out.l.len; have := HV.out; omega)
          have e0 := (cell_blk HDX.out 0).1; have e1 := (cell_blk HDX.out 1).1
          obtain ⟨c0, c1, c2⟩ := HP9.out.v.all
          obtain ⟨gx, hgx⟩ : ∃ g, getX M1 k = g := ⟨_, rfl⟩
          obtain ⟨gb, hgb⟩ : ∃ g, getB M1 k = g := ⟨_, rfl⟩
          have HKG := Lib.hid (kget HP9.out.v.on HV.out HP9.out.l k)
          rw [hgx, hgb] at HKG
          go_wp2_with fail
          refine HKG.out.mono ?_
          rintro e y3 ⟨rfl, hb⟩
          have HP10 := Lib.hid (HP9.out.below hb)
          have HDY := Lib.hid (blk_at hb HDX.out)
          clear hb HP9 HDX HKG e0 e1 c0 c1 c2
          have e0 := (cell_blk HDY.out 0).1; have e1 := (cell_blk HDY.out 1).1
          have HRG := Lib.hid (rget22 p9 c9 k HP10.out.d HMB.out)
          rw [hgx, hgb] at HRG
          go_wp2_with fail
          refine HRG.out.mono ?_
          rintro e y4 ⟨rfl, hb⟩
          have HP11 := Lib.hid (HP10.out.below hb)
          clear hb HP10 HDY HRG e0 e1 hgx hgb
          obtain ⟨c0, c1, c2⟩ := HP11.out.v.all
          have hne1 : ((gx : Int) != (gx : Int)) = false := by simp
          have hne2 : (gb != gb) = false := by cases gb <;> rfl
          go_wp2_with fail
          refine (kall HP11.out.v.on HV.out HP11.out.l).mono ?_
          rintro e y5 ⟨p5, c5, rfl, hcap, -, hr⟩
          have HP12 := Lib.hid (HP11.out.below hr.bl)
          have HOF := Lib.hid (rof22 (w := y5) p5 c5 HMB.out (RowI.row hr).its)
          clear hr hcap HP11 c0 c1 c2
          go_wp2_with fail
          refine HOF.out.mono ?_
          rintro e y6 ⟨p6, c6, rfl, hro, hb⟩
          have HP13 := Lib.hid (HP12.out.below hb)
          have HEQ := Lib.hid (requal22 (w := y6) p6 p9 c6 c9 HMB.out hro HP13.out.d)
          clear hb hro HP12 HOF
          go_wp2_with fail
          refine HEQ.out.mono ?_
          rintro e y7 ⟨rfl, hb⟩
          have HPZ : Hid (∃ m, PlD C A vs p9 M1 m w y7) := Lib.hid ⟨_, HP13.out.below hb⟩
          clear hb HP13 HEQ
          go_wp2_with fail
          go_roundw
          case rel => exact ⟨i + 1, p9, c9, M1, by omega, rfl, by go_num, HPZ⟩
          case measure => simp [intOf]; omega

        by_cases r3 : rk = 3
        · subst r3
          have hk2b : (Int.tmod dv 4 == 2) = false := by rw [hrk]; rfl
          have hk3b : (Int.tmod dv 4 == 3) = true := by rw [hrk]; rfl
          clear hrb r2
          obtain ⟨M1, hM1⟩ : ∃ l, drL L k = l := ⟨_, rfl⟩
          obtain ⟨r, hr⟩ : ∃ l, drC L k = l := ⟨_, rfl⟩
          have HKP := Lib.hid (kDrop HP1.out.v.on HV.out HP1.out.l k)
          have HUN := Lib.hid (nd_drL (k := k) HP1.out.u)
          rw [hM1, hr] at HKP
          rw [hM1] at HUN
          go_wp2_with fail
          refine HKP.out.mono ?_
          rintro e x1 ⟨m1, rfl, ho, hl, hg⟩
          have HH := Lib.hid (HP1.out.half ho hl hg)
          have HDX1 := Lib.hid (hg.keep HP1.out.v.on HD9.out (by decide) (by decide) (by decide))
          have HDA1 := Lib.hid (hg.keep HP1.out.v.on HD8.out (by decide) (by decide) (by decide))
          have hLn : L.length ≤ vs / 32 := HP1.out.l.len
          have hLu := HP1.out.u
          have HRP := Lib.hid (rdrop22 (w := x1) p cap k HH.out.d (by have := HV.out; omega) hLu)
          rw [hM1, hr] at HRP
          clear ho hl hg HD8 HD9 HKP d0 d1 e0 e1 c0 c1 c2 HP HP1 hLn hLu
          have e0 := (cell_blk HDX1.out 0).1; have e1 := (cell_blk HDX1.out 1).1
          go_wp2_with fail
          refine HRP.out.mono ?_
          rintro e X ⟨p9, c9, rfl, hd9, hb⟩
          have HP9 := Lib.hid (HH.out.done hb hd9 HUN.out)
          have HDX := Lib.hid (blk_at hb HDX1.out)
          clear hb hd9 HH HDX1 HDA1 HRP HUN hM1 hr e0 e1
          have HMB : Hid (M1.length ≤ 100) := Lib.hid (by have := HP9.out.l.len; have := HV.out; omega)
          have e0 := (cell_blk HDX.out 0).1; have e1 := (cell_blk HDX.out 1).1
          obtain ⟨c0, c1, c2⟩ := HP9.out.v.all
          obtain ⟨gx, hgx⟩ : ∃ g, getX M1 k = g := ⟨_, rfl⟩
          obtain ⟨gb, hgb⟩ : ∃ g, getB M1 k = g := ⟨_, rfl⟩
          have HKG := Lib.hid (kget HP9.out.v.on HV.out HP9.out.l k)
          rw [hgx, hgb] at HKG
          go_wp2_with fail
          refine HKG.out.mono ?_
          rintro e y3 ⟨rfl, hb⟩
          have HP10 := Lib.hid (HP9.out.below hb)
          have HDY := Lib.hid (blk_at hb HDX.out)
          clear hb HP9 HDX HKG e0 e1 c0 c1 c2
          have e0 := (cell_blk HDY.out 0).1; have e1 := (cell_blk HDY.out 1).1
          have HRG := Lib.hid (rget22 p9 c9 k HP10.out.d HMB.out)
          rw [hgx, hgb] at HRG
          go_wp2_with fail
          refine HRG.out.mono ?_
          rintro e y4 ⟨rfl, hb⟩
          have HP11 := Lib.hid (HP10.out.below hb)
          clear hb HP10 HDY HRG e0 e1 hgx hgb
          obtain ⟨c0, c1, c2⟩ := HP11.out.v.all
          have hne1 : ((gx : Int) != (gx : Int)) = false := by simp
          have hne2 : (gb != gb) = false := by cases gb <;> rfl
          go_wp2_with fail
          refine (kall HP11.out.v.on HV.out HP11.out.l).mono ?_
          rintro e y5 ⟨p5, c5, rfl, hcap, -, hr⟩
          have HP12 := Lib.hid (HP11.out.below hr.bl)
          have HOF := Lib.hid (rof22 (w := y5) p5 c5 HMB.out (RowI.row hr).its)
          clear hr hcap HP11 c0 c1 c2
          go_wp2_with fail
          refine HOF.out.mono ?_
          rintro e y6 ⟨p6, c6, rfl, hro, hb⟩
          have HP13 := Lib.hid (HP12.out.below hb)
          have HEQ := Lib.hid (requal22 (w := y6) p6 p9 c6 c9 HMB.out hro HP13.out.d)
          clear hb hro HP12 HOF
          go_wp2_with fail
          refine HEQ.out.mono ?_
          rintro e y7 ⟨rfl, hb⟩
          have HPZ : Hid (∃ m, PlD C A vs p9 M1 m w y7) := Lib.hid ⟨_, HP13.out.below hb⟩
          clear hb HP13 HEQ
          go_wp2_with fail
          go_roundw
          case rel => exact ⟨i + 1, p9, c9, M1, by omega, rfl, by go_num, HPZ⟩
          case measure => simp [intOf]; omega

        have hk2b : (Int.tmod dv 4 == 2) = false := by rw [hrk]; simpa using r2
        have hk3b : (Int.tmod dv 4 == 3) = false := by rw [hrk]; simpa using r3
        clear hrb
        obtain ⟨M1, hM1⟩ : ∃ l, setL L (vs / 32) ⟨k, xv⟩ = l := ⟨_, rfl⟩
        obtain ⟨r, hr⟩ : ∃ l, setC L (vs / 32) ⟨k, xv⟩ = l := ⟨_, rfl⟩
        have HKP := Lib.hid (kSet HP1.out.v.on HV.out HP1.out.l k xv (by omega) hxv)
        rw [putsC_one, kPutL_one, hM1, hr] at HKP
        have HUN := Lib.hid (nd_setL (n := vs / 32) (t := ⟨k, xv⟩) HP1.out.u)
        rw [hM1] at HUN
        go_wp2_with fail
        refine HKP.out.mono ?_
        rintro e x1 ⟨m1, rfl, ho, hl, hg⟩
        have HH := Lib.hid (HP1.out.half ho hl hg)
        have HDX1 := Lib.hid (hg.keep HP1.out.v.on HD9.out (by decide) (by decide) (by decide))
        have HDA1 := Lib.hid (hg.keep HP1.out.v.on HD8.out (by decide) (by decide) (by decide))
        have hLn : L.length ≤ vs / 32 := HP1.out.l.len
        have hLu := HP1.out.u
        have HRP := Lib.hid (rset22 (w := x1) (p := p) (cap := cap) (n := vs / 32) ⟨k, xv⟩ HH.out.d hLn (by have := HV.out; omega) hLu (by show k.size ≤ _; omega))
        rw [hM1, hr, HD.out] at HRP
        clear ho hl hg HD8 HD9 HKP d0 d1 e0 e1 c0 c1 c2 HP HP1 hLn hLu
        have e0 := (cell_blk HDX1.out 0).1; have e1 := (cell_blk HDX1.out 1).1
        obtain ⟨q5, q6, q7, q8⟩ := HQ5.out
        go_wp2_with fail
        refine HRP.out.mono ?_
        rintro e X ⟨p9, c9, rfl, hd9, hb⟩
        have HP9 := Lib.hid (HH.out.done hb hd9 HUN.out)
        have HDX := Lib.hid (blk_at hb HDX1.out)
        clear hb hd9 HH HDX1 HDA1 HRP HUN hM1 hr e0 e1 q5 q6 q7 q8
        have HMB : Hid (M1.length ≤ 100) := Lib.hid (by have := HP9.out.l.len; have := HV.out; omega)
        have e0 := (cell_blk HDX.out 0).1; have e1 := (cell_blk HDX.out 1).1
        obtain ⟨c0, c1, c2⟩ := HP9.out.v.all
        obtain ⟨gx, hgx⟩ : ∃ g, getX M1 k = g := ⟨_, rfl⟩
        obtain ⟨gb, hgb⟩ : ∃ g, getB M1 k = g := ⟨_, rfl⟩
        have HKG := Lib.hid (kget HP9.out.v.on HV.out HP9.out.l k)
        rw [hgx, hgb] at HKG
        go_wp2_with fail
        refine HKG.out.mono ?_
        rintro e y3 ⟨rfl, hb⟩
        have HP10 := Lib.hid (HP9.out.below hb)
        have HDY := Lib.hid (blk_at hb HDX.out)
        clear hb HP9 HDX HKG e0 e1 c0 c1 c2
        have e0 := (cell_blk HDY.out 0).1; have e1 := (cell_blk HDY.out 1).1
        have HRG := Lib.hid (rget22 p9 c9 k HP10.out.d HMB.out)
        rw [hgx, hgb] at HRG
        go_wp2_with fail
        refine HRG.out.mono ?_
        rintro e y4 ⟨rfl, hb⟩
        have HP11 := Lib.hid (HP10.out.below hb)
        clear hb HP10 HDY HRG e0 e1 hgx hgb
        obtain ⟨c0, c1, c2⟩ := HP11.out.v.all
        have hne1 : ((gx : Int) != (gx : Int)) = false := by simp
        have hne2 : (gb != gb) = false := by cases gb <;> rfl
        go_wp2_with fail
        refine (kall HP11.out.v.on HV.out HP11.out.l).mono ?_
        rintro e y5 ⟨p5, c5, rfl, hcap, -, hr⟩
        have HP12 := Lib.hid (HP11.out.below hr.bl)
        have HOF := Lib.hid (rof22 (w := y5) p5 c5 HMB.out (RowI.row hr).its)
        clear hr hcap HP11 c0 c1 c2
        go_wp2_with fail
        refine HOF.out.mono ?_
        rintro e y6 ⟨p6, c6, rfl, hro, hb⟩
        have HP13 := Lib.hid (HP12.out.below hb)
        have HEQ := Lib.hid (requal22 (w := y6) p6 p9 c6 c9 HMB.out hro HP13.out.d)
        clear hb hro HP12 HOF
        go_wp2_with fail
        refine HEQ.out.mono ?_
        rintro e y7 ⟨rfl, hb⟩
        have HPZ : Hid (∃ m, PlD C A vs p9 M1 m w y7) := Lib.hid ⟨_, HP13.out.below hb⟩
        clear hb HP13 HEQ
        go_wp2_with fail
        go_roundw
        case rel => exact ⟨i + 1, p9, c9, M1, by omega, rfl, by go_num, HPZ⟩
        case measure => simp [intOf]; omega
    · have hin2 : ¬ (i : Int) < (N : Int) := by omega
      have HLB : Hid (L.length ≤ 100) := Lib.hid (by have := HP.out.l.len; have := HV.out; omega)
      have HCL := Lib.hid (hcloneD HP.out.v.on)
      go_wp2_with fail
      refine HCL.out.mono ?_
      rintro e x0 ⟨A2, rfl, ho, hb, hA2, -, -⟩
      have HP1 := Lib.hid (And.intro (HP.out.below hb) ho)
      clear ho hb hA2 HP HCL
      have HOF := Lib.hid (on_of HP1.out.2 40 vs (by omega))
      rw [cS_there (by omega) (by omega) (by have := HV.out; omega), ofV_ok] at HOF
      go_wp2_with fail
      refine HOF.out.mono ?_
      rintro e x1 ⟨rfl, hb⟩
      have HP2 := Lib.hid (And.intro ((HP1.out.1.below hb).below (bel1 x1 (.cells (vwC A2 40 vs) 28))) ((HP1.out.2.below hb).below (bel1 x1 (.cells (vwC A2 40 vs) 28))))
      clear hb HP1 HOF
      go_wp2_with fail
      refine (kopen (some ⟨A2, 0, none⟩) 40 vs _).mono ?_
      rintro e x2 ⟨rfl, hb⟩
      have HP3 := Lib.hid (And.intro (HP2.out.1.below hb) (HP2.out.2.below hb))
      clear hb HP2
      have HALM := Lib.hid (kall HP3.out.2 HV.out HP3.out.1.l)
      go_wp2_with fail
      refine HALM.out.mono ?_
      rintro e x3 ⟨p3, cap3, rfl, hcap, -, hr⟩
      have HP4 := Lib.hid (HP3.out.1.below hr.bl)
      have HOFF := Lib.hid (rof22 (w := x3) p3 cap3 HLB.out (RowI.row hr).its)
      clear hr hcap HP3 HALM
      go_wp2_with fail
      refine HOFF.out.mono ?_
      rintro e x4 ⟨p4, cap4, rfl, hde, hb⟩
      have HP5 := Lib.hid (HP4.out.below hb)
      have HEQ := Lib.hid (requal22 (w := x4) p4 p cap4 cap HLB.out hde HP5.out.d)
      clear hb hde HP4 HOFF
      go_wp2_with fail
      refine HEQ.out.mono ?_
      rintro e x5 ⟨rfl, hb⟩
      have HBE := Lib.hid (HP5.out.below hb).v.bs.bel
      clear hb HP5 HEQ
      go_wp2_with fail
      go_ret
      exact ⟨rfl, HBE.out⟩
end Go.Proofs.YtmnhpmgffhpoeaaGreat.Bt
