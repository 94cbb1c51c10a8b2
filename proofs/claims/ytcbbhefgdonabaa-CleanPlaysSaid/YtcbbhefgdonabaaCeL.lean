/- CleanPlays. (Written by gen_cel.py.) -/
import Derived.Test.YtcbbhefgdonabaaCkH
import Derived.Test.YtcbbhefgdonabaaArClone
namespace Go.Proofs.Ytcbbhefgdonabaa.Bt
open Go Go.RowKit Go.Shelf
set_option linter.unusedVariables false
set_option linter.unusedSimpArgs false
/-- between two acts -/
structure PlC (C A vs : Nat) (p : Option Addr) (cap : Nat) (L : List Ent) (m : Nat → UInt8) (w x : World) : Prop where
  v : ClS C A vs m w x
  l : Ls m (vs / 24) L
  d : DocE p cap L x
  u : Uq L
section
variable {C A vs cap cap' : Nat} {p p' : Option Addr} {L M : List Ent} {m m' : Nat → UInt8} {w x z : World}
theorem PlC.below (h : PlC C A vs p cap L m w x) (hb : Below x.heap.size x z) : PlC C A vs p cap L m w z := ⟨h.v.below hb, h.l, h.d.below hb, h.u⟩
theorem PlC.len (h : PlC C A vs p cap L m w x) (hv : vs ≤ 400) : L.length ≤ 17 := by have := h.l.len; omega
end
theorem hclone {A : Nat} {s : ASt} {w : World} (h : On A s w) : Calls Try.prog 20 #[.pointer (some ⟨A, 0, none⟩)] w (ClonePost A s w) := by
  obtain ⟨P, ps, p, n, cap, h⟩ := h; exact clone_any h
theorem kL_uq {L : List Ent} (h : Uq L) (id : Nat) : Uq (kL L id) := h.erase _
theorem pL_uq {L : List Ent} (h : Uq L) : Uq (pL L) := h.erase _
/-- a program's act, then the document's: half way -/
structure HfC (C A vs : Nat) (p : Option Addr) (cap : Nat) (L M : List Ent) (m : Nat → UInt8) (w x : World) : Prop where
  v : ClS C A vs m w x
  l : Ls m (vs / 24) M
  d : DocE p cap L x
  u : Uq L
section
variable {C A vs cap cap' : Nat} {p p' : Option Addr} {L M : List Ent} {m m' : Nat → UInt8} {w x z : World}
theorem PlC.half (h : PlC C A vs p cap L m w x) (ho : On A (cS m') z) (hl : Ls m' (vs / 24) M) (hg : Went A x z) : HfC C A vs p cap L M m' w z := ⟨h.v.went ho hg, hl, h.d.went h.v.on hg, h.u⟩
theorem HfC.below (h : HfC C A vs p cap L M m w x) (hb : Below x.heap.size x z) : HfC C A vs p cap L M m w z := ⟨h.v.below hb, h.l, h.d.below hb, h.u⟩
theorem HfC.done (h : HfC C A vs p cap L M m w x) (hb : Below x.heap.size x z) (hd : DocE p' cap' M z) (hu : Uq M) : PlC C A vs p' cap' M m w z := ⟨h.v.below hb, h.l, hd, hu⟩
end
set_option maxHeartbeats 32000000 in
set_option maxRecDepth 100000 in
theorem cplays (size : Int) (hsz : 0 ≤ size ∧ size ≤ 65535) (p0 : Option Addr) (c0' : Nat) (acts : List Act21) (hlen : acts.length ≤ 9223372036854775807) (w : World) (h : Acts21At w p0 acts) :
    Calls Try.prog 3 #[.int .u16 size, .slice p0 acts.length c0'] w fun e w' => e = .returned (.bool true) ∧ Below w.heap.size w w' := by
  have HACT := Lib.hid h
  obtain ⟨sz, rfl⟩ := Int.eq_ofNat_of_zero_le hsz.1
  obtain ⟨vs, hvs⟩ : ∃ vs, sz % 401 = vs := ⟨_, rfl⟩
  have hv : vs ≤ 400 := by rw [← hvs]; have := Nat.mod_lt sz (show 0 < 401 by omega); omega
  have q1 : Int.tmod (sz : Int) 401 = (vs : Int) := by rw [Int.tmod_eq_emod_of_nonneg (by omega), ← hvs]; rfl
  have q2 : IntKind.i64.wrap (sz : Int) = (sz : Int) := by rw [IntKind.wrap_i64]; omega
  have q3 : IntKind.i64.wrap (vs : Int) = (vs : Int) := by rw [IntKind.wrap_i64]; omega
  have q4 : (sz : Int) % 401 = (vs : Int) := by rw [← hvs]; rfl
  have HQ := Lib.hid (And.intro q1 (And.intro q2 (And.intro q3 q4)))
  have HV := Lib.hid hv
  clear h q1 q2 q3 q4 hvs hv hsz
  go_enter Try.func3, Try.ntmps3
  go_wp2_with fail
  refine (awake21 _).mono ?_
  rintro e w0 ⟨rfl, hb⟩
  have HB0 := Lib.hid hb
  have HAC0 := Lib.hid (HACT.out.below hb)
  clear hb
  by_cases h60 : (60 : Int) < (acts.length : Int)
  · go_wp2_with fail
    go_ret
    exact ⟨rfl, HB0.out⟩
  obtain ⟨q1, q2, q3, q4⟩ := HQ.out
  go_wp2_with fail
  refine (open21 vs HV.out _).mono ?_
  rintro e w1 ⟨A, rfl, hx, hb⟩
  have HT0 := Lib.hid (ClS.start (vs := vs) hx (hb.rebase HB0.out))
  have HAC1 := Lib.hid ((HAC0.out.below hb.bel).below (bel1 w1 (.cells (vwC A 40 vs) 29)))
  clear hx hb q1 q2 q3 q4 HAC0
  go_upto_region 7 with fail
  change Code.wp _ _ _ _ (w1.alloc (.cells (vwC A 40 vs) 29))
  obtain ⟨y, hy⟩ : ∃ y, w1.alloc (.cells (vwC A 40 vs) 29) = y := ⟨_, rfl⟩
  obtain ⟨C, hC⟩ : ∃ C, w1.heap.size = C := ⟨_, rfl⟩
  rw [hy] at HAC1
  rw [hy, hC] at HT0
  rw [hy, hC]
  clear hy hC
  obtain ⟨d, hd⟩ : ∃ d, vs / 24 = d := ⟨_, rfl⟩
  have HD := Lib.hid hd
  have hd17 : d ≤ 17 := by have := HV.out; omega
  have hv := HV.out
  have HADD := Lib.hid fun m L X (hX : On A (cS m) X) (hL : Ls m (vs / 24) L) e (he : Ent.ok e) => cAdd hX hv hL e he
  have HKI := Lib.hid fun m L X (hX : On A (cS m) X) (hL : Ls m (vs / 24) L) id => cKill hX hv hL id
  have HPO := Lib.hid fun m L X (hX : On A (cS m) X) (hL : Ls m (vs / 24) L) => cPop hX hv hL
  have HAL := Lib.hid fun A2 m L X (hX : On A2 (cS m) X) (hL : Ls m (vs / 24) L) => call hX hv hL
  have HRO := Lib.hid fun m L X (hX : On A (cS m) X) (hL : Ls m (vs / 24) L) => croom hX hv hL
  rw [hd] at HADD HRO
  have HD17 := Lib.hid hd17
  have q5 : (vs : Int) / 24 = (d : Int) := by omega
  have q6 : (vs : Int).tdiv 24 = (d : Int) := by rw [Int.tdiv_eq_ediv_of_nonneg (by omega)]; omega
  have HQ5 := Lib.hid (And.intro q5 q6)
  clear hd hv hd17 q5 q6
  have HP0 : Hid (∃ m, PlC C A vs none 0 [] m w y) := Lib.hid ⟨_, HT0.out, Ls.new _, DocE.empty _, List.nodup_nil⟩
  obtain ⟨len, hl⟩ : ∃ len, acts.length = len := ⟨_, rfl⟩
  have HL := Lib.hid hl
  have HL60 : Hid (len ≤ 60) := Lib.hid (by omega)
  rw [hl]
  clear hl hlen h60 HT0
  go_wp2_with fail
  go_loopw [9, 45] (fun s9 s45 wr => ∃ (j : Nat) (p : Option Addr) (cap : Nat) (L : List Ent), j ≤ len ∧ s9 = .slice p L.length cap ∧ s45 = .int .i64 (j : Int) ∧ Hid (∃ m, PlC C A vs p cap L m w wr)) (fun _ s45 _ => len - (intOf s45).toNat)
  case atStart => exact ⟨0, none, 0, [], Nat.zero_le _, rfl, rfl, HP0⟩
  case round =>
    clear HP0
    obtain ⟨j, p, cap, L, hj, rfl, rfl, HPm⟩ := hrel
    obtain ⟨m, hpm⟩ := HPm.out
    have HP := Lib.hid hpm
    clear hpm HPm
    obtain ⟨lq, hlq⟩ : ∃ l, L.length = l := ⟨_, rfl⟩
    have HLQ := Lib.hid hlq
    have HLB : Hid (L.length ≤ 100) := Lib.hid (by have := HP.out.len HV.out; omega)
    by_cases hjn : j < len
    · have hjn2 : (j : Int) < (len : Int) := by omega
      have hj0 : (0 : Int) ≤ (j : Int) := by omega
      have hjL : j < acts.length := by rw [HL.out]; exact hjn
      have HJN := Lib.hid (And.intro hjn HL60.out)
      rcases HACT.out.below HP.out.v.bs.bel with e | ⟨b, off, rfl, hbl, hc⟩
      · rw [e] at hjL; simp at hjL
      obtain ⟨⟨k0, k1, k2, k3, k4⟩, hok⟩ := hc j hjL
      obtain ⟨a, ha⟩ : ∃ a, acts[j] = a := ⟨_, rfl⟩
      rw [ha] at k0 k1 k2 k3 k4 hok
      have HOK := Lib.hid hok
      have HA0 : Hid (AcW wr.heap.size a (wr.alloc (.cells #[.int .u8 a.d, .int .u64 (a.e.i : Int), .int .u8 (a.e.k : Int), .int .u8 (a.e.l : Int), .int .u64 (a.e.x : Int)] 37)) ∧ PlC C A vs p cap L m w (wr.alloc (.cells #[.int .u8 a.d, .int .u64 (a.e.i : Int), .int .u8 (a.e.k : Int), .int .u8 (a.e.l : Int), .int .u64 (a.e.x : Int)] 37))) := Lib.hid ⟨heap_new _ _, HP.out.below (bel1 _ _)⟩
      rw [hlq]
      clear hc hbl hjL ha hok hj hjn HP hlq
      go_upto_region 13 with fail
      change Code.wp _ _ _ _ (wr.alloc (.cells #[.int .u8 a.d, .int .u64 (a.e.i : Int), .int .u8 (a.e.k : Int), .int .u8 (a.e.l : Int), .int .u64 (a.e.x : Int)] 37))
      obtain ⟨y3, hy3⟩ : ∃ y, wr.alloc (.cells #[.int .u8 a.d, .int .u64 (a.e.i : Int), .int .u8 (a.e.k : Int), .int .u8 (a.e.l : Int), .int .u64 (a.e.x : Int)] 37) = y := ⟨_, rfl⟩
      obtain ⟨F, hF⟩ : ∃ F, wr.heap.size = F := ⟨_, rfl⟩
      rw [hy3, hF] at HA0
      rw [hy3, hF]
      clear hy3 hF k0 k1 k2 k3 k4
      have HAC1 := Lib.hid HA0.out.1
      have HP1 := Lib.hid HA0.out.2
      clear HA0
      obtain ⟨d0, d1, d2, d3, d4⟩ := HAC1.out.all
      obtain ⟨dv, hdv⟩ : ∃ dv, a.d = dv := ⟨_, rfl⟩
      have hdb := HOK.out.dB
      rw [hdv] at hdb d0
      obtain ⟨rk, hrk⟩ : ∃ rk, Int.tmod dv 5 = rk := ⟨_, rfl⟩
      have hrb : 0 ≤ rk ∧ rk < 5 := by rw [← hrk, Int.tmod_eq_emod_of_nonneg hdb.1]; omega
      have hrw : IntKind.u8.wrap rk = rk := by rw [IntKind.wrap_u8]; omega
      have hrk2 : dv % 5 = rk := by rw [← hrk, Int.tmod_eq_emod_of_nonneg hdb.1]
      clear hdv
      by_cases r3 : rk = 3
      · subst r3
        clear hrb
        have HU2 := Lib.hid (kL_uq HP1.out.u a.e.i)
        have HPC := Lib.hid (HKI.out _ _ _ HP1.out.v.on HP1.out.l a.e.i)
        have HDC := Lib.hid fun mz z1 (HH1 : Hid (HfC C A vs p cap L (kL L a.e.i) mz w z1)) => dKill21 (w := z1) p cap a.e.i HH1.out.d HLB.out
        obtain ⟨G, hG⟩ : ∃ G, gE L a.e.i = G := ⟨_, rfl⟩
        obtain ⟨r, hr⟩ : ∃ r, kR L a.e.i = r := ⟨_, rfl⟩
        rw [hG, hr] at HPC HDC
        obtain ⟨g1, g2, g3, g4⟩ := G
        clear hG hr
        obtain ⟨c0, c1, c2⟩ := HP1.out.v.all
        go_wp2_with fail
        refine HPC.out.mono ?_
        rintro e x0 ⟨m2, rfl, ho, hl, hg⟩
        have HH0 := Lib.hid ((HP1.out.half ho hl hg).below (bel1 x0 (.cells #[.int .u64 (g1 : Int), .int .u8 (g2 : Int), .int .u8 (g3 : Int), .int .u64 (g4 : Int)] 35)))
        have HAC2 := Lib.hid ((HAC1.out.went HP1.out.v.on hg).below (bel1 x0 (.cells #[.int .u64 (g1 : Int), .int .u8 (g2 : Int), .int .u8 (g3 : Int), .int .u64 (g4 : Int)] 35)))
        have HE0 := Lib.hid (heap_new x0 (.cells #[.int .u64 (g1 : Int), .int .u8 (g2 : Int), .int .u8 (g3 : Int), .int .u64 (g4 : Int)] 35))
        clear ho hl hg HP1 HPC HAC1 c0 c1 c2 d0 d1 d2 d3 d4
        go_upto_region 21 with fail
        change Code.wp _ _ _ _ (x0.alloc (.cells #[.int .u64 (g1 : Int), .int .u8 (g2 : Int), .int .u8 (g3 : Int), .int .u64 (g4 : Int)] 35))
        obtain ⟨z1, hz1⟩ : ∃ y, x0.alloc (.cells #[.int .u64 (g1 : Int), .int .u8 (g2 : Int), .int .u8 (g3 : Int), .int .u64 (g4 : Int)] 35) = y := ⟨_, rfl⟩
        obtain ⟨V1, hV1⟩ : ∃ V, x0.heap.size = V := ⟨_, rfl⟩
        rw [hz1] at HH0 HAC2 HE0
        rw [hV1] at HE0
        rw [hz1, hV1]
        clear hz1 hV1
        have HDX := Lib.hid (HDC.out _ _ HH0)
        rw [HLQ.out] at HDX
        obtain ⟨d0, d1, d2, d3, d4⟩ := HAC2.out.all
        go_wp2_with fail
        refine HDX.out.mono ?_
        rintro e x1 ⟨p2, cap2, rfl, hde, hb⟩
        have HPE := Lib.hid ((HH0.out.done hb hde HU2.out).below (bel1 x1 (.cells #[.int .u64 (g1 : Int), .int .u8 (g2 : Int), .int .u8 (g3 : Int), .int .u64 (g4 : Int)] 41)))
        have HE1 := Lib.hid (blk_at (bel1 x1 (.cells #[.int .u64 (g1 : Int), .int .u8 (g2 : Int), .int .u8 (g3 : Int), .int .u64 (g4 : Int)] 41)) (blk_at hb HE0.out))
        have HE2 := Lib.hid (heap_new x1 (.cells #[.int .u64 (g1 : Int), .int .u8 (g2 : Int), .int .u8 (g3 : Int), .int .u64 (g4 : Int)] 41))
        clear hde hb HH0 HDX HDC HE0 HAC2 d0 d1 d2 d3 d4
        go_upto_region 22 with fail
        change Code.wp _ _ _ _ (x1.alloc (.cells #[.int .u64 (g1 : Int), .int .u8 (g2 : Int), .int .u8 (g3 : Int), .int .u64 (g4 : Int)] 41))
        obtain ⟨z2, hz2⟩ : ∃ y, x1.alloc (.cells #[.int .u64 (g1 : Int), .int .u8 (g2 : Int), .int .u8 (g3 : Int), .int .u64 (g4 : Int)] 41) = y := ⟨_, rfl⟩
        obtain ⟨V2, hV2⟩ : ∃ V, x1.heap.size = V := ⟨_, rfl⟩
        rw [hz2] at HPE HE1 HE2
        rw [hV2] at HE2
        rw [hz2, hV2]
        clear hz2 hV2
        have v0 := (cell_blk HE1.out 0).1; have v1 := (cell_blk HE1.out 1).1; have v2 := (cell_blk HE1.out 2).1; have v3 := (cell_blk HE1.out 3).1
        have u0 := (cell_blk HE2.out 0).1; have u1 := (cell_blk HE2.out 1).1; have u2 := (cell_blk HE2.out 2).1; have u3 := (cell_blk HE2.out 3).1
        go_upto_region 31 with fail
        clear v0 v1 v2 v3 u0 u1 u2 u3 HE1 HE2
        have HMB : Hid ((kL L a.e.i).length ≤ 100) := Lib.hid (by have := HPE.out.len HV.out; omega)
        obtain ⟨lm, hlm⟩ : ∃ l, (kL L a.e.i).length = l := ⟨_, rfl⟩
        have HLM := Lib.hid hlm
        have HALM := Lib.hid (HAL.out A _ _ _ HPE.out.v.on HPE.out.l)
        obtain ⟨c0, c1, c2⟩ := HPE.out.v.all
        rw [hlm]
        clear hlm
        go_wp2_with fail
        refine HALM.out.mono ?_
        rintro e x3 ⟨p3, cap3, rfl, hcap, hrow, hb⟩
        have HP3 := Lib.hid (HPE.out.below hb)
        have HOF := Lib.hid (of21 (w := x3) p3 cap3 HMB.out hrow)
        rw [HLM.out] at HOF
        rw [HLM.out]
        clear hb hcap hrow HPE HALM c0 c1 c2
        go_wp2_with fail
        refine HOF.out.mono ?_
        rintro e x4 ⟨p4, cap4, rfl, hde, hb⟩
        have HP4 := Lib.hid (HP3.out.below hb)
        have HEQ := Lib.hid (requal21 (w := x4) p4 p2 cap4 cap2 HMB.out hde HP4.out.d)
        rw [HLM.out] at HEQ
        rw [HLM.out]
        clear hb hde HP3 HOF
        go_wp2_with fail
        refine HEQ.out.mono ?_
        rintro e x5 ⟨rfl, hb⟩
        have HP5 := Lib.hid (HP4.out.below hb)
        have HROM := Lib.hid (HRO.out _ _ _ HP5.out.v.on (by have := HP5.out.l; rw [HD.out] at this; exact this))
        rw [HLM.out] at HROM
        clear hb HP4 HEQ
        obtain ⟨c0, c1, c2⟩ := HP5.out.v.all
        obtain ⟨q5, q6⟩ := HQ5.out
        have hlm17 : lm ≤ 17 := by have := HP5.out.len HV.out; have := HLM.out; omega
        have hd17 := HD17.out
        go_wp2_with fail
        refine HROM.out.mono ?_
        rintro e x6 ⟨rfl, hb⟩
        have HPX : Hid (∃ m, PlC C A vs p2 cap2 (kL L a.e.i) m w x6) := Lib.hid ⟨_, HP5.out.below hb⟩
        clear hb HP5 HROM c0 c1 c2
        obtain ⟨hjn, hlen60⟩ := HJN.out
        have hj1 : (j : Int) + 1 ≤ 9223372036854775807 := by omega
        go_wp2_with fail
        go_roundw
        case rel => exact ⟨j + 1, p2, cap2, kL L a.e.i, by omega, by rw [HLM.out], by go_num, HPX⟩
        case measure => simp [intOf]; omega

      · by_cases r4 : rk = 4
        · subst r4
          clear hrb
          have HU2 := Lib.hid (pL_uq HP1.out.u)
          have HPC := Lib.hid (HPO.out _ _ _ HP1.out.v.on HP1.out.l)
          have HDC := Lib.hid fun mz z1 (HH1 : Hid (HfC C A vs p cap L (pL L) mz w z1)) => dPop21 (w := z1) p cap HH1.out.d HH1.out.u HLB.out
          obtain ⟨G, hG⟩ : ∃ G, pE L = G := ⟨_, rfl⟩
          obtain ⟨r, hr⟩ : ∃ r, pB L = r := ⟨_, rfl⟩
          rw [hG, hr] at HPC HDC
          obtain ⟨g1, g2, g3, g4⟩ := G
          clear hG hr
          obtain ⟨c0, c1, c2⟩ := HP1.out.v.all
          go_wp2_with fail
          refine HPC.out.mono ?_
          rintro e x0 ⟨m2, rfl, ho, hl, hg⟩
          have HH0 := Lib.hid ((HP1.out.half ho hl hg).below (bel1 x0 (.cells #[.int .u64 (g1 : Int), .int .u8 (g2 : Int), .int .u8 (g3 : Int), .int .u64 (g4 : Int)] 35)))
          have HAC2 := Lib.hid ((HAC1.out.went HP1.out.v.on hg).below (bel1 x0 (.cells #[.int .u64 (g1 : Int), .int .u8 (g2 : Int), .int .u8 (g3 : Int), .int .u64 (g4 : Int)] 35)))
          have HE0 := Lib.hid (heap_new x0 (.cells #[.int .u64 (g1 : Int), .int .u8 (g2 : Int), .int .u8 (g3 : Int), .int .u64 (g4 : Int)] 35))
          clear ho hl hg HP1 HPC HAC1 c0 c1 c2 d0 d1 d2 d3 d4
          go_upto_region 27 with fail
          change Code.wp _ _ _ _ (x0.alloc (.cells #[.int .u64 (g1 : Int), .int .u8 (g2 : Int), .int .u8 (g3 : Int), .int .u64 (g4 : Int)] 35))
          obtain ⟨z1, hz1⟩ : ∃ y, x0.alloc (.cells #[.int .u64 (g1 : Int), .int .u8 (g2 : Int), .int .u8 (g3 : Int), .int .u64 (g4 : Int)] 35) = y := ⟨_, rfl⟩
          obtain ⟨V1, hV1⟩ : ∃ V, x0.heap.size = V := ⟨_, rfl⟩
          rw [hz1] at HH0 HAC2 HE0
          rw [hV1] at HE0
          rw [hz1, hV1]
          clear hz1 hV1
          have HDX := Lib.hid (HDC.out _ _ HH0)
          rw [HLQ.out] at HDX
          obtain ⟨d0, d1, d2, d3, d4⟩ := HAC2.out.all
          go_wp2_with fail
          refine HDX.out.mono ?_
          rintro e x1 ⟨p2, cap2, rfl, hde, hb⟩
          have HPE := Lib.hid ((HH0.out.done hb hde HU2.out).below (bel1 x1 (.cells #[.int .u64 (g1 : Int), .int .u8 (g2 : Int), .int .u8 (g3 : Int), .int .u64 (g4 : Int)] 41)))
          have HE1 := Lib.hid (blk_at (bel1 x1 (.cells #[.int .u64 (g1 : Int), .int .u8 (g2 : Int), .int .u8 (g3 : Int), .int .u64 (g4 : Int)] 41)) (blk_at hb HE0.out))
          have HE2 := Lib.hid (heap_new x1 (.cells #[.int .u64 (g1 : Int), .int .u8 (g2 : Int), .int .u8 (g3 : Int), .int .u64 (g4 : Int)] 41))
          clear hde hb HH0 HDX HDC HE0 HAC2 d0 d1 d2 d3 d4
          go_upto_region 28 with fail
          change Code.wp _ _ _ _ (x1.alloc (.cells #[.int .u64 (g1 : Int), .int .u8 (g2 : Int), .int .u8 (g3 : Int), .int .u64 (g4 : Int)] 41))
          obtain ⟨z2, hz2⟩ : ∃ y, x1.alloc (.cells #[.int .u64 (g1 : Int), .int .u8 (g2 : Int), .int .u8 (g3 : Int), .int .u64 (g4 : Int)] 41) = y := ⟨_, rfl⟩
          obtain ⟨V2, hV2⟩ : ∃ V, x1.heap.size = V := ⟨_, rfl⟩
          rw [hz2] at HPE HE1 HE2
          rw [hV2] at HE2
          rw [hz2, hV2]
          clear hz2 hV2
          have v0 := (cell_blk HE1.out 0).1; have v1 := (cell_blk HE1.out 1).1; have v2 := (cell_blk HE1.out 2).1; have v3 := (cell_blk HE1.out 3).1
          have u0 := (cell_blk HE2.out 0).1; have u1 := (cell_blk HE2.out 1).1; have u2 := (cell_blk HE2.out 2).1; have u3 := (cell_blk HE2.out 3).1
          go_upto_region 31 with fail
          clear v0 v1 v2 v3 u0 u1 u2 u3 HE1 HE2
          have HMB : Hid ((pL L).length ≤ 100) := Lib.hid (by have := HPE.out.len HV.out; omega)
          obtain ⟨lm, hlm⟩ : ∃ l, (pL L).length = l := ⟨_, rfl⟩
          have HLM := Lib.hid hlm
          have HALM := Lib.hid (HAL.out A _ _ _ HPE.out.v.on HPE.out.l)
          obtain ⟨c0, c1, c2⟩ := HPE.out.v.all
          rw [hlm]
          clear hlm
          go_wp2_with fail
          refine HALM.out.mono ?_
          rintro e x3 ⟨p3, cap3, rfl, hcap, hrow, hb⟩
          have HP3 := Lib.hid (HPE.out.below hb)
          have HOF := Lib.hid (of21 (w := x3) p3 cap3 HMB.out hrow)
          rw [HLM.out] at HOF
          rw [HLM.out]
          clear hb hcap hrow HPE HALM c0 c1 c2
          go_wp2_with fail
          refine HOF.out.mono ?_
          rintro e x4 ⟨p4, cap4, rfl, hde, hb⟩
          have HP4 := Lib.hid (HP3.out.below hb)
          have HEQ := Lib.hid (requal21 (w := x4) p4 p2 cap4 cap2 HMB.out hde HP4.out.d)
          rw [HLM.out] at HEQ
          rw [HLM.out]
          clear hb hde HP3 HOF
          go_wp2_with fail
          refine HEQ.out.mono ?_
          rintro e x5 ⟨rfl, hb⟩
          have HP5 := Lib.hid (HP4.out.below hb)
          have HROM := Lib.hid (HRO.out _ _ _ HP5.out.v.on (by have := HP5.out.l; rw [HD.out] at this; exact this))
          rw [HLM.out] at HROM
          clear hb HP4 HEQ
          obtain ⟨c0, c1, c2⟩ := HP5.out.v.all
          obtain ⟨q5, q6⟩ := HQ5.out
          have hlm17 : lm ≤ 17 := by have := HP5.out.len HV.out; have := HLM.out; omega
          have hd17 := HD17.out
          go_wp2_with fail
          refine HROM.out.mono ?_
          rintro e x6 ⟨rfl, hb⟩
          have HPX : Hid (∃ m, PlC C A vs p2 cap2 (pL L) m w x6) := Lib.hid ⟨_, HP5.out.below hb⟩
          clear hb HP5 HROM c0 c1 c2
          obtain ⟨hjn, hlen60⟩ := HJN.out
          have hj1 : (j : Int) + 1 ≤ 9223372036854775807 := by omega
          go_wp2_with fail
          go_roundw
          case rel => exact ⟨j + 1, p2, cap2, pL L, by omega, by rw [HLM.out], by go_num, HPX⟩
          case measure => simp [intOf]; omega

        · have r3b : (rk == 3) = false := by simpa using r3
          have r4b : (rk == 4) = false := by simpa using r4
          clear hrb
          have HU2 := Lib.hid (addL_uq (n := d) (e := a.e) HP1.out.u)
          have HPC := Lib.hid (HADD.out _ _ _ HP1.out.v.on (by have := HP1.out.l; rw [HD.out] at this; exact this) a.e HOK.out.eB)
          have HDC := Lib.hid fun mz z1 (HH1 : Hid (HfC C A vs p cap L (addL L d a.e) mz w z1)) => dAdd21 (w := z1) p cap d a.e HH1.out.d (by have := HP1.out.l.len; rw [HD.out] at this; exact this) (by have := HD17.out; omega)
          obtain ⟨r, hr⟩ : ∃ r, addE L d a.e = r := ⟨_, rfl⟩
          rw [hr] at HPC HDC
          clear hr
          obtain ⟨c0, c1, c2⟩ := HP1.out.v.all
          go_wp2_with fail
          refine HPC.out.mono ?_
          rintro e x0 ⟨m2, rfl, ho, hl, hg⟩
          have HH0 := Lib.hid (HP1.out.half ho hl hg)
          have HAC2 := Lib.hid (HAC1.out.went HP1.out.v.on hg)
          have HDX := Lib.hid (HDC.out _ _ HH0)
          rw [HLQ.out] at HDX
          clear ho hl hg HP1 HPC HAC1 HDC c0 c1 c2 d0 d1 d2 d3 d4
          obtain ⟨d0, d1, d2, d3, d4⟩ := HAC2.out.all
          obtain ⟨q5, q6⟩ := HQ5.out
          have hd17 := HD17.out
          have q7 : wrap64 (d : Int) = (d : Int) := IntWalk.wrap64_in _ ⟨by omega, by omega⟩
          go_wp2_with fail
          refine HDX.out.mono ?_
          rintro e x1 ⟨p2, cap2, rfl, hde, hb⟩
          have HPE := Lib.hid (HH0.out.done hb hde HU2.out)
          clear hde hb HH0 HDX HAC2 d0 d1 d2 d3 d4 q5 q6 q7 hd17
          go_upto_region 31 with fail
          have HMB : Hid ((addL L d a.e).length ≤ 100) := Lib.hid (by have := HPE.out.len HV.out; omega)
          obtain ⟨lm, hlm⟩ : ∃ l, (addL L d a.e).length = l := ⟨_, rfl⟩
          have HLM := Lib.hid hlm
          have HALM := Lib.hid (HAL.out A _ _ _ HPE.out.v.on HPE.out.l)
          obtain ⟨c0, c1, c2⟩ := HPE.out.v.all
          rw [hlm]
          clear hlm
          go_wp2_with fail
          refine HALM.out.mono ?_
          rintro e x3 ⟨p3, cap3, rfl, hcap, hrow, hb⟩
          have HP3 := Lib.hid (HPE.out.below hb)
          have HOF := Lib.hid (of21 (w := x3) p3 cap3 HMB.out hrow)
          rw [HLM.out] at HOF
          rw [HLM.out]
          clear hb hcap hrow HPE HALM c0 c1 c2
          go_wp2_with fail
          refine HOF.out.mono ?_
          rintro e x4 ⟨p4, cap4, rfl, hde, hb⟩
          have HP4 := Lib.hid (HP3.out.below hb)
          have HEQ := Lib.hid (requal21 (w := x4) p4 p2 cap4 cap2 HMB.out hde HP4.out.d)
          rw [HLM.out] at HEQ
          rw [HLM.out]
          clear hb hde HP3 HOF
          go_wp2_with fail
          refine HEQ.out.mono ?_
          rintro e x5 ⟨rfl, hb⟩
          have HP5 := Lib.hid (HP4.out.below hb)
          have HROM := Lib.hid (HRO.out _ _ _ HP5.out.v.on (by have := HP5.out.l; rw [HD.out] at this; exact this))
          rw [HLM.out] at HROM
          clear hb HP4 HEQ
          obtain ⟨c0, c1, c2⟩ := HP5.out.v.all
          obtain ⟨q5, q6⟩ := HQ5.out
          have hlm17 : lm ≤ 17 := by have := HP5.out.len HV.out; have := HLM.out; omega
          have hd17 := HD17.out
          go_wp2_with fail
          refine HROM.out.mono ?_
          rintro e x6 ⟨rfl, hb⟩
          have HPX : Hid (∃ m, PlC C A vs p2 cap2 (addL L d a.e) m w x6) := Lib.hid ⟨_, HP5.out.below hb⟩
          clear hb HP5 HROM c0 c1 c2
          obtain ⟨hjn, hlen60⟩ := HJN.out
          have hj1 : (j : Int) + 1 ≤ 9223372036854775807 := by omega
          go_wp2_with fail
          go_roundw
          case rel => exact ⟨j + 1, p2, cap2, addL L d a.e, by omega, by rw [HLM.out], by go_num, HPX⟩
          case measure => simp [intOf]; omega

    · have hjn2 : ¬ (j : Int) < (len : Int) := by omega
      have HCL := Lib.hid (hclone HP.out.v.on)
      rw [hlq]
      clear hlq
      go_wp2_with fail
      refine HCL.out.mono ?_
      rintro e x0 ⟨A2, rfl, ho, hb, hA2, -, -⟩
      have HP1 := Lib.hid (And.intro (HP.out.below hb) ho)
      clear ho hb hA2 HP HCL
      have HOF := Lib.hid (on_of HP1.out.2 40 vs (by omega))
      rw [cS_there (by omega) (by omega) (by have := HV.out; omega), ofV_ok] at HOF
      go_wp2_with fail
      refine HOF.out.mono ?_
      rintro e x1 ⟨rfl, hb⟩
      have HP2 := Lib.hid (And.intro ((HP1.out.1.below hb).below (bel1 x1 (.cells (vwC A2 40 vs) 27))) ((HP1.out.2.below hb).below (bel1 x1 (.cells (vwC A2 40 vs) 27))))
      clear hb HP1 HOF
      go_wp2_with fail
      refine (copen (some ⟨A2, 0, none⟩) 40 vs _).mono ?_
      rintro e x2 ⟨rfl, hb⟩
      have HP3 := Lib.hid (And.intro (HP2.out.1.below hb) (HP2.out.2.below hb))
      clear hb HP2
      have HALM := Lib.hid (HAL.out A2 _ _ _ HP3.out.2 HP3.out.1.l)
      go_wp2_with fail
      refine HALM.out.mono ?_
      rintro e x3 ⟨p3, cap3, rfl, hcap, hrow, hb⟩
      rw [HLQ.out]
      have HP4 := Lib.hid (HP3.out.1.below hb)
      have HOFF := Lib.hid (of21 (w := x3) p3 cap3 HLB.out hrow)
      rw [HLQ.out] at HOFF
      clear hb hcap hrow HP3 HALM
      go_wp2_with fail
      refine HOFF.out.mono ?_
      rintro e x4 ⟨p4, cap4, rfl, hde, hb⟩
      have HP5 := Lib.hid (HP4.out.below hb)
      have HEQ := Lib.hid (requal21 (w := x4) p4 p cap4 cap HLB.out hde HP5.out.d)
      rw [HLQ.out] at HEQ
      rw [HLQ.out]
      clear hb hde HP4 HOFF
      go_wp2_with fail
      refine HEQ.out.mono ?_
      rintro e x5 ⟨rfl, hb⟩
      have HBE := Lib.hid (HP5.out.below hb).v.bs.bel
      clear hb HP5 HEQ
      go_wp2_with fail
      go_ret
      exact ⟨rfl, HBE.out⟩
end Go.Proofs.Ytcbbhefgdonabaa.Bt
