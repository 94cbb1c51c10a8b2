/- DataTells: the walk. (Written by gen_dkj.py.) -/
import Derived.Test.YtcbbhefgdonabaaDtF
namespace Go.Proofs.Ytcbbhefgdonabaa.Bt
open Go Go.RowKit Go.Shelf Go.Maps
set_option linter.unusedVariables false
set_option linter.unusedSimpArgs false
theorem lawStr : Keyed Try.prog 9 := string_keyed Try.underlying9
theorem zeroU64 (w : World) : (zeroValue 33).run Try.prog w = .ok (.int .u64 0) w := by kernel_rfl
abbrev OwM (x : World) (b n : Nat) (D : DataW Unit) : Prop := x.ownsMap Try.prog 9 (plainElem Try.prog 33) b n D
abbrev RgM (x : World) (b r n : Nat) (D : DataW Unit) (left : Lit → Bool) (cnt : Nat) : Prop := x.ranges Try.prog 9 (plainElem Try.prog 33) b r n D left cnt
/-- the keys, and the map -/
structure Tl (C A b : Nat) (L : List Itm) (n : Nat) (D : DataW Unit) (m : Nat → UInt8) (w x : World) : Prop where
  ky : KyS C A 384 m w x
  kl : Ky m (384 / 32) L
  ow : OwM x b n D
  mi : Mine A b x
section
variable {C A b n : Nat} {L L' : List Itm} {D D' : DataW Unit} {m m' : Nat → UInt8} {w x z : World}
theorem Tl.below (h : Tl C A b L n D m w x) (hb : Below x.heap.size x z) : Tl C A b L n D m w z :=
  ⟨h.ky.below hb, h.kl, h.ow.kept (grown_of_below hb none) (by simp), h.mi.went (Went.of_below h.ky.on hb)⟩
theorem Tl.went (h : Tl C A b L n D m w x) (ho : On A (cS m') z) (hl : Ky m' (384 / 32) L') (hg : Went A x z) : Tl C A b L' n D m' w z :=
  ⟨h.ky.went ho hg, hl, ownsMap_same h.ow (h.mi.same hg), h.mi.went hg⟩
theorem Tl.turn (h : Tl C A b L n D m w x) (hb : w.heap.size ≤ b) (hC : C ≠ b) (ho : OwM z b n D') (hg : x.grownBy z (some b)) : Tl C A b L n D' m w z :=
  ⟨h.ky.turn h.mi hb hC hg, h.kl, ho, Mine.turn h.ky.on h.mi h.mi hg⟩
theorem Tl.mono (h : Tl C A b L n D m w x) {n' : Nat} (hn : n ≤ n') : Tl C A b L n' D m w x := ⟨h.ky, h.kl, h.ow.mono hn, h.mi⟩
end
theorem WideMapsKey (k : ByteArray) (h : k.size ≤ 40) : keyOf Try.prog 9 (.string k) = some (kLit k) := WideMaps.keyOf_string_mk Try.underlying9 (by unfold maxLen; omega)
theorem u64wf (x : Nat) (h : x < 18446744073709551616) : (Lit.int .u64 (x : Int)).wf = true := by
  have e1 : IntKind.u64.min = 0 := by decide
  have e2 : IntKind.u64.max = 18446744073709551615 := by decide
  simp [Lit.wf, e1, e2]; omega
section
variable {w : World}
set_option maxRecDepth 100000 in
set_option maxHeartbeats 16000000 in
theorem dataTells (p : Option Addr) (cap : Nat) (acts : List Act22) (hA : Acts22At w p acts) (hl9 : acts.length ≤ 9223372036854775807) : Calls Try.prog 6 #[.slice p acts.length cap] w (Gives (.bool true) w) := by
  have HA := Lib.hid hA
  have HLI := Lib.hid fun X (hb : Below w.heap.size w X) => light22 (w := X) p cap acts (hA.below hb) hl9
  obtain ⟨N, hN⟩ : ∃ N, acts.length = N := ⟨_, rfl⟩
  have HN := Lib.hid hN
  rw [hN] at hl9 HLI
  rw [hN]
  clear hA hN
  have hmm := @run_makeMap Try.prog
  go_enter Try.func6, Try.ntmps6
  go_wp2_with fail
  refine (awake22 _).mono ?_
  rintro e w1 ⟨rfl, hb⟩
  have HB1 := Lib.hid hb
  clear hb
  go_wp2_with fail
  refine (HLI.out _ HB1.out).mono ?_
  rintro e w2 ⟨⟨bl, rfl, himp⟩, hb⟩
  have HB2 := Lib.hid (HB1.out.trans (hb.mono HB1.out.size))
  clear hb HB1 HLI
  rcases bl with _ | _
  · clear himp
    go_wp2_with fail
    go_ret
    exact ⟨rfl, HB2.out⟩
  have HLG := Lib.hid (himp rfl)
  clear himp
  go_wp2_with fail
  refine (open22 384 (by omega) _).mono ?_
  rintro e w3 ⟨A, rfl, hx, hbs⟩
  have HV0 := Lib.hid (KyS.start (vs := 384) hx (hbs.rebase HB2.out))
  clear hx hbs
  go_upto_region 6 with fail
  change Code.wp _ _ _ _ (w3.alloc (.cells (vwC A 40 384) 67))
  obtain ⟨y, hy⟩ : ∃ y, w3.alloc (.cells (vwC A 40 384) 67) = y := ⟨_, rfl⟩
  obtain ⟨C, hC⟩ : ∃ C, w3.heap.size = C := ⟨_, rfl⟩
  rw [hy, hC] at HV0
  rw [hy, hC]
  clear hy hC
  go_upto_region 7 with fail
  change Code.wp _ _ _ _ (y.alloc (.map #[] 0))
  have HT0 : Hid (Tl C A y.heap.size [] 0 (.map []) (fun _ => 0) w (y.alloc (.map #[] 0))) := Lib.hid ⟨HV0.out.below (bel1 y (.map #[] 0)), Ky.new _, World.ownsMap_made y _ _ _, Mine.new HV0.out.on _⟩
  have HCB : Hid (w.heap.size ≤ y.heap.size ∧ C ≠ y.heap.size) := Lib.hid ⟨HV0.out.bs.bel.size, by have := (Array.getElem?_eq_some_iff.1 HV0.out.c).1; omega⟩
  obtain ⟨y1, hy1⟩ : ∃ z, y.alloc (.map #[] 0) = z := ⟨_, rfl⟩
  obtain ⟨b, hbb⟩ : ∃ b, y.heap.size = b := ⟨_, rfl⟩
  rw [hy1, hbb] at HT0
  rw [hbb] at HCB
  rw [hy1, hbb]
  clear hy1 hbb HV0 hmm
  have hN60 : N ≤ 60 := by have := HLG.out.1; have := HN.out; omega
  go_wp2_with fail
  go_loopw [30] (fun s30 wr => ∃ i : Nat, i ≤ N ∧ s30 = .int .i64 (i : Int) ∧ Hid (∃ m L D, Tl C A b L i D m w wr ∧ Mp L D)) (fun s30 _ => N - (intOf s30).toNat)
  case atStart => exact ⟨0, Nat.zero_le _, rfl, Lib.hid ⟨_, _, _, HT0.out, Mp.new⟩⟩
  case round =>
    clear HT0
    obtain ⟨i, hi, rfl, HS⟩ := hrel
    obtain ⟨m0, L0, D0, ht0, hq0⟩ := HS.out
    have HTR := Lib.hid ht0
    have HQ0 := Lib.hid hq0
    clear ht0 hq0 HS
    by_cases hin : i < N
    · have hin2 : (i : Int) < (N : Int) := by omega
      obtain ⟨a, ha⟩ : ∃ a, acts[i]? = some a := ⟨_, List.getElem?_eq_getElem (by have := HN.out; omega)⟩
      obtain ⟨g, off, rfl, q0, q1, hok⟩ := (HA.out.below HTR.out.ky.bs.bel).get ha
      have HLM := Lib.hid (HLG.out.2 a (List.mem_of_getElem? ha))
      have HOK := Lib.hid hok
      clear ha hok
      obtain ⟨dv, hdv⟩ : ∃ dv, a.d = dv := ⟨_, rfl⟩
      have hdb := HOK.out.dB
      rw [hdv] at hdb q0
      clear hdv
      by_cases hM0 : a.l = []
      · have hl0 : a.l.length = 0 := by rw [hM0]; rfl
        rw [hl0] at q1
        have HT1 := Lib.hid ((HTR.out.below (bel1 wr (.cells #[.int .u8 dv, .slice a.p 0 a.c] 73))).mono (Nat.le_succ i))
        clear hM0 hl0 HTR
        go_wp2_with fail
        go_roundw
        case rel => exact ⟨i + 1, by omega, by go_num, Lib.hid ⟨_, _, _, HT1.out, HQ0.out⟩⟩
        case measure => simp [intOf]; omega
      · obtain ⟨t, ht⟩ : ∃ t, a.l[0]? = some t := ⟨_, List.getElem?_eq_getElem (List.length_pos_iff.2 hM0)⟩
        obtain ⟨M, hM⟩ : ∃ M, a.l.length = M := ⟨_, rfl⟩
        have hMp : 0 < M := by rw [← hM]; exact List.length_pos_iff.2 hM0
        have hM12 : M ≤ 12 := by have := HLM.out.1; omega
        have hMi : ¬ (M : Int) = 0 := by omega
        have hMi2 : ((M : Int) == 0) = false := by simpa using hMi
        obtain ⟨g2, o2, hp2, r0, r1⟩ := HOK.out.at'.cell ht
        rw [Nat.zero_mul, Nat.add_zero] at r0 r1
        obtain ⟨k, xv⟩ := t
        have hks : k.size ≤ 40 := HLM.out.2 _ (List.mem_of_getElem? ht)
        have hxv : xv < 18446744073709551616 := (HOK.out.iB _ (List.mem_of_getElem? ht)).2
        simp only at r0 r1
        rw [hM, hp2] at q1
        have HT1 := Lib.hid ((HTR.out.below (bel1 wr (.cells #[.int .u8 dv, .slice (some ⟨g2, o2, none⟩) M a.c] 73))).below (bel1 _ (.cells #[.string k, .int .u64 (xv : Int)] 75)))
        have HD8 := Lib.hid (blk_at (bel1 (wr.alloc (.cells #[.int .u8 dv, .slice (some ⟨g2, o2, none⟩) M a.c] 73)) (.cells #[.string k, .int .u64 (xv : Int)] 75)) (heap_new wr (.cells #[.int .u8 dv, .slice (some ⟨g2, o2, none⟩) M a.c] 73)))
        have HD9 := Lib.hid (heap_new (wr.alloc (.cells #[.int .u8 dv, .slice (some ⟨g2, o2, none⟩) M a.c] 73)) (.cells #[.string k, .int .u64 (xv : Int)] 75))
        have s0 := (World.cell?_of_block ((bel1 wr (.cells #[.int .u8 dv, .slice (some ⟨g2, o2, none⟩) M a.c] 73)).block _ (World.block_lt_of_cell? _ _ r0))).trans r0
        have s1 := (World.cell?_of_block ((bel1 wr (.cells #[.int .u8 dv, .slice (some ⟨g2, o2, none⟩) M a.c] 73)).block _ (World.block_lt_of_cell? _ _ r1))).trans r1
        clear hM0 hM ht hp2 HTR HOK HLM
        go_upto_region 12 with fail
        change Code.wp _ _ _ _ ((wr.alloc (.cells #[.int .u8 dv, .slice (some ⟨g2, o2, none⟩) M a.c] 73)).alloc (.cells #[.string k, .int .u64 (xv : Int)] 75))
        obtain ⟨y2, hy2⟩ : ∃ z, (wr.alloc (.cells #[.int .u8 dv, .slice (some ⟨g2, o2, none⟩) M a.c] 73)).alloc (.cells #[.string k, .int .u64 (xv : Int)] 75) = z := ⟨_, rfl⟩
        obtain ⟨D8, hD8⟩ : ∃ z, wr.heap.size = z := ⟨_, rfl⟩
        obtain ⟨D9, hD9⟩ : ∃ z, (wr.alloc (.cells #[.int .u8 dv, .slice (some ⟨g2, o2, none⟩) M a.c] 73)).heap.size = z := ⟨_, rfl⟩
        have hD89 : wr.heap.size + 1 = D9 := by rw [← hD9]; simp
        rw [hy2] at HT1 HD8 HD9
        rw [hD8] at HD8
        rw [hD9] at HD9
        rw [hy2, hD89, hD8]
        clear hy2 hD8 hD9 hD89 q0 q1 r0 r1 s0 s1
        obtain ⟨rk, hrk⟩ : ∃ rk, Int.tmod dv 4 = rk := ⟨_, rfl⟩
        have hrb : 0 ≤ rk ∧ rk < 4 := by rw [← hrk, Int.tmod_eq_emod_of_nonneg hdb.1]; omega
        have hrw : IntKind.u8.wrap rk = rk := by rw [IntKind.wrap_u8]; omega
        have hrk2 : dv % 4 = rk := by rw [← hrk, Int.tmod_eq_emod_of_nonneg hdb.1]
        have HKY := Lib.hid (WideMapsKey k hks)
        have d0 := (cell_blk HD8.out 0).1
        have e0 := (cell_blk HD9.out 0).1; have e1 := (cell_blk HD9.out 1).1
        obtain ⟨c0, c1, c2⟩ := HT1.out.ky.all
        by_cases r3 : rk = 3
        · subst r3
          have hrk3 : (Int.tmod dv 4 == 3) = true := by rw [hrk]; rfl
          clear hrb hrk hdb
          by_cases cf : ixK L0 k < L0.length
          · have hth : Maps.has D0 (kLit k) = true := by
              rw [HQ0.out.there]; unfold drC; rw [if_pos cf]; rfl
            have HDR := Lib.hid (kDrop HT1.out.ky.on (by omega) HT1.out.kl k)
            rw [show drC L0 k = 0 from by unfold drC; rw [if_pos cf]] at HDR
            have HOW := Lib.hid HT1.out.ow
            clear cf
            go_wp2_with (at_lookup; refine wpList_lookup_own_ok_int _ rfl _ _ 70 rfl 9 33 .u64 lawStr Try.underlying70 Try.underlying33 (zeroU64 _) b i D0 rfl HOW.out _ _ rfl HKY.out ?_; intro cv hat hwc)
            refine HDR.out.mono ?_
            rintro e x1 ⟨m1, rfl, ho, hl, hg⟩
            have HT2 := Lib.hid (HT1.out.went ho hl hg)
            have HD92 := Lib.hid (hg.keep HT1.out.ky.on HD9.out (by decide) (by decide) (by decide))
            clear ho hl hg HT1 HD8 HD9 HDR HOW d0 e0 e1 c0 c1 c2 hat hwc
            have e0 := (cell_blk HD92.out 0).1; have e1 := (cell_blk HD92.out 1).1
            have HOW := Lib.hid HT2.out.ow
            go_upto_region 22 with (at_delete; refine wpList_delete_own _ rfl _ _ 70 9 rfl 33 lawStr Try.underlying70 _ b i D0 rfl HOW.out _ _ rfl HKY.out ?_; intro x2 hown hturn)
            have HT := Lib.hid ((HT2.out.turn HCB.out.1 HCB.out.2 hown hturn.grown).mono (Nat.le_succ i))
            have HQ := Lib.hid (HQ0.out.drop k)
            obtain ⟨L1, hL1⟩ : ∃ l, drL L0 k = l := ⟨_, rfl⟩
            obtain ⟨D1, hD1⟩ : ∃ l, D0.del (kLit k) = l := ⟨_, rfl⟩
            rw [hL1, hD1] at HT HQ
            clear hown hturn HT2 HOW HD92 HQ0 HKY hL1 hD1 e0 e1
            have HRG := HT.out.ow
            have HRB := Lib.hid HT.out.ky.on
            go_wp2_with (at_range; refine wpList_range_own _ rfl _ 70 rfl 9 33 lawStr Try.underlying70 _ b (i + 1) D1 rfl HRG ?_; intro w0 hrg0 hg0 hs0)
            try go_frame
            have hbz : Below x2.heap.size x2 w0 := ⟨hg0.os, hg0.tape, hg0.output, hg0.size, fun k hk => hg0.block k hk (by simp)⟩
            obtain ⟨r, hr⟩ : ∃ r, x2.heap.size = r := ⟨_, rfl⟩
            have HT0 := Lib.hid (HT.out.below hbz)
            have HMR : Hid (Mine A r w0) := Lib.hid (Mine.fresh HT.out.ky.on hbz (by omega) (by omega))
            have HRR : Hid (RgM w0 b r (i + 1) D1 (Maps.has D1) (Maps.size D1)) := Lib.hid (by rw [← hr]; exact hrg0)
            have HBR : Hid (w.heap.size ≤ r ∧ C ≠ r) := Lib.hid ⟨by have := HT.out.ky.bs.bel.size; omega, by have := (Array.getElem?_eq_some_iff.1 HT.out.ky.c).1; omega⟩
            rw [hr]
            clear hbz hrg0 hg0 hs0 HRG HT hr HRB
            go_loopw [13] (fun s13 wq => ∃ v13, s13 = v13 ∧ Hid (∃ left cnt, RgM wq b r (i + 1) D1 left cnt) ∧ Hid (Tl C A b L1 (i + 1) D1 m1 w wq ∧ Mine A r wq)) (fun _ wq => wq.rangeLeft b r)
            case atStart => exact ⟨_, rfl, Lib.hid ⟨_, _, HRR.out⟩, Lib.hid ⟨HT0.out, HMR.out⟩⟩
            case round =>
              clear HT0 HMR HRR
              obtain ⟨v13, rfl, HRX, HTX⟩ := hrel
              obtain ⟨left, cnt, hrg⟩ := HRX.out
              go_wp2_with (at_next; refine wpList_next_ranges _ rfl _ rfl 9 lawStr (plainElem Try.prog 33) (fun s : ByteArray => Value.string s) (fun c : Int => Value.int .u64 c) (fun key kl hkey => by obtain ⟨x, rfl, _⟩ := keyStr_inv Try.underlying9 hkey; exact ⟨x, rfl⟩) (fun v y hv => by obtain ⟨c, rfl, _⟩ := plainElem_int_inv Try.underlying33 hv; exact ⟨c, rfl⟩) b r (i + 1) D1 left cnt rfl hrg ?_ ?_)
              · intro _ _
                clear hrg
                obtain ⟨c0, c1, c2⟩ := HTX.out.1.ky.all
                go_wp2_with fail
                refine (kall HTX.out.1.ky.on (by omega) HTX.out.1.kl).mono ?_
                rintro e x8 ⟨p8, cap8, rfl, hcap8, -, hr8⟩
                have HT8 := Lib.hid (HTX.out.1.below hr8.bl)
                have hlen : ∀ ty, (Builtin.len_ #[70] ty #[.map (some b)]).run Try.prog x8 = .ok (.int .i64 (Maps.size D1)) x8 := fun ty => HT8.out.ow.len Try.underlying70 ty
                rw [HQ.out.sz] at hlen
                obtain ⟨n8, hn8⟩ : ∃ n8, L1.length = n8 := ⟨_, rfl⟩
                rw [hn8] at hlen
                rw [hn8]
                clear hr8 HTX HRX c0 c1 c2 hcap8 hn8
                go_wp2_with fail
                go_roundw
                case rel => exact ⟨i + 1, by omega, by go_num, Lib.hid ⟨m1, L1, D1, HT8.out, HQ.out⟩⟩
                case measure => simp [intOf]; omega
              · intro x c kl y yp w' cnt' hkey hlk hv hat hrg' hlt hg hs hen
                obtain ⟨x', ex, rfl, hxs⟩ := keyStr_inv Try.underlying9 hkey
                obtain rfl := (Value.string.inj ex)
                obtain ⟨c', ec, hyc, hwc⟩ := plainElem_int_inv Try.underlying33 hv
                obtain ⟨_, rfl⟩ := Value.int.inj ec
                obtain ⟨hgb, hgx⟩ := HQ.out.tell hat
                have hcx : c = (getX L1 x : Int) := by
                  rw [(Prod.mk.inj hyc).1] at hgx
                  injection hgx with h1
                  injection h1
                have HTW : Hid (Tl C A b L1 (i + 1) D1 m1 w w' ∧ Mine A r w') := Lib.hid ⟨⟨HTX.out.1.ky.turn HTX.out.2 HBR.out.1 HBR.out.2 hg, HTX.out.1.kl, hrg'.owns, Mine.turn HTX.out.1.ky.on HTX.out.2 HTX.out.1.mi hg⟩, Mine.turn HTX.out.1.ky.on HTX.out.2 HTX.out.2 hg⟩
                have HGET := Lib.hid (kget HTW.out.1.ky.on (by omega) HTW.out.1.kl x)
                rw [hgb, ← hcx] at HGET
                have HRN := Lib.hid (And.intro hrg' (And.intro hlt hrg))
                obtain ⟨c0, c1, c2⟩ := HTW.out.1.ky.all
                clear hkey hlk hv hat hrg' hlt hg hs hyc hgb hgx hcx HTX HRX hxs hwc hrg
                go_wp2_with fail
                refine HGET.out.mono ?_
                rintro e x8 ⟨rfl, hb8⟩
                have HTY : Hid (Tl C A b L1 (i + 1) D1 m1 w x8 ∧ Mine A r x8) := Lib.hid ⟨HTW.out.1.below hb8, HTW.out.2.went (Went.of_below HTW.out.1.ky.on hb8)⟩
                have HRY := Lib.hid (And.intro (HRN.out.1.kept (grown_of_below hb8 none) (by simp) (by simp)) HRN.out.2)
                clear hb8 HTW HRN HGET c0 c1 c2 hen
                go_wp2_with fail
                go_roundw
                case rel => exact ⟨_, rfl, Lib.hid ⟨_, _, HRY.out.1⟩, HTY⟩
                case measure => rw [HRY.out.1.left_eq, HRY.out.2.2.left_eq]; exact HRY.out.2.1
          · have hth : Maps.has D0 (kLit k) = false := by
              rw [HQ0.out.there]; unfold drC; rw [if_neg cf]; rfl
            have HDR := Lib.hid (kDrop HT1.out.ky.on (by omega) HT1.out.kl k)
            rw [show drC L0 k = 8 from by unfold drC; rw [if_neg cf]] at HDR
            have HOW := Lib.hid HT1.out.ow
            clear cf
            go_wp2_with (at_lookup; refine wpList_lookup_own_ok_int _ rfl _ _ 70 rfl 9 33 .u64 lawStr Try.underlying70 Try.underlying33 (zeroU64 _) b i D0 rfl HOW.out _ _ rfl HKY.out ?_; intro cv hat hwc)
            refine HDR.out.mono ?_
            rintro e x1 ⟨m1, rfl, ho, hl, hg⟩
            have HT2 := Lib.hid (HT1.out.went ho hl hg)
            have HD92 := Lib.hid (hg.keep HT1.out.ky.on HD9.out (by decide) (by decide) (by decide))
            clear ho hl hg HT1 HD8 HD9 HDR HOW d0 e0 e1 c0 c1 c2 hat hwc
            have e0 := (cell_blk HD92.out 0).1; have e1 := (cell_blk HD92.out 1).1
            have HOW := Lib.hid HT2.out.ow
            go_upto_region 22 with (at_delete; refine wpList_delete_own _ rfl _ _ 70 9 rfl 33 lawStr Try.underlying70 _ b i D0 rfl HOW.out _ _ rfl HKY.out ?_; intro x2 hown hturn)
            have HT := Lib.hid ((HT2.out.turn HCB.out.1 HCB.out.2 hown hturn.grown).mono (Nat.le_succ i))
            have HQ := Lib.hid (HQ0.out.drop k)
            obtain ⟨L1, hL1⟩ : ∃ l, drL L0 k = l := ⟨_, rfl⟩
            obtain ⟨D1, hD1⟩ : ∃ l, D0.del (kLit k) = l := ⟨_, rfl⟩
            rw [hL1, hD1] at HT HQ
            clear hown hturn HT2 HOW HD92 HQ0 HKY hL1 hD1 e0 e1
            have HRG := HT.out.ow
            have HRB := Lib.hid HT.out.ky.on
            go_wp2_with (at_range; refine wpList_range_own _ rfl _ 70 rfl 9 33 lawStr Try.underlying70 _ b (i + 1) D1 rfl HRG ?_; intro w0 hrg0 hg0 hs0)
            try go_frame
            have hbz : Below x2.heap.size x2 w0 := ⟨hg0.os, hg0.tape, hg0.output, hg0.size, fun k hk => hg0.block k hk (by simp)⟩
            obtain ⟨r, hr⟩ : ∃ r, x2.heap.size = r := ⟨_, rfl⟩
            have HT0 := Lib.hid (HT.out.below hbz)
            have HMR : Hid (Mine A r w0) := Lib.hid (Mine.fresh HT.out.ky.on hbz (by omega) (by omega))
            have HRR : Hid (RgM w0 b r (i + 1) D1 (Maps.has D1) (Maps.size D1)) := Lib.hid (by rw [← hr]; exact hrg0)
            have HBR : Hid (w.heap.size ≤ r ∧ C ≠ r) := Lib.hid ⟨by have := HT.out.ky.bs.bel.size; omega, by have := (Array.getElem?_eq_some_iff.1 HT.out.ky.c).1; omega⟩
            rw [hr]
            clear hbz hrg0 hg0 hs0 HRG HT hr HRB
            go_loopw [13] (fun s13 wq => ∃ v13, s13 = v13 ∧ Hid (∃ left cnt, RgM wq b r (i + 1) D1 left cnt) ∧ Hid (Tl C A b L1 (i + 1) D1 m1 w wq ∧ Mine A r wq)) (fun _ wq => wq.rangeLeft b r)
            case atStart => exact ⟨_, rfl, Lib.hid ⟨_, _, HRR.out⟩, Lib.hid ⟨HT0.out, HMR.out⟩⟩
            case round =>
              clear HT0 HMR HRR
              obtain ⟨v13, rfl, HRX, HTX⟩ := hrel
              obtain ⟨left, cnt, hrg⟩ := HRX.out
              go_wp2_with (at_next; refine wpList_next_ranges _ rfl _ rfl 9 lawStr (plainElem Try.prog 33) (fun s : ByteArray => Value.string s) (fun c : Int => Value.int .u64 c) (fun key kl hkey => by obtain ⟨x, rfl, _⟩ := keyStr_inv Try.underlying9 hkey; exact ⟨x, rfl⟩) (fun v y hv => by obtain ⟨c, rfl, _⟩ := plainElem_int_inv Try.underlying33 hv; exact ⟨c, rfl⟩) b r (i + 1) D1 left cnt rfl hrg ?_ ?_)
              · intro _ _
                clear hrg
                obtain ⟨c0, c1, c2⟩ := HTX.out.1.ky.all
                go_wp2_with fail
                refine (kall HTX.out.1.ky.on (by omega) HTX.out.1.kl).mono ?_
                rintro e x8 ⟨p8, cap8, rfl, hcap8, -, hr8⟩
                have HT8 := Lib.hid (HTX.out.1.below hr8.bl)
                have hlen : ∀ ty, (Builtin.len_ #[70] ty #[.map (some b)]).run Try.prog x8 = .ok (.int .i64 (Maps.size D1)) x8 := fun ty => HT8.out.ow.len Try.underlying70 ty
                rw [HQ.out.sz] at hlen
                obtain ⟨n8, hn8⟩ : ∃ n8, L1.length = n8 := ⟨_, rfl⟩
                rw [hn8] at hlen
                rw [hn8]
                clear hr8 HTX HRX c0 c1 c2 hcap8 hn8
                go_wp2_with fail
                go_roundw
                case rel => exact ⟨i + 1, by omega, by go_num, Lib.hid ⟨m1, L1, D1, HT8.out, HQ.out⟩⟩
                case measure => simp [intOf]; omega
              · intro x c kl y yp w' cnt' hkey hlk hv hat hrg' hlt hg hs hen
                obtain ⟨x', ex, rfl, hxs⟩ := keyStr_inv Try.underlying9 hkey
                obtain rfl := (Value.string.inj ex)
                obtain ⟨c', ec, hyc, hwc⟩ := plainElem_int_inv Try.underlying33 hv
                obtain ⟨_, rfl⟩ := Value.int.inj ec
                obtain ⟨hgb, hgx⟩ := HQ.out.tell hat
                have hcx : c = (getX L1 x : Int) := by
                  rw [(Prod.mk.inj hyc).1] at hgx
                  injection hgx with h1
                  injection h1
                have HTW : Hid (Tl C A b L1 (i + 1) D1 m1 w w' ∧ Mine A r w') := Lib.hid ⟨⟨HTX.out.1.ky.turn HTX.out.2 HBR.out.1 HBR.out.2 hg, HTX.out.1.kl, hrg'.owns, Mine.turn HTX.out.1.ky.on HTX.out.2 HTX.out.1.mi hg⟩, Mine.turn HTX.out.1.ky.on HTX.out.2 HTX.out.2 hg⟩
                have HGET := Lib.hid (kget HTW.out.1.ky.on (by omega) HTW.out.1.kl x)
                rw [hgb, ← hcx] at HGET
                have HRN := Lib.hid (And.intro hrg' (And.intro hlt hrg))
                obtain ⟨c0, c1, c2⟩ := HTW.out.1.ky.all
                clear hkey hlk hv hat hrg' hlt hg hs hyc hgb hgx hcx HTX HRX hxs hwc hrg
                go_wp2_with fail
                refine HGET.out.mono ?_
                rintro e x8 ⟨rfl, hb8⟩
                have HTY : Hid (Tl C A b L1 (i + 1) D1 m1 w x8 ∧ Mine A r x8) := Lib.hid ⟨HTW.out.1.below hb8, HTW.out.2.went (Went.of_below HTW.out.1.ky.on hb8)⟩
                have HRY := Lib.hid (And.intro (HRN.out.1.kept (grown_of_below hb8 none) (by simp) (by simp)) HRN.out.2)
                clear hb8 HTW HRN HGET c0 c1 c2 hen
                go_wp2_with fail
                go_roundw
                case rel => exact ⟨_, rfl, Lib.hid ⟨_, _, HRY.out.1⟩, HTY⟩
                case measure => rw [HRY.out.1.left_eq, HRY.out.2.2.left_eq]; exact HRY.out.2.1
        · have hrk3 : (Int.tmod dv 4 == 3) = false := by rw [hrk]; simpa using r3
          have HPU := Lib.hid (kSet HT1.out.ky.on (by omega) HT1.out.kl k xv (by omega) hxv)
          rw [putsC_one, kPutL_one] at HPU
          obtain ⟨cc, hcc⟩ : ∃ c, setC L0 (384 / 32) ⟨k, xv⟩ = c := ⟨_, rfl⟩
          rw [hcc] at HPU
          by_cases cz : cc = 0
          · subst cz
            have HCC := Lib.hid hcc
            clear hcc
            go_wp2_with fail
            refine HPU.out.mono ?_
            rintro e x1 ⟨m1, rfl, ho, hl, hg⟩
            have HT2 := Lib.hid (HT1.out.went ho hl hg)
            have HD92 := Lib.hid (hg.keep HT1.out.ky.on HD9.out (by decide) (by decide) (by decide))
            clear ho hl hg HT1 HD8 HD9 HPU d0 e0 e1 c0 c1 c2
            have e0 := (cell_blk HD92.out 0).1; have e1 := (cell_blk HD92.out 1).1
            have HOW := Lib.hid HT2.out.ow
            have HVL := Lib.hid (plainElem_int (H := Unit) Try.underlying33 (a := (xv : Int)) (u64wf xv hxv))
            have hn9 : i < maxLen := by unfold maxLen; omega
            go_upto_region 22 with (at_mapUpdate; refine wpList_mapUpdate_own _ rfl _ _ _ 70 rfl 9 33 lawStr Try.underlying70 _ b i D0 rfl HOW.out hn9 _ _ _ rfl rfl HKY.out _ [] HVL.out ?_; intro x2 hown hgrow)
            have HT : Hid (Tl C A b _ (i + 1) _ m1 w x2) := Lib.hid ⟨HT2.out.ky.turn HT2.out.mi HCB.out.1 HCB.out.2 hgrow, HT2.out.kl, hown, Mine.turn HT2.out.ky.on HT2.out.mi HT2.out.mi hgrow⟩
            have HQ := Lib.hid (HQ0.out.put ⟨k, xv⟩ HCC.out)
            obtain ⟨L1, hL1⟩ : ∃ l, setL L0 (384 / 32) ⟨k, xv⟩ = l := ⟨_, rfl⟩
            obtain ⟨D1, hD1⟩ : ∃ l, D0.put (kLit k) (.lit (.int .u64 (xv : Int))) = l := ⟨_, rfl⟩
            rw [hL1, hD1] at HQ
            rw [hL1, hD1] at HT
            clear hown hgrow HT2 HOW HD92 HQ0 HKY hL1 hD1 e0 e1 HVL hn9
            have HRG := HT.out.ow
            have HRB := Lib.hid HT.out.ky.on
            go_wp2_with (at_range; refine wpList_range_own _ rfl _ 70 rfl 9 33 lawStr Try.underlying70 _ b (i + 1) D1 rfl HRG ?_; intro w0 hrg0 hg0 hs0)
            try go_frame
            have hbz : Below x2.heap.size x2 w0 := ⟨hg0.os, hg0.tape, hg0.output, hg0.size, fun k hk => hg0.block k hk (by simp)⟩
            obtain ⟨r, hr⟩ : ∃ r, x2.heap.size = r := ⟨_, rfl⟩
            have HT0 := Lib.hid (HT.out.below hbz)
            have HMR : Hid (Mine A r w0) := Lib.hid (Mine.fresh HT.out.ky.on hbz (by omega) (by omega))
            have HRR : Hid (RgM w0 b r (i + 1) D1 (Maps.has D1) (Maps.size D1)) := Lib.hid (by rw [← hr]; exact hrg0)
            have HBR : Hid (w.heap.size ≤ r ∧ C ≠ r) := Lib.hid ⟨by have := HT.out.ky.bs.bel.size; omega, by have := (Array.getElem?_eq_some_iff.1 HT.out.ky.c).1; omega⟩
            rw [hr]
            clear hbz hrg0 hg0 hs0 HRG HT hr HRB
            go_loopw [13] (fun s13 wq => ∃ v13, s13 = v13 ∧ Hid (∃ left cnt, RgM wq b r (i + 1) D1 left cnt) ∧ Hid (Tl C A b L1 (i + 1) D1 m1 w wq ∧ Mine A r wq)) (fun _ wq => wq.rangeLeft b r)
            case atStart => exact ⟨_, rfl, Lib.hid ⟨_, _, HRR.out⟩, Lib.hid ⟨HT0.out, HMR.out⟩⟩
            case round =>
              clear HT0 HMR HRR
              obtain ⟨v13, rfl, HRX, HTX⟩ := hrel
              obtain ⟨left, cnt, hrg⟩ := HRX.out
              go_wp2_with (at_next; refine wpList_next_ranges _ rfl _ rfl 9 lawStr (plainElem Try.prog 33) (fun s : ByteArray => Value.string s) (fun c : Int => Value.int .u64 c) (fun key kl hkey => by obtain ⟨x, rfl, _⟩ := keyStr_inv Try.underlying9 hkey; exact ⟨x, rfl⟩) (fun v y hv => by obtain ⟨c, rfl, _⟩ := plainElem_int_inv Try.underlying33 hv; exact ⟨c, rfl⟩) b r (i + 1) D1 left cnt rfl hrg ?_ ?_)
              · intro _ _
                clear hrg
                obtain ⟨c0, c1, c2⟩ := HTX.out.1.ky.all
                go_wp2_with fail
                refine (kall HTX.out.1.ky.on (by omega) HTX.out.1.kl).mono ?_
                rintro e x8 ⟨p8, cap8, rfl, hcap8, -, hr8⟩
                have HT8 := Lib.hid (HTX.out.1.below hr8.bl)
                have hlen : ∀ ty, (Builtin.len_ #[70] ty #[.map (some b)]).run Try.prog x8 = .ok (.int .i64 (Maps.size D1)) x8 := fun ty => HT8.out.ow.len Try.underlying70 ty
                rw [HQ.out.sz] at hlen
                obtain ⟨n8, hn8⟩ : ∃ n8, L1.length = n8 := ⟨_, rfl⟩
                rw [hn8] at hlen
                rw [hn8]
                clear hr8 HTX HRX c0 c1 c2 hcap8 hn8
                go_wp2_with fail
                go_roundw
                case rel => exact ⟨i + 1, by omega, by go_num, Lib.hid ⟨m1, L1, D1, HT8.out, HQ.out⟩⟩
                case measure => simp [intOf]; omega
              · intro x c kl y yp w' cnt' hkey hlk hv hat hrg' hlt hg hs hen
                obtain ⟨x', ex, rfl, hxs⟩ := keyStr_inv Try.underlying9 hkey
                obtain rfl := (Value.string.inj ex)
                obtain ⟨c', ec, hyc, hwc⟩ := plainElem_int_inv Try.underlying33 hv
                obtain ⟨_, rfl⟩ := Value.int.inj ec
                obtain ⟨hgb, hgx⟩ := HQ.out.tell hat
                have hcx : c = (getX L1 x : Int) := by
                  rw [(Prod.mk.inj hyc).1] at hgx
                  injection hgx with h1
                  injection h1
                have HTW : Hid (Tl C A b L1 (i + 1) D1 m1 w w' ∧ Mine A r w') := Lib.hid ⟨⟨HTX.out.1.ky.turn HTX.out.2 HBR.out.1 HBR.out.2 hg, HTX.out.1.kl, hrg'.owns, Mine.turn HTX.out.1.ky.on HTX.out.2 HTX.out.1.mi hg⟩, Mine.turn HTX.out.1.ky.on HTX.out.2 HTX.out.2 hg⟩
                have HGET := Lib.hid (kget HTW.out.1.ky.on (by omega) HTW.out.1.kl x)
                rw [hgb, ← hcx] at HGET
                have HRN := Lib.hid (And.intro hrg' (And.intro hlt hrg))
                obtain ⟨c0, c1, c2⟩ := HTW.out.1.ky.all
                clear hkey hlk hv hat hrg' hlt hg hs hyc hgb hgx hcx HTX HRX hxs hwc hrg
                go_wp2_with fail
                refine HGET.out.mono ?_
                rintro e x8 ⟨rfl, hb8⟩
                have HTY : Hid (Tl C A b L1 (i + 1) D1 m1 w x8 ∧ Mine A r x8) := Lib.hid ⟨HTW.out.1.below hb8, HTW.out.2.went (Went.of_below HTW.out.1.ky.on hb8)⟩
                have HRY := Lib.hid (And.intro (HRN.out.1.kept (grown_of_below hb8 none) (by simp) (by simp)) HRN.out.2)
                clear hb8 HTW HRN HGET c0 c1 c2 hen
                go_wp2_with fail
                go_roundw
                case rel => exact ⟨_, rfl, Lib.hid ⟨_, _, HRY.out.1⟩, HTY⟩
                case measure => rw [HRY.out.1.left_eq, HRY.out.2.2.left_eq]; exact HRY.out.2.1
          · have hczb : (cc == 0) = false := by simpa using cz
            have hsame : setL L0 (384 / 32) ⟨k, xv⟩ = L0 := by unfold setL; rw [if_neg (by rw [hcc]; exact cz)]
            rw [hsame] at HPU
            have HNT := Lib.hid (fun (h1 : k.size ≠ 0) (h2 : ¬ 16 < k.size) => setC_not (L := L0) (384 / 32) ⟨k, xv⟩ (by rw [hcc]; exact cz) h1 h2)
            clear hcc hsame
            go_wp2_with fail
            refine HPU.out.mono ?_
            rintro e x1 ⟨m1, rfl, ho, hl, hg⟩
            have HT2 := Lib.hid (HT1.out.went ho hl hg)
            have HD92 := Lib.hid (hg.keep HT1.out.ky.on HD9.out (by decide) (by decide) (by decide))
            clear ho hl hg HT1 HD8 HD9 HPU d0 e0 e1 c0 c1 c2
            have e0 := (cell_blk HD92.out 0).1; have e1 := (cell_blk HD92.out 1).1
            have HT := Lib.hid (HT2.out.mono (Nat.le_succ i))
            have hlen : ∀ ty, (Builtin.len_ #[70] ty #[.map (some b)]).run Try.prog x1 = .ok (.int .i64 (Maps.size D0)) x1 := fun ty => HT2.out.ow.len Try.underlying70 ty
            rw [HQ0.out.sz] at hlen
            obtain ⟨n9, hn9⟩ : ∃ n9, L0.length = n9 := ⟨_, rfl⟩
            rw [hn9] at hlen
            have hk9 : k.size ≤ 9223372036854775807 := by omega
            have HQ := HQ0
            clear HT2 HKY HQ0
            obtain ⟨L1, hL1⟩ : ∃ l, L0 = l := ⟨_, rfl⟩
            obtain ⟨D1, hD1⟩ : ∃ l, D0 = l := ⟨_, rfl⟩
            rw [hL1] at HT HQ hn9 HNT
            rw [hD1] at HT HQ
            by_cases k1 : k.size = 0
            · have hz : k.toList.isEmpty = true := by
                rw [ByteArray.toList_eq]
                have : k.data.toList.length = 0 := by simpa using k1
                rw [List.eq_nil_of_length_eq_zero this]; rfl
              clear hL1 hD1 hn9 HNT
              go_upto_region 22 with fail
              clear HD92 e0 e1 hlen
              have HRG := HT.out.ow
              have HRB := Lib.hid HT.out.ky.on
              go_wp2_with (at_range; refine wpList_range_own _ rfl _ 70 rfl 9 33 lawStr Try.underlying70 _ b (i + 1) D1 rfl HRG ?_; intro w0 hrg0 hg0 hs0)
              try go_frame
              have hbz : Below x1.heap.size x1 w0 := ⟨hg0.os, hg0.tape, hg0.output, hg0.size, fun k hk => hg0.block k hk (by simp)⟩
              obtain ⟨r, hr⟩ : ∃ r, x1.heap.size = r := ⟨_, rfl⟩
              have HT0 := Lib.hid (HT.out.below hbz)
              have HMR : Hid (Mine A r w0) := Lib.hid (Mine.fresh HT.out.ky.on hbz (by omega) (by omega))
              have HRR : Hid (RgM w0 b r (i + 1) D1 (Maps.has D1) (Maps.size D1)) := Lib.hid (by rw [← hr]; exact hrg0)
              have HBR : Hid (w.heap.size ≤ r ∧ C ≠ r) := Lib.hid ⟨by have := HT.out.ky.bs.bel.size; omega, by have := (Array.getElem?_eq_some_iff.1 HT.out.ky.c).1; omega⟩
              rw [hr]
              clear hbz hrg0 hg0 hs0 HRG HT hr HRB
              go_loopw [13] (fun s13 wq => ∃ v13, s13 = v13 ∧ Hid (∃ left cnt, RgM wq b r (i + 1) D1 left cnt) ∧ Hid (Tl C A b L1 (i + 1) D1 m1 w wq ∧ Mine A r wq)) (fun _ wq => wq.rangeLeft b r)
              case atStart => exact ⟨_, rfl, Lib.hid ⟨_, _, HRR.out⟩, Lib.hid ⟨HT0.out, HMR.out⟩⟩
              case round =>
                clear HT0 HMR HRR
                obtain ⟨v13, rfl, HRX, HTX⟩ := hrel
                obtain ⟨left, cnt, hrg⟩ := HRX.out
                go_wp2_with (at_next; refine wpList_next_ranges _ rfl _ rfl 9 lawStr (plainElem Try.prog 33) (fun s : ByteArray => Value.string s) (fun c : Int => Value.int .u64 c) (fun key kl hkey => by obtain ⟨x, rfl, _⟩ := keyStr_inv Try.underlying9 hkey; exact ⟨x, rfl⟩) (fun v y hv => by obtain ⟨c, rfl, _⟩ := plainElem_int_inv Try.underlying33 hv; exact ⟨c, rfl⟩) b r (i + 1) D1 left cnt rfl hrg ?_ ?_)
                · intro _ _
                  clear hrg
                  obtain ⟨c0, c1, c2⟩ := HTX.out.1.ky.all
                  go_wp2_with fail
                  refine (kall HTX.out.1.ky.on (by omega) HTX.out.1.kl).mono ?_
                  rintro e x8 ⟨p8, cap8, rfl, hcap8, -, hr8⟩
                  have HT8 := Lib.hid (HTX.out.1.below hr8.bl)
                  have hlen : ∀ ty, (Builtin.len_ #[70] ty #[.map (some b)]).run Try.prog x8 = .ok (.int .i64 (Maps.size D1)) x8 := fun ty => HT8.out.ow.len Try.underlying70 ty
                  rw [HQ.out.sz] at hlen
                  obtain ⟨n8, hn8⟩ : ∃ n8, L1.length = n8 := ⟨_, rfl⟩
                  rw [hn8] at hlen
                  rw [hn8]
                  clear hr8 HTX HRX c0 c1 c2 hcap8 hn8
                  go_wp2_with fail
                  go_roundw
                  case rel => exact ⟨i + 1, by omega, by go_num, Lib.hid ⟨m1, L1, D1, HT8.out, HQ.out⟩⟩
                  case measure => simp [intOf]; omega
                · intro x c kl y yp w' cnt' hkey hlk hv hat hrg' hlt hg hs hen
                  obtain ⟨x', ex, rfl, hxs⟩ := keyStr_inv Try.underlying9 hkey
                  obtain rfl := (Value.string.inj ex)
                  obtain ⟨c', ec, hyc, hwc⟩ := plainElem_int_inv Try.underlying33 hv
                  obtain ⟨_, rfl⟩ := Value.int.inj ec
                  obtain ⟨hgb, hgx⟩ := HQ.out.tell hat
                  have hcx : c = (getX L1 x : Int) := by
                    rw [(Prod.mk.inj hyc).1] at hgx
                    injection hgx with h1
                    injection h1
                  have HTW : Hid (Tl C A b L1 (i + 1) D1 m1 w w' ∧ Mine A r w') := Lib.hid ⟨⟨HTX.out.1.ky.turn HTX.out.2 HBR.out.1 HBR.out.2 hg, HTX.out.1.kl, hrg'.owns, Mine.turn HTX.out.1.ky.on HTX.out.2 HTX.out.1.mi hg⟩, Mine.turn HTX.out.1.ky.on HTX.out.2 HTX.out.2 hg⟩
                  have HGET := Lib.hid (kget HTW.out.1.ky.on (by omega) HTW.out.1.kl x)
                  rw [hgb, ← hcx] at HGET
                  have HRN := Lib.hid (And.intro hrg' (And.intro hlt hrg))
                  obtain ⟨c0, c1, c2⟩ := HTW.out.1.ky.all
                  clear hkey hlk hv hat hrg' hlt hg hs hyc hgb hgx hcx HTX HRX hxs hwc hrg
                  go_wp2_with fail
                  refine HGET.out.mono ?_
                  rintro e x8 ⟨rfl, hb8⟩
                  have HTY : Hid (Tl C A b L1 (i + 1) D1 m1 w x8 ∧ Mine A r x8) := Lib.hid ⟨HTW.out.1.below hb8, HTW.out.2.went (Went.of_below HTW.out.1.ky.on hb8)⟩
                  have HRY := Lib.hid (And.intro (HRN.out.1.kept (grown_of_below hb8 none) (by simp) (by simp)) HRN.out.2)
                  clear hb8 HTW HRN HGET c0 c1 c2 hen
                  go_wp2_with fail
                  go_roundw
                  case rel => exact ⟨_, rfl, Lib.hid ⟨_, _, HRY.out.1⟩, HTY⟩
                  case measure => rw [HRY.out.1.left_eq, HRY.out.2.2.left_eq]; exact HRY.out.2.1
            have hz : k.toList.isEmpty = false := keyEmp fun e => by rw [e] at k1; exact k1 (by decide)
            by_cases k2 : 16 < k.size
            · have hk2 : ¬ (k.size : Int) ≤ 16 := by omega
              clear hL1 hD1 hn9 HNT
              go_upto_region 22 with fail
              clear HD92 e0 e1 hlen
              have HRG := HT.out.ow
              have HRB := Lib.hid HT.out.ky.on
              go_wp2_with (at_range; refine wpList_range_own _ rfl _ 70 rfl 9 33 lawStr Try.underlying70 _ b (i + 1) D1 rfl HRG ?_; intro w0 hrg0 hg0 hs0)
              try go_frame
              have hbz : Below x1.heap.size x1 w0 := ⟨hg0.os, hg0.tape, hg0.output, hg0.size, fun k hk => hg0.block k hk (by simp)⟩
              obtain ⟨r, hr⟩ : ∃ r, x1.heap.size = r := ⟨_, rfl⟩
              have HT0 := Lib.hid (HT.out.below hbz)
              have HMR : Hid (Mine A r w0) := Lib.hid (Mine.fresh HT.out.ky.on hbz (by omega) (by omega))
              have HRR : Hid (RgM w0 b r (i + 1) D1 (Maps.has D1) (Maps.size D1)) := Lib.hid (by rw [← hr]; exact hrg0)
              have HBR : Hid (w.heap.size ≤ r ∧ C ≠ r) := Lib.hid ⟨by have := HT.out.ky.bs.bel.size; omega, by have := (Array.getElem?_eq_some_iff.1 HT.out.ky.c).1; omega⟩
              rw [hr]
              clear hbz hrg0 hg0 hs0 HRG HT hr HRB
              go_loopw [13] (fun s13 wq => ∃ v13, s13 = v13 ∧ Hid (∃ left cnt, RgM wq b r (i + 1) D1 left cnt) ∧ Hid (Tl C A b L1 (i + 1) D1 m1 w wq ∧ Mine A r wq)) (fun _ wq => wq.rangeLeft b r)
              case atStart => exact ⟨_, rfl, Lib.hid ⟨_, _, HRR.out⟩, Lib.hid ⟨HT0.out, HMR.out⟩⟩
              case round =>
                clear HT0 HMR HRR
                obtain ⟨v13, rfl, HRX, HTX⟩ := hrel
                obtain ⟨left, cnt, hrg⟩ := HRX.out
                go_wp2_with (at_next; refine wpList_next_ranges _ rfl _ rfl 9 lawStr (plainElem Try.prog 33) (fun s : ByteArray => Value.string s) (fun c : Int => Value.int .u64 c) (fun key kl hkey => by obtain ⟨x, rfl, _⟩ := keyStr_inv Try.underlying9 hkey; exact ⟨x, rfl⟩) (fun v y hv => by obtain ⟨c, rfl, _⟩ := plainElem_int_inv Try.underlying33 hv; exact ⟨c, rfl⟩) b r (i + 1) D1 left cnt rfl hrg ?_ ?_)
                · intro _ _
                  clear hrg
                  obtain ⟨c0, c1, c2⟩ := HTX.out.1.ky.all
                  go_wp2_with fail
                  refine (kall HTX.out.1.ky.on (by omega) HTX.out.1.kl).mono ?_
                  rintro e x8 ⟨p8, cap8, rfl, hcap8, -, hr8⟩
                  have HT8 := Lib.hid (HTX.out.1.below hr8.bl)
                  have hlen : ∀ ty, (Builtin.len_ #[70] ty #[.map (some b)]).run Try.prog x8 = .ok (.int .i64 (Maps.size D1)) x8 := fun ty => HT8.out.ow.len Try.underlying70 ty
                  rw [HQ.out.sz] at hlen
                  obtain ⟨n8, hn8⟩ : ∃ n8, L1.length = n8 := ⟨_, rfl⟩
                  rw [hn8] at hlen
                  rw [hn8]
                  clear hr8 HTX HRX c0 c1 c2 hcap8 hn8
                  go_wp2_with fail
                  go_roundw
                  case rel => exact ⟨i + 1, by omega, by go_num, Lib.hid ⟨m1, L1, D1, HT8.out, HQ.out⟩⟩
                  case measure => simp [intOf]; omega
                · intro x c kl y yp w' cnt' hkey hlk hv hat hrg' hlt hg hs hen
                  obtain ⟨x', ex, rfl, hxs⟩ := keyStr_inv Try.underlying9 hkey
                  obtain rfl := (Value.string.inj ex)
                  obtain ⟨c', ec, hyc, hwc⟩ := plainElem_int_inv Try.underlying33 hv
                  obtain ⟨_, rfl⟩ := Value.int.inj ec
                  obtain ⟨hgb, hgx⟩ := HQ.out.tell hat
                  have hcx : c = (getX L1 x : Int) := by
                    rw [(Prod.mk.inj hyc).1] at hgx
                    injection hgx with h1
                    injection h1
                  have HTW : Hid (Tl C A b L1 (i + 1) D1 m1 w w' ∧ Mine A r w') := Lib.hid ⟨⟨HTX.out.1.ky.turn HTX.out.2 HBR.out.1 HBR.out.2 hg, HTX.out.1.kl, hrg'.owns, Mine.turn HTX.out.1.ky.on HTX.out.2 HTX.out.1.mi hg⟩, Mine.turn HTX.out.1.ky.on HTX.out.2 HTX.out.2 hg⟩
                  have HGET := Lib.hid (kget HTW.out.1.ky.on (by omega) HTW.out.1.kl x)
                  rw [hgb, ← hcx] at HGET
                  have HRN := Lib.hid (And.intro hrg' (And.intro hlt hrg))
                  obtain ⟨c0, c1, c2⟩ := HTW.out.1.ky.all
                  clear hkey hlk hv hat hrg' hlt hg hs hyc hgb hgx hcx HTX HRX hxs hwc hrg
                  go_wp2_with fail
                  refine HGET.out.mono ?_
                  rintro e x8 ⟨rfl, hb8⟩
                  have HTY : Hid (Tl C A b L1 (i + 1) D1 m1 w x8 ∧ Mine A r x8) := Lib.hid ⟨HTW.out.1.below hb8, HTW.out.2.went (Went.of_below HTW.out.1.ky.on hb8)⟩
                  have HRY := Lib.hid (And.intro (HRN.out.1.kept (grown_of_below hb8 none) (by simp) (by simp)) HRN.out.2)
                  clear hb8 HTW HRN HGET c0 c1 c2 hen
                  go_wp2_with fail
                  go_roundw
                  case rel => exact ⟨_, rfl, Lib.hid ⟨_, _, HRY.out.1⟩, HTY⟩
                  case measure => rw [HRY.out.1.left_eq, HRY.out.2.2.left_eq]; exact HRY.out.2.1
            have hk2 : (k.size : Int) ≤ 16 := by omega
            have hl12 : ¬ (n9 : Int) < 12 := by have := HNT.out k1 k2; omega
            clear hL1 hD1 hn9 HNT
            go_upto_region 22 with fail
            clear HD92 e0 e1 hlen
            have HRG := HT.out.ow
            have HRB := Lib.hid HT.out.ky.on
            go_wp2_with (at_range; refine wpList_range_own _ rfl _ 70 rfl 9 33 lawStr Try.underlying70 _ b (i + 1) D1 rfl HRG ?_; intro w0 hrg0 hg0 hs0)
            try go_frame
            have hbz : Below x1.heap.size x1 w0 := ⟨hg0.os, hg0.tape, hg0.output, hg0.size, fun k hk => hg0.block k hk (by simp)⟩
            obtain ⟨r, hr⟩ : ∃ r, x1.heap.size = r := ⟨_, rfl⟩
            have HT0 := Lib.hid (HT.out.below hbz)
            have HMR : Hid (Mine A r w0) := Lib.hid (Mine.fresh HT.out.ky.on hbz (by omega) (by omega))
            have HRR : Hid (RgM w0 b r (i + 1) D1 (Maps.has D1) (Maps.size D1)) := Lib.hid (by rw [← hr]; exact hrg0)
            have HBR : Hid (w.heap.size ≤ r ∧ C ≠ r) := Lib.hid ⟨by have := HT.out.ky.bs.bel.size; omega, by have := (Array.getElem?_eq_some_iff.1 HT.out.ky.c).1; omega⟩
            rw [hr]
            clear hbz hrg0 hg0 hs0 HRG HT hr HRB
            go_loopw [13] (fun s13 wq => ∃ v13, s13 = v13 ∧ Hid (∃ left cnt, RgM wq b r (i + 1) D1 left cnt) ∧ Hid (Tl C A b L1 (i + 1) D1 m1 w wq ∧ Mine A r wq)) (fun _ wq => wq.rangeLeft b r)
            case atStart => exact ⟨_, rfl, Lib.hid ⟨_, _, HRR.out⟩, Lib.hid ⟨HT0.out, HMR.out⟩⟩
            case round =>
              clear HT0 HMR HRR
              obtain ⟨v13, rfl, HRX, HTX⟩ := hrel
              obtain ⟨left, cnt, hrg⟩ := HRX.out
              go_wp2_with (at_next; refine wpList_next_ranges _ rfl _ rfl 9 lawStr (plainElem Try.prog 33) (fun s : ByteArray => Value.string s) (fun c : Int => Value.int .u64 c) (fun key kl hkey => by obtain ⟨x, rfl, _⟩ := keyStr_inv Try.underlying9 hkey; exact ⟨x, rfl⟩) (fun v y hv => by obtain ⟨c, rfl, _⟩ := plainElem_int_inv Try.underlying33 hv; exact ⟨c, rfl⟩) b r (i + 1) D1 left cnt rfl hrg ?_ ?_)
              · intro _ _
                clear hrg
                obtain ⟨c0, c1, c2⟩ := HTX.out.1.ky.all
                go_wp2_with fail
                refine (kall HTX.out.1.ky.on (by omega) HTX.out.1.kl).mono ?_
                rintro e x8 ⟨p8, cap8, rfl, hcap8, -, hr8⟩
                have HT8 := Lib.hid (HTX.out.1.below hr8.bl)
                have hlen : ∀ ty, (Builtin.len_ #[70] ty #[.map (some b)]).run Try.prog x8 = .ok (.int .i64 (Maps.size D1)) x8 := fun ty => HT8.out.ow.len Try.underlying70 ty
                rw [HQ.out.sz] at hlen
                obtain ⟨n8, hn8⟩ : ∃ n8, L1.length = n8 := ⟨_, rfl⟩
                rw [hn8] at hlen
                rw [hn8]
                clear hr8 HTX HRX c0 c1 c2 hcap8 hn8
                go_wp2_with fail
                go_roundw
                case rel => exact ⟨i + 1, by omega, by go_num, Lib.hid ⟨m1, L1, D1, HT8.out, HQ.out⟩⟩
                case measure => simp [intOf]; omega
              · intro x c kl y yp w' cnt' hkey hlk hv hat hrg' hlt hg hs hen
                obtain ⟨x', ex, rfl, hxs⟩ := keyStr_inv Try.underlying9 hkey
                obtain rfl := (Value.string.inj ex)
                obtain ⟨c', ec, hyc, hwc⟩ := plainElem_int_inv Try.underlying33 hv
                obtain ⟨_, rfl⟩ := Value.int.inj ec
                obtain ⟨hgb, hgx⟩ := HQ.out.tell hat
                have hcx : c = (getX L1 x : Int) := by
                  rw [(Prod.mk.inj hyc).1] at hgx
                  injection hgx with h1
                  injection h1
                have HTW : Hid (Tl C A b L1 (i + 1) D1 m1 w w' ∧ Mine A r w') := Lib.hid ⟨⟨HTX.out.1.ky.turn HTX.out.2 HBR.out.1 HBR.out.2 hg, HTX.out.1.kl, hrg'.owns, Mine.turn HTX.out.1.ky.on HTX.out.2 HTX.out.1.mi hg⟩, Mine.turn HTX.out.1.ky.on HTX.out.2 HTX.out.2 hg⟩
                have HGET := Lib.hid (kget HTW.out.1.ky.on (by omega) HTW.out.1.kl x)
                rw [hgb, ← hcx] at HGET
                have HRN := Lib.hid (And.intro hrg' (And.intro hlt hrg))
                obtain ⟨c0, c1, c2⟩ := HTW.out.1.ky.all
                clear hkey hlk hv hat hrg' hlt hg hs hyc hgb hgx hcx HTX HRX hxs hwc hrg
                go_wp2_with fail
                refine HGET.out.mono ?_
                rintro e x8 ⟨rfl, hb8⟩
                have HTY : Hid (Tl C A b L1 (i + 1) D1 m1 w x8 ∧ Mine A r x8) := Lib.hid ⟨HTW.out.1.below hb8, HTW.out.2.went (Went.of_below HTW.out.1.ky.on hb8)⟩
                have HRY := Lib.hid (And.intro (HRN.out.1.kept (grown_of_below hb8 none) (by simp) (by simp)) HRN.out.2)
                clear hb8 HTW HRN HGET c0 c1 c2 hen
                go_wp2_with fail
                go_roundw
                case rel => exact ⟨_, rfl, Lib.hid ⟨_, _, HRY.out.1⟩, HTY⟩
                case measure => rw [HRY.out.1.left_eq, HRY.out.2.2.left_eq]; exact HRY.out.2.1
    · have hin2 : ¬ (i : Int) < (N : Int) := by omega
      go_wp2_with fail
      go_ret
      exact ⟨rfl, HTR.out.ky.bs.bel⟩
end
end Go.Proofs.Ytcbbhefgdonabaa.Bt
