/- DataOrder: the walk. (Written by gen_dqc.py.) -/
import Derived.Test.YtcbbhefgdonabaaGreatDuF
namespace Go.Proofs.YtcbbhefgdonabaaGreat.Bt
open Go Go.RowKit Go.Shelf
set_option linter.unusedVariables false
set_option linter.unusedSimpArgs false
theorem wp_append_runK {w z : World} {o : Oper} {a : Act} {K : Act → World → Prop} {Q : Exit → Act → World → Prop} (s x : Operand) (t : TypeId)
    (ho : o.op = .call { callee := .builtin .append, args := #[s, x], argTypes := #[t, t] }) (v vx v' : Value) (hs : a.eval s = v) (hx : a.eval x = vx)
    (hr : (Builtin.append_ #[t, t] o.type #[v, vx]).run Tryz.prog w = .ok v' z) (h : K (a.put o.dst v') z) : o.wp Tryz.prog a w K Q := by
  unfold Oper.wp execOp
  simp only [ho, resolve, invoke, builtin, Sem.run_bind, Sem.run_pure, Result.andThen_ok, List.map_toArray, List.map_cons, List.map_nil, hs, hx, hr]
  exact h

section
variable {w : World}
set_option maxRecDepth 100000 in
set_option maxHeartbeats 16000000 in
theorem dataOrder (p : Option Addr) (cap : Nat) (acts : List Act22) (hA : Acts22At w p acts) (hl9 : acts.length ≤ 9223372036854775807) : Calls Tryz.prog 4 #[.slice p acts.length cap] w (Gives (.bool true) w) := by
  have HA := Lib.hid hA
  have HLI := Lib.hid fun X (hb : Below w.heap.size w X) => light22 (w := X) p cap acts (hA.below hb) hl9
  obtain ⟨N, hN⟩ : ∃ N, acts.length = N := ⟨_, rfl⟩
  have HN := Lib.hid hN
  rw [hN] at hl9 HLI
  rw [hN]
  clear hA hN
  go_enter Tryz.func4, Tryz.ntmps4
  go_wp2_with fail
  refine (awake22 _).mono ?_
  rintro e w1 ⟨rfl, hb⟩
  have HB1 := Lib.hid hb
  clear hb
  go_wp2_with fail
  refine (HLI.out _ HB1.out).mono ?_
  rintro e w2 ⟨⟨bl, rfl, himp⟩, hb⟩
  have HB2 := Lib.hid (HB1.out.trans (hb.mono HB1.out.size))
  clear hb HB1 HLI
  rcases bl with _ | _
  · clear himp
    go_wp2_with fail
    go_ret
    exact ⟨rfl, HB2.out⟩
  have HLG := Lib.hid (himp rfl)
  clear himp
  go_wp2_with fail
  refine (open22 384 (by omega) _).mono ?_
  rintro e w3 ⟨A, rfl, hx, hbs⟩
  have HV0 := Lib.hid (KyS.start (vs := 384) hx (hbs.rebase HB2.out))
  clear hx hbs
  go_upto_region 6 with fail
  change Code.wp _ _ _ _ (w3.alloc (.cells (vwC A 40 384) 30))
  obtain ⟨y, hy⟩ : ∃ y, w3.alloc (.cells (vwC A 40 384) 30) = y := ⟨_, rfl⟩
  obtain ⟨C, hC⟩ : ∃ C, w3.heap.size = C := ⟨_, rfl⟩
  rw [hy, hC] at HV0
  rw [hy, hC]
  clear hy hC
  have HT0 : Hid (DqS C A y.heap.size (fun _ => 0) (.slice none 0 0) [] w y) := Lib.hid ⟨HV0.out, Ky.new _, OrS.nil _ _ _, HV0.out.bs.bel.size, Nat.le_refl _⟩
  obtain ⟨b, hbb⟩ : ∃ b, y.heap.size = b := ⟨_, rfl⟩
  rw [hbb] at HT0
  clear hbb HV0
  have hN60 : N ≤ 60 := by have := HLG.out.1; have := HN.out; omega
  go_wp2_with fail
  go_loopw [6, 26] (fun s6 s26 wr => ∃ (i : Nat) (v6 : Value), i ≤ N ∧ v6 = s6 ∧ s26 = .int .i64 (i : Int) ∧ Hid (∃ b m L, DqS C A b m v6 L w wr)) (fun _ s26 _ => N - (intOf s26).toNat)
  case atStart => exact ⟨0, _, Nat.zero_le _, rfl, rfl, Lib.hid ⟨_, _, _, HT0.out⟩⟩
  case round =>
    clear HT0
    obtain ⟨i, v6, hi, rfl, rfl, HS⟩ := hrel
    obtain ⟨b, m0, L0, ht0⟩ := HS.out
    have HTR := Lib.hid ht0
    clear ht0 HS
    by_cases hin : i < N
    · have hin2 : (i : Int) < (N : Int) := by omega
      obtain ⟨a, ha⟩ : ∃ a, acts[i]? = some a := ⟨_, List.getElem?_eq_getElem (by have := HN.out; omega)⟩
      obtain ⟨g, off, rfl, q0, q1, hok⟩ := (HA.out.below HTR.out.ky.bs.bel).get ha
      have HLM := Lib.hid (HLG.out.2 a (List.mem_of_getElem? ha))
      have HOK := Lib.hid hok
      clear ha hok
      obtain ⟨dv, hdv⟩ : ∃ dv, a.d = dv := ⟨_, rfl⟩
      have hdb := HOK.out.dB
      rw [hdv] at hdb q0
      clear hdv
      by_cases hM0 : a.l = []
      · have hl0 : a.l.length = 0 := by rw [hM0]; rfl
        rw [hl0] at q1
        have HT1 := Lib.hid (HTR.out.below (bel1 wr (.cells #[.int .u8 dv, .slice a.p 0 a.c] 36)))
        clear hM0 hl0 HTR
        go_wp2_with fail
        go_roundw
        case rel => exact ⟨i + 1, _, by omega, rfl, by go_num, Lib.hid ⟨_, _, _, HT1.out⟩⟩
        case measure => simp [intOf]; omega
      · obtain ⟨t, ht⟩ : ∃ t, a.l[0]? = some t := ⟨_, List.getElem?_eq_getElem (List.length_pos_iff.2 hM0)⟩
        obtain ⟨M, hM⟩ : ∃ M, a.l.length = M := ⟨_, rfl⟩
        have hMp : 0 < M := by rw [← hM]; exact List.length_pos_iff.2 hM0
        have hM12 : M ≤ 12 := by have := HLM.out.1; omega
        have hMi : ¬ (M : Int) = 0 := by omega
        have hMi2 : ((M : Int) == 0) = false := by simpa using hMi
        obtain ⟨g2, o2, hp2, r0, r1⟩ := HOK.out.at'.cell ht
        rw [Nat.zero_mul, Nat.add_zero] at r0 r1
        obtain ⟨k, xv⟩ := t
        have hks : k.size ≤ 40 := HLM.out.2 _ (List.mem_of_getElem? ht)
        have hxv : xv < 18446744073709551616 := (HOK.out.iB _ (List.mem_of_getElem? ht)).2
        simp only at r0 r1
        rw [hM, hp2] at q1
        have HT1 := Lib.hid ((HTR.out.below (bel1 wr (.cells #[.int .u8 dv, .slice (some ⟨g2, o2, none⟩) M a.c] 36))).below (bel1 _ (.cells #[.string k, .int .u64 (xv : Int)] 39)))
        have HD8 := Lib.hid (blk_at (bel1 (wr.alloc (.cells #[.int .u8 dv, .slice (some ⟨g2, o2, none⟩) M a.c] 36)) (.cells #[.string k, .int .u64 (xv : Int)] 39)) (heap_new wr (.cells #[.int .u8 dv, .slice (some ⟨g2, o2, none⟩) M a.c] 36)))
        have HD9 := Lib.hid (heap_new (wr.alloc (.cells #[.int .u8 dv, .slice (some ⟨g2, o2, none⟩) M a.c] 36)) (.cells #[.string k, .int .u64 (xv : Int)] 39))
        have s0 := (World.cell?_of_block ((bel1 wr (.cells #[.int .u8 dv, .slice (some ⟨g2, o2, none⟩) M a.c] 36)).block _ (World.block_lt_of_cell? _ _ r0))).trans r0
        have s1 := (World.cell?_of_block ((bel1 wr (.cells #[.int .u8 dv, .slice (some ⟨g2, o2, none⟩) M a.c] 36)).block _ (World.block_lt_of_cell? _ _ r1))).trans r1
        clear hM0 hM ht hp2 HTR HOK HLM
        go_upto_region 12 with fail
        change Code.wp _ _ _ _ ((wr.alloc (.cells #[.int .u8 dv, .slice (some ⟨g2, o2, none⟩) M a.c] 36)).alloc (.cells #[.string k, .int .u64 (xv : Int)] 39))
        obtain ⟨y2, hy2⟩ : ∃ z, (wr.alloc (.cells #[.int .u8 dv, .slice (some ⟨g2, o2, none⟩) M a.c] 36)).alloc (.cells #[.string k, .int .u64 (xv : Int)] 39) = z := ⟨_, rfl⟩
        obtain ⟨D8, hD8⟩ : ∃ z, wr.heap.size = z := ⟨_, rfl⟩
        obtain ⟨D9, hD9⟩ : ∃ z, (wr.alloc (.cells #[.int .u8 dv, .slice (some ⟨g2, o2, none⟩) M a.c] 36)).heap.size = z := ⟨_, rfl⟩
        have hD89 : wr.heap.size + 1 = D9 := by rw [← hD9]; simp
        rw [hy2] at HT1 HD8 HD9
        rw [hD8] at HD8
        rw [hD9] at HD9
        rw [hy2, hD89, hD8]
        clear hy2 hD8 hD9 hD89 q0 q1 r0 r1 s0 s1
        obtain ⟨rk, hrk⟩ : ∃ rk, Int.tmod dv 4 = rk := ⟨_, rfl⟩
        have hrb : 0 ≤ rk ∧ rk < 4 := by rw [← hrk, Int.tmod_eq_emod_of_nonneg hdb.1]; omega
        have hrw : IntKind.u8.wrap rk = rk := by rw [IntKind.wrap_u8]; omega
        have hrk2 : dv % 4 = rk := by rw [← hrk, Int.tmod_eq_emod_of_nonneg hdb.1]
        have d0 := (cell_blk HD8.out 0).1
        have e0 := (cell_blk HD9.out 0).1; have e1 := (cell_blk HD9.out 1).1
        obtain ⟨c0, c1, c2⟩ := HT1.out.ky.all
        by_cases r3 : rk = 3
        · subst r3
          have hrk3 : (Int.tmod dv 4 == 3) = true := by rw [hrk]; rfl
          clear hrb hrk hdb
          by_cases cf : ixK L0 k < L0.length
          · have HDR := Lib.hid (kDrop HT1.out.ky.on (by omega) HT1.out.kl k)
            rw [show drC L0 k = 0 from by unfold drC; rw [if_pos cf]] at HDR
            rw [show drL L0 k = L0.eraseIdx (ixK L0 k) from by unfold drL; rw [if_pos cf]] at HDR
            have hxv2 : ixKV L0 k = (ixK L0 k : Int) := by unfold ixKV; rw [if_pos cf]
            have HLL0 := Lib.hid HT1.out.kl.len
            obtain ⟨dd, hdd⟩ : ∃ d, ixK L0 k = d := ⟨_, rfl⟩
            obtain ⟨nl, hnl⟩ : ∃ n, L0.length = n := ⟨_, rfl⟩
            rw [hdd] at HDR hxv2 cf
            rw [hnl] at cf
            have HNL := Lib.hid hnl
            have HXV := Lib.hid hxv2
            have HNL2 : Hid (nl ≤ 17) := Lib.hid (by have := HLL0.out; omega)
            clear hdd hxv2 HLL0
            obtain ⟨p6, cp, rfl, hcap, hrow⟩ := HT1.out.os.row
            obtain ⟨gp, rfl⟩ : ∃ gp, p6 = some ⟨gp, 0, none⟩ := by
              rcases hrow with e | ⟨g, _, e, _⟩
              · rw [e] at hnl; simp at hnl; omega
              · exact ⟨g, e⟩
            rw [hnl] at hcap
            clear hrow hnl
            rw [HNL.out]
            go_wp2_with fail
            refine HDR.out.mono ?_
            rintro e x1 ⟨m1, rfl, ho, hl, hg⟩
            have HS3 : Hid (KyS C A 384 m1 w x1 ∧ Ky m1 (384 / 32) (L0.eraseIdx dd) ∧ OrS A b (.slice (some ⟨gp, 0, none⟩) L0.length cp) L0 x1 ∧ w.heap.size ≤ b ∧ b ≤ x1.heap.size) := Lib.hid ⟨HT1.out.ky.went ho hg, hl, HT1.out.os.went hg, HT1.out.bb, Nat.le_trans HT1.out.bs hg.size⟩
            have HD92 := Lib.hid (hg.keep HT1.out.ky.on HD9.out (by decide) (by decide) (by decide))
            clear ho hl hg HT1 HD8 HD9 HDR d0 e0 e1 c0 c1 c2
            have e0 := (cell_blk HD92.out 0).1; have e1 := (cell_blk HD92.out 1).1
            go_wp2_with fail
            have hSI := sindex (w := x1) (L := L0) (some ⟨gp, 0, none⟩) cp k (by
              obtain ⟨p', c', e, _, h⟩ := HS3.out.2.2.1.row
              have e2 := (Value.slice.injEq _ _ _ _ _ _).mp e
              rw [e2.1]; exact h) (by have := HNL.out; have := HNL2.out; omega)
            rw [HXV.out, HNL.out] at hSI
            refine hSI.mono ?_
            clear hSI
            rintro e x2 ⟨rfl, hb⟩
            have HS4 : Hid (KyS C A 384 m1 w x2 ∧ Ky m1 (384 / 32) (L0.eraseIdx dd) ∧ OrS A b (.slice (some ⟨gp, 0, none⟩) L0.length cp) L0 x2 ∧ w.heap.size ≤ b ∧ b ≤ x2.heap.size) := Lib.hid ⟨HS3.out.1.below hb, HS3.out.2.1, HS3.out.2.2.1.below HS3.out.1.on hb, HS3.out.2.2.2.1, Nat.le_trans HS3.out.2.2.2.2 hb.size⟩
            clear hb HS3 HD92 e0 e1 HXV
            have hdc : ¬ (cp < dd) := by omega
            have hwd : IntKind.i64.wrap ((dd : Int) + 1) = (dd : Int) + 1 := by rw [IntKind.wrap_i64]; have := HNL2.out; omega
            have hrg : 0 ≤ (dd : Int) + 1 ∧ (dd : Int) + 1 ≤ (nl : Int) := by omega
            have HAD2 : ∃ ad : Addr, (if cp = dd + 1 then some (⟨gp, 0, none⟩ : Addr) else some ⟨gp, dd + 1, none⟩) = some ad ∧ ∀ X : World, RowG 9 kE 1 (some ⟨gp, 0, none⟩) L0 X → ∀ j u, (flG kE (L0.drop (dd + 1)))[j]? = some u → X.cell? (ad.add j) = some u := by
              by_cases c : cp = dd + 1
              · refine ⟨_, if_pos c, fun X hX j u hu => ?_⟩
                rw [List.drop_eq_nil_of_le (by have := HNL.out; omega)] at hu
                simp [flG] at hu
              · refine ⟨_, if_neg c, fun X hX j u hu => ?_⟩
                refine partK (a := dd + 1) hX L0.length j u ?_
                rw [List.take_of_length_le (by simp)]
                exact hu
            obtain ⟨ad, had⟩ := HAD2
            have HAD := Lib.hid had
            clear had
            go_upto_region 15 with fail
            refine wp_region_held_drew (S := fun _ => True) (by kernel_rfl) trivial (fun hHeld => ?_)
            have HS5 : Hid (KyS C A 384 m1 w x2.drew ∧ Ky m1 (384 / 32) (L0.eraseIdx dd) ∧ OrS A b (.slice (some ⟨gp, 0, none⟩) L0.length cp) L0 x2.drew ∧ w.heap.size ≤ b ∧ b ≤ x2.drew.heap.size) := Lib.hid ⟨HS4.out.1.below (Below.refl _ _).drew, HS4.out.2.1, HS4.out.2.2.1.below HS4.out.1.on (Below.refl _ _).drew, HS4.out.2.2.2⟩
            clear HS4
            generalize x2.drew = x3 at *
            refine wpAnyH_take (i := 1) (v := (.slice (some ⟨gp, 0, none⟩) nl cp)) rfl (by kernel_rfl) (by kernel_rfl) (by kernel_rfl) (fun _ _ _ h => h) (Or.inl ⟨by rfl, fun X hS => ?_⟩) hHeld ?_
            · go_simp
            try simp only [Act.put, List.getElem_toArray, List.getElem_cons_zero, List.getElem_cons_succ, List.setIfInBounds_toArray, List.set_cons_zero, List.set_cons_succ]
            refine wpAnyH_take (i := 2) (v := (.int .i64 (dd : Int))) rfl (by kernel_rfl) (by kernel_rfl) (by kernel_rfl) (fun _ _ _ h => h) (Or.inl ⟨by rfl, fun X hS => ?_⟩) hHeld ?_
            · go_simp
            try simp only [Act.put, List.getElem_toArray, List.getElem_cons_zero, List.getElem_cons_succ, List.setIfInBounds_toArray, List.set_cons_zero, List.set_cons_succ]
            refine wpAnyH_take (i := 3) (v := (.slice (some ⟨gp, 0, none⟩) dd cp)) rfl (by kernel_rfl) (by kernel_rfl) (by kernel_rfl) (fun _ _ _ h => h) (Or.inl ⟨by rfl, fun X hS => ?_⟩) hHeld ?_
            · go_simp
              all_goals skip
            try simp only [Act.put, List.getElem_toArray, List.getElem_cons_zero, List.getElem_cons_succ, List.setIfInBounds_toArray, List.set_cons_zero, List.set_cons_succ]
            refine wpAnyH_take (i := 5) (v := (.slice (some ⟨gp, 0, none⟩) nl cp)) rfl (by kernel_rfl) (by kernel_rfl) (by kernel_rfl) (fun _ _ _ h => h) (Or.inl ⟨by rfl, fun X hS => ?_⟩) hHeld ?_
            · go_simp
            try simp only [Act.put, List.getElem_toArray, List.getElem_cons_zero, List.getElem_cons_succ, List.setIfInBounds_toArray, List.set_cons_zero, List.set_cons_succ]
            refine wpAnyH_take (i := 6) (v := (.int .i64 (dd : Int))) rfl (by kernel_rfl) (by kernel_rfl) (by kernel_rfl) (fun _ _ _ h => h) (Or.inl ⟨by rfl, fun X hS => ?_⟩) hHeld ?_
            · go_simp
            try simp only [Act.put, List.getElem_toArray, List.getElem_cons_zero, List.getElem_cons_succ, List.setIfInBounds_toArray, List.set_cons_zero, List.set_cons_succ]
            refine wpAnyH_take (i := 7) (v := (.int .i64 ((dd : Int) + 1))) rfl (by kernel_rfl) (by kernel_rfl) (by kernel_rfl) (fun _ _ _ h => h) (Or.inl ⟨by rfl, fun X hS => ?_⟩) hHeld ?_
            · go_simp
              all_goals skip
            try simp only [Act.put, List.getElem_toArray, List.getElem_cons_zero, List.getElem_cons_succ, List.setIfInBounds_toArray, List.set_cons_zero, List.set_cons_succ]
            refine wpAnyH_take (i := 8) (v := (.slice (some ad) (nl - (dd + 1)) (cp - (dd + 1)))) rfl (by kernel_rfl) (by kernel_rfl) (by kernel_rfl) (fun _ _ _ h => h) (Or.inl ⟨by rfl, fun X hS => ?_⟩) hHeld ?_
            · go_simp
              rw [HAD.out.1]
            try simp only [Act.put, List.getElem_toArray, List.getElem_cons_zero, List.getElem_cons_succ, List.setIfInBounds_toArray, List.set_cons_zero, List.set_cons_succ]
            refine wpAnyH_ready (rs := [0]) (by kernel_rfl) (by simp) (AllReadyH.cons rfl (fun K1 hK1 => ?_) AllReadyH.nil)
            go_simp
            have hb0 := bel1 x3 (.cells #[] 9)
            have hL5 := OrS.lit0 HS5.out.1.on
            have hk5 := HS5.out.1.below hb0
            have ho5 := HS5.out.2.2.1.below HS5.out.1.on hb0
            have hro5 : RowG 9 kE 1 (some ⟨gp, 0, none⟩) L0 (x3.alloc (.cells #[] 9)) := by
              obtain ⟨p', c', e, _, h⟩ := ho5.row
              have e2 := (Value.slice.injEq _ _ _ _ _ _).mp e
              rw [e2.1]; exact h
            have hgp : gp < x3.heap.size := (HS5.out.2.2.1.ow.lt gp rfl).2
            have hCl : C < x3.heap.size := (Array.getElem?_eq_some_iff.1 HS5.out.1.c).1
            have hwx : w.heap.size ≤ x3.heap.size := HS5.out.1.bs.bel.size
            have hsz5 : x3.heap.size ≤ (x3.alloc (.cells #[] 9)).heap.size := by simp
            obtain ⟨v1, x4, hap1, hlv1, hgr1⟩ := hL5.append (news := L0.take dd) hk5.on (by have := HNL2.out; have := HNL.out; simp; omega) hsz5 60 ⟨gp, 0, none⟩ dd cp (by have := HNL.out; simp; omega) (partK (a := 0) hro5 dd)
            rw [List.nil_append] at hlv1
            have hk6 : KyS C A 384 m1 w x4 := hk5.turn (hL5.mi _ rfl) hwx (Nat.ne_of_lt hCl) hgr1
            have hro6 : RowG 9 kE 1 (some ⟨gp, 0, none⟩) L0 x4 := by
              rcases hro5 with e | ⟨g, cur, e, h1, h2⟩
              · exact .inl e
              · cases e
                exact .inr ⟨gp, cur, rfl, (hgr1.block gp (by simp; omega) (by simp [Value.ownBlock]; omega)).trans h1, h2⟩
            obtain ⟨v2, x5, hap2, hlv2, hgr2⟩ := hlv1.append (news := L0.drop (dd + 1)) hk6.on (by have := HNL2.out; have := HNL.out; simp; omega) (Nat.le_trans hsz5 hgr1.size) 60 ad (nl - (dd + 1)) (cp - (dd + 1)) (by have := HNL.out; simp; omega) (HAD.out.2 x4 hro6)
            have hk7 : KyS C A 384 m1 w x5 := hlv1.ky hk6 hwx hgr2
            have HS9 : Hid (DqS C A x3.heap.size m1 v2 (L0.eraseIdx dd) w x5) := Lib.hid ⟨hk7, HS5.out.2.1, by
              have e : L0.take dd ++ L0.drop (dd + 1) = L0.eraseIdx dd := (List.eraseIdx_eq_take_drop_succ L0 dd).symm
              rw [e] at hlv2; exact hlv2, hwx, Nat.le_trans hsz5 (Nat.le_trans hgr1.size hgr2.size)⟩
            clear hlv1 hlv2 hgr1 hgr2 hk5 hk6 hk7 ho5 hro5 hro6 hL5 hb0 hHeld
            refine hK1.out _ _ trivial (fun hHeld => ?_)
            clear hK1
            try simp only [Act.put, List.getElem_toArray, List.getElem_cons_zero, List.getElem_cons_succ, List.setIfInBounds_toArray, List.set_cons_zero, List.set_cons_succ]
            refine wpAnyH_ready (rs := [4]) (by kernel_rfl) (by simp) (AllReadyH.cons rfl (fun K1 hK1 => ?_) AllReadyH.nil)
            refine wp_append_runK _ _ 60 rfl _ _ _ rfl rfl hap1 ?_
            clear hHeld
            refine hK1.out _ _ trivial (fun hHeld => ?_)
            clear hK1
            try simp only [Act.put, List.getElem_toArray, List.getElem_cons_zero, List.getElem_cons_succ, List.setIfInBounds_toArray, List.set_cons_zero, List.set_cons_succ]
            refine wpAnyH_ready (rs := [9]) (by kernel_rfl) (by simp) (AllReadyH.cons rfl (fun K1 hK1 => ?_) AllReadyH.nil)
            refine wp_append_runK _ _ 60 rfl _ _ _ rfl rfl hap2 ?_
            clear hHeld
            refine hK1.out _ _ trivial (fun hHeld => ?_)
            clear hK1
            try simp only [Act.put, List.getElem_toArray, List.getElem_cons_zero, List.getElem_cons_succ, List.setIfInBounds_toArray, List.set_cons_zero, List.set_cons_succ]
            refine wpAnyH_ready (rs := [10]) (by kernel_rfl) (by simp) (AllReadyH.cons rfl (fun K1 hK1 => ?_) AllReadyH.nil)
            go_simp
            clear hHeld
            refine hK1.out _ _ trivial (fun hHeld => ?_)
            clear hK1
            try simp only [Act.put, List.getElem_toArray, List.getElem_cons_zero, List.getElem_cons_succ, List.setIfInBounds_toArray, List.set_cons_zero, List.set_cons_succ]
            refine wpAnyH_done (by kernel_rfl) ?_ _
            clear hHeld hap1 hap2 HS5
            go_upto_region 18 with fail
            obtain ⟨b8, hb8⟩ : ∃ b, x3.heap.size = b := ⟨_, rfl⟩
            obtain ⟨L1, hL1⟩ : ∃ l, L0.eraseIdx dd = l := ⟨_, rfl⟩
            rw [hL1, hb8] at HS9
            clear hL1 hb8 hgp hCl hwx hsz5 HAD hdc hwd hrg hcap cf HNL HNL2
            obtain ⟨c0, c1, c2⟩ := HS9.out.ky.all
            obtain ⟨p6, cap6, rfl, hcap6, hrow6⟩ := HS9.out.os.row
            have HR6 := Lib.hid hrow6
            clear hrow6 hcap6
            have HLL := Lib.hid HS9.out.kl.len
            go_wp2_with fail
            refine (kall HS9.out.ky.on (by omega) HS9.out.kl).mono ?_
            rintro e x8 ⟨p8, cap8, rfl, hcap8, -, hr8⟩
            have HS8 := Lib.hid (HS9.out.below hr8.bl)
            have HR8 := Lib.hid (RowI.row hr8)
            have HO8 := Lib.hid (HR6.out.below hr8.bl)
            obtain ⟨n8, hn8⟩ : ∃ n, L1.length = n := ⟨_, rfl⟩
            have HN8 := Lib.hid hn8
            have hn17 : n8 ≤ 17 := by have := HLL.out; omega
            rw [hn8]
            obtain ⟨b9, hb9⟩ : ∃ b, x8.heap.size = b := ⟨_, rfl⟩
            have HST := Lib.hid (RwG.start 9 kE 1 x8 hb9)
            have HB9 := Lib.hid hb9
            clear c0 c1 c2 hcap8 hr8 hn8 hb9 HS9 HR6 HLL
            obtain ⟨i0, hi0, hz0, hz1, hz2⟩ := info_parts Tryz.infoStr
            have HI := Lib.hid hi0; have HZ0 := Lib.hid hz0; have HZ1 := Lib.hid hz1; have HZ2 := Lib.hid hz2
            clear hi0 hz0 hz1 hz2
            go_wp2_with fail
            go_loopw [11, 83] (fun s11 s83 wq => ∃ (j : Nat) (v11 : Value), j ≤ n8 ∧ v11 = s11 ∧ s83 = .int .i64 (j : Int) ∧ Hid (RwG 9 kE 1 b9 (L1.take j) v11 x8 wq)) (fun _ s83 _ => n8 - (intOf s83).toNat)
            case atStart => exact ⟨0, _, Nat.zero_le _, rfl, rfl, HST⟩
            case round =>
              clear HST
              obtain ⟨j, v11, hj, rfl, rfl, HG⟩ := hrel
              have HBQ := Lib.hid (show Below x8.heap.size x8 _ from by rw [HB9.out]; exact HG.out.bl)
              by_cases hjn : j < n8
              · have hjn2 : (j : Int) < (n8 : Int) := by omega
                obtain ⟨E, hE⟩ : ∃ E, L1[j]? = some E := ⟨_, List.getElem?_eq_getElem (by have := HN8.out; omega)⟩
                obtain ⟨g9, rfl, hg9, q0, q1⟩ := rowI_cell (HR8.out.below HBQ.out) hE
                have HTK := Lib.hid (takeI_next hE)
                have hlen : (L1.take j).length ≤ 17 := by rw [List.length_take]; omega
                have HR4 := Lib.hid ((HG.out.below (bel1 _ (.cells #[.string E.k, .int .u64 (E.x : Int)] 39))).below (bel1 _ (.cells #[.string E.k] 9)))
                have hsz := HG.out.sz
                clear hE hg9
                go_wp2_with (at_builtin; refine wpList_append_own _ rfl _ _ 60 rfl b9 9 i0 (.string ⟨#[]⟩) 1 16 Tryz.underlying60 HI.out HZ0.out HZ1.out HZ2.out rfl (by decide) _ _ _ rfl HR4.out.ow ⟨_, 0, none⟩ 1 1 (kE E) rfl rfl (encG_new _ _ rfl (by simp)) (by simp [kE, Value.oneCell']) (by unfold maxLen; omega) (by omega) (by simp; omega) ?_; intro v' w6 hown' hgrow _)
                have HF : Hid (RwG 9 kE 1 b9 (L1.take (j + 1)) v' x8 w6) := Lib.hid (by
                  rw [HTK.out]
                  exact HR4.out.app E hgrow hown')
                clear hown' hgrow HG HR4
                go_wp2_with fail
                go_roundw
                case rel => exact ⟨j + 1, _, by omega, rfl, by go_num, HF⟩
                case measure => simp [intOf]; omega
              · have hjn2 : ¬ (j : Int) < (n8 : Int) := by omega
                have hw := HG.out
                rw [List.take_of_length_le (by have := HN8.out; omega)] at hw
                obtain ⟨p', cap', rfl, h1, h3⟩ := hw.row kE_len
                have hEQ := sequal p' p6 cap' cap6 (by have := HN8.out; omega) h3 (HO8.out.below HBQ.out)
                have HSE := Lib.hid (HS8.out.below HBQ.out)
                rw [HN8.out] at hEQ
                have HEQ := Lib.hid hEQ
                rw [HN8.out]
                clear h1 h3 hw HG hEQ
                go_wp2_with fail
                refine HEQ.out.mono ?_
                rintro e x9 ⟨rfl, hb⟩
                have HSF := Lib.hid (HSE.out.below hb)
                clear hb HSE HEQ
                go_wp2_with fail
                go_roundw
                case rel => exact ⟨i + 1, _, by omega, rfl, by go_num, Lib.hid ⟨_, m1, L1, by rw [← HN8.out]; exact HSF.out⟩⟩
                case measure => simp [intOf]; omega
          · have HDR := Lib.hid (kDrop HT1.out.ky.on (by omega) HT1.out.kl k)
            rw [show drC L0 k = 8 from by unfold drC; rw [if_neg cf]] at HDR
            rw [show drL L0 k = L0 from by unfold drL; rw [if_neg cf]] at HDR
            clear cf
            go_upto_region 13 with fail
            go_wp2_with fail
            refine HDR.out.mono ?_
            rintro e x1 ⟨m1, rfl, ho, hl, hg⟩
            have HS9 : Hid (DqS C A b m1 v6 L0 w x1) := Lib.hid ⟨HT1.out.ky.went ho hg, hl, HT1.out.os.went hg, HT1.out.bb, Nat.le_trans HT1.out.bs hg.size⟩
            clear ho hl hg HT1 HD8 HD9 HDR d0 e0 e1 c0 c1 c2
            go_upto_region 18 with fail
            obtain ⟨L1, hL1⟩ : ∃ l, L0 = l := ⟨_, rfl⟩
            rw [hL1] at HS9
            clear hL1
            obtain ⟨c0, c1, c2⟩ := HS9.out.ky.all
            obtain ⟨p6, cap6, rfl, hcap6, hrow6⟩ := HS9.out.os.row
            have HR6 := Lib.hid hrow6
            clear hrow6 hcap6
            have HLL := Lib.hid HS9.out.kl.len
            go_wp2_with fail
            refine (kall HS9.out.ky.on (by omega) HS9.out.kl).mono ?_
            rintro e x8 ⟨p8, cap8, rfl, hcap8, -, hr8⟩
            have HS8 := Lib.hid (HS9.out.below hr8.bl)
            have HR8 := Lib.hid (RowI.row hr8)
            have HO8 := Lib.hid (HR6.out.below hr8.bl)
            obtain ⟨n8, hn8⟩ : ∃ n, L1.length = n := ⟨_, rfl⟩
            have HN8 := Lib.hid hn8
            have hn17 : n8 ≤ 17 := by have := HLL.out; omega
            rw [hn8]
            obtain ⟨b9, hb9⟩ : ∃ b, x8.heap.size = b := ⟨_, rfl⟩
            have HST := Lib.hid (RwG.start 9 kE 1 x8 hb9)
            have HB9 := Lib.hid hb9
            clear c0 c1 c2 hcap8 hr8 hn8 hb9 HS9 HR6 HLL
            obtain ⟨i0, hi0, hz0, hz1, hz2⟩ := info_parts Tryz.infoStr
            have HI := Lib.hid hi0; have HZ0 := Lib.hid hz0; have HZ1 := Lib.hid hz1; have HZ2 := Lib.hid hz2
            clear hi0 hz0 hz1 hz2
            go_wp2_with fail
            go_loopw [11, 83] (fun s11 s83 wq => ∃ (j : Nat) (v11 : Value), j ≤ n8 ∧ v11 = s11 ∧ s83 = .int .i64 (j : Int) ∧ Hid (RwG 9 kE 1 b9 (L1.take j) v11 x8 wq)) (fun _ s83 _ => n8 - (intOf s83).toNat)
            case atStart => exact ⟨0, _, Nat.zero_le _, rfl, rfl, HST⟩
            case round =>
              clear HST
              obtain ⟨j, v11, hj, rfl, rfl, HG⟩ := hrel
              have HBQ := Lib.hid (show Below x8.heap.size x8 _ from by rw [HB9.out]; exact HG.out.bl)
              by_cases hjn : j < n8
              · have hjn2 : (j : Int) < (n8 : Int) := by omega
                obtain ⟨E, hE⟩ : ∃ E, L1[j]? = some E := ⟨_, List.getElem?_eq_getElem (by have := HN8.out; omega)⟩
                obtain ⟨g9, rfl, hg9, q0, q1⟩ := rowI_cell (HR8.out.below HBQ.out) hE
                have HTK := Lib.hid (takeI_next hE)
                have hlen : (L1.take j).length ≤ 17 := by rw [List.length_take]; omega
                have HR4 := Lib.hid ((HG.out.below (bel1 _ (.cells #[.string E.k, .int .u64 (E.x : Int)] 39))).below (bel1 _ (.cells #[.string E.k] 9)))
                have hsz := HG.out.sz
                clear hE hg9
                go_wp2_with (at_builtin; refine wpList_append_own _ rfl _ _ 60 rfl b9 9 i0 (.string ⟨#[]⟩) 1 16 Tryz.underlying60 HI.out HZ0.out HZ1.out HZ2.out rfl (by decide) _ _ _ rfl HR4.out.ow ⟨_, 0, none⟩ 1 1 (kE E) rfl rfl (encG_new _ _ rfl (by simp)) (by simp [kE, Value.oneCell']) (by unfold maxLen; omega) (by omega) (by simp; omega) ?_; intro v' w6 hown' hgrow _)
                have HF : Hid (RwG 9 kE 1 b9 (L1.take (j + 1)) v' x8 w6) := Lib.hid (by
                  rw [HTK.out]
                  exact HR4.out.app E hgrow hown')
                clear hown' hgrow HG HR4
                go_wp2_with fail
                go_roundw
                case rel => exact ⟨j + 1, _, by omega, rfl, by go_num, HF⟩
                case measure => simp [intOf]; omega
              · have hjn2 : ¬ (j : Int) < (n8 : Int) := by omega
                have hw := HG.out
                rw [List.take_of_length_le (by have := HN8.out; omega)] at hw
                obtain ⟨p', cap', rfl, h1, h3⟩ := hw.row kE_len
                have hEQ := sequal p' p6 cap' cap6 (by have := HN8.out; omega) h3 (HO8.out.below HBQ.out)
                have HSE := Lib.hid (HS8.out.below HBQ.out)
                rw [HN8.out] at hEQ
                have HEQ := Lib.hid hEQ
                rw [HN8.out]
                clear h1 h3 hw HG hEQ
                go_wp2_with fail
                refine HEQ.out.mono ?_
                rintro e x9 ⟨rfl, hb⟩
                have HSF := Lib.hid (HSE.out.below hb)
                clear hb HSE HEQ
                go_wp2_with fail
                go_roundw
                case rel => exact ⟨i + 1, _, by omega, rfl, by go_num, Lib.hid ⟨_, m1, L1, by rw [← HN8.out]; exact HSF.out⟩⟩
                case measure => simp [intOf]; omega
        · have hrk3 : (Int.tmod dv 4 == 3) = false := by rw [hrk]; simpa using r3
          have HPU := Lib.hid (kSet HT1.out.ky.on (by omega) HT1.out.kl k xv (by omega) hxv)
          rw [putsC_one, kPutL_one] at HPU
          obtain ⟨cc, hcc⟩ : ∃ c, setC L0 (384 / 32) ⟨k, xv⟩ = c := ⟨_, rfl⟩
          rw [hcc] at HPU
          by_cases cz : cc = 0
          · subst cz
            obtain ⟨p6, cp, rfl, hcap, hrow⟩ := HT1.out.os.row
            have HLL0 := Lib.hid HT1.out.kl.len
            have HLO := Lib.hid HT1.out.os
            clear hrow hcap
            go_wp2_with fail
            refine HPU.out.mono ?_
            rintro e x1 ⟨m1, rfl, ho, hl, hg⟩
            have HD92 := Lib.hid (hg.keep HT1.out.ky.on HD9.out (by decide) (by decide) (by decide))
            have HK3 := Lib.hid (And.intro (HT1.out.ky.went ho hg) (And.intro hl (And.intro (HT1.out.os.went hg) (And.intro HT1.out.bb (Nat.le_trans HT1.out.bs hg.size)))))
            clear ho hl hg HT1 HD8 HD9 HPU d0 e0 e1 c0 c1 c2 HLO
            have e0 := (cell_blk HD92.out 0).1; have e1 := (cell_blk HD92.out 1).1
            go_wp2_with fail
            refine (scontains (w := x1) (L := L0) p6 cp k (by
              obtain ⟨p', c', e, _, h⟩ := HK3.out.2.2.1.row
              have e2 := (Value.slice.injEq _ _ _ _ _ _).mp e
              rw [e2.1]; exact h) (by have := HLL0.out; omega)).mono ?_
            rintro e x2 ⟨rfl, hb⟩
            have HK4 := Lib.hid (And.intro (HK3.out.1.below hb) (And.intro HK3.out.2.1 (And.intro (HK3.out.2.2.1.below HK3.out.1.on hb) (And.intro HK3.out.2.2.2.1 (Nat.le_trans HK3.out.2.2.2.2 hb.size)))))
            have HD93 := Lib.hid (blk_at hb HD92.out)
            clear hb HK3 HD92 e0 e1
            have e0 := (cell_blk HD93.out 0).1; have e1 := (cell_blk HD93.out 1).1
            by_cases cf : ixK L0 k < L0.length
            · have hgb : getB L0 k = true := decide_eq_true cf
              have hset : setL L0 (384 / 32) ⟨k, xv⟩ = L0.set (ixK L0 k) ⟨k, xv⟩ := by unfold setL; rw [if_pos hcc, if_pos cf]
              have hks2 : L0.map Itm.k = (setL L0 (384 / 32) ⟨k, xv⟩).map Itm.k := by
                rw [hset]
                exact (keys_set (List.getElem?_eq_getElem cf) (ixK_get cf)).symm
              have HS9 : Hid (DqS C A b m1 (.slice p6 (setL L0 (384 / 32) ⟨k, xv⟩).length cp) (setL L0 (384 / 32) ⟨k, xv⟩) w x2) := Lib.hid ⟨HK4.out.1, HK4.out.2.1, by
                have e9 : (setL L0 (384 / 32) ⟨k, xv⟩).length = L0.length := by rw [hset, List.length_set]
                rw [e9]; exact HK4.out.2.2.1.keys hks2, HK4.out.2.2.2.1, HK4.out.2.2.2.2⟩
              have e9 : L0.length = (setL L0 (384 / 32) ⟨k, xv⟩).length := by rw [hset, List.length_set]
              clear HK4 HD93 hks2 hset hcc
              go_upto_region 18 with fail
              clear e0 e1
              obtain ⟨L1, hL1⟩ : ∃ l, setL L0 (384 / 32) ⟨k, xv⟩ = l := ⟨_, rfl⟩
              rw [hL1] at HS9
              rw [hL1]
              clear hL1 e9 hgb cf HLL0
              obtain ⟨v7, hv7⟩ : ∃ v, Value.slice p6 L1.length cp = v := ⟨_, rfl⟩
              rw [hv7] at HS9
              rw [hv7]
              clear hv7
              obtain ⟨c0, c1, c2⟩ := HS9.out.ky.all
              obtain ⟨p6, cap6, rfl, hcap6, hrow6⟩ := HS9.out.os.row
              have HR6 := Lib.hid hrow6
              clear hrow6 hcap6
              have HLL := Lib.hid HS9.out.kl.len
              go_wp2_with fail
              refine (kall HS9.out.ky.on (by omega) HS9.out.kl).mono ?_
              rintro e x8 ⟨p8, cap8, rfl, hcap8, -, hr8⟩
              have HS8 := Lib.hid (HS9.out.below hr8.bl)
              have HR8 := Lib.hid (RowI.row hr8)
              have HO8 := Lib.hid (HR6.out.below hr8.bl)
              obtain ⟨n8, hn8⟩ : ∃ n, L1.length = n := ⟨_, rfl⟩
              have HN8 := Lib.hid hn8
              have hn17 : n8 ≤ 17 := by have := HLL.out; omega
              rw [hn8]
              obtain ⟨b9, hb9⟩ : ∃ b, x8.heap.size = b := ⟨_, rfl⟩
              have HST := Lib.hid (RwG.start 9 kE 1 x8 hb9)
              have HB9 := Lib.hid hb9
              clear c0 c1 c2 hcap8 hr8 hn8 hb9 HS9 HR6 HLL
              obtain ⟨i0, hi0, hz0, hz1, hz2⟩ := info_parts Tryz.infoStr
              have HI := Lib.hid hi0; have HZ0 := Lib.hid hz0; have HZ1 := Lib.hid hz1; have HZ2 := Lib.hid hz2
              clear hi0 hz0 hz1 hz2
              go_wp2_with fail
              go_loopw [11, 83] (fun s11 s83 wq => ∃ (j : Nat) (v11 : Value), j ≤ n8 ∧ v11 = s11 ∧ s83 = .int .i64 (j : Int) ∧ Hid (RwG 9 kE 1 b9 (L1.take j) v11 x8 wq)) (fun _ s83 _ => n8 - (intOf s83).toNat)
              case atStart => exact ⟨0, _, Nat.zero_le _, rfl, rfl, HST⟩
              case round =>
                clear HST
                obtain ⟨j, v11, hj, rfl, rfl, HG⟩ := hrel
                have HBQ := Lib.hid (show Below x8.heap.size x8 _ from by rw [HB9.out]; exact HG.out.bl)
                by_cases hjn : j < n8
                · have hjn2 : (j : Int) < (n8 : Int) := by omega
                  obtain ⟨E, hE⟩ : ∃ E, L1[j]? = some E := ⟨_, List.getElem?_eq_getElem (by have := HN8.out; omega)⟩
                  obtain ⟨g9, rfl, hg9, q0, q1⟩ := rowI_cell (HR8.out.below HBQ.out) hE
                  have HTK := Lib.hid (takeI_next hE)
                  have hlen : (L1.take j).length ≤ 17 := by rw [List.length_take]; omega
                  have HR4 := Lib.hid ((HG.out.below (bel1 _ (.cells #[.string E.k, .int .u64 (E.x : Int)] 39))).below (bel1 _ (.cells #[.string E.k] 9)))
                  have hsz := HG.out.sz
                  clear hE hg9
                  go_wp2_with (at_builtin; refine wpList_append_own _ rfl _ _ 60 rfl b9 9 i0 (.string ⟨#[]⟩) 1 16 Tryz.underlying60 HI.out HZ0.out HZ1.out HZ2.out rfl (by decide) _ _ _ rfl HR4.out.ow ⟨_, 0, none⟩ 1 1 (kE E) rfl rfl (encG_new _ _ rfl (by simp)) (by simp [kE, Value.oneCell']) (by unfold maxLen; omega) (by omega) (by simp; omega) ?_; intro v' w6 hown' hgrow _)
                  have HF : Hid (RwG 9 kE 1 b9 (L1.take (j + 1)) v' x8 w6) := Lib.hid (by
                    rw [HTK.out]
                    exact HR4.out.app E hgrow hown')
                  clear hown' hgrow HG HR4
                  go_wp2_with fail
                  go_roundw
                  case rel => exact ⟨j + 1, _, by omega, rfl, by go_num, HF⟩
                  case measure => simp [intOf]; omega
                · have hjn2 : ¬ (j : Int) < (n8 : Int) := by omega
                  have hw := HG.out
                  rw [List.take_of_length_le (by have := HN8.out; omega)] at hw
                  obtain ⟨p', cap', rfl, h1, h3⟩ := hw.row kE_len
                  have hEQ := sequal p' p6 cap' cap6 (by have := HN8.out; omega) h3 (HO8.out.below HBQ.out)
                  have HSE := Lib.hid (HS8.out.below HBQ.out)
                  rw [HN8.out] at hEQ
                  have HEQ := Lib.hid hEQ
                  rw [HN8.out]
                  clear h1 h3 hw HG hEQ
                  go_wp2_with fail
                  refine HEQ.out.mono ?_
                  rintro e x9 ⟨rfl, hb⟩
                  have HSF := Lib.hid (HSE.out.below hb)
                  clear hb HSE HEQ
                  go_wp2_with fail
                  go_roundw
                  case rel => exact ⟨i + 1, _, by omega, rfl, by go_num, Lib.hid ⟨_, m1, L1, by rw [← HN8.out]; exact HSF.out⟩⟩
                  case measure => simp [intOf]; omega
            · have hgb : getB L0 k = false := decide_eq_false cf
              have hset : setL L0 (384 / 32) ⟨k, xv⟩ = L0 ++ [⟨k, xv⟩] := by unfold setL; rw [if_pos hcc, if_neg cf]
              rw [hset] at HK4
              obtain ⟨i0, hi0, hz0, hz1, hz2⟩ := info_parts Tryz.infoStr
              have HI := Lib.hid hi0; have HZ0 := Lib.hid hz0; have HZ1 := Lib.hid hz1; have HZ2 := Lib.hid hz2
              have HB4 := Lib.hid (bel1 x2 (.cells #[.string k] 9))
              have HO4 := Lib.hid (HK4.out.2.2.1.below HK4.out.1.on HB4.out)
              have HK5 := Lib.hid (HK4.out.1.below HB4.out)
              have hsz : b ≤ x2.heap.size := HK4.out.2.2.2.2
              have hl17 : L0.length ≤ 17 := by have := HLL0.out; omega
              clear hi0 hz0 hz1 hz2 hset hcc
              go_upto_region 18 with (at_builtin; refine wpList_append_own_at _ rfl _ _ 60 rfl b 9 i0 (.string ⟨#[]⟩) 1 16 Tryz.underlying60 HI.out HZ0.out HZ1.out HZ2.out rfl (by decide) _ _ _ rfl HO4.out.ow ⟨_, 0, none⟩ 1 1 (kE ⟨k, xv⟩) rfl rfl (encG_new _ _ rfl (by simp [kE])) (by simp [kE, Value.oneCell']) (by unfold maxLen; omega) (by omega) (by simp; omega) ?_; intro v7 x6 hown' hgrow _ hat)
              have HS9 : Hid (DqS C A b m1 v7 (L0 ++ [⟨k, xv⟩]) w x6) := Lib.hid ⟨HO4.out.ky HK5.out HK4.out.2.2.2.1 hgrow, HK4.out.2.1, HO4.out.app HK5.out.on [⟨k, xv⟩] hown' hgrow hat, HK4.out.2.2.2.1, Nat.le_trans hsz (Nat.le_trans HB4.out.size hgrow.size)⟩
              obtain ⟨L1, hL1⟩ : ∃ l, L0 ++ [⟨k, xv⟩] = l := ⟨_, rfl⟩
              rw [hL1] at HS9
              clear hown' hgrow hat HO4 HK5 HK4 HB4 hsz hl17 hL1 HD93 e0 e1 hgb cf HLL0 HI HZ0 HZ1 HZ2
              obtain ⟨c0, c1, c2⟩ := HS9.out.ky.all
              obtain ⟨p6, cap6, rfl, hcap6, hrow6⟩ := HS9.out.os.row
              have HR6 := Lib.hid hrow6
              clear hrow6 hcap6
              have HLL := Lib.hid HS9.out.kl.len
              go_wp2_with fail
              refine (kall HS9.out.ky.on (by omega) HS9.out.kl).mono ?_
              rintro e x8 ⟨p8, cap8, rfl, hcap8, -, hr8⟩
              have HS8 := Lib.hid (HS9.out.below hr8.bl)
              have HR8 := Lib.hid (RowI.row hr8)
              have HO8 := Lib.hid (HR6.out.below hr8.bl)
              obtain ⟨n8, hn8⟩ : ∃ n, L1.length = n := ⟨_, rfl⟩
              have HN8 := Lib.hid hn8
              have hn17 : n8 ≤ 17 := by have := HLL.out; omega
              rw [hn8]
              obtain ⟨b9, hb9⟩ : ∃ b, x8.heap.size = b := ⟨_, rfl⟩
              have HST := Lib.hid (RwG.start 9 kE 1 x8 hb9)
              have HB9 := Lib.hid hb9
              clear c0 c1 c2 hcap8 hr8 hn8 hb9 HS9 HR6 HLL
              obtain ⟨i0, hi0, hz0, hz1, hz2⟩ := info_parts Tryz.infoStr
              have HI := Lib.hid hi0; have HZ0 := Lib.hid hz0; have HZ1 := Lib.hid hz1; have HZ2 := Lib.hid hz2
              clear hi0 hz0 hz1 hz2
              go_wp2_with fail
              go_loopw [11, 83] (fun s11 s83 wq => ∃ (j : Nat) (v11 : Value), j ≤ n8 ∧ v11 = s11 ∧ s83 = .int .i64 (j : Int) ∧ Hid (RwG 9 kE 1 b9 (L1.take j) v11 x8 wq)) (fun _ s83 _ => n8 - (intOf s83).toNat)
              case atStart => exact ⟨0, _, Nat.zero_le _, rfl, rfl, HST⟩
              case round =>
                clear HST
                obtain ⟨j, v11, hj, rfl, rfl, HG⟩ := hrel
                have HBQ := Lib.hid (show Below x8.heap.size x8 _ from by rw [HB9.out]; exact HG.out.bl)
                by_cases hjn : j < n8
                · have hjn2 : (j : Int) < (n8 : Int) := by omega
                  obtain ⟨E, hE⟩ : ∃ E, L1[j]? = some E := ⟨_, List.getElem?_eq_getElem (by have := HN8.out; omega)⟩
                  obtain ⟨g9, rfl, hg9, q0, q1⟩ := rowI_cell (HR8.out.below HBQ.out) hE
                  have HTK := Lib.hid (takeI_next hE)
                  have hlen : (L1.take j).length ≤ 17 := by rw [List.length_take]; omega
                  have HR4 := Lib.hid ((HG.out.below (bel1 _ (.cells #[.string E.k, .int .u64 (E.x : Int)] 39))).below (bel1 _ (.cells #[.string E.k] 9)))
                  have hsz := HG.out.sz
                  clear hE hg9
                  go_wp2_with (at_builtin; refine wpList_append_own _ rfl _ _ 60 rfl b9 9 i0 (.string ⟨#[]⟩) 1 16 Tryz.underlying60 HI.out HZ0.out HZ1.out HZ2.out rfl (by decide) _ _ _ rfl HR4.out.ow ⟨_, 0, none⟩ 1 1 (kE E) rfl rfl (encG_new _ _ rfl (by simp)) (by simp [kE, Value.oneCell']) (by unfold maxLen; omega) (by omega) (by simp; omega) ?_; intro v' w6 hown' hgrow _)
                  have HF : Hid (RwG 9 kE 1 b9 (L1.take (j + 1)) v' x8 w6) := Lib.hid (by
                    rw [HTK.out]
                    exact HR4.out.app E hgrow hown')
                  clear hown' hgrow HG HR4
                  go_wp2_with fail
                  go_roundw
                  case rel => exact ⟨j + 1, _, by omega, rfl, by go_num, HF⟩
                  case measure => simp [intOf]; omega
                · have hjn2 : ¬ (j : Int) < (n8 : Int) := by omega
                  have hw := HG.out
                  rw [List.take_of_length_le (by have := HN8.out; omega)] at hw
                  obtain ⟨p', cap', rfl, h1, h3⟩ := hw.row kE_len
                  have hEQ := sequal p' p6 cap' cap6 (by have := HN8.out; omega) h3 (HO8.out.below HBQ.out)
                  have HSE := Lib.hid (HS8.out.below HBQ.out)
                  rw [HN8.out] at hEQ
                  have HEQ := Lib.hid hEQ
                  rw [HN8.out]
                  clear h1 h3 hw HG hEQ
                  go_wp2_with fail
                  refine HEQ.out.mono ?_
                  rintro e x9 ⟨rfl, hb⟩
                  have HSF := Lib.hid (HSE.out.below hb)
                  clear hb HSE HEQ
                  go_wp2_with fail
                  go_roundw
                  case rel => exact ⟨i + 1, _, by omega, rfl, by go_num, Lib.hid ⟨_, m1, L1, by rw [← HN8.out]; exact HSF.out⟩⟩
                  case measure => simp [intOf]; omega
          · have hczb : (cc == 0) = false := by simpa using cz
            have hsame : setL L0 (384 / 32) ⟨k, xv⟩ = L0 := by unfold setL; rw [if_neg (by rw [hcc]; exact cz)]
            rw [hsame] at HPU
            clear hcc hsame
            go_wp2_with fail
            refine HPU.out.mono ?_
            rintro e x1 ⟨m1, rfl, ho, hl, hg⟩
            have HS9 : Hid (DqS C A b m1 v6 L0 w x1) := Lib.hid ⟨HT1.out.ky.went ho hg, hl, HT1.out.os.went hg, HT1.out.bb, Nat.le_trans HT1.out.bs hg.size⟩
            clear ho hl hg HT1 HD8 HD9 HPU d0 e0 e1 c0 c1 c2
            go_upto_region 18 with fail
            obtain ⟨L1, hL1⟩ : ∃ l, L0 = l := ⟨_, rfl⟩
            rw [hL1] at HS9
            clear hL1
            obtain ⟨c0, c1, c2⟩ := HS9.out.ky.all
            obtain ⟨p6, cap6, rfl, hcap6, hrow6⟩ := HS9.out.os.row
            have HR6 := Lib.hid hrow6
            clear hrow6 hcap6
            have HLL := Lib.hid HS9.out.kl.len
            go_wp2_with fail
            refine (kall HS9.out.ky.on (by omega) HS9.out.kl).mono ?_
            rintro e x8 ⟨p8, cap8, rfl, hcap8, -, hr8⟩
            have HS8 := Lib.hid (HS9.out.below hr8.bl)
            have HR8 := Lib.hid (RowI.row hr8)
            have HO8 := Lib.hid (HR6.out.below hr8.bl)
            obtain ⟨n8, hn8⟩ : ∃ n, L1.length = n := ⟨_, rfl⟩
            have HN8 := Lib.hid hn8
            have hn17 : n8 ≤ 17 := by have := HLL.out; omega
            rw [hn8]
            obtain ⟨b9, hb9⟩ : ∃ b, x8.heap.size = b := ⟨_, rfl⟩
            have HST := Lib.hid (RwG.start 9 kE 1 x8 hb9)
            have HB9 := Lib.hid hb9
            clear c0 c1 c2 hcap8 hr8 hn8 hb9 HS9 HR6 HLL
            obtain ⟨i0, hi0, hz0, hz1, hz2⟩ := info_parts Tryz.infoStr
            have HI := Lib.hid hi0; have HZ0 := Lib.hid hz0; have HZ1 := Lib.hid hz1; have HZ2 := Lib.hid hz2
            clear hi0 hz0 hz1 hz2
            go_wp2_with fail
            go_loopw [11, 83] (fun s11 s83 wq => ∃ (j : Nat) (v11 : Value), j ≤ n8 ∧ v11 = s11 ∧ s83 = .int .i64 (j : Int) ∧ Hid (RwG 9 kE 1 b9 (L1.take j) v11 x8 wq)) (fun _ s83 _ => n8 - (intOf s83).toNat)
            case atStart => exact ⟨0, _, Nat.zero_le _, rfl, rfl, HST⟩
            case round =>
              clear HST
              obtain ⟨j, v11, hj, rfl, rfl, HG⟩ := hrel
              have HBQ := Lib.hid (show Below x8.heap.size x8 _ from by rw [HB9.out]; exact HG.out.bl)
              by_cases hjn : j < n8
              · have hjn2 : (j : Int) < (n8 : Int) := by omega
                obtain ⟨E, hE⟩ : ∃ E, L1[j]? = some E := ⟨_, List.getElem?_eq_getElem (by have := HN8.out; omega)⟩
                obtain ⟨g9, rfl, hg9, q0, q1⟩ := rowI_cell (HR8.out.below HBQ.out) hE
                have HTK := Lib.hid (takeI_next hE)
                have hlen : (L1.take j).length ≤ 17 := by rw [List.length_take]; omega
                have HR4 := Lib.hid ((HG.out.below (bel1 _ (.cells #[.string E.k, .int .u64 (E.x : Int)] 39))).below (bel1 _ (.cells #[.string E.k] 9)))
                have hsz := HG.out.sz
                clear hE hg9
                go_wp2_with (at_builtin; refine wpList_append_own _ rfl _ _ 60 rfl b9 9 i0 (.string ⟨#[]⟩) 1 16 Tryz.underlying60 HI.out HZ0.out HZ1.out HZ2.out rfl (by decide) _ _ _ rfl HR4.out.ow ⟨_, 0, none⟩ 1 1 (kE E) rfl rfl (encG_new _ _ rfl (by simp)) (by simp [kE, Value.oneCell']) (by unfold maxLen; omega) (by omega) (by simp; omega) ?_; intro v' w6 hown' hgrow _)
                have HF : Hid (RwG 9 kE 1 b9 (L1.take (j + 1)) v' x8 w6) := Lib.hid (by
                  rw [HTK.out]
                  exact HR4.out.app E hgrow hown')
                clear hown' hgrow HG HR4
                go_wp2_with fail
                go_roundw
                case rel => exact ⟨j + 1, _, by omega, rfl, by go_num, HF⟩
                case measure => simp [intOf]; omega
              · have hjn2 : ¬ (j : Int) < (n8 : Int) := by omega
                have hw := HG.out
                rw [List.take_of_length_le (by have := HN8.out; omega)] at hw
                obtain ⟨p', cap', rfl, h1, h3⟩ := hw.row kE_len
                have hEQ := sequal p' p6 cap' cap6 (by have := HN8.out; omega) h3 (HO8.out.below HBQ.out)
                have HSE := Lib.hid (HS8.out.below HBQ.out)
                rw [HN8.out] at hEQ
                have HEQ := Lib.hid hEQ
                rw [HN8.out]
                clear h1 h3 hw HG hEQ
                go_wp2_with fail
                refine HEQ.out.mono ?_
                rintro e x9 ⟨rfl, hb⟩
                have HSF := Lib.hid (HSE.out.below hb)
                clear hb HSE HEQ
                go_wp2_with fail
                go_roundw
                case rel => exact ⟨i + 1, _, by omega, rfl, by go_num, Lib.hid ⟨_, m1, L1, by rw [← HN8.out]; exact HSF.out⟩⟩
                case measure => simp [intOf]; omega
    · have hin2 : ¬ (i : Int) < (N : Int) := by omega
      go_wp2_with fail
      go_ret
      exact ⟨rfl, HTR.out.ky.bs.bel⟩
end
end Go.Proofs.YtcbbhefgdonabaaGreat.Bt
