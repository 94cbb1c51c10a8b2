/- HandleMoves. (Written by gen_hnn.py.) -/
import Derived.Test.YtllghngjnhbmaaaHnY
namespace Go.Proofs.Ytllghngjnhbmaaa.Bt
open Go Go.RowKit Go.Shelf Go.Maps
set_option linter.unusedVariables false
set_option linter.unusedSimpArgs false
theorem AcV.went {D A : Nat} {a : Act17} {s : ASt} {x z : World} (h : AcV D a x) (hx : On A s x) (hg : Went A x z) : AcV D a z := hg.keep hx (show x.heap[D]? = _ from h) (by decide) (by decide) (by decide)
theorem ns200 : nS 200 = 12 := rfl
theorem HrA.went {A : Nat} {s : ASt} {v : Value} {l : List Nat} {x z : World} (h : HrA v l x) (ht : RoT v x) (hx : On A s x) (hg : Went A x z) : HrA v l z := by
  obtain ⟨p, cap, e, c | ⟨g, e2, hgl, hc⟩⟩ := h
  · exact ⟨p, cap, e, .inl c⟩
  · obtain ⟨cur, hcur⟩ := ht g l.length cap (by rw [e, e2])
    have hk := hg.keep hx hcur (by decide) (by decide) (by decide)
    exact ⟨p, cap, e, .inr ⟨g, e2, Nat.lt_of_lt_of_le hgl hg.size, fun j hj => (cell_blk hk j).1.trans ((cell_blk hcur j).1.symm.trans (hc j hj))⟩⟩
theorem RoT.below {v : Value} {x z : World} (h : RoT v x) (hb : Below x.heap.size x z) : RoT v z := fun g n c e => by
  obtain ⟨cur, hc⟩ := h g n c e
  exact ⟨cur, (hb.block g (Array.getElem?_eq_some_iff.1 hc).1).trans hc⟩
/-- the slots behind a Move -/
theorem moved {n i an : Nat} {q : Nat → Nat × Nat} {l : List Nat} {hh : Nat} (hn : n ≤ 256) (hl : hL q n = l) (hb : ∀ i, (q i).1 < 9223372036854775808 ∧ (q i).2 < 72057594037927936) (hi : isH n q hh) (h1 : 1 ≤ an) :
    (∀ xx, xx ∈ l → isH n (upd q (hh % 256) (an, (q (hh % 256)).2)) xx ∧ (upd q (hh % 256) (an, (q (hh % 256)).2) (xx % 256)).1 = if xx = hh then an else (q (xx % 256)).1) ∧
    ((∀ k, k < n → (free q k ↔ free (upd q (hh % 256) (an, (q (hh % 256)).2)) k)) ∧ ∀ k, free q k → hOf q k = hOf (upd q (hh % 256) (an, (q (hh % 256)).2)) k) ∧ hL (upd q (hh % 256) (an, (q (hh % 256)).2)) n = l := by
  obtain ⟨j, hj⟩ : ∃ j, hh % 256 = j := ⟨_, rfl⟩
  unfold isH at hi
  rw [hj] at hi ⊢
  obtain ⟨i1, i2, i3⟩ := hi
  refine ⟨fun xx hx => ?_, ⟨fun k hk => ?_, fun k hk => ?_⟩, ?_⟩
  · have hxi := (hL_is hn hb (hl ▸ hx)).1
    unfold isH at hxi ⊢
    obtain ⟨x1, x2, x3⟩ := hxi
    by_cases e : xx % 256 = j
    · have : xx = hh := by rw [e] at x3; omega
      rw [if_pos this, e, upd_same]
      exact ⟨⟨i1, h1, by rw [← x3, e]⟩, rfl⟩
    · have : xx ≠ hh := fun c => e (c ▸ hj)
      rw [if_neg this, upd_other e]
      exact ⟨⟨x1, x2, x3⟩, rfl⟩
  · by_cases e : k = j
    · subst e
      unfold free
      rw [upd_same]
      constructor
      · rintro ⟨c, _⟩; omega
      · rintro ⟨c, _⟩; simp only at c; omega
    · unfold free; rw [upd_other e]
  · have e : k ≠ j := fun c => by subst c; have := hk.1; omega
    unfold hOf; rw [upd_other e]
  · rw [← hl]
    refine (hL_congr n fun k hk => ?_).symm
    by_cases e : k = j
    · subst e; rw [upd_same]; exact ⟨⟨fun _ => h1, fun _ => i2⟩, rfl⟩
    · rw [upd_other e]; exact ⟨Iff.rfl, rfl⟩
set_option maxHeartbeats 16000000 in
set_option maxRecDepth 100000 in
theorem hmoves (p0 : Option Addr) (c0' : Nat) (acts : List Act17) (hlen : acts.length ≤ 9223372036854775807) (nn at' : Int) (hnn : -9223372036854775808 ≤ nn ∧ nn ≤ 9223372036854775807) (hat : -9223372036854775808 ≤ at' ∧ at' ≤ 9223372036854775807) (w : World) (h : Acts17At w p0 acts) :
    Calls Try.prog 6 #[.slice p0 acts.length c0', .int .i64 nn, .int .i64 at'] w fun e w' => e = .returned (.bool true) ∧ Below w.heap.size w w' := by
  have HACT := Lib.hid h
  have HNN := Lib.hid hnn
  have HAT := Lib.hid hat
  have hmm := @run_makeMap Try.prog
  clear h hnn hat
  go_enter Try.func6, Try.ntmps6
  go_wp2_with fail
  refine (awake17 _).mono ?_
  rintro e w0 ⟨rfl, hb⟩
  have HB0 := Lib.hid hb
  clear hb
  by_cases h80 : (80 : Int) < (acts.length : Int)
  · go_wp2_with fail
    go_ret
    exact ⟨rfl, HB0.out⟩
  go_wp2_with fail
  refine (open17 200 (by omega) _).mono ?_
  rintro e w1 ⟨A, rfl, hx, hb⟩
  have HT0 := Lib.hid (TvS.start (vs := 200) hx (hb.rebase HB0.out))
  clear hx hb
  go_upto_region 6 with fail
  change Code.wp _ _ _ _ (w1.alloc (.cells #[.pointer (some ⟨A, 0, none⟩), .int .i64 16, .int .i64 ((200 : Nat) : Int)] 29))
  obtain ⟨y, hy⟩ : ∃ y, w1.alloc (.cells #[.pointer (some ⟨A, 0, none⟩), .int .i64 16, .int .i64 ((200 : Nat) : Int)] 29) = y := ⟨_, rfl⟩
  obtain ⟨C, hC⟩ : ∃ C, w1.heap.size = C := ⟨_, rfl⟩
  rw [hy, hC] at HT0
  rw [hy, hC]
  clear hy hC
  obtain ⟨n, hn⟩ : ∃ n, nS 200 = n := ⟨_, rfl⟩
  have hn2 : n ≤ 256 := by rw [← hn]; exact Nat.min_le_right _ _
  have HN2 := Lib.hid hn2
  have HDR := Lib.hid fun m q (hd : Hd m n q) hh (hb : hh < 18446744073709551616) X (hX : On A (hS m) X) => hn ▸ hDrop (vs := 200) hX (by omega) (hn.symm ▸ hd) hh hb
  have HMO := Lib.hid fun m q (hd : Hd m n q) hh (hb : hh < 18446744073709551616) an (h1 : 1 ≤ an) (h2 : an < 9223372036854775808) X (hX : On A (hS m) X) => hn ▸ hMove (vs := 200) hX (by omega) (hn.symm ▸ hd) hh hb an h1 h2
  have HGY := Lib.hid fun m q (hd : Hd m n q) hh (hb : hh < 18446744073709551616) (hi : isH n q hh) X (hX : On A (hS m) X) => hGet_yes (q := q) (vs := 200) hX (by omega) (hn.symm ▸ hd) hh hb (hn.symm ▸ hi)
  have HNX := Lib.hid fun m q (hd : Hd m n q) X (hX : On A (hS m) X) => hn ▸ hNext (vs := 200) hX (by omega) (hn.symm ▸ hd)
  have HNE := Lib.hid fun m q (hd : Hd m n q) a (ha : a ≤ 9223372036854775807) X (hX : On A (hS m) X) => hn ▸ hNew (vs := 200) hX (by omega) (hn.symm ▸ hd) a ha
  have HAL := Lib.hid fun m q (hd : Hd m n q) X (hX : On A (hS m) X) => hn ▸ hAllT (vs := 200) hX (by omega) (hn.symm ▸ hd)
  have HLL := Lib.hid fun q => Nat.le_trans (hL_len q n) hn2
  have HIS := Lib.hid fun m q (hd : Hd m n q) h (hm : h ∈ hL q n) => hL_is hn2 hd.b hm
  have HD0 : Hid (Hd (fun _ => 0) n q00) := Lib.hid (hd_new n)
  clear hn hn2
  obtain ⟨len, hl⟩ : ∃ len, acts.length = len := ⟨_, rfl⟩
  have HL := Lib.hid hl
  have HL80 : Hid (len ≤ 80) := Lib.hid (by omega)
  rw [hl]
  clear hl hlen h80
  go_wp2_with fail
  go_loopw [39] (fun s39 wr => ∃ (j : Nat) (m : Nat → UInt8) (q : Nat → Nat × Nat), j ≤ len ∧ s39 = .int .i64 (j : Int) ∧ Hid (Hd m n q) ∧ Hid (TvS C A 200 m w wr)) (fun s39 _ => len - (intOf s39).toNat)
  case atStart => exact ⟨0, _, _, Nat.zero_le _, rfl, HD0, HT0⟩
  case round =>
    clear HT0 HD0
    obtain ⟨j, m, q, hj, rfl, HDM, HV⟩ := hrel
    by_cases hjn : j < len
    · have hjn2 : (j : Int) < (len : Int) := by omega
      have hj0 : (0 : Int) ≤ (j : Int) := by omega
      have hjL : j < acts.length := by rw [HL.out]; exact hjn
      have HJN := Lib.hid (And.intro hjn HL80.out)
      rcases HACT.out.below HV.out.bs.bel with e | ⟨b, off, rfl, hbl, hc⟩
      · rw [e] at hjL; simp at hjL
      obtain ⟨⟨k0, k1, k2, k3, k4⟩, hok⟩ := hc j hjL
      obtain ⟨a, ha⟩ : ∃ a, acts[j] = a := ⟨_, rfl⟩
      rw [ha] at k0 k1 k2 k3 k4 hok
      have HOK := Lib.hid hok
      have HA0 : Hid (AcV wr.heap.size a (wr.alloc (.cells (acC a) 36)) ∧ TvS C A 200 m w (wr.alloc (.cells (acC a) 36))) := Lib.hid ⟨heap_new _ _, HV.out.below (bel1 _ _)⟩
      clear hc hbl hjL ha hok hj hjn HV
      go_upto_region 9 with fail
      change Code.wp _ _ _ _ (wr.alloc (.cells (acC a) 36))
      obtain ⟨y3, hy3⟩ : ∃ y, wr.alloc (.cells (acC a) 36) = y := ⟨_, rfl⟩
      obtain ⟨F, hF⟩ : ∃ F, wr.heap.size = F := ⟨_, rfl⟩
      rw [hy3, hF] at HA0
      rw [hy3, hF]
      clear hy3 hF k0 k1 k2 k3 k4
      obtain ⟨c0, c1, c2⟩ := HA0.out.2.all
      go_wp2_with fail
      refine (HAL.out m q HDM.out _ HA0.out.2.on).mono ?_
      rintro e x1 ⟨v, rfl, hrv, hro, hb⟩
      have HA1 := Lib.hid (HA0.out.1.below hb)
      have HV2 := Lib.hid (HA0.out.2.below hb)
      obtain ⟨l, hll⟩ : ∃ l, hL q n = l := ⟨_, rfl⟩
      have HLM := Lib.hid (HLL.out q)
      have HIM := Lib.hid (HIS.out m q HDM.out)
      rw [hll] at hrv HLM HIM
      obtain ⟨p, cp, rfl, hc⟩ := hrv
      have HRO := Lib.hid hro
      have HC := Lib.hid hc
      obtain ⟨nl, hnl⟩ : ∃ nl, l.length = nl := ⟨_, rfl⟩
      have HNL := Lib.hid hnl
      rw [hnl] at HLM
      rw [hnl]
      clear hb HA0 hll hc hro hnl c0 c1 c2
      obtain ⟨d0, d1, d2, d3, d4⟩ := HA1.out.all
      obtain ⟨dv, hdv⟩ : ∃ dv, a.d = dv := ⟨_, rfl⟩
      obtain ⟨an, han⟩ : ∃ an, a.a = an := ⟨_, rfl⟩
      obtain ⟨nv, hnv⟩ : ∃ nv, a.n = nv := ⟨_, rfl⟩
      have hdb := HOK.out.dB
      have hab := HOK.out.aB
      have hnb := HOK.out.nB
      rw [hdv] at hdb d0
      rw [han] at hab d2
      rw [hnv] at hnb d1
      obtain ⟨rk, hrk⟩ : ∃ rk, Int.tmod dv 6 = rk := ⟨_, rfl⟩
      have hrb : 0 ≤ rk ∧ rk < 6 := by rw [← hrk, Int.tmod_eq_emod_of_nonneg hdb.1]; omega
      have hrw : IntKind.u8.wrap rk = rk := by rw [IntKind.wrap_u8]; omega
      clear hdv han hnv hdb
      by_cases r4 : rk < 4
      · have HNW := Lib.hid fun X (hX : On A (hS m) X) => HNE.out m q HDM.out an hab.2 X hX
        obtain ⟨c0, c1, c2⟩ := HV2.out.all
        clear hab hnb hrb
        go_wp2_with fail
        refine (HNW.out _ HV2.out.on).mono ?_
        rintro e x2 ⟨m2, q2, h2, e2, rfl, ho, hd2, hg, _⟩
        have HV3 := Lib.hid (HV2.out.went ho hg)
        have HD2 := Lib.hid hd2
        clear ho hd2 hg HV2 HNW c0 c1 c2 d0 d1 d2 d3 d4
        obtain ⟨hjn, hlen80⟩ := HJN.out
        go_wp2_with fail
        go_roundw
        case rel => exact ⟨j + 1, _, _, by omega, by go_num, HD2, HV3⟩
        case measure => simp [intOf]; omega
      · have r4' : ¬ (rk < 4) := r4
        have hlm := HLM.out
        by_cases h0 : nl = 0
        · subst h0
          clear hab hnb hrb hlm
          obtain ⟨hjn, hlen80⟩ := HJN.out
          go_wp2_with fail
          go_roundw
          case rel => exact ⟨j + 1, _, _, by omega, by go_num, HDM, HV2⟩
          case measure => simp [intOf]; omega
        · have hn0 : ¬ ((nl : Int) = 0) := by omega
          have hnp : (0 : Int) < (nl : Int) := by omega
          obtain ⟨z, hz⟩ : ∃ z : Nat, max 0 nv = (z : Int) := ⟨(max 0 nv).toNat, by omega⟩
          have hzz : (if 0 < nv then nv else 0) = (z : Int) := by rw [← hz]; split <;> omega
          have hr : Int.tmod (z : Int) (nl : Int) = ((z % nl : Nat) : Int) := by rw [Int.tmod_eq_emod_of_nonneg (by omega)]; rfl
          have hlt := Nat.mod_lt z (show 0 < nl by omega)
          obtain ⟨dd, hd⟩ : ∃ d, z % nl = d := ⟨_, rfl⟩
          rw [hd] at hr hlt
          have hdl : dd < l.length := by rw [HNL.out]; exact hlt
          rcases HC.out with e | ⟨gp, rfl, hg, hcc⟩
          · rw [e] at hdl; simp at hdl
          have hcell := hcc dd hdl
          have hmem : l.getD dd 0 ∈ l := by rw [List.getD_eq_getElem?_getD, List.getElem?_eq_getElem hdl]; exact List.getElem_mem hdl
          obtain ⟨hh, hx⟩ : ∃ x, l.getD dd 0 = x := ⟨_, rfl⟩
          rw [hx] at hcell hmem
          have hd2 : (dd : Int) < (nl : Int) := by omega
          have hd0 : (0 : Int) ≤ (dd : Int) := by omega

          have HHB : Hid (hh < 18446744073709551616) := Lib.hid (HIM.out _ hmem).2
          obtain ⟨c0, c1, c2⟩ := HV2.out.all
          have HDRR := Lib.hid fun X (hX : On A (hS m) X) => HDR.out m q HDM.out hh HHB.out X hX
          have HZZ := Lib.hid hzz
          have HRM := Lib.hid hr
          have hwd : IntKind.i64.wrap (dd : Int) = (dd : Int) := by rw [IntKind.wrap_i64]; omega
          clear hcc hg hmem hx hdl hd hz hab hnb hrb hlm
          obtain ⟨cur, hcur⟩ := HRO.out gp _ _ rfl
          have HCU := Lib.hid hcur
          have hcell0 := d1
          have hcell1 := hcell
          have HCE := Lib.hid hcell
          clear hcur hcell
          go_upto_region 13 with fail
          clear d0 d1 d2 d3 d4 c0 c1 c2
          refine wp_region_held_drew (S := fun X : World => (X.cell? ⟨C, 0, none⟩ = some (.pointer (some ⟨A, 0, none⟩)) ∧ X.cell? ⟨C, 1, none⟩ = some (.int .i64 16) ∧ X.cell? ⟨C, 2, none⟩ = some (.int .i64 ((200 : Nat) : Int))) ∧ X.cell? ⟨F, 1, none⟩ = some (.int .i64 nv) ∧ X.cell? ⟨gp, dd, none⟩ = some (.int .u64 (hh : Int))) (by kernel_rfl) ⟨(HV2.out.below (Below.refl x1.heap.size x1).drew).all, hcell0, hcell1⟩ (fun hHeld => ?_)
          have HV3 := Lib.hid (HV2.out.below (Below.refl x1.heap.size x1).drew)
          have HA3 := Lib.hid (HA1.out.below (Below.refl x1.heap.size x1).drew)
          have HC3 := Lib.hid (((Below.refl x1.heap.size x1).drew.block gp (Array.getElem?_eq_some_iff.1 HCU.out).1).trans HCU.out)
          clear HV2 HA1 HCU hcell0 hcell1
          generalize x1.drew = x2 at *
          refine wpAnyH_take (i := 0) (v := (vwV A 16 200)) rfl (by kernel_rfl) (by kernel_rfl) (by kernel_rfl) (fun _ _ _ h => h) (Or.inl ⟨by rfl, fun X hS => ?_⟩) hHeld ?_
          · obtain ⟨⟨c0, c1, c2⟩, a1, r1⟩ := hS
            go_simp
          try simp only [Act.put, List.getElem_toArray, List.getElem_cons_zero, List.getElem_cons_succ, List.setIfInBounds_toArray, List.set_cons_zero, List.set_cons_succ]
          refine wpAnyH_take (i := 1) (v := (.slice (some ⟨gp, 0, none⟩) nl cp)) rfl (by kernel_rfl) (by kernel_rfl) (by kernel_rfl) (fun _ _ _ h => h) (Or.inl ⟨by rfl, fun X hS => ?_⟩) hHeld ?_
          · obtain ⟨⟨c0, c1, c2⟩, a1, r1⟩ := hS
            go_simp
          try simp only [Act.put, List.getElem_toArray, List.getElem_cons_zero, List.getElem_cons_succ, List.setIfInBounds_toArray, List.set_cons_zero, List.set_cons_succ]
          refine wpAnyH_take (i := 2) (v := (.pointer (some ⟨F, 1, none⟩))) rfl (by kernel_rfl) (by kernel_rfl) (by kernel_rfl) (fun _ _ _ h => h) (Or.inl ⟨by rfl, fun X hS => ?_⟩) hHeld ?_
          · obtain ⟨⟨c0, c1, c2⟩, a1, r1⟩ := hS
            go_simp
          try simp only [Act.put, List.getElem_toArray, List.getElem_cons_zero, List.getElem_cons_succ, List.setIfInBounds_toArray, List.set_cons_zero, List.set_cons_succ]
          refine wpAnyH_take (i := 3) (v := (.int .i64 nv)) rfl (by kernel_rfl) (by kernel_rfl) (by kernel_rfl) (fun _ _ _ h => h) (Or.inl ⟨by rfl, fun X hS => ?_⟩) hHeld ?_
          · obtain ⟨⟨c0, c1, c2⟩, a1, r1⟩ := hS
            go_simp
          try simp only [Act.put, List.getElem_toArray, List.getElem_cons_zero, List.getElem_cons_succ, List.setIfInBounds_toArray, List.set_cons_zero, List.set_cons_succ]
          refine wpAnyH_take (i := 4) (v := (.int .i64 (z : Int))) rfl (by kernel_rfl) (by kernel_rfl) (by kernel_rfl) (fun _ _ _ h => h) (Or.inl ⟨by rfl, fun X hS => ?_⟩) hHeld ?_
          · obtain ⟨⟨c0, c1, c2⟩, a1, r1⟩ := hS
            have hz := HZZ.out
            go_simp
          try simp only [Act.put, List.getElem_toArray, List.getElem_cons_zero, List.getElem_cons_succ, List.setIfInBounds_toArray, List.set_cons_zero, List.set_cons_succ]
          refine wpAnyH_take (i := 5) (v := (.slice (some ⟨gp, 0, none⟩) nl cp)) rfl (by kernel_rfl) (by kernel_rfl) (by kernel_rfl) (fun _ _ _ h => h) (Or.inl ⟨by rfl, fun X hS => ?_⟩) hHeld ?_
          · obtain ⟨⟨c0, c1, c2⟩, a1, r1⟩ := hS
            go_simp
          try simp only [Act.put, List.getElem_toArray, List.getElem_cons_zero, List.getElem_cons_succ, List.setIfInBounds_toArray, List.set_cons_zero, List.set_cons_succ]
          refine wpAnyH_take (i := 6) (v := (.int .i64 (nl : Int))) rfl (by kernel_rfl) (by kernel_rfl) (by kernel_rfl) (fun _ _ _ h => h) (Or.inl ⟨by rfl, fun X hS => ?_⟩) hHeld ?_
          · obtain ⟨⟨c0, c1, c2⟩, a1, r1⟩ := hS
            go_simp
          try simp only [Act.put, List.getElem_toArray, List.getElem_cons_zero, List.getElem_cons_succ, List.setIfInBounds_toArray, List.set_cons_zero, List.set_cons_succ]
          refine wpAnyH_take (i := 7) (v := (.int .i64 (dd : Int))) rfl (by kernel_rfl) (by kernel_rfl) (by kernel_rfl) (fun _ _ _ h => h) (Or.inl ⟨by rfl, fun X hS => ?_⟩) hHeld ?_
          · obtain ⟨⟨c0, c1, c2⟩, a1, r1⟩ := hS
            have m1 := HRM.out
            go_simp
          try simp only [Act.put, List.getElem_toArray, List.getElem_cons_zero, List.getElem_cons_succ, List.setIfInBounds_toArray, List.set_cons_zero, List.set_cons_succ]
          refine wpAnyH_take (i := 8) (v := (.pointer (some ⟨gp, dd, none⟩))) rfl (by kernel_rfl) (by kernel_rfl) (by kernel_rfl) (fun _ _ _ h => h) (Or.inl ⟨by rfl, fun X hS => ?_⟩) hHeld ?_
          · obtain ⟨⟨c0, c1, c2⟩, a1, r1⟩ := hS
            go_simp
          try simp only [Act.put, List.getElem_toArray, List.getElem_cons_zero, List.getElem_cons_succ, List.setIfInBounds_toArray, List.set_cons_zero, List.set_cons_succ]
          refine wpAnyH_take (i := 9) (v := (.int .u64 (hh : Int))) rfl (by kernel_rfl) (by kernel_rfl) (by kernel_rfl) (fun _ _ _ h => h) (Or.inl ⟨by rfl, fun X hS => ?_⟩) hHeld ?_
          · obtain ⟨⟨c0, c1, c2⟩, a1, r1⟩ := hS
            go_simp
          try simp only [Act.put, List.getElem_toArray, List.getElem_cons_zero, List.getElem_cons_succ, List.setIfInBounds_toArray, List.set_cons_zero, List.set_cons_succ]
          refine wpAnyH_ready (rs := [10]) (by kernel_rfl) (by simp) (AllReadyH.cons rfl (fun K1 hK1 => ?_) AllReadyH.nil)
          go_simp
          have HH := Lib.hid hHeld
          clear hHeld
          refine (HDRR.out _ HV3.out.on).mono ?_
          rintro e x3 ⟨m2, q2, er, rfl, ho, hd2, hg, _⟩
          have HV4 := Lib.hid (HV3.out.went ho hg)
          have HD2 := Lib.hid hd2
          have hfk := hg.keep HV3.out.on (show x2.heap[F]? = _ from HA3.out) (by decide) (by decide) (by decide)
          have hgk := hg.keep HV3.out.on (show x2.heap[gp]? = _ from HC3.out) (by decide) (by decide) (by decide)
          have hrb := And.intro HV4.out.all (And.intro ((cell_blk hfk 1).1.trans ((cell_blk HA3.out 1).1.symm.trans HH.out.2.1)) ((cell_blk hgk dd).1.trans ((cell_blk HC3.out dd).1.symm.trans HH.out.2.2)))
          clear HH ho hd2 hg HV3 hfk hgk
          refine hK1.out _ _ hrb (fun hHeld => ?_)
          clear hK1
          try simp only [Act.put, List.getElem_toArray, List.getElem_cons_zero, List.getElem_cons_succ, List.setIfInBounds_toArray, List.set_cons_zero, List.set_cons_succ]
          refine wpAnyH_done (by kernel_rfl) ?_ _
          clear hHeld

          obtain ⟨hjn, hlen80⟩ := HJN.out
          go_wp2_with fail
          go_roundw
          case rel => exact ⟨j + 1, _, _, by omega, by go_num, HD2, HV4⟩
          case measure => simp [intOf]; omega
    · have hjn3 : ¬ ((j : Int) < (len : Int)) := by omega
      clear hj hjn
      obtain ⟨c0, c1, c2⟩ := HV.out.all
      go_wp2_with fail
      refine (HAL.out m q HDM.out _ HV.out.on).mono ?_
      rintro e x1 ⟨v, rfl, hrv, hro, hb⟩
      have HV2 := Lib.hid (HV.out.below hb)
      obtain ⟨l, hll⟩ : ∃ l, hL q n = l := ⟨_, rfl⟩
      have HLQ := Lib.hid hll
      have HLM := Lib.hid (HLL.out q)
      have HIM := Lib.hid (HIS.out m q HDM.out)
      rw [hll] at hrv HLM HIM
      obtain ⟨p, cp, rfl, hc⟩ := hrv
      have HC := Lib.hid hc
      have HRO := Lib.hid hro
      obtain ⟨nl, hnl⟩ : ∃ nl, l.length = nl := ⟨_, rfl⟩
      have HNL := Lib.hid hnl
      rw [hnl] at HLM HRO
      rw [hnl]
      have HNB : Hid (nl ≤ 256) := HLM
      have hlm := HLM.out
      clear hb hll hc hro hnl c0 c1 c2 HV hjn3
      by_cases h0 : nl = 0
      · subst h0
        clear hlm
        go_wp2_with fail
        go_ret
        exact ⟨rfl, HV2.out.bs.bel⟩
      · have hn0 : ¬ ((nl : Int) = 0) := by omega
        have hnb := HNN.out
        obtain ⟨z, hz⟩ : ∃ z : Nat, max 0 nn = (z : Int) := ⟨(max 0 nn).toNat, by omega⟩
        have hzz : (if 0 < nn then nn else 0) = (z : Int) := by rw [← hz]; split <;> omega
        have hr : Int.tmod (z : Int) (nl : Int) = ((z % nl : Nat) : Int) := by rw [Int.tmod_eq_emod_of_nonneg (by omega)]; rfl
        have hlt := Nat.mod_lt z (show 0 < nl by omega)
        obtain ⟨dd, hd⟩ : ∃ d, z % nl = d := ⟨_, rfl⟩
        rw [hd] at hr hlt
        have hdl : dd < l.length := by rw [HNL.out]; exact hlt
        rcases HC.out with e | ⟨gp, rfl, hg, hcc⟩
        · rw [e] at hdl; simp at hdl
        have hcell := hcc dd hdl
        have hmem : l.getD dd 0 ∈ l := by rw [List.getD_eq_getElem?_getD, List.getElem?_eq_getElem hdl]; exact List.getElem_mem hdl
        obtain ⟨hh, hx⟩ : ∃ x, l.getD dd 0 = x := ⟨_, rfl⟩
        rw [hx] at hcell hmem
        have hd2 : (dd : Int) < (nl : Int) := by omega
        have hd0 : (0 : Int) ≤ (dd : Int) := by omega

        obtain ⟨hih, hb64⟩ := HIM.out _ hmem
        have HI := Lib.hid (And.intro hih (And.intro hb64 hmem))
        have HCC := Lib.hid (And.intro hg hcc)
        obtain ⟨c0, c1, c2⟩ := HV2.out.all
        clear hcc hg hmem hx hdl hd hz hih hb64 hnb
        go_wp2_with fail
        refine (HNX.out m q HDM.out _ HV2.out.on).mono ?_
        intro e x2 hnt
        obtain ⟨nx, er0, rfl⟩ : ∃ nx er0 : Int, e = .returned (.tuple #[.int .u64 nx, .int .i64 er0]) := by
          rcases hnt.1 with ⟨i, _, _, _, rfl⟩ | ⟨_, rfl⟩ <;> exact ⟨_, _, rfl⟩
        have HNT := Lib.hid hnt
        have HV3 := Lib.hid (HV2.out.below hnt.2)
        have HRW2 : Hid (HrA (.slice (some ⟨gp, 0, none⟩) nl cp) l x2 ∧ RoT (.slice (some ⟨gp, 0, none⟩) nl cp) x2) := Lib.hid ⟨HrA.below ⟨_, cp, by rw [HNL.out], .inr ⟨gp, rfl, HCC.out.1, HCC.out.2⟩⟩ hnt.2, HRO.out.below hnt.2⟩
        clear hnt HV2 c0 c1 c2 HCC hcell hzz hr hlt hd2 hd0 HRO HC
        go_upto_region 21 with fail
        change Code.wp _ _ _ _ (x2.alloc (.map #[] 0))
        have HMP0 : Hid (MpS x2.heap.size 0 [] (fun y => (q (y % 256)).1) (x2.alloc (.map #[] 0)) (.map [])) := Lib.hid ⟨(MpS.made x2).own, ⟨_, rfl⟩, fun h hm => by cases hm⟩
        have HBB0 := Lib.hid (bel1 x2 (.map #[] 0))
        obtain ⟨y1, hy1⟩ : ∃ y, x2.alloc (.map #[] 0) = y := ⟨_, rfl⟩
        obtain ⟨b, hbq⟩ : ∃ b, x2.heap.size = b := ⟨_, rfl⟩
        have HBQ : Hid (x2.heap.size = b ∧ w.heap.size ≤ b) := Lib.hid ⟨hbq, by rw [← hbq]; exact HV3.out.bs.bel.size⟩
        rw [hy1, hbq] at HMP0
        rw [hy1] at HBB0
        rw [hy1, hbq]
        clear hy1 hbq hmm
        go_wp2_with fail
        go_loopw [94] (fun s94 wr => ∃ (j : Nat) (D : DataW Unit) (L : List Nat), j ≤ nl ∧ s94 = .int .i64 (j : Int) ∧ Hid (Below x2.heap.size x2 wr) ∧ Hid (MpS b j L (fun y => (q (y % 256)).1) wr D) ∧ Hid (∀ i, i < j → l.getD i 0 ∈ L)) (fun s94 _ => nl - (intOf s94).toNat)
        case atStart => exact ⟨0, _, [], Nat.zero_le _, rfl, HBB0, HMP0, Lib.hid fun i hi => absurd hi (Nat.not_lt_zero i)⟩
        case round =>
          clear HMP0 HBB0
          obtain ⟨j, D, L, hj, rfl, HBr, HMP, HIN⟩ := hrel
          have HVr := Lib.hid (HV3.out.below HBr.out)
          by_cases hjn : j < nl
          · have hjn2 : (j : Int) < (nl : Int) := by omega
            have hj0 : (0 : Int) ≤ (j : Int) := by omega
            have hjl : j < l.length := by rw [HNL.out]; exact hjn
            have hmem : l.getD j 0 ∈ l := by rw [List.getD_eq_getElem?_getD, List.getElem?_eq_getElem hjl]; exact List.getElem_mem hjl
            rcases (HRW2.out.1.below HBr.out) with ⟨p9, c9, e9, e | ⟨g9, rfl, hg9, hc9⟩⟩
            · rw [e] at hjl; simp at hjl
            simp only [HNL.out, Value.slice.injEq, Option.some.injEq, Addr.mk.injEq, true_and, and_true] at e9
            obtain ⟨rfl, rfl⟩ := e9
            have ka := hc9 j hjl
            obtain ⟨xx, hxx⟩ : ∃ xx, l.getD j 0 = xx := ⟨_, rfl⟩
            rw [hxx] at ka hmem
            obtain ⟨hi9, hb9⟩ := HIM.out xx hmem
            have HGE := Lib.hid fun X (hX : On A (hS m) X) => HGY.out m q HDM.out xx hb9 hi9 X hX
            have hvb := (HDM.out.b (xx % 256)).1
            have HPT := Lib.hid fun X (hX : Below wr.heap.size wr X) => (HMP.out.below hX).put (by have := HNB.out; omega) 59 Try.underlying59 xx ((q (xx % 256)).1) hb9 hvb
            have HFE : Hid ((fun y => if y = xx then (q (xx % 256)).1 else (q (y % 256)).1) = fun y => (q (y % 256)).1) := Lib.hid (by
              funext y
              by_cases e : y = xx
              · rw [if_pos e, e]
              · rw [if_neg e])
            have HIN2 : Hid (∀ i, i < j + 1 → l.getD i 0 ∈ xx :: L) := Lib.hid fun i hi => by
              rcases Nat.lt_or_ge i j with c | c
              · exact List.mem_cons_of_mem _ (HIN.out i c)
              · obtain rfl : i = j := by omega
                rw [hxx]; exact List.mem_cons_self
            obtain ⟨fv, hfv⟩ : ∃ fv, (q (xx % 256)).1 = fv := ⟨_, rfl⟩
            have HFV := Lib.hid hfv
            rw [hfv] at HGE HPT
            have HJN := Lib.hid (And.intro hjn HNB.out)
            obtain ⟨c0, c1, c2⟩ := HVr.out.all
            clear hxx hmem hi9 hb9 hc9 hg9 hjl hj hjn hfv hvb
            go_wp2_with fail
            refine (HGE.out _ HVr.out.on).mono ?_
            rintro e y2 ⟨rfl, hb⟩
            have HB1 := Lib.hid (HBr.out.trans (hb.mono HBr.out.size))
            obtain ⟨z2, hrun, hgr, hmp⟩ := HPT.out _ hb
            have HB2 := Lib.hid (HB1.out.grown hgr HB1.out.size (fun k hk => by obtain rfl : b = k := by simpa using hk
                                                                                exact Nat.le_of_eq HBQ.out.1))
            rw [← HFV.out, HFE.out] at hmp
            have HMP2 := Lib.hid hmp
            clear hb HVr c0 c1 c2 HGE HPT ka hgr hmp
            obtain ⟨hjn, hnb⟩ := HJN.out
            go_wp2_with fail
            go_roundw
            case rel => exact ⟨j + 1, _, _, by omega, by go_num, HB2, HMP2, HIN2⟩
            case measure => simp [intOf]; omega
          · have hjn3 : ¬ ((j : Int) < (nl : Int)) := by omega
            have hjk : j ≤ 256 := by have := HNB.out; omega
            have HJK := Lib.hid hjk
            have HIN3 : Hid (∀ xx, xx ∈ l → xx ∈ L) := Lib.hid fun xx hx => by
              obtain ⟨i, hi, e⟩ := List.getElem_of_mem hx
              have := HIN.out i (by have := HNL.out; omega)
              rw [List.getD_eq_getElem?_getD, List.getElem?_eq_getElem hi] at this
              rw [← e]; exact this
            have HRW3 := Lib.hid (And.intro (HRW2.out.1.below HBr.out) (HRW2.out.2.below HBr.out))
            clear hj hjn hjk HIN
            obtain ⟨c0, c1, c2⟩ := HVr.out.all
            by_cases ha1 : at' < 1
            · have HMA := Lib.hid fun X (hX : On A (hS m) X) => hMove_arg (vs := 200) hX (hh : Int) at' ha1
              have ha2 : ¬ (0 < at') := by omega
              clear ha1
              go_wp2_with fail
              refine (HMA.out _ HVr.out.on).mono ?_
              rintro e y0 ⟨rfl, ho, hg⟩
              have HV9 := Lib.hid (HVr.out.went ho hg)
              have HRW := Lib.hid (HRW3.out.1.went HRW3.out.2 HVr.out.on hg)
              have hmp9 := HMP.out.went HVr.out.on hg
              obtain ⟨FF, hFF⟩ : ∃ FF, (fun y : Nat => (q (y % 256)).1) = FF := ⟨_, rfl⟩
              rw [hFF] at hmp9
              have HMP9 := Lib.hid hmp9
              have HD9 := Lib.hid HDM.out
              have HFA : Hid (∀ xx, xx ∈ l → isH n q xx ∧ xx < 18446744073709551616 ∧ xx ∈ L ∧ (q (xx % 256)).1 = FF xx) := Lib.hid fun xx hx => ⟨(HIM.out xx hx).1, (HIM.out xx hx).2, HIN3.out xx hx, by rw [← hFF]⟩
              clear ho hg HVr HMP c0 c1 c2 hFF hmp9
              have HMP := HMP9
              clear HMP9
              go_wp2_with fail
              go_loopw [131] (fun s131 wr => ∃ j : Nat, j ≤ nl ∧ s131 = .int .i64 (j : Int) ∧ Hid (Below y0.heap.size y0 wr)) (fun s131 _ => nl - (intOf s131).toNat)
              case atStart => exact ⟨0, Nat.zero_le _, rfl, Lib.hid (Below.refl _ _)⟩
              case round =>
                obtain ⟨j, hj, rfl, HBr⟩ := hrel
                have HVr := Lib.hid (HV9.out.below HBr.out)
                by_cases hjn : j < nl
                · have hjn2 : (j : Int) < (nl : Int) := by omega
                  have hj0 : (0 : Int) ≤ (j : Int) := by omega
                  have hjl : j < l.length := by rw [HNL.out]; exact hjn
                  have hmem : l.getD j 0 ∈ l := by rw [List.getD_eq_getElem?_getD, List.getElem?_eq_getElem hjl]; exact List.getElem_mem hjl
                  rcases (HRW.out.below HBr.out) with ⟨p9, c9, e9, e | ⟨g9, rfl, hg9, hc9⟩⟩
                  · rw [e] at hjl; simp at hjl
                  simp only [HNL.out, Value.slice.injEq, Option.some.injEq, Addr.mk.injEq, true_and, and_true] at e9
                  obtain ⟨rfl, rfl⟩ := e9
                  have ka := hc9 j hjl
                  obtain ⟨xx, hxx⟩ : ∃ xx, l.getD j 0 = xx := ⟨_, rfl⟩
                  rw [hxx] at ka hmem
                  obtain ⟨hi9, hb9, hL9, hF9⟩ := HFA.out xx hmem
                  have HGE := Lib.hid fun X (hX : On A (hS m) X) => HGY.out m q HD9.out xx hb9 hi9 X hX
                  rw [hF9] at HGE
                  have HLK := Lib.hid fun X (hX : Below y0.heap.size y0 X) => (HMP.out.below hX).look 59 Try.underlying59 xx hb9 hL9
                  obtain ⟨fv, hfv⟩ : ∃ fv, FF xx = fv := ⟨_, rfl⟩
                  rw [hfv] at HGE HLK
                  have HJN := Lib.hid (And.intro hjn HNB.out)
                  obtain ⟨c0, c1, c2⟩ := HVr.out.all
                  clear hxx hmem hi9 hb9 hL9 hF9 hc9 hg9 hjl hj hjn hfv
                  go_wp2_with fail
                  refine (HGE.out _ HVr.out.on).mono ?_
                  rintro e y1 ⟨rfl, hb⟩
                  have HB1 := Lib.hid (HBr.out.trans (hb.mono HBr.out.size))
                  have hlk := HLK.out _ HB1.out
                  clear hb HVr c0 c1 c2 HGE HLK ka
                  obtain ⟨hjn, hnb⟩ := HJN.out
                  go_wp2_with fail
                  go_roundw
                  case rel => exact ⟨j + 1, by omega, by go_num, HB1⟩
                  case measure => simp [intOf]; omega
                · have hjn3 : ¬ ((j : Int) < (nl : Int)) := by omega
                  clear hj hjn
                  obtain ⟨c0, c1, c2⟩ := HVr.out.all
                  go_wp2_with fail
                  refine (HNX.out m q HD9.out _ HVr.out.on).mono ?_
                  intro e y1 hnt2
                  obtain rfl := ntp_one (fun _ _ => Iff.rfl) (fun _ _ => rfl) HNT.out hnt2
                  have HV1 := Lib.hid (HVr.out.below hnt2.2)
                  clear hnt2 HVr c0 c1 c2
                  obtain ⟨c0, c1, c2⟩ := HV1.out.all
                  go_wp2_with fail
                  refine (HAL.out m q HD9.out _ HV1.out.on).mono ?_
                  rintro e y2 ⟨v2, rfl, ⟨p2, cp2, rfl, _⟩, _, hb⟩
                  rw [HLQ.out, HNL.out]
                  have HV2 := Lib.hid (HV1.out.below hb)
                  clear hb HV1 c0 c1 c2
                  go_wp2_with fail
                  go_ret
                  exact ⟨rfl, HV2.out.bs.bel⟩

            · obtain ⟨ak, rfl⟩ := Int.eq_ofNat_of_zero_le (show 0 ≤ at' by omega)
              have hk1 : 1 ≤ ak := by omega
              have hk2 : ak < 9223372036854775808 := by have := HAT.out; omega
              have hk3 : (0 : Int) < (ak : Int) := by omega
              have HMV := Lib.hid fun X (hX : On A (hS m) X) => HMO.out m q HDM.out hh HI.out.2.1 ak hk1 hk2 X hX
              have HMD := Lib.hid (moved (i := 0) HN2.out HLQ.out HDM.out.b HI.out.1 hk1)
              have HK2 := Lib.hid hk2
              clear ha1 hk1 hk2
              go_wp2_with fail
              refine (HMV.out _ HVr.out.on).mono ?_
              rintro e y8 ⟨m2, q2, er, rfl, ho, hd2, hg, ⟨_, rfl, rfl⟩ | ⟨hno, _⟩⟩
              rotate_left
              · exact absurd HI.out.1 hno
              have HV8 := Lib.hid (HVr.out.went ho hg)
              have HRW8 := Lib.hid (HRW3.out.1.went HRW3.out.2 HVr.out.on hg)
              have HMP8 := Lib.hid (HMP.out.went HVr.out.on hg)
              have HD9 := Lib.hid hd2
              obtain ⟨q2, hq2⟩ : ∃ q2, upd q (hh % 256) (ak, (q (hh % 256)).2) = q2 := ⟨_, rfl⟩
              rw [hq2] at HD9 HMD
              obtain ⟨o9, ho9, hoc⟩ := HMP8.out.block
              obtain ⟨y0, hrun, hgr, hmp⟩ := HMP8.out.put (by have := HJK.out; omega) 59 Try.underlying59 hh ak HI.out.2.1 HK2.out
              have HV9 := Lib.hid (HV8.out.grown ho9 hoc hgr HBQ.out.2)
              have HRW := Lib.hid (HRW8.out.grown ho9 hoc hgr)
              obtain ⟨FF, hFF⟩ : ∃ FF, (fun y : Nat => if y = hh then ak else (q (y % 256)).1) = FF := ⟨_, rfl⟩
              rw [hFF] at hmp
              have HFA : Hid (∀ xx, xx ∈ l → isH n q2 xx ∧ xx < 18446744073709551616 ∧ xx ∈ hh :: L ∧ (q2 (xx % 256)).1 = FF xx) := Lib.hid fun xx hx => ⟨(HMD.out.1 xx hx).1, (HIM.out xx hx).2, List.mem_cons_of_mem _ (HIN3.out xx hx), by rw [← hFF]; exact (HMD.out.1 xx hx).2⟩
              have HFR := Lib.hid HMD.out.2.1
              have HLQ2 := Lib.hid HMD.out.2.2
              clear ho hd2 hg HVr HMP c0 c1 c2 hq2 ho9 hoc hgr HLQ
              have HLQ := HLQ2
              have HMP := Lib.hid hmp
              clear HLQ2 hmp hFF
              go_wp2_with fail
              go_loopw [131] (fun s131 wr => ∃ j : Nat, j ≤ nl ∧ s131 = .int .i64 (j : Int) ∧ Hid (Below y0.heap.size y0 wr)) (fun s131 _ => nl - (intOf s131).toNat)
              case atStart => exact ⟨0, Nat.zero_le _, rfl, Lib.hid (Below.refl _ _)⟩
              case round =>
                obtain ⟨j, hj, rfl, HBr⟩ := hrel
                have HVr := Lib.hid (HV9.out.below HBr.out)
                by_cases hjn : j < nl
                · have hjn2 : (j : Int) < (nl : Int) := by omega
                  have hj0 : (0 : Int) ≤ (j : Int) := by omega
                  have hjl : j < l.length := by rw [HNL.out]; exact hjn
                  have hmem : l.getD j 0 ∈ l := by rw [List.getD_eq_getElem?_getD, List.getElem?_eq_getElem hjl]; exact List.getElem_mem hjl
                  rcases (HRW.out.below HBr.out) with ⟨p9, c9, e9, e | ⟨g9, rfl, hg9, hc9⟩⟩
                  · rw [e] at hjl; simp at hjl
                  simp only [HNL.out, Value.slice.injEq, Option.some.injEq, Addr.mk.injEq, true_and, and_true] at e9
                  obtain ⟨rfl, rfl⟩ := e9
                  have ka := hc9 j hjl
                  obtain ⟨xx, hxx⟩ : ∃ xx, l.getD j 0 = xx := ⟨_, rfl⟩
                  rw [hxx] at ka hmem
                  obtain ⟨hi9, hb9, hL9, hF9⟩ := HFA.out xx hmem
                  have HGE := Lib.hid fun X (hX : On A (hS m2) X) => HGY.out m2 q2 HD9.out xx hb9 hi9 X hX
                  rw [hF9] at HGE
                  have HLK := Lib.hid fun X (hX : Below y0.heap.size y0 X) => (HMP.out.below hX).look 59 Try.underlying59 xx hb9 hL9
                  obtain ⟨fv, hfv⟩ : ∃ fv, FF xx = fv := ⟨_, rfl⟩
                  rw [hfv] at HGE HLK
                  have HJN := Lib.hid (And.intro hjn HNB.out)
                  obtain ⟨c0, c1, c2⟩ := HVr.out.all
                  clear hxx hmem hi9 hb9 hL9 hF9 hc9 hg9 hjl hj hjn hfv
                  go_wp2_with fail
                  refine (HGE.out _ HVr.out.on).mono ?_
                  rintro e y1 ⟨rfl, hb⟩
                  have HB1 := Lib.hid (HBr.out.trans (hb.mono HBr.out.size))
                  have hlk := HLK.out _ HB1.out
                  clear hb HVr c0 c1 c2 HGE HLK ka
                  obtain ⟨hjn, hnb⟩ := HJN.out
                  go_wp2_with fail
                  go_roundw
                  case rel => exact ⟨j + 1, by omega, by go_num, HB1⟩
                  case measure => simp [intOf]; omega
                · have hjn3 : ¬ ((j : Int) < (nl : Int)) := by omega
                  clear hj hjn
                  obtain ⟨c0, c1, c2⟩ := HVr.out.all
                  go_wp2_with fail
                  refine (HNX.out m2 q2 HD9.out _ HVr.out.on).mono ?_
                  intro e y1 hnt2
                  obtain rfl := ntp_one HFR.out.1 HFR.out.2 HNT.out hnt2
                  have HV1 := Lib.hid (HVr.out.below hnt2.2)
                  clear hnt2 HVr c0 c1 c2
                  obtain ⟨c0, c1, c2⟩ := HV1.out.all
                  go_wp2_with fail
                  refine (HAL.out m2 q2 HD9.out _ HV1.out.on).mono ?_
                  rintro e y2 ⟨v2, rfl, ⟨p2, cp2, rfl, _⟩, _, hb⟩
                  rw [HLQ.out, HNL.out]
                  have HV2 := Lib.hid (HV1.out.below hb)
                  clear hb HV1 c0 c1 c2
                  go_wp2_with fail
                  go_ret
                  exact ⟨rfl, HV2.out.bs.bel⟩

end Go.Proofs.Ytllghngjnhbmaaa.Bt
