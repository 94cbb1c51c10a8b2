/- CleanTurns. (Written by gen_cet.py.) -/
import Derived.Test.YtcbbhefgdonabaaCeS
namespace Go.Proofs.Ytcbbhefgdonabaa.Bt
open Go Go.RowKit Go.Shelf
set_option linter.unusedVariables false
set_option linter.unusedSimpArgs false
set_option maxRecDepth 100000
/-- the list between two steps -/
def TuS (C A : Nat) (L : List Ent) (w x : World) : Prop := ∃ m, ClS C A 384 m w x ∧ Ls m (384 / 24) L
section
variable {C A : Nat} {L M : List Ent} {w x z : World}
theorem TuS.below (h : TuS C A L w x) (hb : Below x.heap.size x z) : TuS C A L w z := by
  obtain ⟨m, h1, h2⟩ := h; exact ⟨m, h1.below hb, h2⟩
theorem TuS.all (h : TuS C A L w x) : x.cell? ⟨C, 0, none⟩ = some (.pointer (some ⟨A, 0, none⟩)) ∧ x.cell? ⟨C, 1, none⟩ = some (.int .i64 40) ∧ x.cell? ⟨C, 2, none⟩ = some (.int .i64 ((384 : Nat) : Int)) := by
  obtain ⟨m, h1, h2⟩ := h; exact h1.all
theorem TuS.bel (h : TuS C A L w x) : Below w.heap.size w x := by
  obtain ⟨m, h1, h2⟩ := h; exact h1.bs.bel
theorem TuS.act {r : Value} {e : Ending} {z : World} (h : TuS C A L w x) (k : CAct A 384 M r x e z) : e = .returned r ∧ TuS C A M w z := by
  obtain ⟨m, h1, h2⟩ := h
  obtain ⟨m', rfl, ho, hl, hg⟩ := k
  exact ⟨rfl, m', h1.went ho hg, hl⟩
theorem TuS.add (h : TuS C A L w x) (e : Ent) (he : e.ok) : Calls Try.prog 13 #[vwV A 40 384, eV e] x fun en z => en = .returned (.int .i64 (addE L 16 e)) ∧ TuS C A (addL L 16 e) w z := by
  obtain ⟨m, h1, h2⟩ := h
  exact (cAdd h1.on (by omega) h2 e he).mono fun _ _ k => TuS.act ⟨m, h1, h2⟩ k
theorem TuS.kill (h : TuS C A L w x) (id : Nat) : Calls Try.prog 9 #[vwV A 40 384, .int .u64 (id : Int)] x fun en z => en = .returned (.tuple #[eV (gE L id), .int .i64 (kR L id)]) ∧ TuS C A (kL L id) w z := by
  obtain ⟨m, h1, h2⟩ := h
  exact (cKill h1.on (by omega) h2 id).mono fun _ _ k => TuS.act ⟨m, h1, h2⟩ k
theorem TuS.pop (h : TuS C A L w x) : Calls Try.prog 11 #[vwV A 40 384] x fun en z => en = .returned (.tuple #[eV (pE L), .bool (pB L)]) ∧ TuS C A (pL L) w z := by
  obtain ⟨m, h1, h2⟩ := h
  exact (cPop h1.on (by omega) h2).mono fun _ _ k => TuS.act ⟨m, h1, h2⟩ k
theorem TuS.alls (h : TuS C A L w x) : Calls Try.prog 17 #[vwV A 40 384] x (RowE L x) := by
  obtain ⟨m, h1, h2⟩ := h
  exact call h1.on (by omega) h2
end
theorem evE_v (z : Nat → Nat) (i : Nat) : eV (evE z i) = .agg #[.int .u64 ((i : Int) + 1), .int .u8 (z i : Int), .int .u8 ((z i : Int) / 2), .int .u64 ((z i : Int) * 1125899906842624)] := by
  unfold evE
  push_cast
  rfl
theorem evE_i (z : Nat → Nat) (i : Nat) : (((evE z i).i : Nat) : Int) = (i : Int) + 1 := by
  unfold evE
  push_cast
  rfl
/-- which are killed -/
def kdF (n1 : Nat) (bf : Nat → Bool) (i : Nat) : Bool := decide (i < n1) && bf i
set_option maxHeartbeats 32000000 in
theorem cturns (p0 p1 : Option Addr) (n n1 c0' c1' : Nat) (zf : Nat → Nat) (bf : Nat → Bool) (hn : n ≤ 9223372036854775807) (hn1 : n1 ≤ 9223372036854775807) (w : World) (hr0 : U8Row w p0 n zf) (hr1 : BlRow w p1 n1 bf) :
    Calls Try.prog 4 #[.slice p0 n c0', .slice p1 n1 c1'] w fun e w' => e = .returned (.bool true) ∧ Below w.heap.size w w' := by
  have HR0 := Lib.hid hr0
  have HR1 := Lib.hid hr1
  clear hr0 hr1
  go_enter Try.func4, Try.ntmps4
  go_wp2_with fail
  refine (awake21 _).mono ?_
  rintro e w0 ⟨rfl, hb⟩
  have HB0 := Lib.hid hb
  clear hb
  by_cases h16 : (16 : Int) < (n : Int)
  · go_wp2_with fail
    go_ret
    exact ⟨rfl, HB0.out⟩
  go_wp2_with fail
  refine (open21 384 (by omega) _).mono ?_
  rintro e w1 ⟨A, rfl, hx, hb⟩
  have HT0 : Hid (TuS w1.heap.size A (evT zf 0) w (w1.alloc (.cells (vwC A 40 384) 29))) := Lib.hid ⟨_, ClS.start (vs := 384) hx (hb.rebase HB0.out), Ls.new _⟩
  clear hx hb HB0
  go_upto_region 6 with fail
  change Code.wp _ _ _ _ (w1.alloc (.cells (vwC A 40 384) 29))
  obtain ⟨y, hy⟩ : ∃ y, w1.alloc (.cells (vwC A 40 384) 29) = y := ⟨_, rfl⟩
  obtain ⟨C, hC⟩ : ∃ C, w1.heap.size = C := ⟨_, rfl⟩
  rw [hy, hC] at HT0
  rw [hy, hC]
  have hn16 : n ≤ 16 := by omega
  have HN16 := Lib.hid hn16
  clear hy hC hn h16
  go_wp2_with fail
  go_loopw [7, 32] (fun s7 s32 wr => ∃ j : Nat, j ≤ n ∧ s7 = .bool true ∧ s32 = .int .i64 (j : Int) ∧ Hid (TuS C A (evT zf j) w wr)) (fun _ s32 _ => n - (intOf s32).toNat)
  case atStart => exact ⟨0, Nat.zero_le _, rfl, rfl, HT0⟩
  case round =>
    clear HT0
    obtain ⟨j, hj, rfl, rfl, HS⟩ := hrel
    by_cases hjn : j < n
    · have hjn2 : (j : Int) < (n : Int) := by omega
      rcases HR0.out.below HS.out.bel with e | ⟨b, off, rfl, hbl, hc⟩
      · omega
      obtain ⟨k0, kb⟩ := hc j hjn
      have HEA := Lib.hid (evT_add (z := zf) (show j < 16 by omega))
      have ha := HS.out.add (evE zf j) (evE_ok (by omega) kb)
      rw [HEA.out.1, HEA.out.2, evE_v] at ha
      obtain ⟨zk, hzk⟩ : ∃ k, zf j = k := ⟨_, rfl⟩
      rw [hzk] at ha k0 kb
      have HA := Lib.hid ha
      obtain ⟨c0, c1, c2⟩ := HS.out.all
      have q1 : IntKind.u64.wrap ((j : Int) + 1) = (j : Int) + 1 := by rw [IntKind.wrap_u64]; omega
      have q2 : IntKind.u64.wrap (zk : Int) = (zk : Int) := by rw [IntKind.wrap_u64]; omega
      clear ha hc hbl hzk
      go_wp2_with fail
      refine HA.out.mono ?_
      rintro e w2 ⟨rfl, hs⟩
      have HS2 := Lib.hid hs
      clear hs HA HS c0 c1 c2 k0 kb q1 q2
      go_wp2_with fail
      go_roundw
      case rel => exact ⟨j + 1, by omega, rfl, by go_num, HS2⟩
      case measure => simp [intOf]; omega
    · obtain rfl : j = n := by omega
      have HS0 : Hid (TuS C A (kN zf (kdF n1 bf) 0 ++ evR zf 0 (j - 0)) w wr) := Lib.hid (by
        have := HS.out
        rw [← evR_all] at this
        exact this)
      clear HS hjn hj
      have hjn2 : ¬ ((j : Int) < (j : Int)) := by omega
      go_upto_region 13 with fail
      clear hjn2
      go_loopw [10, 56] (fun s10 s56 wr => ∃ i k : Nat, i ≤ j ∧ s10 = .int .i64 (k : Int) ∧ s56 = .int .i64 (i : Int) ∧ Hid (k + (kN zf (kdF n1 bf) i).length = i) ∧ k ≤ i ∧ Hid (TuS C A (kN zf (kdF n1 bf) i ++ evR zf i (j - i)) w wr)) (fun _ s56 _ => j - (intOf s56).toNat)
      case atStart => exact ⟨0, 0, Nat.zero_le _, rfl, rfl, Lib.hid rfl, Nat.le_refl _, HS0⟩
      case round =>
        clear HS0
        obtain ⟨i, k, hi, rfl, rfl, HK, hki, HS⟩ := hrel
        by_cases hjn : i < j
        · have hjn2 : (i : Int) < (j : Int) := by omega
          have HKS := Lib.hid (kN_succ (z := zf) (kd := kdF n1 bf) i)
          have HRS := Lib.hid (evR_succ (z := zf) (j := i) (c := j - i) (by omega))
          have hb16 : (j : Int) ≤ 16 := by omega
          by_cases hk : kdF n1 bf i = true
          · as_aux_lemma =>
            have hks := HKS.out
            rw [if_pos hk] at hks
            have hj1 : i < n1 := by unfold kdF at hk; simp at hk; exact hk.1
            have hbt : bf i = true := by unfold kdF at hk; simp at hk; exact hk.2
            rcases HR1.out.below HS.out.bel with e1 | ⟨b1, off1, rfl, hbl1, hc1⟩
            · omega
            have m0 := hc1 i hj1
            rw [hbt] at m0
            rcases HR0.out.below HS.out.bel with e | ⟨b, off, rfl, hbl, hc⟩
            · omega
            obtain ⟨k0, kb⟩ := hc i hjn
            have hid : ∀ e ∈ kN zf (kdF n1 bf) i, e.i ≠ (evE zf i).i := fun e he => by have := kN_ids (z := zf) (kd := kdF n1 bf) i e he; show e.i ≠ i + 1; omega
            have hkm := kL_mid (R := evR zf (i + 1) (j - i - 1)) hid
            have ha := HS.out.kill (evE zf i).i
            rw [HRS.out, hkm.1, hkm.2.1, hkm.2.2, evE_v, evE_i] at ha
            obtain ⟨zk, hzk⟩ : ∃ k, zf i = k := ⟨_, rfl⟩
            rw [hzk] at ha k0 kb
            obtain ⟨x3, hx3⟩ : ∃ x, (zk : Int) / 2 = x := ⟨_, rfl⟩
            obtain ⟨x4, hx4⟩ : ∃ x, (zk : Int) * 1125899906842624 = x := ⟨_, rfl⟩
            rw [hx3, hx4] at ha
            have HA := Lib.hid ha
            have hj1' : (i : Int) < (n1 : Int) := by omega
            have q1 : IntKind.u64.wrap ((i : Int) + 1) = (i : Int) + 1 := by rw [IntKind.wrap_u64]; omega
            obtain ⟨c0, c1, c2⟩ := HS.out.all
            have HKS2 := Lib.hid hks
            have HJ := Lib.hid (And.intro hjn (And.intro hi hki))
            have HKB := Lib.hid hzk
            clear ha hkm hid hks hk hc hbl hzk hc1 hbl1 hbt hx3 hx4 hj1 k0
            go_wp2_with fail
            refine HA.out.mono ?_
            rintro e w2 ⟨rfl, hs⟩
            have HS2 := Lib.hid (hs.below (bel1 w2 (.cells #[.int .u64 ((i : Int) + 1), .int .u8 (zk : Int), .int .u8 x3, .int .u64 x4] 35)))
            have HV := Lib.hid (heap_new w2 (.cells #[.int .u64 ((i : Int) + 1), .int .u8 (zk : Int), .int .u8 x3, .int .u64 x4] 35))
            clear hs HA HS c0 c1 c2 m0 kb q1
            go_upto_region 17 with fail
            change Code.wp _ _ _ _ (w2.alloc (.cells #[.int .u64 ((i : Int) + 1), .int .u8 (zk : Int), .int .u8 x3, .int .u64 x4] 35))
            obtain ⟨y2, hy2⟩ : ∃ y, w2.alloc (.cells #[.int .u64 ((i : Int) + 1), .int .u8 (zk : Int), .int .u8 x3, .int .u64 x4] 35) = y := ⟨_, rfl⟩
            obtain ⟨V, hV⟩ : ∃ V, w2.heap.size = V := ⟨_, rfl⟩
            rw [hy2] at HS2 HV
            rw [hV] at HV
            rw [hy2, hV]
            clear hy2 hV
            have HS3 := Lib.hid (HS2.out.below (Below.refl _ _).drew)
            have hk0 : y2.drew.cell? ⟨b, off + i, none⟩ = some (.int .u8 (zk : Int)) := by
              rcases HR0.out.below HS3.out.bel with e | ⟨b', off', e, _, hc⟩
              · have := HJ.out.1; omega
              · cases e
                rw [(hc i HJ.out.1).1, HKB.out]
            have hv0 : y2.drew.cell? ⟨V, 1, none⟩ = some (.int .u8 (zk : Int)) := (cell_blk (blk_at (Below.refl _ _).drew HV.out) 1).1
            refine wp_region_held_drew (S := fun X => X.cell? ⟨V, 1, none⟩ = some (.int .u8 (zk : Int)) ∧ X.cell? ⟨b, off + i, none⟩ = some (.int .u8 (zk : Int))) (by kernel_rfl) ⟨hv0, hk0⟩ (fun hHeld => ?_)
            clear hv0 hk0 HS2 HV
            generalize y2.drew = x at *
            refine wpAnyH_take (i := 0) (v := (.int .i64 0)) rfl (by kernel_rfl) (by kernel_rfl) (by kernel_rfl) (fun _ _ _ h => h) (Or.inl ⟨by rfl, fun X hS => ?_⟩) hHeld ?_
            · skip
              go_simp
            try simp only [Act.put, List.getElem_toArray, List.getElem_cons_zero, List.getElem_cons_succ, List.setIfInBounds_toArray, List.set_cons_zero, List.set_cons_succ]
            refine wpAnyH_take (i := 1) (v := (.bool false)) rfl (by kernel_rfl) (by kernel_rfl) (by kernel_rfl) (fun _ _ _ h => h) (Or.inl ⟨by rfl, fun X hS => ?_⟩) hHeld ?_
            · skip
              go_simp
            try simp only [Act.put, List.getElem_toArray, List.getElem_cons_zero, List.getElem_cons_succ, List.setIfInBounds_toArray, List.set_cons_zero, List.set_cons_succ]
            refine wpAnyH_take (i := 2) (v := (.bool false)) rfl (by kernel_rfl) (by kernel_rfl) (by kernel_rfl) (fun _ _ _ h => h) (Or.inl ⟨by rfl, fun X hS => ?_⟩) hHeld ?_
            · skip
              go_simp
            try simp only [Act.put, List.getElem_toArray, List.getElem_cons_zero, List.getElem_cons_succ, List.setIfInBounds_toArray, List.set_cons_zero, List.set_cons_succ]
            refine wpAnyH_take (i := 3) (v := (.pointer (some ⟨V, 1, none⟩))) rfl (by kernel_rfl) (by kernel_rfl) (by kernel_rfl) (fun _ _ _ h => h) (Or.inl ⟨by rfl, fun X hS => ?_⟩) hHeld ?_
            · skip
              go_simp
            try simp only [Act.put, List.getElem_toArray, List.getElem_cons_zero, List.getElem_cons_succ, List.setIfInBounds_toArray, List.set_cons_zero, List.set_cons_succ]
            refine wpAnyH_take (i := 4) (v := (.int .u8 (zk : Int))) rfl (by kernel_rfl) (by kernel_rfl) (by kernel_rfl) (fun _ _ _ h => h) (Or.inl ⟨by rfl, fun X hS => ?_⟩) hHeld ?_
            · obtain ⟨s0, s1⟩ := hS
              go_simp
            try simp only [Act.put, List.getElem_toArray, List.getElem_cons_zero, List.getElem_cons_succ, List.setIfInBounds_toArray, List.set_cons_zero, List.set_cons_succ]
            refine wpAnyH_take (i := 5) (v := (.slice (some ⟨b, off, none⟩) j c0')) rfl (by kernel_rfl) (by kernel_rfl) (by kernel_rfl) (fun _ _ _ h => h) (Or.inl ⟨by rfl, fun X hS => ?_⟩) hHeld ?_
            · skip
              go_simp
            try simp only [Act.put, List.getElem_toArray, List.getElem_cons_zero, List.getElem_cons_succ, List.setIfInBounds_toArray, List.set_cons_zero, List.set_cons_succ]
            refine wpAnyH_take (i := 6) (v := (.int .i64 (i : Int))) rfl (by kernel_rfl) (by kernel_rfl) (by kernel_rfl) (fun _ _ _ h => h) (Or.inl ⟨by rfl, fun X hS => ?_⟩) hHeld ?_
            · skip
              go_simp
            try simp only [Act.put, List.getElem_toArray, List.getElem_cons_zero, List.getElem_cons_succ, List.setIfInBounds_toArray, List.set_cons_zero, List.set_cons_succ]
            refine wpAnyH_take (i := 7) (v := (.pointer (some ⟨b, off + i, none⟩))) rfl (by kernel_rfl) (by kernel_rfl) (by kernel_rfl) (fun _ _ _ h => h) (Or.inl ⟨by rfl, fun X hS => ?_⟩) hHeld ?_
            · have hjn := HJ.out.1
              go_simp
            try simp only [Act.put, List.getElem_toArray, List.getElem_cons_zero, List.getElem_cons_succ, List.setIfInBounds_toArray, List.set_cons_zero, List.set_cons_succ]
            refine wpAnyH_take (i := 8) (v := (.int .u8 (zk : Int))) rfl (by kernel_rfl) (by kernel_rfl) (by kernel_rfl) (fun _ _ _ h => h) (Or.inl ⟨by rfl, fun X hS => ?_⟩) hHeld ?_
            · obtain ⟨s0, s1⟩ := hS
              go_simp
            try simp only [Act.put, List.getElem_toArray, List.getElem_cons_zero, List.getElem_cons_succ, List.setIfInBounds_toArray, List.set_cons_zero, List.set_cons_succ]
            refine wpAnyH_take (i := 9) (v := (.bool false)) rfl (by kernel_rfl) (by kernel_rfl) (by kernel_rfl) (fun _ _ _ h => h) (Or.inl ⟨by rfl, fun X hS => ?_⟩) hHeld ?_
            · skip
              go_simp
            try simp only [Act.put, List.getElem_toArray, List.getElem_cons_zero, List.getElem_cons_succ, List.setIfInBounds_toArray, List.set_cons_zero, List.set_cons_succ]
            refine wpAnyH_take (i := 10) (v := (.bool false)) rfl (by kernel_rfl) (by kernel_rfl) (by kernel_rfl) (fun _ _ _ h => h) (Or.inl ⟨by rfl, fun X hS => ?_⟩) hHeld ?_
            · skip
              go_simp
            try simp only [Act.put, List.getElem_toArray, List.getElem_cons_zero, List.getElem_cons_succ, List.setIfInBounds_toArray, List.set_cons_zero, List.set_cons_succ]
            refine wpAnyH_done (by kernel_rfl) ?_ _
            clear hHeld
            obtain ⟨hjn, hi, hki⟩ := HJ.out
            have hk1 : (k : Int) + 1 ≤ 9223372036854775807 := by omega
            go_wp2_with fail
            go_roundw
            case rel => exact ⟨i + 1, k + 1, by omega, by go_num, by go_num, Lib.hid (by rw [HKS2.out]; have := HK.out; omega), by omega, by rw [HKS2.out, show j - (i + 1) = j - i - 1 by omega]; exact HS3⟩
            case measure => simp [intOf]; omega
          · as_aux_lemma =>
            have hks := HKS.out
            rw [if_neg hk] at hks
            have HS3 : Hid (TuS C A (kN zf (kdF n1 bf) (i + 1) ++ evR zf (i + 1) (j - (i + 1))) w wr) := Lib.hid (by
              have := HS.out
              rw [HRS.out] at this
              rw [hks, List.append_assoc]
              exact this)
            have HKS2 := Lib.hid hks
            by_cases hj1 : i < n1
            · have hbt : bf i = false := by unfold kdF at hk; simp at hk; exact hk hj1
              rcases HR1.out.below HS.out.bel with e1 | ⟨b1, off1, rfl, hbl1, hc1⟩
              · omega
              have m0 := hc1 i hj1
              rw [hbt] at m0
              have hj1' : (i : Int) < (n1 : Int) := by omega
              clear hc1 hbl1 hbt hk hks
              go_wp2_with fail
              go_roundw
              case rel => exact ⟨i + 1, k, by omega, rfl, by go_num, Lib.hid (by rw [HKS2.out, List.length_append]; have := HK.out; show k + (_ + 1) = i + 1; omega), by omega, HS3⟩
              case measure => simp [intOf]; omega
            · have hj1' : ¬ ((i : Int) < (n1 : Int)) := by omega
              clear hk hks
              go_wp2_with fail
              go_roundw
              case rel => exact ⟨i + 1, k, by omega, rfl, by go_num, Lib.hid (by rw [HKS2.out, List.length_append]; have := HK.out; show k + (_ + 1) = i + 1; omega), by omega, HS3⟩
              case measure => simp [intOf]; omega
        · obtain rfl : i = j := by omega
          have hnn2 : ¬ ((i : Int) < (i : Int)) := by omega
          have hs := HS.out
          rw [Nat.sub_self, show evR zf i 0 = [] from rfl, List.append_nil] at hs
          have HS0 := Lib.hid hs
          obtain ⟨lm, hlm⟩ : ∃ l, (kN zf (kdF n1 bf) i).length = l := ⟨_, rfl⟩
          have HLM := Lib.hid hlm
          have hq : (i : Int) - (k : Int) = (lm : Int) := by have := HK.out; omega
          have HAL := Lib.hid hs.alls
          obtain ⟨c0, c1, c2⟩ := hs.all
          clear HS hs hlm hjn
          go_wp2_with fail
          refine HAL.out.mono ?_
          rintro e w2 ⟨p, cap, rfl, -, -, hb⟩
          have HS2 := Lib.hid (HS0.out.below hb)
          rw [HLM.out]
          clear hb HS0 HAL c0 c1 c2
          go_upto_region 24 with fail
          clear hq hnn2
          go_loopw [14] (fun s14 wr => ∃ t : Nat, t ≤ i ∧ s14 = .int .i64 ((t : Int) - 1) ∧ Hid (TuS C A (kN zf (kdF n1 bf) t) w wr)) (fun s14 _ => (intOf s14 + 1).toNat)
          case atStart => exact ⟨i, Nat.le_refl _, rfl, HS2⟩
          case round =>
            clear HS2
            obtain ⟨t, ht, rfl, HS⟩ := hrel
            rcases t with _ | i2
            · have hs := HS.out
              have ha := hs.pop
              rw [show pL (kN zf (kdF n1 bf) 0) = [] from rfl, show pE (kN zf (kdF n1 bf) 0) = eZ from rfl, show pB (kN zf (kdF n1 bf) 0) = false from rfl] at ha
              have HA := Lib.hid ha
              obtain ⟨c0, c1, c2⟩ := hs.all
              have hm : ((0 : Nat) : Int) - 1 = -1 := by omega
              rw [hm]
              clear ha hs HS hm
              go_wp2_with fail
              refine HA.out.mono ?_
              rintro e w3 ⟨rfl, hs⟩
              have HB := Lib.hid hs.bel
              clear hs HA c0 c1 c2
              go_wp2_with fail
              go_ret
              exact ⟨rfl, HB.out.alloc HB.out.size _⟩
            · have hm : ((i2 + 1 : Nat) : Int) - 1 = (i2 : Int) := by omega
              rw [hm]
              have hi2 : i2 < i := by omega
              have hb16 : (i2 : Int) ≤ 16 := by omega
              have hb0 : (0 : Int) ≤ (i2 : Int) := by omega
              have HKS := Lib.hid (kN_succ (z := zf) (kd := kdF n1 bf) i2)
              clear hm
              by_cases hk : kdF n1 bf i2 = true
              · as_aux_lemma =>
                have hks := HKS.out
                rw [if_pos hk] at hks
                have HS2 : Hid (TuS C A (kN zf (kdF n1 bf) i2) w wr) := Lib.hid (by have := HS.out; rw [hks] at this; exact this)
                have hj1 : i2 < n1 := by unfold kdF at hk; simp at hk; exact hk.1
                have hbt : bf i2 = true := by unfold kdF at hk; simp at hk; exact hk.2
                rcases HR1.out.below HS.out.bel with e1 | ⟨b1, off1, rfl, hbl1, hc1⟩
                · omega
                have m0 := hc1 i2 hj1
                rw [hbt] at m0
                have hj1' : (i2 : Int) < (n1 : Int) := by omega
                clear hc1 hbl1 hbt hk hks HS
                go_wp2_with fail
                go_roundw
                case rel => exact ⟨i2, by omega, by first | rfl | go_num, HS2⟩
                case measure => (simp [intOf]; try omega)
              · have hks := HKS.out
                rw [if_neg hk] at hks
                rcases HR0.out.below HS.out.bel with e | ⟨b, off, rfl, hbl, hc⟩
                · omega
                obtain ⟨k0, kb⟩ := hc i2 hi2
                have ha := HS.out.pop
                rw [hks, (pop_last _ _).1, (pop_last _ _).2.1, (pop_last _ _).2.2, evE_v] at ha
                obtain ⟨zk, hzk⟩ : ∃ k, zf i2 = k := ⟨_, rfl⟩
                rw [hzk] at ha kb
                obtain ⟨x3, hx3⟩ : ∃ x, (zk : Int) / 2 = x := ⟨_, rfl⟩
                obtain ⟨x4, hx4⟩ : ∃ x, (zk : Int) * 1125899906842624 = x := ⟨_, rfl⟩
                rw [hx3, hx4] at ha
                have HA := Lib.hid ha
                have HX := Lib.hid (And.intro hx3 hx4)
                have HKB := Lib.hid hzk
                have HJ := Lib.hid hi2
                obtain ⟨c0, c1, c2⟩ := HS.out.all
                clear ha hks hc hbl hzk k0 hx3 hx4
                by_cases hj1 : i2 < n1
                · have hbt : bf i2 = false := by unfold kdF at hk; simp at hk; exact hk hj1
                  rcases HR1.out.below HS.out.bel with e1 | ⟨b1, off1, rfl, hbl1, hc1⟩
                  · omega
                  have m0 := hc1 i2 hj1
                  rw [hbt] at m0
                  have hj1' : (i2 : Int) < (n1 : Int) := by omega
                  clear hc1 hbl1 hbt hk
                  as_aux_lemma =>
                    go_wp2_with fail
                    refine HA.out.mono ?_
                    rintro e w2 ⟨rfl, hs⟩
                    have HS2 := Lib.hid (hs.below (bel1 w2 (.cells #[.int .u64 ((i2 : Int) + 1), .int .u8 (zk : Int), .int .u8 x3, .int .u64 x4] 35)))
                    have HV := Lib.hid (heap_new w2 (.cells #[.int .u64 ((i2 : Int) + 1), .int .u8 (zk : Int), .int .u8 x3, .int .u64 x4] 35))
                    clear hs HA HS c0 c1 c2
                    go_upto_region 28 with fail
                    change Code.wp _ _ _ _ (w2.alloc (.cells #[.int .u64 ((i2 : Int) + 1), .int .u8 (zk : Int), .int .u8 x3, .int .u64 x4] 35))
                    obtain ⟨y2, hy2⟩ : ∃ y, w2.alloc (.cells #[.int .u64 ((i2 : Int) + 1), .int .u8 (zk : Int), .int .u8 x3, .int .u64 x4] 35) = y := ⟨_, rfl⟩
                    obtain ⟨V, hV⟩ : ∃ V, w2.heap.size = V := ⟨_, rfl⟩
                    rw [hy2] at HS2 HV
                    rw [hV] at HV
                    rw [hy2, hV]
                    clear hy2 hV
                    have v0 := (cell_blk HV.out 0).1; have v1 := (cell_blk HV.out 1).1; have v2 := (cell_blk HV.out 2).1; have v3 := (cell_blk HV.out 3).1
                    have k0 : y2.cell? ⟨b, off + i2, none⟩ = some (.int .u8 (zk : Int)) := by
                      rcases HR0.out.below HS2.out.bel with e | ⟨b', off', e, _, hc⟩
                      · have := HJ.out; omega
                      · cases e
                        rw [(hc i2 HJ.out).1, HKB.out]
                    have q1 : IntKind.u64.wrap ((i2 : Int) + 1) = (i2 : Int) + 1 := by rw [IntKind.wrap_u64]; omega
                    have q2 : IntKind.u64.wrap (zk : Int) = (zk : Int) := by rw [IntKind.wrap_u64]; omega
                    have hjn := HJ.out
                    obtain ⟨hx3, hx4⟩ := HX.out
                    go_wp2_with fail
                    go_roundw
                    case rel => exact ⟨i2, by omega, by first | rfl | go_num, HS2⟩
                    case measure => (simp [intOf]; try omega)

                · have hj1' : ¬ ((i2 : Int) < (n1 : Int)) := by omega
                  clear hk
                  as_aux_lemma =>
                    go_wp2_with fail
                    refine HA.out.mono ?_
                    rintro e w2 ⟨rfl, hs⟩
                    have HS2 := Lib.hid (hs.below (bel1 w2 (.cells #[.int .u64 ((i2 : Int) + 1), .int .u8 (zk : Int), .int .u8 x3, .int .u64 x4] 35)))
                    have HV := Lib.hid (heap_new w2 (.cells #[.int .u64 ((i2 : Int) + 1), .int .u8 (zk : Int), .int .u8 x3, .int .u64 x4] 35))
                    clear hs HA HS c0 c1 c2
                    go_upto_region 28 with fail
                    change Code.wp _ _ _ _ (w2.alloc (.cells #[.int .u64 ((i2 : Int) + 1), .int .u8 (zk : Int), .int .u8 x3, .int .u64 x4] 35))
                    obtain ⟨y2, hy2⟩ : ∃ y, w2.alloc (.cells #[.int .u64 ((i2 : Int) + 1), .int .u8 (zk : Int), .int .u8 x3, .int .u64 x4] 35) = y := ⟨_, rfl⟩
                    obtain ⟨V, hV⟩ : ∃ V, w2.heap.size = V := ⟨_, rfl⟩
                    rw [hy2] at HS2 HV
                    rw [hV] at HV
                    rw [hy2, hV]
                    clear hy2 hV
                    have v0 := (cell_blk HV.out 0).1; have v1 := (cell_blk HV.out 1).1; have v2 := (cell_blk HV.out 2).1; have v3 := (cell_blk HV.out 3).1
                    have k0 : y2.cell? ⟨b, off + i2, none⟩ = some (.int .u8 (zk : Int)) := by
                      rcases HR0.out.below HS2.out.bel with e | ⟨b', off', e, _, hc⟩
                      · have := HJ.out; omega
                      · cases e
                        rw [(hc i2 HJ.out).1, HKB.out]
                    have q1 : IntKind.u64.wrap ((i2 : Int) + 1) = (i2 : Int) + 1 := by rw [IntKind.wrap_u64]; omega
                    have q2 : IntKind.u64.wrap (zk : Int) = (zk : Int) := by rw [IntKind.wrap_u64]; omega
                    have hjn := HJ.out
                    obtain ⟨hx3, hx4⟩ := HX.out
                    go_wp2_with fail
                    go_roundw
                    case rel => exact ⟨i2, by omega, by first | rfl | go_num, HS2⟩
                    case measure => (simp [intOf]; try omega)

end Go.Proofs.Ytcbbhefgdonabaa.Bt
