/- Several texts in one: CnL; CnM; CnO; CnP. -/
import Derived.Test.YtfemgekhpcgliaaGreatCmI
import Derived.Test.YtfemgekhpcgliaaGreatCmH
/- census' Can and Right. (Written by gen_cnl.py.) -/
namespace Go.Proofs.YtfemgekhpcgliaaGreat.Bt
open Go Go.RowKit Go.Shelf
set_option linter.unusedVariables false
set_option linter.unusedSimpArgs false
theorem span_not {k : Nat} (hk : k ≤ 10) : ¬ (Sz.spanV (k : Int) = 0) := by
  have h : k = 0 ∨ k = 1 ∨ k = 2 ∨ k = 3 ∨ k = 4 ∨ k = 5 ∨ k = 6 ∨ k = 7 ∨ k = 8 ∨ k = 9 ∨ k = 10 := by omega
  rcases h with rfl | rfl | rfl | rfl | rfl | rfl | rfl | rfl | rfl | rfl | rfl <;> decide
theorem ccan_out (B : Nat) (w : World) (k : Int) (hk : k < 0 ∨ 10 < k) : Calls Tryz.prog 26 #[bdyP B, .int .i64 k] w (Gives (.bool false) w) := by
  have HS : Hid (∀ X, Calls Tryz.prog 69 #[.int .i64 k] X fun e w' => e = .returned (.int .i64 0) ∧ X = w') := Lib.hid fun X => Sz.span_zero hk ▸ Sz.span_calls k X
  clear hk
  go_enter Tryz.func26, Tryz.ntmps26
  go_wp2_with fail
  refine (HS.out _).mono ?_
  rintro e w1 ⟨rfl, rfl⟩
  go_wp2_with fail
  go_ret
  exact ⟨rfl, Below.refl _ _⟩
theorem ccan_nil (w : World) (k : Int) : Calls Tryz.prog 26 #[.pointer none, .int .i64 k] w (Gives (.bool false) w) := by
  go_enter Tryz.func26, Tryz.ntmps26
  go_wp2_with fail
  go_ret
  exact ⟨rfl, Below.refl _ _⟩
theorem cright_nil (w : World) : Calls Tryz.prog 27 #[.pointer none] w (Gives (.bool false) w) := by
  go_enter Tryz.func27, Tryz.ntmps27
  go_wp2_with fail
  go_ret
  exact ⟨rfl, Below.refl _ _⟩
theorem cstates_nil (w : World) : Calls Tryz.prog 24 #[.pointer none] w (Gives (.slice none 0 0) w) := by
  go_enter Tryz.func24, Tryz.ntmps24
  go_wp2_with fail
  go_ret
  exact ⟨rfl, Below.refl _ _⟩
theorem ccount_nil (w : World) : Calls Tryz.prog 25 #[.pointer none, .int .u8 0] w (Gives (.int .i64 0) w) := by
  go_enter Tryz.func25, Tryz.ntmps25
  go_wp2_with fail
  refine (cstates_nil _).mono ?_
  rintro e w1 ⟨rfl, hb⟩
  have HB := Lib.hid hb
  clear hb
  go_wp2_with fail
  go_loopw [5, 11] (fun s5 s11 wr => s5 = .int .i64 0 ∧ s11 = .int .i64 0 ∧ w1 = wr) (fun _ s11 _ => 0)
  case atStart => exact ⟨rfl, rfl, rfl⟩
  case round =>
    obtain ⟨rfl, rfl, rfl⟩ := hrel
    go_wp2_with fail
    go_ret
    exact ⟨rfl, HB.out⟩
theorem cright {A B n g : Nat} {R : Runs} {s : ASt} {w : World} (h : BV B A n s w) (hB : Bud (n + 1) g g R g s) : Calls Tryz.prog 27 #[bdyP B] w (Gives (.bool true) w) := by
  have HV := Lib.hid h
  have H1 := Lib.hid fun X (hX : BV B A n s X) => cinrow hX hB
  have H2 := Lib.hid fun X (hX : BV B A n s X) => cpages hX hB
  have H3 := Lib.hid fun X (hX : BV B A n s X) => call_together hX hB
  clear h hB
  go_enter Tryz.func27, Tryz.ntmps27
  go_wp2_with fail
  refine (H1.out _ HV.out).mono ?_
  rintro e w1 ⟨rfl, hb⟩
  have HV1 := Lib.hid (HV.out.below hb)
  have HB1 := Lib.hid hb
  clear hb
  go_wp2_with fail
  refine (H2.out _ HV1.out).mono ?_
  rintro e w2 ⟨rfl, hb⟩
  have HV2 := Lib.hid (HV1.out.below hb)
  have HB2 := Lib.hid (HB1.out.trans (hb.mono HB1.out.size))
  clear hb
  go_wp2_with fail
  refine (H3.out _ HV2.out).mono ?_
  rintro e w3 ⟨rfl, hb⟩
  have HB3 := Lib.hid (HB2.out.trans (hb.mono HB2.out.size))
  clear hb
  go_wp2_with fail
  go_ret
  exact ⟨rfl, HB3.out⟩
set_option maxRecDepth 100000 in
set_option maxHeartbeats 16000000 in
theorem ccan {A B n g : Nat} {R : Runs} {s : ASt} {w : World} (h : BV B A n s w) (hB : Bud (n + 1) g g R g s) (k : Nat) (hk : k ≤ 10) :
    Calls Tryz.prog 26 #[bdyP B, .int .i64 (k : Int)] w (Gives (.bool (canB n g k R)) w) := by
  have hz := hB.sz h.2.1
  have hgG := hB.gG
  obtain ⟨sp, hsp⟩ : ∃ sp, Sz.spanV (k : Int) = sp := ⟨_, rfl⟩
  have hsn : ¬ (sp = 0) := by rw [← hsp]; exact span_not hk
  have HS : Hid (∀ X, Calls Tryz.prog 69 #[.int .i64 (k : Int)] X fun e w' => e = .returned (.int .i64 sp) ∧ X = w') := Lib.hid fun X => hsp ▸ Sz.span_calls (k : Int) X
  have HV := Lib.hid h
  have HLG := Lib.hid fun X (hX : BV B A n s X) => clargest hX hB
  have HGR := Lib.hid fun X (hX : BV B A n s X) => bgrown hX g (by omega) hB.front hB.gr
  have HBA := Lib.hid fun X (hX : BV B A n s X) => bbase hX (by omega)
  have hLn := h.2.1
  have HCP : Hid (∀ X, BV B A n s X → Calls Tryz.prog 35 #[.pointer (some ⟨A, 0, none⟩)] X fun e w' => e = .returned (.int .i64 ((n : Int) + 1)) ∧ X = w') := Lib.hid fun X hX => by
    have e : ((n : Int) + 1) = ((s.L : Nat) : Int) := by rw [hLn]; push_cast; rfl
    rw [e]; exact on_cap8 hX.1
  obtain ⟨P, hP⟩ : ∃ P, 2 ^ k = P := ⟨_, rfl⟩
  obtain ⟨u1, u2⟩ := up_is g k (by omega) hk
  rw [hP] at u1 u2
  obtain ⟨U, hU⟩ : ∃ U, upN g P = U := ⟨_, rfl⟩
  rw [hU] at u1
  have hPb : P ≤ 1024 := by rw [← hP]; exact Nat.pow_le_pow_right (by decide) hk
  have hUb : U ≤ 4000 := by
    obtain ⟨a1, a2, a3, a4⟩ := upN_is (g := g) (pow2_pos k)
    rw [hP, hU] at a2
    omega
  have HPU : Hid (2 ^ k = P ∧ upN g P = U) := Lib.hid ⟨hP, hU⟩
  have HUP : Hid (∀ X, Calls Tryz.prog 70 #[.int .i64 (g : Int), .int .i64 (P : Int)] X fun e w' => e = .returned (.tuple #[.int .i64 (U : Int), .bool true]) ∧ X = w') := Lib.hid fun X => by
    have := Sz.up_calls (g : Int) (P : Int) X
    rw [u1, u2] at this
    exact this
  have h2k : ((2 : Int) ^ k) = (P : Int) := by rw [← hP]; push_cast; rfl
  have HM1 : Hid (IntKind.i64.wrap ((2 : Int) ^ min k 64) = (P : Int) ∧ IntKind.i64.wrap ((2 : Int) ^ k) = (P : Int)) := Lib.hid ⟨by rw [show min k 64 = k by omega, h2k, IntKind.wrap_i64]; omega, by rw [h2k, IntKind.wrap_i64]; omega⟩
  have HM2 : Hid (IntKind.i64.wrap (1 + (U : Int)) = 1 + (U : Int) ∧ IntKind.i64.wrap (1 + (U : Int) + (P : Int)) = 1 + (U : Int) + (P : Int)) := Lib.hid ⟨by rw [IntKind.wrap_i64]; omega, by rw [IntKind.wrap_i64]; omega⟩
  have HTI := Lib.hid hB.ti
  clear h hB hz hgG hsp u1 u2 hU hUb hPb hP h2k hLn
  have hk0 : 0 ≤ (k : Int) := by omega
  go_enter Tryz.func26, Tryz.ntmps26
  go_wp2_with fail
  refine (HS.out _).mono ?_
  rintro e w1 ⟨rfl, rfl⟩
  go_wp2_with fail
  refine (HLG.out _ HV.out).mono ?_
  rintro e w2 ⟨rfl, hb⟩
  have HV2 := Lib.hid (HV.out.below hb)
  have HB2 := Lib.hid hb
  clear hb HV HS HLG
  unfold lgV
  have HFB : Hid (fitB g k R = (lgB (runL R g) && decide (k ≤ lgM (runL R g)))) := Lib.hid rfl
  obtain ⟨M, hM⟩ : ∃ M, lgM (runL R g) = M := ⟨_, rfl⟩
  obtain ⟨bb, hbb⟩ : ∃ bb, lgB (runL R g) = bb := ⟨_, rfl⟩
  rw [hM, hbb] at HFB
  rw [hM, hbb]
  clear hM hbb hk
  cases bb with
  | true =>
    by_cases hkm : k ≤ M
    · have hkm' : (k : Int) ≤ (M : Int) := by omega
      have HCB : Hid (canB n g k R = true) := Lib.hid (by unfold canB; rw [HFB.out, decide_eq_true hkm]; rfl)
      clear hkm
      go_wp2_with fail
      go_ret
      exact ⟨by first | (rw [HCB.out]; rfl) | rw [HCB.out], HB2.out⟩
    · have hkm' : ¬ (k : Int) ≤ (M : Int) := by omega
      have HFT : Hid (fitB g k R = false) := Lib.hid (by rw [HFB.out, decide_eq_false hkm]; rfl)
      clear hkm HFB
      go_upto_region 6 with fail
      refine wp_region_held_drew (S := fun X : World => X.cell? ⟨B, 0, none⟩ = some (.pointer (some ⟨A, 0, none⟩)) ∧ X.cell? ⟨B, 1, none⟩ = some (.pointer (some ⟨A, 0, none⟩))) (by kernel_rfl) ⟨(HV2.out.below (Below.refl w2.heap.size w2).drew).all.1, (HV2.out.below (Below.refl w2.heap.size w2).drew).all.2.1⟩ (fun hHeld => ?_)
      have HV2d := Lib.hid (HV2.out.below (Below.refl w2.heap.size w2).drew)
      have HB2d := Lib.hid (HB2.out.trans ((Below.refl w2.heap.size w2).drew.mono HB2.out.size))
      clear HV2 HB2
      generalize w2.drew = w3 at *
      refine wpAnyH_take (i := 0) (v := (bdyP B)) rfl (by kernel_rfl) (by kernel_rfl) (by kernel_rfl) (fun _ _ _ h => h) (Or.inl ⟨by rfl, fun X hS => ?_⟩) hHeld ?_
      · obtain ⟨b0, b1⟩ := hS
        go_simp
      try simp only [Act.put, List.getElem_toArray, List.getElem_cons_zero, List.getElem_cons_succ, List.setIfInBounds_toArray, List.set_cons_zero, List.set_cons_succ]
      refine wpAnyH_take (i := 2) (v := (.int .i64 (k : Int))) rfl (by kernel_rfl) (by kernel_rfl) (by kernel_rfl) (fun _ _ _ h => h) (Or.inl ⟨by rfl, fun X hS => ?_⟩) hHeld ?_
      · obtain ⟨b0, b1⟩ := hS
        go_simp
      try simp only [Act.put, List.getElem_toArray, List.getElem_cons_zero, List.getElem_cons_succ, List.setIfInBounds_toArray, List.set_cons_zero, List.set_cons_succ]
      refine wpAnyH_take (i := 3) (v := (.int .i64 (P : Int))) rfl (by kernel_rfl) (by kernel_rfl) (by kernel_rfl) (fun _ _ _ h => h) (Or.inl ⟨by rfl, fun X hS => ?_⟩) hHeld ?_
      · obtain ⟨b0, b1⟩ := hS
        obtain ⟨hm1, hm2⟩ := HM1.out
        go_simp
      try simp only [Act.put, List.getElem_toArray, List.getElem_cons_zero, List.getElem_cons_succ, List.setIfInBounds_toArray, List.set_cons_zero, List.set_cons_succ]
      refine wpAnyH_ready (rs := [1]) (by kernel_rfl) (by simp) (AllReadyH.cons rfl (fun K1 hK1 => ?_) AllReadyH.nil)
      go_simp
      have HH := Lib.hid hHeld
      clear hHeld
      refine (HGR.out _ HV2d.out).mono ?_
      rintro e w4 ⟨rfl, hb⟩
      have hv4 := HV2d.out.below hb
      have HV4 := Lib.hid hv4
      have hrb := And.intro hv4.all.1 hv4.all.2.1
      have HB4 := Lib.hid (HB2d.out.trans (hb.mono HB2d.out.size))
      clear HH hb HV2d HB2d hv4
      refine hK1.out _ _ hrb (fun hHeld => ?_)
      clear hK1
      try simp only [Act.put, List.getElem_toArray, List.getElem_cons_zero, List.getElem_cons_succ, List.setIfInBounds_toArray, List.set_cons_zero, List.set_cons_succ]
      refine wpAnyH_ready (rs := [4]) (by kernel_rfl) (by simp) (AllReadyH.cons rfl (fun K1 hK1 => ?_) AllReadyH.nil)
      go_simp
      have HH := Lib.hid hHeld
      clear hHeld
      refine (HUP.out _).mono ?_
      rintro e w5 ⟨rfl, rfl⟩
      have hrb := And.intro HV4.out.all.1 HV4.out.all.2.1
      clear HH
      refine hK1.out _ _ hrb (fun hHeld => ?_)
      clear hK1
      try simp only [Act.put, List.getElem_toArray, List.getElem_cons_zero, List.getElem_cons_succ, List.setIfInBounds_toArray, List.set_cons_zero, List.set_cons_succ]
      refine wpAnyH_take (i := 5) (v := (.tuple #[.int .i64 (U : Int), .bool true])) rfl (by kernel_rfl) (by kernel_rfl) (by kernel_rfl) (fun _ _ _ h => h) (Or.inl ⟨by rfl, fun X hS => ?_⟩) hHeld ?_
      · obtain ⟨b0, b1⟩ := hS
        go_simp
      try simp only [Act.put, List.getElem_toArray, List.getElem_cons_zero, List.getElem_cons_succ, List.setIfInBounds_toArray, List.set_cons_zero, List.set_cons_succ]
      refine wpAnyH_take (i := 6) (v := (.int .i64 (U : Int))) rfl (by kernel_rfl) (by kernel_rfl) (by kernel_rfl) (fun _ _ _ h => h) (Or.inl ⟨by rfl, fun X hS => ?_⟩) hHeld ?_
      · obtain ⟨b0, b1⟩ := hS
        go_simp
      try simp only [Act.put, List.getElem_toArray, List.getElem_cons_zero, List.getElem_cons_succ, List.setIfInBounds_toArray, List.set_cons_zero, List.set_cons_succ]
      refine wpAnyH_take (i := 7) (v := (.bool true)) rfl (by kernel_rfl) (by kernel_rfl) (by kernel_rfl) (fun _ _ _ h => h) (Or.inl ⟨by rfl, fun X hS => ?_⟩) hHeld ?_
      · obtain ⟨b0, b1⟩ := hS
        go_simp
      try simp only [Act.put, List.getElem_toArray, List.getElem_cons_zero, List.getElem_cons_succ, List.setIfInBounds_toArray, List.set_cons_zero, List.set_cons_succ]
      refine wpAnyH_take (i := 8) (v := (.int .i64 (U : Int))) rfl (by kernel_rfl) (by kernel_rfl) (by kernel_rfl) (fun _ _ _ h => h) (Or.inl ⟨by rfl, fun X hS => ?_⟩) hHeld ?_
      · obtain ⟨b0, b1⟩ := hS
        go_simp
      try simp only [Act.put, List.getElem_toArray, List.getElem_cons_zero, List.getElem_cons_succ, List.setIfInBounds_toArray, List.set_cons_zero, List.set_cons_succ]
      refine wpAnyH_take (i := 9) (v := (.bool true)) rfl (by kernel_rfl) (by kernel_rfl) (by kernel_rfl) (fun _ _ _ h => h) (Or.inl ⟨by rfl, fun X hS => ?_⟩) hHeld ?_
      · obtain ⟨b0, b1⟩ := hS
        go_simp
      try simp only [Act.put, List.getElem_toArray, List.getElem_cons_zero, List.getElem_cons_succ, List.setIfInBounds_toArray, List.set_cons_zero, List.set_cons_succ]
      refine wpAnyH_done (by kernel_rfl) ?_ _
      clear hHeld
      go_upto_region 7 with fail
      refine wp_region_held_drew (S := fun X : World => X.cell? ⟨B, 0, none⟩ = some (.pointer (some ⟨A, 0, none⟩)) ∧ X.cell? ⟨B, 1, none⟩ = some (.pointer (some ⟨A, 0, none⟩))) (by kernel_rfl) ⟨(HV4.out.below (Below.refl w4.heap.size w4).drew).all.1, (HV4.out.below (Below.refl w4.heap.size w4).drew).all.2.1⟩ (fun hHeld => ?_)
      have HV4d := Lib.hid (HV4.out.below (Below.refl w4.heap.size w4).drew)
      have HB4d := Lib.hid (HB4.out.trans ((Below.refl w4.heap.size w4).drew.mono HB4.out.size))
      clear HV4 HB4
      generalize w4.drew = w6 at *
      refine wpAnyH_take (i := 0) (v := (.bool true)) rfl (by kernel_rfl) (by kernel_rfl) (by kernel_rfl) (fun _ _ _ h => h) (Or.inl ⟨by rfl, fun X hS => ?_⟩) hHeld ?_
      · obtain ⟨b0, b1⟩ := hS
        go_simp
      try simp only [Act.put, List.getElem_toArray, List.getElem_cons_zero, List.getElem_cons_succ, List.setIfInBounds_toArray, List.set_cons_zero, List.set_cons_succ]
      refine wpAnyH_take (i := 1) (v := (.bool true)) rfl (by kernel_rfl) (by kernel_rfl) (by kernel_rfl) (fun _ _ _ h => h) (Or.inl ⟨by rfl, fun X hS => ?_⟩) hHeld ?_
      · obtain ⟨b0, b1⟩ := hS
        go_simp
      try simp only [Act.put, List.getElem_toArray, List.getElem_cons_zero, List.getElem_cons_succ, List.setIfInBounds_toArray, List.set_cons_zero, List.set_cons_succ]
      refine wpAnyH_take (i := 2) (v := (bdyP B)) rfl (by kernel_rfl) (by kernel_rfl) (by kernel_rfl) (fun _ _ _ h => h) (Or.inl ⟨by rfl, fun X hS => ?_⟩) hHeld ?_
      · obtain ⟨b0, b1⟩ := hS
        go_simp
      try simp only [Act.put, List.getElem_toArray, List.getElem_cons_zero, List.getElem_cons_succ, List.setIfInBounds_toArray, List.set_cons_zero, List.set_cons_succ]
      refine wpAnyH_take (i := 4) (v := (.int .i64 (U : Int))) rfl (by kernel_rfl) (by kernel_rfl) (by kernel_rfl) (fun _ _ _ h => h) (Or.inl ⟨by rfl, fun X hS => ?_⟩) hHeld ?_
      · obtain ⟨b0, b1⟩ := hS
        go_simp
      try simp only [Act.put, List.getElem_toArray, List.getElem_cons_zero, List.getElem_cons_succ, List.setIfInBounds_toArray, List.set_cons_zero, List.set_cons_succ]
      refine wpAnyH_take (i := 6) (v := (.int .i64 (k : Int))) rfl (by kernel_rfl) (by kernel_rfl) (by kernel_rfl) (fun _ _ _ h => h) (Or.inl ⟨by rfl, fun X hS => ?_⟩) hHeld ?_
      · obtain ⟨b0, b1⟩ := hS
        go_simp
      try simp only [Act.put, List.getElem_toArray, List.getElem_cons_zero, List.getElem_cons_succ, List.setIfInBounds_toArray, List.set_cons_zero, List.set_cons_succ]
      refine wpAnyH_take (i := 7) (v := (.int .i64 (P : Int))) rfl (by kernel_rfl) (by kernel_rfl) (by kernel_rfl) (fun _ _ _ h => h) (Or.inl ⟨by rfl, fun X hS => ?_⟩) hHeld ?_
      · obtain ⟨b0, b1⟩ := hS
        obtain ⟨hm1, hm2⟩ := HM1.out
        go_simp
      try simp only [Act.put, List.getElem_toArray, List.getElem_cons_zero, List.getElem_cons_succ, List.setIfInBounds_toArray, List.set_cons_zero, List.set_cons_succ]
      refine wpAnyH_take (i := 9) (v := (bdyP B)) rfl (by kernel_rfl) (by kernel_rfl) (by kernel_rfl) (fun _ _ _ h => h) (Or.inl ⟨by rfl, fun X hS => ?_⟩) hHeld ?_
      · obtain ⟨b0, b1⟩ := hS
        go_simp
      try simp only [Act.put, List.getElem_toArray, List.getElem_cons_zero, List.getElem_cons_succ, List.setIfInBounds_toArray, List.set_cons_zero, List.set_cons_succ]
      refine wpAnyH_take (i := 10) (v := (bdyP B)) rfl (by kernel_rfl) (by kernel_rfl) (by kernel_rfl) (fun _ _ _ h => h) (Or.inl ⟨by rfl, fun X hS => ?_⟩) hHeld ?_
      · obtain ⟨b0, b1⟩ := hS
        go_simp
      try simp only [Act.put, List.getElem_toArray, List.getElem_cons_zero, List.getElem_cons_succ, List.setIfInBounds_toArray, List.set_cons_zero, List.set_cons_succ]
      refine wpAnyH_take (i := 11) (v := (.pointer (some ⟨B, 0, none⟩))) rfl (by kernel_rfl) (by kernel_rfl) (by kernel_rfl) (fun _ _ _ h => h) (Or.inl ⟨by rfl, fun X hS => ?_⟩) hHeld ?_
      · obtain ⟨b0, b1⟩ := hS
        go_simp
      try simp only [Act.put, List.getElem_toArray, List.getElem_cons_zero, List.getElem_cons_succ, List.setIfInBounds_toArray, List.set_cons_zero, List.set_cons_succ]
      refine wpAnyH_take (i := 12) (v := (.pointer (some ⟨A, 0, none⟩))) rfl (by kernel_rfl) (by kernel_rfl) (by kernel_rfl) (fun _ _ _ h => h) (Or.inl ⟨by rfl, fun X hS => ?_⟩) hHeld ?_
      · obtain ⟨b0, b1⟩ := hS
        go_simp
      try simp only [Act.put, List.getElem_toArray, List.getElem_cons_zero, List.getElem_cons_succ, List.setIfInBounds_toArray, List.set_cons_zero, List.set_cons_succ]
      refine wpAnyH_ready (rs := [3]) (by kernel_rfl) (by simp) (AllReadyH.cons rfl (fun K1 hK1 => ?_) AllReadyH.nil)
      go_simp
      have HH := Lib.hid hHeld
      clear hHeld
      refine (HBA.out _ HV4d.out).mono ?_
      rintro e w7 ⟨rfl, hb⟩
      have hv4 := HV4d.out.below hb
      have HV7 := Lib.hid hv4
      have hrb := And.intro hv4.all.1 hv4.all.2.1
      have HB7 := Lib.hid (HB4d.out.trans (hb.mono HB4d.out.size))
      clear HH hb HV4d HB4d hv4
      refine hK1.out _ _ hrb (fun hHeld => ?_)
      clear hK1
      try simp only [Act.put, List.getElem_toArray, List.getElem_cons_zero, List.getElem_cons_succ, List.setIfInBounds_toArray, List.set_cons_zero, List.set_cons_succ]
      refine wpAnyH_take (i := 5) (v := (.int .i64 (1 + (U : Int)))) rfl (by kernel_rfl) (by kernel_rfl) (by kernel_rfl) (fun _ _ _ h => h) (Or.inl ⟨by rfl, fun X hS => ?_⟩) hHeld ?_
      · obtain ⟨b0, b1⟩ := hS
        have hm1 := HM2.out.1
        go_simp
      try simp only [Act.put, List.getElem_toArray, List.getElem_cons_zero, List.getElem_cons_succ, List.setIfInBounds_toArray, List.set_cons_zero, List.set_cons_succ]
      refine wpAnyH_take (i := 8) (v := (.int .i64 (1 + (U : Int) + (P : Int)))) rfl (by kernel_rfl) (by kernel_rfl) (by kernel_rfl) (fun _ _ _ h => h) (Or.inl ⟨by rfl, fun X hS => ?_⟩) hHeld ?_
      · obtain ⟨b0, b1⟩ := hS
        have hm1 := HM2.out.2
        go_simp
      try simp only [Act.put, List.getElem_toArray, List.getElem_cons_zero, List.getElem_cons_succ, List.setIfInBounds_toArray, List.set_cons_zero, List.set_cons_succ]
      refine wpAnyH_ready (rs := [13]) (by kernel_rfl) (by simp) (AllReadyH.cons rfl (fun K1 hK1 => ?_) AllReadyH.nil)
      go_simp
      have HH := Lib.hid hHeld
      clear hHeld
      refine (HCP.out _ HV7.out).mono ?_
      rintro e w8 ⟨rfl, rfl⟩
      have hrb := And.intro HV7.out.all.1 HV7.out.all.2.1
      clear HH
      refine hK1.out _ _ hrb (fun hHeld => ?_)
      clear hK1
      try simp only [Act.put, List.getElem_toArray, List.getElem_cons_zero, List.getElem_cons_succ, List.setIfInBounds_toArray, List.set_cons_zero, List.set_cons_succ]
      by_cases hfit : U + P ≤ n
      · have hfi : 1 + (U : Int) + (P : Int) ≤ (n : Int) + 1 := by omega
        have HCB : Hid (canB n g k R = true) := Lib.hid (by unfold canB; rw [HPU.out.1, HPU.out.2, decide_eq_true hfit]; simp)
        refine wpAnyH_take (i := 14) (v := (.bool true)) rfl (by kernel_rfl) (by kernel_rfl) (by kernel_rfl) (fun _ _ _ h => h) (Or.inl ⟨by rfl, fun X hS => ?_⟩) hHeld ?_
        · obtain ⟨b0, b1⟩ := hS
          go_simp
        try simp only [Act.put, List.getElem_toArray, List.getElem_cons_zero, List.getElem_cons_succ, List.setIfInBounds_toArray, List.set_cons_zero, List.set_cons_succ]
        refine wpAnyH_take (i := 15) (v := (.bool true)) rfl (by kernel_rfl) (by kernel_rfl) (by kernel_rfl) (fun _ _ _ h => h) (Or.inl ⟨by rfl, fun X hS => ?_⟩) hHeld ?_
        · obtain ⟨b0, b1⟩ := hS
          go_simp
        try simp only [Act.put, List.getElem_toArray, List.getElem_cons_zero, List.getElem_cons_succ, List.setIfInBounds_toArray, List.set_cons_zero, List.set_cons_succ]
        refine wpAnyH_take (i := 16) (v := (.bool true)) rfl (by kernel_rfl) (by kernel_rfl) (by kernel_rfl) (fun _ _ _ h => h) (Or.inl ⟨by rfl, fun X hS => ?_⟩) hHeld ?_
        · obtain ⟨b0, b1⟩ := hS
          go_simp
        try simp only [Act.put, List.getElem_toArray, List.getElem_cons_zero, List.getElem_cons_succ, List.setIfInBounds_toArray, List.set_cons_zero, List.set_cons_succ]
        refine wpAnyH_done (by kernel_rfl) ?_ _
        clear hHeld
        go_wp2_with fail
        go_ret
        exact ⟨by first | (rw [HCB.out]; rfl) | rw [HCB.out], HB7.out⟩

      · have hfi : ¬ (1 + (U : Int) + (P : Int) ≤ (n : Int) + 1) := by omega
        have HCB : Hid (canB n g k R = false) := Lib.hid (by unfold canB; rw [HFT.out, HPU.out.1, HPU.out.2, decide_eq_false hfit]; rfl)
        refine wpAnyH_take (i := 14) (v := (.bool false)) rfl (by kernel_rfl) (by kernel_rfl) (by kernel_rfl) (fun _ _ _ h => h) (Or.inl ⟨by rfl, fun X hS => ?_⟩) hHeld ?_
        · obtain ⟨b0, b1⟩ := hS
          go_simp
        try simp only [Act.put, List.getElem_toArray, List.getElem_cons_zero, List.getElem_cons_succ, List.setIfInBounds_toArray, List.set_cons_zero, List.set_cons_succ]
        refine wpAnyH_take (i := 15) (v := (.bool false)) rfl (by kernel_rfl) (by kernel_rfl) (by kernel_rfl) (fun _ _ _ h => h) (Or.inl ⟨by rfl, fun X hS => ?_⟩) hHeld ?_
        · obtain ⟨b0, b1⟩ := hS
          go_simp
        try simp only [Act.put, List.getElem_toArray, List.getElem_cons_zero, List.getElem_cons_succ, List.setIfInBounds_toArray, List.set_cons_zero, List.set_cons_succ]
        refine wpAnyH_take (i := 16) (v := (.bool false)) rfl (by kernel_rfl) (by kernel_rfl) (by kernel_rfl) (fun _ _ _ h => h) (Or.inl ⟨by rfl, fun X hS => ?_⟩) hHeld ?_
        · obtain ⟨b0, b1⟩ := hS
          go_simp
        try simp only [Act.put, List.getElem_toArray, List.getElem_cons_zero, List.getElem_cons_succ, List.setIfInBounds_toArray, List.set_cons_zero, List.set_cons_succ]
        refine wpAnyH_done (by kernel_rfl) ?_ _
        clear hHeld
        go_wp2_with fail
        go_ret
        exact ⟨by first | (rw [HCB.out]; rfl) | rw [HCB.out], HB7.out⟩

  | false =>
    have HFT : Hid (fitB g k R = false) := Lib.hid (by rw [HFB.out]; rfl)
    clear HFB
    go_upto_region 6 with fail
    refine wp_region_held_drew (S := fun X : World => X.cell? ⟨B, 0, none⟩ = some (.pointer (some ⟨A, 0, none⟩)) ∧ X.cell? ⟨B, 1, none⟩ = some (.pointer (some ⟨A, 0, none⟩))) (by kernel_rfl) ⟨(HV2.out.below (Below.refl w2.heap.size w2).drew).all.1, (HV2.out.below (Below.refl w2.heap.size w2).drew).all.2.1⟩ (fun hHeld => ?_)
    have HV2d := Lib.hid (HV2.out.below (Below.refl w2.heap.size w2).drew)
    have HB2d := Lib.hid (HB2.out.trans ((Below.refl w2.heap.size w2).drew.mono HB2.out.size))
    clear HV2 HB2
    generalize w2.drew = w3 at *
    refine wpAnyH_take (i := 0) (v := (bdyP B)) rfl (by kernel_rfl) (by kernel_rfl) (by kernel_rfl) (fun _ _ _ h => h) (Or.inl ⟨by rfl, fun X hS => ?_⟩) hHeld ?_
    · obtain ⟨b0, b1⟩ := hS
      go_simp
    try simp only [Act.put, List.getElem_toArray, List.getElem_cons_zero, List.getElem_cons_succ, List.setIfInBounds_toArray, List.set_cons_zero, List.set_cons_succ]
    refine wpAnyH_take (i := 2) (v := (.int .i64 (k : Int))) rfl (by kernel_rfl) (by kernel_rfl) (by kernel_rfl) (fun _ _ _ h => h) (Or.inl ⟨by rfl, fun X hS => ?_⟩) hHeld ?_
    · obtain ⟨b0, b1⟩ := hS
      go_simp
    try simp only [Act.put, List.getElem_toArray, List.getElem_cons_zero, List.getElem_cons_succ, List.setIfInBounds_toArray, List.set_cons_zero, List.set_cons_succ]
    refine wpAnyH_take (i := 3) (v := (.int .i64 (P : Int))) rfl (by kernel_rfl) (by kernel_rfl) (by kernel_rfl) (fun _ _ _ h => h) (Or.inl ⟨by rfl, fun X hS => ?_⟩) hHeld ?_
    · obtain ⟨b0, b1⟩ := hS
      obtain ⟨hm1, hm2⟩ := HM1.out
      go_simp
    try simp only [Act.put, List.getElem_toArray, List.getElem_cons_zero, List.getElem_cons_succ, List.setIfInBounds_toArray, List.set_cons_zero, List.set_cons_succ]
    refine wpAnyH_ready (rs := [1]) (by kernel_rfl) (by simp) (AllReadyH.cons rfl (fun K1 hK1 => ?_) AllReadyH.nil)
    go_simp
    have HH := Lib.hid hHeld
    clear hHeld
    refine (HGR.out _ HV2d.out).mono ?_
    rintro e w4 ⟨rfl, hb⟩
    have hv4 := HV2d.out.below hb
    have HV4 := Lib.hid hv4
    have hrb := And.intro hv4.all.1 hv4.all.2.1
    have HB4 := Lib.hid (HB2d.out.trans (hb.mono HB2d.out.size))
    clear HH hb HV2d HB2d hv4
    refine hK1.out _ _ hrb (fun hHeld => ?_)
    clear hK1
    try simp only [Act.put, List.getElem_toArray, List.getElem_cons_zero, List.getElem_cons_succ, List.setIfInBounds_toArray, List.set_cons_zero, List.set_cons_succ]
    refine wpAnyH_ready (rs := [4]) (by kernel_rfl) (by simp) (AllReadyH.cons rfl (fun K1 hK1 => ?_) AllReadyH.nil)
    go_simp
    have HH := Lib.hid hHeld
    clear hHeld
    refine (HUP.out _).mono ?_
    rintro e w5 ⟨rfl, rfl⟩
    have hrb := And.intro HV4.out.all.1 HV4.out.all.2.1
    clear HH
    refine hK1.out _ _ hrb (fun hHeld => ?_)
    clear hK1
    try simp only [Act.put, List.getElem_toArray, List.getElem_cons_zero, List.getElem_cons_succ, List.setIfInBounds_toArray, List.set_cons_zero, List.set_cons_succ]
    refine wpAnyH_take (i := 5) (v := (.tuple #[.int .i64 (U : Int), .bool true])) rfl (by kernel_rfl) (by kernel_rfl) (by kernel_rfl) (fun _ _ _ h => h) (Or.inl ⟨by rfl, fun X hS => ?_⟩) hHeld ?_
    · obtain ⟨b0, b1⟩ := hS
      go_simp
    try simp only [Act.put, List.getElem_toArray, List.getElem_cons_zero, List.getElem_cons_succ, List.setIfInBounds_toArray, List.set_cons_zero, List.set_cons_succ]
    refine wpAnyH_take (i := 6) (v := (.int .i64 (U : Int))) rfl (by kernel_rfl) (by kernel_rfl) (by kernel_rfl) (fun _ _ _ h => h) (Or.inl ⟨by rfl, fun X hS => ?_⟩) hHeld ?_
    · obtain ⟨b0, b1⟩ := hS
      go_simp
    try simp only [Act.put, List.getElem_toArray, List.getElem_cons_zero, List.getElem_cons_succ, List.setIfInBounds_toArray, List.set_cons_zero, List.set_cons_succ]
    refine wpAnyH_take (i := 7) (v := (.bool true)) rfl (by kernel_rfl) (by kernel_rfl) (by kernel_rfl) (fun _ _ _ h => h) (Or.inl ⟨by rfl, fun X hS => ?_⟩) hHeld ?_
    · obtain ⟨b0, b1⟩ := hS
      go_simp
    try simp only [Act.put, List.getElem_toArray, List.getElem_cons_zero, List.getElem_cons_succ, List.setIfInBounds_toArray, List.set_cons_zero, List.set_cons_succ]
    refine wpAnyH_take (i := 8) (v := (.int .i64 (U : Int))) rfl (by kernel_rfl) (by kernel_rfl) (by kernel_rfl) (fun _ _ _ h => h) (Or.inl ⟨by rfl, fun X hS => ?_⟩) hHeld ?_
    · obtain ⟨b0, b1⟩ := hS
      go_simp
    try simp only [Act.put, List.getElem_toArray, List.getElem_cons_zero, List.getElem_cons_succ, List.setIfInBounds_toArray, List.set_cons_zero, List.set_cons_succ]
    refine wpAnyH_take (i := 9) (v := (.bool true)) rfl (by kernel_rfl) (by kernel_rfl) (by kernel_rfl) (fun _ _ _ h => h) (Or.inl ⟨by rfl, fun X hS => ?_⟩) hHeld ?_
    · obtain ⟨b0, b1⟩ := hS
      go_simp
    try simp only [Act.put, List.getElem_toArray, List.getElem_cons_zero, List.getElem_cons_succ, List.setIfInBounds_toArray, List.set_cons_zero, List.set_cons_succ]
    refine wpAnyH_done (by kernel_rfl) ?_ _
    clear hHeld
    go_upto_region 7 with fail
    refine wp_region_held_drew (S := fun X : World => X.cell? ⟨B, 0, none⟩ = some (.pointer (some ⟨A, 0, none⟩)) ∧ X.cell? ⟨B, 1, none⟩ = some (.pointer (some ⟨A, 0, none⟩))) (by kernel_rfl) ⟨(HV4.out.below (Below.refl w4.heap.size w4).drew).all.1, (HV4.out.below (Below.refl w4.heap.size w4).drew).all.2.1⟩ (fun hHeld => ?_)
    have HV4d := Lib.hid (HV4.out.below (Below.refl w4.heap.size w4).drew)
    have HB4d := Lib.hid (HB4.out.trans ((Below.refl w4.heap.size w4).drew.mono HB4.out.size))
    clear HV4 HB4
    generalize w4.drew = w6 at *
    refine wpAnyH_take (i := 0) (v := (.bool true)) rfl (by kernel_rfl) (by kernel_rfl) (by kernel_rfl) (fun _ _ _ h => h) (Or.inl ⟨by rfl, fun X hS => ?_⟩) hHeld ?_
    · obtain ⟨b0, b1⟩ := hS
      go_simp
    try simp only [Act.put, List.getElem_toArray, List.getElem_cons_zero, List.getElem_cons_succ, List.setIfInBounds_toArray, List.set_cons_zero, List.set_cons_succ]
    refine wpAnyH_take (i := 1) (v := (.bool true)) rfl (by kernel_rfl) (by kernel_rfl) (by kernel_rfl) (fun _ _ _ h => h) (Or.inl ⟨by rfl, fun X hS => ?_⟩) hHeld ?_
    · obtain ⟨b0, b1⟩ := hS
      go_simp
    try simp only [Act.put, List.getElem_toArray, List.getElem_cons_zero, List.getElem_cons_succ, List.setIfInBounds_toArray, List.set_cons_zero, List.set_cons_succ]
    refine wpAnyH_take (i := 2) (v := (bdyP B)) rfl (by kernel_rfl) (by kernel_rfl) (by kernel_rfl) (fun _ _ _ h => h) (Or.inl ⟨by rfl, fun X hS => ?_⟩) hHeld ?_
    · obtain ⟨b0, b1⟩ := hS
      go_simp
    try simp only [Act.put, List.getElem_toArray, List.getElem_cons_zero, List.getElem_cons_succ, List.setIfInBounds_toArray, List.set_cons_zero, List.set_cons_succ]
    refine wpAnyH_take (i := 4) (v := (.int .i64 (U : Int))) rfl (by kernel_rfl) (by kernel_rfl) (by kernel_rfl) (fun _ _ _ h => h) (Or.inl ⟨by rfl, fun X hS => ?_⟩) hHeld ?_
    · obtain ⟨b0, b1⟩ := hS
      go_simp
    try simp only [Act.put, List.getElem_toArray, List.getElem_cons_zero, List.getElem_cons_succ, List.setIfInBounds_toArray, List.set_cons_zero, List.set_cons_succ]
    refine wpAnyH_take (i := 6) (v := (.int .i64 (k : Int))) rfl (by kernel_rfl) (by kernel_rfl) (by kernel_rfl) (fun _ _ _ h => h) (Or.inl ⟨by rfl, fun X hS => ?_⟩) hHeld ?_
    · obtain ⟨b0, b1⟩ := hS
      go_simp
    try simp only [Act.put, List.getElem_toArray, List.getElem_cons_zero, List.getElem_cons_succ, List.setIfInBounds_toArray, List.set_cons_zero, List.set_cons_succ]
    refine wpAnyH_take (i := 7) (v := (.int .i64 (P : Int))) rfl (by kernel_rfl) (by kernel_rfl) (by kernel_rfl) (fun _ _ _ h => h) (Or.inl ⟨by rfl, fun X hS => ?_⟩) hHeld ?_
    · obtain ⟨b0, b1⟩ := hS
      obtain ⟨hm1, hm2⟩ := HM1.out
      go_simp
    try simp only [Act.put, List.getElem_toArray, List.getElem_cons_zero, List.getElem_cons_succ, List.setIfInBounds_toArray, List.set_cons_zero, List.set_cons_succ]
    refine wpAnyH_take (i := 9) (v := (bdyP B)) rfl (by kernel_rfl) (by kernel_rfl) (by kernel_rfl) (fun _ _ _ h => h) (Or.inl ⟨by rfl, fun X hS => ?_⟩) hHeld ?_
    · obtain ⟨b0, b1⟩ := hS
      go_simp
    try simp only [Act.put, List.getElem_toArray, List.getElem_cons_zero, List.getElem_cons_succ, List.setIfInBounds_toArray, List.set_cons_zero, List.set_cons_succ]
    refine wpAnyH_take (i := 10) (v := (bdyP B)) rfl (by kernel_rfl) (by kernel_rfl) (by kernel_rfl) (fun _ _ _ h => h) (Or.inl ⟨by rfl, fun X hS => ?_⟩) hHeld ?_
    · obtain ⟨b0, b1⟩ := hS
      go_simp
    try simp only [Act.put, List.getElem_toArray, List.getElem_cons_zero, List.getElem_cons_succ, List.setIfInBounds_toArray, List.set_cons_zero, List.set_cons_succ]
    refine wpAnyH_take (i := 11) (v := (.pointer (some ⟨B, 0, none⟩))) rfl (by kernel_rfl) (by kernel_rfl) (by kernel_rfl) (fun _ _ _ h => h) (Or.inl ⟨by rfl, fun X hS => ?_⟩) hHeld ?_
    · obtain ⟨b0, b1⟩ := hS
      go_simp
    try simp only [Act.put, List.getElem_toArray, List.getElem_cons_zero, List.getElem_cons_succ, List.setIfInBounds_toArray, List.set_cons_zero, List.set_cons_succ]
    refine wpAnyH_take (i := 12) (v := (.pointer (some ⟨A, 0, none⟩))) rfl (by kernel_rfl) (by kernel_rfl) (by kernel_rfl) (fun _ _ _ h => h) (Or.inl ⟨by rfl, fun X hS => ?_⟩) hHeld ?_
    · obtain ⟨b0, b1⟩ := hS
      go_simp
    try simp only [Act.put, List.getElem_toArray, List.getElem_cons_zero, List.getElem_cons_succ, List.setIfInBounds_toArray, List.set_cons_zero, List.set_cons_succ]
    refine wpAnyH_ready (rs := [3]) (by kernel_rfl) (by simp) (AllReadyH.cons rfl (fun K1 hK1 => ?_) AllReadyH.nil)
    go_simp
    have HH := Lib.hid hHeld
    clear hHeld
    refine (HBA.out _ HV4d.out).mono ?_
    rintro e w7 ⟨rfl, hb⟩
    have hv4 := HV4d.out.below hb
    have HV7 := Lib.hid hv4
    have hrb := And.intro hv4.all.1 hv4.all.2.1
    have HB7 := Lib.hid (HB4d.out.trans (hb.mono HB4d.out.size))
    clear HH hb HV4d HB4d hv4
    refine hK1.out _ _ hrb (fun hHeld => ?_)
    clear hK1
    try simp only [Act.put, List.getElem_toArray, List.getElem_cons_zero, List.getElem_cons_succ, List.setIfInBounds_toArray, List.set_cons_zero, List.set_cons_succ]
    refine wpAnyH_take (i := 5) (v := (.int .i64 (1 + (U : Int)))) rfl (by kernel_rfl) (by kernel_rfl) (by kernel_rfl) (fun _ _ _ h => h) (Or.inl ⟨by rfl, fun X hS => ?_⟩) hHeld ?_
    · obtain ⟨b0, b1⟩ := hS
      have hm1 := HM2.out.1
      go_simp
    try simp only [Act.put, List.getElem_toArray, List.getElem_cons_zero, List.getElem_cons_succ, List.setIfInBounds_toArray, List.set_cons_zero, List.set_cons_succ]
    refine wpAnyH_take (i := 8) (v := (.int .i64 (1 + (U : Int) + (P : Int)))) rfl (by kernel_rfl) (by kernel_rfl) (by kernel_rfl) (fun _ _ _ h => h) (Or.inl ⟨by rfl, fun X hS => ?_⟩) hHeld ?_
    · obtain ⟨b0, b1⟩ := hS
      have hm1 := HM2.out.2
      go_simp
    try simp only [Act.put, List.getElem_toArray, List.getElem_cons_zero, List.getElem_cons_succ, List.setIfInBounds_toArray, List.set_cons_zero, List.set_cons_succ]
    refine wpAnyH_ready (rs := [13]) (by kernel_rfl) (by simp) (AllReadyH.cons rfl (fun K1 hK1 => ?_) AllReadyH.nil)
    go_simp
    have HH := Lib.hid hHeld
    clear hHeld
    refine (HCP.out _ HV7.out).mono ?_
    rintro e w8 ⟨rfl, rfl⟩
    have hrb := And.intro HV7.out.all.1 HV7.out.all.2.1
    clear HH
    refine hK1.out _ _ hrb (fun hHeld => ?_)
    clear hK1
    try simp only [Act.put, List.getElem_toArray, List.getElem_cons_zero, List.getElem_cons_succ, List.setIfInBounds_toArray, List.set_cons_zero, List.set_cons_succ]
    by_cases hfit : U + P ≤ n
    · have hfi : 1 + (U : Int) + (P : Int) ≤ (n : Int) + 1 := by omega
      have HCB : Hid (canB n g k R = true) := Lib.hid (by unfold canB; rw [HPU.out.1, HPU.out.2, decide_eq_true hfit]; simp)
      refine wpAnyH_take (i := 14) (v := (.bool true)) rfl (by kernel_rfl) (by kernel_rfl) (by kernel_rfl) (fun _ _ _ h => h) (Or.inl ⟨by rfl, fun X hS => ?_⟩) hHeld ?_
      · obtain ⟨b0, b1⟩ := hS
        go_simp
      try simp only [Act.put, List.getElem_toArray, List.getElem_cons_zero, List.getElem_cons_succ, List.setIfInBounds_toArray, List.set_cons_zero, List.set_cons_succ]
      refine wpAnyH_take (i := 15) (v := (.bool true)) rfl (by kernel_rfl) (by kernel_rfl) (by kernel_rfl) (fun _ _ _ h => h) (Or.inl ⟨by rfl, fun X hS => ?_⟩) hHeld ?_
      · obtain ⟨b0, b1⟩ := hS
        go_simp
      try simp only [Act.put, List.getElem_toArray, List.getElem_cons_zero, List.getElem_cons_succ, List.setIfInBounds_toArray, List.set_cons_zero, List.set_cons_succ]
      refine wpAnyH_take (i := 16) (v := (.bool true)) rfl (by kernel_rfl) (by kernel_rfl) (by kernel_rfl) (fun _ _ _ h => h) (Or.inl ⟨by rfl, fun X hS => ?_⟩) hHeld ?_
      · obtain ⟨b0, b1⟩ := hS
        go_simp
      try simp only [Act.put, List.getElem_toArray, List.getElem_cons_zero, List.getElem_cons_succ, List.setIfInBounds_toArray, List.set_cons_zero, List.set_cons_succ]
      refine wpAnyH_done (by kernel_rfl) ?_ _
      clear hHeld
      go_wp2_with fail
      go_ret
      exact ⟨by first | (rw [HCB.out]; rfl) | rw [HCB.out], HB7.out⟩

    · have hfi : ¬ (1 + (U : Int) + (P : Int) ≤ (n : Int) + 1) := by omega
      have HCB : Hid (canB n g k R = false) := Lib.hid (by unfold canB; rw [HFT.out, HPU.out.1, HPU.out.2, decide_eq_false hfit]; rfl)
      refine wpAnyH_take (i := 14) (v := (.bool false)) rfl (by kernel_rfl) (by kernel_rfl) (by kernel_rfl) (fun _ _ _ h => h) (Or.inl ⟨by rfl, fun X hS => ?_⟩) hHeld ?_
      · obtain ⟨b0, b1⟩ := hS
        go_simp
      try simp only [Act.put, List.getElem_toArray, List.getElem_cons_zero, List.getElem_cons_succ, List.setIfInBounds_toArray, List.set_cons_zero, List.set_cons_succ]
      refine wpAnyH_take (i := 15) (v := (.bool false)) rfl (by kernel_rfl) (by kernel_rfl) (by kernel_rfl) (fun _ _ _ h => h) (Or.inl ⟨by rfl, fun X hS => ?_⟩) hHeld ?_
      · obtain ⟨b0, b1⟩ := hS
        go_simp
      try simp only [Act.put, List.getElem_toArray, List.getElem_cons_zero, List.getElem_cons_succ, List.setIfInBounds_toArray, List.set_cons_zero, List.set_cons_succ]
      refine wpAnyH_take (i := 16) (v := (.bool false)) rfl (by kernel_rfl) (by kernel_rfl) (by kernel_rfl) (fun _ _ _ h => h) (Or.inl ⟨by rfl, fun X hS => ?_⟩) hHeld ?_
      · obtain ⟨b0, b1⟩ := hS
        go_simp
      try simp only [Act.put, List.getElem_toArray, List.getElem_cons_zero, List.getElem_cons_succ, List.setIfInBounds_toArray, List.set_cons_zero, List.set_cons_succ]
      refine wpAnyH_done (by kernel_rfl) ?_ _
      clear hHeld
      go_wp2_with fail
      go_ret
      exact ⟨by first | (rw [HCB.out]; rfl) | rw [HCB.out], HB7.out⟩

end Go.Proofs.YtfemgekhpcgliaaGreat.Bt
/- slices.Equal of bytes and of runs; the document's Can. (Written by gen_cnm.py.) -/
namespace Go.Proofs.YtfemgekhpcgliaaGreat.Bt
open Go Go.RowKit Go.Shelf
set_option linter.unusedVariables false
set_option linter.unusedSimpArgs false
set_option maxRecDepth 100000 in
set_option maxHeartbeats 4000000 in
theorem prequal_any (u v : Option Addr) (ca cb : Nat) (L : List (Nat × Nat × Bool)) (hL : L.length ≤ 2000) (w : World) (hu : RnAt w u L) (hv : RnAt w v L) :
    Calls Tryz.prog 38 #[.slice u L.length ca, .slice v L.length cb] w (Gives (.bool true) w) := by
  obtain ⟨n, hn⟩ : ∃ n, L.length = n := ⟨_, rfl⟩
  have HN := Lib.hid hn
  have d1 : ((n : Int) != (n : Int)) = false := by simp
  have HU := Lib.hid hu; have HV := Lib.hid hv
  rw [hn] at hL ⊢
  clear hu hv hn
  go_enter Tryz.func38, Tryz.ntmps38
  go_wp2_with fail
  go_loopw [13] (fun i wr => ∃ j : Nat, j ≤ n ∧ i = .int .i64 (j : Int) ∧ Hid (Below w.heap.size w wr)) (fun i _ => n - (intOf i).toNat)
  case atStart => exact ⟨0, Nat.zero_le _, rfl, Lib.hid (Below.refl _ _)⟩
  case round =>
    obtain ⟨j, hj, rfl, HW⟩ := hrel
    by_cases hlt : j < n
    · have hjL : j < L.length := by rw [HN.out]; exact hlt
      rcases HU.out.below HW.out with e | ⟨gu, rfl, hgu, hcu⟩
      · rw [e] at hjL; simp at hjL
      rcases HV.out.below HW.out with e | ⟨gv, rfl, hgv, hcv⟩
      · rw [e] at hjL; simp at hjL
      obtain ⟨p0, p1, p2⟩ := hcu j hjL
      obtain ⟨q0, q1, q2⟩ := hcv j hjL
      obtain ⟨y, hy⟩ : ∃ y, L.getD j r0 = y := ⟨_, rfl⟩
      rw [hy] at p0 p1 p2 q0 q1 q2
      obtain ⟨y1, y2, y3⟩ := y
      simp only at p0 p1 p2 q0 q1 q2
      have i0 : 0 ≤ (j : Int) := by omega
      have i1 : (j : Int) < (n : Int) := by omega
      clear hcu hcv hjL hy hgu hgv
      go_wp2_with fail
      go_region
      go_wp2_with fail
      refine ⟨⟨j + 1, by omega, by go_num, Lib.hid HW.out.drew⟩, by simp [intOf]; omega⟩
    · go_wp2_with fail
      go_ret
      exact ⟨rfl, HW.out⟩
set_option maxRecDepth 100000 in
set_option maxHeartbeats 4000000 in
theorem bequal_any (D E : Nat) (ca cb : Nat) (l : List Nat) (hL : l.length ≤ 2000) (w : World) (hu : ByAt D l w) (hv : ByAt E l w) :
    Calls Tryz.prog 31 #[.slice (some ⟨D, 0, none⟩) l.length ca, .slice (some ⟨E, 0, none⟩) l.length cb] w (Gives (.bool true) w) := by
  obtain ⟨n, hn⟩ : ∃ n, l.length = n := ⟨_, rfl⟩
  have HN := Lib.hid hn
  have d1 : ((n : Int) != (n : Int)) = false := by simp
  have HU := Lib.hid hu; have HV := Lib.hid hv
  rw [hn] at hL ⊢
  clear hu hv hn
  go_enter Tryz.func31, Tryz.ntmps31
  go_wp2_with fail
  go_loopw [13] (fun i wr => ∃ j : Nat, j ≤ n ∧ i = .int .i64 (j : Int) ∧ Hid (Below w.heap.size w wr)) (fun i _ => n - (intOf i).toNat)
  case atStart => exact ⟨0, Nat.zero_le _, rfl, Lib.hid (Below.refl _ _)⟩
  case round =>
    obtain ⟨j, hj, rfl, HW⟩ := hrel
    by_cases hlt : j < n
    · have hjL : j < l.length := by rw [HN.out]; exact hlt
      obtain ⟨p0, _⟩ := (HU.out.below HW.out).cell hjL
      obtain ⟨q0, _⟩ := (HV.out.below HW.out).cell hjL
      obtain ⟨y, hy⟩ : ∃ y, l.getD j 0 = y := ⟨_, rfl⟩
      rw [hy] at p0 q0
      have i0 : 0 ≤ (j : Int) := by omega
      have i1 : (j : Int) < (n : Int) := by omega
      clear hjL hy
      go_wp2_with fail
      go_region
      go_wp2_with fail
      refine ⟨⟨j + 1, by omega, by go_num, Lib.hid HW.out.drew⟩, by simp [intOf]; omega⟩
    · go_wp2_with fail
      go_ret
      exact ⟨rfl, HW.out⟩
set_option maxRecDepth 100000 in
set_option maxHeartbeats 4000000 in
theorem rcan_out (n g r : Int) (p : Option Addr) (tn tc : Nat) (k : Int) (hk : k < 0 ∨ 10 < k) (w : World) :
    Calls Tryz.prog 32 #[bqV 1 n g r (.slice p tn tc), .int .i64 k] w (Gives (.bool false) w) := by
  have HA := Lib.hid fun X => ball_arg 1 n g (-1) p tn tc k hk X
  have hb1 : Below w.heap.size w (w.alloc (.cells (bqA 1 n g (-1) (.slice p tn tc)) 33)) := bel1 w _
  have ha1 : BqAt w.heap.size 1 n g (-1) (.slice p tn tc) (w.alloc (.cells (bqA 1 n g (-1) (.slice p tn tc)) 33)) := heap_new _ _
  have HB1 := Lib.hid hb1; have HA1 := Lib.hid ha1
  clear hb1 ha1 hk
  go_enter Tryz.func32, Tryz.ntmps32
  go_upto_region 2 with fail
  change Code.wp _ _ _ _ (w.alloc (.cells (bqA 1 n g (-1) (.slice p tn tc)) 33))
  obtain ⟨y, hy⟩ : ∃ y, w.alloc (.cells (bqA 1 n g (-1) (.slice p tn tc)) 33) = y := ⟨_, rfl⟩
  obtain ⟨D, hD⟩ : ∃ D, w.heap.size = D := ⟨_, rfl⟩
  rw [hy] at HB1 HA1 ⊢
  have hd := HA1.out
  rw [hD] at hd ⊢
  obtain ⟨d0, d1, d2, d3, d4⟩ := hd.all
  clear hy hD hd
  go_wp2_with fail
  refine (HA.out _).mono ?_
  rintro e w2 ⟨rfl, hb⟩
  have HB2 := Lib.hid ((HB1.out.trans (hb.mono HB1.out.size)).alloc (HB1.out.trans (hb.mono HB1.out.size)).size (.cells (bqA 1 n g (-1) (.slice p tn tc)) 33))
  clear hb d0 d1 d2 d3 d4
  go_wp2_with fail
  go_ret
  exact ⟨rfl, HB2.out⟩
set_option maxRecDepth 100000 in
set_option maxHeartbeats 8000000 in
theorem rcan {A B n g : Nat} {R : Runs} {s : ASt} {u : Option Addr} {w : World} (hp : DP A B n g R s u w) (tc : Nat) (r : Int) (k : Nat) (hk : k ≤ 10) :
    Calls Tryz.prog 32 #[bqV 1 (n : Int) (g : Int) r (.slice u (tkT R g).length tc), .int .i64 (k : Int)] w (Gives (.bool (canB n g k R)) w) := by
  have HC := Lib.hid (can_cases hp.bv hp.bu k hk)
  have hz := hp.bu.sz hp.bv.2.1
  have HR := Lib.hid fun X (hX : Below w.heap.size w X) => hp.rn.below hX
  have HTI := Lib.hid hp.bu.ti
  obtain ⟨m, hm⟩ : ∃ m, (tkT R g).length = m := ⟨_, rfl⟩
  have HM := Lib.hid hm
  have HZ := Lib.hid hz
  have HK := Lib.hid hk
  rw [hm]
  have hb1 : Below w.heap.size w (w.alloc (.cells (bqA 1 (n : Int) (g : Int) (-1) (.slice u m tc)) 33)) := bel1 w _
  have ha1 : BqAt w.heap.size 1 (n : Int) (g : Int) (-1) (.slice u m tc) (w.alloc (.cells (bqA 1 (n : Int) (g : Int) (-1) (.slice u m tc)) 33)) := heap_new _ _
  have HB1 := Lib.hid hb1; have HA1 := Lib.hid ha1
  clear hb1 ha1 hk hz hm hp
  go_enter Tryz.func32, Tryz.ntmps32
  go_upto_region 2 with fail
  change Code.wp _ _ _ _ (w.alloc (.cells (bqA 1 (n : Int) (g : Int) (-1) (.slice u m tc)) 33))
  obtain ⟨y, hy⟩ : ∃ y, w.alloc (.cells (bqA 1 (n : Int) (g : Int) (-1) (.slice u m tc)) 33) = y := ⟨_, rfl⟩
  obtain ⟨D, hD⟩ : ∃ D, w.heap.size = D := ⟨_, rfl⟩
  rw [hy] at HB1 HA1 ⊢
  have hd := HA1.out
  rw [hD] at hd ⊢
  obtain ⟨d0, d1, d2, d3, d4⟩ := hd.all
  clear hy hD hd
  rcases HC.out with ⟨hc, g1, x, l, R1, hs, hg1⟩ | ⟨hc, hl, hq⟩
  · have HCB := Lib.hid hc
    have HAL := Lib.hid fun X (hX : RnAt X u (tkT R g)) => ball_ok 1 (-1) (by omega) n g (by have := HZ.out; omega) (by have := HZ.out; omega) u tc R HTI.out k HK.out X hX g1 x l (-1) R1 hs (by have := HZ.out; omega)
    rw [HM.out] at HAL
    clear hc hs hg1
    go_wp2_with fail
    refine (HAL.out _ (HR.out _ HB1.out)).mono ?_
    rintro e w2 ⟨u2, cap2, rfl, _, hb⟩
    have HB2 := Lib.hid ((HB1.out.trans (hb.mono HB1.out.size)).alloc (HB1.out.trans (hb.mono HB1.out.size)).size (.cells (bqA 1 (n : Int) (g1 : Int) (-1) (.slice u2 (outL (tkT R g) x k).length cap2)) 33))
    clear hb d0 d1 d2 d3 d4
    go_wp2_with fail
    go_ret
    exact ⟨by rw [HCB.out]; rfl, HB2.out⟩
  · have HCB := Lib.hid hc
    have HAL := Lib.hid fun X (hX : RnAt X u (tkT R g)) => ball_no 1 (-1) (by omega) n g (by have := HZ.out; omega) (by have := HZ.out; omega) u tc R HTI.out k HK.out X hX (-1) 4 hl hq (by decide)
    rw [HM.out] at HAL
    clear hc hl hq
    go_wp2_with fail
    refine (HAL.out _ (HR.out _ HB1.out)).mono ?_
    rintro e w2 ⟨rfl, hb⟩
    have HB2 := Lib.hid ((HB1.out.trans (hb.mono HB1.out.size)).alloc (HB1.out.trans (hb.mono HB1.out.size)).size (.cells (bqA 1 (n : Int) (g : Int) (-1) (.slice u m tc)) 33))
    clear hb d0 d1 d2 d3 d4
    go_wp2_with fail
    go_ret
    exact ⟨by rw [HCB.out]; rfl, HB2.out⟩
end Go.Proofs.YtfemgekhpcgliaaGreat.Bt
/- census: the statements' example. (Written by gen_cno.py.) -/
namespace Go.Proofs.YtfemgekhpcgliaaGreat.Bt
open Go Go.RowKit Go.Shelf
set_option linter.unusedVariables false
set_option linter.unusedSimpArgs false
theorem ex9_one {A B : Nat} {s : ASt} {w w' : World} {e : Ending} (hr : refB s = false) (h : AllocPost B A 8 0 0 (fun _ => Option.none) s w e w') :
    ∃ R' s', e = .returned (.tuple #[.int .i64 4096, .int .i64 0]) ∧ BV B A 8 s' w' ∧ Bud 9 1 1 R' 1 s' ∧ Went A w w' ∧ R' 0 = some (0, true) := by
  have u : upN 0 (2 ^ 0) = 0 := by decide
  rcases h with ⟨g1, x, l, R1, s0, ⟨p1, p2, p3, p4, p5, p6⟩, rfl, R', s', h1, h2, h3, h4, h5, h6, h7⟩ | ⟨_, _, ⟨q1, _⟩ | ⟨_, q2, _⟩⟩
  · rcases p6 with ⟨rfl, rfl, rfl⟩ | ⟨c1, c2, c3, c4, rfl⟩
    · cases p2
    · rw [u] at c2
      simp at c2
      subst c2
      have a := p4.al _ _ _ p2
      have hl := pow2_pos l
      have hx : x = 0 := by omega
      subst hx
      exact ⟨R', s', rfl, h1, h2, h3, (h4 0 0).2 (.inl ⟨rfl, rfl⟩)⟩
  · rw [u] at q1; omega
  · rw [hr] at q2; cases q2
theorem ex9_run {R : Runs} (hT : Til 1 R 1) (h : R 0 = some (0, true)) : runL R 1 = [(0, 0, true)] := by
  have h1 := runL_step hT.toTile h
  exact h1
theorem ex9_st {R : Runs} (hT : Til 1 R 1) (h : R 0 = some (0, true)) : stT R 1 8 (runL R 1).length = [1, 3, 0, 0, 0, 0, 0, 0, 0] := by
  rw [show stT R 1 8 (runL R 1).length = stA R 1 8 from rfl, stA_is, ex9_run hT h]; rfl
theorem ex9_can3 {R : Runs} (hT : Til 1 R 1) (h : R 0 = some (0, true)) : canB 8 1 3 R = false := by
  unfold canB fitB; rw [ex9_run hT h]; decide
theorem ex9_can2 {R : Runs} (hT : Til 1 R 1) (h : R 0 = some (0, true)) : canB 8 1 2 R = true := by
  unfold canB fitB; rw [ex9_run hT h]; decide
set_option maxHeartbeats 8000000 in
set_option maxRecDepth 100000 in
theorem awake9 (w : World) : Calls Tryz.prog 22 #[] w (Gives (.bool true) w) := by
  have L1 : Hid (lenN 9 = 9) := Lib.hid (by decide)
  go_enter Tryz.func22, Tryz.ntmps22
  go_wp2_with fail
  refine (on_new 9 _).mono ?_
  rintro e w1 ⟨A, rfl, hA, hx, hb, hm⟩
  rw [L1.out] at hx
  have HX1 := Lib.hid hx
  have HB1 := Lib.hid hb
  have HN := Lib.hid (bnewP hx (by show 9 ≤ 80; omega) ⟨rfl, rfl⟩)
  clear hx hb hm hA
  go_wp2_with fail
  refine HN.out.mono ?_
  rintro e w2 (⟨q, _⟩ | ⟨_, q, _⟩ | ⟨n, B, hn, _, hr, rfl, hbv, hg, hBw⟩)
  · exact absurd q (by decide)
  · exact absurd q (by decide)
  have hn8 : n = 8 := by have : (newS 9).L = 9 := rfl; omega
  subst hn8
  have HV2 := Lib.hid hbv
  have HB2 := Lib.hid (HB1.out.went hg)
  have hbu : Bud 9 0 0 (fun _ => Option.none) 0 (bS0 (newS 9) 8) := Bud.start 8 (by omega) (by omega) _ _
  have hrf : (bS0 (newS 9) 8).rf = false := rfl
  have HA1 := Lib.hid (balloc_any hbv hbu 0 (by omega))
  have HRF := Lib.hid hrf
  clear hbv hg hBw hn hr hbu hrf HN
  go_wp2_with fail
  refine HA1.out.mono ?_
  intro e w3 hap
  obtain ⟨R1, s1, rfl, hbv, hbu, hg, h0⟩ := ex9_one (refB_of HRF.out) hap
  have HV3 := Lib.hid hbv
  have HB3 := Lib.hid (HB2.out.went hg)
  have HST := Lib.hid fun X (hX : BV B A 8 s1 X) => cstates hX hbu
  have HC3 : Hid (∀ X, BV B A 8 s1 X → Calls Tryz.prog 26 #[bdyP B, .int .i64 3] X (Gives (.bool false) X)) := Lib.hid fun X hX => ex9_can3 hbu.ti h0 ▸ ccan hX hbu 3 (by omega)
  have HC2 : Hid (∀ X, BV B A 8 s1 X → Calls Tryz.prog 26 #[bdyP B, .int .i64 2] X (Gives (.bool true) X)) := Lib.hid fun X hX => ex9_can2 hbu.ti h0 ▸ ccan hX hbu 2 (by omega)
  have HEX := Lib.hid (ex9_st hbu.ti h0)
  clear hap hbv hbu hg h0 HA1
  go_wp2_with fail
  refine (awA8 _).mono ?_
  rintro e w4 ⟨rfl, hb⟩
  have HV4 := Lib.hid (HV3.out.below hb)
  have HB4 := Lib.hid (HB3.out.below HV3.out.1 hb)
  clear hb
  go_wp2_with fail
  refine (HST.out _ HV4.out).mono ?_
  rintro e w5 ⟨D, rfl, hd, hD, hb⟩
  have HV5 := Lib.hid (HV4.out.below hb)
  have HB5 := Lib.hid (HB4.out.below HV4.out.1 hb)
  rw [HEX.out] at hd
  have HD := Lib.hid hd
  clear hb hd hD HST
  go_wp2_with fail
  refine (bequal_any D _ _ _ [1, 3, 0, 0, 0, 0, 0, 0, 0] (by decide) _ (HD.out.below (bel1 _ _)) (heap_new _ _)).mono ?_
  rintro e w6 ⟨rfl, hb⟩
  have hb2 := (bel1 w5 _).trans (hb.mono (bel1 w5 _).size)
  have HV6 := Lib.hid (HV5.out.below hb2)
  have HB6 := Lib.hid (HB5.out.below HV5.out.1 hb2)
  clear hb hb2
  go_wp2_with fail
  refine (HC3.out _ HV6.out).mono ?_
  rintro e w7 ⟨rfl, hb⟩
  have HV7 := Lib.hid (HV6.out.below hb)
  have HB7 := Lib.hid (HB6.out.below HV6.out.1 hb)
  clear hb
  go_wp2_with fail
  refine (HC2.out _ HV7.out).mono ?_
  rintro e w8 ⟨rfl, hb⟩
  have HB8 := Lib.hid (HB7.out.below HV7.out.1 hb)
  clear hb
  go_wp2_with fail
  go_ret
  exact ⟨rfl, HB8.out.bel⟩
end Go.Proofs.YtfemgekhpcgliaaGreat.Bt
/- CensusCounts. (Written by gen_cnp.py.) -/
namespace Go.Proofs.YtfemgekhpcgliaaGreat.Bt
open Go Go.RowKit Go.Shelf
set_option linter.unusedVariables false
set_option linter.unusedSimpArgs false
/-- a buddy behind play -/
structure PW (A B n : Nat) (s : ASt) (w0 x : World) : Prop where
  bv : BV B A n s x
  bs : Base A w0 x
theorem PW.below {A B n : Nat} {s : ASt} {w0 x z : World} (h : PW A B n s w0 x) (hb : Below x.heap.size x z) : PW A B n s w0 z := ⟨h.bv.below hb, h.bs.below h.bv.1 hb⟩
def smC (R : Runs) (g n : Nat) : Nat → Nat
  | 0 => 0
  | j + 1 => smC R g n j + cntL (stA R g n) (j : Int)
theorem smC_le (R : Runs) (g n : Nat) : ∀ j, smC R g n j ≤ j * (n + 1)
  | 0 => by simp [smC]
  | j + 1 => by
    have h1 := smC_le R g n j
    have h2 := cntL_le (stA R g n) (j : Int)
    rw [stA_len] at h2
    unfold smC
    rw [Nat.succ_mul]
    omega
theorem four_get {j : Nat} (h : j < 4) : ([0, 1, 2, 3] : List Nat).getD j 0 = j := by
  have : j = 0 ∨ j = 1 ∨ j = 2 ∨ j = 3 := by omega
  rcases this with rfl | rfl | rfl | rfl <;> rfl
set_option maxHeartbeats 16000000 in
set_option maxRecDepth 100000 in
theorem counts9 (cap : Int) (p0 : Option Addr) (c0 : Nat) (acts : List Act8) (hlen : acts.length ≤ 9223372036854775807) (w : World) (h : Acts8At w p0 acts) :
    Calls Tryz.prog 6 #[.int .i64 cap, .slice p0 acts.length c0] w fun e w' => e = .returned (.bool true) ∧ Below w.heap.size w w' := by
  have HACT := Lib.hid h
  clear h
  go_enter Tryz.func6, Tryz.ntmps6
  go_wp2_with fail
  refine (awake9 _).mono ?_
  rintro e w0 ⟨rfl, hb⟩
  have HB0 := Lib.hid hb
  have HAC0 := Lib.hid (HACT.out.below hb)
  clear hb
  by_cases h60 : (60 : Int) < (acts.length : Int)
  · go_wp2_with fail
    go_ret
    exact ⟨rfl, HB0.out⟩
  have HPL := Lib.hid (play9 cap p0 c0 acts (by omega) _ HAC0.out)
  go_wp2_with fail
  refine HPL.out.mono ?_
  rintro e w1 (⟨rfl, hb⟩ | ⟨n, A, B, g, R, s, u, tc, rfl, hdp, hbs⟩)
  · have hb2 := HB0.out.trans (hb.mono HB0.out.size)
    have HB2 := Lib.hid (hb2.alloc hb2.size (.cells (bqA 0 0 0 0 (.slice none 0 0)) 33))
    clear hb hb2 HPL
    go_wp2_with fail
    go_ret
    exact ⟨rfl, HB2.out⟩
  obtain ⟨m, hm⟩ : ∃ m, (tkT R g).length = m := ⟨_, rfl⟩
  rw [hm]
  have hz := hdp.bu.sz hdp.bv.2.1
  have hgG := hdp.bu.gG
  have hti := hdp.bu.ti
  have HPE1 : Hid (PW A B n s w (w1.alloc (.cells (bqA 1 (n : Int) (g : Int) (rfI s) (.slice u m tc)) 33))) := Lib.hid (PW.below ⟨hdp.bv, hbs.rebase HB0.out⟩ (bel1 w1 _))
  have HZ := Lib.hid (And.intro hz.2.1 hz.2.2.1)
  have HCN : ∀ v : Nat, Hid (v ≤ 255 → ∀ X, BV B A n s X → Calls Tryz.prog 25 #[bdyP B, .int .u8 (v : Int)] X (Gives (.int .i64 (cntL (stA R g n) (v : Int) : Int)) X)) := fun v => Lib.hid fun hv X hX => ccount hX hdp.bu (v : Int) ⟨by omega, by omega⟩
  have HC4 : Hid (∀ X, BV B A n s X → Calls Tryz.prog 25 #[bdyP B, .int .u8 4] X (Gives (.int .i64 0) X)) := Lib.hid fun X hX => by
    have := ccount hX hdp.bu 4 ⟨by omega, by omega⟩
    rw [show cntL (stT R g n (runL R g).length) 4 = 0 from cntA_no hti hz.2.2.1] at this
    exact this
  have HC0 : Hid (∀ X, BV B A n s X → Calls Tryz.prog 25 #[bdyP B, .int .u8 0] X (Gives (.int .i64 ((n - g : Nat) : Int)) X)) := Lib.hid fun X hX => by
    have := ccount hX hdp.bu 0 ⟨by omega, by omega⟩
    rw [show cntL (stT R g n (runL R g).length) 0 = n - g from cntA_gone hti hz.2.2.1] at this
    exact this
  have HST := Lib.hid fun X (hX : BV B A n s X) => cstates hX hdp.bu
  have HHA := Lib.hid fun X (hX : On A s X) i (hi : i ≤ n) => (has_up8 hdp.bu hi) ▸ ahas8 hX (i : Int)
  have HCO := Lib.hid fun X (hX : BV B A n s X) => bcommitted hX hdp.bu
  have hLn := hdp.bv.2.1
  have HCP : Hid (∀ X, BV B A n s X → Calls Tryz.prog 35 #[.pointer (some ⟨A, 0, none⟩)] X fun e w' => e = .returned (.int .i64 ((n : Int) + 1)) ∧ X = w') := Lib.hid fun X hX => by
    have e : ((n : Int) + 1) = ((s.L : Nat) : Int) := by rw [hLn]; push_cast; rfl
    rw [e]; exact on_cap8 hX.1
  have H4 : Hid (smC R g n 4 = n + 1) := Lib.hid (by have := cntA_four hti hz.2.2.1; simp only [smC]; push_cast; omega)
  have HSM : Hid (∀ j, j ≤ 4 → smC R g n j ≤ 400) := Lib.hid fun j hj => by have := smC_le R g n j; have h2 : j * (n + 1) ≤ 4 * 81 := Nat.mul_le_mul hj (by omega); omega
  have HNO : Hid (∀ p, p ≤ n → ((stA R g n).getD p 0 = 0 ↔ g < p)) := Lib.hid fun p hp => stA_nought hti hz.2.2.1 hp
  have HSB : Hid (IntKind.i64.wrap ((n : Int) + 1 - ((n - g : Nat) : Int)) = 1 + (g : Int)) := Lib.hid (by rw [IntKind.wrap_i64]; omega)
  clear hdp hbs hm hz hgG hti hLn HPL HAC0 HACT
  go_upto_region 6 with fail
  change Code.wp _ _ _ _ (w1.alloc (.cells (bqA 1 (n : Int) (g : Int) (rfI s) (.slice u m tc)) 33))
  obtain ⟨w2, hw2⟩ : ∃ y, w1.alloc (.cells (bqA 1 (n : Int) (g : Int) (rfI s) (.slice u m tc)) 33) = y := ⟨_, rfl⟩
  rw [hw2] at HPE1 ⊢
  clear hw2
  go_upto_region 10 with fail
  have hb4 := bel1 w2 (.cells (rowU [0, 1, 2, 3]) 5)
  have hby : ByAt w2.heap.size [0, 1, 2, 3] (w2.alloc (.cells (rowU [0, 1, 2, 3]) 5)) := heap_new _ _
  have HPE2 : Hid (PW A B n s w (w2.alloc (.cells (rowU [0, 1, 2, 3]) 5)) ∧ ByAt w2.heap.size [0, 1, 2, 3] (w2.alloc (.cells (rowU [0, 1, 2, 3]) 5))) := Lib.hid ⟨HPE1.out.below hb4, hby⟩
  change Code.wp _ _ _ _ (w2.alloc (.cells (rowU [0, 1, 2, 3]) 5))
  obtain ⟨w3, hw3⟩ : ∃ y, w2.alloc (.cells (rowU [0, 1, 2, 3]) 5) = y := ⟨_, rfl⟩
  obtain ⟨E, hE⟩ : ∃ E, w2.heap.size = E := ⟨_, rfl⟩
  rw [hw3, hE] at HPE2
  rw [hw3, hE]
  clear hw3 hE hb4 hby HPE1
  go_wp2_with fail
  go_loopw [8, 29] (fun s8 s29 wr => ∃ j : Nat, j ≤ 4 ∧ s8 = .int .i64 (smC R g n j : Int) ∧ s29 = .int .i64 (j : Int) ∧ Hid (PW A B n s w wr ∧ ByAt E [0, 1, 2, 3] wr)) (fun _ s29 _ => 4 - (intOf s29).toNat)
  case atStart => exact ⟨0, Nat.zero_le _, rfl, rfl, HPE2⟩
  case round =>
    clear HPE2
    obtain ⟨j, hj, rfl, rfl, HR⟩ := hrel
    by_cases hj4 : j < 4
    · have hj4' : (j : Int) < 4 := by omega
      obtain ⟨c0, _⟩ := HR.out.2.cell (show j < [0, 1, 2, 3].length from hj4)
      rw [four_get hj4] at c0
      have HCJ := Lib.hid ((HCN j).out (by omega))
      have HS1 : Hid (smC R g n (j + 1) = smC R g n j + cntL (stA R g n) (j : Int)) := Lib.hid rfl
      have h400 := HSM.out (j + 1) (by omega)
      rw [HS1.out] at h400
      obtain ⟨a, ha⟩ : ∃ a, smC R g n j = a := ⟨_, rfl⟩
      obtain ⟨b, hb⟩ : ∃ b, cntL (stA R g n) (j : Int) = b := ⟨_, rfl⟩
      rw [ha, hb] at HS1 h400
      rw [hb] at HCJ
      rw [ha]
      have hw8 : IntKind.i64.wrap ((a : Int) + (b : Int)) = ((a + b : Nat) : Int) := by rw [IntKind.wrap_i64]; omega
      have HJ := Lib.hid hj4
      clear ha hb h400 hj hj4
      go_wp2_with fail
      refine (HCJ.out _ HR.out.1.bv).mono ?_
      rintro e w5 ⟨rfl, hb⟩
      have HR2 := Lib.hid (And.intro (HR.out.1.below hb) (HR.out.2.below hb))
      clear hb HR HCJ c0
      go_wp2_with fail
      go_roundw
      case rel => exact ⟨j + 1, by have := HJ.out; omega, by first | (rw [HS1.out]; done) | (rw [HS1.out]; push_cast; rfl), by go_num, HR2⟩
      case measure => have := HJ.out; simp [intOf]; omega
    · obtain rfl : j = 4 := by omega
      rw [H4.out]
      clear hj hj4
      go_wp2_with fail
      refine (HST.out _ HR.out.1.bv).mono ?_
      rintro e w5 ⟨D, rfl, hd, hD, hb⟩
      have HR2 : Hid (PW A B n s w w5 ∧ ByAt D (stA R g n) w5) := Lib.hid ⟨HR.out.1.below hb, hd⟩
      clear hd hD hb HR
      go_wp2_with fail
      go_loopw [42] (fun s42 wr => ∃ j : Nat, j ≤ n + 1 ∧ s42 = .int .i64 (j : Int) ∧ Hid (PW A B n s w wr ∧ ByAt D (stA R g n) wr)) (fun s42 _ => n + 1 - (intOf s42).toNat)
      case atStart => exact ⟨0, Nat.zero_le _, rfl, HR2⟩
      case round =>
        clear HR2
        obtain ⟨j, hj, rfl, HR⟩ := hrel
        by_cases hjn : j < n + 1
        · have hjn2 : (j : Int) < (n : Int) + 1 := by omega
          obtain ⟨c0, _⟩ := HR.out.2.cell (show j < (stA R g n).length by rw [stA_len]; exact hjn)
          have hno := HNO.out j (by omega)
          obtain ⟨x, hx⟩ : ∃ x, (stA R g n).getD j 0 = x := ⟨_, rfl⟩
          rw [hx] at c0 hno
          have HCH := Lib.hid (HHA.out _ HR.out.1.bv.1 j (by omega))
          obtain ⟨b0, _⟩ := HR.out.1.bv.all
          have HJ := Lib.hid hjn
          by_cases hjg : j ≤ g
          · have hd : decide (j ≤ g) = true := decide_eq_true hjg
            rw [hd] at HCH
            have hx0 : ¬ ((x : Int) = 0) := by omega
            clear hno hx hj hjn hjg hd
            go_wp2_with fail
            refine HCH.out.mono ?_
            rintro e w6 ⟨rfl, hb⟩
            have HR2 := Lib.hid (And.intro (HR.out.1.below hb) (HR.out.2.below hb))
            clear hb HR HCH c0 b0
            have hjn := HJ.out
            have hzz := HZ.out
            go_wp2_with fail
            go_roundw
            case rel => exact ⟨j + 1, by omega, by go_num, HR2⟩
            case measure => simp [intOf]; omega
          · have hd : decide (j ≤ g) = false := decide_eq_false hjg
            rw [hd] at HCH
            obtain rfl : x = 0 := by omega
            clear hno hx hj hjn hjg hd
            go_wp2_with fail
            refine HCH.out.mono ?_
            rintro e w6 ⟨rfl, hb⟩
            have HR2 := Lib.hid (And.intro (HR.out.1.below hb) (HR.out.2.below hb))
            clear hb HR HCH c0 b0
            have hjn := HJ.out
            have hzz := HZ.out
            go_wp2_with fail
            go_roundw
            case rel => exact ⟨j + 1, by omega, by go_num, HR2⟩
            case measure => simp [intOf]; omega
        · have HPE := Lib.hid HR.out.1
          have hjn3 : ¬ ((j : Int) < (n : Int) + 1) := by omega
          clear HR hj hjn
          go_upto_region 20 with fail
          refine wp_region_held_drew (S := fun X : World => X.cell? ⟨B, 0, none⟩ = some (.pointer (some ⟨A, 0, none⟩)) ∧ X.cell? ⟨B, 1, none⟩ = some (.pointer (some ⟨A, 0, none⟩))) (by kernel_rfl) ⟨(HPE.out.below (Below.refl wr.heap.size wr).drew).bv.all.1, (HPE.out.below (Below.refl wr.heap.size wr).drew).bv.all.2.1⟩ (fun hHeld => ?_)
          have HPEd := Lib.hid (HPE.out.below (Below.refl wr.heap.size wr).drew)
          clear HPE
          generalize wr.drew = x0 at *
          refine wpAnyH_take (i := 0) (v := (.int .i64 ((n : Int) + 1))) rfl (by kernel_rfl) (by kernel_rfl) (by kernel_rfl) (fun _ _ _ h => h) (Or.inl ⟨by rfl, fun X hS => ?_⟩) hHeld ?_
          · obtain ⟨b0, b1⟩ := hS
            go_simp
          try simp only [Act.put, List.getElem_toArray, List.getElem_cons_zero, List.getElem_cons_succ, List.setIfInBounds_toArray, List.set_cons_zero, List.set_cons_succ]
          refine wpAnyH_take (i := 1) (v := (bdyP B)) rfl (by kernel_rfl) (by kernel_rfl) (by kernel_rfl) (fun _ _ _ h => h) (Or.inl ⟨by rfl, fun X hS => ?_⟩) hHeld ?_
          · obtain ⟨b0, b1⟩ := hS
            go_simp
          try simp only [Act.put, List.getElem_toArray, List.getElem_cons_zero, List.getElem_cons_succ, List.setIfInBounds_toArray, List.set_cons_zero, List.set_cons_succ]
          refine wpAnyH_take (i := 2) (v := (bdyP B)) rfl (by kernel_rfl) (by kernel_rfl) (by kernel_rfl) (fun _ _ _ h => h) (Or.inl ⟨by rfl, fun X hS => ?_⟩) hHeld ?_
          · obtain ⟨b0, b1⟩ := hS
            go_simp
          try simp only [Act.put, List.getElem_toArray, List.getElem_cons_zero, List.getElem_cons_succ, List.setIfInBounds_toArray, List.set_cons_zero, List.set_cons_succ]
          refine wpAnyH_take (i := 3) (v := (.pointer (some ⟨B, 0, none⟩))) rfl (by kernel_rfl) (by kernel_rfl) (by kernel_rfl) (fun _ _ _ h => h) (Or.inl ⟨by rfl, fun X hS => ?_⟩) hHeld ?_
          · obtain ⟨b0, b1⟩ := hS
            go_simp
          try simp only [Act.put, List.getElem_toArray, List.getElem_cons_zero, List.getElem_cons_succ, List.setIfInBounds_toArray, List.set_cons_zero, List.set_cons_succ]
          refine wpAnyH_take (i := 4) (v := (.pointer (some ⟨A, 0, none⟩))) rfl (by kernel_rfl) (by kernel_rfl) (by kernel_rfl) (fun _ _ _ h => h) (Or.inl ⟨by rfl, fun X hS => ?_⟩) hHeld ?_
          · obtain ⟨b0, b1⟩ := hS
            go_simp
          try simp only [Act.put, List.getElem_toArray, List.getElem_cons_zero, List.getElem_cons_succ, List.setIfInBounds_toArray, List.set_cons_zero, List.set_cons_succ]
          refine wpAnyH_ready (rs := [5]) (by kernel_rfl) (by simp) (AllReadyH.cons rfl (fun K1 hK1 => ?_) AllReadyH.nil)
          go_simp
          have HH := Lib.hid hHeld
          clear hHeld
          refine (HCP.out _ HPEd.out.bv).mono ?_
          rintro e x1 ⟨rfl, rfl⟩
          have hrb := And.intro HPEd.out.bv.all.1 HPEd.out.bv.all.2.1
          clear HH
          refine hK1.out _ _ hrb (fun hHeld => ?_)
          clear hK1
          try simp only [Act.put, List.getElem_toArray, List.getElem_cons_zero, List.getElem_cons_succ, List.setIfInBounds_toArray, List.set_cons_zero, List.set_cons_succ]
          refine wpAnyH_take (i := 6) (v := (.bool true)) rfl (by kernel_rfl) (by kernel_rfl) (by kernel_rfl) (fun _ _ _ h => h) (Or.inl ⟨by rfl, fun X hS => ?_⟩) hHeld ?_
          · obtain ⟨b0, b1⟩ := hS
            go_simp
          try simp only [Act.put, List.getElem_toArray, List.getElem_cons_zero, List.getElem_cons_succ, List.setIfInBounds_toArray, List.set_cons_zero, List.set_cons_succ]
          refine wpAnyH_take (i := 7) (v := (.bool true)) rfl (by kernel_rfl) (by kernel_rfl) (by kernel_rfl) (fun _ _ _ h => h) (Or.inl ⟨by rfl, fun X hS => ?_⟩) hHeld ?_
          · obtain ⟨b0, b1⟩ := hS
            go_simp
          try simp only [Act.put, List.getElem_toArray, List.getElem_cons_zero, List.getElem_cons_succ, List.setIfInBounds_toArray, List.set_cons_zero, List.set_cons_succ]
          refine wpAnyH_take (i := 8) (v := (bdyP B)) rfl (by kernel_rfl) (by kernel_rfl) (by kernel_rfl) (fun _ _ _ h => h) (Or.inl ⟨by rfl, fun X hS => ?_⟩) hHeld ?_
          · obtain ⟨b0, b1⟩ := hS
            go_simp
          try simp only [Act.put, List.getElem_toArray, List.getElem_cons_zero, List.getElem_cons_succ, List.setIfInBounds_toArray, List.set_cons_zero, List.set_cons_succ]
          refine wpAnyH_ready (rs := [9]) (by kernel_rfl) (by simp) (AllReadyH.cons rfl (fun K1 hK1 => ?_) AllReadyH.nil)
          go_simp
          have HH := Lib.hid hHeld
          clear hHeld
          refine (HC4.out _ HPEd.out.bv).mono ?_
          rintro e x2 ⟨rfl, hb⟩
          have HPE2 := Lib.hid (HPEd.out.below hb)
          have hrb := And.intro HPE2.out.bv.all.1 HPE2.out.bv.all.2.1
          clear HH hb HPEd
          refine hK1.out _ _ hrb (fun hHeld => ?_)
          clear hK1
          try simp only [Act.put, List.getElem_toArray, List.getElem_cons_zero, List.getElem_cons_succ, List.setIfInBounds_toArray, List.set_cons_zero, List.set_cons_succ]
          refine wpAnyH_take (i := 10) (v := (.bool true)) rfl (by kernel_rfl) (by kernel_rfl) (by kernel_rfl) (fun _ _ _ h => h) (Or.inl ⟨by rfl, fun X hS => ?_⟩) hHeld ?_
          · obtain ⟨b0, b1⟩ := hS
            go_simp
          try simp only [Act.put, List.getElem_toArray, List.getElem_cons_zero, List.getElem_cons_succ, List.setIfInBounds_toArray, List.set_cons_zero, List.set_cons_succ]
          refine wpAnyH_take (i := 11) (v := (.bool true)) rfl (by kernel_rfl) (by kernel_rfl) (by kernel_rfl) (fun _ _ _ h => h) (Or.inl ⟨by rfl, fun X hS => ?_⟩) hHeld ?_
          · obtain ⟨b0, b1⟩ := hS
            go_simp
          try simp only [Act.put, List.getElem_toArray, List.getElem_cons_zero, List.getElem_cons_succ, List.setIfInBounds_toArray, List.set_cons_zero, List.set_cons_succ]
          refine wpAnyH_take (i := 12) (v := (.bool true)) rfl (by kernel_rfl) (by kernel_rfl) (by kernel_rfl) (fun _ _ _ h => h) (Or.inl ⟨by rfl, fun X hS => ?_⟩) hHeld ?_
          · obtain ⟨b0, b1⟩ := hS
            go_simp
          try simp only [Act.put, List.getElem_toArray, List.getElem_cons_zero, List.getElem_cons_succ, List.setIfInBounds_toArray, List.set_cons_zero, List.set_cons_succ]
          refine wpAnyH_take (i := 13) (v := (bdyP B)) rfl (by kernel_rfl) (by kernel_rfl) (by kernel_rfl) (fun _ _ _ h => h) (Or.inl ⟨by rfl, fun X hS => ?_⟩) hHeld ?_
          · obtain ⟨b0, b1⟩ := hS
            go_simp
          try simp only [Act.put, List.getElem_toArray, List.getElem_cons_zero, List.getElem_cons_succ, List.setIfInBounds_toArray, List.set_cons_zero, List.set_cons_succ]
          refine wpAnyH_take (i := 14) (v := (bdyP B)) rfl (by kernel_rfl) (by kernel_rfl) (by kernel_rfl) (fun _ _ _ h => h) (Or.inl ⟨by rfl, fun X hS => ?_⟩) hHeld ?_
          · obtain ⟨b0, b1⟩ := hS
            go_simp
          try simp only [Act.put, List.getElem_toArray, List.getElem_cons_zero, List.getElem_cons_succ, List.setIfInBounds_toArray, List.set_cons_zero, List.set_cons_succ]
          refine wpAnyH_take (i := 15) (v := (.pointer (some ⟨B, 0, none⟩))) rfl (by kernel_rfl) (by kernel_rfl) (by kernel_rfl) (fun _ _ _ h => h) (Or.inl ⟨by rfl, fun X hS => ?_⟩) hHeld ?_
          · obtain ⟨b0, b1⟩ := hS
            go_simp
          try simp only [Act.put, List.getElem_toArray, List.getElem_cons_zero, List.getElem_cons_succ, List.setIfInBounds_toArray, List.set_cons_zero, List.set_cons_succ]
          refine wpAnyH_take (i := 16) (v := (.pointer (some ⟨A, 0, none⟩))) rfl (by kernel_rfl) (by kernel_rfl) (by kernel_rfl) (fun _ _ _ h => h) (Or.inl ⟨by rfl, fun X hS => ?_⟩) hHeld ?_
          · obtain ⟨b0, b1⟩ := hS
            go_simp
          try simp only [Act.put, List.getElem_toArray, List.getElem_cons_zero, List.getElem_cons_succ, List.setIfInBounds_toArray, List.set_cons_zero, List.set_cons_succ]
          refine wpAnyH_take (i := 18) (v := (bdyP B)) rfl (by kernel_rfl) (by kernel_rfl) (by kernel_rfl) (fun _ _ _ h => h) (Or.inl ⟨by rfl, fun X hS => ?_⟩) hHeld ?_
          · obtain ⟨b0, b1⟩ := hS
            go_simp
          try simp only [Act.put, List.getElem_toArray, List.getElem_cons_zero, List.getElem_cons_succ, List.setIfInBounds_toArray, List.set_cons_zero, List.set_cons_succ]
          refine wpAnyH_take (i := 21) (v := (bdyP B)) rfl (by kernel_rfl) (by kernel_rfl) (by kernel_rfl) (fun _ _ _ h => h) (Or.inl ⟨by rfl, fun X hS => ?_⟩) hHeld ?_
          · obtain ⟨b0, b1⟩ := hS
            go_simp
          try simp only [Act.put, List.getElem_toArray, List.getElem_cons_zero, List.getElem_cons_succ, List.setIfInBounds_toArray, List.set_cons_zero, List.set_cons_succ]
          refine wpAnyH_take (i := 22) (v := (bdyP B)) rfl (by kernel_rfl) (by kernel_rfl) (by kernel_rfl) (fun _ _ _ h => h) (Or.inl ⟨by rfl, fun X hS => ?_⟩) hHeld ?_
          · obtain ⟨b0, b1⟩ := hS
            go_simp
          try simp only [Act.put, List.getElem_toArray, List.getElem_cons_zero, List.getElem_cons_succ, List.setIfInBounds_toArray, List.set_cons_zero, List.set_cons_succ]
          refine wpAnyH_take (i := 23) (v := (.pointer (some ⟨B, 0, none⟩))) rfl (by kernel_rfl) (by kernel_rfl) (by kernel_rfl) (fun _ _ _ h => h) (Or.inl ⟨by rfl, fun X hS => ?_⟩) hHeld ?_
          · obtain ⟨b0, b1⟩ := hS
            go_simp
          try simp only [Act.put, List.getElem_toArray, List.getElem_cons_zero, List.getElem_cons_succ, List.setIfInBounds_toArray, List.set_cons_zero, List.set_cons_succ]
          refine wpAnyH_take (i := 24) (v := (.pointer (some ⟨A, 0, none⟩))) rfl (by kernel_rfl) (by kernel_rfl) (by kernel_rfl) (fun _ _ _ h => h) (Or.inl ⟨by rfl, fun X hS => ?_⟩) hHeld ?_
          · obtain ⟨b0, b1⟩ := hS
            go_simp
          try simp only [Act.put, List.getElem_toArray, List.getElem_cons_zero, List.getElem_cons_succ, List.setIfInBounds_toArray, List.set_cons_zero, List.set_cons_succ]
          refine wpAnyH_ready (rs := [17]) (by kernel_rfl) (by simp) (AllReadyH.cons rfl (fun K1 hK1 => ?_) AllReadyH.nil)
          go_simp
          have HH := Lib.hid hHeld
          clear hHeld
          refine (HCP.out _ HPE2.out.bv).mono ?_
          rintro e x3 ⟨rfl, rfl⟩
          have hrb := And.intro HPE2.out.bv.all.1 HPE2.out.bv.all.2.1
          clear HH
          refine hK1.out _ _ hrb (fun hHeld => ?_)
          clear hK1
          try simp only [Act.put, List.getElem_toArray, List.getElem_cons_zero, List.getElem_cons_succ, List.setIfInBounds_toArray, List.set_cons_zero, List.set_cons_succ]
          refine wpAnyH_ready (rs := [19]) (by kernel_rfl) (by simp) (AllReadyH.cons rfl (fun K1 hK1 => ?_) AllReadyH.nil)
          go_simp
          have HH := Lib.hid hHeld
          clear hHeld
          refine (HC0.out _ HPE2.out.bv).mono ?_
          rintro e x4 ⟨rfl, hb⟩
          have HPE3 := Lib.hid (HPE2.out.below hb)
          have hrb := And.intro HPE3.out.bv.all.1 HPE3.out.bv.all.2.1
          clear HH hb HPE2
          refine hK1.out _ _ hrb (fun hHeld => ?_)
          clear hK1
          try simp only [Act.put, List.getElem_toArray, List.getElem_cons_zero, List.getElem_cons_succ, List.setIfInBounds_toArray, List.set_cons_zero, List.set_cons_succ]
          refine wpAnyH_take (i := 20) (v := (.int .i64 (1 + (g : Int)))) rfl (by kernel_rfl) (by kernel_rfl) (by kernel_rfl) (fun _ _ _ h => h) (Or.inl ⟨by rfl, fun X hS => ?_⟩) hHeld ?_
          · obtain ⟨b0, b1⟩ := hS
            have hm := HSB.out
            go_simp
          try simp only [Act.put, List.getElem_toArray, List.getElem_cons_zero, List.getElem_cons_succ, List.setIfInBounds_toArray, List.set_cons_zero, List.set_cons_succ]
          refine wpAnyH_ready (rs := [25]) (by kernel_rfl) (by simp) (AllReadyH.cons rfl (fun K1 hK1 => ?_) AllReadyH.nil)
          go_simp
          have HH := Lib.hid hHeld
          clear hHeld
          refine (HCO.out _ HPE3.out.bv).mono ?_
          rintro e x5 ⟨rfl, hb⟩
          have HPE4 := Lib.hid (HPE3.out.below hb)
          have hrb := And.intro HPE4.out.bv.all.1 HPE4.out.bv.all.2.1
          clear HH hb HPE3
          refine hK1.out _ _ hrb (fun hHeld => ?_)
          clear hK1
          try simp only [Act.put, List.getElem_toArray, List.getElem_cons_zero, List.getElem_cons_succ, List.setIfInBounds_toArray, List.set_cons_zero, List.set_cons_succ]
          refine wpAnyH_take (i := 26) (v := (.bool true)) rfl (by kernel_rfl) (by kernel_rfl) (by kernel_rfl) (fun _ _ _ h => h) (Or.inl ⟨by rfl, fun X hS => ?_⟩) hHeld ?_
          · obtain ⟨b0, b1⟩ := hS
            go_simp
          try simp only [Act.put, List.getElem_toArray, List.getElem_cons_zero, List.getElem_cons_succ, List.setIfInBounds_toArray, List.set_cons_zero, List.set_cons_succ]
          refine wpAnyH_take (i := 27) (v := (.bool true)) rfl (by kernel_rfl) (by kernel_rfl) (by kernel_rfl) (fun _ _ _ h => h) (Or.inl ⟨by rfl, fun X hS => ?_⟩) hHeld ?_
          · obtain ⟨b0, b1⟩ := hS
            go_simp
          try simp only [Act.put, List.getElem_toArray, List.getElem_cons_zero, List.getElem_cons_succ, List.setIfInBounds_toArray, List.set_cons_zero, List.set_cons_succ]
          refine wpAnyH_take (i := 28) (v := (.bool true)) rfl (by kernel_rfl) (by kernel_rfl) (by kernel_rfl) (fun _ _ _ h => h) (Or.inl ⟨by rfl, fun X hS => ?_⟩) hHeld ?_
          · obtain ⟨b0, b1⟩ := hS
            go_simp
          try simp only [Act.put, List.getElem_toArray, List.getElem_cons_zero, List.getElem_cons_succ, List.setIfInBounds_toArray, List.set_cons_zero, List.set_cons_succ]
          refine wpAnyH_done (by kernel_rfl) ?_ _
          clear hHeld

          go_wp2_with fail
          go_ret
          exact ⟨rfl, HPE4.out.bs.bel⟩
end Go.Proofs.YtfemgekhpcgliaaGreat.Bt
