/- Several texts in one: BwM; BwN; BsA; BrH; BsB; BsC; BsD; BsE; BsF. -/
import Derived.Test.YtfemgekhpcgliaaGreatCmD
import Derived.Test.YtfemgekhpcgliaaGreatCmA
import Derived.Deep.DeepCutAuto
/- A buddy's Shrink, walked. -/
namespace Go.Proofs.YtfemgekhpcgliaaGreat.Bt
open Go Go.RowKit Go.Shelf
set_option linter.unusedVariables false
set_option linter.unusedSimpArgs false
def muS : Value → Nat
  | .int _ v => v.toNat
  | _ => 100
section
variable {B A n g : Nat} {R : Runs} {s : ASt} {w : World}
set_option maxRecDepth 100000 in
set_option maxHeartbeats 8000000 in
theorem bshrink_any (h : BV B A n s w) (hB : Bud (n + 1) g g R g s) : Calls Tryz.prog 58 #[bdyP B] w (ShrinkPost B A n g R s w) := by
  have HS : Hid (Shr B A n g R s w g R s w) := Lib.hid ⟨h, hB, Nat.le_refl _, Went.refl _ _, TkSame.refl _, KeepT.refl _ _, rfl, rfl⟩
  have HZ := Lib.hid (hB.sz h.2.1)
  have hgb : g ≤ 80 := by have := hB.sz h.2.1; omega
  clear h hB
  go_enter Tryz.func58, Tryz.ntmps58
  go_wp2_with fail
  refine (bgrown HS.out.bv g (by omega) HS.out.bu.front HS.out.bu.gr).mono ?_
  rintro e w1 ⟨rfl, hb⟩
  have HS1 := Lib.hid (HS.out.below hb)
  clear hb HS
  go_wp2_with fail
  go_loopw [4] (fun s4 wr => ∃ (g1 : Nat) (R1 : Runs) (s1 : ASt), g1 < muS s4 ∧ g1 ≤ 80 ∧ Hid (Shr B A n g R s w g1 R1 s1 wr)) (fun s4 _ => muS s4)
  case atStart => exact ⟨g, R, s, by show g < 100; omega, hgb, HS1⟩
  case round =>
    clear HS1
    obtain ⟨g1, R1, s1, hmu, hg80, HS⟩ := hrel
    have HMU := Lib.hid hmu
    clear hmu
    have HG := Lib.hid (bgrown HS.out.bv g1 hg80 HS.out.bu.front HS.out.bu.gr)
    go_wp2_with fail
    refine HG.out.mono ?_
    rintro e w2 ⟨rfl, hb⟩
    have hs2 := HS.out.below hb
    have HS2 := Lib.hid hs2
    obtain ⟨c0, c1, c2, c3, c4, c5, c6, c7, c8, c9, _⟩ := hs2.bv.all
    have hsub : IntKind.i64.wrap ((g : Int) - (g1 : Int)) = (g : Int) - (g1 : Int) := by rw [IntKind.wrap_i64]; omega
    have HSUB := Lib.hid hsub
    clear hb HS HG hs2 hsub
    by_cases hg0 : g1 = 0
    · subst hg0
      have HR := Lib.hid (brun_no HS2.out.bv HS2.out.bu)
      have HE : Hid (EndT R 0) := Lib.hid (EndT.same ⟨fun i k q => by have := (HS2.out.bu.ti.al _ _ _ q).2.2; omega, .inl rfl⟩ HS2.out.tk)
      go_wp2_with fail
      refine HR.out.mono ?_
      rintro e w3 ⟨er, her, rfl, hb⟩
      have HS3 := Lib.hid ((HS2.out.below hb).below (bel1 w3 (.cells #[.int .u8 0, .int .u8 0] 118)))
      have heb : (er != 0) = true := by simpa using her
      have hsub := HSUB.out
      clear hb her c0 c1 c2 c3 c4 c5 c6 c7 c8 c9 HR
      go_wp2_with fail
      go_ret
      exact ⟨0, R1, s1, HE.out, by simp, HS3.out⟩
    · obtain ⟨x, k, t, hx, hxg, hxl⟩ := HS2.out.bu.ti.toTile.last (by omega)
      obtain ⟨p1, hp1⟩ : ∃ p1, g1 = p1 + 1 := ⟨g1 - 1, by omega⟩
      have HR := Lib.hid (brun_at HS2.out.bv HS2.out.bu hx p1 (by omega) (by omega))
      have hp : IntKind.i64.wrap ((g1 : Int) - 1) = (p1 : Int) := by rw [IntKind.wrap_i64]; omega
      have HX := Lib.hid (And.intro hx (And.intro hxg hxl))
      have hp2 : (g1 : Int) - 1 = (p1 : Int) := by omega
      clear hx hxg hg0 hp1
      cases t with
      | true =>
        have HE : Hid (EndT R g1) := Lib.hid (EndT.same ⟨fun i k q => by have := (HS2.out.bu.ti.al _ _ _ q).2.2; omega, .inr ⟨x, k, HX.out.1, HX.out.2.1⟩⟩ HS2.out.tk)
        go_wp2_with fail
        refine HR.out.mono ?_
        rintro e w3 ⟨rfl, hb⟩
        have HS3 := Lib.hid ((HS2.out.below hb).below (bel1 w3 (.cells #[.int .u8 3, .int .u8 (k : Int)] 118)))
        simp only [if_true]
        clear hb c0 c1 c2 c3 c4 c5 c6 c7 c8 c9 HR hp
        have hsub := HSUB.out
        go_wp2_with fail
        go_ret
        exact ⟨g1, R1, s1, HE.out, rfl, HS3.out⟩
      | false =>
        go_wp2_with fail
        refine HR.out.mono ?_
        rintro e w3 ⟨rfl, hb⟩
        have HS3 := Lib.hid (HS2.out.below hb)
        have HBT := Lib.hid (BT.new HS3.out.bv 2 (k : Int))
        have HCL := Lib.hid (HS3.out.calls HX.out.1 HX.out.2.1 w3.heap.size 2 (k : Int))
        have HW3 := Lib.hid (Went.of_below HS3.out.bv.1 (bel1 w3 (.cells #[.int .u8 2, .int .u8 (k : Int)] 118)))
        have HAD := Lib.hid fun X (hX : BV B A n s1 X) => baddr hX HZ.out.2.1 x (by omega)
        have HBA := Lib.hid fun X (hX : BV B A n (shB s1 R1 g1 k x) X) => bbase hX HZ.out.2.1
        simp only [if_false, Bool.false_eq_true]
        clear hb c0 c1 c2 c3 c4 c5 c6 c7 c8 c9 HR hp
        go_upto_region 8 with fail
        obtain ⟨w4, hw4⟩ : ∃ w4, w3.alloc (.cells #[.int .u8 2, .int .u8 (k : Int)] 118) = w4 := ⟨_, rfl⟩
        obtain ⟨T, hT⟩ : ∃ T, w3.heap.size = T := ⟨_, rfl⟩
        rw [hw4] at HBT HW3 ⊢
        rw [hT] at HBT HCL ⊢
        clear hw4 hT
        obtain ⟨sA, hsA⟩ : ∃ sA, shA s1 R1 g1 k x = sA := ⟨_, rfl⟩
        obtain ⟨sB, hsB⟩ : ∃ sB, shB s1 R1 g1 k x = sB := ⟨_, rfl⟩
        obtain ⟨sC, hsC⟩ : ∃ sC, shC s1 R1 g1 k x = sC := ⟨_, rfl⟩
        obtain ⟨sD, hsD⟩ : ∃ sD, shD s1 R1 g1 k x = sD := ⟨_, rfl⟩
        rw [hsA, hsB, hsC, hsD] at HCL
        rw [hsB] at HBA
        clear hsA hsB hsC hsD
        obtain ⟨D, hD⟩ : ∃ D, 2 ^ k = D := ⟨_, rfl⟩
        obtain ⟨x1, hx1⟩ : ∃ x1, 1 + x = x1 := ⟨_, rfl⟩
        obtain ⟨CA, CB, CC, CD, CE⟩ := HCL.out
        rw [hD, hx1] at CC
        have HA := Lib.hid CA; have HBb := Lib.hid CB; have HC := Lib.hid CC; have HDd := Lib.hid CD; have HE := Lib.hid CE
        have hk10 : k ≤ 10 := (HS3.out.bu.addr HX.out.1).1
        have E1 : Hid (IntKind.i64.wrap (1 + (x : Int)) = (x1 : Int)) := Lib.hid (by rw [IntKind.wrap_i64]; omega)
        have E2 : Hid (IntKind.i64.wrap ((g1 : Int) - (x : Int)) = (D : Int)) := Lib.hid (by have := HX.out.2.1; rw [IntKind.wrap_i64]; omega)
        have E3 : Hid (IntKind.i64.wrap ((k : Int)) = (k : Int)) := Lib.hid (by rw [IntKind.wrap_i64]; omega)
        clear CA CB CC CD CE HCL hD hx1
        have e3 := E3.out
        go_region_held3 (fun x => x.cell? ⟨B, 4, none⟩ = some (.pointer (some ⟨A, 0, none⟩)) ∧ x.cell? ⟨B, 5, none⟩ = some (.int .i64 16) ∧ x.cell? ⟨B, 6, none⟩ = some (.int .i64 88) ∧ x.cell? ⟨T, 1, none⟩ = some (.int .u8 (k : Int)))
          (first | (have q := HBT.out.below (Below.refl _ _).drew; exact ⟨q.1.all.2.2.2.2.1, q.1.all.2.2.2.2.2.1, q.1.all.2.2.2.2.2.2.1, q.tag.2⟩) | assumption)
          (first | (go_at_call 82
                    refine (HAD.out _ (HBT.out.below (Below.refl _ _).drew).1).mono ?_
                    rintro e w' ⟨rfl, hb⟩
                    have hb2 := (Below.refl _ _).drew.trans hb
                    have hq := HBT.out.below hb2
                    have kk := And.intro (hq.1.all.2.2.2.2.1) (And.intro (hq.1.all.2.2.2.2.2.1) (And.intro (hq.1.all.2.2.2.2.2.2.1) (hq.tag.2))))
                 | (go_at_call 76
                    refine (HA.out _ hq).mono ?_
                    rintro e w5 ⟨rfl, hq2, hg⟩
                    have kk2 := And.intro (hq2.1.all.2.2.2.2.1) (And.intro (hq2.1.all.2.2.2.2.2.1) (And.intro (hq2.1.all.2.2.2.2.2.2.1) (hq2.tag.2)))
                    have hw5 := HW3.out.trans ((Went.of_below HBT.out.1.1 hb2).trans hg)))
        have HB5 := Lib.hid hq2
        have HW5 := Lib.hid hw5
        clear hq hq2 kk kk2 hb hb2 hg hw5 HA HAD
        go_upto_region 9 with fail
        go_region_held3 (fun x => x.cell? ⟨B, 7, none⟩ = some (.pointer (some ⟨A, 0, none⟩)) ∧ x.cell? ⟨B, 8, none⟩ = some (.int .i64 256) ∧ x.cell? ⟨B, 9, none⟩ = some (.int .i64 (n : Int)) ∧ x.cell? ⟨T, 1, none⟩ = some (.int .u8 (k : Int)))
          (first | (have q := HB5.out.below (Below.refl _ _).drew; exact ⟨q.1.all.2.2.2.2.2.2.2.1, q.1.all.2.2.2.2.2.2.2.2.1, q.1.all.2.2.2.2.2.2.2.2.2.1, q.tag.2⟩) | assumption)
          (first | (go_at_call 79
                    refine (HBb.out _ (HB5.out.below (Below.refl _ _).drew)).mono ?_
                    rintro e w6 ⟨rfl, hq2, hg⟩
                    have kk2 := And.intro (hq2.1.all.2.2.2.2.2.2.2.1) (And.intro (hq2.1.all.2.2.2.2.2.2.2.2.1) (And.intro (hq2.1.all.2.2.2.2.2.2.2.2.2.1) (hq2.tag.2)))
                    have hw6 := HW5.out.trans ((Went.of_below HB5.out.1.1 (Below.refl _ _).drew).trans hg)))
        have HB6 := Lib.hid hq2
        have HW6 := Lib.hid hw6
        clear hq2 kk2 hg hw6 HBb HB5 HW5
        have e1 := E1.out
        have e2 := E2.out
        go_upto_region 10 with fail
        go_region_held3 (fun x => x.cell? ⟨B, 0, none⟩ = some (.pointer (some ⟨A, 0, none⟩)))
          (first | (have q := HB6.out.below (Below.refl _ _).drew; exact q.1.all.1) | assumption)
          (first | (go_at_call 17
                    refine (HBA.out _ (HB6.out.below (Below.refl _ _).drew).1).mono ?_
                    rintro e w' ⟨rfl, hb⟩
                    have hb2 := (Below.refl _ _).drew.trans hb
                    have hq := HB6.out.below hb2
                    have kk := hq.1.all.1)
                 | (go_at_call 103
                    refine (HC.out _ hq).mono ?_
                    rintro e w7 ⟨rfl, hq2, hg⟩
                    have kk2 := hq2.1.all.1
                    have hw7 := HW6.out.trans ((Went.of_below HB6.out.1.1 hb2).trans hg)))
        have HB7 := Lib.hid hq2
        have HW7 := Lib.hid hw7
        clear hq hq2 kk kk2 hb hb2 hg hw7 HC HBA HB6 HW6 e1 e2 e3
        go_wp2_with fail
        refine (HDd.out _ HB7.out).mono ?_
        rintro e w8 ⟨rfl, hq2, hg⟩
        have HS8 := Lib.hid (HE.out w8 hq2.1 (HW7.out.trans hg))
        clear hq2 hg
        go_wp2_with fail
        refine ⟨⟨x, lessR R1 x, sD, hxl, by omega, HS8⟩, HMU.out⟩
end
end Go.Proofs.YtfemgekhpcgliaaGreat.Bt
/- A buddy's Runs. -/
namespace Go.Proofs.YtfemgekhpcgliaaGreat.Bt
open Go Go.RowKit Go.Shelf
set_option linter.unusedVariables false
set_option linter.unusedSimpArgs false
theorem own_rnT {T : TypeId} {W : World} {base : Nat} {v : Value} {L : List (Nat × Nat × Bool)} (h : W.ownsRow base T 3 v L.length (rnL L)) : ∃ p cap, v = .slice p L.length cap ∧ RnAt W p L ∧ ∀ g, p = some ⟨g, 0, none⟩ → base ≤ g := by
  rcases h.2 with ⟨rfl, h0⟩ | ⟨g, cap, cur, rfl, hbg, hg, hnc, _, hcs, htk⟩
  · exact ⟨none, 0, by rw [h0], .inl (List.eq_nil_of_length_eq_zero h0), fun g hg => by cases hg⟩
  · refine ⟨_, cap, rfl, .inr ⟨g, rfl, (Array.getElem?_eq_some_iff.1 hg).1, fun j hj => ?_⟩, fun g' hg' => by simp at hg'; omega⟩
    have key : ∀ k, k < 3 → W.cell? ⟨g, j * 3 + k, none⟩ = (rnC (L.getD j r0))[k]? := fun k hk => by
      rw [(cell_blk hg _).1, ← rnL_get L j hj k hk, ← htk, List.getElem?_take, if_pos (by omega)]; simp
    have k0 := key 0 (by omega); have k1 := key 1 (by omega); have k2 := key 2 (by omega)
    exact ⟨by simpa [rnC] using k0, by simpa [rnC] using k1, by simpa [rnC] using k2⟩
theorem Tryz.infoBr : (Tryz.prog.info? 79).map (fun i => (i.zero, i.size, i.bytes)) = some (some (.agg #[.int .i64 0, .int .i64 0, .bool false]), 3, 24) := by kernel_rfl
/-- a buddy's runs, by addresses -/
def adL (l : List (Nat × Nat × Bool)) : List (Nat × Nat × Bool) := l.map fun y => (adr y.1, y.2.1, y.2.2)
theorem adL_snoc (l : List (Nat × Nat × Bool)) (y : Nat × Nat × Bool) : adL (l ++ [y]) = adL l ++ [(adr y.1, y.2.1, y.2.2)] := by simp [adL]
theorem runL_len (R : Runs) (p : Nat) : (runL R p).length ≤ p := by
  induction p with
  | zero => simp [runL_zero]
  | succ p ih =>
    rw [runL_succ, List.length_append]
    cases R p <;> simp <;> omega
theorem adL_len (l : List (Nat × Nat × Bool)) : (adL l).length = l.length := by simp [adL]
theorem ownsRow_bel {x y : World} {base : Nat} {e : TypeId} {size : Nat} {v : Value} {n : Nat} {xs : List Value} (h : x.ownsRow base e size v n xs) (hb : Below x.heap.size x y) : y.ownsRow base e size v n xs :=
  ⟨h.1, h.2.imp id fun ⟨g, cap, cur, e1, e2, hg, rest⟩ => ⟨g, cap, cur, e1, e2, (hb.block _ (Array.getElem?_eq_some_iff.1 hg).1).trans hg, rest⟩⟩
theorem own_ne {W : World} {base : Nat} {e : TypeId} {size : Nat} {v : Value} {n : Nat} {xs : List Value} (h : W.ownsRow base e size v n xs) {T : Nat} {c : Array Value} {U : TypeId} {fr : Nat × Nat} (hT : W.heap[T]? = some (.cells c U fr)) (hne : U ≠ e) : some T ≠ v.ownBlock := by
  rcases h.2 with ⟨rfl, _⟩ | ⟨g, cap, cur, rfl, _, hg, _⟩
  · simp [Value.ownBlock]
  · intro q
    have : T = g := by simpa [Value.ownBlock] using q
    subst this
    rw [hT] at hg
    simp only [Option.some.injEq, Obj.cells.injEq] at hg
    exact hne hg.2.1
/-- a row that grows -/
structure RGrow (b0 : Nat) (w : World) (L : List (Nat × Nat × Bool)) (v : Value) (x : World) : Prop where
  ow : x.ownsRow b0 79 3 v L.length (rnL L)
  be : Below b0 w x
  sz : b0 ≤ x.heap.size
theorem RGrow.below {b0 : Nat} {w x y : World} {L : List (Nat × Nat × Bool)} {v : Value} (h : RGrow b0 w L v x) (hb : Below x.heap.size x y) : RGrow b0 w L v y :=
  ⟨ownsRow_bel h.ow hb, h.be.trans (hb.mono h.sz), Nat.le_trans h.sz hb.size⟩
section
variable {B A n g : Nat} {R : Runs} {s : ASt} {w : World}
def RunsPost (R : Runs) (g : Nat) (w : World) (e : Ending) (w' : World) : Prop :=
  ∃ p cap, e = .returned (.slice p (adL (runL R g)).length cap) ∧ RnAt w' p (adL (runL R g)) ∧ (∀ j, p = some ⟨j, 0, none⟩ → w.heap.size ≤ j) ∧ Below w.heap.size w w'
set_option maxRecDepth 100000 in
set_option maxHeartbeats 8000000 in
theorem bRuns_any (h : BV B A n s w) (hB : Bud (n + 1) g g R g s) : Calls Tryz.prog 36 #[bdyP B] w (RunsPost R g w) := by
  obtain ⟨i0, hi0, hz0, hz1, hz2⟩ := info_parts Tryz.infoBr
  have HI := Lib.hid hi0; have HZ0 := Lib.hid hz0; have HZ1 := Lib.hid hz1; have HZ2 := Lib.hid hz2
  clear hi0 hz0 hz1 hz2
  have HV := Lib.hid h
  have HB := Lib.hid hB
  have HZ := Lib.hid (hB.sz h.2.1)
  have hgb : g ≤ 80 := by have := hB.sz h.2.1; omega
  clear h hB
  go_enter Tryz.func36, Tryz.ntmps36
  go_wp2_with fail
  refine (bgrown HV.out g hgb HB.out.front HB.out.gr).mono ?_
  rintro e w1 ⟨rfl, hb⟩
  have HR1 : Hid (RGrow w.heap.size w (adL (runL R 0)) (.slice none 0 0) w1) := Lib.hid ⟨World.ownsRow_nil _ _ _ _, hb, hb.size⟩
  clear hb
  go_wp2_with fail
  go_loopw [3, 4] (fun v s4 wr => ∃ p : Nat, p ≤ g ∧ s4 = .int .i64 (p : Int) ∧ Hid (p = 0 ∨ ∃ i k t, R i = some (k, t) ∧ i + 2 ^ k = p) ∧ Hid (RGrow w.heap.size w (adL (runL R p)) v wr)) (fun _ s4 _ => g - (intOf s4).toNat)
  case atStart => exact ⟨0, Nat.zero_le _, rfl, Lib.hid (.inl rfl), HR1⟩
  case round =>
    clear HR1
    obtain ⟨p, hpg, rfl, HBG, HRG⟩ := hrel
    by_cases hlt : p < g
    · have hlt2 : (p : Int) < (g : Int) := by omega
      obtain ⟨k, t, hR⟩ := HB.out.ti.toTile.begins hlt HBG.out
      have hx := HV.out.below HRG.out.be
      have HVr := Lib.hid hx
      obtain ⟨c0, c1, c2, c3, c4, c5, c6, c7, c8, c9, _⟩ := hx.all
      have hk10 : k ≤ 10 ∧ p + 2 ^ k ≤ g := by have := HB.out.addr hR; omega
      have hpp := pow2_pos k
      have HRN := Lib.hid (brun_at HVr.out HB.out hR p (Nat.le_refl _) (by omega))
      have HRR := Lib.hid hR
      have HST := Lib.hid (runL_step HB.out.ti.toTile hR)
      obtain ⟨hN, _, _⟩ := pow_n k (by omega)
      have HN := Lib.hid hN
      clear hN hx
      obtain ⟨P, hP⟩ : ∃ P, 2 ^ k = P := ⟨_, rfl⟩
      have HP := Lib.hid hP
      rw [hP] at HN HST hk10 hpp
      obtain ⟨p2, hp2⟩ : ∃ p2, p + P = p2 := ⟨_, rfl⟩
      rw [hp2] at HST hk10
      have HP2 := Lib.hid hp2
      have E4 : Hid (IntKind.i64.wrap ((p : Int) + (P : Int)) = (p2 : Int)) := Lib.hid (by rw [IntKind.wrap_i64]; omega)
      have E5 : Hid (IntKind.i64.wrap (k : Int) = (k : Int)) := Lib.hid (by rw [IntKind.wrap_i64]; omega)
      have hpp2 : p < p2 := by omega
      clear hR hP hp2
      go_wp2_with fail
      refine HRN.out.mono ?_
      rintro e w3 ⟨rfl, hb⟩
      have HRG3 := Lib.hid ((HRG.out.below hb).below (bel1 w3 (.cells #[.int .u8 (if t then 3 else 2), .int .u8 (k : Int)] 118)))
      have HBT := Lib.hid (BT.new (HVr.out.below hb) (if t then 3 else 2) (k : Int))
      have HAD := Lib.hid fun X (hX : BV B A n s X) => baddr hX HZ.out.2.1 p (by omega)
      have e5 := E5.out
      clear hb c0 c1 c2 c3 c4 c5 c6 c7 c8 c9 HRN HRG HBG HVr
      go_upto_region 7 with fail
      obtain ⟨w4, hw4⟩ : ∃ w4, w3.alloc (.cells #[.int .u8 (if t then 3 else 2), .int .u8 (k : Int)] 118) = w4 := ⟨_, rfl⟩
      obtain ⟨T, hT⟩ : ∃ T, w3.heap.size = T := ⟨_, rfl⟩
      rw [hw4] at HBT HRG3 ⊢
      rw [hT] at HBT ⊢
      clear hw4 hT e5
      have t0 := (HBT.out.below (Below.refl _ _).drew).tag.1
      refine wp_region_held_drew (S := fun X : World => X.cell? ⟨T, 0, none⟩ = some (.int .u8 (if t then 3 else 2))) (by kernel_rfl) (by exact t0) (fun hHeld => ?_)
      refine wpAnyH_take (i := 0) (v := (u3)) rfl (by kernel_rfl) (by kernel_rfl) (by kernel_rfl) (fun _ _ _ h => h) (Or.inl ⟨by rfl, fun X hS => ?_⟩) hHeld ?_
      · have s0 := hS
        go_simp
      try simp only [Act.put, List.getElem_toArray, List.getElem_cons_zero, List.getElem_cons_succ, List.setIfInBounds_toArray, List.set_cons_zero, List.set_cons_succ]
      refine wpAnyH_take (i := 1) (v := (bdyP B)) rfl (by kernel_rfl) (by kernel_rfl) (by kernel_rfl) (fun _ _ _ h => h) (Or.inl ⟨by rfl, fun X hS => ?_⟩) hHeld ?_
      · have s0 := hS
        go_simp
      try simp only [Act.put, List.getElem_toArray, List.getElem_cons_zero, List.getElem_cons_succ, List.setIfInBounds_toArray, List.set_cons_zero, List.set_cons_succ]
      refine wpAnyH_take (i := 2) (v := (.int .i64 (p : Int))) rfl (by kernel_rfl) (by kernel_rfl) (by kernel_rfl) (fun _ _ _ h => h) (Or.inl ⟨by rfl, fun X hS => ?_⟩) hHeld ?_
      · have s0 := hS
        go_simp
      try simp only [Act.put, List.getElem_toArray, List.getElem_cons_zero, List.getElem_cons_succ, List.setIfInBounds_toArray, List.set_cons_zero, List.set_cons_succ]
      refine wpAnyH_take (i := 4) (v := (.int .i64 (k : Int))) rfl (by kernel_rfl) (by kernel_rfl) (by kernel_rfl) (fun _ _ _ h => h) (Or.inl ⟨by rfl, fun X hS => ?_⟩) hHeld ?_
      · have s0 := hS
        go_simp
      try simp only [Act.put, List.getElem_toArray, List.getElem_cons_zero, List.getElem_cons_succ, List.setIfInBounds_toArray, List.set_cons_zero, List.set_cons_succ]
      refine wpAnyH_take (i := 5) (v := (.pointer (some ⟨T, 0, none⟩))) rfl (by kernel_rfl) (by kernel_rfl) (by kernel_rfl) (fun _ _ _ h => h) (Or.inl ⟨by rfl, fun X hS => ?_⟩) hHeld ?_
      · have s0 := hS
        go_simp
      try simp only [Act.put, List.getElem_toArray, List.getElem_cons_zero, List.getElem_cons_succ, List.setIfInBounds_toArray, List.set_cons_zero, List.set_cons_succ]
      refine wpAnyH_take (i := 6) (v := (.int .u8 (if t then 3 else 2))) rfl (by kernel_rfl) (by kernel_rfl) (by kernel_rfl) (fun _ _ _ h => h) (Or.inl ⟨by rfl, fun X hS => ?_⟩) hHeld ?_
      · have s0 := hS
        go_simp
      try simp only [Act.put, List.getElem_toArray, List.getElem_cons_zero, List.getElem_cons_succ, List.setIfInBounds_toArray, List.set_cons_zero, List.set_cons_succ]
      refine wpAnyH_take (i := 7) (v := (.bool t)) rfl (by kernel_rfl) (by kernel_rfl) (by kernel_rfl) (fun _ _ _ h => h) (Or.inl ⟨by rfl, fun X hS => ?_⟩) hHeld ?_
      · have s0 := hS
        cases t <;> go_simp
      try simp only [Act.put, List.getElem_toArray, List.getElem_cons_zero, List.getElem_cons_succ, List.setIfInBounds_toArray, List.set_cons_zero, List.set_cons_succ]
      refine wpAnyH_ready (rs := [3]) (by kernel_rfl) (by simp) (AllReadyH.cons rfl (fun K1 hK1 => ?_) AllReadyH.nil)
      go_simp
      refine (HAD.out _ (HBT.out.1.below (Below.refl _ _).drew)).mono ?_
      rintro e w5 ⟨rfl, hb⟩
      have hb5 : Below w4.heap.size w4 w5 := (Below.refl _ _).drew.trans hb
      have hT5 := ((HBT.out.below hb5).tag).1
      refine hK1.out _ _ hT5 (fun hHeld => ?_)
      clear hK1
      try simp only [Act.put, List.getElem_toArray, List.getElem_cons_zero, List.getElem_cons_succ, List.setIfInBounds_toArray, List.set_cons_zero, List.set_cons_succ]
      have HB5 := Lib.hid hb5
      clear hb hb5 hHeld
      have hHeld := hT5
      refine wpAnyH_take (i := 8) (v := (.agg #[.int .i64 (adr p : Int), .int .i64 (k : Int), .bool t])) rfl (by kernel_rfl) (by kernel_rfl) (by kernel_rfl) (fun _ _ _ h => h) (Or.inl ⟨by rfl, fun X hS => ?_⟩) hHeld ?_
      · have s0 := hS
        go_simp
      try simp only [Act.put, List.getElem_toArray, List.getElem_cons_zero, List.getElem_cons_succ, List.setIfInBounds_toArray, List.set_cons_zero, List.set_cons_succ]
      refine wpAnyH_ready (rs := [9]) (by kernel_rfl) (by simp) (AllReadyH.cons rfl (fun K2 hK2 => ?_) AllReadyH.nil)
      go_simp
      have hbt5 := HBT.out.below HB5.out
      have hrg5 := (HRG3.out.below HB5.out).below (bel1 w5 (.cells #[.int .i64 (adr p : Int), .int .i64 (k : Int), .bool t] 79))
      have hT6 := (hbt5.below (bel1 w5 (.cells #[.int .i64 (adr p : Int), .int .i64 (k : Int), .bool t] 79))).tag.1
      have hrow2 := hrg5.ow
      have hsz2 := hrg5.sz
      have HRG5 := Lib.hid hrg5
      have HLN : Hid ((adL (runL R p)).length ≤ 2000) := Lib.hid (by have := runL_len R p; rw [adL_len]; have := HZ.out; omega)
      have HT6 := Lib.hid ((hbt5.below (bel1 w5 (.cells #[.int .i64 (adr p : Int), .int .i64 (k : Int), .bool t] 79))).2)
      clear hHeld hbt5 hrg5
      refine hK2.out _ _ hT6 (fun hHeld => ?_)
      clear hK2 hT6
      try simp only [Act.put, List.getElem_toArray, List.getElem_cons_zero, List.getElem_cons_succ, List.setIfInBounds_toArray, List.set_cons_zero, List.set_cons_succ]
      refine wpAnyH_ready (rs := [10]) (by kernel_rfl) (by simp) (AllReadyH.cons rfl (fun K3 hK3 => ?_) AllReadyH.nil)
      rw [if_pos (by rfl)]
      refine wp_append_own _ (.tmp 30) (.tmp 39) 74 rfl w.heap.size 79 i0 (.agg #[.int .i64 0, .int .i64 0, .bool false]) 3 24 Tryz.underlying74 HI.out HZ0.out HZ1.out HZ2.out rfl (by decide) u3 _ _ rfl hrow2 ⟨_, 0, none⟩ 1 1 (rnC (adr p, k, t)) rfl rfl (rn_new (adr p, k, t) _ rfl) (by simp [rnC, Value.oneCell']) (by unfold maxLen; have := HLN.out; omega) (by have := HLN.out; omega) hsz2 ?_
      intro v2 w7 hown' hgrow _
      have hBW := rn_grow hrow2 hgrow hsz2 HRG5.out.be
      have hT7 : w7.cell? ⟨T, 0, none⟩ = some (.int .u8 (if t then 3 else 2)) := by
        have := (hgrow.block T (Array.getElem?_eq_some_iff.1 HT6.out).1 (own_ne hrow2 HT6.out (by decide))).trans HT6.out
        rw [(cell_blk this 0).1]; rfl
      have HRG7 : Hid (RGrow w.heap.size w (adL (runL R p2)) v2 w7) := Lib.hid ⟨by rw [HST.out, adL_snoc, rnL_append, List.length_append]; simpa [rnL] using hown', hBW, Nat.le_trans hsz2 hgrow.size⟩
      clear hown' hgrow hBW hrow2 hsz2 hHeld
      refine hK3.out _ _ hT7 (fun hHeld => ?_)
      clear hT7 hK3
      try simp only [Act.put, List.getElem_toArray, List.getElem_cons_zero, List.getElem_cons_succ, List.setIfInBounds_toArray, List.set_cons_zero, List.set_cons_succ]
      refine wpAnyH_take (i := 11) (v := (v2)) rfl (by kernel_rfl) (by kernel_rfl) (by kernel_rfl) (fun _ _ _ h => h) (Or.inl ⟨by rfl, fun X hS => ?_⟩) hHeld ?_
      · have s0 := hS
        go_simp
      try simp only [Act.put, List.getElem_toArray, List.getElem_cons_zero, List.getElem_cons_succ, List.setIfInBounds_toArray, List.set_cons_zero, List.set_cons_succ]

      refine wpAnyH_done (by kernel_rfl) ?_ _
      clear hHeld t0
      have hN := HN.out
      have e4 := E4.out
      go_wp2_with fail
      refine ⟨⟨p2, hk10.2, rfl, Lib.hid (.inr ⟨p, k, t, HRR.out, by rw [HP.out]; exact HP2.out⟩), HRG7⟩, by simp [intOf]; omega⟩
    · obtain rfl : p = g := by omega
      obtain ⟨q, cap, rfl, hr, hq⟩ := own_rnT HRG.out.ow
      have HF : Hid (RnAt wr q (adL (runL R p)) ∧ (∀ j, q = some ⟨j, 0, none⟩ → w.heap.size ≤ j)) := Lib.hid ⟨hr, hq⟩
      clear hr hq
      go_wp2_with fail
      go_ret
      exact ⟨q, cap, rfl, HF.out.1, HF.out.2, HRG.out.be⟩
end
end Go.Proofs.YtfemgekhpcgliaaGreat.Bt
/- The document's Runs of a buddy. -/
namespace Go.Proofs.YtfemgekhpcgliaaGreat.Bt
open Go Go.RowKit Go.Shelf
set_option linter.unusedVariables false
set_option linter.unusedSimpArgs false
/-- the taken runs as the document has them -/
def tkT (R : Runs) (g : Nat) : List (Nat × Nat × Bool) := (tkL R g).map fun y => (y.1, y.2, true)
theorem tkT_mem {R : Runs} {g i k : Nat} {t : Bool} : (i, k, t) ∈ tkT R g ↔ t = true ∧ i < g ∧ R i = some (k, true) := by
  unfold tkT
  rw [List.mem_map]
  constructor
  · rintro ⟨⟨a, b⟩, h, e⟩
    simp only [Prod.mk.injEq] at e
    obtain ⟨rfl, rfl, rfl⟩ := e
    exact ⟨rfl, tkL_mem.1 h⟩
  · rintro ⟨rfl, h⟩
    exact ⟨(i, k), tkL_mem.2 h, rfl⟩
theorem getD_mem {L : List (Nat × Nat × Bool)} {j : Nat} (h : j < L.length) : L.getD j r0 ∈ L := by
  rw [List.getD_eq_getElem?_getD, List.getElem?_eq_getElem h]
  exact List.getElem_mem h
theorem mem_getD {L : List (Nat × Nat × Bool)} {y : Nat × Nat × Bool} (h : y ∈ L) : ∃ j, j < L.length ∧ L.getD j r0 = y := by
  obtain ⟨j, hj, e⟩ := List.mem_iff_getElem.1 h
  exact ⟨j, hj, by rw [List.getD_eq_getElem?_getD, List.getElem?_eq_getElem hj, e]; rfl⟩
theorem tkL_len (R : Runs) (g : Nat) : (tkL R g).length ≤ g := Nat.le_trans (List.length_filterMap_le _ _) (runL_len R g)
theorem tkT_len (R : Runs) (g : Nat) : (tkT R g).length ≤ g := by unfold tkT; rw [List.length_map]; exact tkL_len R g
theorem tkT_fit {g x : Nat} {R : Runs} (h : Til g R x) {j : Nat} (hj : j < (tkT R g).length) : ((tkT R g).getD j r0).2.1 ≤ 10 ∧ ((tkT R g).getD j r0).1 + 2 ^ ((tkT R g).getD j r0).2.1 ≤ g := by
  have := tkT_mem.1 (getD_mem hj)
  have a := h.al _ _ _ this.2.2
  exact ⟨a.1, a.2.2⟩
theorem freeF_iff {g x : Nat} {R : Runs} (h : Til g R x) (p : Nat) : freeF (tkT R g) p = true ↔ FreeAt R p := by
  unfold freeF FreeAt
  rw [List.all_eq_true]
  constructor
  · intro q i k e hc
    have := q (i, k, true) (tkT_mem.2 ⟨rfl, h.lt e, e⟩)
    simp [inR] at this
    omega
  · rintro q ⟨i, k, t⟩ hm
    have := (tkT_mem.1 hm).2.2
    have := q i k this
    simp [inR]
    omega
/-- the run that is found at a page: what it is behind the first j taken ones -/
def curR (L : List (Nat × Nat × Bool)) (i k j : Nat) : Nat × Nat × Bool := if ∃ m, m < j ∧ (L.getD m r0).1 = i then (i, k, true) else (i, 0, false)
theorem curR_zero (L : List (Nat × Nat × Bool)) (i k : Nat) : curR L i k 0 = (i, 0, false) := if_neg (fun ⟨m, h, _⟩ => by omega)
theorem curR_hit {L : List (Nat × Nat × Bool)} {i k j : Nat} (h : (L.getD j r0).1 = i) : curR L i k (j + 1) = (i, k, true) := if_pos ⟨j, by omega, h⟩
theorem curR_miss {L : List (Nat × Nat × Bool)} {i k j : Nat} (h : (L.getD j r0).1 ≠ i) : curR L i k (j + 1) = curR L i k j := by
  unfold curR
  congr 1
  exact propext ⟨fun ⟨m, h1, h2⟩ => ⟨m, by rcases Nat.lt_or_eq_of_le (Nat.le_of_lt_succ h1) with c | c; exact c; subst c; exact absurd h2 h, h2⟩, fun ⟨m, h1, h2⟩ => ⟨m, by omega, h2⟩⟩
theorem curR_all {g x i k : Nat} {t : Bool} {R : Runs} (h : Til g R x) (e : R i = some (k, t)) : curR (tkT R g) i k (tkT R g).length = (i, if t then k else 0, t) := by
  unfold curR
  cases t with
  | true =>
    obtain ⟨j, hj, ej⟩ := mem_getD (tkT_mem.2 ⟨rfl, h.lt e, e⟩ : (i, k, true) ∈ tkT R g)
    rw [if_pos ⟨j, hj, by rw [ej]⟩]; rfl
  | false =>
    rw [if_neg]
    · rfl
    rintro ⟨m, hm, em⟩
    have hmm := getD_mem hm
    generalize (tkT R g).getD m r0 = y at hmm em
    obtain ⟨a, b, c⟩ := y
    have := (tkT_mem.1 hmm).2.2
    simp only at em
    rw [em, e] at this
    cases (some_of this).2
abbrev rnA (y : Nat × Nat × Bool) : Array Value := #[.int .i64 (y.1 : Int), .int .i64 (y.2.1 : Int), .bool y.2.2]
/-- a run in a block of its own -/
def RnV (T : Nat) (y : Nat × Nat × Bool) (x : World) : Prop := x.heap[T]? = some (.cells (rnA y) 51 (0, 0))
theorem RnV.below {T : Nat} {y : Nat × Nat × Bool} {x z : World} (h : RnV T y x) (hb : Below x.heap.size x z) : RnV T y z := (hb.block _ (Array.getElem?_eq_some_iff.1 h).1).trans h
theorem RnV.all {T : Nat} {y : Nat × Nat × Bool} {x : World} (h : RnV T y x) : x.cell? ⟨T, 0, none⟩ = some (.int .i64 (y.1 : Int)) ∧ x.cell? ⟨T, 1, none⟩ = some (.int .i64 (y.2.1 : Int)) ∧ x.cell? ⟨T, 2, none⟩ = some (.bool y.2.2) := by
  refine ⟨?_, ?_, ?_⟩ <;> (rw [(cell_blk h _).1]; rfl)
theorem RnV.free {T : Nat} {y : Nat × Nat × Bool} {x : World} (h : RnV T y x) : x.frozen? ⟨T, 0, none⟩ = false ∧ x.frozen? ⟨T, 1, none⟩ = false ∧ x.frozen? ⟨T, 2, none⟩ = false := ⟨(cell_blk h 0).2, (cell_blk h 1).2, (cell_blk h 2).2⟩
theorem RnV.set {T : Nat} {y : Nat × Nat × Bool} {x : World} (h : RnV T y x) (z : Nat × Nat × Bool) : RnV T z (((x.setCell ⟨T, 0, none⟩ (.int .i64 (z.1 : Int))).setCell ⟨T, 1, none⟩ (.int .i64 (z.2.1 : Int))).setCell ⟨T, 2, none⟩ (.bool z.2.2)) := three_set h rfl _ _ _
theorem RnV.ord {T : Nat} {i k : Nat} {t : Bool} {x : World} (h : RnV T (i, k, t) x) (l : Nat) : RnV T (i, l, t) (x.setCell ⟨T, 1, none⟩ (.int .i64 (l : Int))) := by
  have := heap_set (o := 1) h (.int .i64 (l : Int))
  exact this
theorem RnV.lt {T : Nat} {y : Nat × Nat × Bool} {x : World} (h : RnV T y x) : T < x.heap.size := (Array.getElem?_eq_some_iff.1 h).1
theorem set3_below {base : Nat} {w x : World} {T : Nat} (h : Below base w x) (hT : base ≤ T) (u v z : Value) : Below base w (((x.setCell ⟨T, 0, none⟩ u).setCell ⟨T, 1, none⟩ v).setCell ⟨T, 2, none⟩ z) :=
  ((h.setCell (p := ⟨T, 0, none⟩) hT u).setCell (p := ⟨T, 1, none⟩) hT v).setCell (p := ⟨T, 2, none⟩) hT z
end Go.Proofs.YtfemgekhpcgliaaGreat.Bt
/- The document's Free of a buddy: a run that is there. -/
namespace Go.Proofs.YtfemgekhpcgliaaGreat.Bt
open Go Go.RowKit Go.Shelf
set_option linter.unusedVariables false
set_option linter.unusedSimpArgs false
set_option maxHeartbeats 4000000 in
set_option maxRecDepth 100000 in
theorem bfr_yes (o q g r : Int) (p : Option Addr) (tc : Nat) (L : List (Nat × Nat × Bool)) (hL : L.length ≤ 2000) (a : Int) (w : World) (h : RnAt w p L) (k : Int) (ho : ordV L a = .tuple #[.int .i64 k, .int .i64 0]) :
    Calls Tryz.prog 55 #[bqV o q g r (.slice p L.length tc), .int .i64 a] w (BackP o q g r (wr8 L a) 0 w) := by
  obtain ⟨i0, hi0, hz0, hz1, hz2⟩ := info_parts Tryz.infoRn
  have HI := Lib.hid hi0; have HZ0 := Lib.hid hz0; have HZ1 := Lib.hid hz1; have HZ2 := Lib.hid hz2
  clear hi0 hz0 hz1 hz2
  have HO := Lib.hid fun w (h : RnAt w p L) => bord_any o q g r p tc L hL a w h
  rw [ho] at HO
  have H := Lib.hid h
  obtain ⟨n, hn⟩ : ∃ n, L.length = n := ⟨_, rfl⟩
  have HN := Lib.hid hn
  have hb0 := (((Below.refl w.heap.size w).alloc (Nat.le_refl _) (.cells #[.int .i64 o, .int .i64 q, .int .i64 g, .int .i64 r, .slice p n tc] 33)).alloc (by simp) (.cells #[.int .i64 0, .int .i64 0, .int .i64 0, .int .i64 0, .slice none 0 0] 33))
  have hx := ((heap_new w (.cells #[.int .i64 o, .int .i64 q, .int .i64 g, .int .i64 r, .slice p n tc] 33)))
  have hsz : (w.alloc (.cells #[.int .i64 o, .int .i64 q, .int .i64 g, .int .i64 r, .slice p n tc] 33)).heap.size = w.heap.size + 1 := by simp
  have hx2 := (((Below.refl (w.alloc (.cells #[.int .i64 o, .int .i64 q, .int .i64 g, .int .i64 r, .slice p n tc] 33)).heap.size _).alloc (Nat.le_refl _) (.cells #[.int .i64 0, .int .i64 0, .int .i64 0, .int .i64 0, .slice none 0 0] 33)).block w.heap.size (by simp)).trans hx
  have hy := heap_new (w.alloc (.cells #[.int .i64 o, .int .i64 q, .int .i64 g, .int .i64 r, .slice p n tc] 33)) (.cells #[.int .i64 0, .int .i64 0, .int .i64 0, .int .i64 0, .slice none 0 0] 33)
  rw [hsz] at hy
  have HB := Lib.hid hb0; have HX := Lib.hid hx2; have HY := Lib.hid hy
  rw [hn] at hL HO ⊢
  clear h hn hb0 hx hx2 hy hsz ho
  go_enter Tryz.func55, Tryz.ntmps55
  go_wp2_with fail
  refine (HO.out _ (H.out.below HB.out)).mono ?_
  rintro e w1 ⟨rfl, hb1⟩
  have hx1 := (hb1.block _ (Array.getElem?_eq_some_iff.1 HX.out).1).trans HX.out
  have hy1 := (hb1.block _ (Array.getElem?_eq_some_iff.1 HY.out).1).trans HY.out
  have HBB := Lib.hid (HB.out.trans (hb1.mono HB.out.size))
  obtain ⟨D, hD⟩ : ∃ D, w.heap.size = D := ⟨_, rfl⟩
  obtain ⟨E, hE⟩ : ∃ E, w.heap.size + 1 = E := ⟨_, rfl⟩
  have HDE : Hid (w.heap.size ≤ E ∧ D ≠ E) := Lib.hid (by omega)
  rw [hD] at hx1; rw [hE] at hy1
  rw [hE, hD]
  have d0 := (cell_blk hx1 0).1; have d1 := (cell_blk hx1 1).1; have d2 := (cell_blk hx1 2).1; have d3 := (cell_blk hx1 3).1; have d4 := (cell_blk hx1 4).1
  have e0 := (cell_blk hy1 0); have e1 := (cell_blk hy1 1); have e2 := (cell_blk hy1 2); have e3 := (cell_blk hy1 3); have e4 := (cell_blk hy1 4)
  simp at d0 d1 d2 d3 d4 e0 e1 e2 e3 e4
  obtain ⟨e0, f0⟩ := e0; obtain ⟨e1, f1⟩ := e1; obtain ⟨e2, f2⟩ := e2; obtain ⟨e3, f3⟩ := e3; obtain ⟨e4, f4⟩ := e4
  have HE := Lib.hid hy1
  have HD := Lib.hid hx1
  have HDW : Hid (w.heap.size ≤ D) := Lib.hid (by omega)
  have HRN := Lib.hid (H.out.below HBB.out)
  obtain ⟨b0, hb0⟩ : ∃ b0, w1.heap.size = b0 := ⟨_, rfl⟩
  have HDL : Hid (D < b0) := Lib.hid (by have := (Array.getElem?_eq_some_iff.1 hx1).1; omega)
  have HEL : Hid (E < b0) := Lib.hid (by have := (Array.getElem?_eq_some_iff.1 hy1).1; omega)
  have HB1 : Hid (Below b0 w1 w1) := Lib.hid (by rw [← hb0]; exact Below.refl _ _)
  clear hb1 hD hE hx1 hy1 HX HY HB HO
  clear d0 d1 d2 d3 e0 e1 e2 e3 e4 f0 f1 f2 f3 f4
  go_wp2_with fail
  go_loopw [8, 10, 24] (fun s8 _ s24 wr => ∃ j : Nat, j ≤ n ∧ s24 = .int .i64 (j : Int) ∧ wr.ownsRow b0 51 3 s8 (wr8 (L.take j) a).length (rnL (wr8 (L.take j) a)) ∧ Below b0 w1 wr ∧ b0 ≤ wr.heap.size) (fun _ _ s24 _ => n - (intOf s24).toNat)
  case atStart => exact ⟨0, Nat.zero_le _, rfl, World.ownsRow_nil _ _ _ _, HB1.out, by omega⟩
  case round =>
    obtain ⟨j, hj, rfl, hrow, hbw, hs0⟩ := hrel
    have HRW := Lib.hid hrow; have HBW := Lib.hid hbw
    have hbw' : Below w1.heap.size w1 wr := by rw [hb0]; exact hbw
    by_cases hjn : j < n
    · have hjn2 : (j : Int) < (n : Int) := by omega
      have hjl : j < L.length := by have := HN.out; omega
      rcases HRN.out.below hbw' with e | ⟨gb, rfl, hg, hc⟩
      · rw [e] at hjl; simp at hjl
      obtain ⟨q0, q1, q2⟩ := hc j hjl
      have HWN := Lib.hid (wr8_next (a := a) hjl)
      obtain ⟨c, hcc⟩ : ∃ c, L.getD j r0 = c := ⟨_, rfl⟩
      rw [hcc] at q0 q1 q2 HWN
      have HLN : Hid ((wr8 (L.take j) a).length ≤ 2000) := Lib.hid (Nat.le_trans (wr8_len _ _) (by rw [List.length_take]; have := HN.out; omega))
      obtain ⟨ol, hol⟩ : ∃ ol, wr8 (L.take j) a = ol := ⟨_, rfl⟩
      rw [hol] at HWN HLN hrow HRW
      clear hc hjl hcc hbw hbw' hol hb0
      by_cases hca : (c.1 : Int) = a
      · have hW1 := HWN.out
        rw [if_pos hca] at hW1
        have HW1 := Lib.hid hW1
        have d : ((c.1 : Int) != a) = false := by simpa using hca
        have HB2 := Lib.hid (HBW.out.alloc hs0 (.cells #[.int .i64 (c.1 : Int), .int .i64 (c.2.1 : Int), .bool c.2.2] 51))
        have HR2 := Lib.hid (hrow.alloc (.cells #[.int .i64 (c.1 : Int), .int .i64 (c.2.1 : Int), .bool c.2.2] 51))
        clear hW1 hca hrow
        go_wp2_with fail
        go_roundw
        case rel => exact ⟨j + 1, by omega, by go_num, by rw [HW1.out]; exact HR2.out, HB2.out, by simp; omega⟩
        case measure => simp [intOf]; omega
      · have hW1 := HWN.out
        rw [if_neg hca] at hW1
        have HW1 := Lib.hid hW1
        have d : ((c.1 : Int) != a) = true := by simpa using hca
        have HB2 := Lib.hid ((HBW.out.alloc hs0 (.cells #[.int .i64 (c.1 : Int), .int .i64 (c.2.1 : Int), .bool c.2.2] 51)).alloc (by simp; omega) (.cells #[.int .i64 (c.1 : Int), .int .i64 (c.2.1 : Int), .bool c.2.2] 51))
        have hrow2 := (hrow.alloc (.cells #[.int .i64 (c.1 : Int), .int .i64 (c.2.1 : Int), .bool c.2.2] 51)).alloc (.cells #[.int .i64 (c.1 : Int), .int .i64 (c.2.1 : Int), .bool c.2.2] 51)
        have HR2 := Lib.hid hrow2
        have hln := HLN.out
        clear hW1 hca hrow
        go_wp2_with (at_builtin; refine wpList_append_own _ rfl _ _ 31 rfl b0 51 i0 (.agg #[.int .i64 0, .int .i64 0, .bool false]) 3 24 Tryz.underlying31 HI.out HZ0.out HZ1.out HZ2.out rfl (by decide) _ _ _ rfl hrow2 ⟨_, 0, none⟩ 1 1 (rnC c) rfl rfl (rn_new c _ (by simp)) (by simp [rnC, Value.oneCell']) (by unfold maxLen; omega) (by omega) (by simp; omega) ?_; intro v' w2 hown' hgrow _; have hhgrow := hgrow.size; simp at hhgrow)
        have HBW2 := Lib.hid (rn_grow HR2.out hgrow (by simp; omega) HB2.out)
        have HOW : Hid (w2.ownsRow b0 51 3 v' (ol ++ [c]).length (rnL (ol ++ [c]))) := Lib.hid (by rw [rnL_append]; simpa [rnL] using hown')
        have HS2 : Hid (b0 ≤ w2.heap.size) := Lib.hid (by omega)
        clear hrow2 hown' hgrow hhgrow
        go_wp2_with fail
        go_roundw
        case rel => exact ⟨j + 1, by omega, by go_num, by rw [HW1.out]; exact HOW.out, HBW2.out, HS2.out⟩
        case measure => simp [intOf]; omega
    · have HT : Hid (L.take j = L) := Lib.hid (List.take_of_length_le (by have := HN.out; omega))
      rw [HT.out] at HRW
      obtain ⟨p', cap', rfl, hr', hg'⟩ := own_rn' HRW.out
      have HR' := Lib.hid hr'; have HG' := Lib.hid hg'
      have hx1 := (HBW.out.block _ HDL.out).trans HD.out
      have hy1 := (HBW.out.block _ HEL.out).trans HE.out
      have d0 := (cell_blk hx1 0); have d1 := (cell_blk hx1 1); have d2 := (cell_blk hx1 2); have d3 := (cell_blk hx1 3); have d4 := (cell_blk hx1 4)
      have e0 := (cell_blk hy1 0); have e1 := (cell_blk hy1 1); have e2 := (cell_blk hy1 2); have e3 := (cell_blk hy1 3); have e4 := (cell_blk hy1 4)
      simp at d0 d1 d2 d3 d4 e0 e1 e2 e3 e4
      obtain ⟨d0, k0⟩ := d0; obtain ⟨d1, k1⟩ := d1; obtain ⟨d2, k2⟩ := d2; obtain ⟨d3, k3⟩ := d3; obtain ⟨d4, k4⟩ := d4
      obtain ⟨e0, f0⟩ := e0; obtain ⟨e1, f1⟩ := e1; obtain ⟨e2, f2⟩ := e2; obtain ⟨e3, f3⟩ := e3; obtain ⟨e4, f4⟩ := e4
      have hED := HDE.out.2
      have hDE : ¬ E = D := fun q => hED q.symm
      have HXD := Lib.hid hx1; have HYE := Lib.hid hy1
      clear hx1 hy1 hr' hg' hrow hbw hb0
      obtain ⟨n', hn'⟩ : ∃ n', (wr8 L a).length = n' := ⟨_, rfl⟩
      have HN' := Lib.hid hn'
      rw [hn']
      clear hn'
      go_wp2_with fail
      change bodyPost _ _ _ _ _ (set5 (wr.setCell ⟨D, 4, none⟩ (.slice p' n' cap')) E (.int .i64 o) (.int .i64 q) (.int .i64 g) (.int .i64 r) (.slice p' n' cap'))
      have hz := set5_at ((Below.heap_setCell wr ⟨D, 4, none⟩ (.slice p' n' cap') E hDE).trans HYE.out) (.int .i64 o) (.int .i64 q) (.int .i64 g) (.int .i64 r) (.slice p' n' cap')
      have HZB := Lib.hid (set5_below ((HBB.out.trans (HBW.out.mono (by have := HDE.out.1; have := HEL.out; omega))).setCell (p := ⟨D, 4, none⟩) HDW.out (.slice p' n' cap')) HDE.out.1 (.int .i64 o) (.int .i64 q) (.int .i64 g) (.int .i64 r) (.slice p' n' cap'))
      have HZR := Lib.hid (HR'.out.far (w' := set5 (wr.setCell ⟨D, 4, none⟩ (.slice p' n' cap')) E (.int .i64 o) (.int .i64 q) (.int .i64 g) (.int .i64 r) (.slice p' n' cap')) (by simp [set5]) fun g' hg => by
        have h1 := HG'.out g' hg
        have h2 := HDL.out
        have h3 := HEL.out
        exact (set5_far (by omega) _ _ _ _ _).trans (Below.heap_setCell wr ⟨D, 4, none⟩ _ g' (show g' ≠ D by omega)))
      obtain ⟨z, hzz⟩ : ∃ z, set5 (wr.setCell ⟨D, 4, none⟩ (.slice p' n' cap')) E (.int .i64 o) (.int .i64 q) (.int .i64 g) (.int .i64 r) (.slice p' n' cap') = z := ⟨_, rfl⟩
      rw [hzz] at hz HZB HZR ⊢
      have g0 := (cell_blk hz 0).1; have g1 := (cell_blk hz 1).1; have g2 := (cell_blk hz 2).1; have g3 := (cell_blk hz 3).1; have g4 := (cell_blk hz 4).1
      simp at g0 g1 g2 g3 g4
      exact bodyPost_ret (v := .tuple #[bqV o q g r (.slice p' n' cap'), .int .i64 0]) (by simp [results, Tryz.results55, go_sem, g0, g1, g2, g3, g4]) rfl ⟨p', cap', by rw [HN'.out], HZR.out, HZB.out⟩
end Go.Proofs.YtfemgekhpcgliaaGreat.Bt
/- The document's Runs of a buddy, walked. -/
namespace Go.Proofs.YtfemgekhpcgliaaGreat.Bt
open Go Go.RowKit Go.Shelf
set_option linter.unusedVariables false
set_option linter.unusedSimpArgs false
theorem own_lt {W : World} {base : Nat} {e : TypeId} {size : Nat} {v : Value} {n : Nat} {xs : List Value} (h : W.ownsRow base e size v n xs) {T : Nat} (hT : W.heap.size ≤ T) : some T ≠ v.ownBlock := by
  rcases h.2 with ⟨rfl, _⟩ | ⟨g, cap, cur, rfl, _, hg, _⟩
  · simp [Value.ownBlock]
  · intro q
    have : T = g := by simpa [Value.ownBlock] using q
    subst this
    have := (Array.getElem?_eq_some_iff.1 hg).1
    omega
/-- what stands behind the loop: the boxed buddy, the free pages, the taken runs -/
structure RC (D Fb g : Nat) (qc : Array Value) (p : Option Addr) (L : List (Nat × Nat × Bool)) (x : World) : Prop where
  d : x.heap[D]? = some (.cells qc 33 (0, 0))
  f : BolAt Fb g (freeF L) x
  r : RnAt x p L
theorem RC.below {D Fb g : Nat} {qc : Array Value} {p : Option Addr} {L : List (Nat × Nat × Bool)} {x y : World} (h : RC D Fb g qc p L x) (hb : Below x.heap.size x y) : RC D Fb g qc p L y :=
  ⟨(hb.block _ (Array.getElem?_eq_some_iff.1 h.d).1).trans h.d, h.f.below hb, h.r.below hb⟩
def RunsP (L : List (Nat × Nat × Bool)) (w : World) (e : Ending) (w' : World) : Prop :=
  ∃ p cap, e = .returned (.slice p L.length cap) ∧ RnAt w' p L ∧ (∀ j, p = some ⟨j, 0, none⟩ → w.heap.size ≤ j) ∧ Below w.heap.size w w'
def muT (T : Nat) (x : World) : Nat := match x.cell? ⟨T, 1, none⟩ with
  | some (.int _ v) => 10 - v.toNat
  | _ => 0
set_option maxHeartbeats 16000000 in
set_option maxRecDepth 100000 in
theorem bruns_any (o q r : Int) (g : Nat) (hg : g ≤ 80) (p : Option Addr) (tc : Nat) (R : Runs) (hR : Til g R g) (w : World) (h : RnAt w p (tkT R g)) :
    Calls Tryz.prog 20 #[bqV o q (g : Int) r (.slice p (tkT R g).length tc)] w (RunsP (runL R g) w) := by
  obtain ⟨i0, hi0, hz0, hz1, hz2⟩ := info_parts Tryz.infoRn
  have HI := Lib.hid hi0; have HZ0 := Lib.hid hz0; have HZ1 := Lib.hid hz1; have HZ2 := Lib.hid hz2
  clear hi0 hz0 hz1 hz2
  have HL : Hid ((tkT R g).length ≤ 80) := Lib.hid (Nat.le_trans (tkT_len R g) hg)
  have HFR := Lib.hid fun X (hX : RnAt X p (tkT R g)) => bfree_any o q r g (by omega) p tc (tkT R g) (by have := HL.out; omega) (fun j hj => tkT_fit hR hj) X hX
  have HT := Lib.hid hR
  have H := Lib.hid h
  have HCA := Lib.hid fun i k t (e : R i = some (k, t)) => curR_all hR e
  have HFI := Lib.hid fun p => freeF_iff hR p
  have HTM : Hid (∀ j, j < (tkT R g).length → ((tkT R g).getD j r0).2.2 = true ∧ R ((tkT R g).getD j r0).1 = some (((tkT R g).getD j r0).2.1, true)) := Lib.hid fun j hj => by
    have := tkT_mem.1 (getD_mem hj)
    exact ⟨this.1, this.2.2⟩
  obtain ⟨L, hLL⟩ : ∃ L, tkT R g = L := ⟨_, rfl⟩
  obtain ⟨m, hm⟩ : ∃ m, L.length = m := ⟨_, rfl⟩
  rw [hLL] at HL HFR H HCA HFI HTM ⊢
  have HM := Lib.hid hm
  rw [hm] at HFR ⊢
  have hm80 : m ≤ 80 := by have := HL.out; omega
  clear h hR hLL hm
  have hb0 := (Below.refl w.heap.size w).alloc (Nat.le_refl _) (.cells #[.int .i64 o, .int .i64 q, .int .i64 (g : Int), .int .i64 r, .slice p m tc] 33)
  have hd0 := heap_new w (.cells #[.int .i64 o, .int .i64 q, .int .i64 (g : Int), .int .i64 r, .slice p m tc] 33)
  have HB0 := Lib.hid hb0; have HD0 := Lib.hid hd0
  clear hb0 hd0
  go_enter Tryz.func20, Tryz.ntmps20
  go_wp2_with fail
  refine (HFR.out _ (H.out.below HB0.out)).mono ?_
  rintro e w1 ⟨Fb, rfl, hf, hfl, hb⟩
  have HC1 : Hid (RC w.heap.size Fb g #[.int .i64 o, .int .i64 q, .int .i64 (g : Int), .int .i64 r, .slice p m tc] p L w1) := Lib.hid ⟨(hb.block _ (Array.getElem?_eq_some_iff.1 HD0.out).1).trans HD0.out, hf, (H.out.below HB0.out).below hb⟩
  have HB1 := Lib.hid (HB0.out.trans (hb.mono HB0.out.size))
  obtain ⟨D, hD⟩ : ∃ D, w.heap.size = D := ⟨_, rfl⟩
  rw [hD] at HC1
  rw [hD]
  obtain ⟨b0, hb0⟩ : ∃ b0, w1.heap.size = b0 := ⟨_, rfl⟩
  have HBW : Hid (w.heap.size ≤ b0 ∧ b0 = w1.heap.size) := Lib.hid ⟨by rw [← hb0]; exact HB1.out.size, hb0.symm⟩
  have HR0 : Hid (w1.ownsRow b0 51 3 (.slice none 0 0) (runL R 0).length (rnL (runL R 0)) ∧ Below b0 w1 w1) := Lib.hid ⟨World.ownsRow_nil _ _ _ _, by rw [← hb0]; exact Below.refl _ _⟩
  clear hf hfl hb hD hb0 HFR HB0 HD0 H
  go_wp2_with fail
  go_loopw [4, 5] (fun v s5 wr => ∃ i : Nat, i ≤ g ∧ s5 = .int .i64 (i : Int) ∧ Hid (i = 0 ∨ ∃ j k t, R j = some (k, t) ∧ j + 2 ^ k = i) ∧ Hid (wr.ownsRow b0 51 3 v (runL R i).length (rnL (runL R i)) ∧ Below b0 w1 wr)) (fun _ s5 _ => g - (intOf s5).toNat)
  case atStart => exact ⟨0, Nat.zero_le _, rfl, Lib.hid (.inl rfl), HR0⟩
  case round =>
    clear HR0
    obtain ⟨i, hig, rfl, HBG, HRW⟩ := hrel
    have HB1r : Hid (Below w1.heap.size w1 wr) := Lib.hid (by rw [← HBW.out.2]; exact HRW.out.2)
    have hc := HC1.out.below HB1r.out
    have HC := Lib.hid hc
    have d2 := (cell_blk hc.d 2).1; have d4 := (cell_blk hc.d 4).1
    simp at d2 d4
    clear hc
    by_cases hlt : i < g
    · have hlt2 : (i : Int) < (g : Int) := by omega
      obtain ⟨k, t, hRi⟩ := HT.out.toTile.begins hlt HBG.out
      have HRI := Lib.hid hRi
      have hal := HT.out.al _ _ _ hRi
      have HAL := Lib.hid hal
      have HCA2 := Lib.hid (HCA.out i k t hRi)
      clear hRi hal HBG
      go_upto_region 6 with fail
      obtain ⟨z, hz⟩ : ∃ z, wr.alloc (.cells #[.int .i64 (i : Int), .int .i64 0, .bool false] 51) = z := ⟨_, rfl⟩
      have HT0 : Hid (RnV wr.heap.size (curR L i k 0) (wr.alloc (.cells #[.int .i64 (i : Int), .int .i64 0, .bool false] 51))) := Lib.hid (by rw [curR_zero]; exact heap_new wr (.cells #[.int .i64 (i : Int), .int .i64 0, .bool false] 51))
      have HBZ : Hid (Below wr.heap.size wr (wr.alloc (.cells #[.int .i64 (i : Int), .int .i64 0, .bool false] 51))) := Lib.hid (bel1 wr _)
      rw [hz] at HT0 HBZ ⊢
      obtain ⟨T, hTT⟩ : ∃ T, wr.heap.size = T := ⟨_, rfl⟩
      have HTS : Hid (wr.heap.size ≤ T) := Lib.hid (by omega)
      have hcz := HC.out.below HBZ.out
      rw [hTT] at HT0 ⊢
      clear hz hTT d2 d4
      have d4 := (cell_blk hcz.d 4).1
      simp at d4
      clear hcz
      go_wp2_with fail
      obtain ⟨wo, rfl⟩ : ∃ wo, wo = wr := ⟨_, rfl⟩
      go_loopw [20] (fun s20 x => ∃ j : Nat, j ≤ m ∧ s20 = .int .i64 (j : Int) ∧ Hid (RnV T (curR L i k j) x) ∧ Hid (Below wo.heap.size wo x)) (fun s20 _ => m - (intOf s20).toNat)
      case atStart => exact ⟨0, Nat.zero_le _, rfl, HT0, HBZ⟩
      case round =>
        clear HT0 HBZ d4
        obtain ⟨j, hj, rfl, HTX, HBX⟩ := hrel
        by_cases hjm : j < m
        · have hjm2 : (j : Int) < (m : Int) := by omega
          have hjL : j < L.length := by rw [HM.out]; exact hjm
          rcases (HC.out.below HBX.out).r with e | ⟨gb, rfl, hgl, hcc⟩
          · rw [e] at hjL; simp at hjL
          obtain ⟨q0, q1, q2⟩ := hcc j hjL
          obtain ⟨y, hy⟩ : ∃ y, L.getD j r0 = y := ⟨_, rfl⟩
          obtain ⟨y1, y2, y3⟩ := y
          have HY := Lib.hid hy
          rw [hy] at q0 q1 q2
          simp only at q0 q1 q2
          have HTMj := Lib.hid (HTM.out j hjL)
          clear hcc hjL hgl hy
          go_upto_region 9 with fail
          have HX8 : Hid (RnV wr.heap.size (y1, y2, y3) (wr.alloc (.cells #[.int .i64 (y1 : Int), .int .i64 (y2 : Int), .bool y3] 51))) := Lib.hid (heap_new wr _)
          have HT8 := Lib.hid (HTX.out.below (bel1 wr (.cells #[.int .i64 (y1 : Int), .int .i64 (y2 : Int), .bool y3] 51)))
          have HB8 := Lib.hid (HBX.out.alloc HBX.out.size (.cells #[.int .i64 (y1 : Int), .int .i64 (y2 : Int), .bool y3] 51))
          obtain ⟨z2, hz2⟩ : ∃ z, wr.alloc (.cells #[.int .i64 (y1 : Int), .int .i64 (y2 : Int), .bool y3] 51) = z := ⟨_, rfl⟩
          obtain ⟨T8, hT8⟩ : ∃ T8, wr.heap.size = T8 := ⟨_, rfl⟩
          rw [hz2] at HX8 HT8 HB8 ⊢
          rw [hT8] at HX8 ⊢
          clear hz2 hT8 q0 q1 q2
          obtain ⟨x0, x1, x2⟩ := HX8.out.all
          obtain ⟨t0, t1, t2⟩ := HT8.out.all
          obtain ⟨f0, f1, f2⟩ := HT8.out.free
          simp only at x0 x1 x2
          by_cases hya : y1 = i
          · subst hya
            have hyy : (y1, y2, y3) = (y1, k, true) := by
              have h1 := HTMj.out
              rw [HY.out] at h1
              simp only at h1
              have h2 := HRI.out
              rw [h1.2] at h2
              have h3 := (some_of h2).1
              have h4 := h1.1
              rw [h3, h4]
            simp only [Prod.mk.injEq, true_and] at hyy
            obtain ⟨rfl, rfl⟩ := hyy
            have HNX : Hid (RnV T (curR L y1 y2 (j + 1)) (((z2.setCell ⟨T, 0, none⟩ (.int .i64 (y1 : Int))).setCell ⟨T, 1, none⟩ (.int .i64 (y2 : Int))).setCell ⟨T, 2, none⟩ (.bool true))) := Lib.hid (by
              rw [curR_hit (by rw [HY.out])]
              exact HT8.out.set (y1, y2, true))
            have HNB := Lib.hid (set3_below HB8.out HTS.out (.int .i64 (y1 : Int)) (.int .i64 (y2 : Int)) (.bool true))
            go_wp2_with fail
            go_roundw
            case rel => exact ⟨j + 1, by omega, by go_num, HNX, HNB⟩
            case measure => simp [intOf]; omega
          · have hyb : ((y1 : Int) == (i : Int)) = false := by rw [beq_eq_false_iff_ne]; omega
            have hyc : ¬ ((y1 : Int) = (i : Int)) := by omega
            have HNX : Hid (RnV T (curR L i k (j + 1)) z2) := Lib.hid (by rw [curR_miss (by rw [HY.out]; exact hya)]; exact HT8.out)
            clear hya
            go_wp2_with fail
            go_roundw
            case rel => exact ⟨j + 1, by omega, by go_num, HNX, HB8⟩
            case measure => simp [intOf]; omega
        · obtain rfl : j = m := by omega
          have HTX2 : Hid (RnV T (i, if t then k else 0, t) wr) := Lib.hid (by have := HTX.out; rw [← HM.out, HCA2.out] at this; exact this)
          clear HTX
          go_wp2_with fail
          go_loopw [] (fun x => ∃ l : Nat, l ≤ 10 ∧ Hid (RnV T (i, l, t) x) ∧ Hid (Below wo.heap.size wo x) ∧ Hid ((t = true ∧ l = k) ∨ (t = false ∧ l ≤ k))) (fun x => muT T x)
          case atStart => exact ⟨if t then k else 0, by have := HAL.out.1; split <;> omega, HTX2, HBX, Lib.hid (by cases t <;> simp)⟩
          case round =>
            clear HTX2 HBX
            obtain ⟨l, hl10, HTX, HBX, HLK⟩ := hrel
            have HMUT : Hid (muT T wr = 10 - l) := Lib.hid (by unfold muT; rw [HTX.out.all.2.1]; simp)
            obtain ⟨t0, t1, t2⟩ := HTX.out.all
            simp only at t0 t1 t2
            go_upto_region 12 with fail
            go_cut [55] (fun s55 wx => s55 = .bool (decide (t = false ∧ l < k)) ∧ wr = wx)
            case first =>
              as_aux_lemma =>
              rcases HLK.out with ⟨rfl, rfl⟩ | ⟨rfl, hlk⟩
              · have HQ : Hid (decide (true = false ∧ l < l) = false) := Lib.hid (by simp)
                go_wp2_with fail
                go_meet
                exact ⟨by rw [HQ.out], rfl⟩
              · by_cases hl : l < 10
                · have hl2 : (l : Int) < 10 := by omega
                  have HPG := Lib.hid fun X => bpages_any (l + 1) (by omega) X
                  have hl3 : IntKind.i64.wrap ((l : Int) + 1) = ((l + 1 : Nat) : Int) := by rw [IntKind.wrap_i64]; omega
                  have HL3 := Lib.hid hl3
                  clear hl3
                  have hp0 := pow2_pos (l + 1)
                  have hp1 : 2 ^ (l + 1) ≤ 2 ^ 10 := Nat.pow_le_pow_right (by decide) (by omega)
                  have HAB := Lib.hid fun X (hX : BolAt Fb g (freeF L) X) => ball_any Fb g (by omega) (freeF L) i (2 ^ (l + 1)) (by omega) (by omega) X hX
                  have HGM : Hid (l < k → l < 10 ∧ i % 2 ^ (l + 1) = 0 ∧ i + 2 ^ (l + 1) ≤ g ∧ ∀ p, i ≤ p → p < i + 2 ^ (l + 1) → FreeAt R p) := Lib.hid fun h => greedy_more HT.out HRI.out h
                  have HGE : Hid (l = k → ¬ (l < 10 ∧ i % 2 ^ (l + 1) = 0 ∧ i + 2 ^ (l + 1) ≤ g ∧ ∀ p, i ≤ p → p < i + 2 ^ (l + 1) → FreeAt R p)) := Lib.hid fun h => by subst h; exact greedy_end HT.out HRI.out
                  have HF := HC.out.below (HBX.out)
                  have HFF := Lib.hid HF.f
                  clear HF
                  obtain ⟨P, hP⟩ : ∃ P, 2 ^ (l + 1) = P := ⟨_, rfl⟩
                  obtain ⟨l1, hl1⟩ : ∃ l1, l + 1 = l1 := ⟨_, rfl⟩
                  rw [hP] at HPG HAB HGM HGE hp0 hp1
                  rw [hl1] at HPG HL3
                  have hm : Int.tmod (i : Int) (P : Int) = ((i % P : Nat) : Int) := by rw [Int.tmod_eq_emod_of_nonneg (by omega)]; rfl
                  have hP0 : ¬ (P : Int) = 0 := by omega
                  clear hP hl1
                  have hl3 := HL3.out
                  by_cases hz : i % P = 0
                  · have HZ := Lib.hid hz
                    have HEQ : Hid ((decide (i + P ≤ g) && allB (freeF L) i P) = decide (l < k)) := Lib.hid (by
                      by_cases c : l < k
                      · obtain ⟨_, _, g3, g4⟩ := HGM.out c
                        rw [decide_eq_true c, decide_eq_true g3, allB_true (fun j hj => (HFI.out _).2 (g4 (i + j) (by omega) (by omega)))]; rfl
                      · have hkl : l = k := by omega
                        rw [decide_eq_false c]
                        by_cases g3 : i + P ≤ g
                        · rw [decide_eq_true g3, Bool.true_and]
                          have : ∃ j, j < P ∧ freeF L (i + j) = false := by
                            refine Classical.byContradiction fun hno => HGE.out hkl ⟨hl, hz, g3, fun p p1 p2 => (HFI.out p).1 ?_⟩
                            cases e : freeF L p with
                            | true => rfl
                            | false => exact absurd ⟨p - i, by omega, by rw [show i + (p - i) = p from by omega]; exact e⟩ hno
                          obtain ⟨j, hj, e⟩ := this
                          exact allB_false hj e
                        · rw [decide_eq_false g3]; rfl)
                    rw [hz] at hm
                    clear hz
                    go_wp2_with (first
                      | (go_at_call 63; refine (HPG.out _).mono ?_; rintro e w' ⟨rfl, rfl⟩)
                      | (go_at_call 64; refine (HAB.out _ HFF.out).mono ?_; rintro e w' ⟨rfl, rfl⟩))
                    go_meet
                    exact ⟨by rw [HEQ.out]; simp, rfl⟩
                  · have hz2 : ¬ (((i % P : Nat) : Int) = 0) := by omega
                    have HQ : Hid (decide (false = false ∧ l < k) = false) := Lib.hid (by
                      rw [decide_eq_false_iff_not]; intro c; exact hz (HGM.out c.2).2.1)
                    obtain ⟨M, hM⟩ : ∃ M, i % P = M := ⟨_, rfl⟩
                    rw [hM] at hm hz2
                    clear hz hM
                    go_wp2_with (first
                      | (go_at_call 63; refine (HPG.out _).mono ?_; rintro e w' ⟨rfl, rfl⟩)
                      | (go_at_call 64; refine (HAB.out _ HFF.out).mono ?_; rintro e w' ⟨rfl, rfl⟩))
                    go_meet
                    exact ⟨by rw [HQ.out], rfl⟩
                · have hl2 : ¬ (l : Int) < 10 := by omega
                  have HQ : Hid (decide (false = false ∧ l < k) = false) := Lib.hid (by
                    rw [decide_eq_false_iff_not]; have := HAL.out.1; omega)
                  go_wp2_with fail
                  go_meet
                  exact ⟨by rw [HQ.out], rfl⟩
            case rest =>
              obtain ⟨rfl, hww⟩ := hcut
              subst hww
              by_cases c : t = false ∧ l < k
              · have HQ : Hid (decide (t = false ∧ l < k) = true) := Lib.hid (decide_eq_true c)
                rw [HQ.out]
                obtain ⟨f0, f1, f2⟩ := HTX.out.free
                have hlb : l + 1 ≤ 10 := by have := HAL.out.1; omega
                have HNX : Hid (RnV T (i, l + 1, t) (wr.setCell ⟨T, 1, none⟩ (.int .i64 ((l : Int) + 1)))) := Lib.hid (by have := HTX.out.ord (l + 1); rwa [show ((l + 1 : Nat) : Int) = (l : Int) + 1 from by omega] at this)
                have HNB := Lib.hid (HBX.out.setCell (p := ⟨T, 1, none⟩) HTS.out (.int .i64 ((l : Int) + 1)))
                have hl3 : IntKind.i64.wrap ((l : Int) + 1) = (l : Int) + 1 := by rw [IntKind.wrap_i64]; omega
                have HC2 := Lib.hid c
                clear c
                go_wp2_with fail
                refine ⟨⟨l + 1, hlb, HNX, HNB, Lib.hid (.inr ⟨HC2.out.1, HC2.out.2⟩)⟩, ?_⟩
                rw [HMUT.out]
                unfold muT
                rw [HNX.out.all.2.1]
                simp only
                omega
              · have HQ : Hid (decide (t = false ∧ l < k) = false) := Lib.hid (decide_eq_false c)
                rw [HQ.out]
                have hlk : l = k := by rcases HLK.out with ⟨_, q⟩ | ⟨q1, q2⟩; exact q; have : ¬ l < k := fun q => c ⟨q1, q⟩; omega
                subst hlk
                have hrow := ownsRow_bel HRW.out.1 (HBX.out)
                have hrow2 := hrow.alloc (.cells (rnA (i, l, t)) 51)
                have HR2 := Lib.hid hrow2
                have hb2 : Below b0 w1 wr := HRW.out.2.trans (HBX.out.mono (by have := HRW.out.2.size; have := HBW.out; omega))
                have hsz2 : b0 ≤ wr.heap.size := by have := hb2.size; have := HBW.out; omega
                have HB2 := Lib.hid (hb2.alloc hsz2 (.cells (rnA (i, l, t)) 51))
                have HLN : Hid ((runL R i).length ≤ 2000) := Lib.hid (Nat.le_trans (runL_len R i) (by omega))
                have HPG := Lib.hid fun X => bpages_any l hl10 X
                have HSTP := Lib.hid (runL_step HT.out.toTile HRI.out)
                have hal2 := HAL.out.2.2
                have hpos := pow2_pos l
                obtain ⟨P, hP⟩ : ∃ P, 2 ^ l = P := ⟨_, rfl⟩
                have HP := Lib.hid hP
                rw [hP] at HPG HSTP hal2 hpos
                have HE4 : Hid (IntKind.i64.wrap ((i : Int) + (P : Int)) = ((i + P : Nat) : Int)) := Lib.hid (by rw [IntKind.wrap_i64]; omega)
                clear hP
                have HTY := Lib.hid (HTX.out)
                have HTa := Lib.hid (HTX.out.below (bel1 wr (.cells (rnA (i, l, t)) 51)))
                have HNE := Lib.hid (own_lt HRW.out.1 HTS.out)
                obtain ⟨ta0, ta1, ta2⟩ := HTX.out.all
                clear c hrow hb2 HQ
                have hln := HLN.out
                go_wp2_with (at_builtin; refine wpList_append_own _ rfl _ _ 31 rfl b0 51 i0 (.agg #[.int .i64 0, .int .i64 0, .bool false]) 3 24 Tryz.underlying31 HI.out HZ0.out HZ1.out HZ2.out rfl (by decide) _ _ _ rfl hrow2 ⟨_, 0, none⟩ 1 1 (rnC (i, l, t)) rfl rfl (rn_new (i, l, t) _ rfl) (by simp [rnC, Value.oneCell']) (by unfold maxLen; omega) (by omega) (by simp; omega) ?_; intro v' w2 hown' hgrow _; have hhgrow := hgrow.size; simp at hhgrow; have htb := (hgrow.block T HTa.out.lt HNE.out).trans HTa.out; have tb1 := (RnV.all htb).2.1; simp only at tb1; have HTB := Lib.hid htb; clear htb)
                have HBW2 := Lib.hid (rn_grow HR2.out hgrow (by simp; omega) HB2.out)
                have HOW : Hid (w2.ownsRow b0 51 3 v' (runL R (i + P)).length (rnL (runL R (i + P)))) := Lib.hid (by rw [HSTP.out, rnL_append, List.length_append]; simpa [rnL] using hown')
                clear hrow2 hown' hgrow hhgrow
                have e4 := HE4.out
                refine (HPG.out _).mono ?_
                rintro e w' ⟨rfl, rfl⟩
                go_wp2_with fail
                refine ⟨⟨i + P, hal2, rfl, Lib.hid (.inr ⟨i, l, t, HRI.out, by rw [HP.out]⟩), Lib.hid ⟨HOW.out, HBW2.out⟩⟩, by simp [intOf]; omega⟩
    · obtain rfl : i = g := by omega
      obtain ⟨q', cap, hv, hr, hq⟩ := own_rnT HRW.out.1
      subst hv
      have HF : Hid (RnAt wr q' (runL R i) ∧ (∀ j, q' = some ⟨j, 0, none⟩ → w.heap.size ≤ j) ∧ Below w.heap.size w wr) := Lib.hid ⟨hr, fun j hj => Nat.le_trans HBW.out.1 (hq j hj), HB1.out.trans (HB1r.out.mono HB1.out.size)⟩
      clear hr hq
      go_wp2_with fail
      go_ret
      exact ⟨q', cap, rfl, HF.out.1, HF.out.2.1, HF.out.2.2⟩
end Go.Proofs.YtfemgekhpcgliaaGreat.Bt
/- The document's find of a buddy. -/
namespace Go.Proofs.YtfemgekhpcgliaaGreat.Bt
open Go Go.RowKit Go.Shelf
set_option linter.unusedVariables false
set_option linter.unusedSimpArgs false
/-- the best one of the first j runs: the first one of the least order that isn't below o -/
def BI (L : List (Nat × Nat × Bool)) (o j : Nat) (b : Int × Nat) : Prop :=
  (b = (-1, 11) ∧ ∀ m, m < j → (L.getD m r0).2.2 = false → (L.getD m r0).2.1 < o) ∨
  (∃ x k n, n < j ∧ L.getD n r0 = (x, k, false) ∧ b = ((x : Int), k) ∧ o ≤ k ∧ ∀ m, m < j → (L.getD m r0).2.2 = false → o ≤ (L.getD m r0).2.1 → k < (L.getD m r0).2.1 ∨ (k = (L.getD m r0).2.1 ∧ x ≤ (L.getD m r0).1))
theorem BI.zero (L : List (Nat × Nat × Bool)) (o : Nat) : BI L o 0 (-1, 11) := .inl ⟨rfl, fun m h => by omega⟩
theorem getD_sorted {R : Runs} {g m n : Nat} (hn : n < (runL R g).length) (h : m < n) : ((runL R g).getD m r0).1 < ((runL R g).getD n r0).1 := by
  have hs := runL_sorted R g
  rw [List.getD_eq_getElem?_getD, List.getD_eq_getElem?_getD, List.getElem?_eq_getElem hn, List.getElem?_eq_getElem (by omega)]
  exact List.pairwise_iff_getElem.1 hs m n (by omega) hn h
/-- one more: it is the best -/
theorem BI.new {R : Runs} {g o j : Nat} {b : Int × Nat} (h : BI (runL R g) o j b) (hj : j < (runL R g).length) {x k : Nat} (e : (runL R g).getD j r0 = (x, k, false)) (h1 : o ≤ k) (h2 : k < b.2) : BI (runL R g) o (j + 1) ((x : Int), k) := by
  refine .inr ⟨x, k, j, by omega, e, rfl, h1, fun m hm t1 t2 => ?_⟩
  rcases Nat.lt_or_eq_of_le (Nat.le_of_lt_succ hm) with c | c
  · rcases h with ⟨rfl, q⟩ | ⟨x', k', n, q1, q2, rfl, q3, q4⟩
    · have := q m c t1; omega
    · have := q4 m c t1 t2
      simp only at h2
      omega
  · subst c
    rw [e]
    exact .inr ⟨rfl, Nat.le_refl _⟩
/-- one more: it isn't -/
theorem BI.old {R : Runs} {g o j : Nat} {b : Int × Nat} (h : BI (runL R g) o j b) (hj : j < (runL R g).length) {x k : Nat} {t : Bool} (e : (runL R g).getD j r0 = (x, k, t)) (hk : k ≤ 10) (h1 : ¬ (t = false ∧ o ≤ k ∧ k < b.2)) : BI (runL R g) o (j + 1) b := by
  rcases h with ⟨rfl, q⟩ | ⟨x', k', n, q1, q2, rfl, q3, q4⟩
  · refine .inl ⟨rfl, fun m hm t1 => ?_⟩
    rcases Nat.lt_or_eq_of_le (Nat.le_of_lt_succ hm) with c | c
    · exact q m c t1
    · subst c
      rw [e] at t1 ⊢
      simp only at t1 ⊢
      refine Classical.byContradiction fun hc => h1 ⟨t1, by omega, by show k < 11; omega⟩
  · refine .inr ⟨x', k', n, by omega, q2, rfl, q3, fun m hm t1 t2 => ?_⟩
    rcases Nat.lt_or_eq_of_le (Nat.le_of_lt_succ hm) with c | c
    · exact q4 m c t1 t2
    · subst c
      have hs := getD_sorted hj q1
      rw [e] at t1 t2 hs ⊢
      rw [q2] at hs
      simp only at t1 t2 hs ⊢
      have : ¬ k < k' := fun q => h1 ⟨t1, t2, q⟩
      omega
def findV (y : Option (Nat × Nat)) : Int := match y with
  | some (x, _) => (x : Int)
  | none => -1
theorem BI.end {R : Runs} {g o : Nat} {b : Int × Nat} (hR : Til g R g) (h : BI (runL R g) o (runL R g).length b) : ∃ y, b.1 = findV y ∧ Least R g o y := by
  have mem : ∀ i l, R i = some (l, false) → ∃ m, m < (runL R g).length ∧ (runL R g).getD m r0 = (i, l, false) := fun i l e => mem_getD (runL_mem.2 ⟨hR.lt e, e⟩)
  rcases h with ⟨rfl, q⟩ | ⟨x', k', n, q1, q2, rfl, q3, q4⟩
  · refine ⟨none, rfl, fun i l e => ?_⟩
    obtain ⟨m, hm, em⟩ := mem i l e
    have := q m hm (by rw [em])
    rw [em] at this
    exact this
  · refine ⟨some (x', k'), rfl, ?_, q3, fun i l e ho => ?_⟩
    · have := getD_mem q1
      rw [q2] at this
      exact (runL_mem.1 this).2
    · obtain ⟨m, hm, em⟩ := mem i l e
      have := q4 m hm (by rw [em]) (by rw [em]; exact ho)
      rw [em] at this
      exact this
abbrev bsA (b : Int × Nat) : Array Value := #[.int .i64 b.1, .int .i64 (b.2 : Int), .bool false]
def BsV (T : Nat) (b : Int × Nat) (x : World) : Prop := x.heap[T]? = some (.cells (bsA b) 51 (0, 0))
theorem BsV.below {T : Nat} {b : Int × Nat} {x z : World} (h : BsV T b x) (hb : Below x.heap.size x z) : BsV T b z := (hb.block _ (Array.getElem?_eq_some_iff.1 h).1).trans h
theorem BsV.all {T : Nat} {b : Int × Nat} {x : World} (h : BsV T b x) : x.cell? ⟨T, 0, none⟩ = some (.int .i64 b.1) ∧ x.cell? ⟨T, 1, none⟩ = some (.int .i64 (b.2 : Int)) ∧ x.cell? ⟨T, 2, none⟩ = some (.bool false) ∧ x.frozen? ⟨T, 0, none⟩ = false ∧ x.frozen? ⟨T, 1, none⟩ = false ∧ x.frozen? ⟨T, 2, none⟩ = false := by
  refine ⟨?_, ?_, ?_, (cell_blk h 0).2, (cell_blk h 1).2, (cell_blk h 2).2⟩ <;> (rw [(cell_blk h _).1]; rfl)
theorem BsV.set {T : Nat} {b : Int × Nat} {x : World} (h : BsV T b x) (c : Int × Nat) : BsV T c (((x.setCell ⟨T, 0, none⟩ (.int .i64 c.1)).setCell ⟨T, 1, none⟩ (.int .i64 (c.2 : Int))).setCell ⟨T, 2, none⟩ (.bool false)) := three_set h rfl _ _ _
set_option maxHeartbeats 16000000 in
set_option maxRecDepth 100000 in
theorem bfind_any (o q r : Int) (g : Nat) (hg : g ≤ 80) (p : Option Addr) (tc : Nat) (R : Runs) (hR : Til g R g) (od : Nat) (hod : od ≤ 10) (w : World) (h : RnAt w p (tkT R g)) :
    Calls Tryz.prog 104 #[bqV o q (g : Int) r (.slice p (tkT R g).length tc), .int .i64 (od : Int)] w fun e w' => ∃ y, e = .returned (.int .i64 (findV y)) ∧ Least R g od y ∧ Below w.heap.size w w' := by
  have HRU := Lib.hid fun X (hX : RnAt X p (tkT R g)) => bruns_any o q r g hg p tc R hR X hX
  have HT := Lib.hid hR
  have H := Lib.hid h
  obtain ⟨m, hm⟩ : ∃ m, (tkT R g).length = m := ⟨_, rfl⟩
  rw [hm] at HRU ⊢
  have hb0 := (((Below.refl w.heap.size w).alloc (Nat.le_refl _) (.cells #[.int .i64 o, .int .i64 q, .int .i64 (g : Int), .int .i64 r, .slice p m tc] 33)).alloc (by simp) (.cells #[.int .i64 (-1), .int .i64 11, .bool false] 51))
  have ht0 : BsV (w.heap.size + 1) (-1, 11) ((w.alloc (.cells #[.int .i64 o, .int .i64 q, .int .i64 (g : Int), .int .i64 r, .slice p m tc] 33)).alloc (.cells #[.int .i64 (-1), .int .i64 11, .bool false] 51)) := heap_old2 w _ _
  have HB0 := Lib.hid hb0; have HT0 := Lib.hid ht0
  clear h hR hm hb0 ht0
  go_enter Tryz.func104, Tryz.ntmps104
  go_wp2_with fail
  refine (HRU.out _ (H.out.below HB0.out)).mono ?_
  rintro e w1 ⟨u, cap, rfl, hru, huf, hb⟩
  have HT1 := Lib.hid (HT0.out.below hb)
  have HB1 := Lib.hid (HB0.out.trans (hb.mono HB0.out.size))
  have HRU1 := Lib.hid hru
  obtain ⟨T, hTT⟩ : ∃ T, w.heap.size + 1 = T := ⟨_, rfl⟩
  have HTS : Hid (w.heap.size ≤ T) := Lib.hid (by omega)
  have HUT : Hid (∀ j, u = some ⟨j, 0, none⟩ → j ≠ T) := Lib.hid fun j hj => by have := huf j hj; simp at this; omega
  rw [hTT] at HT1 ⊢
  obtain ⟨nl, hnl⟩ : ∃ nl, (runL R g).length = nl := ⟨_, rfl⟩
  have HNL := Lib.hid hnl
  have hnl80 : nl ≤ 80 := by have := runL_len R g; omega
  have HAL : Hid (∀ j, j < nl → ((runL R g).getD j r0).2.1 ≤ 10) := Lib.hid fun j hj => by
    have := runL_mem.1 (getD_mem (L := runL R g) (by rw [hnl]; exact hj))
    exact (HT.out.al _ _ _ this.2).1
  have HS : Hid (BI (runL R g) od 0 (-1, 11)) := Lib.hid (BI.zero _ _)
  have HWW : Hid (Below w1.heap.size w1 w1) := Lib.hid (Below.refl _ _)
  rw [hnl]
  clear hru huf hb hTT hnl HRU HB0 HT0
  go_wp2_with fail
  go_loopw [12] (fun s12 x => ∃ (j : Nat) (b : Int × Nat), j ≤ nl ∧ s12 = .int .i64 (j : Int) ∧ Hid (BI (runL R g) od j b) ∧ Hid (BsV T b x) ∧ Hid (RnAt x u (runL R g)) ∧ Hid (Below w.heap.size w x)) (fun s12 _ => nl - (intOf s12).toNat)
  case atStart => exact ⟨0, _, Nat.zero_le _, rfl, HS, HT1, HRU1, HB1⟩
  case round =>
    clear HS HT1 HRU1 HB1
    obtain ⟨j, b, hj, rfl, HS, HTX, HRX, HBX⟩ := hrel
    by_cases hjn : j < nl
    · have hjn2 : (j : Int) < (nl : Int) := by omega
      have hjL : j < (runL R g).length := by rw [HNL.out]; exact hjn
      rcases HRX.out with e | ⟨gb, rfl, hgl, hcc⟩
      · rw [e] at hjL; simp at hjL
      obtain ⟨q0, q1, q2⟩ := hcc j hjL
      obtain ⟨y, hy⟩ : ∃ y, (runL R g).getD j r0 = y := ⟨_, rfl⟩
      have hk10 := HAL.out j hjn
      obtain ⟨y1, y2, y3⟩ := y
      have HY := Lib.hid hy
      rw [hy] at q0 q1 q2 hk10
      simp only at q0 q1 q2 hk10
      have HJL := Lib.hid hjL
      have HGB : Hid (gb ≠ T) := Lib.hid (HUT.out gb rfl)
      clear hcc hjL hgl hy
      go_upto_region 5 with fail
      have HX8 : Hid (RnV wr.heap.size (y1, y2, y3) (wr.alloc (.cells #[.int .i64 (y1 : Int), .int .i64 (y2 : Int), .bool y3] 51))) := Lib.hid (heap_new wr _)
      have HT8 := Lib.hid (HTX.out.below (bel1 wr (.cells #[.int .i64 (y1 : Int), .int .i64 (y2 : Int), .bool y3] 51)))
      have HR8 := Lib.hid (HRX.out.below (bel1 wr (.cells #[.int .i64 (y1 : Int), .int .i64 (y2 : Int), .bool y3] 51)))
      have HB8 := Lib.hid (HBX.out.alloc HBX.out.size (.cells #[.int .i64 (y1 : Int), .int .i64 (y2 : Int), .bool y3] 51))
      obtain ⟨z2, hz2⟩ : ∃ z, wr.alloc (.cells #[.int .i64 (y1 : Int), .int .i64 (y2 : Int), .bool y3] 51) = z := ⟨_, rfl⟩
      obtain ⟨T8, hT8⟩ : ∃ T8, wr.heap.size = T8 := ⟨_, rfl⟩
      rw [hz2] at HX8 HT8 HB8 HR8 ⊢
      rw [hT8] at HX8 ⊢
      clear hz2 hT8 q0 q1 q2
      obtain ⟨x0, x1, x2⟩ := HX8.out.all
      obtain ⟨t0, t1, t2, f0, f1, f2⟩ := HT8.out.all
      simp only at x0 x1 x2
      obtain ⟨b1, b2⟩ := b
      simp only at t0 t1
      by_cases c : y3 = false ∧ od ≤ y2 ∧ y2 < b2
      · obtain ⟨rfl, c1, c2⟩ := c
        have HN : Hid (BI (runL R g) od (j + 1) ((y1 : Int), y2)) := Lib.hid (HS.out.new HJL.out HY.out c1 c2)
        have HNT : Hid (BsV T ((y1 : Int), y2) (((z2.setCell ⟨T, 0, none⟩ (.int .i64 (y1 : Int))).setCell ⟨T, 1, none⟩ (.int .i64 (y2 : Int))).setCell ⟨T, 2, none⟩ (.bool false))) := Lib.hid (HT8.out.set ((y1 : Int), y2))
        have HNB := Lib.hid (set3_below HB8.out HTS.out (.int .i64 (y1 : Int)) (.int .i64 (y2 : Int)) (.bool false))
        have HNR := Lib.hid (HR8.out.far (w' := ((z2.setCell ⟨T, 0, none⟩ (.int .i64 (y1 : Int))).setCell ⟨T, 1, none⟩ (.int .i64 (y2 : Int))).setCell ⟨T, 2, none⟩ (.bool false)) (by simp [World.setCell]) fun g' hg' => by
          have : g' ≠ T := HUT.out g' hg'
          exact (Below.heap_setCell _ ⟨T, 2, none⟩ _ _ this).trans ((Below.heap_setCell _ ⟨T, 1, none⟩ _ _ this).trans (Below.heap_setCell _ ⟨T, 0, none⟩ _ _ this)))
        have d1 : ¬ ((y2 : Int) < (od : Int)) := by omega
        have d2 : ((y2 : Int) < (b2 : Int)) := by omega
        clear c1 c2
        go_wp2_with fail
        go_roundw
        case rel => exact ⟨j + 1, _, by omega, by go_num, HN, HNT, HNR, HNB⟩
        case measure => simp [intOf]; omega
      · have HN : Hid (BI (runL R g) od (j + 1) (b1, b2)) := Lib.hid (HS.out.old HJL.out HY.out hk10 c)
        have HD : Hid (y3 = true ∨ (y3 = false ∧ ((y2 : Int) < (od : Int))) ∨ (y3 = false ∧ ¬ ((y2 : Int) < (od : Int)) ∧ ¬ ((y2 : Int) < (b2 : Int)))) := Lib.hid (by
          cases y3 with
          | true => exact .inl rfl
          | false =>
            by_cases q : (y2 : Int) < (od : Int)
            · exact .inr (.inl ⟨rfl, q⟩)
            · exact .inr (.inr ⟨rfl, q, fun q2 => c ⟨rfl, by omega, by omega⟩⟩))
        clear c
        rcases HD.out with rfl | ⟨rfl, d1⟩ | ⟨rfl, d1, d2⟩
        all_goals
          go_wp2_with fail
          go_roundw
          case rel => exact ⟨j + 1, _, by omega, by go_num, HN, HT8, HR8, HB8⟩
          case measure => simp [intOf]; omega
    · obtain rfl : j = nl := by omega
      have hs := HS.out
      rw [← HNL.out] at hs
      obtain ⟨y, hy, hl⟩ := BI.end HT.out hs
      obtain ⟨t0, t1, t2, f0, f1, f2⟩ := HTX.out.all
      have HF := Lib.hid hl
      rw [hy] at t0
      clear hs hl hy
      go_wp2_with fail
      go_ret
      exact ⟨y, rfl, HF.out, HBX.out⟩
end Go.Proofs.YtfemgekhpcgliaaGreat.Bt
/- The document's Shrink of a buddy. -/
namespace Go.Proofs.YtfemgekhpcgliaaGreat.Bt
open Go Go.RowKit Go.Shelf
set_option linter.unusedVariables false
set_option linter.unusedSimpArgs false
theorem tkT_same {R R1 : Runs} {g g1 x y : Nat} (h : Til g R x) (h1 : Til g1 R1 y) (t : TkSame R R1) : tkT R1 g1 = tkT R g := by
  unfold tkT
  rw [tkL_same (S := R) (f := g) fun i k => ⟨fun q => ⟨h.lt ((t i k).1 q.2), (t i k).1 q.2⟩, fun q => ⟨h1.lt ((t i k).2 q.2), (t i k).2 q.2⟩⟩]
def muD (D : Nat) (x : World) : Nat := match x.cell? ⟨D, 2, none⟩ with
  | some (.int _ v) => v.toNat
  | _ => 0
abbrev bqA (o q g r : Int) (T : Value) : Array Value := #[.int .i64 o, .int .i64 q, .int .i64 g, .int .i64 r, T]
def BqAt (D : Nat) (o q g r : Int) (T : Value) (x : World) : Prop := x.heap[D]? = some (.cells (bqA o q g r T) 33 (0, 0))
theorem BqAt.below {D : Nat} {o q g r : Int} {T : Value} {x y : World} (h : BqAt D o q g r T x) (hb : Below x.heap.size x y) : BqAt D o q g r T y := (hb.block _ (Array.getElem?_eq_some_iff.1 h).1).trans h
theorem BqAt.lt {D : Nat} {o q g r : Int} {T : Value} {x : World} (h : BqAt D o q g r T x) : D < x.heap.size := (Array.getElem?_eq_some_iff.1 h).1
theorem BqAt.all {D : Nat} {o q g r : Int} {T : Value} {x : World} (h : BqAt D o q g r T x) :
    x.cell? ⟨D, 0, none⟩ = some (.int .i64 o) ∧ x.cell? ⟨D, 1, none⟩ = some (.int .i64 q) ∧ x.cell? ⟨D, 2, none⟩ = some (.int .i64 g) ∧ x.cell? ⟨D, 3, none⟩ = some (.int .i64 r) ∧ x.cell? ⟨D, 4, none⟩ = some T := by
  refine ⟨?_, ?_, ?_, ?_, ?_⟩ <;> (rw [(cell_blk h _).1]; rfl)
theorem BqAt.free {D : Nat} {o q g r : Int} {T : Value} {x : World} (h : BqAt D o q g r T x) :
    x.frozen? ⟨D, 0, none⟩ = false ∧ x.frozen? ⟨D, 1, none⟩ = false ∧ x.frozen? ⟨D, 2, none⟩ = false ∧ x.frozen? ⟨D, 3, none⟩ = false ∧ x.frozen? ⟨D, 4, none⟩ = false :=
  ⟨(cell_blk h 0).2, (cell_blk h 1).2, (cell_blk h 2).2, (cell_blk h 3).2, (cell_blk h 4).2⟩
theorem BqAt.grow {D : Nat} {o q g r : Int} {T : Value} {x : World} (h : BqAt D o q g r T x) (e : Int) : BqAt D o q e r T (x.setCell ⟨D, 2, none⟩ (.int .i64 e)) := heap_set (o := 2) h (.int .i64 e)
theorem BqAt.far {D E : Nat} {o q g r : Int} {T : Value} {x : World} (h : BqAt D o q g r T x) (hne : D ≠ E) (k : Nat) (v : Value) : BqAt D o q g r T (x.setCell ⟨E, k, none⟩ v) := (Below.heap_setCell _ ⟨E, k, none⟩ _ _ hne).trans h
theorem RnAt.set1 {x : World} {u : Option Addr} {L : List (Nat × Nat × Bool)} (h : RnAt x u L) {E : Nat} (hne : ∀ j, u = some ⟨j, 0, none⟩ → j ≠ E) (k : Nat) (v : Value) : RnAt (x.setCell ⟨E, k, none⟩ v) u L :=
  h.far (by simp [World.setCell]) fun g hg => Below.heap_setCell _ ⟨E, k, none⟩ _ _ (hne g hg)
/-- a loop's state -/
structure SK (D E : Nat) (o q r : Int) (p : Option Addr) (m tc : Nat) (R0 : Runs) (g0 : Nat) (w : World) (e1 : Nat) (R : Runs) (v : Value) (x : World) : Prop where
  d : BqAt D o q (e1 : Int) r (.slice p m tc) x
  e : BqAt E 0 0 0 0 (.slice none 0 0) x
  r : RnAt x p (tkT R0 g0)
  ti : Til e1 R e1
  tk : TkSame R0 R
  le : e1 ≤ g0
  be : Below w.heap.size w x
  v : ∃ u cap, v = .slice u (runL R e1).length cap ∧ RnAt x u (runL R e1) ∧ (∀ j, u = some ⟨j, 0, none⟩ → E < j)
set_option maxHeartbeats 16000000 in
set_option maxRecDepth 100000 in
theorem bshr_any (o q r : Int) (g : Nat) (hg : g ≤ 80) (p : Option Addr) (tc : Nat) (R : Runs) (hR : Til g R g) (w : World) (h : RnAt w p (tkT R g)) :
    Calls Tryz.prog 59 #[bqV o q (g : Int) r (.slice p (tkT R g).length tc)] w fun e w' => ∃ e1 : Nat, EndT R e1 ∧ e1 ≤ g ∧ e = .returned (.tuple #[bqV o q (e1 : Int) r (.slice p (tkT R g).length tc), .int .i64 ((g : Int) - (e1 : Int))]) ∧ Below w.heap.size w w' := by
  have HRU : Hid (∀ (e1 : Nat) (R1 : Runs) (X : World), e1 ≤ g → Til e1 R1 e1 → TkSame R R1 → RnAt X p (tkT R g) → Calls Tryz.prog 20 #[bqV o q (e1 : Int) r (.slice p (tkT R g).length tc)] X (RunsP (runL R1 e1) X)) := Lib.hid fun e1 R1 X h1 h2 h3 h4 => by
    have e := tkT_same hR h2 h3
    have := bruns_any o q r e1 (by omega) p tc R1 h2 X (by rw [e]; exact h4)
    rw [e] at this
    exact this
  obtain ⟨m, hm⟩ : ∃ m, (tkT R g).length = m := ⟨_, rfl⟩
  rw [hm] at HRU ⊢
  have hb0 := ((Below.refl w.heap.size w).alloc (Nat.le_refl _) (.cells (bqA o q (g : Int) r (.slice p m tc)) 33)).alloc (by simp) (.cells (bqA 0 0 0 0 (.slice none 0 0)) 33)
  have hd0 : BqAt w.heap.size o q (g : Int) r (.slice p m tc) ((w.alloc (.cells (bqA o q (g : Int) r (.slice p m tc)) 33)).alloc (.cells (bqA 0 0 0 0 (.slice none 0 0)) 33)) := (pairs_new w _ _ _ _).1
  have he0 : BqAt (w.heap.size + 1) 0 0 0 0 (.slice none 0 0) ((w.alloc (.cells (bqA o q (g : Int) r (.slice p m tc)) 33)).alloc (.cells (bqA 0 0 0 0 (.slice none 0 0)) 33)) := (pairs_new w _ _ _ _).2
  have HB0 := Lib.hid hb0; have HD0 := Lib.hid hd0; have HE0 := Lib.hid he0
  have HT := Lib.hid hR
  have H := Lib.hid (h.below hb0)
  obtain ⟨D, hD⟩ : ∃ D, w.heap.size = D := ⟨_, rfl⟩
  obtain ⟨E, hE⟩ : ∃ E, w.heap.size + 1 = E := ⟨_, rfl⟩
  have HDE : Hid (D ≠ E ∧ w.heap.size ≤ D ∧ w.heap.size ≤ E) := Lib.hid (by omega)
  have HEE : Hid (E < ((w.alloc (.cells (bqA o q (g : Int) r (.slice p m tc)) 33)).alloc (.cells (bqA 0 0 0 0 (.slice none 0 0)) 33)).heap.size) := Lib.hid (by simp; omega)
  have HPW : Hid (∀ j, p = some ⟨j, 0, none⟩ → (tkT R g) = [] ∨ j < w.heap.size) := Lib.hid fun j hj => by
    rcases h with e | ⟨gb, e, hl, _⟩
    · exact .inl e
    · rw [hj] at e; simp at e; exact .inr (by omega)
  rw [hD] at HD0; rw [hE] at HE0
  clear h hR hm hb0 hd0 he0
  go_enter Tryz.func59, Tryz.ntmps59
  go_upto_region 1 with fail
  obtain ⟨y, hy⟩ : ∃ y, (w.alloc (.cells (bqA o q (g : Int) r (.slice p m tc)) 33)).alloc (.cells (bqA 0 0 0 0 (.slice none 0 0)) 33) = y := ⟨_, rfl⟩
  rw [hy] at HB0 HD0 HE0 H HEE ⊢
  try rw [hE]
  try rw [hD]
  try rw [show D + 1 = E from by omega]
  obtain ⟨d0, d1, d2, d3, d4⟩ := HD0.out.all
  clear hy hE hD
  go_wp2_with fail
  refine (HRU.out g R y (Nat.le_refl _) HT.out (TkSame.refl _) H.out).mono ?_
  rintro e w1 ⟨u, cap, rfl, hru, huf, hb⟩
  have HK : Hid (SK D E o q r p m tc R g w g R (.slice u (runL R g).length cap) w1) := Lib.hid ⟨HD0.out.below hb, HE0.out.below hb, H.out.below hb, HT.out, TkSame.refl _, Nat.le_refl _, HB0.out.trans (hb.mono HB0.out.size), u, cap, rfl, hru, fun j hj => Nat.lt_of_lt_of_le HEE.out (huf j hj)⟩
  clear hru huf hb d0 d1 d2 d3 d4 HB0 HD0 HE0 H
  go_wp2_with fail
  go_loopw [5] (fun v x => ∃ (e1 : Nat) (R1 : Runs), Hid (SK D E o q r p m tc R g w e1 R1 v x)) (fun _ x => muD D x)
  case atStart => exact ⟨g, R, HK⟩
  case round =>
    clear HK
    obtain ⟨e1, R1, HK⟩ := hrel
    obtain ⟨u, cap, hv, hru, huf⟩ := HK.out.v
    subst hv
    have HRU1 := Lib.hid hru
    have HUF := Lib.hid huf
    obtain ⟨d0, d1, d2, d3, d4⟩ := HK.out.d.all
    obtain ⟨k0, k1, k2, k3, k4⟩ := HK.out.d.free
    have HMU : Hid (muD D wr = e1) := Lib.hid (by unfold muD; rw [d2]; simp)
    have hle := HK.out.le
    have hsub : IntKind.i64.wrap ((g : Int) - (e1 : Int)) = (g : Int) - (e1 : Int) := by rw [IntKind.wrap_i64]; omega
    have HSUB := Lib.hid hsub
    clear hru huf hsub
    by_cases h0 : e1 = 0
    · subst h0
      have HE : Hid (EndT R 0) := Lib.hid (EndT.same ⟨fun i k q => by have := (HK.out.ti.al _ _ _ q).2.2; omega, .inl rfl⟩ HK.out.tk)
      rw [show (runL R1 0).length = 0 from rfl]
      obtain ⟨e0, e1', e2, e3, e4⟩ := HK.out.e.all
      obtain ⟨f0, f1, f2, f3, f4⟩ := HK.out.e.free
      have hDE := HDE.out.1
      have hsub := HSUB.out
      go_wp2_with fail
      go_region
      go_wp2_with fail
      change bodyPost _ _ _ _ _ (set5 wr E (.int .i64 o) (.int .i64 q) (.int .i64 0) (.int .i64 r) (.slice p m tc)).drew
      have hz : BqAt E o q 0 r (.slice p m tc) (set5 wr E (.int .i64 o) (.int .i64 q) (.int .i64 0) (.int .i64 r) (.slice p m tc)).drew := set5_at HK.out.e (.int .i64 o) (.int .i64 q) (.int .i64 0) (.int .i64 r) (.slice p m tc)
      have HZB := Lib.hid (set5_below HK.out.be HDE.out.2.2 (.int .i64 o) (.int .i64 q) (.int .i64 0) (.int .i64 r) (.slice p m tc)).drew
      obtain ⟨z, hzz⟩ : ∃ z, (set5 wr E (.int .i64 o) (.int .i64 q) (.int .i64 0) (.int .i64 r) (.slice p m tc)).drew = z := ⟨_, rfl⟩
      rw [hzz] at hz HZB ⊢
      clear hzz
      obtain ⟨g0, g1, g2, g3, g4⟩ := hz.all
      exact bodyPost_ret (v := .tuple #[bqV o q 0 r (.slice p m tc), .int .i64 (g : Int)]) (by simp [results, Tryz.results59, go_sem, g0, g1, g2, g3, g4]) rfl ⟨_, HE.out, by omega, by simp, HZB.out⟩
    · obtain ⟨x, k, t, hx, hxg, hxl⟩ := HK.out.ti.toTile.last (by omega)
      have hst := runL_step HK.out.ti.toTile hx
      rw [hxg] at hst
      obtain ⟨nx, hnx⟩ : ∃ nx, (runL R1 x).length = nx := ⟨_, rfl⟩
      have hlen : (runL R1 e1).length = nx + 1 := by rw [hst, List.length_append, hnx]; rfl
      have hget : (runL R1 e1).getD nx r0 = (x, k, t) := by rw [hst, List.getD_eq_getElem?_getD, List.getElem?_append_right (by omega), hnx]; simp
      rcases HRU1.out with e | ⟨ub, rfl, hub, hcc⟩
      · rw [e] at hlen; simp at hlen
      obtain ⟨q0, q1, q2⟩ := hcc nx (by omega)
      rw [hget] at q0 q1 q2
      simp only at q0 q1 q2
      have hn80 : nx + 1 ≤ 80 := by have := runL_len R1 e1; omega
      obtain ⟨nl, hnl⟩ : ∃ nl, nx + 1 = nl := ⟨_, rfl⟩
      rw [hlen, hnl]
      have hs : IntKind.i64.wrap ((nl : Int) - 1) = (nx : Int) := by rw [IntKind.wrap_i64]; omega
      have hpos : (0 : Int) < (nl : Int) := by omega
      have hlt : (nx : Int) < (nl : Int) := by omega
      have HX := Lib.hid (And.intro hx (And.intro hxg hxl))
      clear hst hlen hget hcc hnl hn80 hnx hx hxg h0
      cases t with
      | true =>
        have HE : Hid (EndT R e1) := Lib.hid (EndT.same ⟨fun i k q => by have := (HK.out.ti.al _ _ _ q).2.2; omega, .inr ⟨x, k, HX.out.1, HX.out.2.1⟩⟩ HK.out.tk)
        obtain ⟨e0, e1', e2, e3, e4⟩ := HK.out.e.all
        obtain ⟨f0, f1, f2, f3, f4⟩ := HK.out.e.free
        have hDE := HDE.out.1
        have hsub := HSUB.out
        go_wp2_with fail
        go_region
        go_wp2_with fail
        change bodyPost _ _ _ _ _ (set5 wr E (.int .i64 o) (.int .i64 q) (.int .i64 (e1 : Int)) (.int .i64 r) (.slice p m tc)).drew
        have hz : BqAt E o q (e1 : Int) r (.slice p m tc) (set5 wr E (.int .i64 o) (.int .i64 q) (.int .i64 (e1 : Int)) (.int .i64 r) (.slice p m tc)).drew := set5_at HK.out.e (.int .i64 o) (.int .i64 q) (.int .i64 (e1 : Int)) (.int .i64 r) (.slice p m tc)
        have HZB := Lib.hid (set5_below HK.out.be HDE.out.2.2 (.int .i64 o) (.int .i64 q) (.int .i64 (e1 : Int)) (.int .i64 r) (.slice p m tc)).drew
        obtain ⟨z, hzz⟩ : ∃ z, (set5 wr E (.int .i64 o) (.int .i64 q) (.int .i64 (e1 : Int)) (.int .i64 r) (.slice p m tc)).drew = z := ⟨_, rfl⟩
        rw [hzz] at hz HZB ⊢
        clear hzz
        obtain ⟨g0, g1, g2, g3, g4⟩ := hz.all
        exact bodyPost_ret (v := .tuple #[bqV o q (e1 : Int) r (.slice p m tc), .int .i64 ((g : Int) - (e1 : Int))]) (by simp [results, Tryz.results59, go_sem, g0, g1, g2, g3, g4]) rfl ⟨_, HE.out, by omega, by simp, HZB.out⟩
      | false =>
        have HTX := Lib.hid (HK.out.ti.less HX.out.1 HX.out.2.1)
        have HTK := Lib.hid (HK.out.tk.trans (less_taken (g := e1) HX.out.1))
        have hxl := HX.out.2.2
        have hpD : ∀ j, p = some ⟨j, 0, none⟩ → (tkT R g) = [] ∨ j ≠ D := fun j hj => by
          rcases HPW.out j hj with c | c
          · exact .inl c
          · have := HDE.out.2.1; exact .inr (by omega)
        have hrD : RnAt (wr.setCell ⟨D, 2, none⟩ (.int .i64 (x : Int))) p (tkT R g) := by
          rcases HK.out.r with c | ⟨gb, e, hgl, hcc⟩
          · exact .inl c
          · rcases hpD gb e with c | c
            · exact .inl c
            · exact RnAt.set1 (.inr ⟨gb, e, hgl, hcc⟩) (fun j hj => by rw [e] at hj; simp at hj; omega) 2 _
        have HRD := Lib.hid hrD
        have HDD := Lib.hid (HK.out.d.grow (x : Int))
        have HED := Lib.hid (HK.out.e.far (fun c => HDE.out.1 c.symm) 2 (.int .i64 (x : Int)))
        have HBD := Lib.hid (HK.out.be.setCell (p := ⟨D, 2, none⟩) HDE.out.2.1 (.int .i64 (x : Int)))
        clear hpD hrD
        go_wp2_with fail
        refine (HRU.out x (lessR R1 x) _ (by omega) HTX.out HTK.out HRD.out).mono ?_
        rintro e w5 ⟨u', cap', rfl, hru, huf, hb⟩
        have hEl : E < (wr.setCell ⟨D, 2, none⟩ (.int .i64 (x : Int))).heap.size := HED.out.lt
        have hd5 := HDD.out.below hb
        have HMU2 : Hid (muD D w5 = x) := Lib.hid (by unfold muD; rw [hd5.all.2.2.1]; simp)
        have HKN : Hid (SK D E o q r p m tc R g w x (lessR R1 x) (.slice u' (runL (lessR R1 x) x).length cap') w5) := Lib.hid ⟨hd5, HED.out.below hb, HRD.out.below hb, HTX.out, HTK.out, by omega, HBD.out.trans (hb.mono HBD.out.size), u', cap', rfl, hru, fun j hj => Nat.lt_of_lt_of_le hEl (huf j hj)⟩
        clear hru huf hb hd5 hEl
        go_wp2_with fail
        refine ⟨⟨x, lessR R1 x, HKN⟩, ?_⟩
        rw [HMU2.out, HMU.out]
        exact hxl
end Go.Proofs.YtfemgekhpcgliaaGreat.Bt
/- The document's Alloc of a buddy: rows. -/
namespace Go.Proofs.YtfemgekhpcgliaaGreat.Bt
open Go Go.RowKit Go.Shelf
set_option linter.unusedVariables false
set_option linter.unusedSimpArgs false
theorem Least.one {R : Runs} {g o : Nat} {y z : Option (Nat × Nat)} (h : Least R g o y) (k : Least R g o z) : y = z := by
  rcases y with _ | ⟨x, l⟩ <;> rcases z with _ | ⟨x', l'⟩
  · rfl
  · have := h x' l' k.1; have := k.2.1; omega
  · have := k x l h.1; have := h.2.1; omega
  · have h1 := h.2.2 x' l' k.1 k.2.1
    have h2 := k.2.2 x l h.1 h.2.1
    have e1 : l = l' := by omega
    have e2 : x = x' := by omega
    rw [e1, e2]
def ltF (L : List (Nat × Nat × Bool)) (x : Nat) : List (Nat × Nat × Bool) := L.filter fun y => decide (y.1 < x)
def gtF (L : List (Nat × Nat × Bool)) (x : Nat) : List (Nat × Nat × Bool) := L.filter fun y => decide (x < y.1)
theorem ltF_len (L : List (Nat × Nat × Bool)) (x : Nat) : (ltF L x).length ≤ L.length := List.length_filter_le _ _
theorem gtF_len (L : List (Nat × Nat × Bool)) (x : Nat) : (gtF L x).length ≤ L.length := List.length_filter_le _ _
theorem ltF_next {L : List (Nat × Nat × Bool)} {x j : Nat} (h : j < L.length) : ltF (L.take (j + 1)) x = if (L.getD j r0).1 < x then ltF (L.take j) x ++ [L.getD j r0] else ltF (L.take j) x := by
  rw [take_snoc h]
  generalize L.getD j r0 = c
  unfold ltF
  rw [List.filter_append]
  by_cases e : c.1 < x
  · rw [if_pos e]; simp [e]
  · rw [if_neg e]; simp [e]
theorem gtF_next {L : List (Nat × Nat × Bool)} {x j : Nat} (h : j < L.length) : gtF (L.take (j + 1)) x = if x < (L.getD j r0).1 then gtF (L.take j) x ++ [L.getD j r0] else gtF (L.take j) x := by
  rw [take_snoc h]
  generalize L.getD j r0 = c
  unfold gtF
  rw [List.filter_append]
  by_cases e : x < c.1
  · rw [if_pos e]; simp [e]
  · rw [if_neg e]; simp [e]
/-- the taken runs with one more -/
def outL (L : List (Nat × Nat × Bool)) (x k : Nat) : List (Nat × Nat × Bool) := ltF L x ++ [(x, k, true)] ++ gtF L x
theorem outL_is {R R' : Runs} {g g1 x k l a b c : Nat} (h : Til g R a) (h1 : Til g1 R' b) (t : TkMore R R' x k) (hx : ∀ l, R x ≠ some (l, true)) : tkT R' g1 = outL (tkT R g) x k := by
  unfold tkT outL ltF gtF
  rw [tkL_more (R := R) (g := g) (x := x) (o := k) (fun k c => hx k c.2) fun i l => ⟨fun q => ((t i l).1 q.2).imp id fun c => ⟨h.lt c, c⟩, fun q => ?_⟩]
  · rw [List.map_append, List.map_cons, List.filter_map, List.filter_map]
    simp [Function.comp_def]
  · have e : R' i = some (l, true) := (t i l).2 (q.imp id fun c => c.2)
    exact ⟨h1.lt e, e⟩
/-- the run that the document takes, and what its buddy has grown to, and how many Commits are OK yet -/
def Sc (pg g k : Nat) (r : Int) (R : Runs) (g1 x l : Nat) (r1 : Int) (R1 : Runs) : Prop :=
  Til g1 R1 g1 ∧ TkSame R R1 ∧ Least R1 g1 k (some (x, l)) ∧ ((g1 = g ∧ R1 = R ∧ r1 = r) ∨ (Least R g k none ∧ growQ pg g r k (upN g (2 ^ k)) = ((g1 : Int), r1, 0)))
def AllP (o : Int) (pg g1 : Nat) (r1 : Int) (L : List (Nat × Nat × Bool)) (x k : Nat) (w : World) (e : Ending) (w' : World) : Prop :=
  ∃ u cap, e = .returned (.tuple #[bqV o (pg : Int) (g1 : Int) r1 (.slice u (outL L x k).length cap), .int .i64 (x : Int), .int .i64 0]) ∧ RnAt w' u (outL L x k) ∧ Below w.heap.size w w'
end Go.Proofs.YtfemgekhpcgliaaGreat.Bt
/- The document's Alloc of a buddy. -/
namespace Go.Proofs.YtfemgekhpcgliaaGreat.Bt
open Go Go.RowKit Go.Shelf
set_option linter.unusedVariables false
set_option linter.unusedSimpArgs false
/-- ahead of the taking -/
def AC (D E : Nat) (o : Int) (pg g1 : Nat) (r1 : Int) (p : Option Addr) (m tc : Nat) (L : List (Nat × Nat × Bool)) (w wx : World) : Prop :=
  BqAt D o (pg : Int) (g1 : Int) r1 (.slice p m tc) wx ∧ BqAt E 0 0 0 0 (.slice none 0 0) wx ∧ RnAt wx p L ∧ Below w.heap.size w wx
structure LpA (b0 : Nat) (w1 : World) (l : List (Nat × Nat × Bool)) (v : Value) (x : World) : Prop where
  ow : x.ownsRow b0 51 3 v l.length (rnL l)
  be : Below b0 w1 x
  sz : b0 ≤ x.heap.size
set_option maxHeartbeats 16000000 in
set_option maxRecDepth 100000 in
theorem ball_ok (o r : Int) (hr : r ≤ 9223372036854775807) (pg g : Nat) (hpg : pg ≤ 80) (hg : g ≤ 80) (p : Option Addr) (tc : Nat) (R : Runs) (hR : Til g R g) (k : Nat) (hk : k ≤ 10) (w : World) (h : RnAt w p (tkT R g))
    (g1 x l : Nat) (r1 : Int) (R1 : Runs) (hs : Sc pg g k r R g1 x l r1 R1) (hg1 : g1 ≤ 80) :
    Calls Tryz.prog 60 #[bqV o (pg : Int) (g : Int) r (.slice p (tkT R g).length tc), .int .i64 (k : Int)] w (AllP o pg g1 r1 (tkT R g) x k w) := by
  obtain ⟨i0, hi0, hz0, hz1, hz2⟩ := info_parts Tryz.infoRn
  have HI := Lib.hid hi0; have HZ0 := Lib.hid hz0; have HZ1 := Lib.hid hz1; have HZ2 := Lib.hid hz2
  clear hi0 hz0 hz1 hz2
  have HF0 := Lib.hid fun X (hX : RnAt X p (tkT R g)) => bfind_any o (pg : Int) r g hg p tc R hR k hk X hX
  have HF1 : Hid (∀ X, RnAt X p (tkT R g) → Calls Tryz.prog 104 #[bqV o (pg : Int) (g1 : Int) r1 (.slice p (tkT R g).length tc), .int .i64 (k : Int)] X fun e w' => e = .returned (.int .i64 (x : Int)) ∧ Below X.heap.size X w') := Lib.hid fun X hX => by
    have e := tkT_same hR hs.1 hs.2.1
    have := bfind_any o (pg : Int) r1 g1 hg1 p tc R1 hs.1 k hk X (by rw [e]; exact hX)
    rw [e] at this
    refine this.mono ?_
    rintro e' w' ⟨y, rfl, hy, hb⟩
    rw [hy.one hs.2.2.1]
    exact ⟨rfl, hb⟩
  have HGR := Lib.hid fun X => bgrow_on o r pg g k hr (by omega) (by omega) hk p (tkT R g).length tc X
  have HLN : Hid ((tkT R g).length ≤ 80) := Lib.hid (Nat.le_trans (tkT_len R g) hg)
  have HSC := Lib.hid hs
  obtain ⟨L, hLL⟩ : ∃ L, tkT R g = L := ⟨_, rfl⟩
  rw [hLL] at h HF0 HF1 HGR HLN ⊢
  obtain ⟨m, hm⟩ : ∃ m, L.length = m := ⟨_, rfl⟩
  have HM := Lib.hid hm
  rw [hm] at HF0 HF1 HGR ⊢
  have hm80 : m ≤ 80 := by have := HLN.out; omega
  have hb0 := ((Below.refl w.heap.size w).alloc (Nat.le_refl _) (.cells (bqA o (pg : Int) (g : Int) r (.slice p m tc)) 33)).alloc (by simp) (.cells (bqA 0 0 0 0 (.slice none 0 0)) 33)
  have hd0 : BqAt w.heap.size o (pg : Int) (g : Int) r (.slice p m tc) ((w.alloc (.cells (bqA o (pg : Int) (g : Int) r (.slice p m tc)) 33)).alloc (.cells (bqA 0 0 0 0 (.slice none 0 0)) 33)) := (pairs_new w _ _ _ _).1
  have he0 : BqAt (w.heap.size + 1) 0 0 0 0 (.slice none 0 0) ((w.alloc (.cells (bqA o (pg : Int) (g : Int) r (.slice p m tc)) 33)).alloc (.cells (bqA 0 0 0 0 (.slice none 0 0)) 33)) := (pairs_new w _ _ _ _).2
  have hr0 := h.below hb0
  have HPW : Hid (∀ j, p = some ⟨j, 0, none⟩ → L = [] ∨ j < w.heap.size) := Lib.hid fun j hj => by
    rcases h with e | ⟨gb, e, hl, _⟩
    · exact .inl e
    · rw [hj] at e; simp at e; exact .inr (by omega)
  have HA0 : Hid (AC w.heap.size (w.heap.size + 1) o pg g r p m tc L w ((w.alloc (.cells (bqA o (pg : Int) (g : Int) r (.slice p m tc)) 33)).alloc (.cells (bqA 0 0 0 0 (.slice none 0 0)) 33))) := Lib.hid ⟨hd0, he0, hr0, hb0⟩
  obtain ⟨D, hD⟩ : ∃ D, w.heap.size = D := ⟨_, rfl⟩
  obtain ⟨E, hE⟩ : ∃ E, w.heap.size + 1 = E := ⟨_, rfl⟩
  have HDE : Hid (D ≠ E ∧ w.heap.size ≤ D ∧ w.heap.size ≤ E) := Lib.hid (by omega)
  have hk0 : ¬ ((k : Int) < 0) := by omega
  have hk1 : ¬ (10 < (k : Int)) := by omega
  rw [hE, hD] at HA0
  have HK := Lib.hid hk
  clear h hR hs hLL hm hb0 hd0 he0 hr0 hk hr
  go_enter Tryz.func60, Tryz.ntmps60
  go_upto_region 1 with fail
  obtain ⟨y, hy⟩ : ∃ y, (w.alloc (.cells (bqA o (pg : Int) (g : Int) r (.slice p m tc)) 33)).alloc (.cells (bqA 0 0 0 0 (.slice none 0 0)) 33) = y := ⟨_, rfl⟩
  rw [hy] at HA0 ⊢
  try rw [hE]
  try rw [hD]
  try rw [show D + 1 = E from by omega]
  obtain ⟨d0, d1, d2, d3, d4⟩ := HA0.out.1.all
  clear hy hE hD
  go_wp2_with fail
  refine (HF0.out _ HA0.out.2.2.1).mono ?_
  rintro e w1 ⟨yf, rfl, hyf, hb⟩
  have HA1 : Hid (AC D E o pg g r p m tc L w w1) := Lib.hid ⟨HA0.out.1.below hb, HA0.out.2.1.below hb, HA0.out.2.2.1.below hb, HA0.out.2.2.2.trans (hb.mono HA0.out.2.2.2.size)⟩
  have HYF := Lib.hid hyf
  clear hb hyf d0 d1 d2 d3 d4 HA0 HF0
  go_upto_if 25 with fail
  go_cut [5] (fun s5 wx => s5 = .int .i64 0 ∧ Hid (AC D E o pg g1 r1 p m tc L w wx))
  case first =>
    as_aux_lemma =>
    rcases HSC.out.2.2.2 with ⟨rfl, rfl, rfl⟩ | ⟨hn, hq⟩
    · have hyx := HYF.out.one HSC.out.2.2.1
      subst hyx
      have HV : Hid (findV (some (x, l)) = (x : Int)) := Lib.hid rfl
      rw [HV.out]
      have hx0 : ¬ ((x : Int) < 0) := by omega
      go_wp2_with fail
      go_meet
      exact ⟨rfl, HA1⟩
    · have hyx := HYF.out.one hn
      subst hyx
      have HV : Hid (findV none = -1) := Lib.hid rfl
      rw [HV.out]
      have hgr := HGR.out
      rw [hq] at hgr
      have HGR2 := Lib.hid hgr
      obtain ⟨d0, d1, d2, d3, d4⟩ := HA1.out.1.all
      clear hgr HGR hq hn
      go_wp2_with fail
      refine (HGR2.out _).mono ?_
      rintro e w2 ⟨rfl, hb⟩
      have hb2 := hb.alloc hb.size (.cells (bqA o (pg : Int) (g1 : Int) r1 (.slice p m tc)) 33)
      have HD2 := Lib.hid (HA1.out.1.below hb2)
      have HE2 := Lib.hid (HA1.out.2.1.below hb2)
      have HR2 := Lib.hid (HA1.out.2.2.1.below hb2)
      have HB2 := Lib.hid (HA1.out.2.2.2.trans (hb2.mono HA1.out.2.2.2.size))
      have HG2 : Hid (BqAt w2.heap.size o (pg : Int) (g1 : Int) r1 (.slice p m tc) (w2.alloc (.cells (bqA o (pg : Int) (g1 : Int) r1 (.slice p m tc)) 33))) := Lib.hid (heap_new w2 _)
      clear hb hb2 d0 d1 d2 d3 d4 HGR2
      go_upto_region 5 with fail
      obtain ⟨z, hz⟩ : ∃ z, w2.alloc (.cells (bqA o (pg : Int) (g1 : Int) r1 (.slice p m tc)) 33) = z := ⟨_, rfl⟩
      obtain ⟨G7, hG7⟩ : ∃ G7, w2.heap.size = G7 := ⟨_, rfl⟩
      rw [hz] at HD2 HE2 HR2 HB2 HG2 ⊢
      rw [hG7] at HG2 ⊢
      clear hz hG7
      obtain ⟨g0, g1', g2, g3, g4⟩ := HG2.out.all
      obtain ⟨d0, d1, d2, d3, d4⟩ := HD2.out.all
      obtain ⟨f0, f1, f2, f3, f4⟩ := HD2.out.free
      have HAN : Hid (AC D E o pg g1 r1 p m tc L w (set5 z D (.int .i64 o) (.int .i64 (pg : Int)) (.int .i64 (g1 : Int)) (.int .i64 r1) (.slice p m tc))) := Lib.hid ⟨set5_at HD2.out _ _ _ _ _, (set5_far (fun c => HDE.out.1 c.symm) _ _ _ _ _).trans HE2.out, (by
        rcases HR2.out with c | ⟨gb, e, hgl, hcc⟩
        · exact .inl c
        · rcases HPW.out gb e with c | c
          · exact .inl c
          · exact RnAt.far (.inr ⟨gb, e, hgl, hcc⟩) (by simp [set5, World.setCell]) fun j hj => set5_far (by rw [e] at hj; simp at hj; have := HDE.out.2.1; omega) _ _ _ _ _), set5_below HB2.out HDE.out.2.1 _ _ _ _ _⟩
      go_wp2_with fail
      go_meet
      exact ⟨rfl, HAN⟩
  case rest =>
    obtain ⟨rfl, HA⟩ := hcut
    obtain ⟨d0, d1, d2, d3, d4⟩ := HA.out.1.all
    go_wp2_with fail
    refine (HF1.out _ HA.out.2.2.1).mono ?_
    rintro e w2 ⟨rfl, hb⟩
    have HA2 : Hid (AC D E o pg g1 r1 p m tc L w w2) := Lib.hid ⟨HA.out.1.below hb, HA.out.2.1.below hb, HA.out.2.2.1.below hb, HA.out.2.2.2.trans (hb.mono HA.out.2.2.2.size)⟩
    clear hb d0 d1 d2 d3 d4 HA HF1 HGR HYF HA1
    obtain ⟨d0, d1, d2, d3, d4⟩ := HA2.out.1.all
    obtain ⟨b0, hb0⟩ : ∃ b0, w2.heap.size = b0 := ⟨_, rfl⟩
    have HBW : Hid (w.heap.size ≤ b0 ∧ b0 = w2.heap.size ∧ D < b0 ∧ E < b0) := Lib.hid ⟨by rw [← hb0]; exact HA2.out.2.2.2.size, hb0.symm, by rw [← hb0]; exact HA2.out.1.lt, by rw [← hb0]; exact HA2.out.2.1.lt⟩
    have HL0 : Hid (LpA b0 w2 (ltF (L.take 0) x) (.slice none 0 0) w2) := Lib.hid ⟨World.ownsRow_nil _ _ _ _, by rw [← hb0]; exact Below.refl _ _, by omega⟩
    clear hb0
    go_wp2_with fail
    go_loopw [10, 43] (fun v s43 wr => ∃ j : Nat, j ≤ m ∧ s43 = .int .i64 (j : Int) ∧ Hid (LpA b0 w2 (ltF (L.take j) x) v wr)) (fun _ s43 _ => m - (intOf s43).toNat)
    case atStart => exact ⟨0, Nat.zero_le _, rfl, HL0⟩
    case round =>
      clear HL0 d0 d1 d2 d3 d4
      obtain ⟨j, hj, rfl, HLP⟩ := hrel
      have HWr : Hid (Below w2.heap.size w2 wr) := Lib.hid (by rw [← HBW.out.2.1]; exact HLP.out.be)
      by_cases hjm : j < m
      · have hjm2 : (j : Int) < (m : Int) := by omega
        have hjL : j < L.length := by rw [HM.out]; exact hjm
        rcases HA2.out.2.2.1.below HWr.out with e | ⟨gb, rfl, hgl, hcc⟩
        · rw [e] at hjL; simp at hjL
        obtain ⟨q0, q1, q2⟩ := hcc j hjL
        have HWN := Lib.hid (ltF_next (x := x) hjL)
        obtain ⟨c, hcc2⟩ : ∃ c, L.getD j r0 = c := ⟨_, rfl⟩
        rw [hcc2] at q0 q1 q2 HWN
        have HLL : Hid ((ltF (L.take j) x).length ≤ 2000) := Lib.hid (Nat.le_trans (ltF_len _ _) (by rw [List.length_take]; omega))
        obtain ⟨ol, hol⟩ : ∃ ol, ltF (L.take j) x = ol := ⟨_, rfl⟩
        rw [hol] at HWN HLL HLP
        clear hcc hjL hcc2 hol hgl
        by_cases hca : c.1 < x
        · have hW1 := HWN.out
          rw [if_pos hca] at hW1
          have HW1 := Lib.hid hW1
          have hcd : (c.1 : Int) < (x : Int) := by omega
          have HB2 := Lib.hid ((HLP.out.be.alloc HLP.out.sz (.cells (rnA c) 51)).alloc (by have := HLP.out.sz; simp; omega) (.cells (rnA c) 51))
          have hrow2 := (HLP.out.ow.alloc (.cells (rnA c) 51)).alloc (.cells (rnA c) 51)
          have HR2 := Lib.hid hrow2
          have hln := HLL.out
          have hsz2 := HLP.out.sz
          clear hW1 hca
          go_wp2_with (at_builtin; refine wpList_append_own _ rfl _ _ 31 rfl b0 51 i0 (.agg #[.int .i64 0, .int .i64 0, .bool false]) 3 24 Tryz.underlying31 HI.out HZ0.out HZ1.out HZ2.out rfl (by decide) _ _ _ rfl hrow2 ⟨_, 0, none⟩ 1 1 (rnC c) rfl rfl (rn_new c _ (by simp)) (by simp [rnC, Value.oneCell']) (by unfold maxLen; omega) (by omega) (by simp; omega) ?_; intro v' w3 hown' hgrow _; have hhgrow := hgrow.size; simp at hhgrow)
          have HNX : Hid (LpA b0 w2 (ol ++ [c]) v' w3) := Lib.hid ⟨by rw [rnL_append, List.length_append]; simpa [rnL] using hown', rn_grow HR2.out hgrow (by simp; omega) HB2.out, by omega⟩
          clear hrow2 hown' hgrow hhgrow
          go_wp2_with fail
          go_roundw
          case rel => exact ⟨j + 1, by omega, by go_num, by rw [HW1.out]; exact HNX⟩
          case measure => simp [intOf]; omega
        · have hW1 := HWN.out
          rw [if_neg hca] at hW1
          have HW1 := Lib.hid hW1
          have hcd : ¬ (c.1 : Int) < (x : Int) := by omega
          have HNX : Hid (LpA b0 w2 ol _ (wr.alloc (.cells (rnA c) 51))) := Lib.hid ⟨HLP.out.ow.alloc (.cells (rnA c) 51), HLP.out.be.alloc HLP.out.sz (.cells (rnA c) 51), by have := HLP.out.sz; simp; omega⟩
          clear hW1 hca
          go_wp2_with fail
          go_roundw
          case rel => exact ⟨j + 1, by omega, by go_num, by rw [HW1.out]; exact HNX⟩
          case measure => simp [intOf]; omega
      · obtain rfl : j = m := by omega
        have HLP2 : Hid (LpA b0 w2 (ltF L x) _ wr) := Lib.hid (by have := HLP.out; rw [List.take_of_length_le (by rw [HM.out]; exact Nat.le_refl _)] at this; exact this)
        obtain ⟨d0, d1, d2, d3, d4⟩ := (HA2.out.1.below HWr.out).all
        have hrow2 := HLP2.out.ow.alloc (.cells (rnA (x, k, true)) 51)
        have HR2 := Lib.hid hrow2
        have HB2 := Lib.hid (HLP2.out.be.alloc HLP2.out.sz (.cells (rnA (x, k, true)) 51))
        have hln : (ltF L x).length ≤ 2000 := Nat.le_trans (ltF_len _ _) (by have := HM.out; omega)
        have hsz2 := HLP2.out.sz
        clear d0 d1 d2 d3 d4
        go_wp2_with (at_builtin; refine wpList_append_own _ rfl _ _ 31 rfl b0 51 i0 (.agg #[.int .i64 0, .int .i64 0, .bool false]) 3 24 Tryz.underlying31 HI.out HZ0.out HZ1.out HZ2.out rfl (by decide) _ _ _ rfl hrow2 ⟨_, 0, none⟩ 1 1 (rnC (x, k, true)) rfl rfl (rn_new (x, k, true) _ (by simp)) (by simp [rnC, Value.oneCell']) (by unfold maxLen; omega) (by omega) (by simp; omega) ?_; intro v' w3 hown' hgrow _; have hhgrow := hgrow.size; simp at hhgrow; have hbw3 := rn_grow HR2.out hgrow (by simp; omega) HB2.out; have hd3 : BqAt D o (pg : Int) (g1 : Int) r1 (.slice p j tc) w3 := (hbw3.block D HBW.out.2.2.1).trans HA2.out.1; obtain ⟨d0, d1, d2, d3, d4⟩ := hd3.all)
        have HL1 : Hid (LpA b0 w2 (ltF L x ++ [(x, k, true)] ++ gtF (L.take 0) x) v' w3) := Lib.hid ⟨by
          rw [show gtF (L.take 0) x = [] from rfl, List.append_nil, rnL_append, List.length_append]; simpa [rnL] using hown', hbw3, by omega⟩
        clear hrow2 hown' hgrow hhgrow hbw3 hd3 hln hsz2 HLP2 HLP
        obtain ⟨m, hmj⟩ : ∃ m, j = m := ⟨_, rfl⟩
        subst hmj
        go_loopw [10, 65] (fun v s65 wr => ∃ i : Nat, i ≤ j ∧ s65 = .int .i64 (i : Int) ∧ Hid (LpA b0 w2 (ltF L x ++ [(x, k, true)] ++ gtF (L.take i) x) v wr)) (fun _ s65 _ => j - (intOf s65).toNat)
        case atStart => exact ⟨0, Nat.zero_le _, rfl, HL1⟩
        case round =>
          clear HL1 d0 d1 d2 d3 d4
          obtain ⟨i, hi, rfl, HLP⟩ := hrel
          have HWr2 : Hid (Below w2.heap.size w2 wr) := Lib.hid (by rw [← HBW.out.2.1]; exact HLP.out.be)
          by_cases hjm : i < j
          · have hjm2 : (i : Int) < (j : Int) := by omega
            have hjL : i < L.length := by rw [HM.out]; exact hjm
            rcases HA2.out.2.2.1.below HWr2.out with e | ⟨gb, rfl, hgl, hcc⟩
            · rw [e] at hjL; simp at hjL
            obtain ⟨q0, q1, q2⟩ := hcc i hjL
            have HWN := Lib.hid (gtF_next (x := x) hjL)
            obtain ⟨c, hcc2⟩ : ∃ c, L.getD i r0 = c := ⟨_, rfl⟩
            rw [hcc2] at q0 q1 q2 HWN
            have HLL : Hid ((ltF L x ++ [(x, k, true)] ++ gtF (L.take i) x).length ≤ 2000) := Lib.hid (by
              have h1 := ltF_len L x
              have h2 := gtF_len (L.take i) x
              rw [List.length_take] at h2
              have := HM.out
              simp only [List.length_append, List.length_cons, List.length_nil]
              omega)
            have HSN : Hid (∀ t : List (Nat × Nat × Bool), ltF L x ++ [(x, k, true)] ++ (t ++ [c]) = (ltF L x ++ [(x, k, true)] ++ t) ++ [c]) := Lib.hid fun t => by simp
            clear hcc hjL hcc2 hgl
            by_cases hca : x < c.1
            · have hW1 := HWN.out
              rw [if_pos hca] at hW1
              have HW1 := Lib.hid hW1
              have hcd : (x : Int) < (c.1 : Int) := by omega
              have HB2 := Lib.hid ((HLP.out.be.alloc HLP.out.sz (.cells (rnA c) 51)).alloc (by have := HLP.out.sz; simp; omega) (.cells (rnA c) 51))
              obtain ⟨ol, hol⟩ : ∃ ol, ltF L x ++ [(x, k, true)] ++ gtF (L.take i) x = ol := ⟨_, rfl⟩
              have HOL := Lib.hid hol
              rw [hol] at HLL HLP
              clear hol
              have hrow2 := (HLP.out.ow.alloc (.cells (rnA c) 51)).alloc (.cells (rnA c) 51)
              have HR2 := Lib.hid hrow2
              have hln := HLL.out
              have hsz2 := HLP.out.sz
              clear hW1 hca
              go_wp2_with (at_builtin; refine wpList_append_own _ rfl _ _ 31 rfl b0 51 i0 (.agg #[.int .i64 0, .int .i64 0, .bool false]) 3 24 Tryz.underlying31 HI.out HZ0.out HZ1.out HZ2.out rfl (by decide) _ _ _ rfl hrow2 ⟨_, 0, none⟩ 1 1 (rnC c) rfl rfl (rn_new c _ (by simp)) (by simp [rnC, Value.oneCell']) (by unfold maxLen; omega) (by omega) (by simp; omega) ?_; intro v' w3 hown' hgrow _; have hhgrow := hgrow.size; simp at hhgrow)
              have HNX : Hid (LpA b0 w2 (ol ++ [c]) v' w3) := Lib.hid ⟨by rw [rnL_append, List.length_append]; simpa [rnL] using hown', rn_grow HR2.out hgrow (by simp; omega) HB2.out, by omega⟩
              clear hrow2 hown' hgrow hhgrow
              go_wp2_with fail
              go_roundw
              case rel => exact ⟨i + 1, by omega, by go_num, by rw [HW1.out, HSN.out, HOL.out]; exact HNX⟩
              case measure => simp [intOf]; omega
            · have hW1 := HWN.out
              rw [if_neg hca] at hW1
              have HW1 := Lib.hid hW1
              have hcd : ¬ (x : Int) < (c.1 : Int) := by omega
              have HNX : Hid (LpA b0 w2 (ltF L x ++ [(x, k, true)] ++ gtF (L.take i) x) _ (wr.alloc (.cells (rnA c) 51))) := Lib.hid ⟨HLP.out.ow.alloc (.cells (rnA c) 51), HLP.out.be.alloc HLP.out.sz (.cells (rnA c) 51), by have := HLP.out.sz; simp; omega⟩
              clear hW1 hca
              go_wp2_with fail
              go_roundw
              case rel => exact ⟨i + 1, by omega, by go_num, by rw [HW1.out]; exact HNX⟩
              case measure => simp [intOf]; omega
          · obtain rfl : i = j := by omega
            have HLE : Hid (LpA b0 w2 (outL L x k) _ wr) := Lib.hid (by have := HLP.out; rw [List.take_of_length_le (by rw [HM.out]; exact Nat.le_refl _)] at this; exact this)
            obtain ⟨u, cap, hv, hru, huf⟩ := own_rnT HLE.out.ow
            subst hv
            have hbr := HWr2.out
            have HDr := Lib.hid (HA2.out.1.below hbr)
            have HEr := Lib.hid (HA2.out.2.1.below hbr)
            have HBr := Lib.hid (HA2.out.2.2.2.trans (hbr.mono HA2.out.2.2.2.size))
            have HRU := Lib.hid hru; have HUF := Lib.hid huf
            obtain ⟨nl, hnl⟩ : ∃ nl, (outL L x k).length = nl := ⟨_, rfl⟩
            have HNL := Lib.hid hnl
            rw [hnl]
            clear hru huf hbr hnl HLE HLP
            obtain ⟨d0, d1, d2, d3, d4⟩ := HDr.out.all
            obtain ⟨k0, k1, k2, k3, k4⟩ := HDr.out.free
            obtain ⟨e0, e1, e2, e3, e4⟩ := HEr.out.all
            obtain ⟨f0, f1, f2, f3, f4⟩ := HEr.out.free
            have hDE : ¬ E = D := fun c => HDE.out.1 c.symm
            have hDE2 := HDE.out.1
            go_wp2_with fail
            change bodyPost _ _ _ _ _ (set5 (wr.setCell ⟨D, 4, none⟩ (.slice u nl cap)) E (.int .i64 o) (.int .i64 (pg : Int)) (.int .i64 (g1 : Int)) (.int .i64 r1) (.slice u nl cap))
            have hz : BqAt E o (pg : Int) (g1 : Int) r1 (.slice u nl cap) (set5 (wr.setCell ⟨D, 4, none⟩ (.slice u nl cap)) E (.int .i64 o) (.int .i64 (pg : Int)) (.int .i64 (g1 : Int)) (.int .i64 r1) (.slice u nl cap)) := set5_at (HEr.out.far hDE 4 (.slice u nl cap)) _ _ _ _ _
            have HZB := Lib.hid (set5_below (HBr.out.setCell (p := ⟨D, 4, none⟩) HDE.out.2.1 (.slice u nl cap)) HDE.out.2.2 (.int .i64 o) (.int .i64 (pg : Int)) (.int .i64 (g1 : Int)) (.int .i64 r1) (.slice u nl cap))
            have HZR := Lib.hid ((HRU.out.set1 (E := D) (fun j hj => by have := HUF.out j hj; have := HBW.out.2.2.1; omega) 4 (.slice u nl cap)).far (w' := set5 (wr.setCell ⟨D, 4, none⟩ (.slice u nl cap)) E (.int .i64 o) (.int .i64 (pg : Int)) (.int .i64 (g1 : Int)) (.int .i64 r1) (.slice u nl cap)) (by simp [set5, World.setCell]) fun j hj => set5_far (by have := HUF.out j hj; have := HBW.out.2.2.2; omega) _ _ _ _ _)
            obtain ⟨z, hzz⟩ : ∃ z, set5 (wr.setCell ⟨D, 4, none⟩ (.slice u nl cap)) E (.int .i64 o) (.int .i64 (pg : Int)) (.int .i64 (g1 : Int)) (.int .i64 r1) (.slice u nl cap) = z := ⟨_, rfl⟩
            rw [hzz] at hz HZB HZR ⊢
            clear hzz d0 d1 d2 d3 d4 e0 e1 e2 e3 e4
            obtain ⟨g0, g1', g2, g3, g4⟩ := hz.all
            exact bodyPost_ret (v := .tuple #[bqV o (pg : Int) (g1 : Int) r1 (.slice u nl cap), .int .i64 (x : Int), .int .i64 0]) (by simp [results, Tryz.results60, go_sem, g0, g1', g2, g3, g4]) rfl ⟨u, cap, by rw [HNL.out], HZR.out, HZB.out⟩
set_option maxHeartbeats 16000000 in
set_option maxRecDepth 100000 in
theorem ball_no (o r : Int) (hr : r ≤ 9223372036854775807) (pg g : Nat) (hpg : pg ≤ 80) (hg : g ≤ 80) (p : Option Addr) (tc : Nat) (R : Runs) (hR : Til g R g) (k : Nat) (hk : k ≤ 10) (w : World) (h : RnAt w p (tkT R g))
    (r1 er : Int) (hn : Least R g k none) (hq : growQ pg g r k (upN g (2 ^ k)) = ((g : Int), r1, er)) (her : er ≠ 0) :
    Calls Tryz.prog 60 #[bqV o (pg : Int) (g : Int) r (.slice p (tkT R g).length tc), .int .i64 (k : Int)] w fun e w' => e = .returned (.tuple #[bqV o (pg : Int) (g : Int) r1 (.slice p (tkT R g).length tc), .int .i64 0, .int .i64 er]) ∧ Below w.heap.size w w' := by
  have HF0 := Lib.hid fun X (hX : RnAt X p (tkT R g)) => bfind_any o (pg : Int) r g hg p tc R hR k hk X hX
  have hgr := fun X => bgrow_on o r pg g k hr (by omega) (by omega) hk p (tkT R g).length tc X
  rw [hq] at hgr
  have HGR := Lib.hid hgr
  have HNN := Lib.hid hn
  obtain ⟨L, hLL⟩ : ∃ L, tkT R g = L := ⟨_, rfl⟩
  rw [hLL] at h HF0 HGR ⊢
  obtain ⟨m, hm⟩ : ∃ m, L.length = m := ⟨_, rfl⟩
  rw [hm] at HF0 HGR ⊢
  have hb0 := ((Below.refl w.heap.size w).alloc (Nat.le_refl _) (.cells (bqA o (pg : Int) (g : Int) r (.slice p m tc)) 33)).alloc (by simp) (.cells (bqA 0 0 0 0 (.slice none 0 0)) 33)
  have hd0 : BqAt w.heap.size o (pg : Int) (g : Int) r (.slice p m tc) ((w.alloc (.cells (bqA o (pg : Int) (g : Int) r (.slice p m tc)) 33)).alloc (.cells (bqA 0 0 0 0 (.slice none 0 0)) 33)) := (pairs_new w _ _ _ _).1
  have he0 : BqAt (w.heap.size + 1) 0 0 0 0 (.slice none 0 0) ((w.alloc (.cells (bqA o (pg : Int) (g : Int) r (.slice p m tc)) 33)).alloc (.cells (bqA 0 0 0 0 (.slice none 0 0)) 33)) := (pairs_new w _ _ _ _).2
  have HA0 : Hid (AC w.heap.size (w.heap.size + 1) o pg g r p m tc L w ((w.alloc (.cells (bqA o (pg : Int) (g : Int) r (.slice p m tc)) 33)).alloc (.cells (bqA 0 0 0 0 (.slice none 0 0)) 33))) := Lib.hid ⟨hd0, he0, h.below hb0, hb0⟩
  obtain ⟨D, hD⟩ : ∃ D, w.heap.size = D := ⟨_, rfl⟩
  obtain ⟨E, hE⟩ : ∃ E, w.heap.size + 1 = E := ⟨_, rfl⟩
  have HDE : Hid (D ≠ E ∧ w.heap.size ≤ D ∧ w.heap.size ≤ E) := Lib.hid (by omega)
  have hk0 : ¬ ((k : Int) < 0) := by omega
  have hk1 : ¬ (10 < (k : Int)) := by omega
  have hee : (er != 0) = true := by simpa using her
  rw [hE, hD] at HA0
  clear h hR hLL hm hb0 hd0 he0 hr hn hq hgr her
  go_enter Tryz.func60, Tryz.ntmps60
  go_upto_region 1 with fail
  obtain ⟨y, hy⟩ : ∃ y, (w.alloc (.cells (bqA o (pg : Int) (g : Int) r (.slice p m tc)) 33)).alloc (.cells (bqA 0 0 0 0 (.slice none 0 0)) 33) = y := ⟨_, rfl⟩
  rw [hy] at HA0 ⊢
  try rw [hE]
  try rw [hD]
  try rw [show D + 1 = E from by omega]
  obtain ⟨d0, d1, d2, d3, d4⟩ := HA0.out.1.all
  clear hy hE hD hk
  go_wp2_with fail
  refine (HF0.out _ HA0.out.2.2.1).mono ?_
  rintro e w1 ⟨yf, rfl, hyf, hb⟩
  have HA1 : Hid (AC D E o pg g r p m tc L w w1) := Lib.hid ⟨HA0.out.1.below hb, HA0.out.2.1.below hb, HA0.out.2.2.1.below hb, HA0.out.2.2.2.trans (hb.mono HA0.out.2.2.2.size)⟩
  have hyx := hyf.one HNN.out
  subst hyx
  have HV : Hid (findV none = -1) := Lib.hid rfl
  rw [HV.out]
  clear hb hyf d0 d1 d2 d3 d4 HA0 HF0
  obtain ⟨d0, d1, d2, d3, d4⟩ := HA1.out.1.all
  go_wp2_with fail
  refine (HGR.out _).mono ?_
  rintro e w2 ⟨rfl, hb⟩
  have hb2 := hb.alloc hb.size (.cells (bqA o (pg : Int) (g : Int) r1 (.slice p m tc)) 33)
  have HD2 := Lib.hid (HA1.out.1.below hb2)
  have HE2 := Lib.hid (HA1.out.2.1.below hb2)
  have HB2 := Lib.hid (HA1.out.2.2.2.trans (hb2.mono HA1.out.2.2.2.size))
  have HG2 : Hid (BqAt w2.heap.size o (pg : Int) (g : Int) r1 (.slice p m tc) (w2.alloc (.cells (bqA o (pg : Int) (g : Int) r1 (.slice p m tc)) 33))) := Lib.hid (heap_new w2 _)
  clear hb hb2 d0 d1 d2 d3 d4
  go_upto_region 5 with fail
  obtain ⟨z, hz⟩ : ∃ z, w2.alloc (.cells (bqA o (pg : Int) (g : Int) r1 (.slice p m tc)) 33) = z := ⟨_, rfl⟩
  obtain ⟨G7, hG7⟩ : ∃ G7, w2.heap.size = G7 := ⟨_, rfl⟩
  rw [hz] at HD2 HE2 HB2 HG2 ⊢
  rw [hG7] at HG2 ⊢
  clear hz hG7
  obtain ⟨g0, g1', g2, g3, g4⟩ := HG2.out.all
  obtain ⟨d0, d1, d2, d3, d4⟩ := HD2.out.all
  obtain ⟨f0, f1, f2, f3, f4⟩ := HD2.out.free
  go_upto_region 6 with fail
  change Code.wp _ _ _ _ (set5 z D (.int .i64 o) (.int .i64 (pg : Int)) (.int .i64 (g : Int)) (.int .i64 r1) (.slice p m tc))
  have HD3 : Hid (BqAt D o (pg : Int) (g : Int) r1 (.slice p m tc) (set5 z D (.int .i64 o) (.int .i64 (pg : Int)) (.int .i64 (g : Int)) (.int .i64 r1) (.slice p m tc))) := Lib.hid (set5_at HD2.out _ _ _ _ _)
  have HE3 : Hid (BqAt E 0 0 0 0 (.slice none 0 0) (set5 z D (.int .i64 o) (.int .i64 (pg : Int)) (.int .i64 (g : Int)) (.int .i64 r1) (.slice p m tc))) := Lib.hid ((set5_far (fun c => HDE.out.1 c.symm) _ _ _ _ _).trans HE2.out)
  have HB3 := Lib.hid (set5_below HB2.out HDE.out.2.1 (.int .i64 o) (.int .i64 (pg : Int)) (.int .i64 (g : Int)) (.int .i64 r1) (.slice p m tc))
  obtain ⟨z3, hz3⟩ : ∃ z3, set5 z D (.int .i64 o) (.int .i64 (pg : Int)) (.int .i64 (g : Int)) (.int .i64 r1) (.slice p m tc) = z3 := ⟨_, rfl⟩
  rw [hz3] at HD3 HE3 HB3 ⊢
  clear hz3 d0 d1 d2 d3 d4 f0 f1 f2 f3 f4 g0 g1' g2 g3 g4
  obtain ⟨d0, d1, d2, d3, d4⟩ := HD3.out.all
  obtain ⟨e0, e1, e2, e3, e4⟩ := HE3.out.all
  obtain ⟨f0, f1, f2, f3, f4⟩ := HE3.out.free
  go_wp2_with fail
  change bodyPost _ _ _ _ _ (set5 z3 E (.int .i64 o) (.int .i64 (pg : Int)) (.int .i64 (g : Int)) (.int .i64 r1) (.slice p m tc))
  have hz : BqAt E o (pg : Int) (g : Int) r1 (.slice p m tc) (set5 z3 E (.int .i64 o) (.int .i64 (pg : Int)) (.int .i64 (g : Int)) (.int .i64 r1) (.slice p m tc)) := set5_at HE3.out _ _ _ _ _
  have HZB := Lib.hid (set5_below HB3.out HDE.out.2.2 (.int .i64 o) (.int .i64 (pg : Int)) (.int .i64 (g : Int)) (.int .i64 r1) (.slice p m tc))
  obtain ⟨z4, hz4⟩ : ∃ z4, set5 z3 E (.int .i64 o) (.int .i64 (pg : Int)) (.int .i64 (g : Int)) (.int .i64 r1) (.slice p m tc) = z4 := ⟨_, rfl⟩
  rw [hz4] at hz HZB ⊢
  clear hz4 d0 d1 d2 d3 d4 e0 e1 e2 e3 e4
  obtain ⟨g0, g1', g2, g3, g4⟩ := hz.all
  exact bodyPost_ret (v := .tuple #[bqV o (pg : Int) (g : Int) r1 (.slice p m tc), .int .i64 0, .int .i64 er]) (by simp [results, Tryz.results60, go_sem, g0, g1', g2, g3, g4]) rfl ⟨rfl, HZB.out⟩
set_option maxHeartbeats 16000000 in
set_option maxRecDepth 100000 in
theorem ball_arg (o q g r : Int) (p : Option Addr) (tn tc : Nat) (k : Int) (hk : k < 0 ∨ 10 < k) (w : World) :
    Calls Tryz.prog 60 #[bqV o q g r (.slice p tn tc), .int .i64 k] w fun e w' => e = .returned (.tuple #[bqV o q g r (.slice p tn tc), .int .i64 0, .int .i64 2]) ∧ Below w.heap.size w w' := by
  have hd' : k < 0 ∨ (¬ k < 0 ∧ 10 < k) := by omega
  clear hk
  have hb0 := ((Below.refl w.heap.size w).alloc (Nat.le_refl _) (.cells (bqA o q g r (.slice p tn tc)) 33)).alloc (by simp) (.cells (bqA 0 0 0 0 (.slice none 0 0)) 33)
  have hd0 : BqAt w.heap.size o q g r (.slice p tn tc) ((w.alloc (.cells (bqA o q g r (.slice p tn tc)) 33)).alloc (.cells (bqA 0 0 0 0 (.slice none 0 0)) 33)) := (pairs_new w _ _ _ _).1
  have he0 : BqAt (w.heap.size + 1) 0 0 0 0 (.slice none 0 0) ((w.alloc (.cells (bqA o q g r (.slice p tn tc)) 33)).alloc (.cells (bqA 0 0 0 0 (.slice none 0 0)) 33)) := (pairs_new w _ _ _ _).2
  have HB0 := Lib.hid hb0; have HD0 := Lib.hid hd0; have HE0 := Lib.hid he0
  clear hb0 hd0 he0
  obtain ⟨D, hD⟩ : ∃ D, w.heap.size = D := ⟨_, rfl⟩
  obtain ⟨E, hE⟩ : ∃ E, w.heap.size + 1 = E := ⟨_, rfl⟩
  have HDE : Hid (D ≠ E ∧ w.heap.size ≤ D ∧ w.heap.size ≤ E) := Lib.hid (by omega)
  rw [hD] at HD0; rw [hE] at HE0
  rcases hd' with c1 | ⟨c1, c2⟩
  all_goals
    go_enter Tryz.func60, Tryz.ntmps60
    go_upto_region 1 with fail
    obtain ⟨y, hy⟩ : ∃ y, (w.alloc (.cells (bqA o q g r (.slice p tn tc)) 33)).alloc (.cells (bqA 0 0 0 0 (.slice none 0 0)) 33) = y := ⟨_, rfl⟩
    rw [hy] at HB0 HD0 HE0 ⊢
    try rw [hE]
    try rw [hD]
    try rw [show D + 1 = E from by omega]
    clear hy hE hD
    obtain ⟨d0, d1, d2, d3, d4⟩ := HD0.out.all
    obtain ⟨e0, e1, e2, e3, e4⟩ := HE0.out.all
    obtain ⟨f0, f1, f2, f3, f4⟩ := HE0.out.free
    go_wp2_with fail
    change bodyPost _ _ _ _ _ (set5 y E (.int .i64 o) (.int .i64 q) (.int .i64 g) (.int .i64 r) (.slice p tn tc))
    have hz : BqAt E o q g r (.slice p tn tc) (set5 y E (.int .i64 o) (.int .i64 q) (.int .i64 g) (.int .i64 r) (.slice p tn tc)) := set5_at HE0.out _ _ _ _ _
    have HZB := Lib.hid (set5_below HB0.out HDE.out.2.2 (.int .i64 o) (.int .i64 q) (.int .i64 g) (.int .i64 r) (.slice p tn tc))
    obtain ⟨z4, hz4⟩ : ∃ z4, set5 y E (.int .i64 o) (.int .i64 q) (.int .i64 g) (.int .i64 r) (.slice p tn tc) = z4 := ⟨_, rfl⟩
    rw [hz4] at hz HZB ⊢
    clear hz4 d0 d1 d2 d3 d4 e0 e1 e2 e3 e4
    obtain ⟨g0, g1', g2, g3, g4⟩ := hz.all
    exact bodyPost_ret (v := .tuple #[bqV o q g r (.slice p tn tc), .int .i64 0, .int .i64 2]) (by simp [results, Tryz.results60, go_sem, g0, g1', g2, g3, g4]) rfl ⟨rfl, HZB.out⟩
end Go.Proofs.YtfemgekhpcgliaaGreat.Bt
