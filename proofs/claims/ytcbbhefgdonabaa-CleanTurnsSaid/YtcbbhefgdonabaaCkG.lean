/- Several texts in one: CeG; CeF; CeH. -/
import Derived.Test.YtcbbhefgdonabaaCkF
/- The document's list of entries: find, Add. (Written by gen_ceg.py.) -/
namespace Go.Proofs.Ytcbbhefgdonabaa.Bt
open Go Go.RowKit Go.Shelf
set_option linter.unusedVariables false
set_option linter.unusedSimpArgs false
set_option maxRecDepth 100000
theorem Try.infoRef : (Try.prog.info? 41).map (fun i => (i.zero, i.size, i.bytes)) = some (some (.agg #[.int .u64 0, .int .u8 0, .int .u8 0, .int .u64 0]), 4, 24) := by kernel_rfl
theorem notRef : NotAr 41 := by unfold NotAr; decide
/-- the document's row -/
structure DocE (p : Option Addr) (cap : Nat) (L : List Ent) (w : World) : Prop where
  row : RowG 41 eL 4 p L w
  cp : L.length ≤ cap
  nl : p = none → cap = 0
theorem DocE.below {p : Option Addr} {cap : Nat} {L : List Ent} {x y : World} (h : DocE p cap L x) (hb : Below x.heap.size x y) : DocE p cap L y := ⟨h.row.below hb, h.cp, h.nl⟩
theorem DocE.went {p : Option Addr} {cap : Nat} {L : List Ent} {A : Nat} {s : ASt} {x y : World} (h : DocE p cap L x) (ho : On A s x) (hg : Went A x y) : DocE p cap L y := ⟨h.row.went notRef ho hg, h.cp, h.nl⟩
theorem DocE.cells {p : Option Addr} {cap : Nat} {L : List Ent} {w : World} (h : DocE p cap L w) {j : Nat} {e : Ent} (hj : L[j]? = some e) :
    ∃ g, p = some ⟨g, 0, none⟩ ∧ g < w.heap.size ∧ w.cell? ⟨g, j * 4, none⟩ = some (.int .u64 (e.i : Int)) ∧ w.cell? ⟨g, j * 4 + 1, none⟩ = some (.int .u8 (e.k : Int)) ∧ w.cell? ⟨g, j * 4 + 2, none⟩ = some (.int .u8 (e.l : Int)) ∧ w.cell? ⟨g, j * 4 + 3, none⟩ = some (.int .u64 (e.x : Int)) := by
  obtain ⟨g, hp, hg, hc⟩ := h.row.cell hj
  exact ⟨g, hp, hg, hc 0 _ rfl, hc 1 _ rfl, hc 2 _ rfl, hc 3 _ rfl⟩
theorem DocE.empty (w : World) : DocE none 0 [] w := ⟨RowG.nil _ _ _ _ _, Nat.le_refl _, fun _ => rfl⟩
theorem eL_ones (y : Ent) : ∀ u ∈ eL y, u.oneCell' = true := by simp [eL, Value.oneCell']
theorem app_nn (w : World) (ty : TypeId) : (Builtin.append_ #[32, 32] ty #[.slice none 0 0, .slice none 0 0]).run Try.prog w = .ok (.slice none 0 0) w := by
  simp [go_sem, Try.underlying32, Try.infoRef]
section
variable {w : World} {L : List Ent}
set_option maxHeartbeats 2000000 in
theorem dfind21 (p : Option Addr) (cap id : Nat) (hD : DocE p cap L w) (hn : L.length ≤ 100) :
    Calls Try.prog 34 #[.slice p L.length cap, .int .u64 (id : Int)] w (Gives (.int .i64 (ixV L id)) w) := by
  have HR := Lib.hid hD
  obtain ⟨n, hnn⟩ : ∃ n, L.length = n := ⟨_, rfl⟩
  have HN := Lib.hid hnn
  rw [hnn] at hn
  rw [hnn]
  clear hD hnn
  go_enter Try.func34, Try.ntmps34
  go_wp2_with fail
  go_loopw [9] (fun s9 wr => ∃ j : Nat, j ≤ n ∧ s9 = .int .i64 (j : Int) ∧ Hid (j ≤ ixE L id) ∧ Hid (Below w.heap.size w wr)) (fun s9 _ => n - (intOf s9).toNat)
  case atStart => exact ⟨0, Nat.zero_le _, rfl, Lib.hid (Nat.zero_le _), Lib.hid (Below.refl _ _)⟩
  case round =>
    obtain ⟨j, hj, rfl, HJ, HB⟩ := hrel
    by_cases hjn : j < n
    · have hjn2 : (j : Int) < (n : Int) := by omega
      obtain ⟨E, hE⟩ : ∃ E, L[j]? = some E := ⟨_, List.getElem?_eq_getElem (by have := HN.out; omega)⟩
      obtain ⟨g, rfl, hg, q0, q1, q2, q3⟩ := (HR.out.below HB.out).cells hE
      have HE := Lib.hid hE
      have HB2 := Lib.hid (HB.out.alloc HB.out.size (.cells #[.int .u64 (E.i : Int), .int .u8 (E.k : Int), .int .u8 (E.l : Int), .int .u64 (E.x : Int)] 41))
      clear hE
      by_cases hid : E.i = id
      · have HX : Hid (ixV L id = (j : Int)) := Lib.hid (by
          have h1 := ixE_at HE.out HJ.out hid
          unfold ixV
          rw [h1, if_pos (by have := HN.out; omega)])
        have d : ((E.i : Int) == (id : Int)) = true := by simp [hid]
        have d2 : decide ((E.i : Int) = (id : Int)) = true := by simp [hid]
        clear hid
        go_wp2_with fail
        go_ret
        exact ⟨by rw [HX.out]; rfl, HB2.out⟩
      · have HX := Lib.hid (ixE_next HE.out HJ.out hid)
        have d : ((E.i : Int) == (id : Int)) = false := by simp; omega
        have d2 : decide ((E.i : Int) = (id : Int)) = false := by simp; omega
        clear hid
        go_wp2_with fail
        go_roundw
        case rel => exact ⟨j + 1, by omega, by go_num, HX, HB2⟩
        case measure => simp [intOf]; omega
    · have hjn2 : ¬ (j : Int) < (n : Int) := by omega
      have HX : Hid (ixV L id = -1) := Lib.hid (by
        unfold ixV
        rw [if_neg (by have := HJ.out; have := HN.out; omega)])
      go_wp2_with fail
      go_ret
      exact ⟨by rw [HX.out]; rfl, HB.out⟩
/-- what the document's Add answers -/
def DAdd (L : List Ent) (n : Nat) (e : Ent) (w : World) (en : Ending) (w' : World) : Prop :=
  ∃ p cap, en = .returned (.tuple #[.slice p (if addE L n e = 0 then L ++ [e] else L).length cap, .int .i64 (addE L n e)]) ∧ DocE p cap (if addE L n e = 0 then L ++ [e] else L) w' ∧ Below w.heap.size w w'
set_option maxHeartbeats 4000000 in
theorem dadd21 (p : Option Addr) (cap n : Nat) (e : Ent) (hD : DocE p cap L w) (hn : L.length ≤ n) (hn2 : n ≤ 100) :
    Calls Try.prog 14 #[.slice p L.length cap, .int .i64 (n : Int), eV e] w (DAdd L n e w) := by
  obtain ⟨i0, hi, hz0, hz1, hz2⟩ := info_parts Try.infoRef
  have HI := Lib.hid hi; have HZ0 := Lib.hid hz0; have HZ1 := Lib.hid hz1; have HZ2 := Lib.hid hz2
  clear hi hz0 hz1 hz2
  have HD := Lib.hid hD
  have HFI := Lib.hid fun (X : World) (hX : Below w.heap.size w X) => dfind21 (w := X) p cap e.i (hD.below hX) (by omega)
  have HB0 := Lib.hid (bel1 w (.cells #[.int .u64 (e.i : Int), .int .u8 (e.k : Int), .int .u8 (e.l : Int), .int .u64 (e.x : Int)] 41))
  obtain ⟨l, hl⟩ : ∃ l, L.length = l := ⟨_, rfl⟩
  have HL := Lib.hid hl
  rw [hl] at HFI hn
  rw [hl]
  clear hD hl
  by_cases hz : e.i = 0
  · have HA : Hid (addE L n e = 2) := Lib.hid (by unfold addE; rw [if_pos (.inl hz)])
    have d1 : ((e.i : Int) == 0) = true := by simp [hz]
    have d2 : decide ((e.i : Int) = 0) = true := by simp [hz]
    clear hz
    go_enter Try.func14, Try.ntmps14
    go_wp2_with fail
    go_ret2
    refine ⟨p, cap, ?_, ?_, HB0.out⟩
    · rw [HA.out, if_neg (by decide), HL.out]; rfl
    · rw [HA.out, if_neg (by decide)]; exact HD.out.below HB0.out
  · have hz1 : ¬ ((e.i : Int) = 0) := by omega
    have d1 : ((e.i : Int) == 0) = false := by simpa using hz1
    by_cases hg : 281474976710655 < e.i
    · have HA : Hid (addE L n e = 2) := Lib.hid (by unfold addE; rw [if_pos (.inr hg)])
      have d2 : (281474976710655 : Int) < (e.i : Int) := by omega
      clear hz hg
      go_enter Try.func14, Try.ntmps14
      go_wp2_with fail
      go_ret2
      refine ⟨p, cap, ?_, ?_, HB0.out⟩
      · rw [HA.out, if_neg (by decide), HL.out]; rfl
      · rw [HA.out, if_neg (by decide)]; exact HD.out.below HB0.out
    · have d2 : ¬ ((281474976710655 : Int) < (e.i : Int)) := by omega
      have d3 : (e.i : Int) ≤ 281474976710655 := by omega
      have hne : ¬ (e.i = 0 ∨ 281474976710655 < e.i) := by omega
      by_cases hx : ixE L e.i < L.length
      · have HA : Hid (addE L n e = 9) := Lib.hid (by unfold addE; rw [if_neg hne, if_pos hx])
        obtain ⟨r, hr⟩ : ∃ r, ixV L e.i = r := ⟨_, rfl⟩
        have hr0 : 0 ≤ r := by rw [← hr]; unfold ixV; rw [if_pos hx]; omega
        rw [hr] at HFI
        clear hz hz1 hg hne hx hr
        go_enter Try.func14, Try.ntmps14
        go_wp2_with fail
        refine (HFI.out _ HB0.out).mono ?_
        rintro e1 w1 ⟨rfl, hb⟩
        have HB1 := Lib.hid (HB0.out.trans (hb.mono (by simp)))
        clear hb
        go_wp2_with fail
        go_ret2
        refine ⟨p, cap, ?_, ?_, HB1.out⟩
        · rw [HA.out, if_neg (by decide), HL.out]; rfl
        · rw [HA.out, if_neg (by decide)]; exact HD.out.below HB1.out
      · have hr : ixV L e.i = -1 := by unfold ixV; rw [if_neg hx]
        rw [hr] at HFI
        by_cases hf : l = n
        · have HA : Hid (addE L n e = 10) := Lib.hid (by unfold addE; rw [if_neg hne, if_neg hx, if_pos (by rw [HL.out]; exact hf)])
          have hge : (n : Int) ≤ (l : Int) := by omega
          clear hz hz1 hg hne hx hr hf
          go_enter Try.func14, Try.ntmps14
          go_wp2_with fail
          refine (HFI.out _ HB0.out).mono ?_
          rintro e1 w1 ⟨rfl, hb⟩
          have HB1 := Lib.hid (HB0.out.trans (hb.mono (by simp)))
          clear hb
          go_wp2_with fail
          go_ret2
          refine ⟨p, cap, ?_, ?_, HB1.out⟩
          · rw [HA.out, if_neg (by decide), HL.out]; rfl
          · rw [HA.out, if_neg (by decide)]; exact HD.out.below HB1.out
        · have HA : Hid (addE L n e = 0) := Lib.hid (by unfold addE; rw [if_neg hne, if_neg hx, if_neg (by rw [HL.out]; exact hf)])
          have hge : ¬ ((n : Int) ≤ (l : Int)) := by omega
          have hln : l ≤ 100 := by omega
          have HVC := Lib.hid (heap_new w (.cells #[.int .u64 (e.i : Int), .int .u8 (e.k : Int), .int .u8 (e.l : Int), .int .u64 (e.x : Int)] 41))
          clear hz hz1 hg hne hx hr hf
          go_enter Try.func14, Try.ntmps14
          go_wp2_with fail
          refine (HFI.out _ HB0.out).mono ?_
          rintro e1 w1 ⟨rfl, hb⟩
          have HB1 := Lib.hid (HB0.out.trans (hb.mono (by simp)))
          have HV1 := Lib.hid (blk_at hb HVC.out)
          obtain ⟨V, hV⟩ : ∃ V, w.heap.size = V := ⟨_, rfl⟩
          have hv1 := HV1.out
          rw [hV] at hv1
          rw [hV]
          have HV2 := Lib.hid hv1
          have HVV := Lib.hid hV
          obtain ⟨b0, hb0⟩ : ∃ b0, w1.heap.size = b0 := ⟨_, rfl⟩
          have HST := Lib.hid (RwG.start 41 eL 4 w1 hb0)
          have HB0' := Lib.hid hb0
          have hbz : b0 ≤ w1.heap.size := by omega
          have HVB : Hid (V < b0) := Lib.hid (by have := (Array.getElem?_eq_some_iff.1 hv1).1; omega)
          clear hb hV hv1 hb0 HV1 HVC
          cases p with
          | none =>
            obtain rfl := HD.out.nl rfl
            have hl0 : l = 0 := by have := HD.out.cp; have := HL.out; omega
            subst hl0
            have HE : Hid (L = []) := Lib.hid (List.eq_nil_of_length_eq_zero HL.out)
            have happ := app_nn (w := w1)
            go_upto_region 9 with fail
            have c0 := (cell_blk HV2.out 0).1; have c1 := (cell_blk HV2.out 1).1; have c2 := (cell_blk HV2.out 2).1; have c3 := (cell_blk HV2.out 3).1
            have HR4 := Lib.hid (HST.out.below (bel1 w1 (.cells #[.int .u64 (e.i : Int), .int .u8 (e.k : Int), .int .u8 (e.l : Int), .int .u64 (e.x : Int)] 41)))
            have HBZ := Lib.hid (HR4.out.sz)
            have how := HR4.out.ow
            simp only [List.length_nil] at how
            clear happ HST
            go_wp2_with (at_builtin; refine wpList_append_own _ rfl _ _ 32 rfl b0 41 i0 (.agg #[.int .u64 0, .int .u8 0, .int .u8 0, .int .u64 0]) 4 24 Try.underlying32 HI.out HZ0.out HZ1.out HZ2.out rfl (by decide) _ _ _ rfl how ⟨_, 0, none⟩ 1 1 (eL e) rfl rfl (encG_new _ _ rfl (by simp)) (by simp [eL, Value.oneCell']) (by unfold maxLen; omega) (by omega) (by first | exact HBZ.out | (simp; omega)) ?_; intro v' w6 hown' hgrow _)
            have HF : Hid (RwG 41 eL 4 b0 (L ++ [e]) v' w1 w6) := Lib.hid (by
              have := HR4.out.app e hgrow hown'
              rw [HE.out]; exact this)
            have HBW : Hid (Below w.heap.size w w6) := Lib.hid (HB1.out.trans (HF.out.bl.mono (by rw [← HB0'.out]; exact HB1.out.size)))
            clear hown' hgrow HR4 how
            obtain ⟨p', cap', rfl, h1, h2, h3⟩ := HF.out.row2 eL_len
            have HRE := Lib.hid (show DocE p' cap' (L ++ [e]) w6 from ⟨h3, h1, h2⟩)
            have hlen : (L ++ [e]).length = 0 + 1 := by rw [List.length_append, HL.out]; rfl
            rw [hlen]
            clear h1 h2 h3 HF hlen
            go_wp2_with fail
            go_ret2
            refine ⟨p', cap', ?_, ?_, HBW.out⟩
            · rw [HA.out, if_pos rfl, List.length_append, HL.out]; rfl
            · rw [HA.out, if_pos rfl]; exact HRE.out
          | some ad =>
            have HSRC := Lib.hid ((HD.out.below HB1.out).row.src eL_len)
            have HBZ := Lib.hid hbz
            have how0 := HST.out.ow
            simp only [List.length_nil] at how0
            go_upto_region 9 with (at_builtin; refine wpList_append_own _ rfl _ _ 32 rfl b0 41 i0 (.agg #[.int .u64 0, .int .u8 0, .int .u8 0, .int .u64 0]) 4 24 Try.underlying32 HI.out HZ0.out HZ1.out HZ2.out rfl (by decide) _ _ _ rfl how0 ad l cap (flG eL L) rfl (by rw [flG_length eL_len, HL.out]) HSRC.out (flG_ones eL_ones L) (by unfold maxLen; omega) (by omega) (by first | exact HBZ.out | (simp; omega)) ?_; intro v' w6 hown' hgrow _)
            have HF6 : Hid (RwG 41 eL 4 b0 L v' w1 w6) := Lib.hid (by
              have := HST.out.apps L hgrow (by simpa [HL.out] using hown')
              simpa using this)
            have hv6 := (HF6.out.bl.block _ HVB.out).trans HV2.out
            clear hown' hgrow HST HSRC HBZ how0
            have c0 := (cell_blk hv6 0).1; have c1 := (cell_blk hv6 1).1; have c2 := (cell_blk hv6 2).1; have c3 := (cell_blk hv6 3).1
            have HR4 := Lib.hid (HF6.out.below (bel1 w6 (.cells #[.int .u64 (e.i : Int), .int .u8 (e.k : Int), .int .u8 (e.l : Int), .int .u64 (e.x : Int)] 41)))
            have HBZ := Lib.hid (HR4.out.sz)
            have how := HR4.out.ow
            rw [HL.out] at how
            clear HF6 hv6
            go_wp2_with (at_builtin; refine wpList_append_own _ rfl _ _ 32 rfl b0 41 i0 (.agg #[.int .u64 0, .int .u8 0, .int .u8 0, .int .u64 0]) 4 24 Try.underlying32 HI.out HZ0.out HZ1.out HZ2.out rfl (by decide) _ _ _ rfl how ⟨_, 0, none⟩ 1 1 (eL e) rfl rfl (encG_new _ _ rfl (by simp)) (by simp [eL, Value.oneCell']) (by unfold maxLen; omega) (by omega) (by first | exact HBZ.out | (simp; omega)) ?_; intro v2 w7 hown' hgrow _)
            have HF : Hid (RwG 41 eL 4 b0 (L ++ [e]) v2 w1 w7) := Lib.hid (by
              have := HR4.out.app e hgrow (by rw [HL.out]; exact hown')
              exact this)
            have HBW : Hid (Below w.heap.size w w7) := Lib.hid (HB1.out.trans (HF.out.bl.mono (by rw [← HB0'.out]; exact HB1.out.size)))
            clear hown' hgrow HR4 how
            obtain ⟨p', cap', rfl, h1, h2, h3⟩ := HF.out.row2 eL_len
            have HRE := Lib.hid (show DocE p' cap' (L ++ [e]) w7 from ⟨h3, h1, h2⟩)
            have hlen : (L ++ [e]).length = l + 1 := by rw [List.length_append, HL.out]; rfl
            rw [hlen]
            clear h1 h2 h3 HF hlen
            go_wp2_with fail
            go_ret2
            refine ⟨p', cap', ?_, ?_, HBW.out⟩
            · rw [HA.out, if_pos rfl, List.length_append, HL.out]; rfl
            · rw [HA.out, if_pos rfl]; exact HRE.out
end
end Go.Proofs.Ytcbbhefgdonabaa.Bt
/- A list of cleanups: Kill, Pop. (Written by gen_cef.py.) -/
namespace Go.Proofs.Ytcbbhefgdonabaa.Bt
open Go Go.RowKit Go.Shelf
set_option linter.unusedVariables false
set_option linter.unusedSimpArgs false
set_option maxRecDepth 100000
abbrev zE : Value := .agg #[.int .u64 0, .int .u8 0, .int .u8 0, .int .u64 0]
section
variable {A vs : Nat} {m : Nat → UInt8} {w : World} {L : List Ent}
theorem ckill_nil (id : Nat) : Calls Try.prog 9 #[zvV, .int .u64 (id : Int)] w (Gives (.tuple #[zE, .int .i64 1]) w) := by
  have HF0 := Lib.hid (((Fb.start w).new zvC 29).new #[.int .u64 0, .int .u8 0, .int .u8 0, .int .u64 0] 35)
  go_enter Try.func9, Try.ntmps9
  go_upto_region 1 with fail
  change Code.wp _ _ _ _ ((w.alloc (.cells zvC 29)).alloc (.cells #[.int .u64 0, .int .u8 0, .int .u8 0, .int .u64 0] 35))
  obtain ⟨y, hy⟩ : ∃ y, ((w.alloc (.cells zvC 29)).alloc (.cells #[.int .u64 0, .int .u8 0, .int .u8 0, .int .u64 0] 35)) = y := ⟨_, rfl⟩
  obtain ⟨B0, hB0⟩ : ∃ B, w.heap.size = B := ⟨_, rfl⟩
  obtain ⟨B1, hB1⟩ : ∃ B, (w.alloc (.cells zvC 29)).heap.size = B := ⟨_, rfl⟩
  have hC1 : w.heap.size + 1 = B1 := by rw [← hB1]; simp
  have hf := HF0.out
  rw [hy, hB1, hB0] at hf
  rw [hy, hC1, hB0]
  have HF := Lib.hid hf
  clear hf HF0 hy hB0 hB1 hC1
  have c0 := HF.out.cell1 0 rfl
  have o0 := HF.out.cell0 0 rfl; have o1 := HF.out.cell0 1 rfl; have o2 := HF.out.cell0 2 rfl; have o3 := HF.out.cell0 3 rfl
  have f0 := HF.out.free0 0; have f1 := HF.out.free0 1; have f2 := HF.out.free0 2; have f3 := HF.out.free0 3
  go_wp2_with fail
  have hst : Fb w [⟨B1, #[.int .u64 0, .int .u8 0, .int .u8 0, .int .u64 0], 35⟩, ⟨B0, zvC, 29⟩] (stR y B1 [.int .u64 0, .int .u8 0, .int .u8 0, .int .u64 0] 0) := HF.out.stores0 [.int .u64 0, .int .u8 0, .int .u8 0, .int .u64 0] 0
  change bodyPost _ _ _ _ _ (stR y B1 [.int .u64 0, .int .u8 0, .int .u8 0, .int .u64 0] 0)
  obtain ⟨z, hzz⟩ : ∃ z, stR y B1 [.int .u64 0, .int .u8 0, .int .u8 0, .int .u64 0] 0 = z := ⟨_, rfl⟩
  rw [hzz] at hst ⊢
  have g0 := hst.cell0 0 rfl; have g1 := hst.cell0 1 rfl; have g2 := hst.cell0 2 rfl; have g3 := hst.cell0 3 rfl
  exact bodyPost_ret (v := .tuple #[zE, .int .i64 1]) (by simp [results, Try.results9, go_sem, g0, g1, g2, g3]) rfl ⟨rfl, hst.be⟩
set_option maxHeartbeats 4000000 in
theorem ckill_none (h : On A (cS m) w) (hv : vs ≤ 400) (hL : Ls m (vs / 24) L) (id : Nat) (hi : ¬ ixE L id < L.length) : Calls Try.prog 9 #[vwV A 40 vs, .int .u64 (id : Int)] w (Gives (.tuple #[zE, .int .i64 8]) w) := by
  have HO := Lib.hid h
  have hln : L.length ≤ 17 := by have := hL.len; omega
  have HLN := Lib.hid hln
  have HAL := Lib.hid fun X (hX : On A (cS m) X) => call hX hv hL
  obtain ⟨n, hn⟩ : ∃ n, L.length = n := ⟨_, rfl⟩
  have hr : ixV L id = -1 := by unfold ixV; rw [if_neg hi]
  have HR := Lib.hid hr
  have HN := Lib.hid hn
  clear hr hn h hi hln hL
  have HF0 := Lib.hid (((Fb.start w).new (vwC A 40 vs) 29).new #[.int .u64 0, .int .u8 0, .int .u8 0, .int .u64 0] 35)
  go_enter Try.func9, Try.ntmps9
  go_upto_region 1 with fail
  change Code.wp _ _ _ _ ((w.alloc (.cells (vwC A 40 vs) 29)).alloc (.cells #[.int .u64 0, .int .u8 0, .int .u8 0, .int .u64 0] 35))
  obtain ⟨y, hy⟩ : ∃ y, ((w.alloc (.cells (vwC A 40 vs) 29)).alloc (.cells #[.int .u64 0, .int .u8 0, .int .u8 0, .int .u64 0] 35)) = y := ⟨_, rfl⟩
  obtain ⟨B0, hB0⟩ : ∃ B, w.heap.size = B := ⟨_, rfl⟩
  obtain ⟨B1, hB1⟩ : ∃ B, (w.alloc (.cells (vwC A 40 vs) 29)).heap.size = B := ⟨_, rfl⟩
  have hC1 : w.heap.size + 1 = B1 := by rw [← hB1]; simp
  have hf := HF0.out
  rw [hy, hB1, hB0] at hf
  rw [hy, hC1, hB0]
  have HF := Lib.hid hf
  clear hf HF0 hy hB0 hB1 hC1
  have c0 := HF.out.cell1 0 rfl; have c1 := HF.out.cell1 1 rfl; have c2 := HF.out.cell1 2 rfl
  go_wp2_with fail
  refine (HAL.out _ (HO.out.below HF.out.be)).mono ?_
  rintro e1 w1 ⟨p, cap, rfl, hcap, hrow, hb⟩
  have HF1 := Lib.hid (HF.out.below hb)
  have HRW := Lib.hid (And.intro hrow hcap)
  clear hb HF c0 c1 c2 HAL hrow hcap
  go_wp2_with fail
  have HFI := Lib.hid (cfind (w := w1) p cap id HRW.out.1 (by have := HLN.out; omega))
  rw [HR.out, HN.out] at HFI
  rw [HN.out]
  refine HFI.out.mono ?_
  rintro e2 w2 ⟨rfl, hb⟩
  have HF2 := Lib.hid (HF1.out.below hb)
  have HRW2 := Lib.hid (And.intro (HRW.out.1.below hb) HRW.out.2)
  clear hb HF1 HFI HRW
  have o0 := HF2.out.cell0 0 rfl; have o1 := HF2.out.cell0 1 rfl; have o2 := HF2.out.cell0 2 rfl; have o3 := HF2.out.cell0 3 rfl
  have f0 := HF2.out.free0 0; have f1 := HF2.out.free0 1; have f2 := HF2.out.free0 2; have f3 := HF2.out.free0 3
  go_wp2_with fail
  have hst : Fb w [⟨B1, #[.int .u64 0, .int .u8 0, .int .u8 0, .int .u64 0], 35⟩, ⟨B0, vwC A 40 vs, 29⟩] (stR w2 B1 [.int .u64 0, .int .u8 0, .int .u8 0, .int .u64 0] 0) := HF2.out.stores0 [.int .u64 0, .int .u8 0, .int .u8 0, .int .u64 0] 0
  change bodyPost _ _ _ _ _ (stR w2 B1 [.int .u64 0, .int .u8 0, .int .u8 0, .int .u64 0] 0)
  obtain ⟨z, hzz⟩ : ∃ z, stR w2 B1 [.int .u64 0, .int .u8 0, .int .u8 0, .int .u64 0] 0 = z := ⟨_, rfl⟩
  rw [hzz] at hst ⊢
  have g0 := hst.cell0 0 rfl; have g1 := hst.cell0 1 rfl; have g2 := hst.cell0 2 rfl; have g3 := hst.cell0 3 rfl
  exact bodyPost_ret (v := .tuple #[zE, .int .i64 8]) (by simp [results, Try.results9, go_sem, g0, g1, g2, g3]) rfl ⟨rfl, hst.be⟩
set_option maxHeartbeats 8000000 in
theorem ckill_yes (h : On A (cS m) w) (hv : vs ≤ 400) (hL : Ls m (vs / 24) L) (id : Nat) (i : Nat) (hi : ixE L id = i) (E : Ent) (hE : L[i]? = some E) : Calls Try.prog 9 #[vwV A 40 vs, .int .u64 (id : Int)] w (Ret A (cS (rmE m i L.length)) (.tuple #[eV E, .int .i64 0]) w) := by
  have HO := Lib.hid h
  have hlt := (List.getElem?_eq_some_iff.1 hE).1
  have hln : L.length ≤ 17 := by have := hL.len; omega
  have HLN := Lib.hid hln
  have HAL := Lib.hid fun X (hX : On A (cS m) X) => call hX hv hL
  obtain ⟨n, hn⟩ : ∃ n, L.length = n := ⟨_, rfl⟩
  have HRM := Lib.hid fun X (hX : On A (cS m) X) => cremove hX hv i n (by omega) (by have := hL.len; omega)
  have hr : ixV L id = (i : Int) := by unfold ixV; rw [hi, if_pos hlt]
  have HR := Lib.hid hr
  have HN := Lib.hid hn
  have HE := Lib.hid hE
  have hin : (i : Int) < (n : Int) := by omega
  have hin2 : i < n := by omega
  have hin0 : (0 : Int) ≤ (i : Int) := by omega
  have hin3 : ¬ ((i : Int) < 0) := by omega
  rw [hn]
  clear hr hn hi hln hL hlt hE
  have f0_ := Fr.start A w
  have f1_ := f0_.new h (vwC A 40 vs) 29 (by unfold NotAr; decide)
  have h1_ := h.below (bel1 _ (.cells (vwC A 40 vs) 29))
  have f2_ := f1_.new h1_ #[.int .u64 0, .int .u8 0, .int .u8 0, .int .u64 0] 35 (by unfold NotAr; decide)
  have h2_ := h1_.below (bel1 _ (.cells #[.int .u64 0, .int .u8 0, .int .u8 0, .int .u64 0] 35))
  have HF0 := Lib.hid (And.intro f2_ h2_)
  clear f0_ f1_ f2_ h1_ h2_ h
  go_enter Try.func9, Try.ntmps9
  go_upto_region 1 with fail
  change Code.wp _ _ _ _ ((w.alloc (.cells (vwC A 40 vs) 29)).alloc (.cells #[.int .u64 0, .int .u8 0, .int .u8 0, .int .u64 0] 35))
  obtain ⟨y, hy⟩ : ∃ y, ((w.alloc (.cells (vwC A 40 vs) 29)).alloc (.cells #[.int .u64 0, .int .u8 0, .int .u8 0, .int .u64 0] 35)) = y := ⟨_, rfl⟩
  obtain ⟨B0, hB0⟩ : ∃ B, w.heap.size = B := ⟨_, rfl⟩
  obtain ⟨B1, hB1⟩ : ∃ B, (w.alloc (.cells (vwC A 40 vs) 29)).heap.size = B := ⟨_, rfl⟩
  have hC1 : w.heap.size + 1 = B1 := by rw [← hB1]; simp
  have hf := HF0.out
  rw [hy, hB1, hB0] at hf
  rw [hy, hC1, hB0]
  have HF := Lib.hid hf
  clear hf HF0 hy hB0 hB1 hC1
  have c0 := HF.out.1.cell1 0 rfl; have c1 := HF.out.1.cell1 1 rfl; have c2 := HF.out.1.cell1 2 rfl
  go_wp2_with fail
  refine (HAL.out _ HF.out.2).mono ?_
  rintro e1 w1 ⟨p, cap, rfl, hcap, hrow, hb⟩
  have HF1 := Lib.hid (And.intro (HF.out.1.below HF.out.2 hb) (HF.out.2.below hb))
  have HRW := Lib.hid (And.intro hrow hcap)
  clear hb HF c0 c1 c2 HAL hrow hcap
  go_wp2_with fail
  have HFI := Lib.hid (cfind (w := w1) p cap id HRW.out.1 (by have := HLN.out; omega))
  rw [HR.out, HN.out] at HFI
  rw [HN.out]
  refine HFI.out.mono ?_
  rintro e2 w2 ⟨rfl, hb⟩
  have HF2 := Lib.hid (And.intro (HF1.out.1.below HF1.out.2 hb) (HF1.out.2.below hb))
  have HRW2 := Lib.hid (And.intro (HRW.out.1.below hb) HRW.out.2)
  clear hb HF1 HFI HRW
  have c0 := HF2.out.1.cell1 0 rfl; have c1 := HF2.out.1.cell1 1 rfl; have c2 := HF2.out.1.cell1 2 rfl
  go_wp2_with fail
  refine (HRM.out _ HF2.out.2).mono ?_
  rintro e3 w3 ⟨rfl, ho, hg⟩
  have HF3 := Lib.hid (And.intro (HF2.out.1.went HF2.out.2 hg) ho)
  have hrow := HRW2.out.1.went notEnt HF2.out.2 hg
  have hcap := HRW2.out.2
  rw [HN.out] at hcap
  clear ho hg HF2 HRM c0 c1 c2 HRW2
  obtain ⟨g, rfl, hgl, q0, q1, q2, q3⟩ := rowE_cell hrow HE.out
  clear hrow hgl
  have o0 := HF3.out.1.cell0 0 rfl; have o1 := HF3.out.1.cell0 1 rfl; have o2 := HF3.out.1.cell0 2 rfl; have o3 := HF3.out.1.cell0 3 rfl
  have f0 := HF3.out.1.free0 0; have f1 := HF3.out.1.free0 1; have f2 := HF3.out.1.free0 2; have f3 := HF3.out.1.free0 3
  go_wp2_with fail
  have hst : Fr A w [⟨B1, #[.int .u64 (E.i : Int), .int .u8 (E.k : Int), .int .u8 (E.l : Int), .int .u64 (E.x : Int)], 35⟩, ⟨B0, vwC A 40 vs, 29⟩] (stR w3 B1 [.int .u64 (E.i : Int), .int .u8 (E.k : Int), .int .u8 (E.l : Int), .int .u64 (E.x : Int)] 0) ∧ On A (cS (rmE m i n)) (stR w3 B1 [.int .u64 (E.i : Int), .int .u8 (E.k : Int), .int .u8 (E.l : Int), .int .u64 (E.x : Int)] 0) := Fr.stores (L1 := []) [.int .u64 (E.i : Int), .int .u8 (E.k : Int), .int .u8 (E.l : Int), .int .u64 (E.x : Int)] 0 w3 _ HF3.out.1 HF3.out.2
  change bodyPost _ _ _ _ _ (stR w3 B1 [.int .u64 (E.i : Int), .int .u8 (E.k : Int), .int .u8 (E.l : Int), .int .u64 (E.x : Int)] 0)
  obtain ⟨z, hzz⟩ : ∃ z, stR w3 B1 [.int .u64 (E.i : Int), .int .u8 (E.k : Int), .int .u8 (E.l : Int), .int .u64 (E.x : Int)] 0 = z := ⟨_, rfl⟩
  rw [hzz] at hst ⊢
  have g0 := hst.1.cell0 0 rfl; have g1 := hst.1.cell0 1 rfl; have g2 := hst.1.cell0 2 rfl; have g3 := hst.1.cell0 3 rfl
  have HST := Lib.hid hst
  clear hst
  exact bodyPost_ret (v := .tuple #[eV E, .int .i64 0]) (by simp [results, Try.results9, go_sem, g0, g1, g2, g3]) rfl ⟨rfl, HST.out.2, HST.out.1.wt⟩
set_option maxHeartbeats 2000000 in
theorem cpop_nil : Calls Try.prog 11 #[zvV] w (Gives (.tuple #[zE, .bool false]) w) := by
  have HAL := Lib.hid fun X => call_nil X
  have HF0 := Lib.hid (((Fb.start w).new zvC 29).new #[.int .u64 0, .int .u8 0, .int .u8 0, .int .u64 0] 35)
  go_enter Try.func11, Try.ntmps11
  go_upto_region 1 with fail
  change Code.wp _ _ _ _ ((w.alloc (.cells zvC 29)).alloc (.cells #[.int .u64 0, .int .u8 0, .int .u8 0, .int .u64 0] 35))
  obtain ⟨y, hy⟩ : ∃ y, ((w.alloc (.cells zvC 29)).alloc (.cells #[.int .u64 0, .int .u8 0, .int .u8 0, .int .u64 0] 35)) = y := ⟨_, rfl⟩
  obtain ⟨B0, hB0⟩ : ∃ B, w.heap.size = B := ⟨_, rfl⟩
  obtain ⟨B1, hB1⟩ : ∃ B, (w.alloc (.cells zvC 29)).heap.size = B := ⟨_, rfl⟩
  have hC1 : w.heap.size + 1 = B1 := by rw [← hB1]; simp
  have hf := HF0.out
  rw [hy, hB1, hB0] at hf
  rw [hy, hC1, hB0]
  have HF := Lib.hid hf
  clear hf HF0 hy hB0 hB1 hC1
  have c0 := HF.out.cell1 0 rfl; have c1 := HF.out.cell1 1 rfl; have c2 := HF.out.cell1 2 rfl
  go_wp2_with fail
  refine (HAL.out _).mono ?_
  rintro e1 w1 ⟨p, cap, rfl, -, -, hb⟩
  have HF1 := Lib.hid (HF.out.below hb)
  clear hb HF c0 c1 c2 HAL
  have o0 := HF1.out.cell0 0 rfl; have o1 := HF1.out.cell0 1 rfl; have o2 := HF1.out.cell0 2 rfl; have o3 := HF1.out.cell0 3 rfl
  have f0 := HF1.out.free0 0; have f1 := HF1.out.free0 1; have f2 := HF1.out.free0 2; have f3 := HF1.out.free0 3
  go_wp2_with fail
  have hst : Fb w [⟨B1, #[.int .u64 0, .int .u8 0, .int .u8 0, .int .u64 0], 35⟩, ⟨B0, zvC, 29⟩] (stR w1 B1 [.int .u64 0, .int .u8 0, .int .u8 0, .int .u64 0] 0) := HF1.out.stores0 [.int .u64 0, .int .u8 0, .int .u8 0, .int .u64 0] 0
  change bodyPost _ _ _ _ _ (stR w1 B1 [.int .u64 0, .int .u8 0, .int .u8 0, .int .u64 0] 0)
  obtain ⟨z, hzz⟩ : ∃ z, stR w1 B1 [.int .u64 0, .int .u8 0, .int .u8 0, .int .u64 0] 0 = z := ⟨_, rfl⟩
  rw [hzz] at hst ⊢
  have g0 := hst.cell0 0 rfl; have g1 := hst.cell0 1 rfl; have g2 := hst.cell0 2 rfl; have g3 := hst.cell0 3 rfl
  exact bodyPost_ret (v := .tuple #[zE, .bool false]) (by simp [results, Try.results11, go_sem, g0, g1, g2, g3]) rfl ⟨rfl, hst.be⟩
set_option maxHeartbeats 2000000 in
theorem cpop_none (h : On A (cS m) w) (hv : vs ≤ 400) (hL : Ls m (vs / 24) []) : Calls Try.prog 11 #[vwV A 40 vs] w (Gives (.tuple #[zE, .bool false]) w) := by
  have HAL := Lib.hid fun X (hX : On A (cS m) X) => call hX hv hL
  have HO := Lib.hid h
  clear h hL
  have HF0 := Lib.hid (((Fb.start w).new (vwC A 40 vs) 29).new #[.int .u64 0, .int .u8 0, .int .u8 0, .int .u64 0] 35)
  go_enter Try.func11, Try.ntmps11
  go_upto_region 1 with fail
  change Code.wp _ _ _ _ ((w.alloc (.cells (vwC A 40 vs) 29)).alloc (.cells #[.int .u64 0, .int .u8 0, .int .u8 0, .int .u64 0] 35))
  obtain ⟨y, hy⟩ : ∃ y, ((w.alloc (.cells (vwC A 40 vs) 29)).alloc (.cells #[.int .u64 0, .int .u8 0, .int .u8 0, .int .u64 0] 35)) = y := ⟨_, rfl⟩
  obtain ⟨B0, hB0⟩ : ∃ B, w.heap.size = B := ⟨_, rfl⟩
  obtain ⟨B1, hB1⟩ : ∃ B, (w.alloc (.cells (vwC A 40 vs) 29)).heap.size = B := ⟨_, rfl⟩
  have hC1 : w.heap.size + 1 = B1 := by rw [← hB1]; simp
  have hf := HF0.out
  rw [hy, hB1, hB0] at hf
  rw [hy, hC1, hB0]
  have HF := Lib.hid hf
  clear hf HF0 hy hB0 hB1 hC1
  have c0 := HF.out.cell1 0 rfl; have c1 := HF.out.cell1 1 rfl; have c2 := HF.out.cell1 2 rfl
  go_wp2_with fail
  refine (HAL.out _ (HO.out.below HF.out.be)).mono ?_
  rintro e1 w1 ⟨p, cap, rfl, -, -, hb⟩
  have HF1 := Lib.hid (HF.out.below hb)
  clear hb HF c0 c1 c2 HAL
  have o0 := HF1.out.cell0 0 rfl; have o1 := HF1.out.cell0 1 rfl; have o2 := HF1.out.cell0 2 rfl; have o3 := HF1.out.cell0 3 rfl
  have f0 := HF1.out.free0 0; have f1 := HF1.out.free0 1; have f2 := HF1.out.free0 2; have f3 := HF1.out.free0 3
  go_wp2_with fail
  have hst : Fb w [⟨B1, #[.int .u64 0, .int .u8 0, .int .u8 0, .int .u64 0], 35⟩, ⟨B0, vwC A 40 vs, 29⟩] (stR w1 B1 [.int .u64 0, .int .u8 0, .int .u8 0, .int .u64 0] 0) := HF1.out.stores0 [.int .u64 0, .int .u8 0, .int .u8 0, .int .u64 0] 0
  change bodyPost _ _ _ _ _ (stR w1 B1 [.int .u64 0, .int .u8 0, .int .u8 0, .int .u64 0] 0)
  obtain ⟨z, hzz⟩ : ∃ z, stR w1 B1 [.int .u64 0, .int .u8 0, .int .u8 0, .int .u64 0] 0 = z := ⟨_, rfl⟩
  rw [hzz] at hst ⊢
  have g0 := hst.cell0 0 rfl; have g1 := hst.cell0 1 rfl; have g2 := hst.cell0 2 rfl; have g3 := hst.cell0 3 rfl
  exact bodyPost_ret (v := .tuple #[zE, .bool false]) (by simp [results, Try.results11, go_sem, g0, g1, g2, g3]) rfl ⟨rfl, hst.be⟩
set_option maxHeartbeats 8000000 in
theorem cpop_yes (h : On A (cS m) w) (hv : vs ≤ 400) (hL : Ls m (vs / 24) L) (i : Nat) (hi : L.length = i + 1) (E : Ent) (hE : L[i]? = some E) : Calls Try.prog 11 #[vwV A 40 vs] w (Ret A (cS (rmE m i L.length)) (.tuple #[eV E, .bool true]) w) := by
  have HO := Lib.hid h
  have hln : L.length ≤ 17 := by have := hL.len; omega
  have HLN := Lib.hid hln
  have HAL := Lib.hid fun X (hX : On A (cS m) X) => call hX hv hL
  obtain ⟨n, hn⟩ : ∃ n, L.length = n := ⟨_, rfl⟩
  have HRM := Lib.hid fun X (hX : On A (cS m) X) => cremove hX hv i n (by omega) (by have := hL.len; omega)
  have HN := Lib.hid hn
  have HE := Lib.hid hE
  have hq : (n : Int) - 1 = (i : Int) := by omega
  have hin : (i : Int) < (n : Int) := by omega
  have hin2 : i < n := by omega
  have hnz : ¬ ((n : Int) = 0) := by omega
  have hnz2 : ((n : Int) == 0) = false := by simpa using hnz
  have hnb : (n : Int) ≤ 17 := by omega
  have HQ := Lib.hid hq
  rw [hn]
  clear hn hi hln hL hE hnz hq
  have f0_ := Fr.start A w
  have f1_ := f0_.new h (vwC A 40 vs) 29 (by unfold NotAr; decide)
  have h1_ := h.below (bel1 _ (.cells (vwC A 40 vs) 29))
  have f2_ := f1_.new h1_ #[.int .u64 0, .int .u8 0, .int .u8 0, .int .u64 0] 35 (by unfold NotAr; decide)
  have h2_ := h1_.below (bel1 _ (.cells #[.int .u64 0, .int .u8 0, .int .u8 0, .int .u64 0] 35))
  have HF0 := Lib.hid (And.intro f2_ h2_)
  clear f0_ f1_ f2_ h1_ h2_ h
  go_enter Try.func11, Try.ntmps11
  go_upto_region 1 with fail
  change Code.wp _ _ _ _ ((w.alloc (.cells (vwC A 40 vs) 29)).alloc (.cells #[.int .u64 0, .int .u8 0, .int .u8 0, .int .u64 0] 35))
  obtain ⟨y, hy⟩ : ∃ y, ((w.alloc (.cells (vwC A 40 vs) 29)).alloc (.cells #[.int .u64 0, .int .u8 0, .int .u8 0, .int .u64 0] 35)) = y := ⟨_, rfl⟩
  obtain ⟨B0, hB0⟩ : ∃ B, w.heap.size = B := ⟨_, rfl⟩
  obtain ⟨B1, hB1⟩ : ∃ B, (w.alloc (.cells (vwC A 40 vs) 29)).heap.size = B := ⟨_, rfl⟩
  have hC1 : w.heap.size + 1 = B1 := by rw [← hB1]; simp
  have hf := HF0.out
  rw [hy, hB1, hB0] at hf
  rw [hy, hC1, hB0]
  have HF := Lib.hid hf
  clear hf HF0 hy hB0 hB1 hC1
  have c0 := HF.out.1.cell1 0 rfl; have c1 := HF.out.1.cell1 1 rfl; have c2 := HF.out.1.cell1 2 rfl
  go_wp2_with fail
  refine (HAL.out _ HF.out.2).mono ?_
  rintro e1 w1 ⟨p, cap, rfl, hcap, hrow, hb⟩
  have HF1 := Lib.hid (And.intro (HF.out.1.below HF.out.2 hb) (HF.out.2.below hb))
  have HRW := Lib.hid (And.intro hrow hcap)
  clear hb HF c0 c1 c2 HAL hrow hcap
  rw [HN.out]
  have c0 := HF1.out.1.cell1 0 rfl; have c1 := HF1.out.1.cell1 1 rfl; have c2 := HF1.out.1.cell1 2 rfl
  have hq := HQ.out
  go_wp2_with fail
  refine (HRM.out _ HF1.out.2).mono ?_
  rintro e3 w3 ⟨rfl, ho, hg⟩
  have HF3 := Lib.hid (And.intro (HF1.out.1.went HF1.out.2 hg) ho)
  have hrow := HRW.out.1.went notEnt HF1.out.2 hg
  have hcap := HRW.out.2
  rw [HN.out] at hcap
  clear ho hg HF1 HRM c0 c1 c2 HRW
  obtain ⟨g, rfl, hgl, q0, q1, q2, q3⟩ := rowE_cell hrow HE.out
  clear hrow hgl
  have o0 := HF3.out.1.cell0 0 rfl; have o1 := HF3.out.1.cell0 1 rfl; have o2 := HF3.out.1.cell0 2 rfl; have o3 := HF3.out.1.cell0 3 rfl
  have f0 := HF3.out.1.free0 0; have f1 := HF3.out.1.free0 1; have f2 := HF3.out.1.free0 2; have f3 := HF3.out.1.free0 3
  go_wp2_with fail
  have hst : Fr A w [⟨B1, #[.int .u64 (E.i : Int), .int .u8 (E.k : Int), .int .u8 (E.l : Int), .int .u64 (E.x : Int)], 35⟩, ⟨B0, vwC A 40 vs, 29⟩] (stR w3 B1 [.int .u64 (E.i : Int), .int .u8 (E.k : Int), .int .u8 (E.l : Int), .int .u64 (E.x : Int)] 0) ∧ On A (cS (rmE m i n)) (stR w3 B1 [.int .u64 (E.i : Int), .int .u8 (E.k : Int), .int .u8 (E.l : Int), .int .u64 (E.x : Int)] 0) := Fr.stores (L1 := []) [.int .u64 (E.i : Int), .int .u8 (E.k : Int), .int .u8 (E.l : Int), .int .u64 (E.x : Int)] 0 w3 _ HF3.out.1 HF3.out.2
  change bodyPost _ _ _ _ _ (stR w3 B1 [.int .u64 (E.i : Int), .int .u8 (E.k : Int), .int .u8 (E.l : Int), .int .u64 (E.x : Int)] 0)
  obtain ⟨z, hzz⟩ : ∃ z, stR w3 B1 [.int .u64 (E.i : Int), .int .u8 (E.k : Int), .int .u8 (E.l : Int), .int .u64 (E.x : Int)] 0 = z := ⟨_, rfl⟩
  rw [hzz] at hst ⊢
  have g0 := hst.1.cell0 0 rfl; have g1 := hst.1.cell0 1 rfl; have g2 := hst.1.cell0 2 rfl; have g3 := hst.1.cell0 3 rfl
  have HST := Lib.hid hst
  clear hst
  exact bodyPost_ret (v := .tuple #[eV E, .bool true]) (by simp [results, Try.results11, go_sem, g0, g1, g2, g3]) rfl ⟨rfl, HST.out.2, HST.out.1.wt⟩
end
end Go.Proofs.Ytcbbhefgdonabaa.Bt
/- The document's list of entries: Kill, Pop; rows that are equal; the statement's Of. (Written by gen_ceh.py.) -/
namespace Go.Proofs.Ytcbbhefgdonabaa.Bt
open Go Go.RowKit Go.Shelf
set_option linter.unusedVariables false
set_option linter.unusedSimpArgs false
set_option maxRecDepth 100000
theorem er_next {L : List Ent} {i j : Nat} {e : Ent} (h : L[j]? = some e) : (L.take (j + 1)).eraseIdx i = if j = i then (L.take j).eraseIdx i else (L.take j).eraseIdx i ++ [e] := by
  have hl : (L.take j).length = j := by rw [List.length_take]; have := (List.getElem?_eq_some_iff.1 h).1; omega
  rw [take_next h]
  by_cases c : i < j
  · rw [if_neg (by omega), List.eraseIdx_append_of_lt_length (by omega)]
  · rw [List.eraseIdx_append_of_length_le (by omega), hl, List.eraseIdx_of_length_le (l := L.take j) (by omega)]
    by_cases e2 : j = i
    · subst e2; simp
    · rw [if_neg e2, List.eraseIdx_of_length_le (l := [e]) (by simp; omega)]
section
variable {w : World} {L : List Ent}
set_option maxHeartbeats 4000000 in
theorem requal21 (u v : Option Addr) (ca cb : Nat) (hL : L.length ≤ 100) (hu : DocE u ca L w) (hv : DocE v cb L w) :
    Calls Try.prog 15 #[.slice u L.length ca, .slice v L.length cb] w (Gives (.bool true) w) := by
  obtain ⟨n, hn⟩ : ∃ n, L.length = n := ⟨_, rfl⟩
  have HN := Lib.hid hn
  have d1 : ((n : Int) != (n : Int)) = false := by simp
  have HU := Lib.hid hu; have HV := Lib.hid hv
  rw [hn] at hL ⊢
  clear hu hv hn
  go_enter Try.func15, Try.ntmps15
  go_wp2_with fail
  go_loopw [13] (fun i wr => ∃ j : Nat, j ≤ n ∧ i = .int .i64 (j : Int) ∧ Hid (Below w.heap.size w wr)) (fun i _ => n - (intOf i).toNat)
  case atStart => exact ⟨0, Nat.zero_le _, rfl, Lib.hid (Below.refl _ _)⟩
  case round =>
    obtain ⟨j, hj, rfl, HW⟩ := hrel
    by_cases hlt : j < n
    · obtain ⟨E, hE⟩ : ∃ E, L[j]? = some E := ⟨_, List.getElem?_eq_getElem (by have := HN.out; omega)⟩
      obtain ⟨gu, rfl, -, p0, p1, p2, p3⟩ := (HU.out.below HW.out).cells hE
      obtain ⟨gv, rfl, -, q0, q1, q2, q3⟩ := (HV.out.below HW.out).cells hE
      obtain ⟨y1, y2, y3, y4⟩ := E
      simp only at p0 p1 p2 p3 q0 q1 q2 q3
      have i0 : 0 ≤ (j : Int) := by omega
      have i1 : (j : Int) < (n : Int) := by omega
      clear hE
      go_wp2_with fail
      go_region
      go_wp2_with fail
      refine ⟨⟨j + 1, by omega, by go_num, Lib.hid HW.out.drew⟩, by simp [intOf]; omega⟩
    · have i1 : ¬ (j : Int) < (n : Int) := by omega
      go_wp2_with fail
      go_ret
      exact ⟨rfl, HW.out⟩
/-- the statement's entries as the document's -/
def DRow (L : List Ent) (w : World) (e : Ending) (w' : World) : Prop := ∃ p cap, e = .returned (.slice p L.length cap) ∧ DocE p cap L w' ∧ Below w.heap.size w w'
set_option maxHeartbeats 4000000 in
theorem of21 (p : Option Addr) (cap : Nat) (hL : L.length ≤ 100) (hR : RowG 35 eL 4 p L w) : Calls Try.prog 16 #[.slice p L.length cap] w (DRow L w) := by
  obtain ⟨i0, hi, hz0, hz1, hz2⟩ := info_parts Try.infoRef
  have HI := Lib.hid hi; have HZ0 := Lib.hid hz0; have HZ1 := Lib.hid hz1; have HZ2 := Lib.hid hz2
  clear hi hz0 hz1 hz2
  have HR := Lib.hid hR
  obtain ⟨n, hn⟩ : ∃ n, L.length = n := ⟨_, rfl⟩
  have HN := Lib.hid hn
  obtain ⟨b0, hb0⟩ : ∃ b0, w.heap.size = b0 := ⟨_, rfl⟩
  have HB0 := Lib.hid hb0
  have HST := Lib.hid (RwG.start 41 eL 4 w hb0)
  rw [hn] at hL ⊢
  clear hR hn hb0
  go_enter Try.func16, Try.ntmps16
  go_wp2_with fail
  go_loopw [3, 8] (fun s3 s8 wr => ∃ (j : Nat) (v3 : Value), j ≤ n ∧ v3 = s3 ∧ s8 = .int .i64 (j : Int) ∧ Hid (RwG 41 eL 4 b0 (L.take j) v3 w wr)) (fun _ s8 _ => n - (intOf s8).toNat)
  case atStart => exact ⟨0, _, Nat.zero_le _, rfl, rfl, HST⟩
  case round =>
    clear HST
    obtain ⟨j, v3, hj, rfl, rfl, HG⟩ := hrel
    by_cases hjn : j < n
    · have hjn2 : (j : Int) < (n : Int) := by omega
      obtain ⟨E, hE⟩ : ∃ E, L[j]? = some E := ⟨_, List.getElem?_eq_getElem (by have := HN.out; omega)⟩
      have hbw : Below w.heap.size w wr := by rw [HB0.out]; exact HG.out.bl
      obtain ⟨g, rfl, hg, q0, q1, q2, q3⟩ := rowE_cell (HR.out.below hbw) hE
      have HTK := Lib.hid (take_next hE)
      have hlen : (L.take j).length ≤ 100 := by rw [List.length_take]; omega
      have HR4 := Lib.hid ((HG.out.below (bel1 wr (.cells #[.int .u64 (E.i : Int), .int .u8 (E.k : Int), .int .u8 (E.l : Int), .int .u64 (E.x : Int)] 35))).below (bel1 _ (.cells #[.int .u64 (E.i : Int), .int .u8 (E.k : Int), .int .u8 (E.l : Int), .int .u64 (E.x : Int)] 41)))
      have hsz := HG.out.sz
      clear hE hbw hg
      go_wp2_with (at_builtin; refine wpList_append_own _ rfl _ _ 32 rfl b0 41 i0 (.agg #[.int .u64 0, .int .u8 0, .int .u8 0, .int .u64 0]) 4 24 Try.underlying32 HI.out HZ0.out HZ1.out HZ2.out rfl (by decide) _ _ _ rfl HR4.out.ow ⟨_, 0, none⟩ 1 1 (eL E) rfl rfl (encG_new _ _ rfl (by simp)) (by simp [eL, Value.oneCell']) (by unfold maxLen; omega) (by omega) (by simp; omega) ?_; intro v' w6 hown' hgrow _)
      have HF : Hid (RwG 41 eL 4 b0 (L.take (j + 1)) v' w w6) := Lib.hid (by
        rw [HTK.out]
        exact HR4.out.app E hgrow hown')
      clear hown' hgrow HG HR4
      go_wp2_with fail
      go_roundw
      case rel => exact ⟨j + 1, _, by omega, rfl, by go_num, HF⟩
      case measure => simp [intOf]; omega
    · have hjn2 : ¬ (j : Int) < (n : Int) := by omega
      have hw := HG.out
      rw [List.take_of_length_le (by have := HN.out; omega)] at hw
      have HB := Lib.hid (show Below w.heap.size w wr by rw [HB0.out]; exact hw.bl)
      obtain ⟨p', cap', rfl, h1, h2, h3⟩ := hw.row2 eL_len
      have HRE := Lib.hid (show DocE p' cap' L wr from ⟨h3, h1, h2⟩)
      rw [HN.out]
      clear h1 h2 h3 hw HG
      go_wp2_with fail
      go_ret
      exact ⟨p', cap', by rw [HN.out]; rfl, HRE.out, HB.out⟩
set_option maxHeartbeats 4000000 in
theorem dkill21_none (p : Option Addr) (cap id : Nat) (hD : DocE p cap L w) (hn : L.length ≤ 100) (hi : ¬ ixE L id < L.length) :
    Calls Try.prog 10 #[.slice p L.length cap, .int .u64 (id : Int)] w (Gives (.tuple #[.slice p L.length cap, zE, .int .i64 8]) w) := by
  have HFI := Lib.hid fun (X : World) (hX : Below w.heap.size w X) => dfind21 (w := X) p cap id (hD.below hX) (by omega)
  have hr : ixV L id = -1 := by unfold ixV; rw [if_neg hi]
  rw [hr] at HFI
  obtain ⟨n, hnn⟩ : ∃ n, L.length = n := ⟨_, rfl⟩
  rw [hnn] at HFI
  rw [hnn]
  clear hD hn hi hr hnn
  have HF0 := Lib.hid ((Fb.start w).new #[.int .u64 0, .int .u8 0, .int .u8 0, .int .u64 0] 41)
  go_enter Try.func10, Try.ntmps10
  go_upto_region 1 with fail
  change Code.wp _ _ _ _ (w.alloc (.cells #[.int .u64 0, .int .u8 0, .int .u8 0, .int .u64 0] 41))
  obtain ⟨y, hy⟩ : ∃ y, (w.alloc (.cells #[.int .u64 0, .int .u8 0, .int .u8 0, .int .u64 0] 41)) = y := ⟨_, rfl⟩
  obtain ⟨B0, hB0⟩ : ∃ B, w.heap.size = B := ⟨_, rfl⟩
  have hf := HF0.out
  rw [hy, hB0] at hf
  rw [hy, hB0]
  have HF := Lib.hid hf
  clear hf HF0 hy hB0 
  go_wp2_with fail
  refine (HFI.out _ HF.out.be).mono ?_
  rintro e1 w1 ⟨rfl, hb⟩
  have HF1 := Lib.hid (HF.out.below hb)
  clear hb HF HFI
  have o0 := HF1.out.cell0 0 rfl; have o1 := HF1.out.cell0 1 rfl; have o2 := HF1.out.cell0 2 rfl; have o3 := HF1.out.cell0 3 rfl
  have f0 := HF1.out.free0 0; have f1 := HF1.out.free0 1; have f2 := HF1.out.free0 2; have f3 := HF1.out.free0 3
  go_wp2_with fail
  have hst : Fb w [⟨B0, #[.int .u64 0, .int .u8 0, .int .u8 0, .int .u64 0], 41⟩] (stR w1 B0 [.int .u64 0, .int .u8 0, .int .u8 0, .int .u64 0] 0) := HF1.out.stores0 [.int .u64 0, .int .u8 0, .int .u8 0, .int .u64 0] 0
  change bodyPost _ _ _ _ _ (stR w1 B0 [.int .u64 0, .int .u8 0, .int .u8 0, .int .u64 0] 0)
  obtain ⟨z, hzz⟩ : ∃ z, stR w1 B0 [.int .u64 0, .int .u8 0, .int .u8 0, .int .u64 0] 0 = z := ⟨_, rfl⟩
  rw [hzz] at hst ⊢
  have g0 := hst.cell0 0 rfl; have g1 := hst.cell0 1 rfl; have g2 := hst.cell0 2 rfl; have g3 := hst.cell0 3 rfl
  have HST := Lib.hid hst
  clear hst
  exact bodyPost_ret (v := .tuple #[.slice p n cap, zE, .int .i64 8]) (by simp [results, Try.results10, go_sem, g0, g1, g2, g3]) rfl ⟨rfl, HST.out.be⟩
/-- one that goes -/
def DGo (L : List Ent) (i : Nat) (E : Ent) (r : Value) (w : World) (e : Ending) (w' : World) : Prop := ∃ p cap, e = .returned (.tuple #[.slice p (L.eraseIdx i).length cap, eV E, r]) ∧ DocE p cap (L.eraseIdx i) w' ∧ (∀ g, p = some ⟨g, 0, none⟩ → L.eraseIdx i ≠ [] → w.heap.size ≤ g) ∧ Below w.heap.size w w'
/-- a store elsewhere -/
theorem DocE.far {p : Option Addr} {cap : Nat} {M : List Ent} {x : World} {B : Nat} (h : DocE p cap M x) (hB : ∀ g, p = some ⟨g, 0, none⟩ → M ≠ [] → g ≠ B) (vs : List Value) : DocE p cap M (stR x B vs 0) := by
  refine ⟨?_, h.cp, h.nl⟩
  rcases h.row with e | ⟨g, cur, hp, hg, hc⟩
  · exact .inl e
  · by_cases hM : M = []
    · exact .inl hM
    · exact .inr ⟨g, cur, hp, (stR_other (hB g hp hM) vs 0 x).trans hg, hc⟩
set_option maxHeartbeats 8000000 in
theorem dkill21_yes (p : Option Addr) (cap id i : Nat) (E : Ent) (hD : DocE p cap L w) (hn : L.length ≤ 100) (hi : ixE L id = i) (hE : L[i]? = some E) :
    Calls Try.prog 10 #[.slice p L.length cap, .int .u64 (id : Int)] w (DGo L i E (.int .i64 0) w) := by
  obtain ⟨i0, hi, hz0, hz1, hz2⟩ := info_parts Try.infoRef
  have HI := Lib.hid hi; have HZ0 := Lib.hid hz0; have HZ1 := Lib.hid hz1; have HZ2 := Lib.hid hz2
  clear hi hz0 hz1 hz2
  have HFI := Lib.hid fun (X : World) (hX : Below w.heap.size w X) => dfind21 (w := X) p cap id (hD.below hX) (by omega)
  have hil := (List.getElem?_eq_some_iff.1 hE).1
  have hr : ixV L id = (i : Int) := by unfold ixV; rw [hi, if_pos hil]
  rw [hr] at HFI
  have HD := Lib.hid hD
  have HE := Lib.hid hE
  obtain ⟨n, hnn⟩ : ∃ n, L.length = n := ⟨_, rfl⟩
  have HN := Lib.hid hnn
  rw [hnn] at HFI hn hil
  rw [hnn]
  have hin : (i : Int) < (n : Int) := by omega
  have hin0 : (0 : Int) ≤ (i : Int) := by omega
  have hin3 : ¬ ((i : Int) < 0) := by omega
  clear hD hi hr hnn hE
  have HF0 := Lib.hid ((Fb.start w).new #[.int .u64 0, .int .u8 0, .int .u8 0, .int .u64 0] 41)
  go_enter Try.func10, Try.ntmps10
  go_upto_region 1 with fail
  change Code.wp _ _ _ _ (w.alloc (.cells #[.int .u64 0, .int .u8 0, .int .u8 0, .int .u64 0] 41))
  obtain ⟨y, hy⟩ : ∃ y, (w.alloc (.cells #[.int .u64 0, .int .u8 0, .int .u8 0, .int .u64 0] 41)) = y := ⟨_, rfl⟩
  obtain ⟨B0, hB0⟩ : ∃ B, w.heap.size = B := ⟨_, rfl⟩
  have hf := HF0.out
  rw [hy, hB0] at hf
  rw [hy, hB0]
  have HF := Lib.hid hf
  clear hf HF0 hy hB0 
  go_wp2_with fail
  refine (HFI.out _ HF.out.be).mono ?_
  rintro e1 w1 ⟨rfl, hb⟩
  have HF1 := Lib.hid (HF.out.below hb)
  clear hb HF HFI
  obtain ⟨b0, hb0⟩ : ∃ b0, w1.heap.size = b0 := ⟨_, rfl⟩
  have HB0 := Lib.hid hb0
  have HST := Lib.hid (RwG.start 41 eL 4 w1 hb0)
  clear hb0
  go_wp2_with fail
  go_loopw [8, 20] (fun s8 s20 wr => ∃ (j : Nat) (v8 : Value), j ≤ n ∧ v8 = s8 ∧ s20 = .int .i64 (j : Int) ∧ Hid (RwG 41 eL 4 b0 ((L.take j).eraseIdx i) v8 w1 wr)) (fun _ s20 _ => n - (intOf s20).toNat)
  case atStart => exact ⟨0, _, Nat.zero_le _, rfl, rfl, HST⟩
  case round =>
    clear HST
    obtain ⟨j, v8, hj, rfl, rfl, HG⟩ := hrel
    have HFW : Hid (Fb w [⟨B0, #[.int .u64 0, .int .u8 0, .int .u8 0, .int .u64 0], 41⟩] wr) := Lib.hid (HF1.out.below (by rw [HB0.out]; exact HG.out.bl))
    by_cases hjn : j < n
    · have hjn2 : (j : Int) < (n : Int) := by omega
      obtain ⟨Y, hY⟩ : ∃ E, L[j]? = some E := ⟨_, List.getElem?_eq_getElem (by have := HN.out; omega)⟩
      obtain ⟨g, rfl, hg, q0, q1, q2, q3⟩ := (HD.out.below HFW.out.be).cells hY
      have HTK := Lib.hid (er_next (i := i) hY)
      have hlen : ((L.take j).eraseIdx i).length ≤ 100 := by
        have h1 := List.length_eraseIdx_le (L.take j) i
        rw [List.length_take] at h1
        omega
      have hsz := HG.out.sz
      by_cases hji : j = i
      · have d : ((j : Int) != (i : Int)) = false := by simp; omega
        have d2 : decide ((j : Int) ≠ (i : Int)) = false := by simp; omega
        have htk := HTK.out
        rw [if_pos hji] at htk
        have HTK2 := Lib.hid htk
        have HR4 := Lib.hid (HG.out.below (bel1 wr (.cells #[.int .u64 (Y.i : Int), .int .u8 (Y.k : Int), .int .u8 (Y.l : Int), .int .u64 (Y.x : Int)] 41)))
        clear hY hg hji htk
        go_wp2_with fail
        go_roundw
        case rel => exact ⟨j + 1, _, by omega, rfl, by go_num, by rw [HTK2.out]; exact HR4⟩
        case measure => simp [intOf]; omega
      · have d : ((j : Int) != (i : Int)) = true := by simp; omega
        have d2 : decide ((j : Int) ≠ (i : Int)) = true := by simp; omega
        have htk := HTK.out
        rw [if_neg hji] at htk
        have HTK2 := Lib.hid htk
        have HR4 := Lib.hid ((HG.out.below (bel1 wr (.cells #[.int .u64 (Y.i : Int), .int .u8 (Y.k : Int), .int .u8 (Y.l : Int), .int .u64 (Y.x : Int)] 41))).below (bel1 _ (.cells #[.int .u64 (Y.i : Int), .int .u8 (Y.k : Int), .int .u8 (Y.l : Int), .int .u64 (Y.x : Int)] 41)))
        clear hY hg hji htk
        go_wp2_with (at_builtin; refine wpList_append_own _ rfl _ _ 32 rfl b0 41 i0 (.agg #[.int .u64 0, .int .u8 0, .int .u8 0, .int .u64 0]) 4 24 Try.underlying32 HI.out HZ0.out HZ1.out HZ2.out rfl (by decide) _ _ _ rfl HR4.out.ow ⟨_, 0, none⟩ 1 1 (eL Y) rfl rfl (encG_new _ _ rfl (by simp)) (by simp [eL, Value.oneCell']) (by unfold maxLen; omega) (by omega) (by simp; omega) ?_; intro v' w6 hown' hgrow _)
        have HF : Hid (RwG 41 eL 4 b0 ((L.take (j + 1)).eraseIdx i) v' w1 w6) := Lib.hid (by
          rw [HTK2.out]
          exact HR4.out.app Y hgrow hown')
        clear hown' hgrow HG HR4
        go_wp2_with fail
        go_roundw
        case rel => exact ⟨j + 1, _, by omega, rfl, by go_num, HF⟩
        case measure => simp [intOf]; omega
    · have hjn2 : ¬ (j : Int) < (n : Int) := by omega
      have hw := HG.out
      rw [List.take_of_length_le (by have := HN.out; omega)] at hw
      have hge := hw.ge
      obtain ⟨p', cap', rfl, h1, h2, h3⟩ := hw.row2 eL_len
      have HRE := Lib.hid (show DocE p' cap' (L.eraseIdx i) wr from ⟨h3, h1, h2⟩)
      have HNEQ : Hid (∀ g, p' = some ⟨g, 0, none⟩ → L.eraseIdx i ≠ [] → g ≠ B0) := Lib.hid (fun g hp _ => by
        have h4 := hge _ _ _ (show Value.slice p' (L.eraseIdx i).length cap' = .slice (some ⟨g, 0, none⟩) (L.eraseIdx i).length cap' by rw [hp])
        have h5 := (Array.getElem?_eq_some_iff.1 HF1.out.at0).1
        have h6 := HB0.out
        omega)
      have hge_ : Hid (∀ g, p' = some ⟨g, 0, none⟩ → L.eraseIdx i ≠ [] → w.heap.size ≤ g) := Lib.hid (fun g hp _ => by
        have h4 := hge _ _ _ (show Value.slice p' (L.eraseIdx i).length cap' = .slice (some ⟨g, 0, none⟩) (L.eraseIdx i).length cap' by rw [hp])
        have h5 := HF1.out.be.size
        have h6 := HB0.out
        omega)
      clear hge
      obtain ⟨l', hl'⟩ : ∃ l', (L.eraseIdx i).length = l' := ⟨_, rfl⟩
      have HLE := Lib.hid hl'
      rw [hl']
      obtain ⟨g, rfl, hg, q0, q1, q2, q3⟩ := (HD.out.below HFW.out.be).cells HE.out
      clear h1 h2 h3 hw HG hg hl' q0 q1 q2 q3
      go_upto_region 11 with fail
      have hfw := HFW.out.below (Below.refl _ _).drew
      refine wp_region_held_drew (S := DocE (some ⟨g, 0, none⟩) cap L) (by kernel_rfl) (HD.out.below hfw.be) (fun hHeld => ?_)
      have HRE2 := Lib.hid (HRE.out.below (Below.refl _ _).drew)
      have HLT := Lib.hid (show B0 < wr.drew.heap.size from (Array.getElem?_eq_some_iff.1 hfw.at0).1)
      have HFW2 := Lib.hid hfw
      clear HFW HRE hfw
      generalize wr.drew = x at *
      refine wpAnyH_take (i := 0) (v := (.slice p' l' cap')) rfl (by kernel_rfl) (by kernel_rfl) (by kernel_rfl) (fun _ _ _ h => h) (Or.inl ⟨by rfl, fun X hS => ?_⟩) hHeld ?_
      · skip
        go_simp
      try simp only [Act.put, List.getElem_toArray, List.getElem_cons_zero, List.getElem_cons_succ, List.setIfInBounds_toArray, List.set_cons_zero, List.set_cons_succ]
      refine wpAnyH_take (i := 1) (v := (.slice (some ⟨g, 0, none⟩) n cap)) rfl (by kernel_rfl) (by kernel_rfl) (by kernel_rfl) (fun _ _ _ h => h) (Or.inl ⟨by rfl, fun X hS => ?_⟩) hHeld ?_
      · skip
        go_simp
      try simp only [Act.put, List.getElem_toArray, List.getElem_cons_zero, List.getElem_cons_succ, List.setIfInBounds_toArray, List.set_cons_zero, List.set_cons_succ]
      refine wpAnyH_take (i := 2) (v := (.int .i64 (i : Int))) rfl (by kernel_rfl) (by kernel_rfl) (by kernel_rfl) (fun _ _ _ h => h) (Or.inl ⟨by rfl, fun X hS => ?_⟩) hHeld ?_
      · skip
        go_simp
      try simp only [Act.put, List.getElem_toArray, List.getElem_cons_zero, List.getElem_cons_succ, List.setIfInBounds_toArray, List.set_cons_zero, List.set_cons_succ]
      refine wpAnyH_take (i := 3) (v := (.pointer (some ⟨g, i * 4, none⟩))) rfl (by kernel_rfl) (by kernel_rfl) (by kernel_rfl) (fun _ _ _ h => h) (Or.inl ⟨by rfl, fun X hS => ?_⟩) hHeld ?_
      · skip
        go_simp
      try simp only [Act.put, List.getElem_toArray, List.getElem_cons_zero, List.getElem_cons_succ, List.setIfInBounds_toArray, List.set_cons_zero, List.set_cons_succ]
      refine wpAnyH_take (i := 4) (v := (.agg #[.int .u64 (E.i : Int), .int .u8 (E.k : Int), .int .u8 (E.l : Int), .int .u64 (E.x : Int)])) rfl (by kernel_rfl) (by kernel_rfl) (by kernel_rfl) (fun _ _ _ h => h) (Or.inl ⟨by rfl, fun X hS => ?_⟩) hHeld ?_
      · obtain ⟨g2, hp, -, q0, q1, q2, q3⟩ := hS.cells HE.out
        cases hp
        go_simp
      try simp only [Act.put, List.getElem_toArray, List.getElem_cons_zero, List.getElem_cons_succ, List.setIfInBounds_toArray, List.set_cons_zero, List.set_cons_succ]
      refine wpAnyH_take (i := 5) (v := (.slice p' l' cap')) rfl (by kernel_rfl) (by kernel_rfl) (by kernel_rfl) (fun _ _ _ h => h) (Or.inl ⟨by rfl, fun X hS => ?_⟩) hHeld ?_
      · skip
        go_simp
      try simp only [Act.put, List.getElem_toArray, List.getElem_cons_zero, List.getElem_cons_succ, List.setIfInBounds_toArray, List.set_cons_zero, List.set_cons_succ]
      refine wpAnyH_ready (rs := [6]) (by kernel_rfl) (by simp) (AllReadyH.cons rfl (fun K1 hK1 => ?_) AllReadyH.nil)
      have o0 := HFW2.out.cell0 0 rfl; have o1 := HFW2.out.cell0 1 rfl; have o2 := HFW2.out.cell0 2 rfl; have o3 := HFW2.out.cell0 3 rfl
      have f0 := HFW2.out.free0 0; have f1 := HFW2.out.free0 1; have f2 := HFW2.out.free0 2; have f3 := HFW2.out.free0 3
      go_simp
      have hst : Fb w [⟨B0, #[.int .u64 (E.i : Int), .int .u8 (E.k : Int), .int .u8 (E.l : Int), .int .u64 (E.x : Int)], 41⟩] (stR x B0 [.int .u64 (E.i : Int), .int .u8 (E.k : Int), .int .u8 (E.l : Int), .int .u64 (E.x : Int)] 0) := HFW2.out.stores0 [.int .u64 (E.i : Int), .int .u8 (E.k : Int), .int .u8 (E.l : Int), .int .u64 (E.x : Int)] 0
      have hdz : DocE p' cap' (L.eraseIdx i) (stR x B0 [.int .u64 (E.i : Int), .int .u8 (E.k : Int), .int .u8 (E.l : Int), .int .u64 (E.x : Int)] 0) := HRE2.out.far HNEQ.out [.int .u64 (E.i : Int), .int .u8 (E.k : Int), .int .u8 (E.l : Int), .int .u64 (E.x : Int)]
      change K1 _ (stR x B0 [.int .u64 (E.i : Int), .int .u8 (E.k : Int), .int .u8 (E.l : Int), .int .u64 (E.x : Int)] 0)
      obtain ⟨z, hzz⟩ : ∃ z, stR x B0 [.int .u64 (E.i : Int), .int .u8 (E.k : Int), .int .u8 (E.l : Int), .int .u64 (E.x : Int)] 0 = z := ⟨_, rfl⟩
      rw [hzz] at hst hdz ⊢
      have HZ := Lib.hid (And.intro hst hdz)
      clear hzz hst hdz HFW2 HRE2 o0 o1 o2 o3 f0 f1 f2 f3 hHeld
      refine hK1.out _ _ (HD.out.below HZ.out.1.be) (fun hHeld => ?_)
      clear hK1
      try simp only [Act.put, List.getElem_toArray, List.getElem_cons_zero, List.getElem_cons_succ, List.setIfInBounds_toArray, List.set_cons_zero, List.set_cons_succ]
      refine wpAnyH_take (i := 7) (v := (.int .i64 0)) rfl (by kernel_rfl) (by kernel_rfl) (by kernel_rfl) (fun _ _ _ h => h) (Or.inl ⟨by rfl, fun X hS => ?_⟩) hHeld ?_
      · skip
        go_simp
      try simp only [Act.put, List.getElem_toArray, List.getElem_cons_zero, List.getElem_cons_succ, List.setIfInBounds_toArray, List.set_cons_zero, List.set_cons_succ]
      refine wpAnyH_done (by kernel_rfl) ?_ _
      clear hHeld
      have g0 := HZ.out.1.cell0 0 rfl; have g1 := HZ.out.1.cell0 1 rfl; have g2 := HZ.out.1.cell0 2 rfl; have g3 := HZ.out.1.cell0 3 rfl
      go_wp2_with fail
      exact bodyPost_ret (v := .tuple #[.slice p' l' cap', eV E, .int .i64 0]) (by simp [results, Try.results10, go_sem, g0, g1, g2, g3]) rfl ⟨p', cap', by rw [HLE.out], HZ.out.2, hge_.out, HZ.out.1.be⟩

end
end Go.Proofs.Ytcbbhefgdonabaa.Bt
