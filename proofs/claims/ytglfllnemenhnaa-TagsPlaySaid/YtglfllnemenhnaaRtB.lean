/- The document's Run of tags. -/
import Derived.Test.YtglfllnemenhnaaRtA
import Derived.Test.YtglfllnemenhnaaTgD
namespace Go.Proofs.Ytglfllnemenhnaa.Bt
open Go Go.RowKit Go.Shelf
set_option linter.unusedVariables false
set_option linter.unusedSimpArgs false
set_option maxRecDepth 100000 in
set_option maxHeartbeats 2000000 in
theorem rrun_in (N n : Nat) (hn : n ≤ 2000) (c : Int → Int) (hc : ∀ j, 0 ≤ c j) (hneg : ∀ j, j < 0 → c j = 0) (k : Nat) (hk : k < n) (w : World)
    (h : TgAt N n (fun k => tagS (c (k : Int))) (fun k => tagO (c (k : Int))) w) :
    Calls Try.prog 94 #[.slice (some ⟨N, 0, none⟩) n n, .int .i64 (k : Int)] w (Gives (runV c (k : Int)) w) := by
  have HT := Lib.hid h; have HC := Lib.hid hc; have HN := Lib.hid hneg
  have HG := Lib.hid fun X (hX : TgAt N n (fun k => tagS (c (k : Int))) (fun k => tagO (c (k : Int))) X) => rget_in N n hn _ _ k hk X hX
  have HF := Lib.hid (show runF c k = dnN (insI c) (k + 1) from rfl)
  clear h hc hneg
  go_enter Try.func94, Try.ntmps94
  go_wp2_with fail
  have HB := Lib.hid (bel1 w (.cells #[.int .u8 0, .int .u8 0] 156))
  have HR := Lib.hid (heap_new w (.cells #[.int .u8 0, .int .u8 0] 156))
  refine (HG.out _ (HT.out.below HB.out)).mono ?_
  rintro e w1 ⟨rfl, hb⟩
  have HB1 := Lib.hid (HB.out.trans (hb.mono HB.out.size))
  have HR1 := Lib.hid (pair_at hb HR.out)
  have HT1 := Lib.hid ((HT.out.below HB.out).below hb)
  clear hb HB HR
  go_upto_region 4 with fail
  obtain ⟨R, hR⟩ : ∃ x, w.heap.size = x := ⟨_, rfl⟩
  have HRw : Hid (w.heap.size ≤ R) := Lib.hid (by omega)
  rw [hR] at HR1 ⊢
  have HB2 := Lib.hid (HB1.out.trans ((bel1 w1 (.cells #[.int .u8 (tagS (c k)), .int .u8 (tagO (c k))] 156)).mono HB1.out.size))
  have HR2 := Lib.hid (pair_at (bel1 w1 (.cells #[.int .u8 (tagS (c k)), .int .u8 (tagO (c k))] 156)) HR1.out)
  have HT2 := Lib.hid (HT1.out.below (bel1 w1 (.cells #[.int .u8 (tagS (c k)), .int .u8 (tagO (c k))] 156)))
  obtain ⟨w2, hw2⟩ : ∃ x, w1.alloc (.cells #[.int .u8 (tagS (c k)), .int .u8 (tagO (c k))] 156) = x := ⟨_, rfl⟩
  rw [hw2] at HB2 HR2 HT2 ⊢
  clear hw2 HB1 HR1 HT1 HT HG
  go_wp2_with fail
  go_loopw [9] (fun v wr => ∃ m : Nat, m ≤ k + 1 ∧ v = .int .i64 ((m : Int) - 1) ∧ dnN (insI c) (k + 1) = dnN (insI c) m ∧ wr.heap[R]? = some (.cells #[.int .u8 0, .int .u8 0] 156 (0, 0)) ∧ TgAt N n (fun k => tagS (c (k : Int))) (fun k => tagO (c (k : Int))) wr ∧ Below w.heap.size w wr) (fun v _ => (intOf v + 1).toNat)
  case atStart => exact ⟨k + 1, Nat.le_refl _, by rw [show (((k + 1 : Nat) : Int)) - 1 = k from by omega], rfl, HR2.out, HT2.out, HB2.out⟩
  case round =>
    obtain ⟨m, hm, rfl, hd, hr, ht, hbw⟩ := hrel
    have HD := Lib.hid hd; have HRR := Lib.hid hr; have HBW := Lib.hid hbw
    have g0 := (cell_blk hr 0).1; have g1 := (cell_blk hr 1).1
    have f0 := (cell_blk hr 0).2; have f1 := (cell_blk hr 1).2
    clear hd hr hbw HR2 HT2 HB2
    cases m with
    | zero =>
      have HV : Hid (runV c k = .tuple #[.int .i64 0, tagV 0 0, .int .i64 8]) := Lib.hid (by
        have e : runF c k = -1 := by rw [HF.out, HD.out]; rfl
        unfold runV runOk
        rw [e, HN.out (-1) (by decide), show begB (tagS 0) = false from by decide, Bool.false_and, if_neg (by decide)])
      clear HN HC HF HD ht
      go_wp2_with fail
      have h3 := pair_set HRR.out rfl (.int .u8 0) (.int .u8 0)
      have q0 := (cell_blk h3 0).1; have q1 := (cell_blk h3 1).1
      exact bodyPost_ret (v := .tuple #[.int .i64 0, tagV 0 0, .int .i64 8]) (by simp [results, Try.results94, go_sem, q0, q1]) rfl ⟨by rw [HV.out], (HBW.out.setCell (p := ⟨R, 0, none⟩) HRw.out _).setCell (p := ⟨R, 1, none⟩) HRw.out _⟩
    | succ m =>
      have hmn : m < n := by omega
      obtain ⟨t1, t2⟩ := ht.2 m hmn
      simp only [] at t1 t2
      have tlt := ht.1
      have b1 := tagS_b (c m) (HC.out _)
      have b2 := tagO_b (c m) (HC.out _)
      have HTT := Lib.hid ht
      have e1 : (((m + 1 : Nat) : Int) - 1) = (m : Int) := by omega
      rw [e1]
      clear ht
      by_cases hin : tagS (c m) = 1
      · have d1 : (tagS (c m) == 1) = true := by simpa using hin
        have HI := Lib.hid hin
        go_wp2_with fail
        go_roundw
        case rel =>
          refine ⟨m, by omega, ?_, ?_, pair_at (bel1 _ _) HRR.out, HTT.out.below (bel1 _ _), HBW.out.trans ((bel1 _ _).mono HBW.out.size)⟩
          · go_num
          · rw [HD.out]
            show (if insI c m then dnN (insI c) m else (m : Int)) = _
            rw [if_pos]
            exact decide_eq_true HI.out
        case measure => simp [intOf]
      · have d1 : (tagS (c m) == 1) = false := by simpa using hin
        have HV : Hid (runV c k = if begB (tagS (c m)) && decide ((k : Int) - m < ((2 ^ (tagO (c m)).toNat : Nat) : Int)) then .tuple #[.int .i64 (m : Int), tagV (tagS (c m)) (tagO (c m)), .int .i64 0] else .tuple #[.int .i64 0, tagV 0 0, .int .i64 8]) := Lib.hid (by
          have e : runF c k = m := by
            rw [HF.out, HD.out]
            show (if insI c m then dnN (insI c) m else (m : Int)) = _
            rw [if_neg]; unfold insI; simpa using hin
          unfold runV runOk
          rw [e])
        clear hin HTT HD HF HN HC
        generalize tagS (c m) = S at *
        generalize tagO (c m) = O at *
        obtain ⟨on, rfl⟩ : ∃ on : Nat, O = on := ⟨O.toNat, by omega⟩
        rw [Int.toNat_natCast] at HV
        have HPG := Lib.hid (fun w => rpages_any on (by omega) w)
        have hpb : 1 ≤ 2 ^ on ∧ 2 ^ on ≤ 1024 := (pow_n on b2.2).2
        obtain ⟨P, hP⟩ : ∃ P, 2 ^ on = P := ⟨_, rfl⟩
        rw [hP] at HV HPG hpb
        have hkm : ((k : Int) - m) ≤ 2000 ∧ 0 ≤ (k : Int) - m := by omega
        have hw64 : wrap64 (on : Int) = (on : Int) := IntWalk.wrap64_in _ ⟨by omega, by omega⟩
        clear hP
        have hby := bel1 wr (.cells #[.int .u8 S, .int .u8 (on : Int)] 156)
        have hr2 := pair_at hby HRR.out
        have hx := heap_new wr (.cells #[.int .u8 S, .int .u8 (on : Int)] 156)
        have y0 := (cell_blk hr2 0).1; have y1 := (cell_blk hr2 1).1
        have z0 := (cell_blk hr2 0).2; have z1 := (cell_blk hr2 1).2
        have x0 := (cell_blk hx 0).1; have x1 := (cell_blk hx 1).1
        have HX := Lib.hid hx; have HR3 := Lib.hid hr2
        have HBY := Lib.hid (HBW.out.trans (hby.mono HBW.out.size))
        clear hr2 hx hby g0 g1 f0 f1
        by_cases h2 : 2 ≤ S
        · have d2 : decide (2 ≤ S) = true := by simpa using h2
          have hb : begB S = true := by unfold begB; simp; omega
          by_cases hlt : (k : Int) - m < (P : Int)
          · rw [hb, decide_eq_true hlt, Bool.true_and, if_pos rfl] at HV
            have d3 := decide_eq_true hlt
            clear hlt hb h2
            go_wp2_with (go_at_call 92; (with_reducible refine (HPG.out _).mono ?_); rintro e w' ⟨rfl, rfl⟩)
            go_region
            all_goals
              go_wp2_with fail
              have h3 := pair_set HR3.out rfl (.int .u8 S) (.int .u8 (on : Int))
              have q0 := (cell_blk h3 0).1; have q1 := (cell_blk h3 1).1
              have q0' := q0; have q1' := q1
              rw [← World.cell?_drew] at q0' q1'
              exact bodyPost_ret (v := .tuple #[.int .i64 (m : Int), tagV S on, .int .i64 0]) (by simp [results, Try.results94, go_sem, q0, q1, q0', q1']) rfl ⟨by rw [HV.out], ((HBY.out.setCell (p := ⟨R, 0, none⟩) HRw.out _).setCell (p := ⟨R, 1, none⟩) HRw.out _).drew⟩
          · rw [hb, decide_eq_false hlt, Bool.true_and, if_neg (by decide)] at HV
            have d3 := decide_eq_false hlt
            clear hlt hb h2
            go_wp2_with (go_at_call 92; (with_reducible refine (HPG.out _).mono ?_); rintro e w' ⟨rfl, rfl⟩)
            have h3 := pair_set HR3.out rfl (.int .u8 0) (.int .u8 0)
            have q0 := (cell_blk h3 0).1; have q1 := (cell_blk h3 1).1
            exact bodyPost_ret (v := .tuple #[.int .i64 0, tagV 0 0, .int .i64 8]) (by simp [results, Try.results94, go_sem, q0, q1]) rfl ⟨by rw [HV.out], (HBY.out.setCell (p := ⟨R, 0, none⟩) HRw.out _).setCell (p := ⟨R, 1, none⟩) HRw.out _⟩
        · have d2 : decide (2 ≤ S) = false := by simpa using h2
          have hb : begB S = false := by unfold begB; simp; omega
          rw [hb, Bool.false_and, if_neg (by decide)] at HV
          go_wp2_with fail
          have h3 := pair_set HR3.out rfl (.int .u8 0) (.int .u8 0)
          have q0 := (cell_blk h3 0).1; have q1 := (cell_blk h3 1).1
          exact bodyPost_ret (v := .tuple #[.int .i64 0, tagV 0 0, .int .i64 8]) (by simp [results, Try.results94, go_sem, q0, q1]) rfl ⟨by rw [HV.out], (HBY.out.setCell (p := ⟨R, 0, none⟩) HRw.out _).setCell (p := ⟨R, 1, none⟩) HRw.out _⟩
end Go.Proofs.Ytglfllnemenhnaa.Bt
