/- The walk of TagsLaid. -/
import Derived.Test.YtfappdiipflpfaaTgG
import Derived.Test.YtfappdiipflpfaaTgF
import Derived.Deep.DeepCutAuto
namespace Go.Proofs.Ytfappdiipflpfaa.Bt
open Go Go.RowKit Go.Shelf
set_option linter.unusedVariables false

/-- behind the loops' heads: the table's variable, the arena, what came in -/
structure LaidAt (V A : Nat) (s : ASt) (w0 x : World) : Prop where
  v : VT V (some ⟨A, 0, none⟩) 96 1100 x
  o : On A s x
  b : Base A w0 x
theorem LaidAt.below {V A : Nat} {s : ASt} {w0 x y : World} (h : LaidAt V A s w0 x) (hb : Below x.heap.size x y) : LaidAt V A s w0 y := ⟨h.v.below hb, h.o.below hb, h.b.below h.o hb⟩
theorem LaidAt.went {V A : Nat} {s s' : ASt} {w0 x y : World} (h : LaidAt V A s w0 x) (ho : On A s' y) (hg : Went A x y) : LaidAt V A s' w0 y := ⟨hg.keep h.o h.v (by decide) (by decide) (by decide), ho, h.b.went hg⟩
set_option maxRecDepth 100000 in
set_option maxHeartbeats 4000000 in
theorem laid_in (i o : Int) (t : Bool) (w : World) (hi : i ≤ 9223372036854775807) (ho : o ≤ 9223372036854775807) :
    Calls Try.prog 14 #[.int .i64 i, .int .i64 o, .bool t] w (TrueAt w) := by
  go_enter Try.func14, Try.ntmps14
  go_wp2_with fail
  refine (awake6 _).mono ?_
  rintro e w1 ⟨rfl, hb1⟩
  go_wp2_with fail
  refine (lopen_any 1100 (by omega) _).mono ?_
  rintro e w2 ⟨A, rfl, hx, hb⟩
  have hL2 : LaidAt w2.heap.size A (fullS 1 (fun _ => 0)) w (w2.alloc (.cells #[.pointer (some ⟨A, 0, none⟩), .int .i64 96, .int .i64 1100] 96)) :=
    ⟨heap_new _ _, hx.below (bel1 _ _), Base.below (hb.rebase hb1) hx (bel1 _ _)⟩
  obtain ⟨c0, c1, c2, _⟩ := hL2.v.all
  have HL2 := Lib.hid hL2
  clear hx hb hb1 hL2
  go_upto_region 7 with fail
  all_goals
    first
      | (obtain ⟨st, hst, hbg⟩ : ∃ st : Int, 3 = st ∧ begB st = true := ⟨3, rfl, rfl⟩; rw [hst])
      | (obtain ⟨st, hst, hbg⟩ : ∃ st : Int, 2 = st ∧ begB st = true := ⟨2, rfl, rfl⟩; rw [hst])
    have HBG := Lib.hid hbg
    clear hst hbg
    by_cases horder : 0 ≤ o ∧ o ≤ 10
    rotate_left
    · have hlb : layB o st = false := by unfold layB; rw [decide_eq_false horder]; rfl
      go_wp2_with fail
      refine (tlay_arg 96 1100 i o st hlb).mono ?_
      rintro e w3 ⟨rfl, hb⟩
      have HL3 := Lib.hid (HL2.out.below hb)
      clear hlb hb c0 c1 c2
      have hor : o < 0 ∨ (¬ o < 0 ∧ 10 < o) := by omega
      clear horder
      rcases hor with h1 | ⟨h1, h2⟩
      all_goals
        go_wp2_with fail
        go_ret
        exact ⟨rfl, HL3.out.b.bel⟩
    obtain ⟨on, rfl⟩ : ∃ on : Nat, o = on := ⟨o.toNat, by omega⟩
    have s1 : 0 ≤ (on : Int) := by omega
    have s2 : (on : Int) ≤ 10 := by omega
    have hN := pow_n on s2
    have d1 : decide ((on : Int) < 0) = false := by simp
    have d2 : decide (10 < (on : Int)) = false := by simp; omega
    have HE := Lib.hid (lay_at (fun _ => 0) 96 1100 (by omega) i on)
    clear horder
    by_cases hin : 0 ≤ i ∧ i + (2 ^ on : Nat) ≤ ((1100 : Nat) : Int)
    rotate_left
    · have he : layE (fullS 1 (fun _ => 0)) 96 1100 i on = 3 := by rw [HE.out, if_neg hin]
      have HE3 := Lib.hid he
      clear hin he HE hN
      go_wp2_with fail
      refine (tlay_no HL2.out.o 96 1100 (by omega) (by omega) i st on hi s2 (.inl HBG.out) HE3.out).mono ?_
      rintro e w3 ⟨rfl, hb⟩
      have HL3 := Lib.hid (HL2.out.below hb)
      clear hb c0 c1 c2
      go_wp2_with fail
      go_ret
      exact ⟨rfl, HL3.out.b.bel⟩
    have he : layE (fullS 1 (fun _ => 0)) 96 1100 i on = 0 := by rw [HE.out, if_pos hin]
    obtain ⟨iN, rfl⟩ : ∃ k : Nat, i = k := ⟨i.toNat, by omega⟩
    have hfit : iN + 2 ^ on ≤ 1100 := by have := hin.2; generalize 2 ^ on = N at *; omega
    have HA := Lib.hid (lay_addr 96 1100 iN on hfit)
    have HRL := Lib.hid fun (k : Nat) (hk : k < 2 ^ on) => run_laid (fun _ => 0) 96 1100 (by omega) iN on hfit st HBG.out (by omega) k hk
    have HRN := Lib.hid fun (m : Nat → UInt8) (k : Nat) (hk : k < 2 ^ on) => run_none m 96 1100 (by omega) iN on hfit k hk
    have HEN := Lib.hid fun (m : Nat → UInt8) => lay_at m 96 1100 (by omega) iN on
    have HIN := Lib.hid hin
    have HE3 := Lib.hid he
    have HGE := Lib.hid fun (m : Nat → UInt8) (j : Int) => gE_full m 96 1100 (by omega) j
    have HNW : Hid (wrap64 ((2 : Int) ^ on) = ((2 ^ on : Nat) : Int)) := Lib.hid (by
      rw [show ((2 : Int) ^ on) = ((2 ^ on : Nat) : Int) from by simp]
      exact IntWalk.wrap64_in _ ⟨by omega, by omega⟩)
    clear hin he HE
    obtain ⟨N, hNN⟩ : ∃ N, 2 ^ on = N := ⟨_, rfl⟩
    rw [hNN] at hN hfit
    have HNN := Lib.hid hNN
    obtain ⟨_, hN1, hN2⟩ := hN
    clear hNN
    go_wp2_with fail
    refine (tlay_yes HL2.out.o 96 1100 (by omega) (by omega) iN st on (96 + iN) N hi s2 st on 1 (.inl ⟨HBG.out, rfl, rfl, rfl⟩) HNN.out HA.out HE3.out).mono ?_
    rintro e w3 ⟨rfl, hx, hg⟩
    have HL3 := Lib.hid (HL2.out.went hx hg)
    clear hx hg c0 c1 c2
    have hN' : wrap64 ((2 : Int) ^ on) = (N : Int) := by rw [HNW.out, HNN.out]
    go_wp2_with fail
    obtain ⟨V, hV⟩ : ∃ V, w2.heap.size = V := ⟨_, rfl⟩
    rw [hV] at HL3 ⊢
    clear hV HL2 HE3
    obtain ⟨m1, hm1⟩ : ∃ m1, layM (fun _ => 0) (96 + iN) N st on 1 = m1 := ⟨_, rfl⟩
    have HL : Hid (LaidAt V A (fullS 1 m1) w w3) := Lib.hid (hm1 ▸ HL3.out)
    have HR1 : Hid (∀ k : Nat, k < N → runV (gC (fullS 1 m1) 96 1100) ((iN : Int) + k) = .tuple #[.int .i64 (iN : Int), tagV st on, .int .i64 0]) := Lib.hid (fun k hk => by
      have := HRL.out k (by rw [HNN.out]; exact hk)
      rw [HNN.out, hm1] at this; exact this)
    have HR2 : Hid (∀ k : Nat, k < N → runV (gC (fullS 1 (layM m1 (96 + iN) N 0 0 0)) 96 1100) ((iN : Int) + k) = .tuple #[.int .i64 0, tagV 0 0, .int .i64 8]) := Lib.hid (fun k hk => by
      have := HRN.out m1 k (by rw [HNN.out]; exact hk)
      rw [HNN.out] at this; exact this)
    have HG1 : Hid (∀ (m : Nat → UInt8) (k : Nat), k < N → gE (fullS 1 m) 96 1100 ((iN : Int) + k) = 0) := Lib.hid (fun m k hk => by rw [HGE.out, if_pos (by omega)])
    clear HL3 HRL HRN HGE hm1
    have e1 : (st == st) = true := beq_self_eq_true _
    have e2 : ((on : Int) == (on : Int)) = true := beq_self_eq_true _
    have e3 : ((iN : Int) == (iN : Int)) = true := beq_self_eq_true _
    go_loopw [49] (fun v wr => ∃ k : Nat, k ≤ N ∧ v = .int .i64 (k : Int) ∧ LaidAt V A (fullS 1 m1) w wr) (fun v _ => N - (intOf v).toNat)
    case atStart => exact ⟨0, Nat.zero_le _, rfl, HL.out⟩
    case round =>
      obtain ⟨k, hk, rfl, hl⟩ := hrel
      have HLr := Lib.hid hl
      obtain ⟨c0, c1, c2, _⟩ := hl.v.all
      clear hl HL
      by_cases hlt : k < N
      · have hr := HR1.out k hlt
        have hg := HG1.out m1 k hlt
        have HRR := Lib.hid hr; have HGG := Lib.hid hg
        clear hr hg
        go_wp2_with fail
        refine (trun_on HLr.out.o 96 1100 (by omega) (by omega) ((iN : Int) + k) (by omega) (by omega) HGG.out).mono ?_
        rintro e w4 ⟨rfl, hb⟩
        rw [HRR.out]
        have HLs := Lib.hid ((HLr.out.below hb).below (bel1 w4 (.cells #[.int .u8 st, .int .u8 (on : Int)] 108)))
        clear hb c0 c1 c2
        go_wp2_with fail
        go_roundw
        case rel => exact ⟨k + 1, by omega, by go_num, HLs.out⟩
        case measure => simp [intOf]; omega
      · have hlE : layE (fullS 1 m1) 96 1100 iN on = 0 := by rw [HEN.out, if_pos HIN.out]
        have HLE := Lib.hid hlE
        clear hlE
        go_wp2_with fail
        refine (tlay_yes HLr.out.o 96 1100 (by omega) (by omega) iN 0 on (96 + iN) N hi s2 0 0 0 (.inr ⟨rfl, rfl, rfl, rfl⟩) HNN.out HA.out HLE.out).mono ?_
        rintro e w4 ⟨rfl, hx, hg⟩
        have HL4 : Hid (LaidAt V A (fullS 1 (layM m1 (96 + iN) N 0 0 0)) w w4) := Lib.hid (HLr.out.went hx hg)
        clear hx hg c0 c1 c2 HLr
        go_wp2_with fail
        go_loopw [84] (fun v wr => ∃ k : Nat, k ≤ N ∧ v = .int .i64 (k : Int) ∧ LaidAt V A (fullS 1 (layM m1 (96 + iN) N 0 0 0)) w wr) (fun v _ => N - (intOf v).toNat)
        case atStart => exact ⟨0, Nat.zero_le _, rfl, HL4.out⟩
        case round =>
          obtain ⟨j, hj, rfl, hl⟩ := hrel
          have HLr := Lib.hid hl
          obtain ⟨c0, c1, c2, _⟩ := hl.v.all
          clear hl HL4
          by_cases hlt : j < N
          · have hr := HR2.out j hlt
            have hg := HG1.out (layM m1 (96 + iN) N 0 0 0) j hlt
            have HRR := Lib.hid hr; have HGG := Lib.hid hg
            clear hr hg
            go_wp2_with fail
            refine (trun_on HLr.out.o 96 1100 (by omega) (by omega) ((iN : Int) + j) (by omega) (by omega) HGG.out).mono ?_
            rintro e w5 ⟨rfl, hb⟩
            rw [HRR.out]
            have HLs := Lib.hid ((HLr.out.below hb).below (bel1 w5 (.cells #[.int .u8 0, .int .u8 0] 108)))
            clear hb c0 c1 c2
            go_wp2_with fail
            go_roundw
            case rel => exact ⟨j + 1, by omega, by go_num, HLs.out⟩
            case measure => simp [intOf]; omega
          · go_wp2_with fail
            go_ret
            exact ⟨rfl, HLr.out.b.bel⟩
end Go.Proofs.Ytfappdiipflpfaa.Bt
