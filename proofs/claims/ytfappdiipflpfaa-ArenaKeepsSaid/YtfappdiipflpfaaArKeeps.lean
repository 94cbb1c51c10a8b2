/- The walk of ArenaKeeps. -/
import Derived.Test.YtfappdiipflpfaaArKeepM
import Derived.Test.YtfappdiipflpfaaArDec
import Derived.Deep.DeepCutAuto
import Derived.Test.YtfappdiipflpfaaActs3
namespace Go.Proofs.Ytfappdiipflpfaa.Bt
open Go Go.RowKit Go.Shelf
set_option linter.unusedVariables false

theorem page_dec (m : Nat → UInt8) (p : Nat) (hp : p < 8) : decE (fullS 8 m) p 1 = 0 := by
  have key : ∀ p : Fin 8, decE (fullS 8 fun _ => 0) (p.1 : Int) 1 = 0 := by decide
  have h := key ⟨p, hp⟩
  exact h
def offS (p : Nat) (m : Nat → UInt8) : ASt := { fullS 8 m with es := laidS 8 [0, 8] p 1 false, mm := clrM m p 1 }
theorem page_decS (m : Nat → UInt8) (p : Nat) (hp : p < 8) : decS (fullS 8 m) p 1 = offS p m := by
  unfold decS
  rw [if_pos (page_dec m p hp)]; rfl
theorem page_on (m : Nat → UInt8) (p : Nat) (hp : p < 8) : commitE (offS p m) p 1 = 0 := by
  have key : ∀ p : Fin 8, commitE (offS p.1 fun _ => 0) (p.1 : Int) 1 = 0 := by decide
  have h := key ⟨p, hp⟩
  exact h
theorem page_onS (m : Nat → UInt8) (p : Nat) (hp : p < 8) : commitS (offS p m) p 1 = fullS 8 (clrM m p 1) := by
  have he := page_on m p hp
  unfold commitE at he
  unfold commitS
  have hn : ¬ (countE (offS p m).L p 1 ≠ 0 ∨ 0 < countR (offS p m).L (offS p m).es p 1) := by
    rintro (h | h)
    · rw [if_pos h] at he; exact h he
    · by_cases h2 : countE (offS p m).L p 1 = 0
      · rw [if_neg (by simpa using h2), if_pos h] at he; cases he
      · rw [if_pos h2] at he; exact h2 he
  rw [if_neg hn, show refB (offS p m) = false from rfl]
  have key : ∀ p : Fin 8, laidS 8 (laidS 8 [0, 8] (p.1 : Int) 1 false) (p.1 : Int) 1 true = [0, 8] := by decide
  have h := key ⟨p, hp⟩
  show ASt.mk _ _ _ _ _ = _
  rw [show laidS (offS p m).L (offS p m).es p 1 true = [0, 8] from h]; rfl
theorem page_zero (m : Nat → UInt8) (p : Nat) : getM (clrM m p 1) (p * 4096) 4096 = List.replicate 4096 0 := by
  apply List.ext_getElem
  · rw [getM_length, List.length_replicate]
  · intro i h1 h2
    have hi : i < 4096 := by rw [getM_length] at h1; exact h1
    simp only [getM, List.getElem_map, List.getElem_range, List.getElem_replicate]
    unfold clrM
    rw [if_pos (by omega)]

def KeepRel (acts : List Act3) (A an kn : Nat) (m0 : Nat → UInt8) (B : Nat) (w : World) (i : Value) (wr : World) : Prop :=
  ∃ (k : Nat) (m : Nat → UInt8), k ≤ acts.length ∧ i = .int .i64 k ∧ ArAt B A (fullS 8 m) wr ∧ (∀ j, j < kn → m (an + j) = m0 (an + j)) ∧ Below B w wr
theorem keeps_out (a0 a1 a2 : Int) (p : Option Addr) (c : Nat) (acts : List Act3) (hlen : acts.length ≤ 9223372036854775807) (w : World) (h : Acts3At w p acts) (hl : lightB acts = false) :
    Calls Try.prog 4 #[.int .i64 a0, .int .i64 a1, .int .u64 a2, .slice p acts.length c] w (TrueAt w) := by
  go_enter Try.func4, Try.ntmps4
  go_wp2_with fail
  refine (awake3_calls _).mono ?_
  rintro e w1 ⟨rfl, hb1⟩
  go_wp2_with fail
  refine (light_any p c acts hlen w1 (h.below hb1)).mono ?_
  rintro e w2 ⟨rfl, hb2⟩
  rw [hl]
  have B2 := hb1.trans (hb2.mono hb1.size)
  clear hb1 hb2
  go_wp2_with fail
  go_ret
  exact ⟨rfl, B2⟩
theorem shr_num (V kn : Nat) (hV : V < 2 ^ (8 * kn)) : V / 2 ^ (8 * kn) = 0 := Nat.div_eq_of_lt hV
set_option maxRecDepth 100000 in
set_option maxHeartbeats 2000000 in
theorem keeps_in (a0 a1 a2 : Int) (b0 : a0 ≤ 9223372036854775807) (hx : 0 ≤ a2) (hx2 : a2 < 18446744073709551616) (p : Option Addr) (c : Nat) (acts : List Act3) (hlen : acts.length ≤ 9223372036854775807) (w : World) (h : Acts3At w p acts) (hl : lightB acts = true) :
    Calls Try.prog 4 #[.int .i64 a0, .int .i64 a1, .int .u64 a2, .slice p acts.length c] w (TrueAt w) := by
  have l8 : Hid (lenN 8 = 8) := Lib.hid (by decide)
  have e8 : Hid (commitE (newS 8) 0 8 = 0) := Lib.hid (by decide)
  have s8 : Hid (commitS (newS 8) 0 8 = fullS 8 (fun _ => 0)) := Lib.hid (full_new 8 8 (by decide) (by decide) (by decide))
  have TE : Hid (∀ a k, thereE 8 [0, 8] a k = if 0 ≤ a ∧ 0 ≤ k ∧ a + k ≤ 32768 then 0 else 3) := Lib.hid fun a k => thereE_full (by omega) (by omega) a k
  have HL : Hid (acts.length ≤ 50 ∧ ∀ a ∈ acts, a.s.size ≤ 6000) := Lib.hid (by
    unfold lightB at hl
    rw [Bool.and_eq_true, decide_eq_true_iff, List.all_eq_true] at hl
    exact ⟨hl.1, fun a ha => by simpa using hl.2 a ha⟩)
  go_enter Try.func4, Try.ntmps4
  go_wp2_with fail
  refine (awake3_calls _).mono ?_
  rintro e w1 ⟨rfl, hb1⟩
  go_wp2_with fail
  refine (light_any p c acts hlen w1 (h.below hb1)).mono ?_
  rintro e w1' ⟨rfl, hb2⟩
  rw [hl]
  have hb1 := hb1.trans (hb2.mono hb1.size)
  clear hb2
  go_wp2_with fail
  refine (arena_new 8 _).mono ?_
  rintro e w2 ⟨A, P, rfl, hA, hP, hx2', hb2⟩
  rw [l8.out] at hx2'
  have hn0 : ∀ i b : Nat, (List.replicate 8 (none : Option Nat))[i]? = some (some b) → w1'.heap.size ≤ b := fun i b h => by
    rw [List.getElem?_replicate] at h; split at h <;> cases h
  have HX2 := Lib.hid hx2'
  clear hx2'
  go_wp2_with fail
  refine (commit_any HX2.out 0 8 (by omega)).mono ?_
  rintro e w3 ⟨rfl, ht⟩
  rw [e8.out]; rw [s8.out] at ht
  obtain ⟨⟨P3, ps3, p3, n3, c3, hx3, q1, q2, q3⟩, hb3⟩ := ht.at hb2.size hA hP hn0
  have HX3 := Lib.hid hx3
  have HQ3 := Lib.hid (And.intro q1 (And.intro q2 q3))
  have B3 := hb1.trans ((hb2.trans hb3).mono hb1.size)
  clear hx3 hn0 ht q1 q2 q3 hb3 HX2 hA hP
  go_wp2_with fail
  refine (store_any HX3.out a0 a1 a2 b0 hx).mono ?_
  rintro e w4 ⟨rfl, ht⟩
  obtain ⟨⟨P4, ps4, p4, n4, c4, hx4, q1, q2, q3⟩, hb4⟩ := ht.at (B := w.heap.size) B3.size (Nat.le_trans hb1.size HQ3.out.1) (Nat.le_trans hb1.size HQ3.out.2.1) (fun i b h => Nat.le_trans hb1.size (HQ3.out.2.2 i b h))
  have HX4 := Lib.hid hx4
  have HQ4 := Lib.hid (And.intro q1 (And.intro q2 q3))
  have B4 := B3.trans hb4
  clear hx4 ht q1 q2 q3 hb4 HX3 HQ3
  by_cases hne : numE (fullS 8 fun _ => 0).L (fullS 8 fun _ => 0).es a0 a1 = 0
  rotate_left
  · have hb0 : (numE (fullS 8 fun _ => 0).L (fullS 8 fun _ => 0).es a0 a1 != 0) = true := by rw [bne_iff_ne]; exact hne
    generalize numE (fullS 8 fun _ => 0).L (fullS 8 fun _ => 0).es a0 a1 = E at *
    clear hne HX4
    go_wp2_with fail
    go_ret
    exact ⟨rfl, B4⟩
  have hsE : storeS (fullS 8 fun _ => 0) a0 a1 a2 = fullS 8 (putM (fun _ => 0) a0.toNat (numB a2 a1.toNat)) := by
    unfold storeS; rw [if_pos hne]; rfl
  have hnum : numE 8 [0, 8] a0 a1 = 0 := hne
  have hwh : wholeB a1 = true := by
    unfold numE at hnum; cases hq : wholeB a1 with
    | true => rfl
    | false => rw [hq] at hnum; cases hnum
  have hin : 0 ≤ a0 ∧ 0 ≤ a1 ∧ a0 + a1 ≤ 32768 := by
    unfold numE at hnum; rw [hwh, if_pos rfl, TE.out] at hnum
    split at hnum
    · assumption
    · cases hnum
  rw [hne]
  rw [hsE] at HX4
  have hk8 := whole_cases hwh
  obtain ⟨an, rfl⟩ : ∃ an : Nat, a0 = an := ⟨a0.toNat, by omega⟩
  obtain ⟨kn, rfl⟩ : ∃ kn : Nat, a1 = kn := ⟨a1.toNat, by omega⟩
  rw [Int.toNat_natCast, Int.toNat_natCast] at HX4
  have hNV := numV_store (fun _ => 0) an a2 kn
  generalize putM (fun _ => 0) an (numB a2 kn) = m0 at *
  have HNUM : Hid (∀ m, numE (fullS 8 m).L (fullS 8 m).es an kn = 0) := Lib.hid fun m => hnum
  have hsum : an + kn ≤ 32768 := by omega
  have hkk : kn = 1 ∨ kn = 2 ∨ kn = 4 ∨ kn = 8 := by omega
  have HKK := Lib.hid hkk
  clear hne hsE hnum hwh hin hk8 hkk
  go_wp2_with fail
  refine (load_any HX4.out an kn (by omega)).mono ?_
  rintro e w5 ⟨rfl, hb5⟩
  rw [HNUM.out, if_pos rfl, Int.toNat_natCast, Int.toNat_natCast]
  have hVlt := numV_lt (fullS 8 m0).mm an kn
  rw [show numV (fullS 8 m0).mm an kn = numV m0 an kn from rfl] at hVlt ⊢
  have HX5 := Lib.hid (HX4.out.below hb5)
  have B5 := B4.trans (hb5.mono B4.size)
  obtain ⟨V, hV⟩ : ∃ V, numV m0 an kn = V := ⟨_, rfl⟩
  rw [hV] at hVlt hNV ⊢
  have HV := Lib.hid hV
  have HVL := Lib.hid (And.intro hVlt hNV)
  clear hV hVlt hNV hb5 HX4
  go_upto_region 11 with fail
  go_cut [61] (fun s61 wx => s61 = .bool false ∧ w5 = wx)
  case first =>
    as_aux_lemma =>
    obtain ⟨v1, v2⟩ := HVL.out
    have hVx := v2
    rcases HKK.out with rfl | rfl | rfl | rfl
    · have z : V / 256 = 0 := Nat.div_eq_of_lt v1
      clear v1 v2 hVx
      go_wp2_with fail
      go_meet
      exact ⟨rfl, rfl⟩
    · have z : V / 65536 = 0 := Nat.div_eq_of_lt v1
      clear v1 v2 hVx
      go_wp2_with fail
      go_meet
      exact ⟨rfl, rfl⟩
    · have z : V / 4294967296 = 0 := Nat.div_eq_of_lt v1
      clear v1 v2 hVx
      go_wp2_with fail
      go_meet
      exact ⟨rfl, rfl⟩
    · have z : a2 = (V : Int) := by
        have : (2 : Nat) ^ (8 * 8) = 18446744073709551616 := by decide
        omega
      subst z
      clear v1 v2 hVx
      go_wp2_with fail
      go_meet
      exact ⟨rfl, rfl⟩
  case rest =>
    obtain ⟨rfl, rfl⟩ := hcut
    have HKV := HKK
    clear HVL HKK
    go_wp2_with fail
    go_loopw [64] (fun i wr => KeepRel acts A an kn m0 w.heap.size w i wr) (fun i _ => acts.length - (intOf i).toNat)
    case atStart => exact ⟨0, m0, Nat.zero_le _, rfl, ⟨P4, ps4, p4, n4, c4, HX5.out, HQ4.out⟩, fun _ _ => rfl, B5⟩
    case round =>
      obtain ⟨k, m, hk, rfl, hat, hm, hB⟩ := hrel
      have HM := Lib.hid hm
      have HAT := Lib.hid hat
      clear hm hat HX5 HQ4
      by_cases hlt : k < acts.length
      · have HA := h.below hB
        rcases HA with h' | ⟨b, off, rfl, hbl, hc⟩
        · omega
        · obtain ⟨⟨f0, f1, f2, f3, f4, f5⟩, hok⟩ := hc k hlt
          have hs6 := HL.out.2 acts[k] (List.getElem_mem _)
          obtain ⟨act, hact⟩ : ∃ act, acts[k] = act := ⟨_, rfl⟩
          rw [hact] at f0 f1 f2 f3 f4 f5 hok hs6
          obtain ⟨d, y, fr, n, x, s⟩ := act
          simp only at f0 f1 f2 f3 f4 f5 hs6
          have hy9 := hok.2.1
          simp only at hy9
          have BA : Below w.heap.size w (wr.alloc (.cells #[.int .u8 d, .int .i64 y, .int .i64 fr, .int .i64 n, .int .u64 x, .string s] 38)) := hB.alloc hB.size _
          have HATY : Hid (ArAt w.heap.size A (fullS 8 m) (wr.alloc (.cells #[.int .u8 d, .int .i64 y, .int .i64 fr, .int .i64 n, .int .u64 x, .string s] 38))) := Lib.hid (HAT.out.below ((Below.refl _ _).alloc (Nat.le_refl _) _))
          obtain ⟨ov, hov⟩ : ∃ ov : Bool, ov = (decide (y < 0) || decide (32768 < y) || (decide (y < (an + kn : Int)) && decide ((an : Int) < y + s.size))) := ⟨_, rfl⟩
          have HOV := Lib.hid hov
          clear hc hact hok h hov
          go_upto_region 18 with fail
          go_cut [77] (fun s77 wx => s77 = .bool ov ∧ wr.alloc (.cells #[.int .u8 d, .int .i64 y, .int .i64 fr, .int .i64 n, .int .u64 x, .string s] 38) = wx)
          case first =>
            as_aux_lemma =>
            clear BA HATY HAT
            by_cases g1 : y < 0
            · have j1 : decide (y < 0) = true := by simpa using g1
              have HE : Hid (ov = true) := Lib.hid (by rw [HOV.out, j1]; rfl)
              clear g1
              go_wp2_with fail
              go_meet
              exact ⟨by rw [HE.out], rfl⟩
            have j1 : decide (y < 0) = false := by simpa using g1
            by_cases g2 : 32768 < y
            · have j2 : decide (32768 < y) = true := by simpa using g2
              have HE : Hid (ov = true) := Lib.hid (by rw [HOV.out, j1, j2]; rfl)
              clear g1 g2
              go_wp2_with fail
              go_meet
              exact ⟨by rw [HE.out], rfl⟩
            have j2 : decide (32768 < y) = false := by simpa using g2
            by_cases g3 : y < (an : Int) + kn
            · have j3 : decide (y < (an : Int) + kn) = true := by simpa using g3
              by_cases g4 : (an : Int) < y + s.size
              · have j4 : decide ((an : Int) < y + s.size) = true := by simpa using g4
                have HE : Hid (ov = true) := Lib.hid (by rw [HOV.out, j1, j2, j3, j4]; rfl)
                go_wp2_with fail
                go_meet
                exact ⟨by rw [HE.out], rfl⟩
              · have j4 : decide ((an : Int) < y + s.size) = false := by simpa using g4
                have HE : Hid (ov = false) := Lib.hid (by rw [HOV.out, j1, j2, j3, j4]; rfl)
                go_wp2_with fail
                go_meet
                exact ⟨by rw [HE.out], rfl⟩
            · have j3 : decide (y < (an : Int) + kn) = false := by simpa using g3
              have HE : Hid (ov = false) := Lib.hid (by rw [HOV.out, j1, j2, j3]; rfl)
              go_wp2_with fail
              go_meet
              exact ⟨by rw [HE.out], rfl⟩
          case rest =>
            obtain ⟨rfl, rfl⟩ := hcut
            obtain ⟨P6, ps6, p6, n6, c6, hx6, q1, q2, q3⟩ := HATY.out
            have HX6 := Lib.hid hx6
            have HQ6 := Lib.hid (And.intro q1 (And.intro q2 q3))
            clear hx6 q1 q2 q3
            cases ov with
            | true =>
              clear HOV
              go_wp2_with fail
              refine (load_any HX6.out an kn (by omega)).mono ?_
              rintro e w7 ⟨rfl, hb7⟩
              rw [HNUM.out, if_pos rfl, Int.toNat_natCast, Int.toNat_natCast, show numV (fullS 8 m).mm an kn = V from (numV_congr HM.out).trans HV.out]
              have HAT7 := Lib.hid (HATY.out.below hb7)
              have B7 := BA.trans (hb7.mono BA.size)
              clear hb7 HX6 HQ6 HATY HAT BA f0 f1 f2 f3 f4 f5
              go_wp2_with fail
              go_roundw
              case rel => exact ⟨k + 1, m, by omega, by go_num, HAT7.out, HM.out, B7⟩
              case measure => simp [intOf]; omega
            | false =>
              have HDIS : Hid (y < 0 ∨ (an : Int) + kn ≤ y ∨ y + (s.data.toList.length : Int) ≤ an) := Lib.hid (by
                have e := HOV.out
                rw [bytes_len]
                by_cases g3 : y < (an : Int) + kn
                · by_cases g4 : (an : Int) < y + s.size
                  · rw [decide_eq_true g3, decide_eq_true g4] at e; simp at e
                  · exact .inr (.inr (by omega))
                · exact .inr (.inl (by omega)))
              clear HOV
              go_wp2_with fail
              refine (put_any HX6.out y hy9 s (by omega)).mono ?_
              rintro e w7 ⟨rfl, ht⟩
              obtain ⟨m', hm', hkeep⟩ := putS_full (m := m) an kn HDIS.out
              rw [hm'] at ht
              obtain ⟨hat7, hb7⟩ := ht.at (B := w.heap.size) BA.size HQ6.out.1 HQ6.out.2.1 HQ6.out.2.2
              have HM' : Hid (∀ j, j < kn → m' (an + j) = m0 (an + j)) := Lib.hid fun j hj => (hkeep j hj).trans (HM.out j hj)
              have B7 := BA.trans hb7
              have HAT7 := Lib.hid hat7
              clear ht hm' hkeep hat7 hb7 HX6 HQ6 HATY HAT BA f0 f1 f2 f3 f4 f5
              generalize thereE (fullS 8 m).L (fullS 8 m).es y s.data.toList.length = E
              go_wp2_with fail
              obtain ⟨P8, ps8, p8, n8, c8, hx8, q1, q2, q3⟩ := HAT7.out
              refine (load_any hx8 an kn (by omega)).mono ?_
              rintro e w8 ⟨rfl, hb8⟩
              rw [HNUM.out, if_pos rfl, Int.toNat_natCast, Int.toNat_natCast, show numV (fullS 8 m').mm an kn = V from (numV_congr HM'.out).trans HV.out]
              have HAT8 := Lib.hid (HAT7.out.below hb8)
              have B8 := B7.trans (hb8.mono B7.size)
              clear hb8 hx8 q1 q2 q3 HAT7 B7
              go_wp2_with fail
              go_roundw
              case rel => exact ⟨k + 1, m', by omega, by go_num, HAT8.out, HM'.out, B8⟩
              case measure => simp [intOf]; omega
      · have hke : k = acts.length := by omega
        clear hke
        go_wp2_with fail
        have e0 : ((an : Int) / 4096) = ((an / 4096 : Nat) : Int) := by omega
        have hpg : an / 4096 < 8 := by
          have := HKV.out
          omega
        rw [e0]
        clear e0
        generalize an / 4096 = pg at *
        obtain ⟨P6, ps6, p6, n6, c6, hx6, q1, q2, q3⟩ := HAT.out
        refine (decommit_any hx6 pg 1 (by omega)).mono ?_
        rintro e w7 ⟨rfl, ht⟩
        rw [page_dec m pg hpg]
        rw [page_decS m pg hpg] at ht
        obtain ⟨hat7, hb7⟩ := ht.at (B := w.heap.size) hB.size q1 q2 q3
        have B7 := hB.trans hb7
        have HAT7 := Lib.hid hat7
        clear hx6 q1 q2 q3 ht hat7 hb7 HAT
        go_wp2_with fail
        obtain ⟨P8, ps8, p8, n8, c8, hx8, q1, q2, q3⟩ := HAT7.out
        refine (commit_any hx8 pg 1 (by omega)).mono ?_
        rintro e w8 ⟨rfl, ht⟩
        rw [page_on m pg hpg]
        rw [page_onS m pg hpg] at ht
        obtain ⟨hat8, hb8⟩ := ht.at (B := w.heap.size) B7.size q1 q2 q3
        have B8 := B7.trans hb8
        have HAT8 := Lib.hid hat8
        clear hx8 q1 q2 q3 ht hat8 hb8 HAT7
        go_wp2_with fail
        obtain ⟨P9, ps9, p9, n9, c9, hx9, q1, q2, q3⟩ := HAT8.out
        have hmul : ((pg : Int) * 4096) = ((pg * 4096 : Nat) : Int) := by omega
        rw [hmul]
        clear hmul
        have hth : thereE (fullS 8 (clrM m pg 1)).L (fullS 8 (clrM m pg 1)).es ((pg * 4096 : Nat) : Int) (4096 : Int) = 0 := by
          show thereE 8 [0, 8] _ _ = 0
          rw [TE.out, if_pos (by omega)]
        refine (bytes_any hx9 ((pg * 4096 : Nat) : Int) 4096 (by omega)).mono ?_
        rintro e w9 ⟨rfl, hb9⟩
        rw [hth, if_pos rfl, Int.toNat_natCast, show (4096 : Int).toNat = 4096 from rfl, show getM (fullS 8 (clrM m pg 1)).mm (pg * 4096) 4096 = List.replicate 4096 0 from page_zero m pg]
        have B9 := B8.trans (hb9.mono B8.size)
        clear hth hx9 hb9 q1 q2 q3 HAT8
        generalize hz : strL (List.replicate 4096 0) = zs
        have HZ := Lib.hid hz
        clear hz
        go_wp2_with fail
        refine (noughts_any 4096 (by omega) _).mono ?_
        rintro e w10 ⟨rfl, hb10⟩
        rw [HZ.out]
        have hq : (zs.toList == zs.toList) = true := beq_self_eq_true _
        have B10 := B9.trans (hb10.mono B9.size)
        clear HZ hb10
        go_wp2_with fail
        go_ret
        exact ⟨rfl, B10⟩
theorem keeps_all (a0 a1 a2 : Int) (b0 : a0 ≤ 9223372036854775807) (hx : 0 ≤ a2) (hx2 : a2 < 18446744073709551616) (p : Option Addr) (c : Nat) (acts : List Act3) (hlen : acts.length ≤ 9223372036854775807) (w : World) (h : Acts3At w p acts) :
    Calls Try.prog 4 #[.int .i64 a0, .int .i64 a1, .int .u64 a2, .slice p acts.length c] w (TrueAt w) := by
  cases hl : lightB acts with
  | true => exact keeps_in a0 a1 a2 b0 hx hx2 p c acts hlen w h hl
  | false => exact keeps_out a0 a1 a2 p c acts hlen w h hl
end Go.Proofs.Ytfappdiipflpfaa.Bt
