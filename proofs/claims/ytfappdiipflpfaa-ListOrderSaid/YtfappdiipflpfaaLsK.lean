/- The walk of ListOrder. -/
import Derived.Test.YtfappdiipflpfaaLsJ
import Derived.Deep.DeepCutAuto
import Derived.OpenShut
namespace Go.Proofs.Ytfappdiipflpfaa.Bt
open Go Go.RowKit Go.Shelf Go.ChangeShapes Go.WideShapes
set_option linter.unusedVariables false

/-- the member of a number -/
def pl (y : Nat) : Nat := 4096 + 16 * (y % 256)
def Mem (z : Nat → Nat) (n : Nat) (ms : List Nat) : Prop := ∀ c ∈ ms, ∃ j, j < n ∧ c = pl (z j)
theorem pl_b (y : Nat) : 4096 ≤ pl y ∧ pl y % 16 = 0 ∧ pl y + 16 ≤ 8192 := by unfold pl; omega
theorem Mem.mul {z : Nat → Nat} {n : Nat} {ms : List Nat} (h : Mem z n ms) : ∀ c ∈ ms, 4096 ≤ c ∧ c % 16 = 0 := fun c hc => by
  obtain ⟨j, _, rfl⟩ := h c hc; have := pl_b (z j); omega
theorem mul_apart {ms : List Nat} (hs : ms.Pairwise (· < ·)) (hm : ∀ c ∈ ms, 4096 ≤ c ∧ c % 16 = 0) : Apart (64 :: ms) := by
  refine List.pairwise_cons.2 ⟨fun c hc => by have := hm c hc; omega, ?_⟩
  induction ms with
  | nil => exact .nil
  | cons a t ih =>
    have h := List.pairwise_cons.1 hs
    refine List.pairwise_cons.2 ⟨fun c hc => ?_, ih h.2 fun c hc => hm c (List.mem_cons_of_mem _ hc)⟩
    have h1 := h.1 c hc
    have h2 := hm a (by simp)
    have h3 := hm c (List.mem_cons_of_mem _ hc)
    omega
theorem mul_off {ms : List Nat} (hm : ∀ c ∈ ms, 4096 ≤ c ∧ c % 16 = 0) {x : Nat} (h1 : 4096 ≤ x) (h2 : x % 16 = 0) (hx : x ∉ ms) : ∀ c ∈ 64 :: ms, x + 8 ≤ c ∨ c + 8 ≤ x := fun c hc => by
  rcases List.mem_cons.1 hc with rfl | hc
  · omega
  · have h3 := hm c hc
    have h4 : c ≠ x := fun e => hx (e ▸ hc)
    omega
theorem Mem.ins {z : Nat → Nat} {n i : Nat} {ms : List Nat} (h : Mem z n ms) (hi : i < n) : Mem z n (ins (pl (z i)) ms) := fun c hc => by
  rcases (ins_mem _ c ms).1 hc with rfl | hc
  · exact ⟨i, hi, rfl⟩
  · exact h c hc
theorem Mem.less {z : Nat → Nat} {n : Nat} {ms ns : List Nat} (h : Mem z (n + 1) ms) (hn : ∀ c ∈ ns, c ∈ ms ∧ c ≠ pl (z n)) : Mem z n ns := fun c hc => by
  obtain ⟨h1, h2⟩ := hn c hc
  obtain ⟨j, hj, rfl⟩ := h c h1
  exact ⟨j, by have : j ≠ n := fun e => h2 (by rw [e]); omega, rfl⟩
theorem sorted_gets {ms : List Nat} (h : ms.Pairwise (· < ·)) : ∀ j, j + 1 < (ms.map fun m : Nat => (m : Int)).length → (ms.map fun m : Nat => (m : Int)).getD j 0 ≤ (ms.map fun m : Nat => (m : Int)).getD (j + 1) 0 := fun j hj => by
  rw [List.length_map] at hj
  have h1 := List.pairwise_iff_getElem.1 h j (j + 1) (by omega) hj (by omega)
  simp only [List.getD_eq_getElem?_getD, List.getElem?_map]
  rw [List.getElem?_eq_getElem (show j < ms.length by omega), List.getElem?_eq_getElem hj]
  simp; omega
/-- numbers that came in -/
def AtsRow (w : World) (p : Option Addr) (len : Nat) (z : Nat → Nat) : Prop := len = 0 ∨ ∃ b off, p = some ⟨b, off, none⟩ ∧ b < w.heap.size ∧ ∀ k, k < len → w.cell? ⟨b, off + k, none⟩ = some (.int .u16 (z k : Int)) ∧ z k < 65536
/-- the statement's variable lies there -/
def VarR (R A : Nat) (x : World) : Prop := x.heap[R]? = some (.cells #[.pointer (some ⟨A, 0, none⟩), .int .i64 64, .int .i64 11] 115 (0, 0))
theorem VarR.all {R A : Nat} {x : World} (h : VarR R A x) : x.cell? ⟨R, 0, none⟩ = some (.pointer (some ⟨A, 0, none⟩)) ∧ x.cell? ⟨R, 1, none⟩ = some (.int .i64 64) ∧ x.cell? ⟨R, 2, none⟩ = some (.int .i64 11) ∧ VarR R A x :=
  ⟨(cell_blk h 0).1, (cell_blk h 1).1, (cell_blk h 2).1, h⟩
theorem VarR.below {R A : Nat} {x y : World} (h : VarR R A x) (hb : Below x.heap.size x y) : VarR R A y := blk_on (A := A) hb h
theorem VarR.went {R A : Nat} {s : ASt} {x y : World} (h : VarR R A x) (ho : On A s x) (hg : Went A x y) : VarR R A y := hg.keep ho h (by decide) (by decide) (by decide)
/-- between two rounds of the first loop -/
def OrdA (R A : Nat) (z : Nat → Nat) (len : Nat) (w : World) (s6 s26 : Value) (wr : World) : Prop :=
  ∃ (i : Nat) (m : Nat → UInt8) (ms : List Nat), i ≤ len ∧ s26 = .int .i64 (i : Int) ∧ s6 = .int .i64 (ms.length : Int) ∧ ms.length ≤ i ∧ LsV R A 11 (twoS m) w wr ∧ LsK (twoS m) 64 11 0 64 ms ∧ Mem z len ms
def OrdB (R A : Nat) (z : Nat → Nat) (len : Nat) (w : World) (s58 : Value) (wr : World) : Prop :=
  ∃ (i : Nat) (m : Nat → UInt8) (ms : List Nat), i ≤ len ∧ s58 = .int .i64 (i : Int) ∧ LsV R A 11 (twoS m) w wr ∧ LsK (twoS m) 64 11 0 64 ms ∧ Mem z (len - i) ms

set_option maxHeartbeats 8000000 in
set_option maxRecDepth 100000 in
theorem order_all (p : Option Addr) (len cap : Nat) (z : Nat → Nat) (hlen : len ≤ 9223372036854775807) (w : World) (hrow : AtsRow w p len z) : Calls Try.prog 18 #[.slice p len cap] w (TrueAt w) := by
  have HR := Lib.hid hrow
  have N0 := Lib.hid (ls_new 11 0 (by omega) (by omega))
  have HT : Hid (∀ m y, thereE (twoS m).L (twoS m).es ((pl y : Nat) : Int) 16 = 0) := Lib.hid fun m y => there_two (by omega) (by omega) (by have := pl_b y; omega)
  clear hrow
  go_enter Try.func18, Try.ntmps18
  go_wp2_with fail
  refine (awake7 _).mono ?_
  rintro e w0 ⟨rfl, hb0⟩
  by_cases hl80 : 80 < len
  · have h80 : 80 < (len : Int) := by omega
    have HB0 := Lib.hid hb0
    clear hb0
    go_wp2_with fail
    go_ret
    exact ⟨rfl, HB0.out⟩
  have h80 : (len : Int) ≤ 80 := by omega
  have hlen80 : len ≤ 80 := by omega
  go_wp2_with fail
  refine (open7 1 (by omega) _).mono ?_
  rintro e w1 ⟨A, rfl, hx, hb⟩
  obtain ⟨R, hRR⟩ : ∃ R, w1.heap.size = R := ⟨_, rfl⟩
  obtain ⟨w2, hw2⟩ : ∃ w2, w1.alloc (.cells #[.pointer (some ⟨A, 0, none⟩), .int .i64 64, .int .i64 11] 115) = w2 := ⟨_, rfl⟩
  have HV2 : Hid (LsV R A 11 (twoS fun _ => 0) w w2) := Lib.hid (by rw [← hw2, ← hRR]; exact LsV.start hx (hb.rebase hb0))
  have HW2 := Lib.hid hw2
  clear hx hb hw2 hb0 hl80 hlen
  go_wp2_with fail
  rw [HW2.out]
  clear HW2 hRR
  have HST : Hid (OrdA R A z len w (.int .i64 0) (.int .i64 0) w2) := Lib.hid ⟨0, _, [], Nat.zero_le _, rfl, rfl, Nat.le_refl _, HV2.out, N0.out, fun c hc => by cases hc⟩
  clear HV2 N0
  go_loopw [6, 26] (fun s6 s26 wr => OrdA R A z len w s6 s26 wr) (fun _ s26 _ => len - (intOf s26).toNat)
  case atStart => exact HST.out
  case round =>
    obtain ⟨i, m, ms, hi, rfl, rfl, hmi, hv, hl, hmem⟩ := hrel
    have HV := Lib.hid hv
    have HL := Lib.hid hl
    have HM := Lib.hid hmem
    by_cases hlt : i < len
    · rcases HR.out with he | ⟨b, off, rfl, hbl, hc⟩
      · omega
      obtain ⟨hc1, hz1⟩ := hc i hlt
      have c3 := (hv.b.bel.cell (p := ⟨b, off + i, none⟩) hbl).trans hc1
      obtain ⟨c0, c1, c2⟩ := hv.all
      obtain ⟨r, hr⟩ : ∃ r, z i % 256 = r := ⟨_, rfl⟩
      obtain ⟨x, hx⟩ : ∃ x, pl (z i) = x := ⟨_, rfl⟩
      have hrx : x = 4096 + 16 * r := by rw [← hx, ← hr]; rfl
      have q0 : ((z i : Nat) : Int) % 256 = (r : Int) := by omega
      have q1 : ((z i : Nat) : Int).tmod 256 = (r : Int) := by rw [Int.tmod_eq_emod_of_nonneg (by omega)]; exact q0
      have q2 : r < 256 := by omega
      have q3 : 4096 + 16 * (r : Int) = (x : Int) := by omega
      have HX := Lib.hid hx
      have HTX : Hid (∀ m, thereE (twoS m).L (twoS m).es (x : Int) 16 = 0) := Lib.hid fun m => by rw [← hx]; exact HT.out m _
      have HXB : Hid (4096 ≤ x ∧ x % 16 = 0) := Lib.hid (by have := pl_b (z i); rw [hx] at this; omega)
      have HMUL := Lib.hid hmem.mul
      have HAP := Lib.hid (mul_apart hl.ch.sorted hmem.mul)
      obtain ⟨zi, hzi⟩ : ∃ zi, z i = zi := ⟨_, rfl⟩
      have HZ := Lib.hid hzi
      rw [hzi] at c3 q0 q1
      clear hv hl hmem hc hc1 hz1 hr hx hrx hzi
      go_wp2_with fail
      have HQ := Lib.hid q3
      clear c3 q0 q1 q2 q3
      by_cases hin : x ∈ ms
      · have HIN := Lib.hid hin
        have HLA := Lib.hid (ladd_there HV.out.o 64 11 (by omega) (by omega) 0 64 x ms HL.out (by have := HXB.out; omega) hin)
        clear hin
        refine HLA.out.mono ?_
        rintro e w4 ⟨rfl, hb⟩
        have HV4 := Lib.hid (HV.out.below hb)
        clear hb c0 c1 c2
        go_wp2_with fail
        go_roundw
        case rel => exact ⟨i + 1, m, ms, by omega, by go_num, rfl, by omega, HV4.out, HL.out, HM.out⟩
        case measure => simp [intOf]; omega
      · have HLA := Lib.hid (ladd_ls HV.out.o 64 11 (by omega) (by omega) 0 64 x ms HL.out (by have := HXB.out; omega) hin (HTX.out _) HAP.out (mul_off HMUL.out HXB.out.1 HXB.out.2 hin))
        clear hin
        refine HLA.out.mono ?_
        rintro e w4 ⟨m4, rfl, ho, hg, hl4, _⟩
        have HV4 := Lib.hid (HV.out.went ho hg)
        have HL4 : Hid (LsK (twoS m4) 64 11 0 64 (ins x ms)) := Lib.hid hl4
        have HM4 : Hid (Mem z len (ins x ms)) := Lib.hid (by rw [← HX.out]; exact HM.out.ins hlt)
        have HN4 := Lib.hid (ins_length x ms)
        clear ho hg hl4 c0 c1 c2
        go_wp2_with fail
        go_roundw
        case rel => exact ⟨i + 1, m4, ins x ms, by omega, by go_num, by rw [HN4.out]; go_num, by rw [HN4.out]; omega, HV4.out, HL4.out, HM4.out⟩
        case measure => simp [intOf]; omega
    · have hml : ms.length ≤ 80 := by omega
      have HLL := Lib.hid (lall HV.out.o 64 11 (by omega) (by omega) 0 _ HL.out.lk (by
        have : ∀ (h z : Nat) (l : List Nat), (prs h z l).length = l.length + 1 := fun h z l => by
          induction l generalizing h z with
          | nil => rfl
          | cons m t ih => show (prs m 16 t).length + 1 = _; rw [ih]; rfl
        rw [this]; omega))
      have HTL := Lib.hid (toL_prs 64 8 ms HL.out.ch.gt)
      have HSG := Lib.hid (sorted_gets HL.out.ch.sorted)
      obtain ⟨c0, c1, c2⟩ := hv.all
      clear hv hl hmem
      go_wp2_with fail
      refine HLL.out.mono ?_
      rintro e w4 ⟨v, rfl, hi4, hb⟩
      rw [HTL.out] at hi4
      obtain ⟨pa, ca, rfl, hrw⟩ := ints_len hi4
      have HRW := Lib.hid hrw
      have HV4 := Lib.hid (HV.out.below hb)
      have HLE : Hid ((ms.map fun m : Nat => (m : Int)).length = ms.length) := Lib.hid (by simp)
      rw [HLE.out]
      clear hb hi4 hrw c0 c1 c2 HTL HLL
      go_wp2_with fail
      refine (sorted_any pa ms.length ca _ HLE.out.symm (by omega) w4 HRW.out HSG.out).mono ?_
      rintro e w5 ⟨rfl, hb⟩
      have HV5 := Lib.hid (HV4.out.below hb)
      clear hb
      go_wp2_with fail
      have HS2 : Hid (OrdB R A z len w (.int .i64 0) w5) := Lib.hid ⟨0, m, ms, Nat.zero_le _, rfl, HV5.out, HL.out, by rw [Nat.sub_zero]; exact HM.out⟩
      clear HRW HV4 HV5 HL HM HV HLE HSG HST
      go_loopw [58] (fun s58 wr => OrdB R A z len w s58 wr) (fun s58 _ => len - (intOf s58).toNat)
      case atStart => exact HS2.out
      case round =>
        clear HS2
        obtain ⟨i, m, ms, hi, rfl, hv, hl, hmem⟩ := hrel
        have HV := Lib.hid hv
        have HL := Lib.hid hl
        by_cases hlt : i < len
        · rcases HR.out with he | ⟨b, off, rfl, hbl, hc⟩
          · omega
          obtain ⟨jx, hjx⟩ : ∃ jx, len - 1 - i = jx := ⟨_, rfl⟩
          have hmem' : Mem z (jx + 1) ms := by rw [show jx + 1 = len - i by omega]; exact hmem
          have HM := Lib.hid hmem'
          obtain ⟨hc1, hz1⟩ := hc jx (by omega)
          have c3 := (hv.b.bel.cell (p := ⟨b, off + jx, none⟩) hbl).trans hc1
          obtain ⟨c0, c1, c2⟩ := hv.all
          obtain ⟨r, hr⟩ : ∃ r, z jx % 256 = r := ⟨_, rfl⟩
          obtain ⟨x, hx⟩ : ∃ x, pl (z jx) = x := ⟨_, rfl⟩
          have hrx : x = 4096 + 16 * r := by rw [← hx, ← hr]; rfl
          have q0 : ((z jx : Nat) : Int) % 256 = (r : Int) := by omega
          have q1 : ((z jx : Nat) : Int).tmod 256 = (r : Int) := by rw [Int.tmod_eq_emod_of_nonneg (by omega)]; exact q0
          have q2 : r < 256 := by omega
          have q3 : 4096 + 16 * (r : Int) = (x : Int) := by omega
          have q4 : (len : Int) - 1 - (i : Int) = (jx : Int) := by omega
          have q5 : jx < len := by omega
          have HJ := Lib.hid hjx
          have HX := Lib.hid hx
          have HXB : Hid (4096 ≤ x ∧ x % 16 = 0) := Lib.hid (by have := pl_b (z jx); rw [hx] at this; omega)
          have HAP := Lib.hid (mul_apart hl.ch.sorted hmem'.mul)
          have HND := Lib.hid (hl.ch.sorted.imp (fun {a b} (h : a < b) => Nat.ne_of_lt h))
          have HHV := Lib.hid (hasV_ch hl.ch x (by have := HXB.out; omega))
          obtain ⟨zi, hzi⟩ : ∃ zi, z jx = zi := ⟨_, rfl⟩
          have HZ := Lib.hid hzi
          rw [hzi] at c3 q0 q1
          have HVR : VarR R A wr := hv.v
          clear hv hl hmem hmem' hc hc1 hz1 hr hx hrx hzi hjx
          go_upto_region 20 with fail
          clear c0 c1 c2 c3 q0 q1 q2 q3 q4
          by_cases hin : x ∈ ms
          · have HH1 : Hid (hasV (prs 64 8 ms) x = true) := Lib.hid (by rw [HHV.out]; simpa using hin)
            have HIN := Lib.hid hin
            clear hin
            go_region_held3 (fun X => X.cell? ⟨R, 0, none⟩ = some (.pointer (some ⟨A, 0, none⟩)) ∧ X.cell? ⟨R, 1, none⟩ = some (.int .i64 64) ∧ X.cell? ⟨R, 2, none⟩ = some (.int .i64 11) ∧ VarR R A X)
              (first | exact (HVR.below (Below.refl _ _).drew).all | assumption)
              (first | (go_at_call 85; refine (lhas (HV.out.o.below (Below.refl _ _).drew) 64 11 (by omega) (by omega) 0 x _ HL.out.lk).mono ?_; rintro e w' ⟨rfl, hbb⟩; rw [HH1.out]; have hnx := ((HVR.below (Below.refl _ _).drew).below hbb).all; have hv6 := (HV.out.below (Below.refl _ _).drew).below hbb)
                     | (go_at_call 80; refine (lrem_ls hv6.o 64 11 (by omega) (by omega) 0 64 x ms HL.out (by have := HXB.out; omega) HIN.out HAP.out).mono ?_; rintro e w'' ⟨m5, rfl, ho5, hg5, hl5, _⟩; have hny := (hnx.2.2.2.went hv6.o hg5).all))
            all_goals
              have HV7 := Lib.hid (hv6.went ho5 hg5)
              have HL7 : Hid (LsK (twoS m5) 64 11 0 64 (ms.erase x)) := Lib.hid hl5
              have HM7 : Hid (Mem z (len - (i + 1)) (ms.erase x)) := Lib.hid (by
                rw [show len - (i + 1) = jx by have := HJ.out; omega]
                exact HM.out.less fun c hc => by
                  have h1 := (List.Nodup.mem_erase_iff HND.out).1 hc
                  rw [HX.out]; exact ⟨h1.2, h1.1⟩)
              clear HVR hnx hny hbb hv6 ho5 hg5 hl5
              go_wp2_with fail
              go_roundw
              case rel => exact ⟨i + 1, m5, ms.erase x, by omega, by go_num, HV7.out, HL7.out, HM7.out⟩
              case measure => simp [intOf]; omega
          · have HH1 : Hid (hasV (prs 64 8 ms) x = false) := Lib.hid (by rw [HHV.out]; simpa using hin)
            have HIN := Lib.hid hin
            clear hin
            go_region_held3 (fun X => X.cell? ⟨R, 0, none⟩ = some (.pointer (some ⟨A, 0, none⟩)) ∧ X.cell? ⟨R, 1, none⟩ = some (.int .i64 64) ∧ X.cell? ⟨R, 2, none⟩ = some (.int .i64 11) ∧ VarR R A X)
              (first | exact (HVR.below (Below.refl _ _).drew).all | assumption)
              (first | (go_at_call 85; refine (lhas (HV.out.o.below (Below.refl _ _).drew) 64 11 (by omega) (by omega) 0 x _ HL.out.lk).mono ?_; rintro e w' ⟨rfl, hbb⟩; rw [HH1.out]; have hnx := ((HVR.below (Below.refl _ _).drew).below hbb).all; have hv6 := (HV.out.below (Below.refl _ _).drew).below hbb)
                     | (go_at_call 80; refine (lrem_none hv6.o 64 11 (by omega) (by omega) 0 x 64 ms HL.out (fun y hy => by rw [show y = x by omega]; exact HIN.out)).mono ?_; rintro e w'' ⟨rfl, hbc⟩; have hny := (hnx.2.2.2.below hbc).all))
            all_goals
              have HV7 := Lib.hid (hv6.below hbc)
              have HM7 : Hid (Mem z (len - (i + 1)) ms) := Lib.hid (by
                rw [show len - (i + 1) = jx by have := HJ.out; omega]
                exact HM.out.less fun c hc => by
                  rw [HX.out]; exact ⟨hc, fun e => HIN.out (e ▸ hc)⟩)
              clear HVR hnx hny hbb hv6 hbc
              go_wp2_with fail
              go_roundw
              case rel => exact ⟨i + 1, m, ms, by omega, by go_num, HV7.out, HL.out, HM7.out⟩
              case measure => simp [intOf]; omega
        · obtain rfl : ms = [] := by
            cases ms with
            | nil => rfl
            | cons c t => obtain ⟨j, hj, _⟩ := hmem c (by simp); omega
          have HF := Lib.hid (lfirst hv.o 64 11 (by omega) (by omega) 0 _ hl.lk)
          have HA0 : Hid (atV (prs 64 8 []) 1 = 0) := Lib.hid (by decide)
          obtain ⟨c0, c1, c2⟩ := hv.all
          clear hv hl hmem HL
          go_wp2_with fail
          refine HF.out.mono ?_
          rintro e w6 ⟨rfl, hb⟩
          rw [HA0.out]
          have HV6 := Lib.hid (HV.out.below hb)
          clear hb c0 c1 c2
          go_wp2_with fail
          go_ret
          exact ⟨rfl, HV6.out.b.bel⟩
theorem ats_of_row {w : World} {a : Option Addr} {len cap : Nat} {zs : List Int}
    (h : (a = none ∧ len = 0 ∧ cap = 0 ∧ zs = []) ∨ ∃ x, a = some x ∧ len ≤ cap ∧ cap ≤ maxLen ∧ zs.length = cap ∧ (∀ i, i < zs.length → w.cell? (x.add i) = some (.int .u16 (zs.getD i 0))) ∧ ∀ n ∈ zs, (Lit.int .u16 n).wf = true) :
    len ≤ 9223372036854775807 ∧ AtsRow w a len fun k => (zs.getD k 0).toNat := by
  rcases h with ⟨_, rfl, _, _⟩ | ⟨x, rfl, h1, h2, h3, h4, h5⟩
  · exact ⟨by omega, .inl rfl⟩
  · unfold maxLen at h2
    refine ⟨by omega, ?_⟩
    by_cases h0 : len = 0
    · exact .inl h0
    · have k0 := h4 0 (by omega)
      obtain ⟨b, off, spot⟩ := x
      have hspot : spot = none := by simpa [Addr.add] using World.cell?_spot k0
      subst hspot
      have eA : ∀ j, (⟨b, off, none⟩ : Addr).add j = ⟨b, off + j, none⟩ := fun j => by
        simp only [Addr.add]; split <;> simp_all
      refine .inr ⟨b, off, rfl, World.block_lt_of_cell? _ _ k0, fun i hi => ?_⟩
      have h6 := h4 i (by omega)
      rw [eA] at h6
      have h7 := h5 (zs.getD i 0) (by rw [List.getD_eq_getElem?_getD, List.getElem?_eq_getElem (show i < zs.length by omega)]; exact List.getElem_mem _)
      have h8 := bounds_u16 h7
      refine ⟨?_, by show (zs.getD i 0).toNat < 65536; omega⟩
      rw [h6]
      show _ = some (Value.int .u16 ((zs.getD i 0).toNat : Int))
      rw [Int.toNat_of_nonneg h8.1]
end Go.Proofs.Ytfappdiipflpfaa.Bt
