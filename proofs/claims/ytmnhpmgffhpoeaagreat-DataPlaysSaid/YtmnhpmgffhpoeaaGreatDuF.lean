/- Several texts in one: DkG; DkH; DkI. -/
import Derived.Test.YtmnhpmgffhpoeaaGreatDuE
import Derived.Test.YtmnhpmgffhpoeaaGreatDuB
import Derived.Test.YtmnhpmgffhpoeaaGreatBitsVar
import Derived.Lib.SmallJoins
import Derived.Deep.Slices
import Derived.Deep.Strs
import Derived.ChangeSame
import Derived.OpenShut
import Derived.WideShapes
import Derived.WalkSmall
import Derived.Maps.RangeWalk
import Derived.Maps.OwnOps
import Derived.StringKeys
/- The statements' keys, in a variable; the chapter's example. (Written by gen_dkg.py.) -/
namespace Go.Proofs.YtmnhpmgffhpoeaaGreat.Bt
open Go Go.RowKit Go.Shelf
set_option linter.unusedVariables false
set_option linter.unusedSimpArgs false
set_option maxRecDepth 100000
def kPutL (n : Nat) (L T : List Itm) : List Itm := if putsC n L T = 0 then putsL n L T else L
def drC (L : List Itm) (k : ByteArray) : Int := if ixK L k < L.length then 0 else 8
def drL (L : List Itm) (k : ByteArray) : List Itm := if ixK L k < L.length then L.eraseIdx (ixK L k) else L
/-- an answer, and the keys from now on -/
def KRet (A vs : Nat) (L : List Itm) (v : Value) (w : World) (e : Ending) (w' : World) : Prop := ∃ m', e = .returned v ∧ On A (cS m') w' ∧ Ky m' (vs / 32) L ∧ Went A w w'
section
variable {A vs : Nat} {m : Nat → UInt8} {w : World} {L : List Itm}
theorem Ky.oks {n : Nat} (hL : Ky m n L) : ∀ u ∈ L, u.ok := fun u hu => by
  obtain ⟨i, hi, e⟩ := List.mem_iff_getElem.1 hu
  exact (hL.rd i u (by rw [List.getElem?_eq_getElem hi, e])).2
theorem Ky.put {n : Nat} (hL : Ky m n L) (T : List Itm) (hT : ∀ t ∈ T, t.x < 18446744073709551616) : Ky (if putsC n L T = 0 then stAll m (putsL n L T) (putsL n L T).length else m) n (kPutL n L T) := by
  unfold kPutL
  by_cases c : putsC n L T = 0
  · rw [if_pos c, if_pos c]
    have h := puts_ok n T hT L hL.oks hL.len
    exact hL.all h.1 h.2.1 h.2.2
  · rw [if_neg c, if_neg c]; exact hL
theorem kPut (h : On A (cS m) w) (hv : vs ≤ 400) (hL : Ky m (vs / 32) L) (T : List Itm) (pa : Option Addr) (ca : Nat) (hT : ItsAt w pa T) (hTl : T.length ≤ 1000) (hTo : ∀ t ∈ T, t.k.size ≤ 9223372036854775807 ∧ t.x < 18446744073709551616) :
    Calls Tryz.prog 7 #[vwV A 40 vs, .slice pa T.length ca] w (KRet A vs (kPutL (vs / 32) L T) (.int .i64 (putsC (vs / 32) L T)) w) := by
  refine (kput h hv hL T pa ca hT hTl hTo).mono ?_
  rintro e w' ⟨rfl, ho, hg⟩
  exact ⟨_, rfl, ho, hL.put T fun t ht => (hTo t ht).2, hg⟩
theorem kSet (h : On A (cS m) w) (hv : vs ≤ 400) (hL : Ky m (vs / 32) L) (k : ByteArray) (x : Nat) (hk : k.size ≤ 9223372036854775807) (hx : x < 18446744073709551616) :
    Calls Tryz.prog 12 #[vwV A 40 vs, .string k, .int .u64 (x : Int)] w (KRet A vs (kPutL (vs / 32) L [⟨k, x⟩]) (.int .i64 (putsC (vs / 32) L [⟨k, x⟩])) w) := by
  refine (kset1 h hv hL k x hk hx).mono ?_
  rintro e w' ⟨rfl, ho, hg⟩
  exact ⟨_, rfl, ho, hL.put _ fun t ht => by rw [List.mem_singleton.1 ht]; exact hx, hg⟩
theorem kDrop (h : On A (cS m) w) (hv : vs ≤ 400) (hL : Ky m (vs / 32) L) (k : ByteArray) : Calls Tryz.prog 10 #[vwV A 40 vs, .string k] w (KRet A vs (drL L k) (.int .i64 (drC L k)) w) := by
  unfold drL drC
  by_cases c : ixK L k < L.length
  · rw [if_pos c, if_pos c]
    refine (kdrop_one h hv hL k c).mono ?_
    rintro e w' ⟨rfl, ho, hg⟩
    exact ⟨_, rfl, ho, hL.remove _ c, hg⟩
  · rw [if_neg c, if_neg c]
    refine (kdrop_none h hv hL k c).mono ?_
    rintro e w' ⟨rfl, hb⟩
    exact ⟨m, rfl, h.below hb, hL, Went.of_below h hb⟩
end
theorem kopen (pa : Option Addr) (va vs : Nat) (w : World) : Calls Tryz.prog 20 #[.agg #[.pointer pa, .int .i64 (va : Int), .int .i64 (vs : Int)]] w (Gives (.agg #[.pointer pa, .int .i64 (va : Int), .int .i64 (vs : Int)]) w) := by
  go_enter Tryz.func20, Tryz.ntmps20
  go_wp2_with fail
  exact bodyPost_ret (v := .agg #[.pointer pa, .int .i64 (va : Int), .int .i64 (vs : Int)]) (by simp [results, Tryz.results20, go_sem]) rfl ⟨rfl, below2 _ _ _⟩
def Opn22 (vs : Nat) (w : World) (e : Ending) (w' : World) : Prop :=
  ∃ A, e = .returned (.tuple #[.pointer (some ⟨A, 0, none⟩), vwV A 40 vs, .bool true]) ∧ On A (cS fun _ => 0) w' ∧ Base A w w'
set_option maxHeartbeats 4000000 in
theorem open22 (vs : Nat) (hv : vs ≤ 400) (w : World) : Calls Tryz.prog 6 #[.int .i64 (vs : Int)] w (Opn22 vs w) := by
  have L1 : Hid (lenN 1 = 1) := Lib.hid (by decide)
  have E1 : Hid (commitE (newS 1) 0 1 = 0) := Lib.hid (by decide)
  have S1 : Hid (commitS (newS 1) 0 1 = fullS 1 (fun _ => 0)) := Lib.hid (full_new 1 1 (by decide) (by decide) (by decide))
  have T1 : Hid (thereE (cS fun _ => 0).L (cS fun _ => 0).es 40 vs = 0) := Lib.hid (cS_there (by omega) (by omega) (by omega))
  clear hv
  go_enter Tryz.func6, Tryz.ntmps6
  go_wp2_with fail
  refine (on_new 1 _).mono ?_
  rintro e w1 ⟨A, rfl, hA, hx, hb, hm⟩
  rw [L1.out] at hx
  have HX1 := Lib.hid hx
  have HB1 := Lib.hid (show Base A w w1 from hb.rebase (bel1 w (.cells #[.pointer none, .int .i64 0, .int .i64 0] 30)))
  have HM1 := Lib.hid (hm w.heap.size (by simp))
  have HR1 := Lib.hid ((hb.bel.block w.heap.size (by simp)).trans (heap_new w (.cells #[.pointer none, .int .i64 0, .int .i64 0] 30)))
  clear hx hb hA hm
  go_wp2_with fail
  refine (on_commit HX1.out 0 1 (by omega)).mono ?_
  rintro e w2 ⟨rfl, hx, hg⟩
  rw [E1.out]; rw [S1.out] at hx
  have HX2 := Lib.hid hx
  have HB2 := Lib.hid (HB1.out.went hg)
  have HR2 := Lib.hid (HM1.out.at hg HR1.out)
  have HM2 := Lib.hid (HM1.out.went hg)
  clear hx hg
  go_wp2_with fail
  refine (on_of HX2.out 40 vs (by omega)).mono ?_
  rintro e w3 ⟨rfl, hb⟩
  rw [T1.out, ofV_ok]
  have HX3 := Lib.hid (HX2.out.below hb)
  have HB3 := Lib.hid (HB2.out.below HX2.out hb)
  have HR3 := Lib.hid ((hb.block _ (Array.getElem?_eq_some_iff.1 HR2.out).1).trans HR2.out)
  have HM3 := Lib.hid (HM2.out.went (Went.of_below HX2.out hb))
  clear hb
  go_wp2_with fail
  have bV := Lib.hid (bel1 w3 (.cells #[.pointer (some ⟨A, 0, none⟩), .int .i64 40, .int .i64 (vs : Int)] 28))
  refine (kopen (some ⟨A, 0, none⟩) 40 vs _).mono ?_
  rintro e w4 ⟨rfl, hb⟩
  have HX4 := Lib.hid ((HX3.out.below bV.out).below hb)
  have HB4 := Lib.hid ((HB3.out.below HX3.out bV.out).below (HX3.out.below bV.out) hb)
  have hr3 := HR3.out
  have hr4 := (hb.block w.heap.size (Nat.lt_of_lt_of_le (Array.getElem?_eq_some_iff.1 hr3).1 bV.out.size)).trans ((bV.out.block _ (Array.getElem?_eq_some_iff.1 hr3).1).trans hr3)
  have HR4 := Lib.hid hr4
  have HM4 := Lib.hid ((HM3.out.went (Went.of_below HX3.out bV.out)).went (Went.of_below (HX3.out.below bV.out) hb))
  have c0 := (cell_blk hr4 0).1; have c1 := (cell_blk hr4 1).1; have c2 := (cell_blk hr4 2).1
  have f0 := (cell_blk hr4 0).2; have f1 := (cell_blk hr4 1).2; have f2 := (cell_blk hr4 2).2
  clear hr3 hr4 hb
  go_wp2_with fail
  have h3 : (stR w4 w.heap.size [.pointer (some ⟨A, 0, none⟩), .int .i64 40, .int .i64 (vs : Int)] 0).heap[w.heap.size]? = some (.cells #[.pointer (some ⟨A, 0, none⟩), .int .i64 40, .int .i64 (vs : Int)] 30 (0, 0)) := heap_set (heap_set (heap_set HR4.out (.pointer (some ⟨A, 0, none⟩))) (.int .i64 40)) (.int .i64 (vs : Int))
  have g0 := (cell_blk h3 0).1; have g1 := (cell_blk h3 1).1; have g2 := (cell_blk h3 2).1
  have hF := set3 (w0 := w) HX4.out HB4.out HM4.out (Nat.le_refl _) (.pointer (some ⟨A, 0, none⟩)) (.int .i64 40) (.int .i64 (vs : Int))
  have HF := Lib.hid hF
  clear hF
  change bodyPost _ _ _ _ _ (stR w4 w.heap.size [.pointer (some ⟨A, 0, none⟩), .int .i64 40, .int .i64 (vs : Int)] 0)
  exact bodyPost_ret (v := .tuple #[.pointer (some ⟨A, 0, none⟩), vwV A 40 vs, .bool true]) (by simp [results, Tryz.results6, go_sem, g0, g1, g2]) rfl ⟨A, rfl, HF.out.1, HF.out.2⟩
/-- a statement's keys, in a variable -/
structure KyS (C A vs : Nat) (m : Nat → UInt8) (w x : World) : Prop where
  c : x.heap[C]? = some (.cells (vwC A 40 vs) 30 (0, 0))
  on : On A (cS m) x
  bs : Base A w x
section
variable {C A vs : Nat} {m m' : Nat → UInt8} {w x z : World}
theorem KyS.below (h : KyS C A vs m w x) (hb : Below x.heap.size x z) : KyS C A vs m w z :=
  ⟨blk_at hb h.c, h.on.below hb, h.bs.below h.on hb⟩
theorem KyS.went (h : KyS C A vs m w x) (ho : On A (cS m') z) (hg : Went A x z) : KyS C A vs m' w z :=
  ⟨hg.keep h.on h.c (by decide) (by decide) (by decide), ho, h.bs.went hg⟩
theorem KyS.start (ho : On A (cS m) x) (hb : Base A w x) : KyS x.heap.size A vs m w (x.alloc (.cells (vwC A 40 vs) 30)) := ⟨heap_new _ _, ho.below (bel1 _ _), hb.below ho (bel1 _ _)⟩
theorem KyS.all (h : KyS C A vs m w x) : x.cell? ⟨C, 0, none⟩ = some (.pointer (some ⟨A, 0, none⟩)) ∧ x.cell? ⟨C, 1, none⟩ = some (.int .i64 40) ∧ x.cell? ⟨C, 2, none⟩ = some (.int .i64 (vs : Int)) :=
  ⟨(cell_blk h.c 0).1, (cell_blk h.c 1).1, (cell_blk h.c 2).1⟩
end
theorem awake5k (w : World) : Calls Tryz.prog 21 #[] w (Gives (.bool true) w) := by
  go_enter Tryz.func21, Tryz.ntmps21
  go_wp2_with fail
  refine (awake5_calls _).mono ?_
  rintro e w1 ⟨rfl, hb⟩
  go_wp2_with fail
  go_ret
  exact ⟨rfl, hb⟩
set_option maxHeartbeats 2000000 in
theorem kequal {w : World} {L : List Itm} (u v : Option Addr) (ca cb : Nat) (hL : L.length ≤ 100) (hu : RowG 39 iL 2 u L w) (hv : RowG 39 iL 2 v L w) :
    Calls Tryz.prog 22 #[.slice u L.length ca, .slice v L.length cb] w (Gives (.bool true) w) := by
  obtain ⟨n, hn⟩ : ∃ n, L.length = n := ⟨_, rfl⟩
  have HN := Lib.hid hn
  have d1 : ((n : Int) != (n : Int)) = false := by simp
  have HU := Lib.hid hu; have HV := Lib.hid hv
  rw [hn] at hL ⊢
  clear hu hv hn
  go_enter Tryz.func22, Tryz.ntmps22
  go_wp2_with fail
  go_loopw [13] (fun i wr => ∃ j : Nat, j ≤ n ∧ i = .int .i64 (j : Int) ∧ Hid (Below w.heap.size w wr)) (fun i _ => n - (intOf i).toNat)
  case atStart => exact ⟨0, Nat.zero_le _, rfl, Lib.hid (Below.refl _ _)⟩
  case round =>
    obtain ⟨j, hj, rfl, HW⟩ := hrel
    by_cases hlt : j < n
    · obtain ⟨E, hE⟩ : ∃ E, L[j]? = some E := ⟨_, List.getElem?_eq_getElem (by have := HN.out; omega)⟩
      obtain ⟨gu, rfl, -, p0, p1⟩ := rowI_cell (HU.out.below HW.out) hE
      obtain ⟨gv, rfl, -, q0, q1⟩ := rowI_cell (HV.out.below HW.out) hE
      obtain ⟨y1, y2⟩ := E
      simp only at p0 p1 q0 q1
      have i0 : 0 ≤ (j : Int) := by omega
      have i1 : (j : Int) < (n : Int) := by omega
      clear hE
      go_wp2_with fail
      go_region
      go_wp2_with fail
      refine ⟨⟨j + 1, by omega, by go_num, Lib.hid HW.out.drew⟩, by simp [intOf]; omega⟩
    · have i1 : ¬ (j : Int) < (n : Int) := by omega
      go_wp2_with fail
      go_ret
      exact ⟨rfl, HW.out⟩
def kyA : ByteArray := ⟨#[97]⟩
def kyB : ByteArray := ⟨#[98]⟩
theorem aw1 : putsC (96 / 32) [] [⟨⟨#[97]⟩, 1⟩] = 0 ∧ kPutL (96 / 32) [] [⟨⟨#[97]⟩, 1⟩] = [⟨⟨#[97]⟩, 1⟩] := ⟨rfl, rfl⟩
theorem aw2 : putsC (96 / 32) [⟨⟨#[97]⟩, 1⟩] [⟨⟨#[98]⟩, 2⟩] = 0 ∧ kPutL (96 / 32) [⟨⟨#[97]⟩, 1⟩] [⟨⟨#[98]⟩, 2⟩] = [⟨⟨#[97]⟩, 1⟩, ⟨⟨#[98]⟩, 2⟩] := ⟨rfl, rfl⟩
theorem aw3 : putsC (96 / 32) [⟨⟨#[97]⟩, 1⟩, ⟨⟨#[98]⟩, 2⟩] [⟨⟨#[97]⟩, 3⟩] = 0 ∧ kPutL (96 / 32) [⟨⟨#[97]⟩, 1⟩, ⟨⟨#[98]⟩, 2⟩] [⟨⟨#[97]⟩, 3⟩] = [⟨⟨#[97]⟩, 3⟩, ⟨⟨#[98]⟩, 2⟩] := ⟨rfl, rfl⟩
set_option maxHeartbeats 8000000 in
theorem awake22 (w : World) : Calls Tryz.prog 4 #[] w (Gives (.bool true) w) := by
  go_enter Tryz.func4, Tryz.ntmps4
  go_wp2_with fail
  refine (open22 96 (by omega) _).mono ?_
  rintro e w1 ⟨A, rfl, hx, hb⟩
  have HV0 := Lib.hid (KyS.start (vs := 96) hx hb)
  clear hx hb
  go_upto_region 2 with fail
  change Code.wp _ _ _ _ (w1.alloc (.cells (vwC A 40 96) 30))
  obtain ⟨y, hy⟩ : ∃ y, w1.alloc (.cells (vwC A 40 96) 30) = y := ⟨_, rfl⟩
  obtain ⟨C, hC⟩ : ∃ C, w1.heap.size = C := ⟨_, rfl⟩
  rw [hy, hC] at HV0
  rw [hy, hC]
  clear hy hC
  have HL0 := Lib.hid (Ky.new (96 / 32))
  have ha1 := kSet HV0.out.on (by omega) HL0.out ⟨#[97]⟩ 1 (by decide) (by decide)
  rw [aw1.1, aw1.2] at ha1
  have HA1 := Lib.hid ha1
  clear ha1
  obtain ⟨c0, c1, c2⟩ := HV0.out.all
  go_wp2_with fail
  refine HA1.out.mono ?_
  rintro e x1 ⟨m1, rfl, ho, hl, hg⟩
  have HV1 := Lib.hid (HV0.out.went ho hg)
  have HL1 := Lib.hid hl
  clear ho hl hg HV0 HL0 HA1 c0 c1 c2
  have ha2 := kSet HV1.out.on (by omega) HL1.out ⟨#[98]⟩ 2 (by decide) (by decide)
  rw [aw2.1, aw2.2] at ha2
  have HA2 := Lib.hid ha2
  clear ha2
  obtain ⟨c0, c1, c2⟩ := HV1.out.all
  go_wp2_with fail
  refine HA2.out.mono ?_
  rintro e x2 ⟨m2, rfl, ho, hl, hg⟩
  have HV2 := Lib.hid (HV1.out.went ho hg)
  have HL2 := Lib.hid hl
  clear ho hl hg HV1 HL1 HA2 c0 c1 c2
  have ha3 := kSet HV2.out.on (by omega) HL2.out ⟨#[97]⟩ 3 (by decide) (by decide)
  rw [aw3.1, aw3.2] at ha3
  have HA3 := Lib.hid ha3
  clear ha3
  obtain ⟨c0, c1, c2⟩ := HV2.out.all
  go_wp2_with fail
  refine HA3.out.mono ?_
  rintro e x3 ⟨m3, rfl, ho, hl, hg⟩
  have HV3 := Lib.hid (HV2.out.went ho hg)
  have HL3 := Lib.hid hl
  clear ho hl hg HV2 HL2 HA3 c0 c1 c2
  obtain ⟨c0, c1, c2⟩ := HV3.out.all
  go_wp2_with fail
  refine (awake5k _).mono ?_
  rintro e x4 ⟨rfl, hb⟩
  have HV4 := Lib.hid (HV3.out.below hb)
  clear hb HV3 c0 c1 c2
  obtain ⟨c0, c1, c2⟩ := HV4.out.all
  go_wp2_with fail
  refine (kall HV4.out.on (by omega) HL3.out).mono ?_
  rintro e x5 ⟨p, cap, rfl, hcap, -, hr⟩
  have HBE := Lib.hid (HV4.out.below hr.bl).bs.bel
  have HR := Lib.hid (RowI.row hr)
  clear hr hcap HV4 HL3 c0 c1 c2
  go_wp2_with fail
  have hrow : RowG 39 iL 2 (some ⟨x5.heap.size, 0, none⟩) [⟨⟨#[97]⟩, 3⟩, ⟨⟨#[98]⟩, 2⟩] (x5.alloc (.cells #[.string ⟨#[97]⟩, .int .u64 3, .string ⟨#[98]⟩, .int .u64 2] 39)) := .inr ⟨x5.heap.size, _, rfl, heap_new _ _, fun j u hj i v hv => by
    have hjl := (List.getElem?_eq_some_iff.1 hj).1
    have : j = 0 ∨ j = 1 := by simp at hjl; omega
    rcases this with rfl | rfl
    · simp at hj
      subst hj
      have hil := (List.getElem?_eq_some_iff.1 hv).1
      have : i = 0 ∨ i = 1 := by simp [iL] at hil; omega
      rcases this with rfl | rfl <;> exact hv
    · simp at hj
      subst hj
      have hil := (List.getElem?_eq_some_iff.1 hv).1
      have : i = 0 ∨ i = 1 := by simp [iL] at hil; omega
      rcases this with rfl | rfl <;> exact hv⟩
  have HB5 := Lib.hid (bel1 x5 (.cells #[.string ⟨#[97]⟩, .int .u64 3, .string ⟨#[98]⟩, .int .u64 2] 39))
  refine (kequal _ _ _ _ (by decide) (HR.out.below HB5.out) hrow).mono ?_
  rintro e x6 ⟨rfl, hb⟩
  have HB6 := Lib.hid ((HBE.out.trans (HB5.out.mono HBE.out.size)).trans (hb.mono (HBE.out.trans (HB5.out.mono HBE.out.size)).size))
  clear hb hrow HR HB5
  go_wp2_with fail
  go_ret
  exact ⟨rfl, HB6.out⟩
end Go.Proofs.YtmnhpmgffhpoeaaGreat.Bt
/- The statements' acts. (Written by gen_dkh.py.) -/
namespace Go.Proofs.YtmnhpmgffhpoeaaGreat.Bt
open Go Go.RowKit Go.Shelf Go.Deep
open Go.ChangeShapes Go.WideShapes Go.ChangeAt
set_option linter.unusedVariables false
set_option linter.unusedSimpArgs false
structure Act22 where
  d : Int
  p : Option Addr
  c : Nat
  l : List Itm
def itIn (t : Itm) : Prop := t.k.size ≤ 9223372036854775807 ∧ t.x < 18446744073709551616
structure Act22.ok (w : World) (a : Act22) : Prop where
  dB : 0 ≤ a.d ∧ a.d ≤ 255
  lB : a.l.length ≤ 9223372036854775807
  iB : ∀ t ∈ a.l, itIn t
  at' : ItsAt w a.p a.l
def Act22Cells (w : World) (b off : Nat) (a : Act22) : Prop :=
  w.cell? ⟨b, off, none⟩ = some (.int .u8 a.d) ∧ w.cell? ⟨b, off + 1, none⟩ = some (.slice a.p a.l.length a.c)
def Acts22At (w : World) (p : Option Addr) (acts : List Act22) : Prop :=
  (acts = []) ∨ ∃ b off, p = some ⟨b, off, none⟩ ∧ b < w.heap.size ∧ ∀ i (h : i < acts.length), Act22Cells w b (off + i * 2) acts[i] ∧ acts[i].ok w
theorem Tryz.cellsAct22 : Tryz.prog.cellsOf 36 = 2 := by kernel_rfl
theorem Tryz.cellsItmd : Tryz.prog.cellsOf 39 = 2 := by kernel_rfl
theorem Tryz.cellsU8d : Tryz.prog.cellsOf 5 = 1 := by kernel_rfl
theorem Tryz.cellsU64d : Tryz.prog.cellsOf 37 = 1 := by kernel_rfl
theorem Tryz.cellsStrd : Tryz.prog.cellsOf 9 = 1 := by kernel_rfl
theorem Tryz.cellsSlid : Tryz.prog.cellsOf 34 = 1 := by kernel_rfl
theorem addPl (b off j : Nat) : (⟨b, off, none⟩ : Addr).add j = ⟨b, off + j, none⟩ := by
  simp only [Addr.add]; split <;> simp_all
theorem u64_bndd {n : Int} (h : (Lit.int .u64 n).wf = true) : 0 ≤ n ∧ n < 18446744073709551616 := by
  have h2 : IntKind.u64.min ≤ n ∧ n ≤ IntKind.u64.max := by simpa [Lit.wf] using h
  have e1 : IntKind.u64.min = 0 := by decide
  have e2 : IntKind.u64.max = 18446744073709551615 := by decide
  omega
section
variable {H : Type} {enc : TypeId × Value → H} {P : Program} {w : World} {base : Nat} {spare : Nat → Bool} {held : Bool}
theorem trod_struct2d {t : TypeId} {f0 f1 : Field} {fuel : Nat} {cs : List Value} {x : DataW H × List MemPlace} (ht : P.underlying t = some (.struct #[f0, f1])) (h : DataW.trod enc P w base spare held fuel t cs = some x) :
    ∃ y0 y1 n, cs.length = P.cellsOf t ∧ DataW.trod enc P w base spare held n f0.type ((cs.drop f0.offset).take (P.cellsOf f0.type)) = some y0 ∧
      DataW.trod enc P w base spare held n f1.type ((cs.drop f1.offset).take (P.cellsOf f1.type)) = some y1 := by
  obtain ⟨xs, n, _, rfl, hl, hlen, hf⟩ := DataW.trod_struct ht h
  match xs, hlen with
  | [y0, y1], _ => exact ⟨y0, y1, n, hl, by simpa using hf 0 f0 rfl, by simpa using hf 1 f1 rfl⟩
end
set_option maxRecDepth 100000 in
theorem items_open {H : Type} {enc : TypeId × Value → H} {w : World} {fuel : Nat} {cs : List Value} {x : DataW H × List MemPlace}
    (h : DataW.trod enc Tryz.prog w 0 (fun _ => true) true fuel 34 cs = some x) : ∃ (a : Option Addr) (cap : Nat) (its : List Itm), cs = [.slice a its.length cap] ∧ its.length ≤ 9223372036854775807 ∧ (∀ t ∈ its, itIn t) ∧ ItsAt w a its := by
  rcases open_slice Tryz.underlying34 h with ⟨h1, _⟩ | ⟨ad, len, cap, m, n, D, Pl, h1, _, hl, hm, hmm, _, hi⟩
  · exact ⟨none, 0, [], h1, by simp, by simp, .inl rfl⟩
  · unfold maxLen at hm
    have hlm : len ≤ m := by rw [hmm]; simp; omega
    have key : ∀ i, i < len → ∃ t : Itm, itIn t ∧ w.cell? (ad.add (i * 2)) = some (.string t.k) ∧ w.cell? (ad.add (i * 2 + 1)) = some (.int .u64 (t.x : Int)) := by
      intro i hilt
      obtain ⟨cs', hc, ht⟩ := hi i (by omega)
      rw [Tryz.cellsItmd] at hc
      obtain ⟨_, hcl, hat⟩ := World.cells?_some hc
      obtain ⟨y0, y1, k, _, e0, e1⟩ := trod_struct2d Tryz.underlying39 ht
      match cs', hcl with
      | [c0, c1], _ =>
        simp only [Tryz.cellsStrd, Tryz.cellsU64d, List.drop_zero, List.drop_succ_cons, List.take_succ_cons, List.take_zero] at e0 e1
        obtain ⟨q, hq, _, wq⟩ := DataW.trod_string Tryz.underlying9 e0
        obtain ⟨f, hf, _, wf⟩ := DataW.trod_int Tryz.underlying37 e1
        simp only [List.cons.injEq, and_true] at hq hf
        subst hq hf
        have b1 := u64_bndd wf
        have a0 := hat 0 (by omega)
        have a1 := hat 1 (by omega)
        rw [add_add] at a0 a1
        refine ⟨⟨q, f.toNat⟩, ⟨by unfold maxLen at wq; exact wq, by show f.toNat < _; omega⟩, by simpa using a0, ?_⟩
        show _ = some (Value.int .u64 ((f.toNat : Nat) : Int)); rw [Int.toNat_of_nonneg b1.1]; simpa using a1
    refine ⟨some ad, cap, (List.range len).attach.map fun i => Classical.choose (key i.1 (List.mem_range.1 i.2)), by rw [h1]; simp, by simp; omega, fun t ht => ?_, ?_⟩
    · obtain ⟨i, _, e⟩ := List.mem_map.1 ht
      rw [← e]
      exact (Classical.choose_spec (key i.1 (List.mem_range.1 i.2))).1
    by_cases h0 : len = 0
    · subst h0; exact .inl rfl
    · have k0 := (Classical.choose_spec (key 0 (by omega))).2.1
      obtain ⟨b, off, spot⟩ := ad
      have hspot : spot = none := by simpa [Addr.add] using World.cell?_spot k0
      subst hspot
      refine .inr ⟨b, off, rfl, World.block_lt_of_cell? _ _ (by simpa [Addr.add] using k0), fun i t ht => ?_⟩
      obtain ⟨hil, hget⟩ := List.getElem?_eq_some_iff.1 ht
      have hil' : i < len := by simpa using hil
      have ks := Classical.choose_spec (key i hil')
      have eA : ∀ j, (⟨b, off, none⟩ : Addr).add j = ⟨b, off + j, none⟩ := addPl b off
      simp only [List.getElem_map, List.getElem_attach, List.getElem_range] at hget
      rw [← hget]
      exact ⟨(congrArg w.cell? (eA _).symm).trans ks.2.1, (congrArg w.cell? (eA (i * 2 + 1)).symm).trans ks.2.2⟩
set_option maxRecDepth 100000 in
theorem acts22_open {H : Type} {enc : TypeId × Value → H} {w : World} {fuel : Nat} {v : Value} {x : DataW H × List MemPlace} {a : Option Addr} {len cap : Nat} (hv : v = .slice a len cap)
    (h : DataW.trod enc Tryz.prog w 0 (fun _ => true) true fuel 23 v.cells.toList = some x) : ∃ acts : List Act22, acts.length = len ∧ len ≤ 9223372036854775807 ∧ Acts22At w a acts := by
  subst hv
  rcases open_slice Tryz.underlying23 h with ⟨h1, _⟩ | ⟨ad, len', cap', m, n, D, Pl, h1, _, hl, hm, hmm, _, hi⟩
  · simp [Value.cells] at h1
    exact ⟨[], by simp [h1.2.1], by omega, .inl rfl⟩
  · simp [Value.cells] at h1
    obtain ⟨rfl, rfl, rfl⟩ := h1
    unfold maxLen at hm
    have hlm : len ≤ m := by rw [hmm]; simp; omega
    have key : ∀ i, i < len → ∃ act : Act22, act.ok w ∧ w.cell? (ad.add (i * 2)) = some (.int .u8 act.d) ∧ w.cell? (ad.add (i * 2 + 1)) = some (.slice act.p act.l.length act.c) := by
      intro i hilt
      obtain ⟨cs', hc, ht⟩ := hi i (by omega)
      rw [Tryz.cellsAct22] at hc
      obtain ⟨_, hcl, hat⟩ := World.cells?_some hc
      obtain ⟨y0, y1, k, _, e0, e1⟩ := trod_struct2d Tryz.underlying36 ht
      match cs', hcl with
      | [c0, c1], _ =>
        simp only [Tryz.cellsU8d, Tryz.cellsSlid, List.drop_zero, List.drop_succ_cons, List.take_succ_cons, List.take_zero] at e0 e1
        obtain ⟨d, hd, _, wd⟩ := DataW.trod_int Tryz.underlying5 e0
        obtain ⟨pa, ca, its, hf, hlen, hb, hit⟩ := items_open e1
        simp only [List.cons.injEq, and_true] at hd hf
        subst hd hf
        have b0 := bounds_u8 wd
        have a0 := hat 0 (by omega)
        have a1 := hat 1 (by omega)
        rw [add_add] at a0 a1
        exact ⟨⟨d, pa, ca, its⟩, ⟨b0, hlen, hb, hit⟩, by simpa using a0, by simpa using a1⟩
    refine ⟨(List.range len).attach.map fun i => Classical.choose (key i.1 (List.mem_range.1 i.2)), by simp, by omega, ?_⟩
    by_cases h0 : len = 0
    · subst h0; exact .inl rfl
    · have k0 := (Classical.choose_spec (key 0 (by omega))).2.1
      obtain ⟨b, off, spot⟩ := ad
      have hspot : spot = none := by simpa [Addr.add] using World.cell?_spot k0
      subst hspot
      refine .inr ⟨b, off, rfl, World.block_lt_of_cell? _ _ (by simpa [Addr.add] using k0), fun i hil => ?_⟩
      have hil' : i < len := by simpa using hil
      have ks := Classical.choose_spec (key i hil')
      have eA : ∀ j, (⟨b, off, none⟩ : Addr).add j = ⟨b, off + j, none⟩ := addPl b off
      simp only [List.getElem_map, List.getElem_attach, List.getElem_range]
      exact ⟨⟨(congrArg w.cell? (eA _).symm).trans ks.2.1, (congrArg w.cell? (eA (i * 2 + 1)).symm).trans ks.2.2⟩, ks.1⟩
theorem Act22.ok.below {w y : World} {a : Act22} (h : a.ok w) (hb : Below w.heap.size w y) : a.ok y := ⟨h.dB, h.lB, h.iB, h.at'.below hb⟩
theorem Acts22At.below {p : Option Addr} {l : List Act22} {w y : World} (h : Acts22At w p l) (hb : Below w.heap.size w y) : Acts22At y p l := by
  rcases h with e | ⟨b, off, e, hl, hc⟩
  · exact .inl e
  · have k : ∀ j, y.cell? ⟨b, j, none⟩ = w.cell? ⟨b, j, none⟩ := fun j => World.cell?_of_block (hb.block _ hl)
    refine .inr ⟨b, off, e, Nat.lt_of_lt_of_le hl hb.size, fun i hi => ⟨?_, (hc i hi).2.below hb⟩⟩
    obtain ⟨c0, c1⟩ := (hc i hi).1
    exact ⟨(k _).trans c0, (k _).trans c1⟩
theorem Acts22At.get {p : Option Addr} {l : List Act22} {w : World} (h : Acts22At w p l) {i : Nat} {a : Act22} (ha : l[i]? = some a) :
    ∃ b off, p = some ⟨b, off, none⟩ ∧ w.cell? ⟨b, off + i * 2, none⟩ = some (.int .u8 a.d) ∧ w.cell? ⟨b, off + i * 2 + 1, none⟩ = some (.slice a.p a.l.length a.c) ∧ a.ok w := by
  obtain ⟨hi, e⟩ := List.getElem?_eq_some_iff.1 ha
  rcases h with e2 | ⟨b, off, e2, hl, hc⟩
  · subst e2; simp at hi
  · have h2 := hc i hi
    rw [e] at h2
    exact ⟨b, off, e2, h2.1.1, h2.1.2, h2.2⟩
/-- are they few -/
def lgt (acts : List Act22) : Prop := acts.length ≤ 60 ∧ ∀ a ∈ acts, a.l.length ≤ 12 ∧ ∀ t ∈ a.l, t.k.size ≤ 40
def LgtP (acts : List Act22) (w : World) (e : Ending) (w' : World) : Prop := (∃ b, e = .returned (.bool b) ∧ (b = true → lgt acts)) ∧ Below w.heap.size w w'
section
variable {w : World}
set_option maxRecDepth 100000 in
set_option maxHeartbeats 8000000 in
/-- Light answers -/
theorem light22 (p : Option Addr) (cap : Nat) (acts : List Act22) (hA : Acts22At w p acts) (hl9 : acts.length ≤ 9223372036854775807) : Calls Tryz.prog 5 #[.slice p acts.length cap] w (LgtP acts w) := by
  have HA := Lib.hid hA
  obtain ⟨N, hN⟩ : ∃ N, acts.length = N := ⟨_, rfl⟩
  have HN := Lib.hid hN
  rw [hN] at hl9
  rw [hN]
  clear hA hN
  go_enter Tryz.func5, Tryz.ntmps5
  go_wp2_with fail
  go_loopw [9] (fun s9 wr => ∃ i : Nat, i ≤ N ∧ s9 = .int .i64 (i : Int) ∧ Hid (Below w.heap.size w wr) ∧ Hid (i ≤ 60 ∧ ∀ a ∈ acts.take i, a.l.length ≤ 12 ∧ ∀ t ∈ a.l, t.k.size ≤ 40)) (fun s9 _ => N - (intOf s9).toNat)
  case atStart => exact ⟨0, Nat.zero_le _, rfl, Lib.hid (Below.refl _ _), Lib.hid ⟨Nat.zero_le _, by simp⟩⟩
  case round =>
    obtain ⟨i, hi, rfl, HB, HI⟩ := hrel
    by_cases hin : i < N
    · have hin2 : (i : Int) < (N : Int) := by omega
      obtain ⟨a, ha⟩ : ∃ a, acts[i]? = some a := ⟨_, List.getElem?_eq_getElem (by have := HN.out; omega)⟩
      obtain ⟨g, off, rfl, q0, q1, hok⟩ := (HA.out.below HB.out).get ha
      have HAI := Lib.hid ha
      have HOK := Lib.hid hok
      have hlb := hok.lB
      clear ha hok
      by_cases h60 : 60 ≤ i
      · have h60i : (60 : Int) ≤ (i : Int) := by omega
        have HB2 := Lib.hid (HB.out.trans ((bel1 wr (.cells #[.int .u8 a.d, .slice a.p a.l.length a.c] 36)).mono HB.out.size))
        go_wp2_with fail
        go_ret
        exact ⟨⟨false, rfl, by simp⟩, HB2.out⟩
      · have h60i : ¬ (60 : Int) ≤ (i : Int) := by omega
        obtain ⟨M, hM⟩ : ∃ M, a.l.length = M := ⟨_, rfl⟩
        rw [hM] at q1 hlb
        have HM := Lib.hid hM
        have HB2 := Lib.hid (HB.out.trans ((bel1 wr (.cells #[.int .u8 a.d, .slice a.p M a.c] 36)).mono HB.out.size))
        have HOK2 := Lib.hid (HOK.out.at'.below (bel1 wr (.cells #[.int .u8 a.d, .slice a.p M a.c] 36)))
        clear hM
        by_cases h12 : 12 < M
        · have h12i : (12 : Int) < (M : Int) := by omega
          go_wp2_with fail
          go_ret
          exact ⟨⟨false, rfl, by simp⟩, HB2.out⟩
        · have h12i : ¬ (12 : Int) < (M : Int) := by omega
          have HD0 := Lib.hid (heap_new wr (.cells #[.int .u8 a.d, .slice a.p M a.c] 36))
          go_upto_region 6 with fail
          change Code.wp _ _ _ _ (wr.alloc (.cells #[.int .u8 a.d, .slice a.p M a.c] 36))
          obtain ⟨y, hy⟩ : ∃ y, wr.alloc (.cells #[.int .u8 a.d, .slice a.p M a.c] 36) = y := ⟨_, rfl⟩
          obtain ⟨D, hD⟩ : ∃ D, wr.heap.size = D := ⟨_, rfl⟩
          rw [hy] at HB2 HOK2 HD0
          rw [hD] at HD0
          rw [hy, hD]
          clear hy hD q0 q1
          have d0 := (cell_blk HD0.out 0).1; have d1 := (cell_blk HD0.out 1).1
          go_wp2_with fail
          go_loopw [25] (fun s25 wq => ∃ j : Nat, j ≤ M ∧ s25 = .int .i64 (j : Int) ∧ Hid (Below y.heap.size y wq) ∧ Hid (∀ t ∈ a.l.take j, t.k.size ≤ 40)) (fun s25 _ => M - (intOf s25).toNat)
          case atStart => exact ⟨0, Nat.zero_le _, rfl, Lib.hid (Below.refl _ _), Lib.hid (by simp)⟩
          case round =>
            obtain ⟨j, hj, rfl, HY, HJ⟩ := hrel
            by_cases hjn : j < M
            · have hjn2 : (j : Int) < (M : Int) := by omega
              obtain ⟨t, ht⟩ : ∃ t, a.l[j]? = some t := ⟨_, List.getElem?_eq_getElem (by have := HM.out; omega)⟩
              obtain ⟨g2, off2, hp2, r0, r1⟩ := (HOK2.out.below HY.out).cell ht
              rw [hp2]
              have hk9 : t.k.size ≤ 9223372036854775807 := (HOK.out.iB t (List.mem_of_getElem? ht)).1
              have HTJ := Lib.hid ht
              have HY2 := Lib.hid (HY.out.trans ((bel1 _ (.cells #[.string t.k, .int .u64 (t.x : Int)] 39)).mono HY.out.size))
              clear ht
              by_cases h40 : 40 < t.k.size
              · have h40i : (40 : Int) < (t.k.size : Int) := by omega
                go_wp2_with fail
                go_ret
                exact ⟨⟨false, rfl, by simp⟩, HB2.out.trans (HY2.out.mono HB2.out.size)⟩
              · have h40i : ¬ (40 : Int) < (t.k.size : Int) := by omega
                have HJ2 : Hid (∀ t ∈ a.l.take (j + 1), t.k.size ≤ 40) := Lib.hid (by
                  rw [takeI_next HTJ.out]
                  intro u hu
                  rcases List.mem_append.1 hu with h | h
                  · exact HJ.out u h
                  · rw [List.mem_singleton.1 h]; omega)
                go_wp2_with fail
                go_roundw
                case rel => exact ⟨j + 1, by omega, by go_num, HY2, HJ2⟩
                case measure => simp [intOf]; omega
            · have hjn2 : ¬ (j : Int) < (M : Int) := by omega
              have HI2 : Hid (i + 1 ≤ 60 ∧ ∀ a ∈ acts.take (i + 1), a.l.length ≤ 12 ∧ ∀ t ∈ a.l, t.k.size ≤ 40) := Lib.hid (by
                refine ⟨by omega, ?_⟩
                rw [List.take_add_one, HAI.out]
                intro u hu
                rcases List.mem_append.1 hu with h | h
                · exact HI.out.2 u h
                · have h3 : u = a := by simpa using h
                  rw [h3]
                  have h4 := HJ.out
                  rw [List.take_of_length_le (by have := HM.out; omega)] at h4
                  exact ⟨by have := HM.out; omega, h4⟩)
              have HB3 := Lib.hid (HB2.out.trans (HY.out.mono HB2.out.size))
              go_wp2_with fail
              go_roundw
              case rel => exact ⟨i + 1, by omega, by go_num, HB3, HI2⟩
              case measure => simp [intOf]; omega
    · have hin2 : ¬ (i : Int) < (N : Int) := by omega
      have HF : Hid (lgt acts) := Lib.hid (by
        have h := HI.out
        rw [List.take_of_length_le (by have := HN.out; omega)] at h
        exact ⟨by have := HN.out; omega, h.2⟩)
      go_wp2_with fail
      go_ret
      exact ⟨⟨true, rfl, fun _ => HF.out⟩, HB.out⟩
end
end Go.Proofs.YtmnhpmgffhpoeaaGreat.Bt
/- Keys, and a map that is told the same. -/
namespace Go.Proofs.YtmnhpmgffhpoeaaGreat.Bt
open Go Go.RowKit Go.Shelf
set_option linter.unusedVariables false
set_option linter.unusedSimpArgs false
abbrev kLit (k : ByteArray) : Lit := .string k.data.toList
theorem kLit_ne {a b : ByteArray} (h : a ≠ b) : kLit a ≠ kLit b := fun e => h (WideShapes.bytes_inj (by injection e))
theorem kLit_key (k : ByteArray) : WideAt.IsKeyLit (kLit k) := by simp [WideAt.IsKeyLit]
theorem nd_inj {L : List Itm} (h : (L.map Itm.k).Nodup) : ∀ a ∈ L, ∀ b ∈ L, a.k = b.k → a = b := by
  induction L with
  | nil => intro a ha; simp at ha
  | cons c l ih =>
    obtain ⟨h1, h2⟩ := List.nodup_cons.1 (show (c.k :: l.map Itm.k).Nodup from h)
    intro a ha b hb e
    rcases List.mem_cons.1 ha with ea | ha'
    · rcases List.mem_cons.1 hb with eb | hb'
      · rw [ea, eb]
      · exact absurd (by rw [← ea, e]; exact List.mem_map_of_mem hb') h1
    · rcases List.mem_cons.1 hb with eb | hb'
      · exact absurd (by rw [← eb, ← e]; exact List.mem_map_of_mem ha') h1
      · exact ih h2 a ha' b hb' e
theorem ixK_mem {L : List Itm} {k : ByteArray} : ixK L k < L.length ↔ k ∈ L.map Itm.k := by
  unfold ixK
  rw [List.findIdx_lt_length]
  constructor
  · rintro ⟨t, ht, e⟩
    exact List.mem_map.2 ⟨t, ht, of_decide_eq_true e⟩
  · intro h
    obtain ⟨t, ht, e⟩ := List.mem_map.1 h
    exact ⟨t, ht, decide_eq_true e⟩
theorem erase_filter {L : List Itm} (h : (L.map Itm.k).Nodup) {i : Nat} {u : Itm} {k : ByteArray} (hu : L[i]? = some u) (hk : u.k = k) : L.eraseIdx i = L.filter fun t => !decide (t.k = k) := by
  induction L generalizing i with
  | nil => simp at hu
  | cons c l ih =>
    obtain ⟨h1, h2⟩ := List.nodup_cons.1 (show (c.k :: l.map Itm.k).Nodup from h)
    rcases i with _ | i
    · simp at hu
      subst hu
      rw [List.filter_cons_of_neg (by simp [hk])]
      refine (List.filter_eq_self.2 fun t ht => ?_).symm
      have hne : ¬ t.k = k := fun e => h1 (by rw [hk, ← e]; exact List.mem_map_of_mem ht)
      simp [hne]
    · have hul : u ∈ l := List.mem_of_getElem? (by simpa using hu)
      have hck : c.k ≠ k := fun e => h1 (by rw [e, ← hk]; exact List.mem_map_of_mem hul)
      rw [List.filter_cons_of_pos (by simpa using hck), ← ih h2 (by simpa using hu)]
      rfl
theorem keys_set {L : List Itm} {i : Nat} {t u : Itm} (hu : L[i]? = some u) (hk : u.k = t.k) : (L.set i t).map Itm.k = L.map Itm.k := by
  apply List.ext_getElem?
  intro j
  rw [List.getElem?_map, List.getElem?_map, List.getElem?_set]
  by_cases c : i = j
  · subst c
    rw [if_pos rfl, if_pos (List.getElem?_eq_some_iff.1 hu).1, hu]
    simp [hk]
  · rw [if_neg c]
/-- a map that tells what some keys tell -/
structure Mp (L : List Itm) (D : DataW Unit) : Prop where
  ty : Maps.Tidy D
  has : ∀ k, Maps.has D (kLit k) = true ↔ k ∈ L.map Itm.k
  val : ∀ t ∈ L, ∀ z, D.atKey (kLit t.k) z = .lit (.int .u64 (t.x : Int))
  sz : Maps.size D = L.length
  nd : (L.map Itm.k).Nodup
theorem Mp.new : Mp [] (.map []) := ⟨Maps.tidy_empty, fun k => by simp [Maps.has], fun t h => by simp at h, rfl, by simp⟩
section
variable {L : List Itm} {D : DataW Unit}
theorem Mp.set (h : Mp L D) (t : Itm) (i : Nat) (u : Itm) (hu : L[i]? = some u) (hk : u.k = t.k) : Mp (L.set i t) (D.put (kLit t.k) (.lit (.int .u64 (t.x : Int)))) := by
  have hks := keys_set hu hk
  have hnd : ((L.set i t).map Itm.k).Nodup := by rw [hks]; exact h.nd
  have hin : t.k ∈ L.map Itm.k := List.mem_map.2 ⟨u, List.mem_of_getElem? hu, hk⟩
  have hmem : t ∈ L.set i t := List.mem_iff_getElem?.2 ⟨i, by rw [List.getElem?_set, if_pos rfl, if_pos (List.getElem?_eq_some_iff.1 hu).1]⟩
  refine ⟨h.ty.put (kLit_key _) _, fun k => ?_, fun a ha z => ?_, ?_, hnd⟩
  · rw [hks]
    by_cases c : k = t.k
    · subst c
      exact ⟨fun _ => hin, fun _ => Maps.has_put_same h.ty.isMap (kLit_key _) _⟩
    · rw [Maps.has_put_other (kLit_ne c)]; exact h.has k
  · by_cases c : a.k = t.k
    · rw [nd_inj hnd a ha t hmem c]
      exact Maps.atKey_put_same h.ty.isMap (kLit_key _) _ _
    · rw [Maps.atKey_put_other (kLit_ne c)]
      rcases List.mem_or_eq_of_mem_set ha with ha | ha
      · exact h.val a ha z
      · exact absurd (by rw [ha]) c
  · rw [Maps.size_put h.ty, if_pos ((h.has _).2 hin), List.length_set]; exact h.sz
theorem Mp.app (h : Mp L D) (t : Itm) (hn : t.k ∉ L.map Itm.k) : Mp (L ++ [t]) (D.put (kLit t.k) (.lit (.int .u64 (t.x : Int)))) := by
  refine ⟨h.ty.put (kLit_key _) _, fun k => ?_, fun a ha z => ?_, ?_, ?_⟩
  · rw [List.map_append]
    by_cases c : k = t.k
    · subst c
      exact ⟨fun _ => List.mem_append.2 (.inr (by simp)), fun _ => Maps.has_put_same h.ty.isMap (kLit_key _) _⟩
    · rw [Maps.has_put_other (kLit_ne c), h.has k]
      constructor
      · intro x; exact List.mem_append.2 (.inl x)
      · intro x
        rcases List.mem_append.1 x with x | x
        · exact x
        · exact absurd (by simpa using x) c
  · by_cases c : a.k = t.k
    · have e : a = t := by
        rcases List.mem_append.1 ha with x | x
        · exact absurd (c ▸ List.mem_map_of_mem x) hn
        · simpa using x
      rw [e]
      exact Maps.atKey_put_same h.ty.isMap (kLit_key _) _ _
    · rw [Maps.atKey_put_other (kLit_ne c)]
      rcases List.mem_append.1 ha with x | x
      · exact h.val a x z
      · exact absurd (by rw [show a = t by simpa using x]) c
  · rw [Maps.size_put h.ty, if_neg (fun e => hn ((h.has _).1 e)), List.length_append, h.sz]; rfl
  · rw [List.map_append]
    refine List.nodup_append.2 ⟨h.nd, by simp, fun a ha b hb e => hn ?_⟩
    have : b = t.k := by simpa using hb
    rw [← this, ← e]; exact ha
theorem Mp.del (h : Mp L D) (k : ByteArray) (i : Nat) (u : Itm) (hu : L[i]? = some u) (hk : u.k = k) : Mp (L.eraseIdx i) (D.del (kLit k)) := by
  have hf := erase_filter h.nd hu hk
  have hin : k ∈ L.map Itm.k := List.mem_map.2 ⟨u, List.mem_of_getElem? hu, hk⟩
  have hil := (List.getElem?_eq_some_iff.1 hu).1
  refine ⟨h.ty.del _, fun a => ?_, fun a ha z => ?_, ?_, ?_⟩
  · rw [hf]
    by_cases c : a = k
    · subst c
      rw [Maps.has_del_same]
      constructor
      · intro x; cases x
      · intro x
        obtain ⟨t, ht, e⟩ := List.mem_map.1 x
        have := (List.mem_filter.1 ht).2
        simp [e] at this
    · rw [Maps.has_del_other (kLit_ne c), h.has a]
      constructor
      · intro x
        obtain ⟨t, ht, e⟩ := List.mem_map.1 x
        exact List.mem_map.2 ⟨t, List.mem_filter.2 ⟨ht, by simpa [e] using c⟩, e⟩
      · intro x
        obtain ⟨t, ht, e⟩ := List.mem_map.1 x
        exact List.mem_map.2 ⟨t, (List.mem_filter.1 ht).1, e⟩
  · rw [hf] at ha
    have h2 := List.mem_filter.1 ha
    have hne : a.k ≠ k := by simpa using h2.2
    rw [Maps.atKey_del_other (kLit_ne hne)]
    exact h.val a h2.1 z
  · have h2 := Maps.size_del h.ty (k := kLit k)
    rw [if_pos ((h.has k).2 hin), h.sz] at h2
    rw [List.length_eraseIdx, if_pos hil]
    omega
  · exact h.nd.sublist ((List.eraseIdx_sublist L i).map _)
theorem Mp.put (h : Mp L D) {n : Nat} (t : Itm) (hc : setC L n t = 0) : Mp (setL L n t) (D.put (kLit t.k) (.lit (.int .u64 (t.x : Int)))) := by
  unfold setL
  rw [if_pos hc]
  by_cases c : ixK L t.k < L.length
  · rw [if_pos c]
    exact h.set t _ _ (List.getElem?_eq_getElem c) (ixK_get c)
  · rw [if_neg c]
    exact h.app t fun x => c (ixK_mem.2 x)
theorem Mp.drop (h : Mp L D) (k : ByteArray) : Mp (drL L k) (D.del (kLit k)) := by
  unfold drL
  by_cases c : ixK L k < L.length
  · rw [if_pos c]
    exact h.del k _ _ (List.getElem?_eq_getElem c) (ixK_get c)
  · rw [if_neg c, Maps.del_of_not_has]
    · exact h
    · cases e : Maps.has D (kLit k) with
      | false => rfl
      | true => exact absurd (ixK_mem.2 ((h.has k).1 e)) c
theorem Mp.there (h : Mp L D) (k : ByteArray) : Maps.has D (kLit k) = decide (drC L k = 0) := by
  unfold drC
  by_cases c : ixK L k < L.length
  · rw [if_pos c, (h.has k).2 (ixK_mem.1 c)]; rfl
  · rw [if_neg c]
    cases e : Maps.has D (kLit k) with
    | false => rfl
    | true => exact absurd (ixK_mem.2 ((h.has k).1 e)) c
/-- what is told of a key of the map -/
theorem Mp.tell (h : Mp L D) {k : ByteArray} {y : DataW Unit} (hy : ∀ z, D.atKey (kLit k) z = y) : getB L k = true ∧ y = .lit (.int .u64 (getX L k : Int)) := by
  have h1 := (h.has k).1 (Maps.has_true_of_atKey hy)
  have h2 := ixK_mem.2 h1
  refine ⟨decide_eq_true h2, ?_⟩
  have h3 := h.val _ (List.getElem_mem h2) (.map [])
  rw [ixK_get h2, hy] at h3
  rw [h3]
  unfold getX
  rw [List.getElem?_eq_getElem h2]
  rfl
theorem putsC_one (n : Nat) (t : Itm) : putsC n L [t] = setC L n t := by
  by_cases c : setC L n t = 0
  · rw [putsC_cons c, c]; rfl
  · rw [putsC_stop c]
theorem kPutL_one (n : Nat) (t : Itm) : kPutL n L [t] = setL L n t := by
  unfold kPutL
  rw [putsC_one]
  by_cases c : setC L n t = 0
  · rw [if_pos c, putsL_cons c]; rfl
  · rw [if_neg c]; unfold setL; rw [if_neg c]
theorem setC_not (n : Nat) (t : Itm) (h : setC L n t ≠ 0) (h1 : t.k.size ≠ 0) (h2 : ¬ 16 < t.k.size) : L.length = n := by
  unfold setC at h
  rw [if_neg h1, if_neg h2] at h
  split at h
  · exact absurd rfl h
  · split at h
    · assumption
    · exact absurd rfl h
end
/-- a block of another kind turns -/
theorem grown_of_below {x y : World} (hb : Below x.heap.size x y) (r : Option Nat) : x.grownBy y r := ⟨hb.os, hb.tape, hb.output, hb.size, fun k hk _ => hb.block k hk⟩
section
variable {A R R2 C vs : Nat} {s : ASt} {m : Nat → UInt8} {w0 w w' : World}
theorem turn_arx {P n cap : Nat} {ps : List (Option Nat)} {p : Option Addr} (h : ArX A s P ps p n cap w) (hm : Mine A R w) (hg : w.grownBy w' (some R)) : ArX A s P ps p n cap w' :=
  have hb : ∀ k, k < w.heap.size → k ≠ R → w'.heap[k]? = w.heap[k]? := fun k hk hn => hg.block k hk (fun e => hn (Option.some.inj e))
  h.kept hg.size (hb _ h.ltA fun e => hm.own ((ownW_iff h R).2 (.inl e.symm))) (hb _ h.ltP fun e => hm.own ((ownW_iff h R).2 (.inr (.inl e.symm)))) (fun i b hi => hb _ (h.ltG hi) fun e => hm.own ((ownW_iff h R).2 (.inr (.inr ⟨i, e ▸ hi⟩))))
    (fun b off e => hb _ (h.ltE e) fun e2 => hm.edg ((edgW_iff h R).2 ⟨off, e2 ▸ e⟩))
theorem On.turn (h : On A s w) (hm : Mine A R w) (hg : w.grownBy w' (some R)) : On A s w' := by
  obtain ⟨P, ps, p, n, cap, h⟩ := h; exact ⟨P, ps, p, n, cap, turn_arx h hm hg⟩
theorem own_turn (h : On A s w) (hm : Mine A R w) (hg : w.grownBy w' (some R)) (k : Nat) : (OwnW A w' k ↔ OwnW A w k) ∧ (EdgW A w' k ↔ EdgW A w k) := by
  obtain ⟨P, ps, p, n, cap, h⟩ := h
  have h2 := turn_arx h hm hg
  exact ⟨(ownW_iff h2 k).trans (ownW_iff h k).symm, (edgW_iff h2 k).trans (edgW_iff h k).symm⟩
theorem Mine.turn (h : On A s w) (hm : Mine A R w) (hm2 : Mine A R2 w) (hg : w.grownBy w' (some R)) : Mine A R2 w' :=
  ⟨Nat.lt_of_lt_of_le hm2.lt hg.size, fun ho => hm2.own ((own_turn h hm hg R2).1.1 ho), fun ho => hm2.edg ((own_turn h hm hg R2).2.1 ho)⟩
theorem Mine.fresh (h : On A s w) (hb : Below w.heap.size w w') (h1 : w.heap.size ≤ R) (h2 : R < w'.heap.size) : Mine A R w' := by
  obtain ⟨P, ps, p, n, cap, h⟩ := h
  have h3 := h.below hb
  refine ⟨h2, fun ho => ?_, fun ho => ?_⟩
  · rcases (ownW_iff h3 _).1 ho with h4 | h4 | ⟨i, h4⟩
    · have := h.ltA; omega
    · have := h.ltP; omega
    · have := h.ltG h4; omega
  · obtain ⟨off, h4⟩ := (edgW_iff h3 _).1 ho
    have := h.ltE h4; omega
theorem Base.turn (k : Base A w0 w) (h : On A s w) (hm : Mine A R w) (hR : w0.heap.size ≤ R) (hg : w.grownBy w' (some R)) : Base A w0 w' :=
  ⟨⟨hg.os.trans k.bel.os, hg.tape.trans k.bel.tape, hg.output.trans k.bel.output, Nat.le_trans k.bel.size hg.size, fun i hi => (hg.block i (Nat.lt_of_lt_of_le hi k.bel.size) (fun e => by have := Option.some.inj e; omega)).trans (k.bel.block i hi)⟩,
    fun i hi => k.own i ((own_turn h hm hg i).1.1 hi), fun i hi => k.edg i ((own_turn h hm hg i).2.1 hi)⟩
theorem KyS.turn (h : KyS C A vs m w0 w) (hm : Mine A R w) (hR : w0.heap.size ≤ R) (hC : C ≠ R) (hg : w.grownBy w' (some R)) : KyS C A vs m w0 w' :=
  ⟨(hg.block C (Array.getElem?_eq_some_iff.1 h.c).1 (fun e => hC (Option.some.inj e))).trans h.c, h.on.turn hm hg, h.bs.turn h.on hm hR hg⟩
end
theorem ownsMap_same {H : Type} {P : Program} {k : TypeId} {R : Value → Option (DataW H × List MemPlace)} {b n : Nat} {D : DataW H} {w w' : World} (h : w.ownsMap P k R b n D) (e : w'.heap[b]? = w.heap[b]?) : w'.ownsMap P k R b n D := by
  obtain ⟨es, clock, hb, r⟩ := h
  exact ⟨es, clock, e.trans hb, r⟩
theorem keyStr_inv {P : Program} {k : TypeId} (hk : P.underlying k = some .string) {key : Value} {kl : Lit} (h : keyOf P k key = some kl) : ∃ x : ByteArray, key = .string x ∧ kl = kLit x ∧ x.size ≤ maxLen := by
  cases key <;> simp [keyOf, hk, mapKey] at h
  exact ⟨_, rfl, h.2.symm, h.1⟩
end Go.Proofs.YtmnhpmgffhpoeaaGreat.Bt
