/- What a set and its bools tell. -/
import Derived.Test.YtoineackmpafdaaPbC
import Derived.OpenShut
import Derived.WalkSmall
namespace Go.Proofs.Ytoineackmpafdaa.Bt
open Go Go.RowKit Go.Shelf Go.ChangeShapes Go.WideShapes
set_option linter.unusedVariables false
set_option linter.unusedSimpArgs false

theorem two_blk (w : World) (a b : Array Value) (T U : TypeId) : ((w.alloc (.cells a T)).alloc (.cells b U)).heap[w.heap.size]? = some (.cells a T (0, 0)) ∧ ((w.alloc (.cells a T)).alloc (.cells b U)).heap[w.heap.size + 1]? = some (.cells b U (0, 0)) := by
  constructor
  · exact (Below.heap_alloc _ _ _ (by simp)).trans (bol_new _ _)
  · have := bol_new (w.alloc (.cells a T)) (.cells b U)
    simpa using this
/-- the variables of told -/
def ToV (S T L m cap : Nat) (p : Option Addr) (inn : Bool) (fr n : Int) (x : World) : Prop :=
  x.heap[S]? = some (.cells #[.int .i64 (L : Int), .slice p m cap] 107 (0, 0)) ∧ x.heap[T]? = some (.cells #[.bool inn, .int .i64 fr, .int .i64 n] 113 (0, 0))
theorem ToV.below {S T L m cap : Nat} {p : Option Addr} {inn : Bool} {fr n : Int} {x y : World} (h : ToV S T L m cap p inn fr n x) (hb : Below x.heap.size x y) : ToV S T L m cap p inn fr n y :=
  ⟨(hb.block _ (Array.getElem?_eq_some_iff.1 h.1).1).trans h.1, (hb.block _ (Array.getElem?_eq_some_iff.1 h.2).1).trans h.2⟩
theorem ToV.all {S T L m cap : Nat} {p : Option Addr} {inn : Bool} {fr n : Int} {x : World} (h : ToV S T L m cap p inn fr n x) :
    (x.cell? ⟨S, 0, none⟩ = some (.int .i64 (L : Int)) ∧ x.cell? ⟨S, 1, none⟩ = some (.slice p m cap)) ∧ x.cell? ⟨T, 0, none⟩ = some (.bool inn) ∧ x.cell? ⟨T, 1, none⟩ = some (.int .i64 fr) ∧ x.cell? ⟨T, 2, none⟩ = some (.int .i64 n) :=
  ⟨⟨(cell_blk h.1 0).1, (cell_blk h.1 1).1⟩, (cell_blk h.2 0).1, (cell_blk h.2 1).1, (cell_blk h.2 2).1⟩
/-- all that told needs -/
structure ToW (S T L m cap b : Nat) (p : Option Addr) (es : List Nat) (inn : Bool) (fr n : Int) (w x : World) : Prop where
  v : ToV S T L m cap p inn fr n x
  r : RowAt x p es
  b : BolAt b L (mE es) x
  l : Below w.heap.size w x
theorem ToW.below {S T L m cap b : Nat} {p : Option Addr} {es : List Nat} {inn : Bool} {fr n : Int} {w x y : World} (h : ToW S T L m cap b p es inn fr n w x) (hb : Below x.heap.size x y) : ToW S T L m cap b p es inn fr n w y :=
  ⟨h.v.below hb, h.r.below hb, h.b.below hb, h.l.trans (hb.mono h.l.size)⟩
set_option maxHeartbeats 8000000 in
set_option maxRecDepth 100000 in
theorem told_any (L b m cap : Nat) (hL : L ≤ 300) (p : Option Addr) (es : List Nat) (inn : Bool) (fr n : Int) (w : World) (g : Good L es) (hrow : RowAt w p es) (hm : m = es.length) (hf : fr ≤ 9223372036854775807) (hbol : BolAt b L (mE es) w) :
    Calls Try.prog 66 #[.agg #[.int .i64 L, .slice p m cap], .slice (some ⟨b, 0, none⟩) L L, .agg #[.bool inn, .int .i64 fr, .int .i64 n]] w (TrueAt w) := by
  have HM := Lib.hid hm; have HG := Lib.hid g; have HF := Lib.hid hf
  have B0 : Below w.heap.size w ((w.alloc (.cells #[.int .i64 L, .slice p m cap] 107)).alloc (.cells #[.bool inn, .int .i64 fr, .int .i64 n] 113)) := ((Below.refl _ w).alloc (Nat.le_refl _) _).alloc (by simp) _
  have h2 := two_blk w #[.int .i64 L, .slice p m cap] #[.bool inn, .int .i64 fr, .int .i64 n] 107 113
  have HW0 : ToW w.heap.size (w.heap.size + 1) L m cap b p es inn fr n w ((w.alloc (.cells #[.int .i64 L, .slice p m cap] 107)).alloc (.cells #[.bool inn, .int .i64 fr, .int .i64 n] 113)) := ⟨h2, hrow.below B0, hbol.below B0, B0⟩
  have HFE := Lib.hid (fun (w : World) (h : BolAt b L (mE es) w) => pfirst_any b L g.small (mE es) fr inn w h)
  rw [first_eq g fr inn] at HFE
  have HCE := Lib.hid (fun (w : World) (h : BolAt b L (mE es) w) => pcount_any b L es fr n w g h)
  have HRE := Lib.hid (fun (w : World) (h : BolAt b L (mE es) w) => prows_any b L hL (mE es) w h)
  have HRM := Lib.hid (rows_mE g)
  have HBD : Hid ((flat (pairs es)).length ≤ 600) := Lib.hid (by rw [← rows_mE g]; have := rI_len (mE es) L; omega)
  clear hm hf B0 h2 hrow hbol g
  go_enter Try.func66, Try.ntmps66
  go_upto_region 1 with fail
  obtain ⟨x, hx⟩ : ∃ x, (w.alloc (.cells #[.int .i64 L, .slice p m cap] 107)).alloc (.cells #[.bool inn, .int .i64 fr, .int .i64 n] 113) = x := ⟨_, rfl⟩
  obtain ⟨S, hS⟩ : ∃ S, w.heap.size = S := ⟨_, rfl⟩
  rw [hx] at HW0
  change Code.wp _ _ _ _ ((w.alloc (.cells #[.int .i64 L, .slice p m cap] 107)).alloc (.cells #[.bool inn, .int .i64 fr, .int .i64 n] 113))
  try simp only [World.size_alloc]
  rw [hx, hS]
  have H0 : Hid (ToW S (S + 1) L m cap b p es inn fr n w x) := Lib.hid (by rw [← hS]; exact HW0)
  clear hx hS HW0
  obtain ⟨⟨s0, s1⟩, t0, t1, t2⟩ := H0.out.v.all
  go_wp2_with fail
  refine (count_any L p m cap es fr n _ HG.out HM.out H0.out.r HF.out).mono ?_
  rintro e w1 ⟨rfl, hb⟩
  have H1 := Lib.hid (H0.out.below hb)
  obtain ⟨cv, hcv⟩ : ∃ cv, countV L es fr n = cv := ⟨_, rfl⟩
  obtain ⟨ce, hce⟩ : ∃ ce, laidErr L fr n = ce := ⟨_, rfl⟩
  rw [hcv, hce] at HCE ⊢
  clear hb H0 s0 s1 t0 t1 t2 hcv hce
  obtain ⟨⟨s0, s1⟩, t0, t1, t2⟩ := H1.out.v.all
  go_wp2_with fail
  refine (HCE.out _ H1.out.b).mono ?_
  rintro e w2 ⟨rfl, rfl⟩
  go_wp2_with fail
  refine (first_any L p m cap es fr inn _ HG.out H1.out.r HM.out).mono ?_
  rintro e w3 ⟨rfl, hb⟩
  have H3 := Lib.hid (H1.out.below hb)
  obtain ⟨fv, hfv⟩ : ∃ fv, firstV L es fr inn = fv := ⟨_, rfl⟩
  obtain ⟨fb, hfb⟩ : ∃ fb, firstB L es fr inn = fb := ⟨_, rfl⟩
  rw [hfv, hfb] at HFE ⊢
  clear hb H1 s0 s1 t0 t1 t2 hfv hfb
  obtain ⟨⟨s0, s1⟩, t0, t1, t2⟩ := H3.out.v.all
  go_wp2_with fail
  refine (HFE.out _ H3.out.b).mono ?_
  rintro e w4 ⟨rfl, rfl⟩
  have hb1 : (fb == fb) = true := by simp
  go_wp2_with fail
  refine (len_any L p m cap _).mono ?_
  rintro e w5 ⟨rfl, hb⟩
  have H5 := Lib.hid (H3.out.below hb)
  clear hb H3 s0 s1 t0 t1 t2
  go_wp2_with fail
  go_loopw [15] (fun s15 wr => ∃ k : Int, -1 ≤ k ∧ k ≤ (L : Int) + 1 ∧ s15 = .int .i64 k ∧ ToW S (S + 1) L m cap b p es inn fr n w wr) (fun s15 _ => (L + 2 - intOf s15).toNat)
  case atStart => exact ⟨-1, by omega, by omega, rfl, H5.out⟩
  case round =>
    clear H5
    obtain ⟨k, hk1, hk2, rfl, hto⟩ := hrel
    have HT := Lib.hid hto
    obtain ⟨⟨s0, s1⟩, t0, t1, t2⟩ := hto.v.all
    by_cases hkl : k ≤ (L : Int)
    · have HHS := Lib.hid (has_any L p m cap es k wr HG.out HT.out.r HM.out)
      by_cases k0 : k < 0
      · have e : k = -1 := by omega
        have HE : Hid (hasB L es k = false) := Lib.hid (by unfold hasB; rw [decide_eq_false (by omega)]; rfl)
        rw [HE.out] at HHS
        have k0' : ¬ 0 ≤ k := by omega
        clear hto e
        go_wp2_with fail
        refine HHS.out.mono ?_
        rintro e w6 ⟨rfl, hb⟩
        have HT6 := Lib.hid (HT.out.below hb)
        clear hb s0 s1 t0 t1 t2
        go_wp2_with fail
        go_roundw
        case rel => exact ⟨k + 1, by omega, by omega, by go_num, HT6.out⟩
        case measure => simp [intOf]; omega
      · by_cases kL : k < (L : Int)
        · obtain ⟨i, rfl⟩ := Int.eq_ofNat_of_zero_le (show 0 ≤ k by omega)
          have hil : i < L := by omega
          have HE : Hid (hasB L es (i : Int) = mE es i) := Lib.hid (by unfold hasB mE; rw [decide_eq_true (by omega)]; rfl)
          rw [HE.out] at HHS
          obtain ⟨v, hv⟩ : ∃ v, mE es i = v := ⟨_, rfl⟩
          rw [hv] at HHS
          have HV := Lib.hid hv
          clear hto hv
          go_wp2_with fail
          refine HHS.out.mono ?_
          rintro e w6 ⟨rfl, hb⟩
          have HT6 := Lib.hid (HT.out.below hb)
          have hcell := HT6.out.b.cell i hil
          rw [HV.out] at hcell
          have hvv : (v == v) = true := by simp
          clear hb s0 s1 t0 t1 t2
          go_wp2_with fail
          go_roundw
          case rel => exact ⟨(i : Int) + 1, by omega, by omega, by go_num, HT6.out⟩
          case measure => simp [intOf]; omega
        · have HE : Hid (hasB L es k = false) := Lib.hid (by unfold hasB; rw [decide_eq_false (by omega)]; rfl)
          rw [HE.out] at HHS
          clear hto
          go_wp2_with fail
          refine HHS.out.mono ?_
          rintro e w6 ⟨rfl, hb⟩
          have HT6 := Lib.hid (HT.out.below hb)
          clear hb s0 s1 t0 t1 t2
          go_wp2_with fail
          go_roundw
          case rel => exact ⟨k + 1, by omega, by omega, by go_num, HT6.out⟩
          case measure => simp [intOf]; omega
    · clear hto
      go_wp2_with fail
      refine (rows_any L p m cap es _ HG.out HM.out HT.out.r).mono ?_
      rintro e w6 ⟨v, rfl, hi6, hb⟩
      obtain ⟨pv, cv, rfl, hrw⟩ := hi6.row
      have HT6 := Lib.hid (HT.out.below hb)
      have HRW := Lib.hid hrw
      clear hb hi6 hrw s0 s1 t0 t1 t2
      go_wp2_with fail
      refine (HRE.out _ HT6.out.b).mono ?_
      rintro e w7 ⟨v, rfl, hi7, hb⟩
      rw [HRM.out] at hi7
      obtain ⟨pw, cw, rfl, hrw⟩ := hi7.row
      have HL7 := Lib.hid (HT6.out.l.trans (hb.mono HT6.out.l.size))
      have HRX : Hid (IntsRow w7 pv (flat (pairs es))) := Lib.hid (by
        rcases HRW.out with h | ⟨gb, off, h1, h2, h3⟩
        · exact .inl h
        · exact .inr ⟨gb, off, h1, Nat.lt_of_lt_of_le h2 hb.size, fun j hj => (hb.cell (p := ⟨gb, off + j, none⟩) h2).trans (h3 j hj)⟩)
      have HRY := Lib.hid hrw
      clear hb hi7 hrw
      go_wp2_with fail
      refine (equal_any pv pw cv cw _ _ _ _ rfl rfl (by have := HBD.out; omega) _ HRX.out HRY.out).mono ?_
      rintro e w8 ⟨rfl, d, rfl⟩
      have HEQ : Hid ((flat (pairs es) == flat (pairs es)) = true) := Lib.hid (by simp)
      rw [HEQ.out]
      have HL8 := Lib.hid (below_drewN HL7.out d)
      go_wp2_with fail
      go_ret
      exact ⟨rfl, HL8.out⟩
end Go.Proofs.Ytoineackmpafdaa.Bt
