/- The document's keys: Get, Equal, Of, Drop. (Written by gen_dsa.py.) -/
import Derived.Test.YtmnhpmgffhpoeaaGreatDuF
namespace Go.Proofs.YtmnhpmgffhpoeaaGreat.Bt
open Go Go.RowKit Go.Shelf
set_option linter.unusedVariables false
set_option linter.unusedSimpArgs false
theorem Tryz.infoRfI : (Tryz.prog.info? 49).map (fun i => (i.zero, i.size, i.bytes)) = some (some (.agg #[.string ⟨#[]⟩, .int .u64 0]), 2, 24) := by kernel_rfl
theorem notRfI : NotAr 49 := by unfold NotAr; decide
theorem rowF_cell {p : Option Addr} {L : List Itm} {w : World} (h : RowG 49 iL 2 p L w) {j : Nat} {t : Itm} (hj : L[j]? = some t) :
    ∃ g, p = some ⟨g, 0, none⟩ ∧ g < w.heap.size ∧ w.cell? ⟨g, j * 2, none⟩ = some (.string t.k) ∧ w.cell? ⟨g, j * 2 + 1, none⟩ = some (.int .u64 (t.x : Int)) := by
  obtain ⟨g, hp, hg, hc⟩ := h.cell hj
  exact ⟨g, hp, hg, hc 0 _ rfl, hc 1 _ rfl⟩
theorem RowG.its {p : Option Addr} {L : List Itm} {w : World} (h : RowG 39 iL 2 p L w) : ItsAt w p L := by
  rcases h with e | ⟨g, cur, e, hg, hc⟩
  · exact .inl e
  · refine .inr ⟨g, 0, e, (Array.getElem?_eq_some_iff.1 hg).1, fun i t ht => ?_⟩
    rw [Nat.zero_add]
    exact ⟨(cell_blk hg _).1.trans (hc i t ht 0 _ rfl), (cell_blk hg _).1.trans (hc i t ht 1 _ rfl)⟩
/-- a row of the document's, made anew -/
def RowF (L : List Itm) (w : World) (e : Ending) (w' : World) : Prop := ∃ p cap, e = .returned (.slice p L.length cap) ∧ RowG 49 iL 2 p L w' ∧ Below w.heap.size w w'
section
variable {w : World} {L : List Itm}
set_option maxHeartbeats 4000000 in
/-- a key's number -/
theorem rget22 (p : Option Addr) (cap : Nat) (k : ByteArray) (hR : RowG 49 iL 2 p L w) (hn : L.length ≤ 100) :
    Calls Tryz.prog 15 #[.slice p L.length cap, .string k] w (Gives (.tuple #[.int .u64 (getX L k : Int), .bool (getB L k)]) w) := by
  have HR := Lib.hid hR
  obtain ⟨gx, hgx⟩ : ∃ g, getX L k = g := ⟨_, rfl⟩
  obtain ⟨gb, hgb⟩ : ∃ g, getB L k = g := ⟨_, rfl⟩
  have HGX := Lib.hid hgx
  have HGB := Lib.hid hgb
  obtain ⟨n, hnn⟩ : ∃ n, L.length = n := ⟨_, rfl⟩
  have HN := Lib.hid hnn
  rw [hnn] at hn
  rw [hgx, hgb, hnn]
  clear hR hnn hgx hgb
  go_enter Tryz.func15, Tryz.ntmps15
  go_wp2_with fail
  go_loopw [10] (fun s10 wr => ∃ j : Nat, j ≤ n ∧ s10 = .int .i64 (j : Int) ∧ Hid (j ≤ ixK L k) ∧ Hid (Below w.heap.size w wr)) (fun s10 _ => n - (intOf s10).toNat)
  case atStart => exact ⟨0, Nat.zero_le _, rfl, Lib.hid (Nat.zero_le _), Lib.hid (Below.refl _ _)⟩
  case round =>
    obtain ⟨j, hj, rfl, HJ, HB⟩ := hrel
    by_cases hjn : j < n
    · have hjn2 : (j : Int) < (n : Int) := by omega
      obtain ⟨E, hE⟩ : ∃ E, L[j]? = some E := ⟨_, List.getElem?_eq_getElem (by have := HN.out; omega)⟩
      obtain ⟨g, rfl, hg, q0, q1⟩ := rowF_cell (HR.out.below HB.out) hE
      have HE := Lib.hid hE
      have HB2 := Lib.hid (HB.out.trans ((bel1 _ (.cells #[.string E.k, .int .u64 (E.x : Int)] 49)).mono HB.out.size))
      clear hE
      by_cases hid : E.k = k
      · have hix : ixK L k = j := ixK_at HE.out HJ.out hid
        have hg1 : gx = E.x := by rw [← HGX.out]; unfold getX; rw [hix, HE.out]; rfl
        have hg2 : gb = true := by rw [← HGB.out]; unfold getB; rw [hix]; exact decide_eq_true (by have := HN.out; omega)
        subst hg1
        subst hg2
        have d : (E.k.toList == k.toList) = true := (keyEq _ _).trans (decide_eq_true hid)
        clear hid hix
        go_wp2_with fail
        go_ret2
        exact ⟨by rfl, HB2.out⟩
      · have HX := Lib.hid (ixK_next HE.out HJ.out hid)
        have d : (E.k.toList == k.toList) = false := (keyEq _ _).trans (decide_eq_false hid)
        clear hid
        go_wp2_with fail
        go_roundw
        case rel => exact ⟨j + 1, by omega, by go_num, HX, HB2⟩
        case measure => simp [intOf]; omega
    · have hjn2 : ¬ (j : Int) < (n : Int) := by omega
      have hni : ¬ ixK L k < L.length := by have := HJ.out; have := HN.out; omega
      have hg1 : gx = 0 := by rw [← HGX.out]; unfold getX; rw [List.getElem?_eq_none (by omega)]; rfl
      have hg2 : gb = false := by rw [← HGB.out]; unfold getB; exact decide_eq_false hni
      subst hg1
      subst hg2
      clear hni
      go_wp2_with fail
      go_ret2
      exact ⟨by rfl, HB.out⟩
set_option maxHeartbeats 4000000 in
/-- the statement's items as the document's -/
theorem rof22 (p : Option Addr) (cap : Nat) (hL : L.length ≤ 100) (hR : ItsAt w p L) : Calls Tryz.prog 9 #[.slice p L.length cap] w (RowF L w) := by
  obtain ⟨i0, hi, hz0, hz1, hz2⟩ := info_parts Tryz.infoRfI
  have HI := Lib.hid hi; have HZ0 := Lib.hid hz0; have HZ1 := Lib.hid hz1; have HZ2 := Lib.hid hz2
  clear hi hz0 hz1 hz2
  have HR := Lib.hid hR
  obtain ⟨n, hn⟩ : ∃ n, L.length = n := ⟨_, rfl⟩
  have HN := Lib.hid hn
  obtain ⟨b0, hb0⟩ : ∃ b0, w.heap.size = b0 := ⟨_, rfl⟩
  have HB0 := Lib.hid hb0
  have HST := Lib.hid (RwG.start 49 iL 2 w hb0)
  rw [hn] at hL ⊢
  clear hR hn hb0
  go_enter Tryz.func9, Tryz.ntmps9
  go_wp2_with fail
  go_loopw [3, 8] (fun s3 s8 wr => ∃ (j : Nat) (v3 : Value), j ≤ n ∧ v3 = s3 ∧ s8 = .int .i64 (j : Int) ∧ Hid (RwG 49 iL 2 b0 (L.take j) v3 w wr)) (fun _ s8 _ => n - (intOf s8).toNat)
  case atStart => exact ⟨0, _, Nat.zero_le _, rfl, rfl, HST⟩
  case round =>
    clear HST
    obtain ⟨j, v3, hj, rfl, rfl, HG⟩ := hrel
    by_cases hjn : j < n
    · have hjn2 : (j : Int) < (n : Int) := by omega
      obtain ⟨E, hE⟩ : ∃ E, L[j]? = some E := ⟨_, List.getElem?_eq_getElem (by have := HN.out; omega)⟩
      have hbw : Below w.heap.size w wr := by rw [HB0.out]; exact HG.out.bl
      obtain ⟨g, off, rfl, q0, q1⟩ := (HR.out.below hbw).cell hE
      have HTK := Lib.hid (takeI_next hE)
      have hlen : (L.take j).length ≤ 100 := by rw [List.length_take]; omega
      have HR4 := Lib.hid ((HG.out.below (bel1 wr (.cells #[.string E.k, .int .u64 (E.x : Int)] 39))).below (bel1 _ (.cells #[.string E.k, .int .u64 (E.x : Int)] 49)))
      have hsz := HG.out.sz
      clear hE hbw
      go_wp2_with (at_builtin; refine wpList_append_own _ rfl _ _ 33 rfl b0 49 i0 (.agg #[.string ⟨#[]⟩, .int .u64 0]) 2 24 Tryz.underlying33 HI.out HZ0.out HZ1.out HZ2.out rfl (by decide) _ _ _ rfl HR4.out.ow ⟨_, 0, none⟩ 1 1 (iL E) rfl rfl (encG_new _ _ rfl (by simp)) (by simp [iL, Value.oneCell']) (by unfold maxLen; omega) (by omega) (by simp; omega) ?_; intro v' w6 hown' hgrow _)
      have HF : Hid (RwG 49 iL 2 b0 (L.take (j + 1)) v' w w6) := Lib.hid (by
        rw [HTK.out]
        exact HR4.out.app E hgrow hown')
      clear hown' hgrow HG HR4
      go_wp2_with fail
      go_roundw
      case rel => exact ⟨j + 1, _, by omega, rfl, by go_num, HF⟩
      case measure => simp [intOf]; omega
    · have hjn2 : ¬ (j : Int) < (n : Int) := by omega
      have hw := HG.out
      rw [List.take_of_length_le (by have := HN.out; omega)] at hw
      have HB := Lib.hid (show Below w.heap.size w wr by rw [HB0.out]; exact hw.bl)
      obtain ⟨p', cap', rfl, h1, h3⟩ := hw.row iL_len
      have HRE := Lib.hid h3
      rw [HN.out]
      clear h1 h3 hw HG
      go_wp2_with fail
      go_ret
      exact ⟨p', cap', by rw [HN.out]; rfl, HRE.out, HB.out⟩
set_option maxHeartbeats 2000000 in
theorem requal22 (u v : Option Addr) (ca cb : Nat) (hL : L.length ≤ 100) (hu : RowG 49 iL 2 u L w) (hv : RowG 49 iL 2 v L w) :
    Calls Tryz.prog 16 #[.slice u L.length ca, .slice v L.length cb] w (Gives (.bool true) w) := by
  obtain ⟨n, hn⟩ : ∃ n, L.length = n := ⟨_, rfl⟩
  have HN := Lib.hid hn
  have d1 : ((n : Int) != (n : Int)) = false := by simp
  have HU := Lib.hid hu; have HV := Lib.hid hv
  rw [hn] at hL ⊢
  clear hu hv hn
  go_enter Tryz.func16, Tryz.ntmps16
  go_wp2_with fail
  go_loopw [13] (fun i wr => ∃ j : Nat, j ≤ n ∧ i = .int .i64 (j : Int) ∧ Hid (Below w.heap.size w wr)) (fun i _ => n - (intOf i).toNat)
  case atStart => exact ⟨0, Nat.zero_le _, rfl, Lib.hid (Below.refl _ _)⟩
  case round =>
    obtain ⟨j, hj, rfl, HW⟩ := hrel
    by_cases hlt : j < n
    · obtain ⟨E, hE⟩ : ∃ E, L[j]? = some E := ⟨_, List.getElem?_eq_getElem (by have := HN.out; omega)⟩
      obtain ⟨gu, rfl, -, p0, p1⟩ := rowF_cell (HU.out.below HW.out) hE
      obtain ⟨gv, rfl, -, q0, q1⟩ := rowF_cell (HV.out.below HW.out) hE
      obtain ⟨y1, y2⟩ := E
      simp only at p0 p1 q0 q1
      have i0 : 0 ≤ (j : Int) := by omega
      have i1 : (j : Int) < (n : Int) := by omega
      clear hE
      go_wp2_with fail
      go_region
      go_wp2_with fail
      refine ⟨⟨j + 1, by omega, by go_num, Lib.hid HW.out.drew⟩, by simp [intOf]; omega⟩
    · have i1 : ¬ (j : Int) < (n : Int) := by omega
      go_wp2_with fail
      go_ret
      exact ⟨rfl, HW.out⟩
theorem fl_next {L : List Itm} {j : Nat} {t : Itm} (f : Itm → Bool) (h : L[j]? = some t) : (L.take (j + 1)).filter f = if f t then (L.take j).filter f ++ [t] else (L.take j).filter f := by
  rw [takeI_next h, List.filter_append]
  cases e : f t with
  | true => simp [e]
  | false => simp [e]
def RTwo (M : List Itm) (r : Int) (w : World) (e : Ending) (w' : World) : Prop := ∃ p cap, e = .returned (.tuple #[.slice p M.length cap, .int .i64 r]) ∧ RowG 49 iL 2 p M w' ∧ Below w.heap.size w w'
set_option maxHeartbeats 8000000 in
/-- a key goes -/
theorem rdrop22 (p : Option Addr) (cap : Nat) (k : ByteArray) (hR : RowG 49 iL 2 p L w) (hn : L.length ≤ 100) (hd : (L.map Itm.k).Nodup) :
    Calls Tryz.prog 11 #[.slice p L.length cap, .string k] w (RTwo (drL L k) (drC L k) w) := by
  obtain ⟨i0, hi, hz0, hz1, hz2⟩ := info_parts Tryz.infoRfI
  have HI := Lib.hid hi; have HZ0 := Lib.hid hz0; have HZ1 := Lib.hid hz1; have HZ2 := Lib.hid hz2
  clear hi hz0 hz1 hz2
  have HGE := Lib.hid (rget22 p cap k hR hn)
  have HR := Lib.hid hR
  obtain ⟨n, hnn⟩ : ∃ n, L.length = n := ⟨_, rfl⟩
  have HN := Lib.hid hnn
  by_cases cf : ixK L k < L.length
  · have e1 : drL L k = L.filter fun t => !decide (t.k = k) := by unfold drL; rw [if_pos cf]; exact erase_filter hd (List.getElem?_eq_getElem cf) (ixK_get cf)
    have e2 : drC L k = 0 := by unfold drC; rw [if_pos cf]
    have e3 : getB L k = true := decide_eq_true cf
    rw [e1, e2]
    rw [e3, hnn] at HGE
    rw [hnn] at hn ⊢
    clear e1 e2 e3 cf hR hnn hd
    go_enter Tryz.func11, Tryz.ntmps11
    go_wp2_with fail
    refine HGE.out.mono ?_
    rintro e w1 ⟨rfl, hb⟩
    have HB1 := Lib.hid hb
    obtain ⟨b0, hb0⟩ : ∃ b0, w1.heap.size = b0 := ⟨_, rfl⟩
    have HB0 := Lib.hid hb0
    have HST := Lib.hid (RwG.start 49 iL 2 w1 hb0)
    clear hb hb0 HGE
    go_wp2_with fail
    go_loopw [8, 22] (fun s8 s22 wr => ∃ (j : Nat) (v8 : Value), j ≤ n ∧ v8 = s8 ∧ s22 = .int .i64 (j : Int) ∧ Hid (RwG 49 iL 2 b0 ((L.take j).filter fun t => !decide (t.k = k)) v8 w1 wr)) (fun _ s22 _ => n - (intOf s22).toNat)
    case atStart => exact ⟨0, _, Nat.zero_le _, rfl, rfl, HST⟩
    case round =>
      clear HST
      obtain ⟨j, v8, hj, rfl, rfl, HG⟩ := hrel
      have HBW : Hid (Below w.heap.size w wr) := Lib.hid (HB1.out.trans ((show Below b0 w1 wr from HG.out.bl).mono (by rw [← HB0.out]; exact HB1.out.size)))
      by_cases hjn : j < n
      · have hjn2 : (j : Int) < (n : Int) := by omega
        obtain ⟨E, hE⟩ : ∃ E, L[j]? = some E := ⟨_, List.getElem?_eq_getElem (by have := HN.out; omega)⟩
        obtain ⟨g, rfl, hg, q0, q1⟩ := rowF_cell (HR.out.below HBW.out) hE
        have HTK := Lib.hid (fl_next (fun t => !decide (t.k = k)) hE)
        have hlen : ((L.take j).filter fun t => !decide (t.k = k)).length ≤ 100 := Nat.le_trans (List.length_filter_le _ _) (by rw [List.length_take]; omega)
        have hsz := HG.out.sz
        by_cases hid : E.k = k
        · have d : (E.k.toList == k.toList) = true := (keyEq _ _).trans (decide_eq_true hid)
          have htk := HTK.out
          rw [if_neg (by simp [hid])] at htk
          have HTK2 := Lib.hid htk
          have HR4 := Lib.hid (HG.out.below (bel1 wr (.cells #[.string E.k, .int .u64 (E.x : Int)] 49)))
          clear hE hg htk hid HTK
          go_wp2_with fail
          go_roundw
          case rel => exact ⟨j + 1, _, by omega, rfl, by go_num, by rw [HTK2.out]; exact HR4⟩
          case measure => simp [intOf]; omega
        · have d : (E.k.toList == k.toList) = false := (keyEq _ _).trans (decide_eq_false hid)
          have htk := HTK.out
          rw [if_pos (by simp [hid])] at htk
          have HTK2 := Lib.hid htk
          have HR4 := Lib.hid ((HG.out.below (bel1 wr (.cells #[.string E.k, .int .u64 (E.x : Int)] 49))).below (bel1 _ (.cells #[.string E.k, .int .u64 (E.x : Int)] 49)))
          clear hE hg htk hid HTK
          go_wp2_with (at_builtin; refine wpList_append_own _ rfl _ _ 33 rfl b0 49 i0 (.agg #[.string ⟨#[]⟩, .int .u64 0]) 2 24 Tryz.underlying33 HI.out HZ0.out HZ1.out HZ2.out rfl (by decide) _ _ _ rfl HR4.out.ow ⟨_, 0, none⟩ 1 1 (iL E) rfl rfl (encG_new _ _ rfl (by simp)) (by simp [iL, Value.oneCell']) (by unfold maxLen; omega) (by omega) (by simp; omega) ?_; intro v' w6 hown' hgrow _)
          have HF : Hid (RwG 49 iL 2 b0 ((L.take (j + 1)).filter fun t => !decide (t.k = k)) v' w1 w6) := Lib.hid (by
            rw [HTK2.out]
            exact HR4.out.app E hgrow hown')
          clear hown' hgrow HG HR4
          go_wp2_with fail
          go_roundw
          case rel => exact ⟨j + 1, _, by omega, rfl, by go_num, HF⟩
          case measure => simp [intOf]; omega
      · have hjn2 : ¬ (j : Int) < (n : Int) := by omega
        have hw := HG.out
        rw [List.take_of_length_le (by have := HN.out; omega)] at hw
        obtain ⟨p', cap', rfl, h1, h3⟩ := hw.row iL_len
        have HRE := Lib.hid h3
        clear h1 h3 hw HG
        go_wp2_with fail
        go_ret2
        exact ⟨p', cap', by rfl, HRE.out, HBW.out⟩
  · have e1 : drL L k = L := by unfold drL; rw [if_neg cf]
    have e2 : drC L k = 8 := by unfold drC; rw [if_neg cf]
    have e3 : getB L k = false := decide_eq_false cf
    rw [e1, e2]
    rw [e3, hnn] at HGE
    rw [hnn]
    clear e1 e2 e3 cf hR hnn hd
    go_enter Tryz.func11, Tryz.ntmps11
    go_wp2_with fail
    refine HGE.out.mono ?_
    rintro e w1 ⟨rfl, hb⟩
    have HB1 := Lib.hid hb
    have HR1 := Lib.hid (HR.out.below hb)
    clear hb HGE
    go_wp2_with fail
    go_ret2
    exact ⟨p, cap, by rw [HN.out]; rfl, HR1.out, HB1.out⟩
end
end Go.Proofs.YtmnhpmgffhpoeaaGreat.Bt
