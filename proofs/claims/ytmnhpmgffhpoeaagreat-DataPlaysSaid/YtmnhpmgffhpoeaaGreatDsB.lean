/- The document's keys: Set, Put. (Written by gen_dsb.py.) -/
import Derived.Test.YtmnhpmgffhpoeaaGreatDsA
namespace Go.Proofs.YtmnhpmgffhpoeaaGreat.Bt
open Go Go.RowKit Go.Shelf
set_option linter.unusedVariables false
set_option linter.unusedSimpArgs false
/-- one item in the place of those of its key -/
def repI (t y : Itm) : Itm := if y.k = t.k then t else y
theorem rep_not {L : List Itm} {t : Itm} (h : t.k ∉ L.map Itm.k) : L.map (repI t) = L := by
  induction L with
  | nil => rfl
  | cons c l ih =>
    have h1 : ¬ c.k = t.k := fun e => h (by rw [← e]; simp)
    rw [List.map_cons, ih fun x => h (by simp only [List.map_cons]; exact List.mem_cons_of_mem _ x)]
    unfold repI
    rw [if_neg h1]
theorem rep_set {L : List Itm} (h : (L.map Itm.k).Nodup) {i : Nat} {t u : Itm} (hu : L[i]? = some u) (hk : u.k = t.k) : L.map (repI t) = L.set i t := by
  induction L generalizing i with
  | nil => simp at hu
  | cons c l ih =>
    obtain ⟨h1, h2⟩ := List.nodup_cons.1 (show (c.k :: l.map Itm.k).Nodup from h)
    rcases i with _ | i
    · simp at hu
      subst hu
      rw [List.map_cons, rep_not (by rw [← hk]; exact h1)]
      unfold repI
      rw [if_pos hk]; rfl
    · have hul : u ∈ l := List.mem_of_getElem? (by simpa using hu)
      have hck : ¬ c.k = t.k := fun e => h1 (by rw [e, ← hk]; exact List.mem_map_of_mem hul)
      rw [List.map_cons, ih h2 (by simpa using hu)]
      unfold repI
      rw [if_neg hck]; rfl
theorem rep_next {L : List Itm} {j : Nat} {t y : Itm} (h : L[j]? = some y) : (L.take (j + 1)).map (repI t) = (L.take j).map (repI t) ++ [repI t y] := by
  rw [takeI_next h, List.map_append]; rfl
section
variable {w : World} {L : List Itm} {p : Option Addr} {cap n : Nat}
theorem rset_empty (t : Itm) (hR : RowG 49 iL 2 p L w) (h : t.k.size = 0) : Calls Tryz.prog 13 #[.slice p L.length cap, .int .i64 (n : Int), iV t] w (RTwo L 17 w) := by
  have HR := Lib.hid hR
  have hz : t.k.toList.isEmpty = true := by
    rw [ByteArray.toList_eq]
    have : t.k.data.toList.length = 0 := by simpa using h
    rw [List.eq_nil_of_length_eq_zero this]; rfl
  clear h hR
  have HF0 := Lib.hid ((Fb.start w).new #[.string t.k, .int .u64 (t.x : Int)] 49)
  go_enter Tryz.func13, Tryz.ntmps13
  go_upto_region 1 with fail
  change Code.wp _ _ _ _ (w.alloc (.cells #[.string t.k, .int .u64 (t.x : Int)] 49))
  obtain ⟨y, hy⟩ : ∃ y, w.alloc (.cells #[.string t.k, .int .u64 (t.x : Int)] 49) = y := ⟨_, rfl⟩
  obtain ⟨B, hB⟩ : ∃ B, w.heap.size = B := ⟨_, rfl⟩
  have hf := HF0.out
  rw [hy, hB] at hf
  rw [hy, hB]
  have HF := Lib.hid hf
  clear hf HF0 hy hB
  have e0 := HF.out.cell0 0 rfl; have e1 := HF.out.cell0 1 rfl
  go_wp2_with fail
  go_ret2
  exact ⟨p, cap, by rfl, HR.out.below HF.out.be, HF.out.be⟩
theorem rset_long (t : Itm) (hR : RowG 49 iL 2 p L w) (h : 16 < t.k.size) (h9 : t.k.size ≤ 9223372036854775807) : Calls Tryz.prog 13 #[.slice p L.length cap, .int .i64 (n : Int), iV t] w (RTwo L 16 w) := by
  have HR := Lib.hid hR
  have hz : t.k.toList.isEmpty = false := keyEmp fun e => by rw [e] at h; exact absurd h (by decide)
  have hg : (16 : Int) < (t.k.size : Int) := by omega
  clear h hR
  have HF0 := Lib.hid ((Fb.start w).new #[.string t.k, .int .u64 (t.x : Int)] 49)
  go_enter Tryz.func13, Tryz.ntmps13
  go_upto_region 1 with fail
  change Code.wp _ _ _ _ (w.alloc (.cells #[.string t.k, .int .u64 (t.x : Int)] 49))
  obtain ⟨y, hy⟩ : ∃ y, w.alloc (.cells #[.string t.k, .int .u64 (t.x : Int)] 49) = y := ⟨_, rfl⟩
  obtain ⟨B, hB⟩ : ∃ B, w.heap.size = B := ⟨_, rfl⟩
  have hf := HF0.out
  rw [hy, hB] at hf
  rw [hy, hB]
  have HF := Lib.hid hf
  clear hf HF0 hy hB
  have e0 := HF.out.cell0 0 rfl; have e1 := HF.out.cell0 1 rfl
  go_wp2_with fail
  go_ret2
  exact ⟨p, cap, by rfl, HR.out.below HF.out.be, HF.out.be⟩
theorem rset_full (t : Itm) (hR : RowG 49 iL 2 p L w) (hl : L.length ≤ 100) (h0 : 0 < t.k.size) (h16 : t.k.size ≤ 16) (hi : ¬ ixK L t.k < L.length) (hn : L.length = n) : Calls Tryz.prog 13 #[.slice p L.length cap, .int .i64 (n : Int), iV t] w (RTwo L 10 w) := by
  have HR := Lib.hid hR
  have hz : t.k.toList.isEmpty = false := keyEmp fun e => by rw [e] at h0; exact absurd h0 (by decide)
  have hg : ¬ (16 : Int) < (t.k.size : Int) := by omega
  have hg9 : t.k.size ≤ 9223372036854775807 := by omega
  have e3 : getB L t.k = false := decide_eq_false hi
  have HGE := Lib.hid fun X (hX : Below w.heap.size w X) => rget22 (w := X) p cap t.k (hR.below hX) hl
  rw [e3] at HGE
  obtain ⟨N, hN⟩ : ∃ N, L.length = N := ⟨_, rfl⟩
  have HN := Lib.hid hN
  rw [hN] at HGE hn
  rw [hN]
  have hNn : (n : Int) ≤ (N : Int) := by omega
  clear hR hl h0 h16 hi hn e3 hN
  have HF0 := Lib.hid ((Fb.start w).new #[.string t.k, .int .u64 (t.x : Int)] 49)
  go_enter Tryz.func13, Tryz.ntmps13
  go_upto_region 1 with fail
  change Code.wp _ _ _ _ (w.alloc (.cells #[.string t.k, .int .u64 (t.x : Int)] 49))
  obtain ⟨y, hy⟩ : ∃ y, w.alloc (.cells #[.string t.k, .int .u64 (t.x : Int)] 49) = y := ⟨_, rfl⟩
  obtain ⟨B, hB⟩ : ∃ B, w.heap.size = B := ⟨_, rfl⟩
  have hf := HF0.out
  rw [hy, hB] at hf
  rw [hy, hB]
  have HF := Lib.hid hf
  clear hf HF0 hy hB
  have e0 := HF.out.cell0 0 rfl; have e1 := HF.out.cell0 1 rfl
  go_wp2_with fail
  refine (HGE.out _ HF.out.be).mono ?_
  rintro e w1 ⟨rfl, hb⟩
  have HB1 := Lib.hid (HF.out.be.trans (hb.mono HF.out.be.size))
  clear hb HGE HF e0 e1
  go_wp2_with fail
  go_ret2
  exact ⟨p, cap, by rw [HN.out]; rfl, HR.out.below HB1.out, HB1.out⟩
set_option maxRecDepth 100000 in
set_option maxHeartbeats 8000000 in
theorem rset_ok (t : Itm) (hR : RowG 49 iL 2 p L w) (hl : L.length ≤ 100) (h0 : 0 < t.k.size) (h16 : t.k.size ≤ 16) (hc : ixK L t.k < L.length ∨ L.length < n) :
    Calls Tryz.prog 13 #[.slice p L.length cap, .int .i64 (n : Int), iV t] w (RTwo (if ixK L t.k < L.length then L.map (repI t) else L.map (repI t) ++ [t]) 0 w) := by
  obtain ⟨i0, hi, hz0, hz1, hz2⟩ := info_parts Tryz.infoRfI
  have HI := Lib.hid hi; have HZ0 := Lib.hid hz0; have HZ1 := Lib.hid hz1; have HZ2 := Lib.hid hz2
  clear hi hz0 hz1 hz2
  have HR := Lib.hid hR
  have hz : t.k.toList.isEmpty = false := keyEmp fun e => by rw [e] at h0; exact absurd h0 (by decide)
  have hg : ¬ (16 : Int) < (t.k.size : Int) := by omega
  have hg9 : t.k.size ≤ 9223372036854775807 := by omega
  have HGE := Lib.hid fun X (hX : Below w.heap.size w X) => rget22 (w := X) p cap t.k (hR.below hX) hl
  obtain ⟨N, hN⟩ : ∃ N, L.length = N := ⟨_, rfl⟩
  have HN := Lib.hid hN
  rw [hN] at HGE
  obtain ⟨gb, hgb⟩ : ∃ g, getB L t.k = g := ⟨_, rfl⟩
  rw [hgb] at HGE
  have hres : (if ixK L t.k < L.length then L.map (repI t) else L.map (repI t) ++ [t]) = (if gb = true then L.map (repI t) else L.map (repI t) ++ [t]) := by
    rw [← hgb]; unfold getB
    by_cases c : ixK L t.k < L.length
    · rw [if_pos c, if_pos (decide_eq_true c)]
    · rw [if_neg c, if_neg (by rw [decide_eq_false c]; simp)]
  rw [hres, hN]
  have hcc : gb = true ∨ N < n := by
    rw [← hgb, ← hN]
    rcases hc with c | c
    · exact .inl (decide_eq_true c)
    · exact .inr c
  obtain ⟨R, hRR⟩ : ∃ r, (if gb = true then L.map (repI t) else L.map (repI t) ++ [t]) = r := ⟨_, rfl⟩
  have HRR := Lib.hid hRR
  rw [hRR]
  rw [hN] at hl
  clear hR h0 h16 hc hN hgb hres hRR
  have HF0 := Lib.hid ((Fb.start w).new #[.string t.k, .int .u64 (t.x : Int)] 49)
  go_enter Tryz.func13, Tryz.ntmps13
  go_upto_region 1 with fail
  change Code.wp _ _ _ _ (w.alloc (.cells #[.string t.k, .int .u64 (t.x : Int)] 49))
  obtain ⟨y, hy⟩ : ∃ y, w.alloc (.cells #[.string t.k, .int .u64 (t.x : Int)] 49) = y := ⟨_, rfl⟩
  obtain ⟨B, hB⟩ : ∃ B, w.heap.size = B := ⟨_, rfl⟩
  have hf := HF0.out
  rw [hy, hB] at hf
  rw [hy, hB]
  have HF := Lib.hid hf
  clear hf HF0 hy hB
  have e0 := HF.out.cell0 0 rfl; have e1 := HF.out.cell0 1 rfl
  go_wp2_with fail
  refine (HGE.out _ HF.out.be).mono ?_
  rintro e w1 ⟨rfl, hb⟩
  have HF1 := Lib.hid (HF.out.below hb)
  clear hb HGE HF e0 e1
  obtain ⟨b0, hb0⟩ : ∃ b0, w1.heap.size = b0 := ⟨_, rfl⟩
  have HB0 := Lib.hid hb0
  have HST := Lib.hid (RwG.start 49 iL 2 w1 hb0)
  clear hb0
  rcases gb with _ | _
  · have hNn : ¬ (n : Int) ≤ (N : Int) := by rcases hcc with c | c
                                             · cases c
                                             · omega
    have hNlt : (N : Int) < (n : Int) := by omega
    have hN0 : ¬ n ≤ N := by omega
    have hN1 : decide (n ≤ N) = false := decide_eq_false hN0
    have hNd : decide ((n : Int) ≤ (N : Int)) = false := decide_eq_false hNn
    have hNd2 : decide ((N : Int) < (n : Int)) = true := decide_eq_true hNlt
    clear hcc
    go_wp2_with fail
    go_loopw [10, 40] (fun s10 s40 wr => ∃ (j : Nat) (v : Value), j ≤ N ∧ v = s10 ∧ s40 = .int .i64 (j : Int) ∧ Hid (RwG 49 iL 2 b0 ((L.take j).map (repI t)) v w1 wr)) (fun _ s40 _ => N - (intOf s40).toNat)
    case atStart => exact ⟨0, _, Nat.zero_le _, rfl, rfl, HST⟩
    case round =>
      clear HST
      obtain ⟨j, v, hj, rfl, rfl, HG⟩ := hrel
      have HFW := Lib.hid (HF1.out.below (by rw [HB0.out]; exact HG.out.bl))
      have e0 := HFW.out.cell0 0 rfl; have e1 := HFW.out.cell0 1 rfl
      by_cases hjn : j < N
      · have hjn2 : (j : Int) < (N : Int) := by omega
        obtain ⟨E, hE⟩ : ∃ E, L[j]? = some E := ⟨_, List.getElem?_eq_getElem (by have := HN.out; omega)⟩
        obtain ⟨g, rfl, hg2, q0, q1⟩ := rowF_cell (HR.out.below HFW.out.be) hE
        have HTK := Lib.hid (rep_next (t := t) hE)
        have hlen : ((L.take j).map (repI t)).length ≤ 100 := by rw [List.length_map, List.length_take]; omega
        have hsz := HG.out.sz
        have HFX := Lib.hid (HFW.out.below (bel1 _ (.cells #[.string E.k, .int .u64 (E.x : Int)] 49)))
        have x0 := HFX.out.cell0 0 rfl; have x1 := HFX.out.cell0 1 rfl
        by_cases hid : E.k = t.k
        · have d : (E.k.toList == t.k.toList) = true := (keyEq _ _).trans (decide_eq_true hid)
          have htk := HTK.out
          rw [show repI t E = t from if_pos hid] at htk
          have HTK2 := Lib.hid htk
          have HR4 := Lib.hid ((HG.out.below (bel1 wr (.cells #[.string t.k, .int .u64 (t.x : Int)] 49))).below (bel1 _ (.cells #[.string t.k, .int .u64 (t.x : Int)] 49)))
          clear hE hg2 htk hid HTK
          go_wp2_with (at_builtin; refine wpList_append_own _ rfl _ _ 33 rfl b0 49 i0 (.agg #[.string ⟨#[]⟩, .int .u64 0]) 2 24 Tryz.underlying33 HI.out HZ0.out HZ1.out HZ2.out rfl (by decide) _ _ _ rfl HR4.out.ow ⟨_, 0, none⟩ 1 1 (iL t) rfl rfl (encG_new _ _ rfl (by simp)) (by simp [iL, Value.oneCell']) (by unfold maxLen; omega) (by omega) (by simp; omega) ?_; intro v' w6 hown' hgrow _)
          have HX : Hid (RwG 49 iL 2 b0 ((L.take (j + 1)).map (repI t)) v' w1 w6) := Lib.hid (by
            rw [HTK2.out]
            exact HR4.out.app t hgrow hown')
          clear hown' hgrow HG HR4
          go_wp2_with fail
          go_roundw
          case rel => exact ⟨j + 1, _, by omega, rfl, by go_num, HX⟩
          case measure => simp [intOf]; omega
        · have d : (E.k.toList == t.k.toList) = false := (keyEq _ _).trans (decide_eq_false hid)
          have htk := HTK.out
          rw [show repI t E = E from if_neg hid] at htk
          have HTK2 := Lib.hid htk
          have HR4 := Lib.hid ((HG.out.below (bel1 wr (.cells #[.string E.k, .int .u64 (E.x : Int)] 49))).below (bel1 _ (.cells #[.string E.k, .int .u64 (E.x : Int)] 49)))
          clear hE hg2 htk hid HTK
          go_wp2_with (at_builtin; refine wpList_append_own _ rfl _ _ 33 rfl b0 49 i0 (.agg #[.string ⟨#[]⟩, .int .u64 0]) 2 24 Tryz.underlying33 HI.out HZ0.out HZ1.out HZ2.out rfl (by decide) _ _ _ rfl HR4.out.ow ⟨_, 0, none⟩ 1 1 (iL E) rfl rfl (encG_new _ _ rfl (by simp)) (by simp [iL, Value.oneCell']) (by unfold maxLen; omega) (by omega) (by simp; omega) ?_; intro v' w6 hown' hgrow _)
          have HX : Hid (RwG 49 iL 2 b0 ((L.take (j + 1)).map (repI t)) v' w1 w6) := Lib.hid (by
            rw [HTK2.out]
            exact HR4.out.app E hgrow hown')
          clear hown' hgrow HG HR4
          go_wp2_with fail
          go_roundw
          case rel => exact ⟨j + 1, _, by omega, rfl, by go_num, HX⟩
          case measure => simp [intOf]; omega
      · have hjn2 : ¬ (j : Int) < (N : Int) := by omega
        have hw := HG.out
        rw [List.take_of_length_le (by have := HN.out; omega)] at hw
        have hrr : L.map (repI t) ++ [t] = R := by simpa using HRR.out
        have HW := Lib.hid hw
        have hsz := hw.sz
        have hlen : (L.map (repI t)).length ≤ 100 := by rw [List.length_map]; have := HN.out; omega
        have HR4 := Lib.hid (hw.below (bel1 _ (.cells #[.string t.k, .int .u64 (t.x : Int)] 49)))
        have HRR2 := Lib.hid hrr
        clear hrr hw HG
        go_wp2_with (at_builtin; refine wpList_append_own _ rfl _ _ 33 rfl b0 49 i0 (.agg #[.string ⟨#[]⟩, .int .u64 0]) 2 24 Tryz.underlying33 HI.out HZ0.out HZ1.out HZ2.out rfl (by decide) _ _ _ rfl HR4.out.ow ⟨_, 0, none⟩ 1 1 (iL t) rfl rfl (encG_new _ _ rfl (by simp)) (by simp [iL, Value.oneCell']) (by unfold maxLen; omega) (by omega) (by simp; omega) ?_; intro v' w6 hown' hgrow _)
        have HX : Hid (RwG 49 iL 2 b0 R v' w1 w6) := Lib.hid (by
          rw [← HRR2.out]
          exact HR4.out.app t hgrow hown')
        clear hown' hgrow HR4 HW
        obtain ⟨p', cap', rfl, h1, h3⟩ := HX.out.row iL_len
        have HRE := Lib.hid h3
        have HBW := Lib.hid ((HF1.out.below (by rw [HB0.out]; exact HX.out.bl)).be)
        clear h1 h3
        go_wp2_with fail
        go_ret2
        exact ⟨p', cap', by rfl, HRE.out, HBW.out⟩

  · clear hcc
    go_wp2_with fail
    go_loopw [10, 40] (fun s10 s40 wr => ∃ (j : Nat) (v : Value), j ≤ N ∧ v = s10 ∧ s40 = .int .i64 (j : Int) ∧ Hid (RwG 49 iL 2 b0 ((L.take j).map (repI t)) v w1 wr)) (fun _ s40 _ => N - (intOf s40).toNat)
    case atStart => exact ⟨0, _, Nat.zero_le _, rfl, rfl, HST⟩
    case round =>
      clear HST
      obtain ⟨j, v, hj, rfl, rfl, HG⟩ := hrel
      have HFW := Lib.hid (HF1.out.below (by rw [HB0.out]; exact HG.out.bl))
      have e0 := HFW.out.cell0 0 rfl; have e1 := HFW.out.cell0 1 rfl
      by_cases hjn : j < N
      · have hjn2 : (j : Int) < (N : Int) := by omega
        obtain ⟨E, hE⟩ : ∃ E, L[j]? = some E := ⟨_, List.getElem?_eq_getElem (by have := HN.out; omega)⟩
        obtain ⟨g, rfl, hg2, q0, q1⟩ := rowF_cell (HR.out.below HFW.out.be) hE
        have HTK := Lib.hid (rep_next (t := t) hE)
        have hlen : ((L.take j).map (repI t)).length ≤ 100 := by rw [List.length_map, List.length_take]; omega
        have hsz := HG.out.sz
        have HFX := Lib.hid (HFW.out.below (bel1 _ (.cells #[.string E.k, .int .u64 (E.x : Int)] 49)))
        have x0 := HFX.out.cell0 0 rfl; have x1 := HFX.out.cell0 1 rfl
        by_cases hid : E.k = t.k
        · have d : (E.k.toList == t.k.toList) = true := (keyEq _ _).trans (decide_eq_true hid)
          have htk := HTK.out
          rw [show repI t E = t from if_pos hid] at htk
          have HTK2 := Lib.hid htk
          have HR4 := Lib.hid ((HG.out.below (bel1 wr (.cells #[.string t.k, .int .u64 (t.x : Int)] 49))).below (bel1 _ (.cells #[.string t.k, .int .u64 (t.x : Int)] 49)))
          clear hE hg2 htk hid HTK
          go_wp2_with (at_builtin; refine wpList_append_own _ rfl _ _ 33 rfl b0 49 i0 (.agg #[.string ⟨#[]⟩, .int .u64 0]) 2 24 Tryz.underlying33 HI.out HZ0.out HZ1.out HZ2.out rfl (by decide) _ _ _ rfl HR4.out.ow ⟨_, 0, none⟩ 1 1 (iL t) rfl rfl (encG_new _ _ rfl (by simp)) (by simp [iL, Value.oneCell']) (by unfold maxLen; omega) (by omega) (by simp; omega) ?_; intro v' w6 hown' hgrow _)
          have HX : Hid (RwG 49 iL 2 b0 ((L.take (j + 1)).map (repI t)) v' w1 w6) := Lib.hid (by
            rw [HTK2.out]
            exact HR4.out.app t hgrow hown')
          clear hown' hgrow HG HR4
          go_wp2_with fail
          go_roundw
          case rel => exact ⟨j + 1, _, by omega, rfl, by go_num, HX⟩
          case measure => simp [intOf]; omega
        · have d : (E.k.toList == t.k.toList) = false := (keyEq _ _).trans (decide_eq_false hid)
          have htk := HTK.out
          rw [show repI t E = E from if_neg hid] at htk
          have HTK2 := Lib.hid htk
          have HR4 := Lib.hid ((HG.out.below (bel1 wr (.cells #[.string E.k, .int .u64 (E.x : Int)] 49))).below (bel1 _ (.cells #[.string E.k, .int .u64 (E.x : Int)] 49)))
          clear hE hg2 htk hid HTK
          go_wp2_with (at_builtin; refine wpList_append_own _ rfl _ _ 33 rfl b0 49 i0 (.agg #[.string ⟨#[]⟩, .int .u64 0]) 2 24 Tryz.underlying33 HI.out HZ0.out HZ1.out HZ2.out rfl (by decide) _ _ _ rfl HR4.out.ow ⟨_, 0, none⟩ 1 1 (iL E) rfl rfl (encG_new _ _ rfl (by simp)) (by simp [iL, Value.oneCell']) (by unfold maxLen; omega) (by omega) (by simp; omega) ?_; intro v' w6 hown' hgrow _)
          have HX : Hid (RwG 49 iL 2 b0 ((L.take (j + 1)).map (repI t)) v' w1 w6) := Lib.hid (by
            rw [HTK2.out]
            exact HR4.out.app E hgrow hown')
          clear hown' hgrow HG HR4
          go_wp2_with fail
          go_roundw
          case rel => exact ⟨j + 1, _, by omega, rfl, by go_num, HX⟩
          case measure => simp [intOf]; omega
      · have hjn2 : ¬ (j : Int) < (N : Int) := by omega
        have hw := HG.out
        rw [List.take_of_length_le (by have := HN.out; omega)] at hw
        have hrr : L.map (repI t) = R := by simpa using HRR.out
        rw [hrr] at hw
        obtain ⟨p', cap', rfl, h1, h3⟩ := hw.row iL_len
        have HRE := Lib.hid h3
        have HBW := Lib.hid HFW.out.be
        clear h1 h3 hw HG hrr
        go_wp2_with fail
        go_ret2
        exact ⟨p', cap', by rfl, HRE.out, HBW.out⟩
theorem rset22 (t : Itm) (hR : RowG 49 iL 2 p L w) (hl : L.length ≤ n) (hn : n ≤ 100) (hd : (L.map Itm.k).Nodup) (h9 : t.k.size ≤ 9223372036854775807) : Calls Tryz.prog 13 #[.slice p L.length cap, .int .i64 (n : Int), iV t] w (RTwo (setL L n t) (setC L n t) w) := by
  by_cases c0 : t.k.size = 0
  · have e : setC L n t = 17 := by unfold setC; rw [if_pos c0]
    rw [e, show setL L n t = L from by unfold setL; rw [if_neg (by rw [e]; decide)]]
    exact rset_empty t hR c0
  by_cases c1 : 16 < t.k.size
  · have e : setC L n t = 16 := by unfold setC; rw [if_neg c0, if_pos c1]
    rw [e, show setL L n t = L from by unfold setL; rw [if_neg (by rw [e]; decide)]]
    exact rset_long t hR c1 h9
  by_cases c2 : ixK L t.k < L.length
  · have e : setC L n t = 0 := by unfold setC; rw [if_neg c0, if_neg c1, if_pos c2]
    have h := rset_ok (cap := cap) (n := n) t hR (by omega) (by omega) (by omega) (.inl c2)
    rw [if_pos c2, rep_set hd (List.getElem?_eq_getElem c2) (ixK_get c2)] at h
    rw [e, show setL L n t = L.set (ixK L t.k) t from by unfold setL; rw [if_pos e, if_pos c2]]
    exact h
  by_cases c3 : L.length = n
  · have e : setC L n t = 10 := by unfold setC; rw [if_neg c0, if_neg c1, if_neg c2, if_pos c3]
    rw [e, show setL L n t = L from by unfold setL; rw [if_neg (by rw [e]; decide)]]
    exact rset_full t hR (by omega) (by omega) (by omega) c2 c3
  · have e : setC L n t = 0 := by unfold setC; rw [if_neg c0, if_neg c1, if_neg c2, if_neg c3]
    have h := rset_ok (cap := cap) (n := n) t hR (by omega) (by omega) (by omega) (.inr (by omega))
    rw [if_neg c2, rep_not fun x => c2 (ixK_mem.2 x)] at h
    rw [e, show setL L n t = L ++ [t] from by unfold setL; rw [if_pos e, if_neg c2]]
    exact h
end
end Go.Proofs.YtmnhpmgffhpoeaaGreat.Bt
