/- Several texts in one: CeC; DkB; DkC; DkD; DkE; DkF. -/
import Derived.Test.YtmnhpmgffhpoeaaGreatDuD
import Derived.Deep.Onto
import Derived.MapKept
import Derived.Laws.StructEq
/- A list of cleanups: All, find, Room. (Written by gen_cec.py.) -/
namespace Go.Proofs.YtmnhpmgffhpoeaaGreat.Bt
open Go Go.RowKit Go.Shelf
set_option linter.unusedVariables false
set_option linter.unusedSimpArgs false
def eL (e : Ent) : List Value := [.int .u64 (e.i : Int), .int .u8 (e.k : Int), .int .u8 (e.l : Int), .int .u64 (e.x : Int)]
theorem eL_len (e : Ent) : (eL e).length = 4 := rfl
theorem take_next {L : List Ent} {j : Nat} {e : Ent} (h : L[j]? = some e) : L.take (j + 1) = L.take j ++ [e] := by rw [List.take_add_one, h]; rfl
section
variable {A vs : Nat} {m : Nat → UInt8} {w : World} {L : List Ent}
end
end Go.Proofs.YtmnhpmgffhpoeaaGreat.Bt
/- Keys: all items. (Written by gen_dkb.py.) -/
namespace Go.Proofs.YtmnhpmgffhpoeaaGreat.Bt
open Go Go.RowKit Go.Shelf
set_option linter.unusedVariables false
set_option linter.unusedSimpArgs false
theorem keyEq (a b : ByteArray) : (a.toList == b.toList) = decide (a = b) := by
  rw [← beq_toListBytes, Bool.eq_iff_iff, MapKept.bytes_beq]; simp
theorem keyEmp {k : ByteArray} (h : ¬ k = ⟨#[]⟩) : k.toList.isEmpty = false := by
  cases e : k.toList.isEmpty with
  | false => rfl
  | true =>
    have h2 : (k.toList == (⟨#[]⟩ : ByteArray).toList) = true := by rw [List.isEmpty_iff.1 e]; rw [ByteArray.toList_eq]; rfl
    rw [keyEq] at h2
    exact absurd (of_decide_eq_true h2) h
def iL (t : Itm) : List Value := [.string t.k, .int .u64 (t.x : Int)]
theorem iL_len (t : Itm) : (iL t).length = 2 := rfl
theorem notItm : NotAr 39 := by unfold NotAr; decide
theorem Tryz.infoItm : (Tryz.prog.info? 39).map (fun i => (i.zero, i.size, i.bytes)) = some (some (.agg #[.string ⟨#[]⟩, .int .u64 0]), 2, 24) := by kernel_rfl
theorem RwG.mono {α : Type} {T : TypeId} {enc : α → List Value} {k b b0 : Nat} {L : List α} {v : Value} {x y z : World} (h : RwG T enc k b0 L v y z) (hb : b ≤ b0) (hx : Below b x y) : RwG T enc k b L v x z :=
  ⟨h.ow.mono hb, hx.trans (h.bl.mono hb), by have := h.sz; omega⟩
/-- a row of items that came anew, owned from base on -/
def RowI (b : Nat) (L : List Itm) (x : World) (e : Ending) (w' : World) : Prop := ∃ p cap, e = .returned (.slice p L.length cap) ∧ L.length ≤ cap ∧ (p = none → cap = 0) ∧ RwG 39 iL 2 b L (.slice p L.length cap) x w'
theorem rowI_cell {p : Option Addr} {L : List Itm} {w : World} (h : RowG 39 iL 2 p L w) {j : Nat} {t : Itm} (hj : L[j]? = some t) :
    ∃ g, p = some ⟨g, 0, none⟩ ∧ g < w.heap.size ∧ w.cell? ⟨g, j * 2, none⟩ = some (.string t.k) ∧ w.cell? ⟨g, j * 2 + 1, none⟩ = some (.int .u64 (t.x : Int)) := by
  obtain ⟨g, hp, hg, hc⟩ := h.cell hj
  exact ⟨g, hp, hg, hc 0 _ rfl, hc 1 _ rfl⟩
theorem takeI_next {L : List Itm} {j : Nat} {t : Itm} (h : L[j]? = some t) : L.take (j + 1) = L.take j ++ [t] := by rw [List.take_add_one, h]; rfl
theorem rdT_end {m : Nat → UInt8} {a : Nat} (h : m a = 0) : ∃ x, rdT m a = ⟨⟨#[]⟩, x⟩ := ⟨numV m (a + 24) 8, by unfold rdT; rw [h]; rfl⟩
section
variable {A vs : Nat} {m : Nat → UInt8} {w : World} {L : List Itm}
set_option maxRecDepth 100000 in
set_option maxHeartbeats 4000000 in
/-- all items -/
theorem kall (h : On A (cS m) w) (hv : vs ≤ 400) (hL : Ky m (vs / 32) L) : Calls Tryz.prog 17 #[vwV A 40 vs] w (RowI w.heap.size L w) := by
  obtain ⟨i0, hi, hz0, hz1, hz2⟩ := info_parts Tryz.infoItm
  have HI := Lib.hid hi; have HZ0 := Lib.hid hz0; have HZ1 := Lib.hid hz1; have HZ2 := Lib.hid hz2
  clear hi hz0 hz1 hz2
  have HSN := Lib.hid fun X (hX : On A (cS m) X) => kslots hX hv
  have HLO := Lib.hid fun X (hX : On A (cS m) X) i (hi : i < vs / 32) => kload hX hv i hi (by
    rcases Nat.lt_or_ge i L.length with c | c
    · have h2 := hL.rd i _ (List.getElem?_eq_getElem c)
      rw [h2.1.n]; exact h2.2.2.1
    · rw [hL.fin i c hi]; decide)
  obtain ⟨d, hd⟩ : ∃ d, vs / 32 = d := ⟨_, rfl⟩
  have hd17 : d ≤ 17 := by omega
  rw [hd] at HSN HLO hL
  have hld := hL.len
  have HL := Lib.hid hL
  have HO := Lib.hid h
  have HF := Lib.hid (And.intro (heap_new w (.cells (vwC A 40 vs) 30)) (bel1 w (.cells (vwC A 40 vs) 30)))
  clear hd h hL
  go_enter Tryz.func17, Tryz.ntmps17
  go_upto_region 2 with fail
  change Code.wp _ _ _ _ (w.alloc (.cells (vwC A 40 vs) 30))
  obtain ⟨y, hy⟩ : ∃ y, w.alloc (.cells (vwC A 40 vs) 30) = y := ⟨_, rfl⟩
  obtain ⟨C, hC⟩ : ∃ C, w.heap.size = C := ⟨_, rfl⟩
  have hf := HF.out
  have hcw := hf.2
  rw [hy] at hf hcw
  rw [hC] at hf
  rw [hy, hC]
  have HG : Hid (y.heap[C]? = some (.cells (vwC A 40 vs) 30 (0, 0)) ∧ Below w.heap.size w y) := Lib.hid ⟨hf.1, hcw⟩
  clear hy hC hf hcw HF
  have c0 := (cell_blk HG.out.1 0).1; have c1 := (cell_blk HG.out.1 1).1; have c2 := (cell_blk HG.out.1 2).1
  go_wp2_with fail
  refine (HSN.out _ (HO.out.below HG.out.2)).mono ?_
  rintro e w1 ⟨rfl, hb⟩
  have HG1 : Hid (w1.heap[C]? = some (.cells (vwC A 40 vs) 30 (0, 0)) ∧ Below w.heap.size w w1) := Lib.hid ⟨blk_at hb HG.out.1, HG.out.2.trans (hb.mono HG.out.2.size)⟩
  clear hb c0 c1 c2 HG HSN
  obtain ⟨b0, hb0⟩ : ∃ b0, w1.heap.size = b0 := ⟨_, rfl⟩
  have HCB : Hid (C < b0) := Lib.hid (by have := (Array.getElem?_eq_some_iff.1 HG1.out.1).1; omega)
  have HST := Lib.hid (RwG.start 39 iL 2 w1 hb0)
  have HB0 := Lib.hid hb0
  clear hb0
  go_wp2_with fail
  go_loopw [3, 8] (fun s3 s8 wr => ∃ (j : Nat) (v3 : Value), j ≤ L.length ∧ v3 = s3 ∧ s8 = .int .i64 (j : Int) ∧ Hid (RwG 39 iL 2 b0 (L.take j) v3 w1 wr)) (fun _ s8 _ => d - (intOf s8).toNat)
  case atStart => exact ⟨0, _, Nat.zero_le _, rfl, rfl, HST⟩
  case round =>
    clear HST
    obtain ⟨j, v3, hj, rfl, rfl, HR⟩ := hrel
    have hcr := (HR.out.bl.block _ HCB.out).trans HG1.out.1
    have HBW : Hid (Below w.heap.size w wr) := Lib.hid (HG1.out.2.trans (HR.out.bl.mono (by rw [← HB0.out]; exact HG1.out.2.size)))
    have HEND : j = L.length → Hid (∃ p cap, v3 = .slice p L.length cap ∧ L.length ≤ cap ∧ (p = none → cap = 0) ∧ RwG 39 iL 2 w.heap.size L (.slice p L.length cap) w wr) := fun e => Lib.hid (by
      have h1 := HR.out.mono (x := w) (b := w.heap.size) (by rw [← HB0.out]; exact HG1.out.2.size) HG1.out.2
      rw [e, List.take_length] at h1
      obtain ⟨p, cap, hp, h2, h3, _⟩ := h1.row2 iL_len
      rw [hp] at h1
      exact ⟨p, cap, hp, h2, h3, h1⟩)
    by_cases hjn : j < d
    · have hjn2 : (j : Int) < (d : Int) := by omega
      have c0 := (cell_blk hcr 0).1; have c1 := (cell_blk hcr 1).1; have c2 := (cell_blk hcr 2).1
      have HLJ := Lib.hid fun X (hX : On A (cS m) X) => HLO.out X hX j hjn
      by_cases hjl : j < L.length
      · obtain ⟨E, hE⟩ : ∃ E, L[j]? = some E := ⟨_, List.getElem?_eq_getElem hjl⟩
        have hrd := HL.out.rd j E hE
        rw [hrd.1.tell] at HLJ
        have hz : ¬ (E.k = ⟨#[]⟩) := fun e => by have := hrd.2.1; rw [e] at this; exact absurd this (by decide)
        have hz2 : E.k.toList.isEmpty = false := keyEmp hz
        have HTK := Lib.hid (takeI_next hE)
        have hlen : (L.take j).length ≤ 17 := by rw [List.length_take]; omega
        have HLEN := Lib.hid hlen
        clear hE hrd hcr hlen HEND hz
        go_wp2_with fail
        refine (HLJ.out _ (HO.out.below HBW.out)).mono ?_
        rintro e w2 ⟨rfl, hb⟩
        have HR2 := Lib.hid (HR.out.below hb)
        have HR4 := Lib.hid ((HR2.out.below (bel1 w2 (.cells #[.string E.k, .int .u64 (E.x : Int)] 39))).below (bel1 _ (.cells #[.string E.k, .int .u64 (E.x : Int)] 39)))
        have hsz := HR2.out.sz
        have hlen := HLEN.out
        clear hb c0 c1 c2
        go_wp2_with (at_builtin; refine wpList_append_own _ rfl _ _ 34 rfl b0 39 i0 (.agg #[.string ⟨#[]⟩, .int .u64 0]) 2 24 Tryz.underlying34 HI.out HZ0.out HZ1.out HZ2.out rfl (by decide) _ _ _ rfl HR4.out.ow ⟨_, 0, none⟩ 1 1 (iL E) rfl rfl (encG_new _ _ rfl (by simp)) (by simp [iL, Value.oneCell']) (by unfold maxLen; omega) (by omega) (by simp; omega) ?_; intro v' w6 hown' hgrow _)
        have HF : Hid (RwG 39 iL 2 b0 (L.take (j + 1)) v' w1 w6) := Lib.hid (by
          rw [HTK.out]
          exact HR4.out.app E hgrow hown')
        clear hown' hgrow HR HR2 HR4
        go_wp2_with fail
        go_roundw
        case rel => exact ⟨j + 1, _, by omega, rfl, by go_num, HF⟩
        case measure => simp [intOf]; omega
      · have hje : j = L.length := by omega
        obtain ⟨xz, hrd⟩ := rdT_end (HL.out.fin j (by omega) hjn)
        rw [hrd] at HLJ
        have HE := HEND hje
        obtain ⟨p, cap, rfl, hcap, hnil, hrow⟩ := HE.out
        have HRW := Lib.hid (And.intro hcap (And.intro hnil hrow))
        clear hrd hcr HEND HE hcap hnil hrow HR hje hjl
        go_wp2_with fail
        refine (HLJ.out _ (HO.out.below HBW.out)).mono ?_
        rintro e w2 ⟨rfl, hb⟩
        have HRW2 := Lib.hid (HRW.out.2.2.below hb)
        clear hb c0 c1 c2
        go_wp2_with fail
        go_ret
        exact ⟨p, cap, rfl, HRW.out.1, HRW.out.2.1, HRW2.out.below (bel1 _ _)⟩
    · have hje : j = L.length := by omega
      have hjn2 : ¬ (j : Int) < (d : Int) := by omega
      have HE := HEND hje
      obtain ⟨p, cap, rfl, hcap, hnil, hrow⟩ := HE.out
      have HRW := Lib.hid (And.intro hcap (And.intro hnil hrow))
      clear hcr HEND HE hcap hnil hrow HR hje
      go_wp2_with fail
      go_ret
      exact ⟨p, cap, rfl, HRW.out.1, HRW.out.2.1, HRW.out.2.2⟩
set_option maxHeartbeats 2000000 in
/-- none, where there is no list -/
theorem kall_nil (w : World) : Calls Tryz.prog 17 #[zvV] w (RowI w.heap.size [] w) := by
  have HSN := Lib.hid fun X => kslots_nil X
  have HF := Lib.hid (And.intro (heap_new w (.cells zvC 30)) (bel1 w (.cells zvC 30)))
  go_enter Tryz.func17, Tryz.ntmps17
  go_upto_region 2 with fail
  change Code.wp _ _ _ _ (w.alloc (.cells zvC 30))
  obtain ⟨y, hy⟩ : ∃ y, w.alloc (.cells zvC 30) = y := ⟨_, rfl⟩
  obtain ⟨C, hC⟩ : ∃ C, w.heap.size = C := ⟨_, rfl⟩
  have hf := HF.out
  have hcw := hf.2
  rw [hy] at hf hcw
  rw [hC] at hf
  rw [hy, hC]
  have HG : Hid (y.heap[C]? = some (.cells zvC 30 (0, 0)) ∧ Below w.heap.size w y) := Lib.hid ⟨hf.1, hcw⟩
  clear hy hC hf hcw HF
  have c0 := (cell_blk HG.out.1 0).1; have c1 := (cell_blk HG.out.1 1).1; have c2 := (cell_blk HG.out.1 2).1
  go_wp2_with fail
  refine (HSN.out _).mono ?_
  rintro e w1 ⟨rfl, hb⟩
  have HG1 : Hid (Below w.heap.size w w1) := Lib.hid (HG.out.2.trans (hb.mono HG.out.2.size))
  clear hb c0 c1 c2 HG HSN
  go_wp2_with fail
  go_loopw [3, 8] (fun s3 s8 wr => s3 = .slice none 0 0 ∧ s8 = .int .i64 0 ∧ wr = w1) (fun _ _ _ => 0)
  case atStart => exact ⟨rfl, rfl, rfl⟩
  case round =>
    obtain ⟨rfl, rfl, rfl⟩ := hrel
    go_wp2_with fail
    go_ret
    exact ⟨none, 0, rfl, Nat.le_refl _, fun _ => rfl, ⟨World.ownsRow_nil _ _ _ _, HG1.out, HG1.out.size⟩⟩
end
end Go.Proofs.YtmnhpmgffhpoeaaGreat.Bt
/- Keys: where one is. (Written by gen_dkc.py.) -/
namespace Go.Proofs.YtmnhpmgffhpoeaaGreat.Bt
open Go Go.RowKit Go.Shelf
set_option linter.unusedVariables false
set_option linter.unusedSimpArgs false
section
variable {A vs : Nat} {m : Nat → UInt8} {w : World} {L : List Itm}
/-- is it of that key -/
theorem kfind1 (F : Nat) (id : ByteArray) (hF : w.heap[F]? = some (.cells #[.string id] 9 (0, 0))) (e : Itm) (b : Bool) (hb : decide (e.k = id) = b) :
    Calls Tryz.prog 48 (#[iV e] ++ #[.pointer (some ⟨F, 0, none⟩)]) w (Gives (.bool b) w) := by
  have d : (e.k.toList == id.toList) = b := (keyEq _ _).trans hb
  have hF1 := blk_at (bel1 w (.cells #[.string e.k, .int .u64 (e.x : Int)] 39)) hF
  have c0 := (cell_blk hF1 0).1
  clear hb hF hF1
  go_enter Tryz.func48, Tryz.ntmps48
  go_wp2_with fail
  go_ret
  exact ⟨by rfl, bel1 _ _⟩
set_option maxHeartbeats 2000000 in
theorem kindex (p : Option Addr) (cap F : Nat) (id : ByteArray) (hR : RowG 39 iL 2 p L w) (hF : w.heap[F]? = some (.cells #[.string id] 9 (0, 0))) (hn : L.length ≤ 100) :
    Calls Tryz.prog 47 #[.slice p L.length cap, .func (.func 48) #[] #[.pointer (some ⟨F, 0, none⟩)]] w (Gives (.int .i64 (ixKV L id)) w) := by
  have eg : ∀ args w, (callFunc 48 args).run Tryz.prog w = .ok (.enter 48 args) w := enters_of Tryz.func48 (by kernel_rfl) rfl
  have HP := Lib.hid fun (X : World) (hX : Below w.heap.size w X) (e : Itm) (b : Bool) (hb : decide (e.k = id) = b) => kfind1 (w := X) F id (blk_at hX hF) e b hb
  have HR := Lib.hid hR
  obtain ⟨n, hnn⟩ : ∃ n, L.length = n := ⟨_, rfl⟩
  have HN := Lib.hid hnn
  rw [hnn] at hn
  rw [hnn]
  clear hR hF hnn
  go_enter Tryz.func47, Tryz.ntmps47
  go_wp2_with fail
  go_loopw [5, 8] (fun _ s8 wr => ∃ j : Nat, j ≤ n ∧ s8 = .int .i64 (j : Int) ∧ Hid (j ≤ ixK L id) ∧ Hid (Below w.heap.size w wr)) (fun _ s8 _ => n - (intOf s8).toNat)
  case atStart => exact ⟨0, Nat.zero_le _, rfl, Lib.hid (Nat.zero_le _), Lib.hid (Below.refl _ _)⟩
  case round =>
    obtain ⟨j, hj, rfl, HJ, HB⟩ := hrel
    by_cases hjn : j < n
    · have hjn2 : (j : Int) < (n : Int) := by omega
      obtain ⟨E, hE⟩ : ∃ E, L[j]? = some E := ⟨_, List.getElem?_eq_getElem (by have := HN.out; omega)⟩
      obtain ⟨g, rfl, hg, q0, q1⟩ := rowI_cell (HR.out.below HB.out) hE
      have HE := Lib.hid hE
      clear hE
      by_cases hid : E.k = id
      · have HX : Hid (ixKV L id = (j : Int)) := Lib.hid (by
          have h1 := ixK_at HE.out HJ.out hid
          unfold ixKV
          rw [h1, if_pos (by have := HN.out; omega)])
        have HPJ := Lib.hid fun X hX => HP.out X hX E true (by simp [hid])
        clear hid
        go_wp2_with (go_at_fn 48; refine (HPJ.out _ HB.out).mono ?_; rintro e w' ⟨rfl, hb'⟩)
        go_ret
        exact ⟨by rw [HX.out]; rfl, HB.out.trans (hb'.mono HB.out.size)⟩
      · have HX := Lib.hid (ixK_next HE.out HJ.out hid)
        have HPJ := Lib.hid fun X hX => HP.out X hX E false (by simp [hid])
        clear hid
        go_wp2_with (go_at_fn 48; refine (HPJ.out _ HB.out).mono ?_; rintro e w' ⟨rfl, hb'⟩)
        go_roundw
        case rel => exact ⟨j + 1, by omega, by go_num, HX, Lib.hid (HB.out.trans (hb'.mono HB.out.size))⟩
        case measure => simp [intOf]; omega
    · have hjn2 : ¬ (j : Int) < (n : Int) := by omega
      have HX : Hid (ixKV L id = -1) := Lib.hid (by
        unfold ixKV
        rw [if_neg (by have := HJ.out; have := HN.out; omega)])
      go_wp2_with fail
      go_ret
      exact ⟨by rw [HX.out]; rfl, HB.out⟩
/-- where the item of a key is -/
theorem kfind (p : Option Addr) (cap : Nat) (id : ByteArray) (hR : RowG 39 iL 2 p L w) (hn : L.length ≤ 100) :
    Calls Tryz.prog 28 #[.slice p L.length cap, .string id] w (Gives (.int .i64 (ixKV L id)) w) := by
  have HX := Lib.hid (kindex (w := w.alloc (.cells #[.string id] 9)) p cap w.heap.size id (hR.below (bel1 _ _)) (heap_new _ _) hn)
  clear hR hn
  go_enter Tryz.func28, Tryz.ntmps28
  go_wp2_with fail
  refine HX.out.mono ?_
  rintro e w1 ⟨rfl, hb⟩
  go_wp2_with fail
  go_ret
  exact ⟨rfl, (bel1 _ _).trans (hb.mono (by simp))⟩
end
end Go.Proofs.YtmnhpmgffhpoeaaGreat.Bt
/- Keys: one is set among others. (Written by gen_dkd.py.) -/
namespace Go.Proofs.YtmnhpmgffhpoeaaGreat.Bt
open Go Go.RowKit Go.Shelf
set_option linter.unusedVariables false
set_option linter.unusedSimpArgs false
theorem flI_set (L : List Itm) (i : Nat) (t u : Itm) (h : L[i]? = some u) (hk : u.k = t.k) : (flG iL L).set (i * 2 + 1) (.int .u64 (t.x : Int)) = flG iL (L.set i t) := by
  induction L generalizing i with
  | nil => simp at h
  | cons c l ih =>
    rcases i with _ | i
    · simp at h
      subst h
      show (iL c ++ flG iL l).set 1 _ = iL t ++ flG iL l
      simp [iL, hk]
    · show (iL c ++ flG iL l).set ((i + 1) * 2 + 1) _ = iL c ++ flG iL (l.set i t)
      rw [show (i + 1) * 2 + 1 = i * 2 + 1 + 1 + 1 by omega, ← ih i (by simpa using h)]
      rfl
theorem RwG.set {b : Nat} {L : List Itm} {g n cap : Nat} {x y : World} (h : RwG 39 iL 2 b L (.slice (some ⟨g, 0, none⟩) n cap) x y) (i : Nat) (t u : Itm) (hu : L[i]? = some u) (hk : u.k = t.k) :
    RwG 39 iL 2 b (L.set i t) (.slice (some ⟨g, 0, none⟩) n cap) x (y.setCell ⟨g, i * 2 + 1, none⟩ (.int .u64 (t.x : Int))) := by
  have hb := h.ge g n cap rfl
  have hn : n = L.length := by
    rcases h.ow.2 with ⟨e, _⟩ | ⟨g', cap', cur, e, _⟩
    · have := ((Value.slice.injEq _ _ _ _ _ _).mp e).1
      cases this
    · exact ((Value.slice.injEq _ _ _ _ _ _).mp e).2.1
  subst hn
  refine ⟨?_, h.bl.setCell hb _, Nat.le_trans h.sz (by simp [World.setCell])⟩
  have h2 := (h.ow.stored (i * 2 + 1) (.int .u64 (t.x : Int))).1
  rw [flI_set L i t u hu hk] at h2
  rw [List.length_set]
  exact h2
section
variable {A vs : Nat} {m : Nat → UInt8} {w x : World} {L : List Itm} {b n cap : Nat} {p : Option Addr}
/-- one without a key -/
theorem kset_empty (t : Itm) (h : t.k.size = 0) : Calls Tryz.prog 26 #[.slice p L.length cap, iV t, .int .i64 (n : Int)] w (Gives (.tuple #[.slice none 0 0, .int .i64 17]) w) := by
  have hz : t.k.toList.isEmpty = true := by
    rw [ByteArray.toList_eq]
    have : t.k.data.toList.length = 0 := by simpa using h
    rw [List.eq_nil_of_length_eq_zero this]; rfl
  clear h
  have HF0 := Lib.hid ((Fb.start w).new #[.string t.k, .int .u64 (t.x : Int)] 39)
  go_enter Tryz.func26, Tryz.ntmps26
  go_upto_region 1 with fail
  change Code.wp _ _ _ _ (w.alloc (.cells #[.string t.k, .int .u64 (t.x : Int)] 39))
  obtain ⟨y, hy⟩ : ∃ y, w.alloc (.cells #[.string t.k, .int .u64 (t.x : Int)] 39) = y := ⟨_, rfl⟩
  obtain ⟨B, hB⟩ : ∃ B, w.heap.size = B := ⟨_, rfl⟩
  have hf := HF0.out
  rw [hy, hB] at hf
  rw [hy, hB]
  have HF := Lib.hid hf
  clear hf HF0 hy hB
  have e0 := HF.out.cell0 0 rfl; have e1 := HF.out.cell0 1 rfl
  go_wp2_with fail
  go_ret2
  exact ⟨rfl, HF.out.be⟩
theorem keyNe {t : Itm} (h : 0 < t.k.size) : t.k.toList.isEmpty = false := keyEmp fun e => by rw [e] at h; exact absurd h (by decide)
/-- one of a long key -/
theorem kset_long (t : Itm) (h : 16 < t.k.size) (h9 : t.k.size ≤ 9223372036854775807) : Calls Tryz.prog 26 #[.slice p L.length cap, iV t, .int .i64 (n : Int)] w (Gives (.tuple #[.slice none 0 0, .int .i64 16]) w) := by
  have hz : t.k.toList.isEmpty = false := keyNe (by omega)
  have hg : (16 : Int) < (t.k.size : Int) := by omega
  clear h
  have HF0 := Lib.hid ((Fb.start w).new #[.string t.k, .int .u64 (t.x : Int)] 39)
  go_enter Tryz.func26, Tryz.ntmps26
  go_upto_region 1 with fail
  change Code.wp _ _ _ _ (w.alloc (.cells #[.string t.k, .int .u64 (t.x : Int)] 39))
  obtain ⟨y, hy⟩ : ∃ y, w.alloc (.cells #[.string t.k, .int .u64 (t.x : Int)] 39) = y := ⟨_, rfl⟩
  obtain ⟨B, hB⟩ : ∃ B, w.heap.size = B := ⟨_, rfl⟩
  have hf := HF0.out
  rw [hy, hB] at hf
  rw [hy, hB]
  have HF := Lib.hid hf
  clear hf HF0 hy hB
  have e0 := HF.out.cell0 0 rfl; have e1 := HF.out.cell0 1 rfl
  go_wp2_with fail
  go_ret2
  exact ⟨rfl, HF.out.be⟩
set_option maxHeartbeats 2000000 in
/-- one whose key is there -/
theorem kset_there (hR : RwG 39 iL 2 b L (.slice p L.length cap) x w) (hl : L.length ≤ 17) (t : Itm) (h0 : 0 < t.k.size) (h16 : t.k.size ≤ 16) (hi : ixK L t.k < L.length) :
    Calls Tryz.prog 26 #[.slice p L.length cap, iV t, .int .i64 (n : Int)] w (fun e w' => e = .returned (.tuple #[.slice p L.length cap, .int .i64 0]) ∧ RwG 39 iL 2 b (L.set (ixK L t.k) t) (.slice p L.length cap) x w') := by
  have hz : t.k.toList.isEmpty = false := keyNe h0
  have hg : ¬ (16 : Int) < (t.k.size : Int) := by omega
  have hg9 : t.k.size ≤ 9223372036854775807 := by omega
  have hx : ixKV L t.k = (ixK L t.k : Int) := by unfold ixKV; rw [if_pos hi]
  obtain ⟨U, hU⟩ : ∃ U, L[ixK L t.k]? = some U := ⟨_, List.getElem?_eq_getElem hi⟩
  have hUk : U.k = t.k := by
    have h1 := ixK_get hi
    rw [List.getElem?_eq_getElem hi] at hU
    rw [Option.some.inj hU] at h1
    exact h1
  obtain ⟨i, hii⟩ : ∃ i, ixK L t.k = i := ⟨_, rfl⟩
  rw [hii] at hx hU hi
  rw [hii]
  obtain ⟨N, hN⟩ : ∃ N, L.length = N := ⟨_, rfl⟩
  have HLN := Lib.hid hl
  have HN := Lib.hid hN
  have hiN : (i : Int) < (N : Int) := by omega
  have HX := Lib.hid hx
  have HU := Lib.hid (And.intro hU hUk)
  have HR := Lib.hid hR
  clear hl hx hU hUk hii hN hi hR h0 h16
  have HF0 := Lib.hid ((Fb.start w).new #[.string t.k, .int .u64 (t.x : Int)] 39)
  go_enter Tryz.func26, Tryz.ntmps26
  rw [HN.out]
  go_upto_region 1 with fail
  change Code.wp _ _ _ _ (w.alloc (.cells #[.string t.k, .int .u64 (t.x : Int)] 39))
  obtain ⟨y, hy⟩ : ∃ y, w.alloc (.cells #[.string t.k, .int .u64 (t.x : Int)] 39) = y := ⟨_, rfl⟩
  obtain ⟨B, hB⟩ : ∃ B, w.heap.size = B := ⟨_, rfl⟩
  have hf := HF0.out
  rw [hy, hB] at hf
  rw [hy, hB]
  have HF := Lib.hid hf
  clear hf HF0 hy hB
  have e0 := HF.out.cell0 0 rfl; have e1 := HF.out.cell0 1 rfl
  go_wp2_with fail
  have hFI := kfind (w := y) p cap t.k (((HR.out.below HF.out.be).row iL_len).elim fun p' h => h.elim fun c' h => by
    have e := (Value.slice.injEq _ _ _ _ _ _).mp h.1
    rw [e.1]; exact h.2.2) (by have := HLN.out; omega)
  rw [HX.out, HN.out] at hFI
  refine hFI.mono ?_
  clear hFI
  rintro e w2 ⟨rfl, hb⟩
  have HF2 := Lib.hid (HF.out.below hb)
  have HR2 := Lib.hid (HR.out.below HF2.out.be)
  clear hb HF e0 e1 HR
  have e0 := HF2.out.cell0 0 rfl; have e1 := HF2.out.cell0 1 rfl
  obtain ⟨g, hp, hg, q0, q1⟩ := rowI_cell (((HR2.out.row iL_len).elim fun p' h => h.elim fun c' h => by
    have e := (Value.slice.injEq _ _ _ _ _ _).mp h.1
    rw [e.1]; exact h.2.2) : RowG 39 iL 2 p L w2) HU.out.1
  subst hp
  have HR3 := Lib.hid (HR2.out.set i t U HU.out.1 HU.out.2)
  have hfr : w2.frozen? ⟨g, i * 2 + 1, none⟩ = false := by
    have h2 := HR2.out.ow
    exact h2.frozenAt (i * 2 + 1)
  go_wp2_with fail
  go_ret2
  refine ⟨by rfl, ?_⟩
  rw [← HN.out]
  exact HR3.out
/-- no room is left -/
theorem kset_full (hR : RwG 39 iL 2 b L (.slice p L.length cap) x w) (hl : L.length ≤ 17) (t : Itm) (h0 : 0 < t.k.size) (h16 : t.k.size ≤ 16) (hi : ¬ ixK L t.k < L.length) (hn : L.length = n) :
    Calls Tryz.prog 26 #[.slice p L.length cap, iV t, .int .i64 (n : Int)] w (Gives (.tuple #[.slice none 0 0, .int .i64 10]) w) := by
  have hz : t.k.toList.isEmpty = false := keyNe h0
  have hg : ¬ (16 : Int) < (t.k.size : Int) := by omega
  have hg9 : t.k.size ≤ 9223372036854775807 := by omega
  have hx : ixKV L t.k = -1 := by unfold ixKV; rw [if_neg hi]
  obtain ⟨N, hN⟩ : ∃ N, L.length = N := ⟨_, rfl⟩
  have HLN := Lib.hid hl
  have HN := Lib.hid hN
  have HX := Lib.hid hx
  have HR := Lib.hid hR
  have hNn : (N : Int) = (n : Int) := by omega
  clear hl hx hN hi hR h0 h16 hn
  have HF0 := Lib.hid ((Fb.start w).new #[.string t.k, .int .u64 (t.x : Int)] 39)
  go_enter Tryz.func26, Tryz.ntmps26
  rw [HN.out]
  go_upto_region 1 with fail
  change Code.wp _ _ _ _ (w.alloc (.cells #[.string t.k, .int .u64 (t.x : Int)] 39))
  obtain ⟨y, hy⟩ : ∃ y, w.alloc (.cells #[.string t.k, .int .u64 (t.x : Int)] 39) = y := ⟨_, rfl⟩
  obtain ⟨B, hB⟩ : ∃ B, w.heap.size = B := ⟨_, rfl⟩
  have hf := HF0.out
  rw [hy, hB] at hf
  rw [hy, hB]
  have HF := Lib.hid hf
  clear hf HF0 hy hB
  have e0 := HF.out.cell0 0 rfl; have e1 := HF.out.cell0 1 rfl
  go_wp2_with fail
  have hFI := kfind (w := y) p cap t.k (((HR.out.below HF.out.be).row iL_len).elim fun p' h => h.elim fun c' h => by
    have e := (Value.slice.injEq _ _ _ _ _ _).mp h.1
    rw [e.1]; exact h.2.2) (by have := HLN.out; omega)
  rw [HX.out, HN.out] at hFI
  refine hFI.mono ?_
  clear hFI
  rintro e w2 ⟨rfl, hb⟩
  have HF2 := Lib.hid (HF.out.below hb)
  have HR2 := Lib.hid (HR.out.below HF2.out.be)
  clear hb HF e0 e1 HR
  have e0 := HF2.out.cell0 0 rfl; have e1 := HF2.out.cell0 1 rfl
  go_wp2_with fail
  go_ret2
  exact ⟨by rfl, HF2.out.be⟩
set_option maxHeartbeats 4000000 in
/-- one more -/
theorem kset_app (hR : RwG 39 iL 2 b L (.slice p L.length cap) x w) (hl : L.length ≤ 17) (t : Itm) (h0 : 0 < t.k.size) (h16 : t.k.size ≤ 16) (hi : ¬ ixK L t.k < L.length) (hn : L.length ≠ n) :
    Calls Tryz.prog 26 #[.slice p L.length cap, iV t, .int .i64 (n : Int)] w (fun e w' => ∃ v, e = .returned (.tuple #[v, .int .i64 0]) ∧ RwG 39 iL 2 b (L ++ [t]) v x w') := by
  obtain ⟨i0, hi0, hz0, hz1, hz2⟩ := info_parts Tryz.infoItm
  have HI := Lib.hid hi0; have HZ0 := Lib.hid hz0; have HZ1 := Lib.hid hz1; have HZ2 := Lib.hid hz2
  clear hi0 hz0 hz1 hz2
  have hz : t.k.toList.isEmpty = false := keyNe h0
  have hg : ¬ (16 : Int) < (t.k.size : Int) := by omega
  have hg9 : t.k.size ≤ 9223372036854775807 := by omega
  have hx : ixKV L t.k = -1 := by unfold ixKV; rw [if_neg hi]
  obtain ⟨N, hN⟩ : ∃ N, L.length = N := ⟨_, rfl⟩
  have HLN := Lib.hid hl
  have HN := Lib.hid hN
  have HX := Lib.hid hx
  have HR := Lib.hid hR
  have hNn : ¬ (N : Int) = (n : Int) := by omega
  have hNn2 : ((N : Int) == (n : Int)) = false := by simpa using hNn
  clear hl hx hN hi hR h0 h16 hn
  have HF0 := Lib.hid ((Fb.start w).new #[.string t.k, .int .u64 (t.x : Int)] 39)
  go_enter Tryz.func26, Tryz.ntmps26
  rw [HN.out]
  go_upto_region 1 with fail
  change Code.wp _ _ _ _ (w.alloc (.cells #[.string t.k, .int .u64 (t.x : Int)] 39))
  obtain ⟨y, hy⟩ : ∃ y, w.alloc (.cells #[.string t.k, .int .u64 (t.x : Int)] 39) = y := ⟨_, rfl⟩
  obtain ⟨B, hB⟩ : ∃ B, w.heap.size = B := ⟨_, rfl⟩
  have hf := HF0.out
  rw [hy, hB] at hf
  rw [hy, hB]
  have HF := Lib.hid hf
  clear hf HF0 hy hB
  have e0 := HF.out.cell0 0 rfl; have e1 := HF.out.cell0 1 rfl
  go_wp2_with fail
  have hFI := kfind (w := y) p cap t.k (((HR.out.below HF.out.be).row iL_len).elim fun p' h => h.elim fun c' h => by
    have e := (Value.slice.injEq _ _ _ _ _ _).mp h.1
    rw [e.1]; exact h.2.2) (by have := HLN.out; omega)
  rw [HX.out, HN.out] at hFI
  refine hFI.mono ?_
  clear hFI
  rintro e w2 ⟨rfl, hb⟩
  have HF2 := Lib.hid (HF.out.below hb)
  have HR2 := Lib.hid (HR.out.below HF2.out.be)
  clear hb HF e0 e1 HR
  have e0 := HF2.out.cell0 0 rfl; have e1 := HF2.out.cell0 1 rfl
  have HR4 := Lib.hid (HR2.out.below (bel1 w2 (.cells #[.string t.k, .int .u64 (t.x : Int)] 39)))
  have hsz := HR2.out.sz
  have hlen := HLN.out
  have hln := HN.out
  rw [hln] at hlen
  have how := HR4.out.ow
  rw [hln] at how
  have HOW := Lib.hid how
  clear how hln
  go_wp2_with (at_builtin; refine wpList_append_own _ rfl _ _ 34 rfl b 39 i0 (.agg #[.string ⟨#[]⟩, .int .u64 0]) 2 24 Tryz.underlying34 HI.out HZ0.out HZ1.out HZ2.out rfl (by decide) _ _ _ rfl HOW.out ⟨_, 0, none⟩ 1 1 (iL t) rfl rfl (encG_new _ _ rfl (by simp)) (by simp [iL, Value.oneCell']) (by unfold maxLen; omega) (by omega) (by simp; omega) ?_; intro v' w6 hown' hgrow _)
  have HF6 : Hid (RwG 39 iL 2 b (L ++ [t]) v' x w6) := Lib.hid (HR4.out.app t (by rw [HN.out]; exact hgrow) (by rw [HN.out]; exact hown'))
  clear hown' hgrow
  go_wp2_with fail
  go_ret2
  exact ⟨v', rfl, HF6.out⟩
end
end Go.Proofs.YtmnhpmgffhpoeaaGreat.Bt
/- Keys: some are set. (Written by gen_dke.py.) -/
namespace Go.Proofs.YtmnhpmgffhpoeaaGreat.Bt
open Go Go.RowKit Go.Shelf
set_option linter.unusedVariables false
set_option linter.unusedSimpArgs false
def putsC (n : Nat) : List Itm → List Itm → Int
  | _, [] => 0
  | L, t :: ts => if setC L n t = 0 then putsC n (setL L n t) ts else setC L n t
def putsL (n : Nat) : List Itm → List Itm → List Itm
  | L, [] => L
  | L, t :: ts => if setC L n t = 0 then putsL n (setL L n t) ts else L
theorem putsC_cons {n : Nat} {L ts : List Itm} {t : Itm} (h : setC L n t = 0) : putsC n L (t :: ts) = putsC n (setL L n t) ts := by
  show (if setC L n t = 0 then _ else _) = _
  rw [if_pos h]
theorem putsL_cons {n : Nat} {L ts : List Itm} {t : Itm} (h : setC L n t = 0) : putsL n L (t :: ts) = putsL n (setL L n t) ts := by
  show (if setC L n t = 0 then _ else _) = _
  rw [if_pos h]
theorem putsC_stop {n : Nat} {L ts : List Itm} {t : Itm} (h : setC L n t ≠ 0) : putsC n L (t :: ts) = setC L n t := by
  show (if setC L n t = 0 then _ else _) = _
  rw [if_neg h]
theorem puts_ok (n : Nat) (T : List Itm) (hT : ∀ t ∈ T, t.x < 18446744073709551616) : ∀ L : List Itm, (∀ u ∈ L, u.ok) → L.length ≤ n → (∀ u ∈ putsL n L T, u.ok) ∧ L.length ≤ (putsL n L T).length ∧ (putsL n L T).length ≤ n := by
  induction T with
  | nil => intro L hL hn; exact ⟨hL, Nat.le_refl _, hn⟩
  | cons t ts ih =>
    intro L hL hn
    by_cases c : setC L n t = 0
    · rw [putsL_cons c]
      have h1 := set_len (t := t) hn
      have h2 := ih (fun u hu => hT u (List.mem_cons_of_mem _ hu)) (setL L n t) (set_ok hL (hT t (List.mem_cons_self ..))) h1.2
      exact ⟨h2.1, Nat.le_trans h1.1 h2.2.1, h2.2.2⟩
    · have e : putsL n L (t :: ts) = L := by
        show (if setC L n t = 0 then _ else _) = _
        rw [if_neg c]
      rw [e]; exact ⟨hL, Nat.le_refl _, hn⟩
theorem drop_next {α : Type} {T : List α} {j : Nat} {t : α} (h : T[j]? = some t) : T.drop j = t :: T.drop (j + 1) := by
  obtain ⟨h1, h2⟩ := List.getElem?_eq_some_iff.1 h
  rw [List.drop_eq_getElem_cons h1, h2]
/-- items in a row, wherever it begins -/
def ItsAt (w : World) (p : Option Addr) (T : List Itm) : Prop :=
  T = [] ∨ ∃ b off, p = some ⟨b, off, none⟩ ∧ b < w.heap.size ∧ ∀ i t, T[i]? = some t → w.cell? ⟨b, off + i * 2, none⟩ = some (.string t.k) ∧ w.cell? ⟨b, off + i * 2 + 1, none⟩ = some (.int .u64 (t.x : Int))
theorem ItsAt.below {w y : World} {p : Option Addr} {T : List Itm} (h : ItsAt w p T) (hb : Below w.heap.size w y) : ItsAt y p T := by
  rcases h with e | ⟨b, off, e, hl, hc⟩
  · exact .inl e
  · have k : ∀ j, y.cell? ⟨b, j, none⟩ = w.cell? ⟨b, j, none⟩ := fun j => World.cell?_of_block (hb.block _ hl)
    exact .inr ⟨b, off, e, Nat.lt_of_lt_of_le hl hb.size, fun i t ht => ⟨(k _).trans (hc i t ht).1, (k _).trans (hc i t ht).2⟩⟩
theorem ItsAt.cell {w : World} {p : Option Addr} {T : List Itm} (h : ItsAt w p T) {i : Nat} {t : Itm} (ht : T[i]? = some t) :
    ∃ b off, p = some ⟨b, off, none⟩ ∧ w.cell? ⟨b, off + i * 2, none⟩ = some (.string t.k) ∧ w.cell? ⟨b, off + i * 2 + 1, none⟩ = some (.int .u64 (t.x : Int)) := by
  rcases h with e | ⟨b, off, e, hl, hc⟩
  · rw [e] at ht; simp at ht
  · exact ⟨b, off, e, hc i t ht⟩
/-- what a set leaves -/
def SetP (b n : Nat) (L : List Itm) (t : Itm) (x w : World) (e : Ending) (w' : World) : Prop :=
  (setC L n t = 0 ∧ ∃ p cap, e = .returned (.tuple #[.slice p (setL L n t).length cap, .int .i64 0]) ∧ RwG 39 iL 2 b (setL L n t) (.slice p (setL L n t).length cap) x w') ∨
    (setC L n t ≠ 0 ∧ e = .returned (.tuple #[.slice none 0 0, .int .i64 (setC L n t)]) ∧ Below b x w')
section
variable {A vs : Nat} {m : Nat → UInt8} {w x : World} {L : List Itm} {b n cap : Nat} {p : Option Addr}
theorem kset (hR : RwG 39 iL 2 b L (.slice p L.length cap) x w) (hl : L.length ≤ 17) (t : Itm) (h9 : t.k.size ≤ 9223372036854775807) :
    Calls Tryz.prog 26 #[.slice p L.length cap, iV t, .int .i64 (n : Int)] w (SetP b n L t x w) := by
  have hbel : ∀ w', Below w.heap.size w w' → Below b x w' := fun w' hb => hR.bl.trans (hb.mono hR.sz)
  by_cases c0 : t.k.size = 0
  · have e : setC L n t = 17 := by unfold setC; rw [if_pos c0]
    refine (kset_empty (w := w) t c0).mono ?_
    rintro e1 w1 ⟨rfl, hb⟩
    exact .inr ⟨by rw [e]; decide, by rw [e], hbel _ hb⟩
  by_cases c1 : 16 < t.k.size
  · have e : setC L n t = 16 := by unfold setC; rw [if_neg c0, if_pos c1]
    refine (kset_long (w := w) t c1 h9).mono ?_
    rintro e1 w1 ⟨rfl, hb⟩
    exact .inr ⟨by rw [e]; decide, by rw [e], hbel _ hb⟩
  by_cases c2 : ixK L t.k < L.length
  · have e : setC L n t = 0 := by unfold setC; rw [if_neg c0, if_neg c1, if_pos c2]
    have e2 : setL L n t = L.set (ixK L t.k) t := by unfold setL; rw [if_pos e, if_pos c2]
    refine (kset_there (n := n) hR hl t (by omega) (by omega) c2).mono ?_
    rintro e1 w1 ⟨rfl, hr⟩
    refine .inl ⟨e, p, cap, ?_, ?_⟩
    · rw [e2, List.length_set]
    · rw [e2, List.length_set]; exact hr
  by_cases c3 : L.length = n
  · have e : setC L n t = 10 := by unfold setC; rw [if_neg c0, if_neg c1, if_neg c2, if_pos c3]
    refine (kset_full hR hl t (by omega) (by omega) c2 c3).mono ?_
    rintro e1 w1 ⟨rfl, hb⟩
    exact .inr ⟨by rw [e]; decide, by rw [e], hbel _ hb⟩
  · have e : setC L n t = 0 := by unfold setC; rw [if_neg c0, if_neg c1, if_neg c2, if_neg c3]
    have e2 : setL L n t = L ++ [t] := by unfold setL; rw [if_pos e, if_neg c2]
    refine (kset_app (n := n) hR hl t (by omega) (by omega) c2 c3).mono ?_
    rintro e1 w1 ⟨v, rfl, hr⟩
    obtain ⟨p', cap', rfl, h1, _, h2⟩ := hr.row2 iL_len
    refine .inl ⟨e, p', cap', ?_, ?_⟩
    · rw [e2]
    · rw [e2]; exact hr
theorem kput_nil (v : Value) : Calls Tryz.prog 7 #[zvV, v] w (Gives (.int .i64 1) w) := by
  have HF0 := Lib.hid ((Fb.start w).new zvC 30)
  go_enter Tryz.func7, Tryz.ntmps7
  go_upto_region 1 with fail
  change Code.wp _ _ _ _ (w.alloc (.cells zvC 30))
  obtain ⟨y, hy⟩ : ∃ y, w.alloc (.cells zvC 30) = y := ⟨_, rfl⟩
  obtain ⟨C, hC⟩ : ∃ C, w.heap.size = C := ⟨_, rfl⟩
  have hf := HF0.out
  rw [hy, hC] at hf
  rw [hy, hC]
  have HF := Lib.hid hf
  clear hy hC hf HF0
  have c0 := HF.out.cell0 0 rfl
  go_wp2_with fail
  go_ret
  exact ⟨rfl, HF.out.be⟩
set_option maxRecDepth 100000 in
set_option maxHeartbeats 8000000 in
/-- some are set -/
theorem kput (h : On A (cS m) w) (hv : vs ≤ 400) (hL : Ky m (vs / 32) L) (T : List Itm) (pa : Option Addr) (ca : Nat) (hT : ItsAt w pa T) (hTl : T.length ≤ 1000) (hTo : ∀ t ∈ T, t.k.size ≤ 9223372036854775807 ∧ t.x < 18446744073709551616) :
    Calls Tryz.prog 7 #[vwV A 40 vs, .slice pa T.length ca] w (Ret A (cS (if putsC (vs / 32) L T = 0 then stAll m (putsL (vs / 32) L T) (putsL (vs / 32) L T).length else m)) (.int .i64 (putsC (vs / 32) L T)) w) := by
  have HAL := Lib.hid fun X (hX : On A (cS m) X) => kall hX hv hL
  have HSN := Lib.hid fun X (hX : On A (cS m) X) => kslots hX hv
  have HSTO := Lib.hid fun (m' : Nat → UInt8) X (hX : On A (cS m') X) i (hi : i < vs / 32) (t : Itm) (ht : t.ok) => kstore hX hv i hi t ht
  obtain ⟨d, hd⟩ : ∃ d, vs / 32 = d := ⟨_, rfl⟩
  have hd17 : d ≤ 17 := by omega
  rw [hd] at HSN HSTO hL
  rw [hd]
  have HD := Lib.hid hd17
  have HLL := Lib.hid hL.len
  have HLO : Hid (∀ u ∈ L, u.ok) := Lib.hid fun u hu => by
    obtain ⟨i, hi, e⟩ := List.mem_iff_getElem.1 hu
    exact (hL.rd i u (by rw [List.getElem?_eq_getElem hi, e])).2
  have HT := Lib.hid hT
  have HTO := Lib.hid hTo
  obtain ⟨N, hN⟩ : ∃ N, T.length = N := ⟨_, rfl⟩
  have HN := Lib.hid hN
  rw [hN] at hTl
  rw [hN]
  have HTL := Lib.hid hTl
  have HO := Lib.hid h
  have HF0 := Lib.hid ((Fr.start A w).new h (vwC A 40 vs) 30 (by unfold NotAr; decide))
  have HOY := Lib.hid (h.below (bel1 w (.cells (vwC A 40 vs) 30)))
  have HBY := Lib.hid (bel1 w (.cells (vwC A 40 vs) 30))
  obtain ⟨cF, hcF⟩ : ∃ c, putsC d L T = c := ⟨_, rfl⟩
  obtain ⟨sF, hsF⟩ : ∃ s, cS (if putsC d L T = 0 then stAll m (putsL d L T) (putsL d L T).length else m) = s := ⟨_, rfl⟩
  have HCF := Lib.hid hcF
  have HSF := Lib.hid hsF
  rw [hsF, hcF]
  clear h hL hT hTo hN hTl hd hd17 hv hcF hsF
  go_enter Tryz.func7, Tryz.ntmps7
  go_upto_region 1 with fail
  change Code.wp _ _ _ _ (w.alloc (.cells (vwC A 40 vs) 30))
  obtain ⟨y, hy⟩ : ∃ y, w.alloc (.cells (vwC A 40 vs) 30) = y := ⟨_, rfl⟩
  obtain ⟨C, hC⟩ : ∃ C, w.heap.size = C := ⟨_, rfl⟩
  have hf := HF0.out
  have ho := HOY.out
  have hby := HBY.out
  rw [hy, hC] at hf
  rw [hy] at ho hby
  rw [hy, hC]
  have HF := Lib.hid hf
  clear HOY HBY
  have HOY := Lib.hid ho
  have HBY := Lib.hid hby
  clear hy hC hf HF0 ho hby
  have c0 := HF.out.cell0 0 rfl
  go_upto_region 3 with fail
  have HF3 := Lib.hid HF.out
  obtain ⟨b, hb⟩ : ∃ b, y.heap.size = b := ⟨_, rfl⟩
  have HB := Lib.hid hb
  have HWB : Hid (w.heap.size ≤ b) := Lib.hid (by have := HBY.out.size; omega)
  clear hb c0
  have HB0 := Lib.hid (show Below b y y.drew from (Below.refl _ _).drew)
  refine wp_region_held_drew (S := Fr A w [⟨C, vwC A 40 vs, 30⟩]) (by kernel_rfl) (HF.out.below HOY.out (Below.refl _ _).drew) (fun hHeld => ?_)
  refine wpAnyH_take (i := 0) (v := (vwV A 40 vs)) rfl (by kernel_rfl) (by kernel_rfl) (by kernel_rfl) (fun _ _ _ h => h) (Or.inl ⟨by rfl, fun X hS => ?_⟩) hHeld ?_
  · have s0 := hS.cell0 0 rfl; have s1 := hS.cell0 1 rfl; have s2 := hS.cell0 2 rfl
    go_simp
  try simp only [Act.put, List.getElem_toArray, List.getElem_cons_zero, List.getElem_cons_succ, List.setIfInBounds_toArray, List.set_cons_zero, List.set_cons_succ]
  refine wpAnyH_take (i := 2) (v := (vwV A 40 vs)) rfl (by kernel_rfl) (by kernel_rfl) (by kernel_rfl) (fun _ _ _ h => h) (Or.inl ⟨by rfl, fun X hS => ?_⟩) hHeld ?_
  · have s0 := hS.cell0 0 rfl; have s1 := hS.cell0 1 rfl; have s2 := hS.cell0 2 rfl
    go_simp
  try simp only [Act.put, List.getElem_toArray, List.getElem_cons_zero, List.getElem_cons_succ, List.setIfInBounds_toArray, List.set_cons_zero, List.set_cons_succ]
  refine wpAnyH_ready (rs := [1]) (by kernel_rfl) (by simp) (AllReadyH.cons rfl (fun K1 hK1 => ?_) AllReadyH.nil)
  go_simp
  refine (HAL.out _ (HOY.out.below (by rw [HB.out]; exact HB0.out))).mono ?_
  rintro e x1 ⟨p, cap, rfl, hcap, -, hr⟩
  have hdz : y.drew.heap.size = b := HB.out
  have HR1 : Hid (RwG 39 iL 2 b L (.slice p L.length cap) y x1) := Lib.hid (hr.mono (by omega) HB0.out)
  have hS1 := hHeld.below (HOY.out.below (by rw [HB.out]; exact HB0.out)) hr.bl
  clear hHeld hr hdz HAL hcap
  refine hK1.out _ _ hS1 (fun hHeld => ?_)
  clear hK1 hS1
  try simp only [Act.put, List.getElem_toArray, List.getElem_cons_zero, List.getElem_cons_succ, List.setIfInBounds_toArray, List.set_cons_zero, List.set_cons_succ]
  refine wpAnyH_ready (rs := [3]) (by kernel_rfl) (by simp) (AllReadyH.cons rfl (fun K2 hK2 => ?_) AllReadyH.nil)
  go_simp
  have hox : On A (cS m) x1 := HOY.out.below (by rw [HB.out]; exact HR1.out.bl)
  refine (HSN.out _ hox).mono ?_
  rintro e x2 ⟨rfl, hb⟩
  have HR2 := Lib.hid (HR1.out.below hb)
  have hS2 := hHeld.below hox hb
  clear hHeld hb HR1 HSN hox
  refine hK2.out _ _ hS2 (fun hHeld => ?_)
  clear hK2 hS2
  try simp only [Act.put, List.getElem_toArray, List.getElem_cons_zero, List.getElem_cons_succ, List.setIfInBounds_toArray, List.set_cons_zero, List.set_cons_succ]
  refine wpAnyH_take (i := 4) (v := (.slice p L.length cap)) rfl (by kernel_rfl) (by kernel_rfl) (by kernel_rfl) (fun _ _ _ h => h) (Or.inl ⟨by rfl, fun X hS => ?_⟩) hHeld ?_
  · skip
    go_simp
  try simp only [Act.put, List.getElem_toArray, List.getElem_cons_zero, List.getElem_cons_succ, List.setIfInBounds_toArray, List.set_cons_zero, List.set_cons_succ]
  refine wpAnyH_take (i := 5) (v := (.int .i64 (d : Int))) rfl (by kernel_rfl) (by kernel_rfl) (by kernel_rfl) (fun _ _ _ h => h) (Or.inl ⟨by rfl, fun X hS => ?_⟩) hHeld ?_
  · skip
    go_simp
  try simp only [Act.put, List.getElem_toArray, List.getElem_cons_zero, List.getElem_cons_succ, List.setIfInBounds_toArray, List.set_cons_zero, List.set_cons_succ]
  refine wpAnyH_done (by kernel_rfl) ?_ _
  have HF2 := Lib.hid hHeld
  clear hHeld HF HB0
  go_wp2_with fail
  go_loopw [5, 22] (fun s5 s22 wr => ∃ (j : Nat) (M : List Itm) (p : Option Addr) (cap : Nat), j ≤ N ∧ s5 = .slice p M.length cap ∧ s22 = .int .i64 (j : Int) ∧ Hid (putsC d L T = putsC d M (T.drop j) ∧ putsL d L T = putsL d M (T.drop j)) ∧ Hid ((∀ u ∈ M, u.ok) ∧ L.length ≤ M.length ∧ M.length ≤ d) ∧ Hid (RwG 39 iL 2 b M (.slice p M.length cap) y wr)) (fun _ s22 _ => N - (intOf s22).toNat)
  case atStart => exact ⟨0, L, p, cap, Nat.zero_le _, rfl, rfl, Lib.hid ⟨rfl, rfl⟩, Lib.hid ⟨HLO.out, Nat.le_refl _, HLL.out⟩, HR2⟩
  case round =>
    clear HR2 HF2
    obtain ⟨j, M, p, cap, hj, rfl, rfl, HP, HM, HR⟩ := hrel
    have HBR : Hid (Below w.heap.size w wr) := Lib.hid (HBY.out.trans (HR.out.bl.mono HWB.out))
    have htl := HTL.out
    by_cases hjn : j < N
    · have hjn2 : (j : Int) < (N : Int) := by omega
      obtain ⟨t, ht⟩ : ∃ t, T[j]? = some t := ⟨_, List.getElem?_eq_getElem (by have := HN.out; omega)⟩
      obtain ⟨g, off, rfl, q0, q1⟩ := (HT.out.below HBR.out).cell ht
      have HRS := Lib.hid fun X (hb : Below wr.heap.size wr X) => kset (w := X) (n := d) (HR.out.below hb) (by have := HM.out.2.2; have := HD.out; omega) t (HTO.out t (List.mem_of_getElem? ht)).1
      have HTE := Lib.hid ht
      clear ht
      go_wp2_with fail
      refine (HRS.out _ (bel1 wr _)).mono ?_
      rintro e1 w1 hset
      rcases hset with ⟨hc0, p2, cap2, rfl, hr2⟩ | ⟨hc0, rfl, hb2⟩
      · have HR1 := Lib.hid hr2
        have HC0 := Lib.hid hc0
        clear hr2 hc0 HRS q0 q1
        go_wp2_with fail
        go_roundw
        case rel =>
          have hdr := drop_next HTE.out
          refine ⟨j + 1, setL M d t, p2, cap2, by omega, rfl, by go_num, Lib.hid ⟨?_, ?_⟩, Lib.hid ⟨?_, ?_, ?_⟩, HR1⟩
          · rw [HP.out.1, hdr, putsC_cons HC0.out]
          · rw [HP.out.2, hdr, putsL_cons HC0.out]
          · exact set_ok HM.out.1 (HTO.out t (List.mem_of_getElem? HTE.out)).2
          · exact Nat.le_trans HM.out.2.1 (set_len HM.out.2.2).1
          · exact (set_len HM.out.2.2).2
        case measure => simp [intOf]; omega
      · have HC0 := Lib.hid hc0
        have hcc : putsC d L T = setC M d t := by rw [HP.out.1, drop_next HTE.out, putsC_stop hc0]
        obtain ⟨c, hc⟩ : ∃ c, setC M d t = c := ⟨_, rfl⟩
        rw [hc] at hcc hc0
        rw [hc]
        have hs2 : sF = cS m := by rw [← HSF.out, if_neg (by rw [hcc]; exact hc0)]
        have hc2 : cF = c := by rw [← HCF.out, hcc]
        subst hs2
        subst hc2
        have HB2 := Lib.hid hb2
        clear hb2 HRS q0 q1 hc hcc
        go_wp2_with fail
        go_ret
        refine ⟨rfl, ?_, ?_⟩
        · exact HOY.out.below (by rw [HB.out]; exact HB2.out)
        · exact (Went.of_below HO.out HBY.out).trans (Went.of_below HOY.out (by rw [HB.out]; exact HB2.out))
    · have hjn2 : ¬ (j : Int) < (N : Int) := by omega
      have HFIN : Hid (putsC d L T = 0 ∧ putsL d L T = M) := Lib.hid (by
        have e : T.drop j = [] := List.drop_eq_nil_iff.2 (by have := HN.out; omega)
        rw [HP.out.1, HP.out.2, e]
        exact ⟨rfl, rfl⟩)
      have HFR := Lib.hid ((HF3.out).below HOY.out (by rw [HB.out]; exact HR.out.bl))
      have HOR := Lib.hid (HOY.out.below (by rw [HB.out]; exact HR.out.bl))
      have HRO : Hid (RowG 39 iL 2 p M wr) := Lib.hid (((HR.out.row iL_len).elim fun p' h => h.elim fun c' h => by
        have e := (Value.slice.injEq _ _ _ _ _ _).mp h.1
        rw [e.1]; exact h.2.2))
      obtain ⟨K, hK⟩ : ∃ K, M.length = K := ⟨_, rfl⟩
      have HK := Lib.hid hK
      rw [hK]
      clear hK HP HR HBR
      go_wp2_with fail
      go_loopw [39] (fun s39 wq => ∃ i : Nat, i ≤ K ∧ s39 = .int .i64 (i : Int) ∧ Hid (On A (cS (stAll m M i)) wq ∧ Fr A w [⟨C, vwC A 40 vs, 30⟩] wq ∧ RowG 39 iL 2 p M wq)) (fun s39 _ => K - (intOf s39).toNat)
      case atStart => exact ⟨0, Nat.zero_le _, rfl, Lib.hid ⟨HOR.out, HFR.out, HRO.out⟩⟩
      case round =>
        obtain ⟨i, hi, rfl, HI⟩ := hrel
        have hk17 : K ≤ 17 := by have := HM.out.2.2; have := HK.out; have := HD.out; omega
        by_cases hik : i < K
        · have hik2 : (i : Int) < (K : Int) := by omega
          obtain ⟨t, ht⟩ : ∃ t, M[i]? = some t := ⟨_, List.getElem?_eq_getElem (by have := HK.out; omega)⟩
          obtain ⟨g, rfl, hg, q0, q1⟩ := rowI_cell HI.out.2.2 ht
          have HTE := Lib.hid ht
          have HST := Lib.hid fun X (hX : On A (cS (stAll m M i)) X) => HSTO.out _ X hX i (by have := HM.out.2.2; have := HK.out; omega) t (HM.out.1 t (List.mem_of_getElem? ht))
          have HFQ := Lib.hid (HI.out.2.1.below HI.out.1 (bel1 _ (.cells #[.string t.k, .int .u64 (t.x : Int)] 39)))
          have c0 := HFQ.out.cell0 0 rfl; have c1 := HFQ.out.cell0 1 rfl; have c2 := HFQ.out.cell0 2 rfl
          clear ht
          go_wp2_with fail
          have hob := HI.out.1.below (bel1 _ (.cells #[.string t.k, .int .u64 (t.x : Int)] 39))
          refine (HST.out _ hob).mono ?_
          rintro e1 w1 ⟨rfl, ho, hg1⟩
          have HI1 : Hid (On A (cS (stAll m M (i + 1))) w1 ∧ Fr A w [⟨C, vwC A 40 vs, 30⟩] w1 ∧ RowG 39 iL 2 (some ⟨g, 0, none⟩) M w1) := Lib.hid ⟨by rw [stAll_some m HTE.out]; exact ho, (HI.out.2.1.below HI.out.1 (bel1 _ _)).went hob hg1, (HI.out.2.2.below (bel1 _ _)).went notItm hob hg1⟩
          clear ho hg1 hob HST q0 q1 c0 c1 c2
          go_wp2_with fail
          go_roundw
          case rel => exact ⟨i + 1, by omega, by go_num, HI1⟩
          case measure => simp [intOf]; omega
        · have hik2 : ¬ (i : Int) < (K : Int) := by omega
          go_wp2_with fail
          go_ret
          have hs2 : sF = cS (stAll m M i) := by rw [← HSF.out, if_pos HFIN.out.1, HFIN.out.2, HK.out, show i = K by omega]
          have hc2 : cF = 0 := by rw [← HCF.out, HFIN.out.1]
          refine ⟨by rw [hc2]; rfl, ?_, HI.out.2.1.wt⟩
          rw [hs2]; exact HI.out.1
end
end Go.Proofs.YtmnhpmgffhpoeaaGreat.Bt
/- Keys: Get, Set, Drop. (Written by gen_dkf.py.) -/
namespace Go.Proofs.YtmnhpmgffhpoeaaGreat.Bt
open Go Go.RowKit Go.Shelf
set_option linter.unusedVariables false
set_option linter.unusedSimpArgs false
section
variable {A vs : Nat} {m : Nat → UInt8} {w : World} {L : List Itm}
theorem RowI.row {b : Nat} {x w' : World} {p : Option Addr} {cap : Nat} (h : RwG 39 iL 2 b L (.slice p L.length cap) x w') : RowG 39 iL 2 p L w' :=
  (h.row iL_len).elim fun p' h => h.elim fun c' h => by
    have e := (Value.slice.injEq _ _ _ _ _ _).mp h.1
    rw [e.1]; exact h.2.2
/-- what is told of a key -/
def getK (L : List Itm) (k : ByteArray) : Option Nat := (L[ixK L k]?).map Itm.x
def getX (L : List Itm) (k : ByteArray) : Nat := ((L[ixK L k]?).map Itm.x).getD 0
def getB (L : List Itm) (k : ByteArray) : Bool := decide (ixK L k < L.length)
set_option maxHeartbeats 2000000 in
/-- a key's number -/
theorem kget (h : On A (cS m) w) (hv : vs ≤ 400) (hL : Ky m (vs / 32) L) (k : ByteArray) : Calls Tryz.prog 14 #[vwV A 40 vs, .string k] w (Gives (.tuple #[.int .u64 (getX L k : Int), .bool (getB L k)]) w) := by
  have HAL := Lib.hid fun X (hX : On A (cS m) X) => kall hX hv hL
  have hln : L.length ≤ 17 := by have := hL.len; omega
  have HLN := Lib.hid hln
  have HO := Lib.hid h
  have HF0 := Lib.hid ((Fb.start w).new (vwC A 40 vs) 30)
  obtain ⟨gx, hgx⟩ : ∃ g, getX L k = g := ⟨_, rfl⟩
  obtain ⟨gb, hgb⟩ : ∃ g, getB L k = g := ⟨_, rfl⟩
  have HGX := Lib.hid hgx
  have HGB := Lib.hid hgb
  rw [hgx, hgb]
  clear hL h hv hln hgx hgb
  go_enter Tryz.func14, Tryz.ntmps14
  go_upto_region 1 with fail
  change Code.wp _ _ _ _ (w.alloc (.cells (vwC A 40 vs) 30))
  obtain ⟨y, hy⟩ : ∃ y, w.alloc (.cells (vwC A 40 vs) 30) = y := ⟨_, rfl⟩
  obtain ⟨C, hC⟩ : ∃ C, w.heap.size = C := ⟨_, rfl⟩
  have hf := HF0.out
  rw [hy, hC] at hf
  rw [hy, hC]
  have HF := Lib.hid hf
  clear hf HF0 hy hC
  have c0 := HF.out.cell0 0 rfl; have c1 := HF.out.cell0 1 rfl; have c2 := HF.out.cell0 2 rfl
  go_wp2_with fail
  refine (HAL.out _ (HO.out.below HF.out.be)).mono ?_
  rintro e w1 ⟨p, cap, rfl, hcap, -, hr⟩
  have HB1 := Lib.hid ((HF.out.be).trans (hr.bl.mono HF.out.be.size))
  have HR := Lib.hid (RowI.row hr)
  clear hr HF c0 c1 c2 HAL hcap
  go_wp2_with fail
  refine (kfind (w := w1) p cap k HR.out (by have := HLN.out; omega)).mono ?_
  rintro e w2 ⟨rfl, hb⟩
  have HB2 := Lib.hid (HB1.out.trans (hb.mono HB1.out.size))
  have HR2 := Lib.hid (HR.out.below hb)
  clear hb HR HB1
  by_cases hi : ixK L k < L.length
  · obtain ⟨t, ht⟩ : ∃ t, L[ixK L k]? = some t := ⟨_, List.getElem?_eq_getElem hi⟩
    have hx : ixKV L k = (ixK L k : Int) := by unfold ixKV; rw [if_pos hi]
    have hg : gx = t.x := by rw [← HGX.out]; unfold getX; rw [ht]; rfl
    have hgb : gb = true := by rw [← HGB.out]; unfold getB; exact decide_eq_true hi
    subst hg
    subst hgb
    obtain ⟨g, rfl, hgs, q0, q1⟩ := rowI_cell HR2.out ht
    rw [hx]
    obtain ⟨i, hii⟩ : ∃ i, ixK L k = i := ⟨_, rfl⟩
    rw [hii] at q0 q1 hi
    rw [hii]
    obtain ⟨N, hN⟩ : ∃ N, L.length = N := ⟨_, rfl⟩
    rw [hN] at hi
    rw [hN]
    have hi2 : (i : Int) < (N : Int) := by omega
    clear hx hii hN ht
    go_wp2_with fail
    go_ret2
    exact ⟨by rfl, HB2.out⟩
  · have hx : ixKV L k = -1 := by unfold ixKV; rw [if_neg hi]
    have hg : gx = 0 := by rw [← HGX.out]; unfold getX; rw [List.getElem?_eq_none (by omega)]; rfl
    have hgb : gb = false := by rw [← HGB.out]; unfold getB; exact decide_eq_false hi
    subst hg
    subst hgb
    rw [hx]
    clear hx hi
    go_wp2_with fail
    go_ret2
    exact ⟨by rfl, HB2.out⟩
/-- one is set -/
theorem kset1 (h : On A (cS m) w) (hv : vs ≤ 400) (hL : Ky m (vs / 32) L) (k : ByteArray) (x : Nat) (hk : k.size ≤ 9223372036854775807) (hx : x < 18446744073709551616) :
    Calls Tryz.prog 12 #[vwV A 40 vs, .string k, .int .u64 (x : Int)] w (Ret A (cS (if putsC (vs / 32) L [⟨k, x⟩] = 0 then stAll m (putsL (vs / 32) L [⟨k, x⟩]) (putsL (vs / 32) L [⟨k, x⟩]).length else m)) (.int .i64 (putsC (vs / 32) L [⟨k, x⟩])) w) := by
  have HP := Lib.hid fun X (hX : On A (cS m) X) (pa : Option Addr) (hT : ItsAt X pa [⟨k, x⟩]) => kput hX hv hL [⟨k, x⟩] pa 1 hT (by simp) (fun t ht => by rw [List.mem_singleton.1 ht]; exact ⟨hk, hx⟩)
  obtain ⟨c, hc⟩ : ∃ c, putsC (vs / 32) L [⟨k, x⟩] = c := ⟨_, rfl⟩
  obtain ⟨s, hs⟩ : ∃ s, cS (if putsC (vs / 32) L [⟨k, x⟩] = 0 then stAll m (putsL (vs / 32) L [⟨k, x⟩]) (putsL (vs / 32) L [⟨k, x⟩]).length else m) = s := ⟨_, rfl⟩
  rw [hs, hc] at HP
  rw [hs, hc]
  have HO := Lib.hid h
  have HF0 := Lib.hid ((Fb.start w).new (vwC A 40 vs) 30)
  clear hL h hv hc hs
  go_enter Tryz.func12, Tryz.ntmps12
  go_upto_region 1 with fail
  change Code.wp _ _ _ _ (w.alloc (.cells (vwC A 40 vs) 30))
  obtain ⟨y, hy⟩ : ∃ y, w.alloc (.cells (vwC A 40 vs) 30) = y := ⟨_, rfl⟩
  obtain ⟨C, hC⟩ : ∃ C, w.heap.size = C := ⟨_, rfl⟩
  have hf := HF0.out
  rw [hy, hC] at hf
  rw [hy, hC]
  have HF := Lib.hid hf
  clear hf HF0 hy hC
  have c0 := HF.out.cell0 0 rfl; have c1 := HF.out.cell0 1 rfl; have c2 := HF.out.cell0 2 rfl
  go_wp2_with fail
  have hb2 := bel1 y (.cells #[.string k, .int .u64 (x : Int)] 39)
  have hby := HF.out.be.trans (hb2.mono HF.out.be.size)
  have ho1 := HO.out.below hby
  have hrow : ItsAt (y.alloc (.cells #[.string k, .int .u64 (x : Int)] 39)) (some ⟨y.heap.size, 0, none⟩) [⟨k, x⟩] := .inr ⟨y.heap.size, 0, rfl, by simp, fun i t ht => by
    rcases i with _ | i
    · simp at ht
      subst ht
      exact ⟨(cell_blk (heap_new y _) 0).1, (cell_blk (heap_new y _) 1).1⟩
    · simp at ht⟩
  refine (HP.out _ ho1 _ hrow).mono ?_
  rintro e w1 ⟨rfl, ho, hg⟩
  have HG := Lib.hid ((Went.of_below HO.out hby).trans hg)
  have HO1 := Lib.hid ho
  clear ho hg hby hb2 ho1 hrow HF c0 c1 c2 HP
  go_wp2_with fail
  go_ret
  exact ⟨rfl, HO1.out, HG.out⟩
/-- none is gone -/
theorem kdrop_none (h : On A (cS m) w) (hv : vs ≤ 400) (hL : Ky m (vs / 32) L) (k : ByteArray) (hi : ¬ ixK L k < L.length) : Calls Tryz.prog 10 #[vwV A 40 vs, .string k] w (Gives (.int .i64 8) w) := by
  have HAL := Lib.hid fun X (hX : On A (cS m) X) => kall hX hv hL
  have hln : L.length ≤ 17 := by have := hL.len; omega
  have HLN := Lib.hid hln
  have hx : ixKV L k = -1 := by unfold ixKV; rw [if_neg hi]
  have HX := Lib.hid hx
  have HO := Lib.hid h
  have HF0 := Lib.hid ((Fb.start w).new (vwC A 40 vs) 30)
  clear hL h hv hln hx hi
  go_enter Tryz.func10, Tryz.ntmps10
  go_upto_region 1 with fail
  change Code.wp _ _ _ _ (w.alloc (.cells (vwC A 40 vs) 30))
  obtain ⟨y, hy⟩ : ∃ y, w.alloc (.cells (vwC A 40 vs) 30) = y := ⟨_, rfl⟩
  obtain ⟨C, hC⟩ : ∃ C, w.heap.size = C := ⟨_, rfl⟩
  have hf := HF0.out
  rw [hy, hC] at hf
  rw [hy, hC]
  have HF := Lib.hid hf
  clear hf HF0 hy hC
  have c0 := HF.out.cell0 0 rfl; have c1 := HF.out.cell0 1 rfl; have c2 := HF.out.cell0 2 rfl
  go_wp2_with fail
  refine (HAL.out _ (HO.out.below HF.out.be)).mono ?_
  rintro e w1 ⟨p, cap, rfl, hcap, -, hr⟩
  have HB1 := Lib.hid ((HF.out.be).trans (hr.bl.mono HF.out.be.size))
  have HR := Lib.hid (RowI.row hr)
  clear hr HF c0 c1 c2 HAL hcap
  go_wp2_with fail
  refine (kfind (w := w1) p cap k HR.out (by have := HLN.out; omega)).mono ?_
  rw [HX.out]
  rintro e w2 ⟨rfl, hb⟩
  have HB2 := Lib.hid (HB1.out.trans (hb.mono HB1.out.size))
  clear hb HR HB1
  go_wp2_with fail
  go_ret
  exact ⟨rfl, HB2.out⟩
theorem kdrop_nil (k : ByteArray) : Calls Tryz.prog 10 #[zvV, .string k] w (Gives (.int .i64 1) w) := by
  have HF0 := Lib.hid ((Fb.start w).new zvC 30)
  go_enter Tryz.func10, Tryz.ntmps10
  go_upto_region 1 with fail
  change Code.wp _ _ _ _ (w.alloc (.cells zvC 30))
  obtain ⟨y, hy⟩ : ∃ y, w.alloc (.cells zvC 30) = y := ⟨_, rfl⟩
  obtain ⟨C, hC⟩ : ∃ C, w.heap.size = C := ⟨_, rfl⟩
  have hf := HF0.out
  rw [hy, hC] at hf
  rw [hy, hC]
  have HF := Lib.hid hf
  clear hf HF0 hy hC
  have c0 := HF.out.cell0 0 rfl
  go_wp2_with fail
  go_ret
  exact ⟨rfl, HF.out.be⟩
set_option maxHeartbeats 4000000 in
/-- one is gone -/
theorem kdrop_one (h : On A (cS m) w) (hv : vs ≤ 400) (hL : Ky m (vs / 32) L) (k : ByteArray) (hi : ixK L k < L.length) : Calls Tryz.prog 10 #[vwV A 40 vs, .string k] w (Ret A (cS (rmT m (ixK L k) L.length)) (.int .i64 0) w) := by
  have HAL := Lib.hid fun X (hX : On A (cS m) X) => kall hX hv hL
  have hn := hL.len
  have hx : ixKV L k = (ixK L k : Int) := by unfold ixKV; rw [if_pos hi]
  obtain ⟨i, hii⟩ : ∃ i, ixK L k = i := ⟨_, rfl⟩
  obtain ⟨n, hN⟩ : ∃ n, L.length = n := ⟨_, rfl⟩
  rw [hii] at hx hi
  rw [hN] at hi hn
  rw [hii, hN]
  have HX := Lib.hid hx
  have HN := Lib.hid hN
  have e1 : addrV 40 vs ((i : Int) * 32) (((n : Int) - 1 - (i : Int)) * 32) = ((40 + 32 * i : Nat) : Int) := by rw [addr_in (by omega)]; push_cast; omega
  have e2 : addrV 40 vs (((i : Int) + 1) * 32) (((n : Int) - 1 - (i : Int)) * 32) = ((40 + 32 * (i + 1) : Nat) : Int) := by rw [addr_in (by omega)]; push_cast; omega
  have e3 : addrV 40 vs (((n : Int) - 1) * 32) 32 = ((40 + 32 * (n - 1) : Nat) : Int) := by rw [addr_in (by omega)]; omega
  have HC : Hid (∀ X, On A (cS m) X → Calls Tryz.prog 29 #[vwV A 40 vs, .int .i64 ((i : Int) * 32), .int .i64 (((i : Int) + 1) * 32), .int .i64 (((n : Int) - 1 - (i : Int)) * 32)] X (Ret A (cS (mvT m i n)) (.int .i64 0) X)) := Lib.hid fun X hX => by
    have := on_copy hX 40 vs (by omega) (by omega) ((i : Int) * 32) (((i : Int) + 1) * 32) (((n : Int) - 1 - (i : Int)) * 32) (by omega) (by omega)
    have ce : copyE (cS m) ((40 + 32 * i : Nat) : Int) ((40 + 32 * (i + 1) : Nat) : Int) (((n : Int) - 1 - (i : Int)) * 32) = 0 := by
      unfold copyE
      rw [cS_there (by omega) (by omega) (by omega), if_neg (by simp), if_neg (by omega), cS_there (by omega) (by omega) (by omega)]
    have cs : copyS (cS m) ((40 + 32 * i : Nat) : Int) ((40 + 32 * (i + 1) : Nat) : Int) (((n : Int) - 1 - (i : Int)) * 32) = cS (mvT m i n) := by
      unfold copyS
      rw [ce, if_pos rfl, if_neg (by omega), Int.toNat_natCast, Int.toNat_natCast, show ((((n : Int) - 1 - (i : Int)) * 32).toNat) = 32 * (n - 1 - i) by omega]
      rfl
    rw [e1, e2, ce, cs] at this
    exact this
  have HFI : Hid (∀ X, On A (cS (mvT m i n)) X → Calls Tryz.prog 30 #[vwV A 40 vs, .int .i64 (((n : Int) - 1) * 32), .int .i64 32, .int .u8 0] X (Ret A (cS (rmT m i n)) (.int .i64 0) X)) := Lib.hid fun X hX => by
    have := on_fill hX 40 vs (by omega) (by omega) (((n : Int) - 1) * 32) 32 (by omega) 0
    have te : thereE (cS (mvT m i n)).L (cS (mvT m i n)).es ((40 + 32 * (n - 1) : Nat) : Int) 32 = 0 := cS_there (by omega) (by omega) (by omega)
    have fs : fillS (cS (mvT m i n)) ((40 + 32 * (n - 1) : Nat) : Int) 32 0 = cS (rmT m i n) := by
      unfold fillS
      rw [te, if_pos rfl, Int.toNat_natCast]
      rfl
    rw [e3, te, fs] at this
    exact this
  have hb1 : (i : Int) + 1 ≤ (n : Int) := by omega
  have hb2 : (n : Int) ≤ 17 := by omega
  have HB2 := Lib.hid hb2
  obtain ⟨sF, hsF⟩ : ∃ s, cS (rmT m i n) = s := ⟨_, rfl⟩
  rw [hsF] at HFI
  rw [hsF]
  have HOY := Lib.hid (h.below (bel1 w (.cells (vwC A 40 vs) 30)))
  have HF0 := Lib.hid ((Fr.start A w).new h (vwC A 40 vs) 30 (by unfold NotAr; decide))
  clear e1 e2 e3 hi hn hv hx hii hN hL h hsF
  go_enter Tryz.func10, Tryz.ntmps10
  go_upto_region 1 with fail
  change Code.wp _ _ _ _ (w.alloc (.cells (vwC A 40 vs) 30))
  obtain ⟨y, hy⟩ : ∃ y, w.alloc (.cells (vwC A 40 vs) 30) = y := ⟨_, rfl⟩
  obtain ⟨C, hC⟩ : ∃ C, w.heap.size = C := ⟨_, rfl⟩
  have hf := HF0.out
  have ho := HOY.out
  rw [hy] at ho
  rw [hy, hC] at hf
  rw [hy, hC]
  have HF := Lib.hid hf
  clear HOY
  have HOY := Lib.hid ho
  clear hf HF0 hy hC ho
  have c0 := HF.out.cell0 0 rfl; have c1 := HF.out.cell0 1 rfl; have c2 := HF.out.cell0 2 rfl
  go_wp2_with fail
  refine (HAL.out _ HOY.out).mono ?_
  rintro e w1 ⟨p, cap, rfl, hcap, -, hr⟩
  have HF1 := Lib.hid (And.intro (HF.out.below HOY.out hr.bl) (HOY.out.below hr.bl))
  have HR := Lib.hid (RowI.row hr)
  clear hr HF c0 c1 c2 HAL hcap HOY
  rw [HN.out]
  go_wp2_with fail
  have HFD := Lib.hid (kfind (w := w1) p cap k HR.out (by have := HN.out; have := HB2.out; omega))
  rw [HX.out, HN.out] at HFD
  refine HFD.out.mono ?_
  rintro e w2 ⟨rfl, hb⟩
  have HF2 := Lib.hid (And.intro (HF1.out.1.below HF1.out.2 hb) (HF1.out.2.below hb))
  clear hb HF1 HR HFD
  have c0 := HF2.out.1.cell0 0 rfl; have c1 := HF2.out.1.cell0 1 rfl; have c2 := HF2.out.1.cell0 2 rfl
  go_wp2_with fail
  refine (HC.out _ HF2.out.2).mono ?_
  rintro e w3 ⟨rfl, ho, hg⟩
  have HF3 := Lib.hid (And.intro (HF2.out.1.went HF2.out.2 hg) ho)
  clear ho hg HF2 c0 c1 c2 HC
  have c0 := HF3.out.1.cell0 0 rfl; have c1 := HF3.out.1.cell0 1 rfl; have c2 := HF3.out.1.cell0 2 rfl
  go_wp2_with fail
  refine (HFI.out _ HF3.out.2).mono ?_
  rintro e w4 ⟨rfl, ho, hg⟩
  have HF4 := Lib.hid (And.intro (HF3.out.1.went HF3.out.2 hg) ho)
  clear ho hg HF3 c0 c1 c2 HFI
  go_wp2_with fail
  go_ret
  exact ⟨rfl, HF4.out.2, HF4.out.1.wt⟩
end
end Go.Proofs.YtmnhpmgffhpoeaaGreat.Bt
