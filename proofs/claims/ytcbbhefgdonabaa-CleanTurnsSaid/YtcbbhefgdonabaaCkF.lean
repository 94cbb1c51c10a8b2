/- Several texts in one: CeC; CeD; CeE. -/
import Derived.Test.YtcbbhefgdonabaaCkE
/- A list of cleanups: All, find, Room. (Written by gen_cec.py.) -/
namespace Go.Proofs.Ytcbbhefgdonabaa.Bt
open Go Go.RowKit Go.Shelf
set_option linter.unusedVariables false
set_option linter.unusedSimpArgs false
def eL (e : Ent) : List Value := [.int .u64 (e.i : Int), .int .u8 (e.k : Int), .int .u8 (e.l : Int), .int .u64 (e.x : Int)]
theorem eL_len (e : Ent) : (eL e).length = 4 := rfl
theorem notEnt : NotAr 35 := by unfold NotAr; decide
theorem Try.infoEnt : (Try.prog.info? 35).map (fun i => (i.zero, i.size, i.bytes)) = some (some (.agg #[.int .u64 0, .int .u8 0, .int .u8 0, .int .u64 0]), 4, 24) := by kernel_rfl
/-- a row of entries that came anew -/
def RowE (L : List Ent) (w : World) (e : Ending) (w' : World) : Prop := ∃ p cap, e = .returned (.slice p L.length cap) ∧ L.length ≤ cap ∧ RowG 35 eL 4 p L w' ∧ Below w.heap.size w w'
theorem rowE_cell {p : Option Addr} {L : List Ent} {w : World} (h : RowG 35 eL 4 p L w) {j : Nat} {e : Ent} (hj : L[j]? = some e) :
    ∃ g, p = some ⟨g, 0, none⟩ ∧ g < w.heap.size ∧ w.cell? ⟨g, j * 4, none⟩ = some (.int .u64 (e.i : Int)) ∧ w.cell? ⟨g, j * 4 + 1, none⟩ = some (.int .u8 (e.k : Int)) ∧ w.cell? ⟨g, j * 4 + 2, none⟩ = some (.int .u8 (e.l : Int)) ∧ w.cell? ⟨g, j * 4 + 3, none⟩ = some (.int .u64 (e.x : Int)) := by
  obtain ⟨g, hp, hg, hc⟩ := h.cell hj
  exact ⟨g, hp, hg, hc 0 _ rfl, hc 1 _ rfl, hc 2 _ rfl, hc 3 _ rfl⟩
theorem take_next {L : List Ent} {j : Nat} {e : Ent} (h : L[j]? = some e) : L.take (j + 1) = L.take j ++ [e] := by rw [List.take_add_one, h]; rfl
section
variable {A vs : Nat} {m : Nat → UInt8} {w : World} {L : List Ent}
set_option maxRecDepth 100000 in
set_option maxHeartbeats 4000000 in
/-- all entries -/
theorem call (h : On A (cS m) w) (hv : vs ≤ 400) (hL : Ls m (vs / 24) L) : Calls Try.prog 17 #[vwV A 40 vs] w (RowE L w) := by
  obtain ⟨i0, hi, hz0, hz1, hz2⟩ := info_parts Try.infoEnt
  have HI := Lib.hid hi; have HZ0 := Lib.hid hz0; have HZ1 := Lib.hid hz1; have HZ2 := Lib.hid hz2
  clear hi hz0 hz1 hz2
  have HSN := Lib.hid fun X (hX : On A (cS m) X) => cslots hX hv
  have HLO := Lib.hid fun X (hX : On A (cS m) X) i (hi : i < vs / 24) => cload hX hv i hi
  obtain ⟨d, hd⟩ : ∃ d, vs / 24 = d := ⟨_, rfl⟩
  have hd17 : d ≤ 17 := by omega
  rw [hd] at HSN HLO hL
  have hld := hL.len
  have HL := Lib.hid hL
  have HO := Lib.hid h
  have HF := Lib.hid (And.intro (heap_new w (.cells (vwC A 40 vs) 29)) (bel1 w (.cells (vwC A 40 vs) 29)))
  clear hd h hL
  go_enter Try.func17, Try.ntmps17
  go_upto_region 2 with fail
  change Code.wp _ _ _ _ (w.alloc (.cells (vwC A 40 vs) 29))
  obtain ⟨y, hy⟩ : ∃ y, w.alloc (.cells (vwC A 40 vs) 29) = y := ⟨_, rfl⟩
  obtain ⟨C, hC⟩ : ∃ C, w.heap.size = C := ⟨_, rfl⟩
  have hf := HF.out
  have hcw := hf.2
  rw [hy] at hf hcw
  rw [hC] at hf
  rw [hy, hC]
  have HG : Hid (y.heap[C]? = some (.cells (vwC A 40 vs) 29 (0, 0)) ∧ Below w.heap.size w y) := Lib.hid ⟨hf.1, hcw⟩
  clear hy hC hf hcw HF
  have c0 := (cell_blk HG.out.1 0).1; have c1 := (cell_blk HG.out.1 1).1; have c2 := (cell_blk HG.out.1 2).1
  go_wp2_with fail
  refine (HSN.out _ (HO.out.below HG.out.2)).mono ?_
  rintro e w1 ⟨rfl, hb⟩
  have HG1 : Hid (w1.heap[C]? = some (.cells (vwC A 40 vs) 29 (0, 0)) ∧ Below w.heap.size w w1) := Lib.hid ⟨blk_at hb HG.out.1, HG.out.2.trans (hb.mono HG.out.2.size)⟩
  clear hb c0 c1 c2 HG HSN
  obtain ⟨b0, hb0⟩ : ∃ b0, w1.heap.size = b0 := ⟨_, rfl⟩
  have HCB : Hid (C < b0) := Lib.hid (by have := (Array.getElem?_eq_some_iff.1 HG1.out.1).1; omega)
  have HST := Lib.hid (RwG.start 35 eL 4 w1 hb0)
  have HB0 := Lib.hid hb0
  clear hb0
  go_wp2_with fail
  go_loopw [3, 8] (fun s3 s8 wr => ∃ (j : Nat) (v3 : Value), j ≤ L.length ∧ v3 = s3 ∧ s8 = .int .i64 (j : Int) ∧ Hid (RwG 35 eL 4 b0 (L.take j) v3 w1 wr)) (fun _ s8 _ => d - (intOf s8).toNat)
  case atStart => exact ⟨0, _, Nat.zero_le _, rfl, rfl, HST⟩
  case round =>
    clear HST
    obtain ⟨j, v3, hj, rfl, rfl, HR⟩ := hrel
    have hcr := (HR.out.bl.block _ HCB.out).trans HG1.out.1
    have HBW : Hid (Below w.heap.size w wr) := Lib.hid (HG1.out.2.trans (HR.out.bl.mono (by rw [← HB0.out]; exact HG1.out.2.size)))
    have HEND : j = L.length → Hid (∃ p cap, v3 = .slice p L.length cap ∧ L.length ≤ cap ∧ RowG 35 eL 4 p L wr) := fun e => Lib.hid (by
      have := HR.out.row eL_len
      rw [e, List.take_length] at this
      exact this)
    by_cases hjn : j < d
    · have hjn2 : (j : Int) < (d : Int) := by omega
      have c0 := (cell_blk hcr 0).1; have c1 := (cell_blk hcr 1).1; have c2 := (cell_blk hcr 2).1
      have HLJ := Lib.hid fun X (hX : On A (cS m) X) => HLO.out X hX j hjn
      by_cases hjl : j < L.length
      · obtain ⟨E, hE⟩ : ∃ E, L[j]? = some E := ⟨_, List.getElem?_eq_getElem hjl⟩
        have hrd := HL.out.rd j E hE
        rw [hrd.1] at HLJ
        have hz : ¬ ((E.i : Int) = 0) := by have := hrd.2; omega
        have hz2 : ((E.i : Int) == 0) = false := by simpa using hz
        have HTK := Lib.hid (take_next hE)
        have hlen : (L.take j).length ≤ 17 := by rw [List.length_take]; omega
        have HLEN := Lib.hid hlen
        clear hE hrd hcr hlen HEND hz
        go_wp2_with fail
        refine (HLJ.out _ (HO.out.below HBW.out)).mono ?_
        rintro e w2 ⟨rfl, hb⟩
        have HR2 := Lib.hid (HR.out.below hb)
        have HR4 := Lib.hid ((HR2.out.below (bel1 w2 (.cells #[.int .u64 (E.i : Int), .int .u8 (E.k : Int), .int .u8 (E.l : Int), .int .u64 (E.x : Int)] 35))).below (bel1 _ (.cells #[.int .u64 (E.i : Int), .int .u8 (E.k : Int), .int .u8 (E.l : Int), .int .u64 (E.x : Int)] 35)))
        have hsz := HR2.out.sz
        have hlen := HLEN.out
        clear hb c0 c1 c2
        go_wp2_with (at_builtin; refine wpList_append_own _ rfl _ _ 53 rfl b0 35 i0 (.agg #[.int .u64 0, .int .u8 0, .int .u8 0, .int .u64 0]) 4 24 Try.underlying53 HI.out HZ0.out HZ1.out HZ2.out rfl (by decide) _ _ _ rfl HR4.out.ow ⟨_, 0, none⟩ 1 1 (eL E) rfl rfl (encG_new _ _ rfl (by simp)) (by simp [eL, Value.oneCell']) (by unfold maxLen; omega) (by omega) (by simp; omega) ?_; intro v' w6 hown' hgrow _)
        have HF : Hid (RwG 35 eL 4 b0 (L.take (j + 1)) v' w1 w6) := Lib.hid (by
          rw [HTK.out]
          exact HR4.out.app E hgrow hown')
        clear hown' hgrow HR HR2 HR4
        go_wp2_with fail
        go_roundw
        case rel => exact ⟨j + 1, _, by omega, rfl, by go_num, HF⟩
        case measure => simp [intOf]; omega
      · have hje : j = L.length := by omega
        have hrd := HL.out.fin j (by omega) hjn
        rw [hrd] at HLJ
        have HE := HEND hje
        obtain ⟨p, cap, rfl, hcap, hrow⟩ := HE.out
        have HRW := Lib.hid (And.intro hcap hrow)
        clear hrd hcr HEND HE hcap hrow HR hje hjl
        go_wp2_with fail
        refine (HLJ.out _ (HO.out.below HBW.out)).mono ?_
        rintro e w2 ⟨rfl, hb⟩
        have HRW2 := Lib.hid (And.intro HRW.out.1 (And.intro (HRW.out.2.below hb) (HBW.out.trans (hb.mono HBW.out.size))))
        clear hb c0 c1 c2
        unfold eZ
        go_wp2_with fail
        go_ret
        exact ⟨p, cap, rfl, HRW2.out.1, HRW2.out.2.1.below (bel1 _ _), HRW2.out.2.2.alloc HRW2.out.2.2.size _⟩
    · have hje : j = L.length := by omega
      have hjn2 : ¬ (j : Int) < (d : Int) := by omega
      have HE := HEND hje
      obtain ⟨p, cap, rfl, hcap, hrow⟩ := HE.out
      have HRW := Lib.hid (And.intro hcap hrow)
      clear hcr HEND HE hcap hrow HR hje
      go_wp2_with fail
      go_ret
      exact ⟨p, cap, rfl, HRW.out.1, HRW.out.2, HBW.out⟩
set_option maxHeartbeats 2000000 in
/-- none, where there is no list -/
theorem call_nil (w : World) : Calls Try.prog 17 #[zvV] w (RowE [] w) := by
  have HSN := Lib.hid fun X => cslots_nil X
  have HF := Lib.hid (And.intro (heap_new w (.cells zvC 29)) (bel1 w (.cells zvC 29)))
  go_enter Try.func17, Try.ntmps17
  go_upto_region 2 with fail
  change Code.wp _ _ _ _ (w.alloc (.cells zvC 29))
  obtain ⟨y, hy⟩ : ∃ y, w.alloc (.cells zvC 29) = y := ⟨_, rfl⟩
  obtain ⟨C, hC⟩ : ∃ C, w.heap.size = C := ⟨_, rfl⟩
  have hf := HF.out
  have hcw := hf.2
  rw [hy] at hf hcw
  rw [hC] at hf
  rw [hy, hC]
  have HG : Hid (y.heap[C]? = some (.cells zvC 29 (0, 0)) ∧ Below w.heap.size w y) := Lib.hid ⟨hf.1, hcw⟩
  clear hy hC hf hcw HF
  have c0 := (cell_blk HG.out.1 0).1; have c1 := (cell_blk HG.out.1 1).1; have c2 := (cell_blk HG.out.1 2).1
  go_wp2_with fail
  refine (HSN.out _).mono ?_
  rintro e w1 ⟨rfl, hb⟩
  have HG1 : Hid (Below w.heap.size w w1) := Lib.hid (HG.out.2.trans (hb.mono HG.out.2.size))
  clear hb c0 c1 c2 HG HSN
  go_wp2_with fail
  go_loopw [3, 8] (fun s3 s8 wr => s3 = .slice none 0 0 ∧ s8 = .int .i64 0 ∧ wr = w1) (fun _ _ _ => 0)
  case atStart => exact ⟨rfl, rfl, rfl⟩
  case round =>
    obtain ⟨rfl, rfl, rfl⟩ := hrel
    go_wp2_with fail
    go_ret
    exact ⟨none, 0, rfl, Nat.le_refl _, RowG.nil _ _ _ _ _, HG1.out⟩
/-- is it of that ID -/
theorem cfind1 (F id : Nat) (hF : w.heap[F]? = some (.cells #[.int .u64 (id : Int)] 33 (0, 0))) (e : Ent) (b : Bool) (hb : (e.i == id) = b) :
    Calls Try.prog 57 (#[eV e] ++ #[.pointer (some ⟨F, 0, none⟩)]) w (Gives (.bool b) w) := by
  have d : ((e.i : Int) == (id : Int)) = b := by rw [← hb, Bool.eq_iff_iff]; simp; omega
  have d2 : decide ((e.i : Int) = (id : Int)) = b := by rw [← hb, Bool.eq_iff_iff]; simp; omega
  have hF1 := blk_at (bel1 w (.cells #[.int .u64 (e.i : Int), .int .u8 (e.k : Int), .int .u8 (e.l : Int), .int .u64 (e.x : Int)] 35)) hF
  have c0 := (cell_blk hF1 0).1
  clear hb hF hF1
  go_enter Try.func57, Try.ntmps57
  go_wp2_with fail
  go_ret
  exact ⟨by rfl, bel1 _ _⟩
set_option maxHeartbeats 2000000 in
theorem cindex (p : Option Addr) (cap id F : Nat) (hR : RowG 35 eL 4 p L w) (hF : w.heap[F]? = some (.cells #[.int .u64 (id : Int)] 33 (0, 0))) (hn : L.length ≤ 100) :
    Calls Try.prog 56 #[.slice p L.length cap, .func (.func 57) #[] #[.pointer (some ⟨F, 0, none⟩)]] w (Gives (.int .i64 (ixV L id)) w) := by
  have eg : ∀ args w, (callFunc 57 args).run Try.prog w = .ok (.enter 57 args) w := enters_of Try.func57 (by kernel_rfl) rfl
  have HP := Lib.hid fun (X : World) (hX : Below w.heap.size w X) (e : Ent) (b : Bool) (hb : (e.i == id) = b) => cfind1 (w := X) F id (blk_at hX hF) e b hb
  have HR := Lib.hid hR
  obtain ⟨n, hnn⟩ : ∃ n, L.length = n := ⟨_, rfl⟩
  have HN := Lib.hid hnn
  rw [hnn] at hn
  rw [hnn]
  clear hR hF hnn
  go_enter Try.func56, Try.ntmps56
  go_wp2_with fail
  go_loopw [5, 8] (fun _ s8 wr => ∃ j : Nat, j ≤ n ∧ s8 = .int .i64 (j : Int) ∧ Hid (j ≤ ixE L id) ∧ Hid (Below w.heap.size w wr)) (fun _ s8 _ => n - (intOf s8).toNat)
  case atStart => exact ⟨0, Nat.zero_le _, rfl, Lib.hid (Nat.zero_le _), Lib.hid (Below.refl _ _)⟩
  case round =>
    obtain ⟨j, hj, rfl, HJ, HB⟩ := hrel
    by_cases hjn : j < n
    · have hjn2 : (j : Int) < (n : Int) := by omega
      obtain ⟨E, hE⟩ : ∃ E, L[j]? = some E := ⟨_, List.getElem?_eq_getElem (by have := HN.out; omega)⟩
      obtain ⟨g, rfl, hg, q0, q1, q2, q3⟩ := rowE_cell (HR.out.below HB.out) hE
      have HE := Lib.hid hE
      clear hE
      by_cases hid : E.i = id
      · have HX : Hid (ixV L id = (j : Int)) := Lib.hid (by
          have h1 := ixE_at HE.out HJ.out hid
          unfold ixV
          rw [h1, if_pos (by have := HN.out; omega)])
        have HPJ := Lib.hid fun X hX => HP.out X hX E true (by simp [hid])
        clear hid
        go_wp2_with (go_at_fn 57; refine (HPJ.out _ HB.out).mono ?_; rintro e w' ⟨rfl, hb'⟩)
        go_ret
        exact ⟨by rw [HX.out]; rfl, HB.out.trans (hb'.mono HB.out.size)⟩
      · have HX := Lib.hid (ixE_next HE.out HJ.out hid)
        have HPJ := Lib.hid fun X hX => HP.out X hX E false (by simp [hid])
        clear hid
        go_wp2_with (go_at_fn 57; refine (HPJ.out _ HB.out).mono ?_; rintro e w' ⟨rfl, hb'⟩)
        go_roundw
        case rel => exact ⟨j + 1, by omega, by go_num, HX, Lib.hid (HB.out.trans (hb'.mono HB.out.size))⟩
        case measure => simp [intOf]; omega
    · have hjn2 : ¬ (j : Int) < (n : Int) := by omega
      have HX : Hid (ixV L id = -1) := Lib.hid (by
        unfold ixV
        rw [if_neg (by have := HJ.out; have := HN.out; omega)])
      go_wp2_with fail
      go_ret
      exact ⟨by rw [HX.out]; rfl, HB.out⟩
/-- where the entry of an ID is -/
theorem cfind (p : Option Addr) (cap id : Nat) (hR : RowG 35 eL 4 p L w) (hn : L.length ≤ 100) :
    Calls Try.prog 32 #[.slice p L.length cap, .int .u64 (id : Int)] w (Gives (.int .i64 (ixV L id)) w) := by
  have HX := Lib.hid (cindex (w := w.alloc (.cells #[.int .u64 (id : Int)] 33)) p cap id w.heap.size (hR.below (bel1 _ _)) (heap_new _ _) hn)
  clear hR hn
  go_enter Try.func32, Try.ntmps32
  go_wp2_with fail
  refine HX.out.mono ?_
  rintro e w1 ⟨rfl, hb⟩
  go_wp2_with fail
  go_ret
  exact ⟨rfl, (bel1 _ _).trans (hb.mono (by simp))⟩
end
end Go.Proofs.Ytcbbhefgdonabaa.Bt
/- A list of cleanups: remove, Room. (Written by gen_ced.py.) -/
namespace Go.Proofs.Ytcbbhefgdonabaa.Bt
open Go Go.RowKit Go.Shelf
set_option linter.unusedVariables false
set_option linter.unusedSimpArgs false
section
variable {A vs : Nat} {m : Nat → UInt8} {w : World} {L : List Ent}
set_option maxHeartbeats 2000000 in
/-- an entry goes -/
theorem cremove (h : On A (cS m) w) (hv : vs ≤ 400) (i n : Nat) (hi : i < n) (hn : n ≤ vs / 24) : Calls Try.prog 33 #[vwV A 40 vs, .int .i64 (i : Int), .int .i64 (n : Int)] w (Ret A (cS (rmE m i n)) (.tuple #[]) w) := by
  have e1 : addrV 40 vs ((i : Int) * 24) (((n : Int) - (i : Int) - 1) * 24) = ((40 + 24 * i : Nat) : Int) := by rw [addr_in (by omega)]; push_cast; omega
  have e2 : addrV 40 vs (((i : Int) + 1) * 24) (((n : Int) - (i : Int) - 1) * 24) = ((40 + 24 * (i + 1) : Nat) : Int) := by rw [addr_in (by omega)]; push_cast; omega
  have e3 : addrV 40 vs (((n : Int) - 1) * 24) 24 = ((40 + 24 * (n - 1) : Nat) : Int) := by rw [addr_in (by omega)]; omega
  have HC : Hid (∀ X, On A (cS m) X → Calls Try.prog 45 #[vwV A 40 vs, .int .i64 ((i : Int) * 24), .int .i64 (((i : Int) + 1) * 24), .int .i64 (((n : Int) - (i : Int) - 1) * 24)] X (Ret A (cS (mvE m i n)) (.int .i64 0) X)) := Lib.hid fun X hX => by
    have := on_copy hX 40 vs (by omega) (by omega) ((i : Int) * 24) (((i : Int) + 1) * 24) (((n : Int) - (i : Int) - 1) * 24) (by omega) (by omega)
    have ce : copyE (cS m) ((40 + 24 * i : Nat) : Int) ((40 + 24 * (i + 1) : Nat) : Int) (((n : Int) - (i : Int) - 1) * 24) = 0 := by
      unfold copyE
      rw [cS_there (by omega) (by omega) (by omega), if_neg (by simp), if_neg (by omega), cS_there (by omega) (by omega) (by omega)]
    have cs : copyS (cS m) ((40 + 24 * i : Nat) : Int) ((40 + 24 * (i + 1) : Nat) : Int) (((n : Int) - (i : Int) - 1) * 24) = cS (mvE m i n) := by
      unfold copyS
      rw [ce, if_pos rfl, if_neg (by omega), Int.toNat_natCast, Int.toNat_natCast, show ((((n : Int) - (i : Int) - 1) * 24).toNat) = 24 * (n - 1 - i) by omega]
      rfl
    rw [e1, e2, ce, cs] at this
    exact this
  have HFI : Hid (∀ X, On A (cS (mvE m i n)) X → Calls Try.prog 46 #[vwV A 40 vs, .int .i64 (((n : Int) - 1) * 24), .int .i64 24, .int .u8 0] X (Ret A (cS (rmE m i n)) (.int .i64 0) X)) := Lib.hid fun X hX => by
    have := on_fill hX 40 vs (by omega) (by omega) (((n : Int) - 1) * 24) 24 (by omega) 0
    have te : thereE (cS (mvE m i n)).L (cS (mvE m i n)).es ((40 + 24 * (n - 1) : Nat) : Int) 24 = 0 := cS_there (by omega) (by omega) (by omega)
    have fs : fillS (cS (mvE m i n)) ((40 + 24 * (n - 1) : Nat) : Int) 24 0 = cS (rmE m i n) := by
      unfold fillS
      rw [te, if_pos rfl, Int.toNat_natCast]
      rfl
    rw [e3, te, fs] at this
    exact this
  have hb1 : (i : Int) + 1 ≤ (n : Int) := by omega
  have hb2 : (n : Int) ≤ 17 := by omega
  clear e1 e2 e3 hi hn hv
  have f0_ := Fr.start A w
  have f1_ := f0_.new h (vwC A 40 vs) 29 (by unfold NotAr; decide)
  have h1_ := h.below (bel1 _ (.cells (vwC A 40 vs) 29))
  have HF0 := Lib.hid (And.intro f1_ h1_)
  clear f0_ f1_ h1_ h
  go_enter Try.func33, Try.ntmps33
  go_upto_region 1 with fail
  change Code.wp _ _ _ _ (w.alloc (.cells (vwC A 40 vs) 29))
  obtain ⟨y, hy⟩ : ∃ y, (w.alloc (.cells (vwC A 40 vs) 29)) = y := ⟨_, rfl⟩
  obtain ⟨B0, hB0⟩ : ∃ B, w.heap.size = B := ⟨_, rfl⟩
  have hf := HF0.out
  rw [hy, hB0] at hf
  rw [hy, hB0]
  have HF := Lib.hid hf
  clear hf HF0 hy hB0 
  have c0 := HF.out.1.cell0 0 rfl; have c1 := HF.out.1.cell0 1 rfl; have c2 := HF.out.1.cell0 2 rfl
  go_wp2_with fail
  refine (HC.out _ HF.out.2).mono ?_
  rintro e w1 ⟨rfl, ho, hg⟩
  have HF1 := Lib.hid (And.intro (HF.out.1.went HF.out.2 hg) ho)
  clear ho hg HF c0 c1 c2 HC
  have c0 := HF1.out.1.cell0 0 rfl; have c1 := HF1.out.1.cell0 1 rfl; have c2 := HF1.out.1.cell0 2 rfl
  go_wp2_with fail
  refine (HFI.out _ HF1.out.2).mono ?_
  rintro e w2 ⟨rfl, ho, hg⟩
  have HF2 := Lib.hid (And.intro (HF1.out.1.went HF1.out.2 hg) ho)
  clear ho hg HF1 c0 c1 c2 HFI
  go_wp2_with fail
  exact bodyPost_ret (v := .tuple #[]) (by simp [results, Try.results33, go_sem]) rfl ⟨rfl, HF2.out.2, HF2.out.1.wt⟩
set_option maxRecDepth 100000 in
set_option maxHeartbeats 4000000 in
/-- how many more -/
theorem croom (h : On A (cS m) w) (hv : vs ≤ 400) (hL : Ls m (vs / 24) L) : Calls Try.prog 18 #[vwV A 40 vs] w (Gives (.int .i64 ((vs / 24 : Nat) - (L.length : Nat) : Int)) w) := by
  have HSN := Lib.hid fun X (hX : On A (cS m) X) => cslots hX hv
  have HAL := Lib.hid fun X (hX : On A (cS m) X) => call hX hv hL
  obtain ⟨d, hd⟩ : ∃ d, vs / 24 = d := ⟨_, rfl⟩
  have hd17 : d ≤ 17 := by omega
  have hld := hL.len
  rw [hd] at HSN hld
  rw [hd]
  obtain ⟨n, hn⟩ : ∃ n, L.length = n := ⟨_, rfl⟩
  rw [hn] at hld ⊢
  have HN := Lib.hid hn
  have q1 : IntKind.i64.wrap ((d : Int) - (n : Int)) = (d : Int) - (n : Int) := IntWalk.i64_in _ (by omega)
  have HQ := Lib.hid q1
  have HO := Lib.hid h
  have HF0 := Lib.hid ((Fb.start w).new (vwC A 40 vs) 29)
  clear h hL hd hn q1 hld hd17
  go_enter Try.func18, Try.ntmps18
  go_upto_region 1 with fail
  change Code.wp _ _ _ _ (w.alloc (.cells (vwC A 40 vs) 29))
  obtain ⟨y, hy⟩ : ∃ y, w.alloc (.cells (vwC A 40 vs) 29) = y := ⟨_, rfl⟩
  obtain ⟨C, hC⟩ : ∃ C, w.heap.size = C := ⟨_, rfl⟩
  have hf := HF0.out
  rw [hy, hC] at hf
  rw [hy, hC]
  have HF := Lib.hid hf
  clear hy hC hf HF0
  have HB0 := Lib.hid (show Below w.heap.size w y.drew from HF.out.be.drew)
  refine wp_region_held_drew (S := Fb w [⟨C, vwC A 40 vs, 29⟩]) (by kernel_rfl) (HF.out.below (Below.refl _ _).drew) (fun hHeld => ?_)
  clear HF
  refine wpAnyH_take (i := 0) (v := (vwV A 40 vs)) rfl (by kernel_rfl) (by kernel_rfl) (by kernel_rfl) (fun _ _ _ h => h) (Or.inl ⟨by rfl, fun X hS => ?_⟩) hHeld ?_
  · have s0 := hS.cell0 0 rfl; have s1 := hS.cell0 1 rfl; have s2 := hS.cell0 2 rfl
    go_simp
  try simp only [Act.put, List.getElem_toArray, List.getElem_cons_zero, List.getElem_cons_succ, List.setIfInBounds_toArray, List.set_cons_zero, List.set_cons_succ]
  refine wpAnyH_take (i := 2) (v := (vwV A 40 vs)) rfl (by kernel_rfl) (by kernel_rfl) (by kernel_rfl) (fun _ _ _ h => h) (Or.inl ⟨by rfl, fun X hS => ?_⟩) hHeld ?_
  · have s0 := hS.cell0 0 rfl; have s1 := hS.cell0 1 rfl; have s2 := hS.cell0 2 rfl
    go_simp
  try simp only [Act.put, List.getElem_toArray, List.getElem_cons_zero, List.getElem_cons_succ, List.setIfInBounds_toArray, List.set_cons_zero, List.set_cons_succ]
  refine wpAnyH_ready (rs := [1]) (by kernel_rfl) (by simp) (AllReadyH.cons rfl (fun K1 hK1 => ?_) AllReadyH.nil)
  go_simp
  refine (HSN.out _ (HO.out.below HB0.out)).mono ?_
  rintro e x1 ⟨rfl, hb⟩
  have HB1 := Lib.hid (HB0.out.trans (hb.mono HB0.out.size))
  have hS1 := hHeld.below hb
  clear hHeld hb HB0 HSN
  refine hK1.out _ _ hS1 (fun hHeld => ?_)
  clear hK1 hS1
  try simp only [Act.put, List.getElem_toArray, List.getElem_cons_zero, List.getElem_cons_succ, List.setIfInBounds_toArray, List.set_cons_zero, List.set_cons_succ]
  refine wpAnyH_ready (rs := [3]) (by kernel_rfl) (by simp) (AllReadyH.cons rfl (fun K2 hK2 => ?_) AllReadyH.nil)
  go_simp
  refine (HAL.out _ (HO.out.below HB1.out)).mono ?_
  rintro e x2 ⟨p, cap, rfl, -, -, hb⟩
  rw [HN.out]
  have HB2 := Lib.hid (HB1.out.trans (hb.mono HB1.out.size))
  have hS2 := hHeld.below hb
  clear hHeld hb HB1 HAL
  refine hK2.out _ _ hS2 (fun hHeld => ?_)
  clear hK2 hS2
  try simp only [Act.put, List.getElem_toArray, List.getElem_cons_zero, List.getElem_cons_succ, List.setIfInBounds_toArray, List.set_cons_zero, List.set_cons_succ]
  refine wpAnyH_take (i := 4) (v := (.int .i64 (n : Int))) rfl (by kernel_rfl) (by kernel_rfl) (by kernel_rfl) (fun _ _ _ h => h) (Or.inl ⟨by rfl, fun X hS => ?_⟩) hHeld ?_
  · skip
    go_simp
  try simp only [Act.put, List.getElem_toArray, List.getElem_cons_zero, List.getElem_cons_succ, List.setIfInBounds_toArray, List.set_cons_zero, List.set_cons_succ]
  refine wpAnyH_take (i := 5) (v := (.int .i64 ((d : Int) - (n : Int)))) rfl (by kernel_rfl) (by kernel_rfl) (by kernel_rfl) (fun _ _ _ h => h) (Or.inl ⟨by rfl, fun X hS => ?_⟩) hHeld ?_
  · have q1 := HQ.out
    go_simp
  try simp only [Act.put, List.getElem_toArray, List.getElem_cons_zero, List.getElem_cons_succ, List.setIfInBounds_toArray, List.set_cons_zero, List.set_cons_succ]
  refine wpAnyH_take (i := 6) (v := (.int .i64 ((d : Int) - (n : Int)))) rfl (by kernel_rfl) (by kernel_rfl) (by kernel_rfl) (fun _ _ _ h => h) (Or.inl ⟨by rfl, fun X hS => ?_⟩) hHeld ?_
  · skip
    go_simp
  try simp only [Act.put, List.getElem_toArray, List.getElem_cons_zero, List.getElem_cons_succ, List.setIfInBounds_toArray, List.set_cons_zero, List.set_cons_succ]
  refine wpAnyH_done (by kernel_rfl) ?_ _
  clear hHeld
  go_wp2_with fail
  go_ret
  exact ⟨rfl, HB2.out⟩
end
end Go.Proofs.Ytcbbhefgdonabaa.Bt
/- A list of cleanups: Add, Kill, Pop. (Written by gen_cee.py.) -/
namespace Go.Proofs.Ytcbbhefgdonabaa.Bt
open Go Go.RowKit Go.Shelf
set_option linter.unusedVariables false
set_option linter.unusedSimpArgs false
set_option maxRecDepth 100000
theorem eX_ns {w : World} (e : Ent) : NsAt (w.alloc (.cells #[.int .u64 (e.i : Int), .int .u64 (e.k : Int), .int .u64 (e.l : Int), .int .u64 (e.x : Int)] 33)) (some ⟨w.heap.size, 0, none⟩) (eX e) := by
  refine .inr ⟨w.heap.size, 0, rfl, by simp, fun i hi => ?_⟩
  rw [(cell_blk (heap_new w _) _).1, Nat.zero_add]
  have : i = 0 ∨ i = 1 ∨ i = 2 ∨ i = 3 := by simp [eX] at hi; omega
  rcases this with rfl | rfl | rfl | rfl <;> rfl
theorem eX_bd {e : Ent} (he : e.ok) (k : Nat) (hk : k < 4) : 0 ≤ (eX e).getD k 0 ∧ (eX e).getD k 0 < 18446744073709551616 := by
  obtain ⟨b0, b1, b2, b3⟩ := he
  have : k = 0 ∨ k = 1 ∨ k = 2 ∨ k = 3 := by omega
  rcases this with rfl | rfl | rfl | rfl <;> simp only [eX, List.getD_cons_zero, List.getD_cons_succ] <;> omega
theorem eX_short {e : Ent} (he : e.ok) : allShort F3 (eX e) 4 := fun k hk => by
  obtain ⟨b0, b1, b2, b3⟩ := he
  obtain ⟨h0, h1, h2, h3, h4⟩ := F3_at
  have : k = 0 ∨ k = 1 ∨ k = 2 ∨ k = 3 := by omega
  rcases this with rfl | rfl | rfl | rfl <;> simp only [eX, List.getD_cons_zero, List.getD_cons_succ, h0, h1, h2, h3, h4, Nat.reduceAdd, Nat.reduceSub, Nat.sub_zero] <;> unfold longB <;> simp <;> omega
/-- what Add answers -/
def addE (L : List Ent) (n : Nat) (e : Ent) : Int := if e.i = 0 ∨ 281474976710655 < e.i then 2 else if ixE L e.i < L.length then 9 else if L.length = n then 10 else 0
section
variable {A vs : Nat} {m : Nat → UInt8} {w : World} {L : List Ent}
theorem cadd_nil (e : Ent) : Calls Try.prog 13 #[zvV, eV e] w (Gives (.int .i64 1) w) := by
  have HF0 := Lib.hid (((Fb.start w).new zvC 29).new #[.int .u64 (e.i : Int), .int .u8 (e.k : Int), .int .u8 (e.l : Int), .int .u64 (e.x : Int)] 35)
  go_enter Try.func13, Try.ntmps13
  go_upto_region 1 with fail
  change Code.wp _ _ _ _ ((w.alloc (.cells zvC 29)).alloc (.cells #[.int .u64 (e.i : Int), .int .u8 (e.k : Int), .int .u8 (e.l : Int), .int .u64 (e.x : Int)] 35))
  obtain ⟨y, hy⟩ : ∃ y, ((w.alloc (.cells zvC 29)).alloc (.cells #[.int .u64 (e.i : Int), .int .u8 (e.k : Int), .int .u8 (e.l : Int), .int .u64 (e.x : Int)] 35)) = y := ⟨_, rfl⟩
  obtain ⟨B0, hB0⟩ : ∃ B, w.heap.size = B := ⟨_, rfl⟩
  obtain ⟨B1, hB1⟩ : ∃ B, (w.alloc (.cells zvC 29)).heap.size = B := ⟨_, rfl⟩
  have hC1 : w.heap.size + 1 = B1 := by rw [← hB1]; simp
  have hf := HF0.out
  rw [hy, hB1, hB0] at hf
  rw [hy, hC1, hB0]
  have HF := Lib.hid hf
  clear hf HF0 hy hB0 hB1 hC1
  have c0 := HF.out.cell1 0 rfl
  go_wp2_with fail
  go_ret
  exact ⟨rfl, HF.out.be⟩
set_option maxHeartbeats 2000000 in
theorem cadd_arg (e : Ent) (hb : e.i = 0 ∨ 281474976710655 < e.i) : Calls Try.prog 13 #[vwV A 40 vs, eV e] w (Gives (.int .i64 2) w) := by
  have HF0 := Lib.hid (((Fb.start w).new (vwC A 40 vs) 29).new #[.int .u64 (e.i : Int), .int .u8 (e.k : Int), .int .u8 (e.l : Int), .int .u64 (e.x : Int)] 35)
  go_enter Try.func13, Try.ntmps13
  go_upto_region 1 with fail
  change Code.wp _ _ _ _ ((w.alloc (.cells (vwC A 40 vs) 29)).alloc (.cells #[.int .u64 (e.i : Int), .int .u8 (e.k : Int), .int .u8 (e.l : Int), .int .u64 (e.x : Int)] 35))
  obtain ⟨y, hy⟩ : ∃ y, ((w.alloc (.cells (vwC A 40 vs) 29)).alloc (.cells #[.int .u64 (e.i : Int), .int .u8 (e.k : Int), .int .u8 (e.l : Int), .int .u64 (e.x : Int)] 35)) = y := ⟨_, rfl⟩
  obtain ⟨B0, hB0⟩ : ∃ B, w.heap.size = B := ⟨_, rfl⟩
  obtain ⟨B1, hB1⟩ : ∃ B, (w.alloc (.cells (vwC A 40 vs) 29)).heap.size = B := ⟨_, rfl⟩
  have hC1 : w.heap.size + 1 = B1 := by rw [← hB1]; simp
  have hf := HF0.out
  rw [hy, hB1, hB0] at hf
  rw [hy, hC1, hB0]
  have HF := Lib.hid hf
  clear hf HF0 hy hB0 hB1 hC1
  have c0 := HF.out.cell1 0 rfl
  have e0 := HF.out.cell0 0 rfl
  by_cases hz : e.i = 0
  · have d1 : ((e.i : Int) == 0) = true := by simp [hz]
    have d2 : (e.i : Int) = 0 := by omega
    clear hz hb
    go_wp2_with fail
    go_ret
    exact ⟨rfl, HF.out.be⟩
  · have hz1 : ¬ ((e.i : Int) = 0) := by omega
    have d1 : ((e.i : Int) == 0) = false := by simpa using hz1
    have d2 : (281474976710655 : Int) < (e.i : Int) := by omega
    clear hz hb
    go_wp2_with fail
    go_ret
    exact ⟨rfl, HF.out.be⟩
set_option maxHeartbeats 4000000 in
theorem cadd_there (h : On A (cS m) w) (hv : vs ≤ 400) (hL : Ls m (vs / 24) L) (e : Ent) (h0 : 0 < e.i) (h1 : e.i ≤ 281474976710655) (hi : ixE L e.i < L.length) : Calls Try.prog 13 #[vwV A 40 vs, eV e] w (Gives (.int .i64 9) w) := by
  have HO := Lib.hid h
  have hz1 : ¬ ((e.i : Int) = 0) := by omega
  have d1 : ((e.i : Int) == 0) = false := by simpa using hz1
  have d2 : ¬ ((281474976710655 : Int) < (e.i : Int)) := by omega
  have d3 : (e.i : Int) ≤ 281474976710655 := by omega
  have hln : L.length ≤ 17 := by have := hL.len; omega
  have HLN := Lib.hid hln
  have HAL := Lib.hid fun X (hX : On A (cS m) X) => call hX hv hL
  obtain ⟨n, hn⟩ : ∃ n, L.length = n := ⟨_, rfl⟩
  obtain ⟨r, hr⟩ : ∃ r, ixV L e.i = r := ⟨_, rfl⟩
  have hr0 : 0 ≤ r := by rw [← hr]; unfold ixV; rw [if_pos hi]; omega
  have HR := Lib.hid hr
  have HN := Lib.hid hn
  clear hr hn h hi hln hL h0 h1 hz1
  have HF0 := Lib.hid (((Fb.start w).new (vwC A 40 vs) 29).new #[.int .u64 (e.i : Int), .int .u8 (e.k : Int), .int .u8 (e.l : Int), .int .u64 (e.x : Int)] 35)
  go_enter Try.func13, Try.ntmps13
  go_upto_region 1 with fail
  change Code.wp _ _ _ _ ((w.alloc (.cells (vwC A 40 vs) 29)).alloc (.cells #[.int .u64 (e.i : Int), .int .u8 (e.k : Int), .int .u8 (e.l : Int), .int .u64 (e.x : Int)] 35))
  obtain ⟨y, hy⟩ : ∃ y, ((w.alloc (.cells (vwC A 40 vs) 29)).alloc (.cells #[.int .u64 (e.i : Int), .int .u8 (e.k : Int), .int .u8 (e.l : Int), .int .u64 (e.x : Int)] 35)) = y := ⟨_, rfl⟩
  obtain ⟨B0, hB0⟩ : ∃ B, w.heap.size = B := ⟨_, rfl⟩
  obtain ⟨B1, hB1⟩ : ∃ B, (w.alloc (.cells (vwC A 40 vs) 29)).heap.size = B := ⟨_, rfl⟩
  have hC1 : w.heap.size + 1 = B1 := by rw [← hB1]; simp
  have hf := HF0.out
  rw [hy, hB1, hB0] at hf
  rw [hy, hC1, hB0]
  have HF := Lib.hid hf
  clear hf HF0 hy hB0 hB1 hC1
  have c0 := HF.out.cell1 0 rfl; have c1 := HF.out.cell1 1 rfl; have c2 := HF.out.cell1 2 rfl
  have e0 := HF.out.cell0 0 rfl
  go_wp2_with fail
  refine (HAL.out _ (HO.out.below HF.out.be)).mono ?_
  rintro e1 w1 ⟨p, cap, rfl, hcap, hrow, hb⟩
  have HF1 := Lib.hid (HF.out.below hb)
  have HRW := Lib.hid (And.intro hrow hcap)
  clear hb HF c0 c1 c2 e0 HAL hrow hcap
  have e0 := HF1.out.cell0 0 rfl
  go_wp2_with fail
  have HFI := Lib.hid (cfind (w := w1) p cap e.i HRW.out.1 (by have := HLN.out; omega))
  rw [HR.out, HN.out] at HFI
  rw [HN.out]
  refine HFI.out.mono ?_
  rintro e2 w2 ⟨rfl, hb⟩
  have HF2 := Lib.hid (HF1.out.below hb)
  clear hb HF1 e0 HFI HRW
  go_wp2_with fail
  go_ret
  exact ⟨rfl, HF2.out.be⟩
set_option maxHeartbeats 4000000 in
theorem cadd_full (h : On A (cS m) w) (hv : vs ≤ 400) (hL : Ls m (vs / 24) L) (e : Ent) (h0 : 0 < e.i) (h1 : e.i ≤ 281474976710655) (hi : ¬ ixE L e.i < L.length) (hf : L.length = vs / 24) : Calls Try.prog 13 #[vwV A 40 vs, eV e] w (Gives (.int .i64 10) w) := by
  have HO := Lib.hid h
  have hz1 : ¬ ((e.i : Int) = 0) := by omega
  have d1 : ((e.i : Int) == 0) = false := by simpa using hz1
  have d2 : ¬ ((281474976710655 : Int) < (e.i : Int)) := by omega
  have d3 : (e.i : Int) ≤ 281474976710655 := by omega
  have hln : L.length ≤ 17 := by have := hL.len; omega
  have HLN := Lib.hid hln
  have HAL := Lib.hid fun X (hX : On A (cS m) X) => call hX hv hL
  obtain ⟨n, hn⟩ : ∃ n, L.length = n := ⟨_, rfl⟩
  have HSN := Lib.hid fun X (hX : On A (cS m) X) => cslots hX hv
  rw [← hf, hn] at HSN
  have hr : ixV L e.i = -1 := by unfold ixV; rw [if_neg hi]
  have HR := Lib.hid hr
  have HN := Lib.hid hn
  clear hr hn h hi hln hL h0 h1 hz1 hf
  have HF0 := Lib.hid (((Fb.start w).new (vwC A 40 vs) 29).new #[.int .u64 (e.i : Int), .int .u8 (e.k : Int), .int .u8 (e.l : Int), .int .u64 (e.x : Int)] 35)
  go_enter Try.func13, Try.ntmps13
  go_upto_region 1 with fail
  change Code.wp _ _ _ _ ((w.alloc (.cells (vwC A 40 vs) 29)).alloc (.cells #[.int .u64 (e.i : Int), .int .u8 (e.k : Int), .int .u8 (e.l : Int), .int .u64 (e.x : Int)] 35))
  obtain ⟨y, hy⟩ : ∃ y, ((w.alloc (.cells (vwC A 40 vs) 29)).alloc (.cells #[.int .u64 (e.i : Int), .int .u8 (e.k : Int), .int .u8 (e.l : Int), .int .u64 (e.x : Int)] 35)) = y := ⟨_, rfl⟩
  obtain ⟨B0, hB0⟩ : ∃ B, w.heap.size = B := ⟨_, rfl⟩
  obtain ⟨B1, hB1⟩ : ∃ B, (w.alloc (.cells (vwC A 40 vs) 29)).heap.size = B := ⟨_, rfl⟩
  have hC1 : w.heap.size + 1 = B1 := by rw [← hB1]; simp
  have hf := HF0.out
  rw [hy, hB1, hB0] at hf
  rw [hy, hC1, hB0]
  have HF := Lib.hid hf
  clear hf HF0 hy hB0 hB1 hC1
  have c0 := HF.out.cell1 0 rfl; have c1 := HF.out.cell1 1 rfl; have c2 := HF.out.cell1 2 rfl
  have e0 := HF.out.cell0 0 rfl
  go_wp2_with fail
  refine (HAL.out _ (HO.out.below HF.out.be)).mono ?_
  rintro e1 w1 ⟨p, cap, rfl, hcap, hrow, hb⟩
  have HF1 := Lib.hid (HF.out.below hb)
  have HRW := Lib.hid (And.intro hrow hcap)
  clear hb HF c0 c1 c2 e0 HAL hrow hcap
  have e0 := HF1.out.cell0 0 rfl
  go_wp2_with fail
  have HFI := Lib.hid (cfind (w := w1) p cap e.i HRW.out.1 (by have := HLN.out; omega))
  rw [HR.out, HN.out] at HFI
  rw [HN.out]
  refine HFI.out.mono ?_
  rintro e2 w2 ⟨rfl, hb⟩
  have HF2 := Lib.hid (HF1.out.below hb)
  clear hb HF1 e0 HFI HRW
  have c0 := HF2.out.cell1 0 rfl; have c1 := HF2.out.cell1 1 rfl; have c2 := HF2.out.cell1 2 rfl
  go_wp2_with fail
  refine (HSN.out _ (HO.out.below HF2.out.be)).mono ?_
  rintro e3 w3 ⟨rfl, hb⟩
  have HF3 := Lib.hid (HF2.out.below hb)
  clear hb HF2 c0 c1 c2
  go_wp2_with fail
  go_ret
  exact ⟨rfl, HF3.out.be⟩
set_option maxHeartbeats 8000000 in
theorem cadd_ok (h : On A (cS m) w) (hv : vs ≤ 400) (hL : Ls m (vs / 24) L) (e : Ent) (h0 : 0 < e.i) (h1 : e.i ≤ 281474976710655) (hok : e.ok) (hi : ¬ ixE L e.i < L.length) (hf : L.length < vs / 24) : Calls Try.prog 13 #[vwV A 40 vs, eV e] w (Ret A (cS (laE m (40 + 24 * L.length) e)) (.int .i64 0) w) := by
  have HO := Lib.hid h
  have hz1 : ¬ ((e.i : Int) = 0) := by omega
  have d1 : ((e.i : Int) == 0) = false := by simpa using hz1
  have d2 : ¬ ((281474976710655 : Int) < (e.i : Int)) := by omega
  have d3 : (e.i : Int) ≤ 281474976710655 := by omega
  have hln : L.length ≤ 17 := by have := hL.len; omega
  have HLN := Lib.hid hln
  have HAL := Lib.hid fun X (hX : On A (cS m) X) => call hX hv hL
  obtain ⟨n, hn⟩ : ∃ n, L.length = n := ⟨_, rfl⟩
  have HSN := Lib.hid fun X (hX : On A (cS m) X) => cslots hX hv
  have HSL := Lib.hid fun X (hX : On A (cS m) X) => cslot hX hv n (by omega)
  obtain ⟨d, hd⟩ : ∃ d, vs / 24 = d := ⟨_, rfl⟩
  rw [hd] at HSN
  rw [hn]
  have hnd : ((n : Int) == (d : Int)) = false := by simp; omega
  have hnd2 : ¬ ((n : Int) = (d : Int)) := by omega
  have HNB : Hid (n ≤ 17) := Lib.hid (by omega)
  have hr : ixV L e.i = -1 := by unfold ixV; rw [if_neg hi]
  have HR := Lib.hid hr
  have HN := Lib.hid hn
  have HOK := Lib.hid hok
  obtain ⟨b0, b1, b2, b3⟩ := hok
  have q1 : IntKind.u64.wrap (e.k : Int) = (e.k : Int) := by rw [IntKind.wrap_u64]; omega
  have q2 : IntKind.u64.wrap (e.l : Int) = (e.l : Int) := by rw [IntKind.wrap_u64]; omega
  have HQ := Lib.hid (And.intro q1 q2)
  clear hr hn h hi hln hL h0 h1 hz1 hf hd b0 b1 b2 b3 q1 q2
  have HF0 := Lib.hid (((Fb.start w).new (vwC A 40 vs) 29).new #[.int .u64 (e.i : Int), .int .u8 (e.k : Int), .int .u8 (e.l : Int), .int .u64 (e.x : Int)] 35)
  go_enter Try.func13, Try.ntmps13
  go_upto_region 1 with fail
  change Code.wp _ _ _ _ ((w.alloc (.cells (vwC A 40 vs) 29)).alloc (.cells #[.int .u64 (e.i : Int), .int .u8 (e.k : Int), .int .u8 (e.l : Int), .int .u64 (e.x : Int)] 35))
  obtain ⟨y, hy⟩ : ∃ y, ((w.alloc (.cells (vwC A 40 vs) 29)).alloc (.cells #[.int .u64 (e.i : Int), .int .u8 (e.k : Int), .int .u8 (e.l : Int), .int .u64 (e.x : Int)] 35)) = y := ⟨_, rfl⟩
  obtain ⟨B0, hB0⟩ : ∃ B, w.heap.size = B := ⟨_, rfl⟩
  obtain ⟨B1, hB1⟩ : ∃ B, (w.alloc (.cells (vwC A 40 vs) 29)).heap.size = B := ⟨_, rfl⟩
  have hC1 : w.heap.size + 1 = B1 := by rw [← hB1]; simp
  have hf := HF0.out
  rw [hy, hB1, hB0] at hf
  rw [hy, hC1, hB0]
  have HF := Lib.hid hf
  clear hf HF0 hy hB0 hB1 hC1
  have c0 := HF.out.cell1 0 rfl; have c1 := HF.out.cell1 1 rfl; have c2 := HF.out.cell1 2 rfl
  have e0 := HF.out.cell0 0 rfl
  go_wp2_with fail
  refine (HAL.out _ (HO.out.below HF.out.be)).mono ?_
  rintro e1 w1 ⟨p, cap, rfl, hcap, hrow, hb⟩
  have HF1 := Lib.hid (HF.out.below hb)
  have HRW := Lib.hid (And.intro hrow hcap)
  clear hb HF c0 c1 c2 e0 HAL hrow hcap
  have e0 := HF1.out.cell0 0 rfl
  go_wp2_with fail
  have HFI := Lib.hid (cfind (w := w1) p cap e.i HRW.out.1 (by have := HLN.out; omega))
  rw [HR.out, HN.out] at HFI
  rw [HN.out]
  refine HFI.out.mono ?_
  rintro e2 w2 ⟨rfl, hb⟩
  have HF2 := Lib.hid (HF1.out.below hb)
  clear hb HF1 e0 HFI HRW
  have c0 := HF2.out.cell1 0 rfl; have c1 := HF2.out.cell1 1 rfl; have c2 := HF2.out.cell1 2 rfl
  go_wp2_with fail
  refine (HSN.out _ (HO.out.below HF2.out.be)).mono ?_
  rintro e3 w3 ⟨rfl, hb⟩
  have HF3 := Lib.hid (HF2.out.below hb)
  clear hb HF2 c0 c1 c2
  go_upto_region 10 with fail
  have hf3 := HF3.out.below (Below.refl _ _).drew
  refine wp_region_held_drew (S := fun X => X.heap[B1]? = some (.cells #[.int .u64 (e.i : Int), .int .u8 (e.k : Int), .int .u8 (e.l : Int), .int .u64 (e.x : Int)] 35 (0, 0)) ∧ X.heap[B0]? = some (.cells (vwC A 40 vs) 29 (0, 0))) (by kernel_rfl) ⟨hf3.at0, hf3.at1⟩ (fun hHeld => ?_)
  clear HF3
  generalize w3.drew = x3 at *
  have HF3 := Lib.hid hf3
  clear hf3
  refine wpAnyH_take (i := 1) (v := (vwV A 40 vs)) rfl (by kernel_rfl) (by kernel_rfl) (by kernel_rfl) (fun _ _ _ h => h) (Or.inl ⟨by rfl, fun X hS => ?_⟩) hHeld ?_
  · have s0 := (cell_blk hS.2 0).1; have s1 := (cell_blk hS.2 1).1; have s2 := (cell_blk hS.2 2).1
    go_simp
  try simp only [Act.put, List.getElem_toArray, List.getElem_cons_zero, List.getElem_cons_succ, List.setIfInBounds_toArray, List.set_cons_zero, List.set_cons_succ]
  refine wpAnyH_take (i := 2) (v := (.slice p n cap)) rfl (by kernel_rfl) (by kernel_rfl) (by kernel_rfl) (fun _ _ _ h => h) (Or.inl ⟨by rfl, fun X hS => ?_⟩) hHeld ?_
  · skip
    go_simp
  try simp only [Act.put, List.getElem_toArray, List.getElem_cons_zero, List.getElem_cons_succ, List.setIfInBounds_toArray, List.set_cons_zero, List.set_cons_succ]
  refine wpAnyH_take (i := 3) (v := (.int .i64 (n : Int))) rfl (by kernel_rfl) (by kernel_rfl) (by kernel_rfl) (fun _ _ _ h => h) (Or.inl ⟨by rfl, fun X hS => ?_⟩) hHeld ?_
  · skip
    go_simp
  try simp only [Act.put, List.getElem_toArray, List.getElem_cons_zero, List.getElem_cons_succ, List.setIfInBounds_toArray, List.set_cons_zero, List.set_cons_succ]
  refine wpAnyH_take (i := 5) (v := (.pointer (some ⟨B1, 0, none⟩))) rfl (by kernel_rfl) (by kernel_rfl) (by kernel_rfl) (fun _ _ _ h => h) (Or.inl ⟨by rfl, fun X hS => ?_⟩) hHeld ?_
  · skip
    go_simp
  try simp only [Act.put, List.getElem_toArray, List.getElem_cons_zero, List.getElem_cons_succ, List.setIfInBounds_toArray, List.set_cons_zero, List.set_cons_succ]
  refine wpAnyH_take (i := 6) (v := (.int .u64 (e.i : Int))) rfl (by kernel_rfl) (by kernel_rfl) (by kernel_rfl) (fun _ _ _ h => h) (Or.inl ⟨by rfl, fun X hS => ?_⟩) hHeld ?_
  · have s0 := (cell_blk hS.1 0).1; have s1 := (cell_blk hS.1 1).1; have s2 := (cell_blk hS.1 2).1; have s3 := (cell_blk hS.1 3).1
    go_simp
  try simp only [Act.put, List.getElem_toArray, List.getElem_cons_zero, List.getElem_cons_succ, List.setIfInBounds_toArray, List.set_cons_zero, List.set_cons_succ]
  refine wpAnyH_take (i := 7) (v := (.pointer (some ⟨B1, 1, none⟩))) rfl (by kernel_rfl) (by kernel_rfl) (by kernel_rfl) (fun _ _ _ h => h) (Or.inl ⟨by rfl, fun X hS => ?_⟩) hHeld ?_
  · skip
    go_simp
  try simp only [Act.put, List.getElem_toArray, List.getElem_cons_zero, List.getElem_cons_succ, List.setIfInBounds_toArray, List.set_cons_zero, List.set_cons_succ]
  refine wpAnyH_take (i := 8) (v := (.int .u8 (e.k : Int))) rfl (by kernel_rfl) (by kernel_rfl) (by kernel_rfl) (fun _ _ _ h => h) (Or.inl ⟨by rfl, fun X hS => ?_⟩) hHeld ?_
  · have s0 := (cell_blk hS.1 0).1; have s1 := (cell_blk hS.1 1).1; have s2 := (cell_blk hS.1 2).1; have s3 := (cell_blk hS.1 3).1
    go_simp
  try simp only [Act.put, List.getElem_toArray, List.getElem_cons_zero, List.getElem_cons_succ, List.setIfInBounds_toArray, List.set_cons_zero, List.set_cons_succ]
  refine wpAnyH_take (i := 9) (v := (.int .u64 (e.k : Int))) rfl (by kernel_rfl) (by kernel_rfl) (by kernel_rfl) (fun _ _ _ h => h) (Or.inl ⟨by rfl, fun X hS => ?_⟩) hHeld ?_
  · obtain ⟨q1, q2⟩ := HQ.out
    go_simp
  try simp only [Act.put, List.getElem_toArray, List.getElem_cons_zero, List.getElem_cons_succ, List.setIfInBounds_toArray, List.set_cons_zero, List.set_cons_succ]
  refine wpAnyH_take (i := 10) (v := (.pointer (some ⟨B1, 2, none⟩))) rfl (by kernel_rfl) (by kernel_rfl) (by kernel_rfl) (fun _ _ _ h => h) (Or.inl ⟨by rfl, fun X hS => ?_⟩) hHeld ?_
  · skip
    go_simp
  try simp only [Act.put, List.getElem_toArray, List.getElem_cons_zero, List.getElem_cons_succ, List.setIfInBounds_toArray, List.set_cons_zero, List.set_cons_succ]
  refine wpAnyH_take (i := 11) (v := (.int .u8 (e.l : Int))) rfl (by kernel_rfl) (by kernel_rfl) (by kernel_rfl) (fun _ _ _ h => h) (Or.inl ⟨by rfl, fun X hS => ?_⟩) hHeld ?_
  · have s0 := (cell_blk hS.1 0).1; have s1 := (cell_blk hS.1 1).1; have s2 := (cell_blk hS.1 2).1; have s3 := (cell_blk hS.1 3).1
    go_simp
  try simp only [Act.put, List.getElem_toArray, List.getElem_cons_zero, List.getElem_cons_succ, List.setIfInBounds_toArray, List.set_cons_zero, List.set_cons_succ]
  refine wpAnyH_take (i := 12) (v := (.int .u64 (e.l : Int))) rfl (by kernel_rfl) (by kernel_rfl) (by kernel_rfl) (fun _ _ _ h => h) (Or.inl ⟨by rfl, fun X hS => ?_⟩) hHeld ?_
  · obtain ⟨q1, q2⟩ := HQ.out
    go_simp
  try simp only [Act.put, List.getElem_toArray, List.getElem_cons_zero, List.getElem_cons_succ, List.setIfInBounds_toArray, List.set_cons_zero, List.set_cons_succ]
  refine wpAnyH_take (i := 13) (v := (.pointer (some ⟨B1, 3, none⟩))) rfl (by kernel_rfl) (by kernel_rfl) (by kernel_rfl) (fun _ _ _ h => h) (Or.inl ⟨by rfl, fun X hS => ?_⟩) hHeld ?_
  · skip
    go_simp
  try simp only [Act.put, List.getElem_toArray, List.getElem_cons_zero, List.getElem_cons_succ, List.setIfInBounds_toArray, List.set_cons_zero, List.set_cons_succ]
  refine wpAnyH_take (i := 14) (v := (.int .u64 (e.x : Int))) rfl (by kernel_rfl) (by kernel_rfl) (by kernel_rfl) (fun _ _ _ h => h) (Or.inl ⟨by rfl, fun X hS => ?_⟩) hHeld ?_
  · have s0 := (cell_blk hS.1 0).1; have s1 := (cell_blk hS.1 1).1; have s2 := (cell_blk hS.1 2).1; have s3 := (cell_blk hS.1 3).1
    go_simp
  try simp only [Act.put, List.getElem_toArray, List.getElem_cons_zero, List.getElem_cons_succ, List.setIfInBounds_toArray, List.set_cons_zero, List.set_cons_succ]
  refine wpAnyH_ready (rs := [0, 15]) (by kernel_rfl) (by simp) (AllReadyH.cons rfl (fun K1 hK1 => ?_) (AllReadyH.cons rfl (fun K1 hK1 => ?_) AllReadyH.nil))
  · go_simp
    refine (clayout _).mono ?_
    rintro e4 x4 ⟨rfl, hb⟩
    have HF4 := Lib.hid (HF3.out.below hb)
    clear hHeld hb HF3
    refine hK1.out _ _ ⟨HF4.out.at0, HF4.out.at1⟩ (fun hHeld => ?_)
    clear hK1
    try simp only [Act.put, List.getElem_toArray, List.getElem_cons_zero, List.getElem_cons_succ, List.setIfInBounds_toArray, List.set_cons_zero, List.set_cons_succ]
    refine wpAnyH_ready (rs := [4, 15]) (by kernel_rfl) (by simp) (AllReadyH.cons rfl (fun K1 hK1 => ?_) (AllReadyH.cons rfl (fun K1 hK1 => ?_) AllReadyH.nil))
    · go_simp
      refine (HSL.out _ (HO.out.below HF4.out.be)).mono ?_
      rintro e5 x5 ⟨rfl, hb⟩
      have HF5 := Lib.hid (HF4.out.below hb)
      clear hHeld hb HF4 HSL
      refine hK1.out _ _ ⟨HF5.out.at0, HF5.out.at1⟩ (fun hHeld => ?_)
      clear hK1
      try simp only [Act.put, List.getElem_toArray, List.getElem_cons_zero, List.getElem_cons_succ, List.setIfInBounds_toArray, List.set_cons_zero, List.set_cons_succ]
      refine wpAnyH_ready (rs := [15]) (by kernel_rfl) (by simp) (AllReadyH.cons rfl (fun K1 hK1 => ?_) AllReadyH.nil)
      go_simp
      have hNS := eX_ns (w := x5) e
      have hO5 := HO.out.below HF5.out.be
      have hMine := Mine.new hO5 (.cells #[.int .u64 (e.i : Int), .int .u64 (e.k : Int), .int .u64 (e.l : Int), .int .u64 (e.x : Int)] 33)
      have hF6 := HF5.out.below (bel1 x5 (.cells #[.int .u64 (e.i : Int), .int .u64 (e.k : Int), .int .u64 (e.l : Int), .int .u64 (e.x : Int)] 33))
      obtain ⟨x6, hx6⟩ : ∃ x6, x5.alloc (.cells #[.int .u64 (e.i : Int), .int .u64 (e.k : Int), .int .u64 (e.l : Int), .int .u64 (e.x : Int)] 33) = x6 := ⟨_, rfl⟩
      obtain ⟨Z, hZ⟩ : ∃ Z, x5.heap.size = Z := ⟨_, rfl⟩
      rw [hx6] at hNS hMine hF6 ⊢
      rw [hZ] at hNS hMine ⊢
      have HF6 := Lib.hid hF6
      have HM6 := Lib.hid (And.intro hNS hMine)
      clear hHeld hO5 hx6 hZ HF5 hF6 hNS hMine
      refine hK1.out _ _ ⟨HF6.out.at0, HF6.out.at1⟩ (fun hHeld => ?_)
      clear hK1
      try simp only [Act.put, List.getElem_toArray, List.getElem_cons_zero, List.getElem_cons_succ, List.setIfInBounds_toArray, List.set_cons_zero, List.set_cons_succ]
      refine wpAnyH_ready (rs := [16]) (by kernel_rfl) (by simp) (AllReadyH.cons rfl (fun K1 hK1 => ?_) AllReadyH.nil)
      go_simp
      refine (fputn_yes (HO.out.below HF6.out.be) 4 F3 rec3 (40 + 24 * n) 24 (by have := HNB.out; omega) (by omega) (some ⟨Z, 0, none⟩) 4 (eX e) rfl HM6.out.1 (eX_bd HOK.out) (eX_short HOK.out) (fun b off e => by cases e; exact HM6.out.2.own) (40 + 24 * n) (addr_sl _) (by rw [addr_sl, F3_at.2.2.2.2]; have := HNB.out; exact cS_there (by omega) (by omega) (by omega))).mono ?_
      rintro e7 xe ⟨rfl, hO7, hG7⟩
      have hS7 := And.intro (hG7.keep (HO.out.below HF6.out.be) HF6.out.at0 (by decide) (by decide) (by decide)) (hG7.keep (HO.out.below HF6.out.be) HF6.out.at1 (by decide) (by decide) (by decide))
      have HW7 := Lib.hid (And.intro hO7 ((Went.of_below HO.out HF6.out.be).trans hG7))
      clear hHeld hO7 hG7 HF6 HM6
      refine hK1.out _ _ hS7 (fun hHeld => ?_)
      clear hK1
      try simp only [Act.put, List.getElem_toArray, List.getElem_cons_zero, List.getElem_cons_succ, List.setIfInBounds_toArray, List.set_cons_zero, List.set_cons_succ]
      refine wpAnyH_take (i := 17) (v := (.int .i64 0)) rfl (by kernel_rfl) (by kernel_rfl) (by kernel_rfl) (fun _ _ _ h => h) (Or.inl ⟨by rfl, fun X hS => ?_⟩) hHeld ?_
      · skip
        go_simp
      try simp only [Act.put, List.getElem_toArray, List.getElem_cons_zero, List.getElem_cons_succ, List.setIfInBounds_toArray, List.set_cons_zero, List.set_cons_succ]
      refine wpAnyH_done (by kernel_rfl) ?_ _
      clear hHeld
      go_wp2_with fail
      go_ret
      exact ⟨rfl, HW7.out.1, HW7.out.2⟩
    · go_simp
      have hNS := eX_ns (w := x4) e
      have hO5 := HO.out.below HF4.out.be
      have hMine := Mine.new hO5 (.cells #[.int .u64 (e.i : Int), .int .u64 (e.k : Int), .int .u64 (e.l : Int), .int .u64 (e.x : Int)] 33)
      have hF6 := HF4.out.below (bel1 x4 (.cells #[.int .u64 (e.i : Int), .int .u64 (e.k : Int), .int .u64 (e.l : Int), .int .u64 (e.x : Int)] 33))
      obtain ⟨x7, hx6⟩ : ∃ x6, x4.alloc (.cells #[.int .u64 (e.i : Int), .int .u64 (e.k : Int), .int .u64 (e.l : Int), .int .u64 (e.x : Int)] 33) = x6 := ⟨_, rfl⟩
      obtain ⟨Z, hZ⟩ : ∃ Z, x4.heap.size = Z := ⟨_, rfl⟩
      rw [hx6] at hNS hMine hF6 ⊢
      rw [hZ] at hNS hMine ⊢
      have HF7 := Lib.hid hF6
      have HM7 := Lib.hid (And.intro hNS hMine)
      clear hHeld hO5 hx6 hZ HF4 hF6 hNS hMine
      refine hK1.out _ _ ⟨HF7.out.at0, HF7.out.at1⟩ (fun hHeld => ?_)
      clear hK1
      try simp only [Act.put, List.getElem_toArray, List.getElem_cons_zero, List.getElem_cons_succ, List.setIfInBounds_toArray, List.set_cons_zero, List.set_cons_succ]
      refine wpAnyH_ready (rs := [4]) (by kernel_rfl) (by simp) (AllReadyH.cons rfl (fun K1 hK1 => ?_) AllReadyH.nil)
      go_simp
      refine (HSL.out _ (HO.out.below HF7.out.be)).mono ?_
      rintro e8 x8 ⟨rfl, hb⟩
      have HF8 := Lib.hid (HF7.out.below hb)
      have HM8 := Lib.hid (And.intro (HM7.out.1.below hb) (HM7.out.2.went (Went.of_below (HO.out.below HF7.out.be) hb)))
      clear HM7
      clear hHeld hb HF7 HSL
      refine hK1.out _ _ ⟨HF8.out.at0, HF8.out.at1⟩ (fun hHeld => ?_)
      clear hK1
      try simp only [Act.put, List.getElem_toArray, List.getElem_cons_zero, List.getElem_cons_succ, List.setIfInBounds_toArray, List.set_cons_zero, List.set_cons_succ]
      refine wpAnyH_ready (rs := [16]) (by kernel_rfl) (by simp) (AllReadyH.cons rfl (fun K1 hK1 => ?_) AllReadyH.nil)
      go_simp
      refine (fputn_yes (HO.out.below HF8.out.be) 4 F3 rec3 (40 + 24 * n) 24 (by have := HNB.out; omega) (by omega) (some ⟨Z, 0, none⟩) 4 (eX e) rfl HM8.out.1 (eX_bd HOK.out) (eX_short HOK.out) (fun b off e => by cases e; exact HM8.out.2.own) (40 + 24 * n) (addr_sl _) (by rw [addr_sl, F3_at.2.2.2.2]; have := HNB.out; exact cS_there (by omega) (by omega) (by omega))).mono ?_
      rintro e7 xe ⟨rfl, hO7, hG7⟩
      have hS7 := And.intro (hG7.keep (HO.out.below HF8.out.be) HF8.out.at0 (by decide) (by decide) (by decide)) (hG7.keep (HO.out.below HF8.out.be) HF8.out.at1 (by decide) (by decide) (by decide))
      have HW7 := Lib.hid (And.intro hO7 ((Went.of_below HO.out HF8.out.be).trans hG7))
      clear hHeld hO7 hG7 HF8 HM8
      refine hK1.out _ _ hS7 (fun hHeld => ?_)
      clear hK1
      try simp only [Act.put, List.getElem_toArray, List.getElem_cons_zero, List.getElem_cons_succ, List.setIfInBounds_toArray, List.set_cons_zero, List.set_cons_succ]
      refine wpAnyH_take (i := 17) (v := (.int .i64 0)) rfl (by kernel_rfl) (by kernel_rfl) (by kernel_rfl) (fun _ _ _ h => h) (Or.inl ⟨by rfl, fun X hS => ?_⟩) hHeld ?_
      · skip
        go_simp
      try simp only [Act.put, List.getElem_toArray, List.getElem_cons_zero, List.getElem_cons_succ, List.setIfInBounds_toArray, List.set_cons_zero, List.set_cons_succ]
      refine wpAnyH_done (by kernel_rfl) ?_ _
      clear hHeld
      go_wp2_with fail
      go_ret
      exact ⟨rfl, HW7.out.1, HW7.out.2⟩
  · go_simp
    have hNS := eX_ns (w := x3) e
    have hO5 := HO.out.below HF3.out.be
    have hMine := Mine.new hO5 (.cells #[.int .u64 (e.i : Int), .int .u64 (e.k : Int), .int .u64 (e.l : Int), .int .u64 (e.x : Int)] 33)
    have hF6 := HF3.out.below (bel1 x3 (.cells #[.int .u64 (e.i : Int), .int .u64 (e.k : Int), .int .u64 (e.l : Int), .int .u64 (e.x : Int)] 33))
    obtain ⟨x9, hx6⟩ : ∃ x6, x3.alloc (.cells #[.int .u64 (e.i : Int), .int .u64 (e.k : Int), .int .u64 (e.l : Int), .int .u64 (e.x : Int)] 33) = x6 := ⟨_, rfl⟩
    obtain ⟨Z, hZ⟩ : ∃ Z, x3.heap.size = Z := ⟨_, rfl⟩
    rw [hx6] at hNS hMine hF6 ⊢
    rw [hZ] at hNS hMine ⊢
    have HF9 := Lib.hid hF6
    have HM9 := Lib.hid (And.intro hNS hMine)
    clear hHeld hO5 hx6 hZ HF3 hF6 hNS hMine
    refine hK1.out _ _ ⟨HF9.out.at0, HF9.out.at1⟩ (fun hHeld => ?_)
    clear hK1
    try simp only [Act.put, List.getElem_toArray, List.getElem_cons_zero, List.getElem_cons_succ, List.setIfInBounds_toArray, List.set_cons_zero, List.set_cons_succ]
    refine wpAnyH_ready (rs := [0]) (by kernel_rfl) (by simp) (AllReadyH.cons rfl (fun K1 hK1 => ?_) AllReadyH.nil)
    go_simp
    refine (clayout _).mono ?_
    rintro e10 x10 ⟨rfl, hb⟩
    have HF10 := Lib.hid (HF9.out.below hb)
    have HM10 := Lib.hid (And.intro (HM9.out.1.below hb) (HM9.out.2.went (Went.of_below (HO.out.below HF9.out.be) hb)))
    clear HM9
    clear hHeld hb HF9
    refine hK1.out _ _ ⟨HF10.out.at0, HF10.out.at1⟩ (fun hHeld => ?_)
    clear hK1
    try simp only [Act.put, List.getElem_toArray, List.getElem_cons_zero, List.getElem_cons_succ, List.setIfInBounds_toArray, List.set_cons_zero, List.set_cons_succ]
    refine wpAnyH_ready (rs := [4]) (by kernel_rfl) (by simp) (AllReadyH.cons rfl (fun K1 hK1 => ?_) AllReadyH.nil)
    go_simp
    refine (HSL.out _ (HO.out.below HF10.out.be)).mono ?_
    rintro e11 x11 ⟨rfl, hb⟩
    have HF11 := Lib.hid (HF10.out.below hb)
    have HM11 := Lib.hid (And.intro (HM10.out.1.below hb) (HM10.out.2.went (Went.of_below (HO.out.below HF10.out.be) hb)))
    clear HM10
    clear hHeld hb HF10 HSL
    refine hK1.out _ _ ⟨HF11.out.at0, HF11.out.at1⟩ (fun hHeld => ?_)
    clear hK1
    try simp only [Act.put, List.getElem_toArray, List.getElem_cons_zero, List.getElem_cons_succ, List.setIfInBounds_toArray, List.set_cons_zero, List.set_cons_succ]
    refine wpAnyH_ready (rs := [16]) (by kernel_rfl) (by simp) (AllReadyH.cons rfl (fun K1 hK1 => ?_) AllReadyH.nil)
    go_simp
    refine (fputn_yes (HO.out.below HF11.out.be) 4 F3 rec3 (40 + 24 * n) 24 (by have := HNB.out; omega) (by omega) (some ⟨Z, 0, none⟩) 4 (eX e) rfl HM11.out.1 (eX_bd HOK.out) (eX_short HOK.out) (fun b off e => by cases e; exact HM11.out.2.own) (40 + 24 * n) (addr_sl _) (by rw [addr_sl, F3_at.2.2.2.2]; have := HNB.out; exact cS_there (by omega) (by omega) (by omega))).mono ?_
    rintro e7 xe ⟨rfl, hO7, hG7⟩
    have hS7 := And.intro (hG7.keep (HO.out.below HF11.out.be) HF11.out.at0 (by decide) (by decide) (by decide)) (hG7.keep (HO.out.below HF11.out.be) HF11.out.at1 (by decide) (by decide) (by decide))
    have HW7 := Lib.hid (And.intro hO7 ((Went.of_below HO.out HF11.out.be).trans hG7))
    clear hHeld hO7 hG7 HF11 HM11
    refine hK1.out _ _ hS7 (fun hHeld => ?_)
    clear hK1
    try simp only [Act.put, List.getElem_toArray, List.getElem_cons_zero, List.getElem_cons_succ, List.setIfInBounds_toArray, List.set_cons_zero, List.set_cons_succ]
    refine wpAnyH_take (i := 17) (v := (.int .i64 0)) rfl (by kernel_rfl) (by kernel_rfl) (by kernel_rfl) (fun _ _ _ h => h) (Or.inl ⟨by rfl, fun X hS => ?_⟩) hHeld ?_
    · skip
      go_simp
    try simp only [Act.put, List.getElem_toArray, List.getElem_cons_zero, List.getElem_cons_succ, List.setIfInBounds_toArray, List.set_cons_zero, List.set_cons_succ]
    refine wpAnyH_done (by kernel_rfl) ?_ _
    clear hHeld
    go_wp2_with fail
    go_ret
    exact ⟨rfl, HW7.out.1, HW7.out.2⟩
end
end Go.Proofs.Ytcbbhefgdonabaa.Bt
