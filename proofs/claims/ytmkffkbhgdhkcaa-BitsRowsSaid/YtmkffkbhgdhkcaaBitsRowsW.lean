/- The walk of BitsRows: for every length, every acts, every number of rows it returns true. -/
import Derived.Test.YtmkffkbhgdhkcaaBitsVar
import Derived.Test.YtmkffkbhgdhkcaaBitsRowsMath
import Derived.Deep.RegionHeld3
namespace Go.Proofs.Ytmkffkbhgdhkcaa.Bt
open Go Go.RowKit Go.Shelf

attribute [local go_sem] Oper.semAt_some

/-- the set's variable, and the variable that holds its rows -/
def AllAt (AB : Nat) (es : List Nat) (x : World) : Prop := ∃ pv nv cv, x.cell? ⟨AB, 0, none⟩ = some (.slice pv nv cv) ∧ nv = es.length ∧ IntsRow x pv (flat (pairs es))
theorem IntsRow.below {w w' : World} {p : Option Addr} {zs : List Int} (h : IntsRow w p zs) (hb : Below w.heap.size w w') : IntsRow w' p zs := by
  rcases h with h | ⟨b, off, rfl, hlt, hc⟩
  · exact .inl h
  · exact .inr ⟨b, off, rfl, Nat.lt_of_lt_of_le hlt hb.size, fun k hk => (hb.cell (p := ⟨b, off + k, none⟩) hlt).trans (hc k hk)⟩
theorem AllAt.below {AB : Nat} {es : List Nat} {x y : World} (h : AllAt AB es x) (hb : Below x.heap.size x y) : AllAt AB es y := by
  obtain ⟨pv, nv, cv, hc, hn, hr⟩ := h
  exact ⟨pv, nv, cv, (hb.cell (p := ⟨AB, 0, none⟩) (World.block_lt_of_cell? _ _ hc)).trans hc, hn, hr.below hb⟩
def RInv (S AB L : Nat) (es : List Nat) (w0 x : World) : Prop := VarAt S L es x ∧ AllAt AB es x ∧ Below w0.heap.size w0 x
theorem RInv.below {S AB L : Nat} {es : List Nat} {w0 x y : World} (h : RInv S AB L es w0 x) (hb : Below x.heap.size x y) : RInv S AB L es w0 y :=
  ⟨h.1.below hb, h.2.1.below hb, h.2.2.trans (hb.mono h.2.2.size)⟩
def R1 (S AB L : Nat) (es : List Nat) (w0 : World) (c e i : Value) (x : World) : Prop :=
  ∃ k : Nat, k ≤ es.length / 2 ∧ i = .int .i64 (2 * k : Nat) ∧ c = .int .i64 (cntTo es k) ∧ e = .int .i64 (endTo es k) ∧ RInv S AB L es w0 x

/-- what a round reads, between its calls -/
def Cells5 (S AB bz o0 o1 : Nat) (a b c d e : Value) (x : World) : Prop :=
  x.cell? ⟨S, 0, none⟩ = some a ∧ x.cell? ⟨S, 1, none⟩ = some b ∧ x.cell? ⟨AB, 0, none⟩ = some c ∧ x.cell? ⟨bz, o0, none⟩ = some d ∧ x.cell? ⟨bz, o1, none⟩ = some e
theorem Cells5.below {S AB bz o0 o1 : Nat} {a b c d e : Value} {x y : World} (h : Cells5 S AB bz o0 o1 a b c d e x) (hb : Below x.heap.size x y) : Cells5 S AB bz o0 o1 a b c d e y := by
  obtain ⟨h1, h2, h3, h4, h5⟩ := h
  exact ⟨(hb.cell (World.block_lt_of_cell? _ _ h1)).trans h1, (hb.cell (World.block_lt_of_cell? _ _ h2)).trans h2, (hb.cell (World.block_lt_of_cell? _ _ h3)).trans h3, (hb.cell (World.block_lt_of_cell? _ _ h4)).trans h4, (hb.cell (World.block_lt_of_cell? _ _ h5)).trans h5⟩
def H16 (S AB L bz o0 o1 : Nat) (p : Option Addr) (es : List Nat) (w0 : World) (a b c d e : Value) (x : World) : Prop := Cells5 S AB bz o0 o1 a b c d e x ∧ RInv S AB L es w0 x ∧ RowAt x p es
theorem H16.below {S AB L bz o0 o1 : Nat} {p : Option Addr} {es : List Nat} {w0 : World} {a b c d e : Value} {x y : World} (h : H16 S AB L bz o0 o1 p es w0 a b c d e x) (hb : Below x.heap.size x y) : H16 S AB L bz o0 o1 p es w0 a b c d e y :=
  ⟨h.1.below hb, h.2.1.below hb, h.2.2.below hb⟩
theorem H16.all {S AB L bz o0 o1 : Nat} {p : Option Addr} {es : List Nat} {w0 : World} {a b c d e : Value} {x : World} (h : H16 S AB L bz o0 o1 p es w0 a b c d e x) :
    x.cell? ⟨S, 0, none⟩ = some a ∧ x.cell? ⟨S, 1, none⟩ = some b ∧ x.cell? ⟨AB, 0, none⟩ = some c ∧ x.cell? ⟨bz, o0, none⟩ = some d ∧ x.cell? ⟨bz, o1, none⟩ = some e ∧ H16 S AB L bz o0 o1 p es w0 a b c d e x := ⟨h.1.1, h.1.2.1, h.1.2.2.1, h.1.2.2.2.1, h.1.2.2.2.2, h⟩

theorem kept_put (w : World) (b D : Nat) (hb : b ≠ D) (o : Obj) : (w.putObj D o).cell? ⟨b, 0, none⟩ = w.cell? ⟨b, 0, none⟩ := by
  have : (w.putObj D o).heap[b]? = w.heap[b]? := by simp [World.putObj, Ne.symm hb]
  simp [World.cell?, this]
theorem res_cell {fn : Func} {t : Tmp} {ty : TypeId} {P : Program} (h : fn.results = #[.cell t ty]) (ha : ∀ w, (isAgg ty).run P w = .ok false w)
    (tmps : Array Value) (w : World) (b : Nat) (x : Bool) (ht : tmps[t]?.getD undef = .pointer (some ⟨b, 0, none⟩)) (hc : w.cell? ⟨b, 0, none⟩ = some (.bool x)) :
    (results fn tmps).run P w = .ok (.bool x) w := by
  simp [results, h, ht, asAddr, loadVar, hc, Result.andThen, ha]
set_option maxRecDepth 100000 in
theorem bool_plain (w : World) : (isAgg 4).run Try.prog w = .ok false w := run_isAgg_plain (d := _) (by rfl) (by rfl) w
def H28 (S L : Nat) (p : Option Addr) (m cap : Nat) (es : List Nat) (w0 x : World) : Prop := (x.cell? ⟨S, 0, none⟩ = some (.int .i64 (L : Int)) ∧ x.cell? ⟨S, 1, none⟩ = some (.slice p m cap)) ∧ Below w0.heap.size w0 x ∧ RowAt x p es
theorem H28.below {S L : Nat} {p : Option Addr} {m cap : Nat} {es : List Nat} {w0 x y : World} (h : H28 S L p m cap es w0 x) (hb : Below x.heap.size x y) : H28 S L p m cap es w0 y :=
  ⟨⟨(hb.cell (World.block_lt_of_cell? _ _ h.1.1)).trans h.1.1, (hb.cell (World.block_lt_of_cell? _ _ h.1.2)).trans h.1.2⟩, h.2.1.trans (hb.mono h.2.1.size), h.2.2.below hb⟩
theorem H28.all {S L : Nat} {p : Option Addr} {m cap : Nat} {es : List Nat} {w0 x : World} (h : H28 S L p m cap es w0 x) :
    x.cell? ⟨S, 0, none⟩ = some (.int .i64 (L : Int)) ∧ x.cell? ⟨S, 1, none⟩ = some (.slice p m cap) ∧ H28 S L p m cap es w0 x := ⟨h.1.1, h.1.2, h⟩

set_option maxRecDepth 100000 in
set_option maxHeartbeats 8000000 in
theorem rows_walk (a0 a2 : Int) (p1 : Option Addr) (c1 : Nat) (acts : List ActL) (hacts : acts.length ≤ 9223372036854775807) (w : World) (h1 : ActsAt w p1 acts) (hl : acts.length ≤ 60) (h0 : a0 ≤ 2000) (hq : 0 ≤ a2) (hq2 : a2 ≤ 255) :
    CallsIn Fence.wide 5 Try.prog 4 #[.int .i64 a0, .slice p1 acts.length c1, .int .u8 a2] w (TrueAt w) := by
  refine callsIn_of_wp_marks Try.func4 rfl trivial ?_ rfl
  simp only [Try.ntmps4, List.size_toArray, List.length_cons, List.length_nil, Nat.reduceAdd, Nat.reduceSub, Array.replicate_succ, Array.replicate_zero, List.push_toArray, List.append_toArray, List.nil_append, List.cons_append]
  gi_wp2_with fail
  obtain ⟨w0, hX⟩ : ∃ w0, (w.alloc (.cells #[.int .u8 a2] 5)).alloc (.cells #[.bool false] 4) = w0 := ⟨_, rfl⟩
  have B0 : Below w.heap.size w w0 := by rw [← hX]; exact ((Below.refl _ _).alloc (Nat.le_refl _) _).alloc (by simp) _
  have D0 : w0.cell? ⟨w.heap.size, 0, none⟩ = some (.int .u8 a2) := by rw [← hX]; simp
  have Rc : w0.cell? ⟨w.heap.size + 1, 0, none⟩ = some (.bool false) := by rw [← hX]; simp
  have Rf : w0.frozen? ⟨w.heap.size + 1, 0, none⟩ = false := by rw [← hX]; simp
  have Sz : w0.heap.size = w.heap.size + 2 := by rw [← hX]; simp
  rw [hX]
  have h1' := h1.below B0
  clear hX h1
  refine ⟨trivial, (callsIn_wide.2 (awake_calls _)).mono ?_⟩
  rintro e w1 ⟨rfl, hb1⟩
  have Rc1 := (hb1.cell (p := ⟨w.heap.size + 1, 0, none⟩) (by show w.heap.size + 1 < w0.heap.size; omega)).trans Rc
  have Rf1 := (hb1.frozen (p := ⟨w.heap.size + 1, 0, none⟩) (by show w.heap.size + 1 < w0.heap.size; omega)).trans Rf
  gi_wp2_with fail
  refine ⟨trivial, (callsIn_wide.2 (new_any _ _)).mono ?_⟩
  rintro e w2 ⟨rfl, hb2⟩
  have hL := lenN_le a0
  generalize lenN a0 = L at *
  have B2 : Below w0.heap.size w0 w2 := hb1.trans (hb2.mono hb1.size)
  gi_wp2_with fail
  have HV := VarAt.new w2 L hL
  have B3 : Below w0.heap.size w0 (w2.alloc (.cells #[.int .i64 (L : Int), .slice none 0 0] 26)) := B2.alloc B2.size _
  have hS : w0.heap.size ≤ w2.heap.size := B2.size
  generalize w2.alloc (.cells #[.int .i64 (L : Int), .slice none 0 0] 26) = w3 at *
  generalize w2.heap.size = S at *
  gi_loopw [34] (fun i x => RunRel S L w0 acts.length i x) (fun i _ => acts.length - (intOf i).toNat)
  case atStart => exact ⟨0, [], by omega, rfl, HV, B3⟩
  case round =>
    obtain ⟨k, es, hk, rfl, hv, hB⟩ := hrel
    have HVr := hv
    by_cases hlt : k < acts.length
    · have HA := h1'.below hB
      rcases HA with h | ⟨b, off, rfl, hbl, hc⟩
      · rw [h] at hlt; simp at hlt
      · obtain ⟨⟨e0, e1, e2⟩, hok⟩ := hc k hlt
        obtain ⟨act, hact⟩ : ∃ act, acts[k] = act := ⟨_, rfl⟩
        rw [hact] at e0 e1 e2 hok
        obtain ⟨inn, fr, n⟩ := act
        simp only at e0 e1 e2
        have BA : Below w0.heap.size w0 (wr.alloc (.cells #[.bool inn, .int .i64 fr, .int .i64 n] 33)) := hB.alloc hB.size _
        have HVa := hv.below ((Below.refl _ _).alloc (Nat.le_refl _) (.cells #[.bool inn, .int .i64 fr, .int .i64 n] 33))
        have HVk := HVa
        have hSl := hv.lt
        obtain ⟨p, m, cap, g, c0, c1', z0, z1, hr, hn, hcp, hpn, hne⟩ := HVa
        have HN := Lib.hid hn; have HP := Lib.hid hpn; have HQ := Lib.hid hne
        clear hn hpn hact hc h1' hne hv
        gi_wp2_with fail
        refine ⟨trivial, (callsIn_wide.2 (done_none L p m cap es ⟨inn, fr, n⟩ none 0 _ g hr HN.out hcp HP.out hok.2.1)).mono ?_⟩
        rintro e w5 ⟨p', n', cap', q, cq, tt, rfl, hn', hc', hp', hr', hpp', hb5⟩
        have HN' := Lib.hid hn'; have HP' := Lib.hid hp'; clear hn' hp'
        have HV5 := HVk.below hb5
        have HS := HV5.store (laidS_good g fr n inn) hr' HN'.out hc' HP'.out hpp' HQ.out (by simp; omega)
        have BF : Below w0.heap.size w0 ((w5.setCell ⟨S, 0, none⟩ (.int .i64 (L : Int))).setCell ⟨S, 1, none⟩ (.slice p' n' cap')) := ((BA.trans (hb5.mono BA.size)).setCell (p := ⟨S, 0, none⟩) hS _).setCell (p := ⟨S, 1, none⟩) hS _
        obtain ⟨_, _, _, _, d0, d1, y0, y1, _⟩ := HV5
        gi_wp2_with fail
        go_roundw
        case rel => exact ⟨k + 1, _, by omega, by go_num, HS, BF⟩
        case measure => simp [intOf]; omega
    · have HVr2 := Lib.hid HVr
      obtain ⟨p, m, cap, g, c0, c1', z0, z1, hr, hn, hcp, hpn, hne⟩ := hv
      have HN := Lib.hid hn; have HP := Lib.hid hpn
      clear hn hpn h1' hne HVr Rc1 Rf1
      have hLs := g.small
      have hgl := good_len g
      have hev := g.even
      gi_wp2_with fail
      refine ⟨trivial, (callsIn_wide.2 (rows_any L p m cap es _ g HN.out hr)).mono ?_⟩
      rintro e w5 ⟨v, rfl, hv, hb5⟩
      obtain ⟨pv, cv, rfl, hvr⟩ := hv.row
      rw [flat_pairs_len g]
      have B5 := hB.trans (hb5.mono hB.size)
      have BA : Below w5.heap.size w5 (w5.alloc (.cells #[.slice pv es.length cv] 24)) := (Below.refl _ _).alloc (Nat.le_refl _) _
      have HI : RInv S w5.heap.size L es w0 (w5.alloc (.cells #[.slice pv es.length cv] 24)) := ⟨(HVr2.out.below hb5).below BA, ⟨pv, es.length, cv, by simp, rfl, hvr.below BA⟩, B5.trans (BA.mono B5.size)⟩
      clear c0 c1' z0 z1
      gi_wp2_with fail
      obtain ⟨AB, hAB⟩ : ∃ AB, w5.heap.size = AB := ⟨_, rfl⟩
      have hSA : w0.heap.size ≤ AB := by rw [← hAB]; exact B5.size
      rw [hAB] at HI ⊢
      obtain ⟨w6, hw6⟩ : ∃ w6, w5.alloc (.cells #[.slice pv es.length cv] 24) = w6 := ⟨_, rfl⟩
      rw [hw6] at HI ⊢
      clear hAB hw6 hv hvr B5 BA hb5 HVr2
      gi_loopw [11, 12, 13] (fun c e i x => R1 S AB L es w0 c e i x) (fun _ _ i _ => es.length - (intOf i).toNat)
      case atStart => exact ⟨0, by omega, rfl, rfl, rfl, HI⟩
      case round =>
        obtain ⟨k, hk, rfl, rfl, rfl, hI⟩ := hrel
        have HIh := Lib.hid hI
        obtain ⟨hv, ⟨pa, na, ca, hca, hna, hra⟩, hBx⟩ := hI
        have HNA := Lib.hid hna
        have hnl : na ≤ 1048577 := by omega
        clear hna
        by_cases hlt : k < es.length / 2
        · obtain ⟨f1, f2, f3, f4⟩ := rows_at g hlt
          obtain ⟨hw, hcv⟩ := count_row_is g hlt
          have hend := endTo_lt g hlt
          have hcb := cntTo_bd g k (by omega)
          have hsc := cntTo_succ es k
          have hse := endTo_succ es k
          obtain ⟨bz, oz, rfl, hbz, hcz⟩ : ∃ b off, pa = some ⟨b, off, none⟩ ∧ b < wr.heap.size ∧ ∀ j, j < (flat (pairs es)).length → wr.cell? ⟨b, off + j, none⟩ = some (.int .i64 ((flat (pairs es)).getD j 0)) := by
            rcases hra with h | ⟨b, off, h, hlt', hc⟩
            · have := flat_pairs_len g; rw [h] at this; simp at this; omega
            · exact ⟨b, off, h, hlt', hc⟩
          have hx0 := hcz (2 * k) (by rw [flat_pairs_len g]; omega)
          have hx1 := hcz (2 * k + 1) (by rw [flat_pairs_len g]; omega)
          rw [f1] at hx0; rw [f2] at hx1
          generalize es.getD (2 * k) 0 = u at *
          generalize es.getD (2 * k + 1) 0 = v at *
          generalize endTo es k = E at *
          generalize cntTo es k = C at *
          have HW := Lib.hid hw; have HC := Lib.hid hcv; have HSC := Lib.hid hsc; have HSE := Lib.hid hse
          have HEr : Hid (laidErr L (u : Int) ((v : Int) - u) = 0) := Lib.hid (by unfold laidErr; rw [HW.out]; rfl)
          have hkn : 2 * k + 1 < na := by rw [HNA.out]; omega
          clear hw hcv hsc hse hcz f1 f2 hra
          obtain ⟨p, m, cap, _, c0, c1', _, _, hr, hn, _, _, _⟩ := hv
          have HN := Lib.hid hn; clear hn
          have w1' : IntKind.i64.wrap (2 * (k : Int) + 1) = 2 * (k : Int) + 1 := IntWalk.i64_in _ (by omega)
          have w3' : (2 * (k : Int) + 1).toNat = 2 * k + 1 := by omega
          have w4' : 0 ≤ 2 * (k : Int) + 1 := by omega
          have w5' : 2 * (k : Int) + 1 < na := by omega
          have w6' : 0 ≤ 2 * (k : Int) := by omega
          have w7' : 2 * (k : Int) < na := by omega
          have w8' : (2 * (k : Int)).toNat = 2 * k := by omega
          gi_wp2_with fail
          refine wpIn_wide.2 ?_
          have HH : H16 S AB L bz (oz + 2 * k) (oz + (2 * k + 1)) p es w0 (.int .i64 (L : Int)) (.slice p m cap) (.slice (some ⟨bz, oz, none⟩) na ca) (.int .i64 (u : Int)) (.int .i64 ((v : Int) - u)) wr := ⟨⟨c0, c1', hca, hx0, hx1⟩, HIh.out, hr⟩
          go_region_held3 (fun x => x.cell? ⟨S, 0, none⟩ = some (.int .i64 (L : Int)) ∧ x.cell? ⟨S, 1, none⟩ = some (.slice p m cap) ∧ x.cell? ⟨AB, 0, none⟩ = some (.slice (some ⟨bz, oz, none⟩) na ca) ∧ x.cell? ⟨bz, oz + 2 * k, none⟩ = some (.int .i64 (u : Int)) ∧ x.cell? ⟨bz, oz + (2 * k + 1), none⟩ = some (.int .i64 ((v : Int) - u)) ∧ H16 S AB L bz (oz + 2 * k) (oz + (2 * k + 1)) p es w0 (.int .i64 (L : Int)) (.slice p m cap) (.slice (some ⟨bz, oz, none⟩) na ca) (.int .i64 (u : Int)) (.int .i64 ((v : Int) - u)) x)
            (first | exact (HH.below (Below.refl _ _).drew).all | assumption)
            (first | (go_at_call 24; refine (count_any L p m cap es (u : Int) ((v : Int) - u) _ g HN.out ?_ (by omega)).mono ?_; (exact (HH.below (Below.refl _ _).drew).2.2); rintro e w' ⟨rfl, hbb⟩; have hnx := ((HH.below (Below.refl _ _).drew).below hbb).all))
          obtain ⟨d0, d1, d2, d3, d4, HH2⟩ := hnx
          clear HH c0 c1' hca hx0 hx1 w1'
          simp only [HC.out, HEr.out]
          have hg1 : (((v : Int) - u) != ((v : Int) - u)) = false := by simp
          have hg2 : ¬ ((v : Int) - u) < 1 := by omega
          have hg3 : ¬ (u : Int) ≤ E := by omega
          have q1 : IntKind.i64.wrap (C + ((v : Int) - u)) = C + ((v : Int) - u) := IntWalk.i64_in _ (by omega)
          have q2 : IntKind.i64.wrap ((u : Int) + ((v : Int) - u)) = v := by rw [show (u : Int) + ((v : Int) - u) = v from by omega]; exact IntWalk.i64_in _ (by omega)
          gi_wp2_with fail
          refine wpIn_wide.2 ?_
          go_quiet (fail)
          clear q1 q2 w3' w8'
          gi_wp2_with fail
          go_roundw
          case rel => exact ⟨k + 1, by omega, by go_num, by rw [HSC.out], by rw [HSE.out], HH2.2.1.below (below_drewN (Below.refl _ _) _)⟩
          case measure => simp [intOf]; omega
        · have hkh : k = es.length / 2 := by omega
          have HKH := Lib.hid hkh; clear hkh
          have hkl : k ≤ 524288 := by omega
          have hcb := cntTo_bd g k hk
          have hel : endTo es k ≤ 1048576 := by
            unfold endTo; split
            · omega
            · have : es.getD (2 * k - 1) 0 ≤ L := by
                apply g.le; rw [List.getD_eq_getElem?_getD, List.getElem?_eq_getElem (by have := HKH.out; omega)]; exact List.getElem_mem _
              omega
          have hct := HKH.out ▸ (count_total g).2
          have HCT := Lib.hid hct
          have HET : Hid (laidErr L 0 (L : Int) = 0) := Lib.hid (by unfold laidErr; rw [(count_total g).1]; rfl)
          clear hct
          generalize cntTo es k = C at *
          generalize endTo es k = E at *
          obtain ⟨⟨p, m, cap, _, y0, y1, _, _, hr0, hn, _, _, _⟩, _, _⟩ := HIh.out
          have BA1 : Below wr.heap.size wr (wr.alloc (.cells #[.int .i64 0] 3)) := (Below.refl _ _).alloc (Nat.le_refl _) _
          have c0 := (BA1.cell (p := ⟨S, 0, none⟩) (World.block_lt_of_cell? _ _ y0)).trans y0
          have c1' := (BA1.cell (p := ⟨S, 1, none⟩) (World.block_lt_of_cell? _ _ y1)).trans y1
          have hr := hr0.below BA1
          have HR0 := Lib.hid hr0
          clear y0 y1 hr0
          have HN := Lib.hid hn; clear hn hv hra hBx
          have hkn : na ≤ 2 * k + 1 := by have := HNA.out; have := HKH.out; omega
          gi_wp2_with (refine ⟨trivial, ?_⟩; gi_at_call 25; refine (callsIn_wide.2 (rows_fn L p m cap _)).mono ?_; rintro e w' ⟨rfl, rfl⟩)
          have kT : (wr.alloc (.cells #[.int .i64 0] 3)).cell? ⟨wr.heap.size, 0, none⟩ = some (.int .i64 0) := by simp
          have kZ : (wr.alloc (.cells #[.int .i64 0] 3)).frozen? ⟨wr.heap.size, 0, none⟩ = false := by simp
          have BX : Below wr.heap.size wr ((wr.alloc (.cells #[.int .i64 0] 3)).alloc (.cells #[.int .i64 (L : Int), .slice p m cap] 26)) := ((Below.refl _ _).alloc (Nat.le_refl _) _).alloc (by simp) _
          have hc1 : ((wr.alloc (.cells #[.int .i64 0] 3)).alloc (.cells #[.int .i64 (L : Int), .slice p m cap] 26)).cell? ⟨wr.heap.size + 1, 1, none⟩ = some (.slice p m cap) := by simp
          have hsz : ((wr.alloc (.cells #[.int .i64 0] 3)).alloc (.cells #[.int .i64 (L : Int), .slice p m cap] 26)).heap.size = wr.heap.size + 2 := by simp
          have hSlt := HIh.out.1.lt
          obtain ⟨b, hbl, hbT, hRow⟩ : ∃ b, b < wr.heap.size + 2 ∧ b ≠ wr.heap.size ∧ RowIn b ((wr.alloc (.cells #[.int .i64 0] 3)).alloc (.cells #[.int .i64 (L : Int), .slice p m cap] 26)) p es := by
            rcases HR0.out with ⟨rfl, rfl⟩ | ⟨b, off, rfl, hbl, hc⟩
            · exact ⟨wr.heap.size + 1, by omega, by omega, .inl ⟨rfl, rfl⟩⟩
            · exact ⟨b, by omega, by omega, .inr ⟨off, rfl, fun k hk => (BX.cell (p := ⟨b, off + k, none⟩) hbl).trans (hc k hk)⟩⟩
          apply wpIn_rangeFunc_ownF (n := 5) rfl (by omega) (gf := 76) (lb := #[.pointer (some ⟨wr.heap.size + 1, 0, none⟩)]) rfl trivial (enters_of Try.func76 (by kernel_rfl) rfl)
            (rows_stops (5 - 1) (wr.heap.size + 1) b L m cap p es g HN.out _ (by rw [hsz]; omega) (by rw [hsz]; omega) hc1 hRow) K2.trans (K2.put (by rw [hsz]; omega) (by rw [hsz]; omega)) (Below.refl _ _) (fun _ => rfl)
            (fun pre W => (W.cell? ⟨wr.heap.size, 0, none⟩ = some (.int .i64 (pre.length : Int)) ∧ W.frozen? ⟨wr.heap.size, 0, none⟩ = false) ∧ (Below wr.heap.size wr W ∧ (pre.length : Int) ≤ a2))
            (fun c pre W => (c = .ret ∧ pre ≠ pairsTo es pre.length) ∨ (c = .exit 4 ∧ ((W.cell? ⟨wr.heap.size, 0, none⟩ = some (.int .i64 (pre.length : Int)) ∧ W.frozen? ⟨wr.heap.size, 0, none⟩ = false) ∧ (Below wr.heap.size wr W ∧ (pre.length : Int) = a2 + 1))))
            ?hI ?hIx ?h0
          case hassign =>
            intro l x W K hK
            simp only [encPr]
            gi_wp2
            exact hK
          case hI =>
            refine OwnFrom.and (Own.from (fun s A B row hs hg hr => ⟨cell_kept hs.1 hg hr, (frozen_kept hs.1 hg hr).trans hs.2⟩) _) (fun s X Y row hs hg hr => ⟨hs.1.grown hg hs.1.size (fun r e => ?_), hs.2⟩)
            have := (hr r e).1; rw [hsz] at this; omega
          case hIx =>
            intro c s X Y row hs hg hr
            rcases hs with hs | ⟨h1, ⟨h2, h3⟩, h4, h5⟩
            · exact .inl hs
            · refine .inr ⟨h1, ⟨cell_kept h2 hg (fun r e => (hr r e).2), (frozen_kept h2 hg (fun r e => (hr r e).2)).trans h3⟩, h4.grown hg h4.size (fun r e => ?_), h5⟩
              have := (hr r e).1; rw [hsz] at this; omega
          case h0 =>
            exact ⟨⟨by rw [((Below.refl _ _).alloc (Nat.le_refl _) _ : Below (wr.alloc (.cells #[.int .i64 0] 3)).heap.size _ _).cell (p := ⟨wr.heap.size, 0, none⟩) (by simp)]; exact kT, by rw [((Below.refl _ _).alloc (Nat.le_refl _) _ : Below (wr.alloc (.cells #[.int .i64 0] 3)).heap.size _ _).frozen (p := ⟨wr.heap.size, 0, none⟩) (by simp)]; exact kZ⟩, BX, by simpa using hq⟩
          case hbody =>
            rintro l pre x W ⟨⟨hcK, hfK⟩, hBW, hpl⟩ hlt
            have hlen : pre.length < es.length / 2 := hlt
            have hIW := HIh.out.below hBW
            obtain ⟨hvW, ⟨pa', na', ca', hcaW, hnaW, hraW⟩, hBxW⟩ := hIW
            have HNW := Lib.hid hnaW
            obtain ⟨f1, f2, f3, f4⟩ := rows_at g hlen
            obtain ⟨bz, oz, rfl, hbz, hcz⟩ : ∃ b off, pa' = some ⟨b, off, none⟩ ∧ b < W.heap.size ∧ ∀ j, j < (flat (pairs es)).length → W.cell? ⟨b, off + j, none⟩ = some (.int .i64 ((flat (pairs es)).getD j 0)) := by
              rcases hraW with h | ⟨b, off, h, hlt', hc⟩
              · have := flat_pairs_len g; rw [h] at this; simp at this; omega
              · exact ⟨b, off, h, hlt', hc⟩
            have hx0 := hcz (2 * pre.length) (by rw [flat_pairs_len g]; omega)
            have hx1 := hcz (2 * pre.length + 1) (by rw [flat_pairs_len g]; omega)
            rw [f1] at hx0; rw [f2] at hx1
            have D0W : W.cell? ⟨w.heap.size, 0, none⟩ = some (.int .u8 a2) := (hBxW.cell (p := ⟨w.heap.size, 0, none⟩) (by show w.heap.size < w0.heap.size; omega)).trans D0
            have RcW : W.cell? ⟨w.heap.size + 1, 0, none⟩ = some (.bool false) := (hBxW.cell (p := ⟨w.heap.size + 1, 0, none⟩) (by show w.heap.size + 1 < w0.heap.size; omega)).trans Rc
            have RfW : W.frozen? ⟨w.heap.size + 1, 0, none⟩ = false := (hBxW.frozen (p := ⟨w.heap.size + 1, 0, none⟩) (by show w.heap.size + 1 < w0.heap.size; omega)).trans Rf
            have hwr : w0.heap.size ≤ wr.heap.size := HIh.out.2.2.size
            have hn1 : ¬ wr.heap.size = w.heap.size := by omega
            have hn2 : ¬ w.heap.size = wr.heap.size := by omega
            have hps := Lib.hid (pairsTo_succ es pre.length)
            have hpv : Hid ((pairAt es pre.length).1.1 = es.getD (2 * pre.length) 0 ∧ ((pairAt es pre.length).1.2 : Int) = (es.getD (2 * pre.length + 1) 0 : Int) - (es.getD (2 * pre.length) 0 : Int)) := Lib.hid (pair_vals g (by omega))
            obtain ⟨⟨a, c⟩, hxx⟩ := x
            have hna : 2 * pre.length + 1 < na' := by rw [HNW.out]; omega
            have hnb : na' ≤ 1048577 := by rw [HNW.out]; exact hgl
            clear hnaW hraW hcz f1 f2 hvW
            obtain ⟨u, hu⟩ : ∃ u, es.getD (2 * pre.length) 0 = u := ⟨_, rfl⟩
            obtain ⟨v, hv⟩ : ∃ v, es.getD (2 * pre.length + 1) 0 = v := ⟨_, rfl⟩
            rw [hu, hv] at hpv hx1 f3
            rw [hu] at hx0
            rw [hv] at f4
            clear hu hv
            by_cases e1 : a = u
            · by_cases e2 : (c : Int) = (v : Int) - u
              · have hb1 : ((a : Int) != (u : Int)) = false := by rw [bne_eq_false_iff_eq]; omega
                have hb2 : ((c : Int) != (v : Int) - u) = false := by rw [bne_eq_false_iff_eq]; exact e2
                clear e1 e2
                have hK2 : K2 (wr.heap.size + 1) b W (W.setCell ⟨wr.heap.size, 0, none⟩ (.int .i64 ((pre.length : Int) + 1))) := ⟨Below.heap_setCell W ⟨wr.heap.size, 0, none⟩ _ _ (by show wr.heap.size + 1 ≠ wr.heap.size; omega), Below.heap_setCell W ⟨wr.heap.size, 0, none⟩ _ _ (by exact hbT)⟩
                have hKc : (W.setCell ⟨wr.heap.size, 0, none⟩ (.int .i64 ((pre.length : Int) + 1))).cell? ⟨wr.heap.size, 0, none⟩ = some (.int .i64 ((pre.length : Int) + 1)) := World.cell?_setCell_same' _ _ _ (by simp [hcK])
                have hKf : (W.setCell ⟨wr.heap.size, 0, none⟩ (.int .i64 ((pre.length : Int) + 1))).frozen? ⟨wr.heap.size, 0, none⟩ = false := (World.frozen?_setCell _ _ _ _).trans hfK
                have hKb : Below wr.heap.size wr (W.setCell ⟨wr.heap.size, 0, none⟩ (.int .i64 ((pre.length : Int) + 1))) := hBW.setCell (p := ⟨wr.heap.size, 0, none⟩) (Nat.le_refl _) _
                have hln : Hid (((pre ++ [(⟨(a, c), hxx⟩ : Pr)]).length : Int) = (pre.length : Int) + 1) := Lib.hid (by simp)
                by_cases hst : a2 < (pre.length : Int) + 1
                · gi_wp2_with fail
                  exact ⟨KeepsOthers.setCell _ _ _, .inr ⟨rfl, ⟨by rw [hln.out]; exact hKc, hKf⟩, hKb, by rw [hln.out]; omega⟩⟩
                · gi_wp2_with fail
                  exact ⟨KeepsOthers.setCell _ _ _, hK2, ⟨by rw [hln.out]; exact hKc, hKf⟩, hKb, by rw [hln.out]; omega⟩
              · have hb1 : ((a : Int) != (u : Int)) = false := by rw [bne_eq_false_iff_eq]; omega
                have hb2 : ((c : Int) != (v : Int) - u) = true := by rw [bne_iff_ne]; exact e2
                have hne : Hid ((pre ++ [⟨(a, c), hxx⟩] : List Pr) ≠ pairsTo es (pre ++ [(⟨(a, c), hxx⟩ : Pr)]).length) := Lib.hid fun h => by
                  rw [List.length_append, List.length_singleton, hps.out] at h
                  have h2 := (List.append_inj' h rfl).2
                  simp only [List.cons.injEq, and_true] at h2
                  have := hpv.out.2; rw [← h2] at this; exact e2 this
                clear e1 e2
                gi_wp2_with fail
                exact ⟨KeepsOthers.setCell _ _ _, .inl ⟨rfl, hne.out⟩⟩
            · have hb1 : ((a : Int) != (u : Int)) = true := by rw [bne_iff_ne]; omega
              have hne : Hid ((pre ++ [⟨(a, c), hxx⟩] : List Pr) ≠ pairsTo es (pre ++ [(⟨(a, c), hxx⟩ : Pr)]).length) := Lib.hid fun h => by
                rw [List.length_append, List.length_singleton, hps.out] at h
                have h2 := (List.append_inj' h rfl).2
                simp only [List.cons.injEq, and_true] at h2
                have := hpv.out.1; rw [← h2] at this; exact e1 this
              clear e1
              gi_wp2_with fail
              exact ⟨KeepsOthers.setCell _ _ _, .inl ⟨rfl, hne.out⟩⟩
          case' hdone =>
            rintro D pre W hD hxs ⟨⟨hcK, hfK⟩, hBW, hpl⟩ hK
            have hfin : (pre.length : Int) ≤ a2 + 1 ∧ pre.length ≤ es.length / 2 ∧ ((pre.length : Int) = a2 + 1 ∨ pre.length = es.length / 2) := by
              have : pre.length = es.length / 2 := by rw [hxs, pairs_len]
              exact ⟨by omega, by omega, .inr this⟩
            clear hxs hpl
          case' hstop =>
            rintro D c pre W hD ⟨k', hk', hpre⟩ hh hK
            have hpl' : pre.length = k' := by rw [hpre, pairsTo_length]
            rcases hh with ⟨_, hne⟩ | ⟨rfl, ⟨hcK, hfK⟩, hBW, hpl⟩
            · exact absurd (by rw [hpl']; exact hpre) hne
            have hfin : (pre.length : Int) ≤ a2 + 1 ∧ pre.length ≤ es.length / 2 ∧ ((pre.length : Int) = a2 + 1 ∨ pre.length = es.length / 2) := ⟨by omega, by omega, .inl hpl⟩
            clear hpre hpl hpl' hk'
          all_goals
            clear hbT hRow HR0 hc1 kT kZ
            have hIW := HIh.out.below hBW
            have HIW := Lib.hid hIW
            obtain ⟨⟨p', m', cap', _, d0, d1, _, _, hr', hn', _, _, _⟩, ⟨pa', na', ca', hcaW, hnaW, _⟩, hBxW⟩ := hIW
            have HN' := Lib.hid hn'; have HNW := Lib.hid hnaW
            clear hn' hnaW c0 c1' hr
            have D0W : W.cell? ⟨w.heap.size, 0, none⟩ = some (.int .u8 a2) := (hBxW.cell (p := ⟨w.heap.size, 0, none⟩) (by show w.heap.size < w0.heap.size; omega)).trans D0
            have RcW : W.cell? ⟨w.heap.size + 1, 0, none⟩ = some (.bool false) := (hBxW.cell (p := ⟨w.heap.size + 1, 0, none⟩) (by show w.heap.size + 1 < w0.heap.size; omega)).trans Rc
            have RfW : W.frozen? ⟨w.heap.size + 1, 0, none⟩ = false := (hBxW.frozen (p := ⟨w.heap.size + 1, 0, none⟩) (by show w.heap.size + 1 < w0.heap.size; omega)).trans Rf
            gi_wp2_with fail
            refine wpIn_wide.2 ?_
            have HH : H28 S L p' m' cap' es W W := ⟨⟨d0, d1⟩, Below.refl _ _, hr'⟩
            clear hr' d0 d1
            go_region_held3 (fun x => x.cell? ⟨S, 0, none⟩ = some (.int .i64 (L : Int)) ∧ x.cell? ⟨S, 1, none⟩ = some (.slice p' m' cap') ∧ H28 S L p' m' cap' es W x)
              (first | exact (HH.below (Below.refl _ _).drew).all | assumption)
              (first | (go_at_call 17; refine (len_any L p' m' cap' _).mono ?_; rintro e w' ⟨rfl, hbb⟩; have hnx := ((HH.below (Below.refl _ _).drew).below hbb).all)
                     | (go_at_call 24; refine (count_any L p' m' cap' es 0 (L : Int) _ g HN'.out ?_ (by omega)).mono ?_; (have hh := hnx.2.2.2.2; exact hh); rintro e w'' ⟨rfl, hbc⟩; have hny := (hnx.2.2.below hbc).all))
            obtain ⟨_, _, HHf⟩ := hny
            have BWX := HHf.2.1
            have hDX : w''.heap[D]? = some (.deferred (some [])) := (BWX.block D (Array.getElem?_eq_some_iff.1 hK).1).trans hK
            clear HH HHf
            simp only [HCT.out, HET.out]
            have kX := (BWX.cell (World.block_lt_of_cell? _ _ hcK)).trans hcK
            have aX := (BWX.cell (World.block_lt_of_cell? _ _ hcaW)).trans hcaW
            have dX := (BWX.cell (World.block_lt_of_cell? _ _ D0W)).trans D0W
            have rX := (BWX.cell (World.block_lt_of_cell? _ _ RcW)).trans RcW
            have fX := (BWX.frozen (World.block_lt_of_cell? _ _ RcW)).trans RfW
            clear hcK hcaW D0W RcW RfW
            have hgg : (C != C) = false := by simp
            have HZ : Hid (wrap64 ((na' : Int) / 2) = ((es.length / 2 : Nat) : Int)) := Lib.hid (by have := HNW.out; unfold wrap64; omega)
            have HWD : Hid (w.heap.size + 1 ≠ D) := Lib.hid (by have := HIh.out.2.2.size; omega)
            have HDS : Hid (w.heap.size ≤ D) := Lib.hid (by have := HIh.out.2.2.size; omega)
            have HV2 : Hid ((a2 + 1 ≤ ((es.length / 2 : Nat) : Int) → ((pre.length : Int) == a2 + 1) = true) ∧ (¬ a2 + 1 ≤ ((es.length / 2 : Nat) : Int) → ((pre.length : Int) == ((es.length / 2 : Nat) : Int)) = true)) := Lib.hid (by
              rw [beq_iff_eq, beq_iff_eq]; constructor <;> intro hq9 <;> omega)
            have hw1 : IntKind.i64.wrap (a2 + 1) = a2 + 1 := IntWalk.i64_in _ (by omega)
            gi_wp2_with fail
            all_goals
              clear hw1
              rw [HZ.out] at h
              try rw [HZ.out]
              have hwD := HWD.out
              first | rw [HV2.out.1 h] | rw [HV2.out.2 h]
              have hcR : ((w''.setCell ⟨w.heap.size + 1, 0, none⟩ (.bool true)).putObj D (.deferred none)).cell? ⟨w.heap.size + 1, 0, none⟩ = some (.bool true) := by
                rw [kept_put _ _ _ hwD]
                exact World.cell?_setCell_same' _ _ _ (by simp [rX])
              have hcD : (w''.setCell ⟨w.heap.size + 1, 0, none⟩ (.bool true)).heap[D]? = some (.deferred (some [])) := (Below.heap_setCell w'' ⟨w.heap.size + 1, 0, none⟩ _ _ (by show D ≠ w.heap.size + 1; exact Ne.symm hwD)).trans hDX
              have hBR : Below w.heap.size w ((w''.setCell ⟨w.heap.size + 1, 0, none⟩ (.bool true)).putObj D (.deferred none)) :=
                (((B0.trans (hBxW.mono B0.size)).trans (BWX.mono (Nat.le_trans B0.size hBxW.size))).setCell (p := ⟨w.heap.size + 1, 0, none⟩) (Nat.le_succ _) (.bool true)).trans
                  (belowK_b (n₀ := w.heap.size) (w := w) (Nat.le_refl _) _ D _ _ HDS.out hcD rfl rfl)
              refine ⟨by simp, .inl ⟨_, _, rfl, run_takeDeferred (b := D) hcD, ?_⟩⟩
              exact ⟨.bool true, res_cell rfl bool_plain _ _ (w.heap.size + 1) true (by rfl) hcR, rfl, hBR⟩

theorem rows_out (a0 a2 : Int) (p1 : Option Addr) (c1 len : Nat) (hlen : len ≤ 9223372036854775807) (w : World) (h : ¬ (len ≤ 60 ∧ a0 ≤ 2000)) :
    Calls Try.prog 4 #[.int .i64 a0, .slice p1 len c1, .int .u8 a2] w (TrueAt w) := by
  by_cases h1 : len ≤ 60
  · have h0 : ¬ a0 ≤ 2000 := fun h2 => h ⟨h1, h2⟩
    clear h
    go_enter Try.func4, Try.ntmps4
    go_wp2_with fail
    obtain ⟨w0, hX⟩ : ∃ w0, (w.alloc (.cells #[.int .u8 a2] 5)).alloc (.cells #[.bool false] 4) = w0 := ⟨_, rfl⟩
    have B0 : Below w.heap.size w w0 := by rw [← hX]; exact ((Below.refl _ _).alloc (Nat.le_refl _) _).alloc (by simp) _
    have Rc : w0.cell? ⟨w.heap.size + 1, 0, none⟩ = some (.bool false) := by rw [← hX]; simp
    have Rf : w0.frozen? ⟨w.heap.size + 1, 0, none⟩ = false := by rw [← hX]; simp
    have Sz : w0.heap.size = w.heap.size + 2 := by rw [← hX]; simp
    rw [hX]
    clear hX
    refine (awake_calls _).mono ?_
    rintro e w1 ⟨rfl, hb1⟩
    have Rc1 := (hb1.cell (p := ⟨w.heap.size + 1, 0, none⟩) (by show w.heap.size + 1 < w0.heap.size; omega)).trans Rc
    have Rf1 := (hb1.frozen (p := ⟨w.heap.size + 1, 0, none⟩) (by show w.heap.size + 1 < w0.heap.size; omega)).trans Rf
    have BT := (B0.trans (hb1.mono B0.size)).setCell (p := ⟨w.heap.size + 1, 0, none⟩) (Nat.le_succ _) (.bool true)
    have hcR : (w1.setCell ⟨w.heap.size + 1, 0, none⟩ (.bool true)).cell? ⟨w.heap.size + 1, 0, none⟩ = some (.bool true) := World.cell?_setCell_same' _ _ _ (by simp [Rc1])
    go_wp2_with fail
    exact bodyPost_ret (v := .bool true) (res_cell rfl bool_plain _ _ (w.heap.size + 1) true (by rfl) hcR) rfl ⟨rfl, BT⟩
  · clear h
    go_enter Try.func4, Try.ntmps4
    go_wp2_with fail
    obtain ⟨w0, hX⟩ : ∃ w0, (w.alloc (.cells #[.int .u8 a2] 5)).alloc (.cells #[.bool false] 4) = w0 := ⟨_, rfl⟩
    have B0 : Below w.heap.size w w0 := by rw [← hX]; exact ((Below.refl _ _).alloc (Nat.le_refl _) _).alloc (by simp) _
    have Rc : w0.cell? ⟨w.heap.size + 1, 0, none⟩ = some (.bool false) := by rw [← hX]; simp
    have Rf : w0.frozen? ⟨w.heap.size + 1, 0, none⟩ = false := by rw [← hX]; simp
    have Sz : w0.heap.size = w.heap.size + 2 := by rw [← hX]; simp
    rw [hX]
    clear hX
    refine (awake_calls _).mono ?_
    rintro e w1 ⟨rfl, hb1⟩
    have Rc1 := (hb1.cell (p := ⟨w.heap.size + 1, 0, none⟩) (by show w.heap.size + 1 < w0.heap.size; omega)).trans Rc
    have Rf1 := (hb1.frozen (p := ⟨w.heap.size + 1, 0, none⟩) (by show w.heap.size + 1 < w0.heap.size; omega)).trans Rf
    have BT := (B0.trans (hb1.mono B0.size)).setCell (p := ⟨w.heap.size + 1, 0, none⟩) (Nat.le_succ _) (.bool true)
    have hcR : (w1.setCell ⟨w.heap.size + 1, 0, none⟩ (.bool true)).cell? ⟨w.heap.size + 1, 0, none⟩ = some (.bool true) := World.cell?_setCell_same' _ _ _ (by simp [Rc1])
    go_wp2_with fail
    exact bodyPost_ret (v := .bool true) (res_cell rfl bool_plain _ _ (w.heap.size + 1) true (by rfl) hcR) rfl ⟨rfl, BT⟩
theorem rows_all (a0 a2 : Int) (p1 : Option Addr) (c1 len : Nat) (w : World) (h : ∃ acts : List ActL, acts.length = len ∧ len ≤ 9223372036854775807 ∧ ActsAt w p1 acts) (q2 : (Lit.int .u8 a2).wf = true) :
    Calls Try.prog 4 #[.int .i64 a0, .slice p1 len c1, .int .u8 a2] w (TrueAt w) := by
  obtain ⟨acts, rfl, hlen, ha⟩ := h
  have hq : 0 ≤ a2 ∧ a2 ≤ 255 := bounds_u8 q2
  by_cases hc : acts.length ≤ 60 ∧ a0 ≤ 2000
  · exact callsIn_wide.1 (rows_walk a0 a2 p1 c1 acts hlen w ha hc.1 hc.2 hq.1 hq.2)
  · exact rows_out a0 a2 p1 c1 _ hlen w hc
end Go.Proofs.Ytmkffkbhgdhkcaa.Bt
