/- Several texts in one: DaJ; DaK. -/
import Derived.Test.YtdmaendhkenmgaaDaP
import Derived.Test.YtdmaendhkenmgaaActs3F
import Derived.Test.YtdmaendhkenmgaaArGreat
import Derived.WalkSmall
/- Any act of law03's do; what the statement's loop asks beside it. -/
namespace Go.Proofs.Ytdmaendhkenmgaa.Bt
open Go Go.RowKit Go.Shelf
set_option linter.unusedVariables false
set_option linter.unusedSimpArgs false

/-- in the midst of a region a stronger condition may take the place of the one that it began with -/
theorem wpAnyH_weak {P : Program} {md : Region.Mode} {ops : Array Oper} {Q : Exit → Act → World → Prop} {S S' : World → Prop} (hs : ∀ X, S' X → S X) :
    ∀ (fuel : Nat) (listed : Array Bool) (a : Act) (w : World), wpAnyH P md ops Q S' fuel listed a w → wpAnyH P md ops Q S fuel listed a w
  | 0, _, _, _, h => h
  | n + 1, _, _, _, h => ⟨h.1, fun i hi => wpOp_mono (fun a' w' h' => ⟨hs _ h'.1, wpAnyH_weak hs n _ a' w' h'.2⟩) (h.2 i hi)⟩
theorem ddo_any {Wb A b cap : Nat} {s : ASt} (c : Act3) (hc : c.ok) {w0 w : World} (h : DoW Wb A b cap s w0 w) (hL : s.L ≤ 8) :
    Calls Try.prog 12 #[.pointer (some ⟨Wb, 0, none⟩), .agg #[.int .u8 c.d, .int .i64 c.a, .int .i64 c.fr, .int .i64 c.n, .int .u64 c.x, .string c.s]] w (DoP Wb s.L w0) := by
  obtain ⟨hd, ha1, hf1, hx0, hS, ha0, hn, hx1, hf0⟩ := hc
  have hm : c.d.tmod 10 = c.d % 10 := Int.tmod_eq_emod_of_nonneg hd.1
  have h10 : c.d % 10 = 0 ∨ c.d % 10 = 1 ∨ c.d % 10 = 2 ∨ c.d % 10 = 3 ∨ c.d % 10 = 4 ∨ c.d % 10 = 5 ∨ c.d % 10 = 6 ∨ c.d % 10 = 7 ∨ c.d % 10 = 8 ∨ c.d % 10 = 9 := by omega
  rcases h10 with k | k | k | k | k | k | k | k | k | k <;> rw [k] at hm
  · exact ddo_commit h hL h.x.lfb hm hd ⟨ha0, ha1⟩ hn
  · exact ddo_decommit h hL h.x.lfb hm hd ⟨ha0, ha1⟩ hn
  · exact ddo_refuse h hL hm hd ⟨ha0, ha1⟩ ⟨hf0, hf1⟩ hn ⟨hx0, hx1⟩
  · exact ddo_load h hL hm hd ⟨ha0, ha1⟩ ⟨hf0, hf1⟩ hn ⟨hx0, hx1⟩
  · exact ddo_store h hL hm hd ⟨ha0, ha1⟩ ⟨hf0, hf1⟩ hn ⟨hx0, hx1⟩
  · exact ddo_bytes h hL hm hd ⟨ha0, ha1⟩ ⟨hf0, hf1⟩ hn ⟨hx0, hx1⟩
  · exact ddo_put h hL hm hd ⟨ha0, ha1⟩ hS
  · exact ddo_fill h hL hm hd ⟨ha0, ha1⟩ ⟨hf0, hf1⟩ hn ⟨hx0, hx1⟩
  · exact ddo_copy h hL hm hd ⟨ha0, ha1⟩ ⟨hf0, hf1⟩ hn ⟨hx0, hx1⟩
  · exact ddo_clone h hL hm hd
theorem com_gS (s : ASt) : countV s.L s.es 0 (s.L : Int) = ((comG (gS s) (gS s).length : Nat) : Int) := by
  unfold countV
  have hw : withinB s.L 0 (s.L : Int) = true := by unfold withinB; exact decide_eq_true (by omega)
  rw [hw, if_pos rfl, gS_len]
  unfold memCount comG
  rw [List.countP_eq_length_filter]
  congr 2
  apply List.filter_congr
  intro i hi
  have := List.mem_range.1 hi
  simp only [Int.toNat_natCast] at this
  rw [gS_has, mem_of_has (by omega) (by omega)]
  congr 1
  simp
theorem gS_new (n : Nat) : gS (newS n) = List.replicate n sE := by
  have : ∀ k, k ≤ n → ofL (newS n) k n = List.replicate n sE := by
    intro k
    induction k with
    | zero => intro _; exact ofL_zero _ _
    | succ k ih => intro hk; rw [← ofL_same (newS n) (j := k) (L := n) (by unfold hasB newS mem; simp [cnt_nil]; intro _; rfl)]; exact ih (by omega)
  exact this n (Nat.le_refl _)
theorem laid_all (s : ASt) : laidErr s.L 0 (s.L : Int) = 0 := by
  unfold laidErr
  rw [if_pos (show withinB s.L 0 (s.L : Int) = true by unfold withinB; exact decide_eq_true (by omega))]
end Go.Proofs.Ytdmaendhkenmgaa.Bt
/- The walk of ArenaPlays. (Written by gen_dak.py.) -/
namespace Go.Proofs.Ytdmaendhkenmgaa.Bt
open Go Go.RowKit Go.Shelf
set_option linter.unusedVariables false
set_option linter.unusedSimpArgs false

theorem DoW.cells2 {Wb A b cap : Nat} {s : ASt} {w0 X : World} (h : DoW Wb A b cap s w0 X) : (X.cell? ⟨Wb, 0, none⟩ = some (.pointer (some ⟨A, 0, none⟩)) ∧ X.cell? ⟨Wb, 1, none⟩ = some (.slice (some ⟨b, 0, none⟩) s.L cap) ∧ X.cell? ⟨Wb, 2, none⟩ = some (.int .i64 (refR s))) ∧ X.frozen? ⟨Wb, 1, none⟩ = false ∧ X.frozen? ⟨Wb, 2, none⟩ = false :=
  ⟨⟨(cell_blk h.w 0).1, (cell_blk h.w 1).1, (cell_blk h.w 2).1⟩, (cell_blk h.w 1).2, (cell_blk h.w 2).2⟩
theorem DoW.below {Wb A b cap : Nat} {s : ASt} {w0 X Y : World} (h : DoW Wb A b cap s w0 X) (hb : Below X.heap.size X Y) : DoW Wb A b cap s w0 Y :=
  ⟨blk_at hb h.w, h.x.below hb, h.d.below hb, h.m.went (Went.of_below h.x hb), h.bs.below h.x hb, h.ws⟩
theorem on_acom {A : Nat} {s : ASt} {w : World} (h : On A s w) : Calls Try.prog 13 #[.pointer (some ⟨A, 0, none⟩)] w (Gives (.int .i64 (countV s.L s.es 0 s.L)) w) := by
  obtain ⟨P, ps, p, n, cap, h⟩ := h; exact committed_any h
/-- what the loop keeps -/
def LpA (Wb L : Nat) (w1 : World) (acts : List Act3) (v : Value) (wr : World) : Prop :=
  ∃ i : Nat, i ≤ acts.length ∧ v = .int .i64 (i : Int) ∧ ∃ A b cap s, s.L = L ∧ DoW Wb A b cap s w1 wr
set_option maxRecDepth 100000 in
set_option maxHeartbeats 8000000 in
theorem aplays_walk (p0 : Option Addr) (c0 : Nat) (acts : List Act3) (hlen : acts.length ≤ 9223372036854775807) (pg : Int) (hpg : 0 ≤ pg ∧ pg ≤ 255) (w : World) (h : Acts3At w p0 acts) :
    Calls Try.prog 3 #[.int .u8 pg, .slice p0 acts.length c0] w (TrueAt w) := by
  have HACT := Lib.hid h
  clear h
  obtain ⟨L, hLL⟩ := Int.eq_ofNat_of_zero_le (show 0 ≤ pg % 9 by omega)
  have hL8 : L ≤ 8 := by omega
  have QP : IntKind.i64.wrap pg = pg := IntWalk.i64_in _ (by omega)
  have QP2 : wrap64 pg = pg := IntWalk.wrap64_in _ ⟨by omega, by omega⟩
  have hm1 : pg.tmod 9 = (L : Int) := by rw [Int.tmod_eq_emod_of_nonneg hpg.1]; exact hLL
  have HPG := Lib.hid hpg
  clear hpg
  go_enter Try.func3, Try.ntmps3
  go_wp2_with fail
  refine (awake3_calls _).mono ?_
  rintro e w0 ⟨rfl, hb⟩
  have HB0 := Lib.hid hb
  clear hb
  go_wp2_with fail
  refine (light_any p0 c0 acts hlen w0 (HACT.out.below HB0.out)).mono ?_
  rintro e w1 ⟨rfl, hb⟩
  have HB1 := Lib.hid (HB0.out.trans (hb.mono HB0.out.size))
  clear hb HB0
  cases hl : lightB acts with
  | false =>
    go_wp2_with fail
    go_ret
    exact ⟨rfl, HB1.out⟩
  | true =>
    have HAC := Lib.hid (HACT.out.below HB1.out)
    clear hl HACT
    have LN : Hid (lenN (L : Int) = L) := Lib.hid (by unfold lenN; omega)
    go_wp2_with fail
    refine (on_new (L : Int) _).mono ?_
    rintro e w2 ⟨A, rfl, hA, hx, hbs, hmn⟩
    rw [LN.out] at hx
    have HX2 := Lib.hid hx
    have HBS2 := Lib.hid hbs
    have HAC2 := Lib.hid (HAC.out.below hbs.bel)
    clear hx hbs hmn hA LN
    go_wp2_with fail
    refine (dnew_any L hL8 _).mono ?_
    rintro e w3 ⟨b, rfl, hd, hbw, hb⟩
    have HX3 := Lib.hid (HX2.out.below hb)
    have HBS3 := Lib.hid (HBS2.out.below HX2.out hb)
    have HD3 := Lib.hid (show DocB b (gS (newS L)) w3 by rw [gS_new]; exact hd)
    have HWB := Lib.hid hb.size
    rw [List.length_replicate]
    clear hd hbw hb HX2 HBS2
    go_upto_region 7 with fail
    change Code.wp _ _ _ _ (w3.alloc (.cells #[.pointer (some ⟨A, 0, none⟩), .slice (some ⟨b, 0, none⟩) L L, .int .i64 (-1)] 33))
    have hst : DoW w3.heap.size A b L (newS L) w1 (w3.alloc (.cells #[.pointer (some ⟨A, 0, none⟩), .slice (some ⟨b, 0, none⟩) L L, .int .i64 (-1)] 33)) := by
      have hb := bel1 w3 (.cells #[.pointer (some ⟨A, 0, none⟩), .slice (some ⟨b, 0, none⟩) L L, .int .i64 (-1)] 33)
      exact ⟨heap_new _ _, HX3.out.below hb, HD3.out.below hb, Mine.new HX3.out _, HBS3.out.below HX3.out hb, HBS3.out.bel.size⟩
    obtain ⟨w4, hw4⟩ : ∃ w4, w3.alloc (.cells #[.pointer (some ⟨A, 0, none⟩), .slice (some ⟨b, 0, none⟩) L L, .int .i64 (-1)] 33) = w4 := ⟨_, rfl⟩
    obtain ⟨Wb, hWb⟩ : ∃ Wb, w3.heap.size = Wb := ⟨_, rfl⟩
    rw [hw4, hWb] at hst
    rw [hw4, hWb]
    have HST := Lib.hid hst
    have HL8 := Lib.hid hL8
    have HP9 := Lib.hid hm1
    clear hst hw4 hWb HX3 HBS3 HD3 HWB HAC2 QP QP2 hm1 hLL HPG
    go_wp2_with fail
    go_loopw [27] (fun s27 wr => LpA Wb L w1 acts s27 wr) (fun s27 _ => acts.length - (intOf s27).toNat)
    case atStart => exact ⟨0, by omega, rfl, A, b, L, newS L, rfl, HST.out⟩
    case round =>
      obtain ⟨i, hi, rfl, A, b, cap, s, hsl, hdw⟩ := hrel
      clear HST
      by_cases hlt : i < acts.length
      · rcases HAC.out.below hdw.bs.bel with h' | ⟨pb, off, rfl, hbl, hc⟩
        · omega
        · obtain ⟨⟨f0, f1, f2, f3, f4, f5⟩, hok⟩ := hc i hlt
          obtain ⟨c, hcc⟩ : ∃ c, acts[i] = c := ⟨_, rfl⟩
          rw [hcc] at f0 f1 f2 f3 f4 f5 hok
          have HOK := Lib.hid hok
          have HDWR := Lib.hid hdw
          have HSL := Lib.hid hsl
          clear hc hcc hok hdw hsl
          go_upto_region 10 with fail
          change Code.wp _ _ _ _ (wr.alloc (.cells #[.int .u8 c.d, .int .i64 c.a, .int .i64 c.fr, .int .i64 c.n, .int .u64 c.x, .string c.s] 36))
          have hE := heap_new wr (.cells #[.int .u8 c.d, .int .i64 c.a, .int .i64 c.fr, .int .i64 c.n, .int .u64 c.x, .string c.s] 36)
          have hdy := HDWR.out.below (bel1 wr (.cells #[.int .u8 c.d, .int .i64 c.a, .int .i64 c.fr, .int .i64 c.n, .int .u64 c.x, .string c.s] 36))
          obtain ⟨y, hy⟩ : ∃ y, wr.alloc (.cells #[.int .u8 c.d, .int .i64 c.a, .int .i64 c.fr, .int .i64 c.n, .int .u64 c.x, .string c.s] 36) = y := ⟨_, rfl⟩
          obtain ⟨E, hEE⟩ : ∃ E, wr.heap.size = E := ⟨_, rfl⟩
          rw [hy, hEE] at hE
          rw [hy] at hdy
          rw [hy, hEE]
          have HDW := Lib.hid hdy
          have e0 := (cell_blk hE 0).1
          have e1 := (cell_blk hE 1).1
          have e2 := (cell_blk hE 2).1
          have e3 := (cell_blk hE 3).1
          have e4 := (cell_blk hE 4).1
          have e5 := (cell_blk hE 5).1
          change y.cell? ⟨E, 0, none⟩ = some (.int .u8 c.d) at e0
          change y.cell? ⟨E, 1, none⟩ = some (.int .i64 c.a) at e1
          change y.cell? ⟨E, 2, none⟩ = some (.int .i64 c.fr) at e2
          change y.cell? ⟨E, 3, none⟩ = some (.int .i64 c.n) at e3
          change y.cell? ⟨E, 4, none⟩ = some (.int .u64 c.x) at e4
          change y.cell? ⟨E, 5, none⟩ = some (.string c.s) at e5
          clear hE hdy hy hEE f0 f1 f2 f3 f4 f5 HDWR
          refine wp_region_held_drew (S := fun _ => True) (by kernel_rfl) trivial (fun hHeld => ?_)
          refine wpAnyH_take (i := 0) (v := (.pointer (some ⟨Wb, 0, none⟩))) rfl (by kernel_rfl) (by kernel_rfl) (by kernel_rfl) (fun _ _ _ h => h) (Or.inl ⟨by rfl, fun X hS => ?_⟩) hHeld ?_
          · skip
            go_simp
          try simp only [Act.put, List.getElem_toArray, List.getElem_cons_zero, List.getElem_cons_succ, List.setIfInBounds_toArray, List.set_cons_zero, List.set_cons_succ]
          refine wpAnyH_ready (rs := [1]) (by kernel_rfl) (by simp) (AllReadyH.cons rfl (fun K1 hK1 => ?_) AllReadyH.nil)
          go_simp
          refine hK1.out _ _ trivial (fun hHeld => ?_)
          clear hK1
          try simp only [Act.put, List.getElem_toArray, List.getElem_cons_zero, List.getElem_cons_succ, List.setIfInBounds_toArray, List.set_cons_zero, List.set_cons_succ]
          refine wpAnyH_ready (rs := [2]) (by kernel_rfl) (by simp) (AllReadyH.cons rfl (fun K1 hK1 => ?_) AllReadyH.nil)
          go_simp
          refine (ddo_any c HOK.out (HDW.out.below (Below.refl _ _).drew) (by rw [HSL.out]; exact HL8.out)).mono ?_
          rintro e w4 ⟨A4, b4, cap4, s4, rfl, hL4, hdw4⟩
          have HDW4 := Lib.hid hdw4
          have HLL := Lib.hid (hL4.trans HSL.out)
          have HL48 := Lib.hid (show s4.L ≤ 8 by rw [hL4, HSL.out]; exact HL8.out)
          have HL4M := Lib.hid (show s4.L ≤ 1048576 by rw [hL4, HSL.out]; have := HL8.out; omega)
          clear hdw4 hL4 HDW
          refine hK1.out _ _ trivial (fun hHeld => ?_)
          clear hK1
          try simp only [Act.put, List.getElem_toArray, List.getElem_cons_zero, List.getElem_cons_succ, List.setIfInBounds_toArray, List.set_cons_zero, List.set_cons_succ]
          refine wpAnyH_weak (S' := DoW Wb A4 b4 cap4 s4 w1) (fun _ _ => trivial) _ _ _ _ ?_
          clear hHeld
          have hHeld := HDW4.out
          have HCN : Hid (countV s4.L s4.es 0 (s4.L : Int) = ((comG (gS s4) (gS s4).length : Nat) : Int)) := Lib.hid (com_gS s4)
          obtain ⟨V, hV⟩ : ∃ V, countV s4.L s4.es 0 (s4.L : Int) = V := ⟨_, rfl⟩
          have HV := Lib.hid hV
          rw [hV] at HCN
          clear hV
          refine wpAnyH_take (i := 3) (v := (.bool false)) rfl (by kernel_rfl) (by kernel_rfl) (by kernel_rfl) (fun _ _ _ h => h) (Or.inl ⟨by rfl, fun X hS => ?_⟩) hHeld ?_
          · obtain ⟨⟨s1, s2, s3⟩, s4, s5⟩ := hS.cells2
            go_simp
          try simp only [Act.put, List.getElem_toArray, List.getElem_cons_zero, List.getElem_cons_succ, List.setIfInBounds_toArray, List.set_cons_zero, List.set_cons_succ]
          refine wpAnyH_take (i := 4) (v := (.bool false)) rfl (by kernel_rfl) (by kernel_rfl) (by kernel_rfl) (fun _ _ _ h => h) (Or.inl ⟨by rfl, fun X hS => ?_⟩) hHeld ?_
          · obtain ⟨⟨s1, s2, s3⟩, s4, s5⟩ := hS.cells2
            go_simp
          try simp only [Act.put, List.getElem_toArray, List.getElem_cons_zero, List.getElem_cons_succ, List.setIfInBounds_toArray, List.set_cons_zero, List.set_cons_succ]
          refine wpAnyH_take (i := 5) (v := (.pointer (some ⟨Wb, 0, none⟩))) rfl (by kernel_rfl) (by kernel_rfl) (by kernel_rfl) (fun _ _ _ h => h) (Or.inl ⟨by rfl, fun X hS => ?_⟩) hHeld ?_
          · obtain ⟨⟨s1, s2, s3⟩, s4, s5⟩ := hS.cells2
            go_simp
          try simp only [Act.put, List.getElem_toArray, List.getElem_cons_zero, List.getElem_cons_succ, List.setIfInBounds_toArray, List.set_cons_zero, List.set_cons_succ]
          refine wpAnyH_take (i := 6) (v := (.pointer (some ⟨Wb, 0, none⟩))) rfl (by kernel_rfl) (by kernel_rfl) (by kernel_rfl) (fun _ _ _ h => h) (Or.inl ⟨by rfl, fun X hS => ?_⟩) hHeld ?_
          · obtain ⟨⟨s1, s2, s3⟩, s4, s5⟩ := hS.cells2
            go_simp
          try simp only [Act.put, List.getElem_toArray, List.getElem_cons_zero, List.getElem_cons_succ, List.setIfInBounds_toArray, List.set_cons_zero, List.set_cons_succ]
          refine wpAnyH_take (i := 7) (v := (.pointer (some ⟨Wb, 0, none⟩))) rfl (by kernel_rfl) (by kernel_rfl) (by kernel_rfl) (fun _ _ _ h => h) (Or.inl ⟨by rfl, fun X hS => ?_⟩) hHeld ?_
          · obtain ⟨⟨s1, s2, s3⟩, s4, s5⟩ := hS.cells2
            go_simp
          try simp only [Act.put, List.getElem_toArray, List.getElem_cons_zero, List.getElem_cons_succ, List.setIfInBounds_toArray, List.set_cons_zero, List.set_cons_succ]
          refine wpAnyH_take (i := 8) (v := (.pointer (some ⟨A4, 0, none⟩))) rfl (by kernel_rfl) (by kernel_rfl) (by kernel_rfl) (fun _ _ _ h => h) (Or.inl ⟨by rfl, fun X hS => ?_⟩) hHeld ?_
          · obtain ⟨⟨s1, s2, s3⟩, s4, s5⟩ := hS.cells2
            go_simp
          try simp only [Act.put, List.getElem_toArray, List.getElem_cons_zero, List.getElem_cons_succ, List.setIfInBounds_toArray, List.set_cons_zero, List.set_cons_succ]
          refine wpAnyH_take (i := 10) (v := (.pointer (some ⟨Wb, 0, none⟩))) rfl (by kernel_rfl) (by kernel_rfl) (by kernel_rfl) (fun _ _ _ h => h) (Or.inl ⟨by rfl, fun X hS => ?_⟩) hHeld ?_
          · obtain ⟨⟨s1, s2, s3⟩, s4, s5⟩ := hS.cells2
            go_simp
          try simp only [Act.put, List.getElem_toArray, List.getElem_cons_zero, List.getElem_cons_succ, List.setIfInBounds_toArray, List.set_cons_zero, List.set_cons_succ]
          refine wpAnyH_take (i := 11) (v := (.pointer (some ⟨Wb, 0, none⟩))) rfl (by kernel_rfl) (by kernel_rfl) (by kernel_rfl) (fun _ _ _ h => h) (Or.inl ⟨by rfl, fun X hS => ?_⟩) hHeld ?_
          · obtain ⟨⟨s1, s2, s3⟩, s4, s5⟩ := hS.cells2
            go_simp
          try simp only [Act.put, List.getElem_toArray, List.getElem_cons_zero, List.getElem_cons_succ, List.setIfInBounds_toArray, List.set_cons_zero, List.set_cons_succ]
          refine wpAnyH_take (i := 12) (v := (.pointer (some ⟨Wb, 1, none⟩))) rfl (by kernel_rfl) (by kernel_rfl) (by kernel_rfl) (fun _ _ _ h => h) (Or.inl ⟨by rfl, fun X hS => ?_⟩) hHeld ?_
          · obtain ⟨⟨s1, s2, s3⟩, s4, s5⟩ := hS.cells2
            go_simp
          try simp only [Act.put, List.getElem_toArray, List.getElem_cons_zero, List.getElem_cons_succ, List.setIfInBounds_toArray, List.set_cons_zero, List.set_cons_succ]
          refine wpAnyH_take (i := 13) (v := (.agg #[.slice (some ⟨b4, 0, none⟩) s4.L cap4, .int .i64 (refR s4)])) rfl (by kernel_rfl) (by kernel_rfl) (by kernel_rfl) (fun _ _ _ h => h) (Or.inl ⟨by rfl, fun X hS => ?_⟩) hHeld ?_
          · obtain ⟨⟨s1, s2, s3⟩, s4, s5⟩ := hS.cells2
            go_simp
          try simp only [Act.put, List.getElem_toArray, List.getElem_cons_zero, List.getElem_cons_succ, List.setIfInBounds_toArray, List.set_cons_zero, List.set_cons_succ]
          refine wpAnyH_ready (rs := [9]) (by kernel_rfl) (by simp) (AllReadyH.cons rfl (fun K1 hK1 => ?_) AllReadyH.nil)
          go_simp
          have HH := Lib.hid hHeld
          clear hHeld
          refine (on_acom HH.out.x).mono ?_
          rintro e w5 ⟨rfl, hb⟩
          rw [HV.out]
          have hn := HH.out.below hb
          clear hb HH
          refine hK1.out _ _ hn (fun hHeld => ?_)
          clear hK1
          try simp only [Act.put, List.getElem_toArray, List.getElem_cons_zero, List.getElem_cons_succ, List.setIfInBounds_toArray, List.set_cons_zero, List.set_cons_succ]
          refine wpAnyH_ready (rs := [14]) (by kernel_rfl) (by simp) (AllReadyH.cons rfl (fun K1 hK1 => ?_) AllReadyH.nil)
          go_simp
          have HH := Lib.hid hHeld
          clear hHeld
          have hcm := dcommitted_any (cap := cap4) (by rw [gS_len]; exact HL4M.out) (refR s4) HH.out.d
          rw [← HCN.out, gS_len] at hcm
          refine hcm.mono ?_
          rintro e w6 ⟨rfl, hb⟩
          have hn := HH.out.below hb
          clear hb HH hcm
          refine hK1.out _ _ hn (fun hHeld => ?_)
          clear hK1
          try simp only [Act.put, List.getElem_toArray, List.getElem_cons_zero, List.getElem_cons_succ, List.setIfInBounds_toArray, List.set_cons_zero, List.set_cons_succ]
          refine wpAnyH_take (i := 15) (v := (.bool false)) rfl (by kernel_rfl) (by kernel_rfl) (by kernel_rfl) (fun _ _ _ h => h) (Or.inl ⟨by rfl, fun X hS => ?_⟩) hHeld ?_
          · obtain ⟨⟨s1, s2, s3⟩, s4, s5⟩ := hS.cells2
            have hvv : (V != V) = false := by simp
            go_simp
          try simp only [Act.put, List.getElem_toArray, List.getElem_cons_zero, List.getElem_cons_succ, List.setIfInBounds_toArray, List.set_cons_zero, List.set_cons_succ]
          refine wpAnyH_take (i := 16) (v := (.bool false)) rfl (by kernel_rfl) (by kernel_rfl) (by kernel_rfl) (fun _ _ _ h => h) (Or.inl ⟨by rfl, fun X hS => ?_⟩) hHeld ?_
          · obtain ⟨⟨s1, s2, s3⟩, s4, s5⟩ := hS.cells2
            go_simp
          try simp only [Act.put, List.getElem_toArray, List.getElem_cons_zero, List.getElem_cons_succ, List.setIfInBounds_toArray, List.set_cons_zero, List.set_cons_succ]
          refine wpAnyH_take (i := 17) (v := (.bool false)) rfl (by kernel_rfl) (by kernel_rfl) (by kernel_rfl) (fun _ _ _ h => h) (Or.inl ⟨by rfl, fun X hS => ?_⟩) hHeld ?_
          · obtain ⟨⟨s1, s2, s3⟩, s4, s5⟩ := hS.cells2
            go_simp
          try simp only [Act.put, List.getElem_toArray, List.getElem_cons_zero, List.getElem_cons_succ, List.setIfInBounds_toArray, List.set_cons_zero, List.set_cons_succ]
          refine wpAnyH_take (i := 18) (v := (.pointer (some ⟨Wb, 0, none⟩))) rfl (by kernel_rfl) (by kernel_rfl) (by kernel_rfl) (fun _ _ _ h => h) (Or.inl ⟨by rfl, fun X hS => ?_⟩) hHeld ?_
          · obtain ⟨⟨s1, s2, s3⟩, s4, s5⟩ := hS.cells2
            go_simp
          try simp only [Act.put, List.getElem_toArray, List.getElem_cons_zero, List.getElem_cons_succ, List.setIfInBounds_toArray, List.set_cons_zero, List.set_cons_succ]
          refine wpAnyH_take (i := 19) (v := (.pointer (some ⟨Wb, 0, none⟩))) rfl (by kernel_rfl) (by kernel_rfl) (by kernel_rfl) (fun _ _ _ h => h) (Or.inl ⟨by rfl, fun X hS => ?_⟩) hHeld ?_
          · obtain ⟨⟨s1, s2, s3⟩, s4, s5⟩ := hS.cells2
            go_simp
          try simp only [Act.put, List.getElem_toArray, List.getElem_cons_zero, List.getElem_cons_succ, List.setIfInBounds_toArray, List.set_cons_zero, List.set_cons_succ]
          refine wpAnyH_take (i := 20) (v := (.pointer (some ⟨Wb, 0, none⟩))) rfl (by kernel_rfl) (by kernel_rfl) (by kernel_rfl) (fun _ _ _ h => h) (Or.inl ⟨by rfl, fun X hS => ?_⟩) hHeld ?_
          · obtain ⟨⟨s1, s2, s3⟩, s4, s5⟩ := hS.cells2
            go_simp
          try simp only [Act.put, List.getElem_toArray, List.getElem_cons_zero, List.getElem_cons_succ, List.setIfInBounds_toArray, List.set_cons_zero, List.set_cons_succ]
          refine wpAnyH_take (i := 21) (v := (.pointer (some ⟨A4, 0, none⟩))) rfl (by kernel_rfl) (by kernel_rfl) (by kernel_rfl) (fun _ _ _ h => h) (Or.inl ⟨by rfl, fun X hS => ?_⟩) hHeld ?_
          · obtain ⟨⟨s1, s2, s3⟩, s4, s5⟩ := hS.cells2
            go_simp
          try simp only [Act.put, List.getElem_toArray, List.getElem_cons_zero, List.getElem_cons_succ, List.setIfInBounds_toArray, List.set_cons_zero, List.set_cons_succ]
          refine wpAnyH_take (i := 23) (v := (.pointer (some ⟨Wb, 0, none⟩))) rfl (by kernel_rfl) (by kernel_rfl) (by kernel_rfl) (fun _ _ _ h => h) (Or.inl ⟨by rfl, fun X hS => ?_⟩) hHeld ?_
          · obtain ⟨⟨s1, s2, s3⟩, s4, s5⟩ := hS.cells2
            go_simp
          try simp only [Act.put, List.getElem_toArray, List.getElem_cons_zero, List.getElem_cons_succ, List.setIfInBounds_toArray, List.set_cons_zero, List.set_cons_succ]
          refine wpAnyH_take (i := 24) (v := (.pointer (some ⟨Wb, 0, none⟩))) rfl (by kernel_rfl) (by kernel_rfl) (by kernel_rfl) (fun _ _ _ h => h) (Or.inl ⟨by rfl, fun X hS => ?_⟩) hHeld ?_
          · obtain ⟨⟨s1, s2, s3⟩, s4, s5⟩ := hS.cells2
            go_simp
          try simp only [Act.put, List.getElem_toArray, List.getElem_cons_zero, List.getElem_cons_succ, List.setIfInBounds_toArray, List.set_cons_zero, List.set_cons_succ]
          refine wpAnyH_take (i := 25) (v := (.pointer (some ⟨Wb, 1, none⟩))) rfl (by kernel_rfl) (by kernel_rfl) (by kernel_rfl) (fun _ _ _ h => h) (Or.inl ⟨by rfl, fun X hS => ?_⟩) hHeld ?_
          · obtain ⟨⟨s1, s2, s3⟩, s4, s5⟩ := hS.cells2
            go_simp
          try simp only [Act.put, List.getElem_toArray, List.getElem_cons_zero, List.getElem_cons_succ, List.setIfInBounds_toArray, List.set_cons_zero, List.set_cons_succ]
          refine wpAnyH_take (i := 26) (v := (.agg #[.slice (some ⟨b4, 0, none⟩) s4.L cap4, .int .i64 (refR s4)])) rfl (by kernel_rfl) (by kernel_rfl) (by kernel_rfl) (fun _ _ _ h => h) (Or.inl ⟨by rfl, fun X hS => ?_⟩) hHeld ?_
          · obtain ⟨⟨s1, s2, s3⟩, s4, s5⟩ := hS.cells2
            go_simp
          try simp only [Act.put, List.getElem_toArray, List.getElem_cons_zero, List.getElem_cons_succ, List.setIfInBounds_toArray, List.set_cons_zero, List.set_cons_succ]
          refine wpAnyH_ready (rs := [22]) (by kernel_rfl) (by simp) (AllReadyH.cons rfl (fun K1 hK1 => ?_) AllReadyH.nil)
          go_simp
          have HH := Lib.hid hHeld
          clear hHeld
          refine (dof_any HH.out.x (by have := HL48.out; omega)).mono ?_
          rintro e w7 ⟨bo, rfl, hdo, hb⟩
          have HDO := Lib.hid hdo
          have hn := HH.out.below hb
          clear hb HH hdo
          refine hK1.out _ _ hn (fun hHeld => ?_)
          clear hK1
          try simp only [Act.put, List.getElem_toArray, List.getElem_cons_zero, List.getElem_cons_succ, List.setIfInBounds_toArray, List.set_cons_zero, List.set_cons_succ]
          refine wpAnyH_ready (rs := [27]) (by kernel_rfl) (by simp) (AllReadyH.cons rfl (fun K1 hK1 => ?_) AllReadyH.nil)
          go_simp
          have HH := Lib.hid hHeld
          clear hHeld
          have hsm := dsame_any (cap := s4.L) (cap2 := cap4) (gs := gS s4) (by rw [gS_len]; exact HL4M.out) (-1) (refR s4) HDO.out HH.out.d
          rw [gS_len] at hsm
          refine hsm.mono ?_
          rintro e w8 ⟨rfl, hb⟩
          have hn := HH.out.below hb
          have HW8 := Lib.hid hn
          clear hb HH hsm HDO
          refine hK1.out _ _ hn (fun hHeld => ?_)
          clear hK1
          try simp only [Act.put, List.getElem_toArray, List.getElem_cons_zero, List.getElem_cons_succ, List.setIfInBounds_toArray, List.set_cons_zero, List.set_cons_succ]
          refine wpAnyH_take (i := 28) (v := (.bool false)) rfl (by kernel_rfl) (by kernel_rfl) (by kernel_rfl) (fun _ _ _ h => h) (Or.inl ⟨by rfl, fun X hS => ?_⟩) hHeld ?_
          · obtain ⟨⟨s1, s2, s3⟩, s4, s5⟩ := hS.cells2
            go_simp
          try simp only [Act.put, List.getElem_toArray, List.getElem_cons_zero, List.getElem_cons_succ, List.setIfInBounds_toArray, List.set_cons_zero, List.set_cons_succ]
          refine wpAnyH_take (i := 29) (v := (.bool false)) rfl (by kernel_rfl) (by kernel_rfl) (by kernel_rfl) (fun _ _ _ h => h) (Or.inl ⟨by rfl, fun X hS => ?_⟩) hHeld ?_
          · obtain ⟨⟨s1, s2, s3⟩, s4, s5⟩ := hS.cells2
            go_simp
          try simp only [Act.put, List.getElem_toArray, List.getElem_cons_zero, List.getElem_cons_succ, List.setIfInBounds_toArray, List.set_cons_zero, List.set_cons_succ]
          refine wpAnyH_done (by kernel_rfl) ?_ _
          clear hHeld
          obtain ⟨⟨g1, g2, g3⟩, g4, g5⟩ := HW8.out.cells2
          obtain ⟨P, ps, p, nn, cc, hax⟩ := HW8.out.x
          have HAX := Lib.hid hax
          clear hax
          go_wp2_with fail
          refine (pages_any HAX.out).mono ?_
          rintro e w9 ⟨rfl, hb⟩
          have HW9 := Lib.hid (HW8.out.below hb)
          have HAX9 := Lib.hid (HAX.out.below hb)
          clear hb g1 g2 g3 g4 g5 HW8 HAX
          obtain ⟨⟨g1, g2, g3⟩, g4, g5⟩ := HW9.out.cells2
          have hcnt := count_any s4.L p nn cc s4.es 0 (s4.L : Int) w9 HAX9.out.good HAX9.out.num HAX9.out.edges (by omega)
          unfold CountPost at hcnt
          rw [HV.out, laid_all] at hcnt
          have hll := HLL.out
          rw [hll] at hcnt
          have HCNT := Lib.hid hcnt
          clear hcnt
          go_wp2_with fail
          refine (HCNT.out).mono ?_
          rintro e w10 ⟨rfl, hb⟩
          clear hll
          have HW10 := Lib.hid (HW9.out.below hb)
          clear hb g1 g2 g3 g4 g5 HW9 HAX9 HCNT
          obtain ⟨⟨g1, g2, g3⟩, g4, g5⟩ := HW10.out.cells2
          have hvv : (V != V) = false := by simp
          have hcm := dcommitted_any (cap := cap4) (by rw [gS_len]; exact HL4M.out) (refR s4) HW10.out.d
          rw [← HCN.out, gS_len] at hcm
          have HCM := Lib.hid hcm
          clear hcm
          go_wp2_with fail
          refine (HCM.out).mono ?_
          rintro e w11 ⟨rfl, hb⟩
          have HW11 := Lib.hid (HW10.out.below hb)
          clear hb g1 g2 g3 g4 g5 HW10 HCM
          obtain ⟨⟨g1, g2, g3⟩, g4, g5⟩ := HW11.out.cells2
          go_wp2_with fail
          refine (on_hasD HW11.out.x (L : Int)).mono ?_
          rintro e w12 ⟨rfl, hb⟩
          rw [hasB_out (by rw [HLL.out]; omega)]
          have HW12 := Lib.hid (HW11.out.below hb)
          clear hb g1 g2 g3 g4 g5 HW11
          obtain ⟨⟨g1, g2, g3⟩, g4, g5⟩ := HW12.out.cells2
          go_wp2_with fail
          refine (on_hasD HW12.out.x (-1)).mono ?_
          rintro e w13 ⟨rfl, hb⟩
          rw [hasB_out (by omega)]
          have HW13 := Lib.hid (HW12.out.below hb)
          clear hb g1 g2 g3 g4 g5 HW12
          go_wp2_with fail
          go_roundw
          case rel => exact ⟨i + 1, by omega, by go_num, A4, b4, cap4, s4, HLL.out, HW13.out⟩
          case measure => simp [intOf]; omega
      · obtain rfl : i = acts.length := by omega
        have HDW := Lib.hid hdw
        have HSL := Lib.hid hsl
        obtain ⟨⟨g1, g2, g3⟩, g4, g5⟩ := hdw.cells2
        clear hdw hsl
        go_wp2_with fail
        refine (on_capD HDW.out.x).mono ?_
        rintro e w5 ⟨rfl, rfl⟩
        have hll := HSL.out
        go_wp2_with fail
        go_ret
        exact ⟨by simp [HSL.out], HB1.out.trans (HDW.out.bs.bel.mono HB1.out.size)⟩
end Go.Proofs.Ytdmaendhkenmgaa.Bt
