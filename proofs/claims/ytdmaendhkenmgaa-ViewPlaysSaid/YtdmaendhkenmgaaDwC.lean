/- Several texts in one: DvO; DvP; DvQ. -/
import Derived.Test.YtdmaendhkenmgaaDwB
import Derived.Test.YtdmaendhkenmgaaDwA
import Derived.Test.YtdmaendhkenmgaaDaR
import Derived.WalkSmall
/- law04's do: Part that is there. (Written by gen_dve.py.) -/
namespace Go.Proofs.Ytdmaendhkenmgaa.Bt
open Go Go.RowKit Go.Shelf
set_option linter.unusedVariables false
set_option linter.unusedSimpArgs false

structure DvC (Wb A b : Nat) (s : ASt) (w0 X : World) : Prop where
  x : On A s X
  d : DocB b (gS s) X
  m : Mine A Wb X
  bs : Base A w0 X
  ws : w0.heap.size ≤ Wb
  ne : b ≠ Wb
theorem DvC.set {Wb A b : Nat} {s : ASt} {w0 X : World} (h : DvC Wb A b s w0 X) (o : Nat) (v : Value) : DvC Wb A b s w0 (X.setCell ⟨Wb, o, none⟩ v) :=
  ⟨h.x.set h.m o v, (heap_far_one h.ne _).trans h.d, Mine.set h.x h.m h.m o v, h.bs.set h.x h.m h.ws o v, h.ws, h.ne⟩
theorem DvC.below {Wb A b : Nat} {s : ASt} {w0 X Y : World} (h : DvC Wb A b s w0 X) (hb : Below X.heap.size X Y) : DvC Wb A b s w0 Y :=
  ⟨h.x.below hb, h.d.below hb, h.m.went (Went.of_below h.x hb), h.bs.below h.x hb, h.ws, h.ne⟩
theorem DvS.core {Wb E A b cap va vs : Nat} {s : ASt} {d at_ fr n x : Int} {S : ByteArray} {w0 X : World} (h : DvS Wb E A b cap va vs s s d at_ fr n x S w0 X) : DvC Wb A b s w0 X :=
  ⟨h.x, h.d, h.m, h.bs, h.ws, heap_neD h.d h.w (by decide)⟩
set_option maxHeartbeats 8000000 in
set_option maxRecDepth 100000 in
theorem dvo_part_yes {Wb A b cap va vs : Nat} {s : ASt} {d at_ fr n x : Int} {S : ByteArray} {w0 w : World} (h : DvW Wb A b cap va vs s w0 w) (hL : s.L ≤ 8) (hd : d.tmod 10 = 0) (hd0 : 0 ≤ d ∧ d ≤ 255) (ha : -9223372036854775808 ≤ at_ ∧ at_ ≤ 9223372036854775807) (hf : -9223372036854775808 ≤ fr ∧ fr ≤ 9223372036854775807) (hn : -9223372036854775808 ≤ n ∧ n ≤ 9223372036854775807) (hx : 0 ≤ x ∧ x < 18446744073709551616) (hS : S.size ≤ 9223372036854775807) (hw : wiB s va vs at_ n = true) :
    Calls Try.prog 28 #[.pointer (some ⟨Wb, 0, none⟩), .agg #[.int .u8 d, .int .i64 at_, .int .i64 fr, .int .i64 n, .int .u64 x, .string S]] w (DvP Wb A s.L w0) := by
  have hv1 := h.hva
  have hv2 := h.hvs
  have g := h.x.good
  have hin := wi_true g hw
  obtain ⟨hwt, hAE⟩ := wi_in s (va := va) hin
  have hE0 : thereE s.L s.es (addrV va vs at_ n) n = 0 := by rw [wi_thereE, hw]; rfl
  have hth := (there_iff g ((va : Int) + at_) n).1 (by rw [← hwt]; exact hw)
  have hsm := g.small
  obtain ⟨pa, hP⟩ := Int.eq_ofNat_of_zero_le hth.1
  obtain ⟨pn, hN⟩ := Int.eq_ofNat_of_zero_le hin.2.1
  have hpa : pa ≤ 4294967296 := by have := hth.2.2.1; omega
  have hpn : pn ≤ 4294967296 := by have := hth.2.2.1; omega
  have HPC : Hid (∀ (y : World), On A s y → Calls Try.prog 72 #[vwV A va vs, .int .i64 at_, .int .i64 n] y (Gives (.tuple #[.agg #[.pointer (some ⟨A, 0, none⟩), .int .i64 (pa : Int), .int .i64 (pn : Int)], .int .i64 0]) y)) := Lib.hid (fun y hy => by
    have k := on_part hy va vs hv1 hv2 at_ n (by omega)
    have e : ofV (some ⟨A, 0, none⟩) (addrV va vs at_ n) n 0 = .agg #[.pointer (some ⟨A, 0, none⟩), .int .i64 (pa : Int), .int .i64 (pn : Int)] := by
      unfold ofV
      rw [if_pos rfl, hAE, hP, ← hN]
    rw [hE0, e] at k
    exact k)
  have HDC : Hid (∀ (y : World), DocB b (gS s) y → Calls Try.prog 73 #[.agg #[.slice (some ⟨b, 0, none⟩) s.L cap, .int .i64 (refR s)], .agg #[.int .i64 (va : Int), .int .i64 (vs : Int)], .int .i64 at_, .int .i64 n] y (Gives (.tuple #[.agg #[.int .i64 (pa : Int), .int .i64 (pn : Int)], .int .i64 0]) y)) := Lib.hid (fun y hy => by
    have k := rv_part_yes (cap := cap) g hL hv1 hv2 (refR s) at_ n ha hn hy hw
    have e : Value.tuple #[.agg #[.int .i64 ((va : Int) + at_), .int .i64 n], .int .i64 0] = .tuple #[.agg #[.int .i64 (pa : Int), .int .i64 (pn : Int)], .int .i64 0] := by rw [hP, ← hN]
    rw [e] at k
    exact k)
  have HPB := Lib.hid (And.intro hpa hpn)
  clear hE0 hf hn hx hS hv1 hv2 hw g hin hwt hAE hth hsm hP hN hpa hpn
  have hE := heap_new w (.cells #[.int .u8 d, .int .i64 at_, .int .i64 fr, .int .i64 n, .int .u64 x, .string S] 36)
  have hb0 := bel1 w (.cells #[.int .u8 d, .int .i64 at_, .int .i64 fr, .int .i64 n, .int .u64 x, .string S] 36)
  have hds := h.start hE hb0
  clear hE hb0
  go_enter Try.func28, Try.ntmps28
  go_upto_region 1 with fail
  change Code.wp _ _ _ _ (w.alloc (.cells #[.int .u8 d, .int .i64 at_, .int .i64 fr, .int .i64 n, .int .u64 x, .string S] 36))
  obtain ⟨y, hy⟩ : ∃ y, w.alloc (.cells #[.int .u8 d, .int .i64 at_, .int .i64 fr, .int .i64 n, .int .u64 x, .string S] 36) = y := ⟨_, rfl⟩
  obtain ⟨E, hEE⟩ : ∃ E, w.heap.size = E := ⟨_, rfl⟩
  rw [hy, hEE] at hds
  rw [hy, hEE]
  have H := Lib.hid hds
  clear hy hEE hds
  obtain ⟨⟨s1, s2, s3, s4, s5, s6, s7, s8⟩, ⟨t1, t2, t3, t4, t5, t6⟩, f4, f5⟩ := H.out.all
  go_upto_region 7 with fail
  have HY := Lib.hid H.out
  have HYD := Lib.hid (H.out.below (Below.refl y.heap.size y).drew)
  clear H s1 s2 s3 s4 s5 s6 s7 s8 t1 t2 t3 t4 t5 t6 f4 f5
  go_cut [7, 8] (fun s7 s8 wx => Pt7 Wb E A b cap va vs s d at_ fr n x S w0 (some ⟨A, 0, none⟩) (pa : Int) (pn : Int) 0 s7 s8 wx)
  case first =>
    as_aux_lemma =>
    have hS0 := HYD.out
    refine wp_region_held_drew (S := DvS Wb E A b cap va vs s s d at_ fr n x S w0) (by kernel_rfl) hS0 (fun hHeld => ?_)
    refine wpAnyH_take (i := 0) (v := (.pointer (some ⟨Wb, 0, none⟩))) rfl (by kernel_rfl) (by kernel_rfl) (by kernel_rfl) (fun _ _ _ h => h) (Or.inl ⟨by rfl, fun X hS => ?_⟩) hHeld ?_
    · obtain ⟨⟨s1, s2, s3, s4, s5, s6, s7, s8⟩, ⟨t1, t2, t3, t4, t5, t6⟩, f4, f5⟩ := hS.all
      go_simp
    try simp only [Act.put, List.getElem_toArray, List.getElem_cons_zero, List.getElem_cons_succ, List.setIfInBounds_toArray, List.set_cons_zero, List.set_cons_succ]
    refine wpAnyH_take (i := 1) (v := (.pointer (some ⟨Wb, 0, none⟩))) rfl (by kernel_rfl) (by kernel_rfl) (by kernel_rfl) (fun _ _ _ h => h) (Or.inl ⟨by rfl, fun X hS => ?_⟩) hHeld ?_
    · obtain ⟨⟨s1, s2, s3, s4, s5, s6, s7, s8⟩, ⟨t1, t2, t3, t4, t5, t6⟩, f4, f5⟩ := hS.all
      go_simp
    try simp only [Act.put, List.getElem_toArray, List.getElem_cons_zero, List.getElem_cons_succ, List.setIfInBounds_toArray, List.set_cons_zero, List.set_cons_succ]
    refine wpAnyH_take (i := 2) (v := (.pointer (some ⟨Wb, 1, none⟩))) rfl (by kernel_rfl) (by kernel_rfl) (by kernel_rfl) (fun _ _ _ h => h) (Or.inl ⟨by rfl, fun X hS => ?_⟩) hHeld ?_
    · obtain ⟨⟨s1, s2, s3, s4, s5, s6, s7, s8⟩, ⟨t1, t2, t3, t4, t5, t6⟩, f4, f5⟩ := hS.all
      go_simp
    try simp only [Act.put, List.getElem_toArray, List.getElem_cons_zero, List.getElem_cons_succ, List.setIfInBounds_toArray, List.set_cons_zero, List.set_cons_succ]
    refine wpAnyH_take (i := 3) (v := (.agg #[.pointer (some ⟨A, 0, none⟩), .int .i64 (va : Int), .int .i64 (vs : Int)])) rfl (by kernel_rfl) (by kernel_rfl) (by kernel_rfl) (fun _ _ _ h => h) (Or.inl ⟨by rfl, fun X hS => ?_⟩) hHeld ?_
    · obtain ⟨⟨s1, s2, s3, s4, s5, s6, s7, s8⟩, ⟨t1, t2, t3, t4, t5, t6⟩, f4, f5⟩ := hS.all
      go_simp
    try simp only [Act.put, List.getElem_toArray, List.getElem_cons_zero, List.getElem_cons_succ, List.setIfInBounds_toArray, List.set_cons_zero, List.set_cons_succ]
    refine wpAnyH_take (i := 4) (v := (.pointer (some ⟨E, 1, none⟩))) rfl (by kernel_rfl) (by kernel_rfl) (by kernel_rfl) (fun _ _ _ h => h) (Or.inl ⟨by rfl, fun X hS => ?_⟩) hHeld ?_
    · obtain ⟨⟨s1, s2, s3, s4, s5, s6, s7, s8⟩, ⟨t1, t2, t3, t4, t5, t6⟩, f4, f5⟩ := hS.all
      go_simp
    try simp only [Act.put, List.getElem_toArray, List.getElem_cons_zero, List.getElem_cons_succ, List.setIfInBounds_toArray, List.set_cons_zero, List.set_cons_succ]
    refine wpAnyH_take (i := 5) (v := (.int .i64 at_)) rfl (by kernel_rfl) (by kernel_rfl) (by kernel_rfl) (fun _ _ _ h => h) (Or.inl ⟨by rfl, fun X hS => ?_⟩) hHeld ?_
    · obtain ⟨⟨s1, s2, s3, s4, s5, s6, s7, s8⟩, ⟨t1, t2, t3, t4, t5, t6⟩, f4, f5⟩ := hS.all
      go_simp
    try simp only [Act.put, List.getElem_toArray, List.getElem_cons_zero, List.getElem_cons_succ, List.setIfInBounds_toArray, List.set_cons_zero, List.set_cons_succ]
    refine wpAnyH_take (i := 6) (v := (.pointer (some ⟨E, 3, none⟩))) rfl (by kernel_rfl) (by kernel_rfl) (by kernel_rfl) (fun _ _ _ h => h) (Or.inl ⟨by rfl, fun X hS => ?_⟩) hHeld ?_
    · obtain ⟨⟨s1, s2, s3, s4, s5, s6, s7, s8⟩, ⟨t1, t2, t3, t4, t5, t6⟩, f4, f5⟩ := hS.all
      go_simp
    try simp only [Act.put, List.getElem_toArray, List.getElem_cons_zero, List.getElem_cons_succ, List.setIfInBounds_toArray, List.set_cons_zero, List.set_cons_succ]
    refine wpAnyH_take (i := 7) (v := (.int .i64 n)) rfl (by kernel_rfl) (by kernel_rfl) (by kernel_rfl) (fun _ _ _ h => h) (Or.inl ⟨by rfl, fun X hS => ?_⟩) hHeld ?_
    · obtain ⟨⟨s1, s2, s3, s4, s5, s6, s7, s8⟩, ⟨t1, t2, t3, t4, t5, t6⟩, f4, f5⟩ := hS.all
      go_simp
    try simp only [Act.put, List.getElem_toArray, List.getElem_cons_zero, List.getElem_cons_succ, List.setIfInBounds_toArray, List.set_cons_zero, List.set_cons_succ]
    clear hHeld
    refine wpAnyH_ready (rs := [8, 12]) (by kernel_rfl) (by simp) (AllReadyH.cons rfl (fun K1 hK1 => ?_) (AllReadyH.cons rfl (fun K1 hK1 => ?_) AllReadyH.nil))
    · go_simp
      refine (HPC.out _ HYD.out.x).mono ?_
      rintro e w2 ⟨rfl, hb⟩
      have HD2 := Lib.hid (HYD.out.below hb)
      clear hb
      refine hK1.out _ _ HD2.out (fun hHeld => ?_)
      clear hK1
      try simp only [Act.put, List.getElem_toArray, List.getElem_cons_zero, List.getElem_cons_succ, List.setIfInBounds_toArray, List.set_cons_zero, List.set_cons_succ]
      refine wpAnyH_take (i := 9) (v := (.tuple #[.agg #[.pointer (some ⟨A, 0, none⟩), .int .i64 (pa : Int), .int .i64 (pn : Int)], .int .i64 0])) rfl (by kernel_rfl) (by kernel_rfl) (by kernel_rfl) (fun _ _ _ h => h) (Or.inl ⟨by rfl, fun X hS => ?_⟩) hHeld ?_
      · obtain ⟨⟨s1, s2, s3, s4, s5, s6, s7, s8⟩, ⟨t1, t2, t3, t4, t5, t6⟩, f4, f5⟩ := hS.all
        go_simp
      try simp only [Act.put, List.getElem_toArray, List.getElem_cons_zero, List.getElem_cons_succ, List.setIfInBounds_toArray, List.set_cons_zero, List.set_cons_succ]
      refine wpAnyH_take (i := 10) (v := (.agg #[.pointer (some ⟨A, 0, none⟩), .int .i64 (pa : Int), .int .i64 (pn : Int)])) rfl (by kernel_rfl) (by kernel_rfl) (by kernel_rfl) (fun _ _ _ h => h) (Or.inl ⟨by rfl, fun X hS => ?_⟩) hHeld ?_
      · obtain ⟨⟨s1, s2, s3, s4, s5, s6, s7, s8⟩, ⟨t1, t2, t3, t4, t5, t6⟩, f4, f5⟩ := hS.all
        go_simp
      try simp only [Act.put, List.getElem_toArray, List.getElem_cons_zero, List.getElem_cons_succ, List.setIfInBounds_toArray, List.set_cons_zero, List.set_cons_succ]
      refine wpAnyH_take (i := 11) (v := (.int .i64 0)) rfl (by kernel_rfl) (by kernel_rfl) (by kernel_rfl) (fun _ _ _ h => h) (Or.inl ⟨by rfl, fun X hS => ?_⟩) hHeld ?_
      · obtain ⟨⟨s1, s2, s3, s4, s5, s6, s7, s8⟩, ⟨t1, t2, t3, t4, t5, t6⟩, f4, f5⟩ := hS.all
        go_simp
      try simp only [Act.put, List.getElem_toArray, List.getElem_cons_zero, List.getElem_cons_succ, List.setIfInBounds_toArray, List.set_cons_zero, List.set_cons_succ]
      clear hHeld
      refine wpAnyH_ready (rs := [12]) (by kernel_rfl) (by simp) (AllReadyH.cons rfl (fun K1 hK1 => ?_) AllReadyH.nil)
      go_simp
      have hD3 : DvS Wb E A b cap va vs s s d at_ fr n x S w0 (w2.alloc (.cells #[.pointer none, .int .i64 0, .int .i64 0] 55)) := HD2.out.below (bel1 w2 (.cells #[.pointer none, .int .i64 0, .int .i64 0] 55))
      have hT : PtT w2.heap.size none 0 0 (w2.alloc (.cells #[.pointer none, .int .i64 0, .int .i64 0] 55)) := heap_new w2 (.cells #[.pointer none, .int .i64 0, .int .i64 0] 55)
      have hM : Mine A w2.heap.size (w2.alloc (.cells #[.pointer none, .int .i64 0, .int .i64 0] 55)) := (Mine.new HD2.out.x (.cells #[.pointer none, .int .i64 0, .int .i64 0] 55)).went (Went.of_below (HD2.out.x.below (bel1 w2 (.cells #[.pointer none, .int .i64 0, .int .i64 0] 55))) (Below.refl _ _))
      have h0 : w0.heap.size ≤ w2.heap.size := HD2.out.bs.bel.size
      obtain ⟨x1, hx1⟩ : ∃ x1, (w2.alloc (.cells #[.pointer none, .int .i64 0, .int .i64 0] 55)) = x1 := ⟨_, rfl⟩
      obtain ⟨T, hTT⟩ : ∃ T, w2.heap.size = T := ⟨_, rfl⟩
      rw [hx1] at hD3 hT hM ⊢
      rw [hTT] at hT hM h0 ⊢
      have HD3 := Lib.hid hD3
      have HTN := Lib.hid hT
      have HM := Lib.hid hM
      have H0 := Lib.hid h0

      clear hx1 hTT hD3 hT hM h0 

      refine hK1.out _ _ HD3.out (fun hHeld => ?_)
      clear hK1
      try simp only [Act.put, List.getElem_toArray, List.getElem_cons_zero, List.getElem_cons_succ, List.setIfInBounds_toArray, List.set_cons_zero, List.set_cons_succ]
      clear hHeld
      refine wpAnyH_ready (rs := [13]) (by kernel_rfl) (by simp) (AllReadyH.cons rfl (fun K1 hK1 => ?_) AllReadyH.nil)
      have c0 := (cell_blk HTN.out 0).1
      have c1 := (cell_blk HTN.out 1).1
      have c2 := (cell_blk HTN.out 2).1
      have f0 := (cell_blk HTN.out 0).2
      have f1 := (cell_blk HTN.out 1).2
      have f2 := (cell_blk HTN.out 2).2
      go_simp
      clear c0 c1 c2 f0 f1 f2
      have hfar := HD3.out.far3 HTN.out HM.out H0.out (some ⟨A, 0, none⟩) pa pn
      have HFD := Lib.hid hfar.1
      have HFT := Lib.hid hfar.2
      clear hfar
      refine hK1.out _ _ HFD.out (fun hHeld => ?_)
      clear hK1
      try simp only [Act.put, List.getElem_toArray, List.getElem_cons_zero, List.getElem_cons_succ, List.setIfInBounds_toArray, List.set_cons_zero, List.set_cons_succ]
      refine wpAnyH_take (i := 14) (v := (.int .i64 0)) rfl (by kernel_rfl) (by kernel_rfl) (by kernel_rfl) (fun _ _ _ h => h) (Or.inl ⟨by rfl, fun X hS => ?_⟩) hHeld ?_
      · obtain ⟨⟨s1, s2, s3, s4, s5, s6, s7, s8⟩, ⟨t1, t2, t3, t4, t5, t6⟩, f4, f5⟩ := hS.all
        go_simp
      try simp only [Act.put, List.getElem_toArray, List.getElem_cons_zero, List.getElem_cons_succ, List.setIfInBounds_toArray, List.set_cons_zero, List.set_cons_succ]
      refine wpAnyH_done (by kernel_rfl) ?_ _
      clear hHeld
      go_wp2_with fail
      go_meet
      exact ⟨T, rfl, rfl, HFD.out, HFT.out⟩
    · go_simp
      have hD3 : DvS Wb E A b cap va vs s s d at_ fr n x S w0 (y.alloc (.cells #[.pointer none, .int .i64 0, .int .i64 0] 55)).drew := HY.out.below (bel1 y (.cells #[.pointer none, .int .i64 0, .int .i64 0] 55)).drew
      have hT : PtT y.heap.size none 0 0 (y.alloc (.cells #[.pointer none, .int .i64 0, .int .i64 0] 55)).drew := heap_new y (.cells #[.pointer none, .int .i64 0, .int .i64 0] 55)
      have hM : Mine A y.heap.size (y.alloc (.cells #[.pointer none, .int .i64 0, .int .i64 0] 55)).drew := (Mine.new HY.out.x (.cells #[.pointer none, .int .i64 0, .int .i64 0] 55)).went (Went.of_below (HY.out.x.below (bel1 y (.cells #[.pointer none, .int .i64 0, .int .i64 0] 55))) (Below.refl _ _).drew)
      have h0 : w0.heap.size ≤ y.heap.size := HY.out.bs.bel.size
      obtain ⟨x1, hx1⟩ : ∃ x1, (y.alloc (.cells #[.pointer none, .int .i64 0, .int .i64 0] 55)).drew = x1 := ⟨_, rfl⟩
      obtain ⟨T, hTT⟩ : ∃ T, y.heap.size = T := ⟨_, rfl⟩
      rw [hx1] at hD3 hT hM ⊢
      rw [hTT] at hT hM h0 ⊢
      have HD3 := Lib.hid hD3
      have HTN := Lib.hid hT
      have HM := Lib.hid hM
      have H0 := Lib.hid h0

      clear hx1 hTT hD3 hT hM h0 
      refine hK1.out _ _ HD3.out (fun hHeld => ?_)
      clear hK1
      try simp only [Act.put, List.getElem_toArray, List.getElem_cons_zero, List.getElem_cons_succ, List.setIfInBounds_toArray, List.set_cons_zero, List.set_cons_succ]
      clear hHeld
      refine wpAnyH_ready (rs := [8]) (by kernel_rfl) (by simp) (AllReadyH.cons rfl (fun K1 hK1 => ?_) AllReadyH.nil)
      go_simp
      refine (HPC.out _ HD3.out.x).mono ?_
      rintro e w2 ⟨rfl, hb⟩
      have HD4 := Lib.hid (HD3.out.below hb)
      have HTN2 := Lib.hid (show PtT T none 0 0 w2 from blk_at hb HTN.out)
      have HM2 := Lib.hid (HM.out.went (Went.of_below HD3.out.x hb))
      clear hb

      refine hK1.out _ _ HD4.out (fun hHeld => ?_)
      clear hK1
      try simp only [Act.put, List.getElem_toArray, List.getElem_cons_zero, List.getElem_cons_succ, List.setIfInBounds_toArray, List.set_cons_zero, List.set_cons_succ]
      refine wpAnyH_take (i := 9) (v := (.tuple #[.agg #[.pointer (some ⟨A, 0, none⟩), .int .i64 (pa : Int), .int .i64 (pn : Int)], .int .i64 0])) rfl (by kernel_rfl) (by kernel_rfl) (by kernel_rfl) (fun _ _ _ h => h) (Or.inl ⟨by rfl, fun X hS => ?_⟩) hHeld ?_
      · obtain ⟨⟨s1, s2, s3, s4, s5, s6, s7, s8⟩, ⟨t1, t2, t3, t4, t5, t6⟩, f4, f5⟩ := hS.all
        go_simp
      try simp only [Act.put, List.getElem_toArray, List.getElem_cons_zero, List.getElem_cons_succ, List.setIfInBounds_toArray, List.set_cons_zero, List.set_cons_succ]
      refine wpAnyH_take (i := 10) (v := (.agg #[.pointer (some ⟨A, 0, none⟩), .int .i64 (pa : Int), .int .i64 (pn : Int)])) rfl (by kernel_rfl) (by kernel_rfl) (by kernel_rfl) (fun _ _ _ h => h) (Or.inl ⟨by rfl, fun X hS => ?_⟩) hHeld ?_
      · obtain ⟨⟨s1, s2, s3, s4, s5, s6, s7, s8⟩, ⟨t1, t2, t3, t4, t5, t6⟩, f4, f5⟩ := hS.all
        go_simp
      try simp only [Act.put, List.getElem_toArray, List.getElem_cons_zero, List.getElem_cons_succ, List.setIfInBounds_toArray, List.set_cons_zero, List.set_cons_succ]
      refine wpAnyH_take (i := 11) (v := (.int .i64 0)) rfl (by kernel_rfl) (by kernel_rfl) (by kernel_rfl) (fun _ _ _ h => h) (Or.inl ⟨by rfl, fun X hS => ?_⟩) hHeld ?_
      · obtain ⟨⟨s1, s2, s3, s4, s5, s6, s7, s8⟩, ⟨t1, t2, t3, t4, t5, t6⟩, f4, f5⟩ := hS.all
        go_simp
      try simp only [Act.put, List.getElem_toArray, List.getElem_cons_zero, List.getElem_cons_succ, List.setIfInBounds_toArray, List.set_cons_zero, List.set_cons_succ]
      clear HD3 HTN HM
      have HD3 := HD4
      have HTN := HTN2
      have HM := HM2
      clear hHeld
      refine wpAnyH_ready (rs := [13]) (by kernel_rfl) (by simp) (AllReadyH.cons rfl (fun K1 hK1 => ?_) AllReadyH.nil)
      have c0 := (cell_blk HTN.out 0).1
      have c1 := (cell_blk HTN.out 1).1
      have c2 := (cell_blk HTN.out 2).1
      have f0 := (cell_blk HTN.out 0).2
      have f1 := (cell_blk HTN.out 1).2
      have f2 := (cell_blk HTN.out 2).2
      go_simp
      clear c0 c1 c2 f0 f1 f2
      have hfar := HD3.out.far3 HTN.out HM.out H0.out (some ⟨A, 0, none⟩) pa pn
      have HFD := Lib.hid hfar.1
      have HFT := Lib.hid hfar.2
      clear hfar
      refine hK1.out _ _ HFD.out (fun hHeld => ?_)
      clear hK1
      try simp only [Act.put, List.getElem_toArray, List.getElem_cons_zero, List.getElem_cons_succ, List.setIfInBounds_toArray, List.set_cons_zero, List.set_cons_succ]
      refine wpAnyH_take (i := 14) (v := (.int .i64 0)) rfl (by kernel_rfl) (by kernel_rfl) (by kernel_rfl) (fun _ _ _ h => h) (Or.inl ⟨by rfl, fun X hS => ?_⟩) hHeld ?_
      · obtain ⟨⟨s1, s2, s3, s4, s5, s6, s7, s8⟩, ⟨t1, t2, t3, t4, t5, t6⟩, f4, f5⟩ := hS.all
        go_simp
      try simp only [Act.put, List.getElem_toArray, List.getElem_cons_zero, List.getElem_cons_succ, List.setIfInBounds_toArray, List.set_cons_zero, List.set_cons_succ]
      refine wpAnyH_done (by kernel_rfl) ?_ _
      clear hHeld
      go_wp2_with fail
      go_meet
      exact ⟨T, rfl, rfl, HFD.out, HFT.out⟩
  case rest =>
  obtain ⟨T, rfl, rfl, hd7, ht7⟩ := hcut
  clear HY HYD
  obtain ⟨y, hyw⟩ : ∃ y, wc = y := ⟨_, rfl⟩
  rw [hyw] at hd7 ht7 ⊢
  clear hyw
  have HY := Lib.hid hd7
  have HYD := Lib.hid (hd7.below (Below.refl y.heap.size y).drew)
  have HTY := Lib.hid ht7
  have HTYD := Lib.hid (show PtT T (some ⟨A, 0, none⟩) (pa : Int) (pn : Int) y.drew from blk_at (Below.refl y.heap.size y).drew ht7)
  clear hd7 ht7
  go_upto_region 8 with fail
  go_cut [9, 10] (fun s9 s10 wx => Pt8 Wb E A b cap va vs T s d at_ fr n x S w0 (some ⟨A, 0, none⟩) (pa : Int) (pn : Int) (pa : Int) (pn : Int) 0 s9 s10 wx)
  case first =>
    as_aux_lemma =>
    have hS0 := HYD.out
    refine wp_region_held_drew (S := DvS Wb E A b cap va vs s s d at_ fr n x S w0) (by kernel_rfl) hS0 (fun hHeld => ?_)
    refine wpAnyH_take (i := 0) (v := (.pointer (some ⟨Wb, 0, none⟩))) rfl (by kernel_rfl) (by kernel_rfl) (by kernel_rfl) (fun _ _ _ h => h) (Or.inl ⟨by rfl, fun X hS => ?_⟩) hHeld ?_
    · obtain ⟨⟨s1, s2, s3, s4, s5, s6, s7, s8⟩, ⟨t1, t2, t3, t4, t5, t6⟩, f4, f5⟩ := hS.all
      go_simp
    try simp only [Act.put, List.getElem_toArray, List.getElem_cons_zero, List.getElem_cons_succ, List.setIfInBounds_toArray, List.set_cons_zero, List.set_cons_succ]
    refine wpAnyH_take (i := 1) (v := (.pointer (some ⟨Wb, 0, none⟩))) rfl (by kernel_rfl) (by kernel_rfl) (by kernel_rfl) (fun _ _ _ h => h) (Or.inl ⟨by rfl, fun X hS => ?_⟩) hHeld ?_
    · obtain ⟨⟨s1, s2, s3, s4, s5, s6, s7, s8⟩, ⟨t1, t2, t3, t4, t5, t6⟩, f4, f5⟩ := hS.all
      go_simp
    try simp only [Act.put, List.getElem_toArray, List.getElem_cons_zero, List.getElem_cons_succ, List.setIfInBounds_toArray, List.set_cons_zero, List.set_cons_succ]
    refine wpAnyH_take (i := 2) (v := (.pointer (some ⟨Wb, 4, none⟩))) rfl (by kernel_rfl) (by kernel_rfl) (by kernel_rfl) (fun _ _ _ h => h) (Or.inl ⟨by rfl, fun X hS => ?_⟩) hHeld ?_
    · obtain ⟨⟨s1, s2, s3, s4, s5, s6, s7, s8⟩, ⟨t1, t2, t3, t4, t5, t6⟩, f4, f5⟩ := hS.all
      go_simp
    try simp only [Act.put, List.getElem_toArray, List.getElem_cons_zero, List.getElem_cons_succ, List.setIfInBounds_toArray, List.set_cons_zero, List.set_cons_succ]
    refine wpAnyH_take (i := 3) (v := (.agg #[.slice (some ⟨b, 0, none⟩) s.L cap, .int .i64 (refR s)])) rfl (by kernel_rfl) (by kernel_rfl) (by kernel_rfl) (fun _ _ _ h => h) (Or.inl ⟨by rfl, fun X hS => ?_⟩) hHeld ?_
    · obtain ⟨⟨s1, s2, s3, s4, s5, s6, s7, s8⟩, ⟨t1, t2, t3, t4, t5, t6⟩, f4, f5⟩ := hS.all
      go_simp
    try simp only [Act.put, List.getElem_toArray, List.getElem_cons_zero, List.getElem_cons_succ, List.setIfInBounds_toArray, List.set_cons_zero, List.set_cons_succ]
    refine wpAnyH_take (i := 4) (v := (.pointer (some ⟨Wb, 0, none⟩))) rfl (by kernel_rfl) (by kernel_rfl) (by kernel_rfl) (fun _ _ _ h => h) (Or.inl ⟨by rfl, fun X hS => ?_⟩) hHeld ?_
    · obtain ⟨⟨s1, s2, s3, s4, s5, s6, s7, s8⟩, ⟨t1, t2, t3, t4, t5, t6⟩, f4, f5⟩ := hS.all
      go_simp
    try simp only [Act.put, List.getElem_toArray, List.getElem_cons_zero, List.getElem_cons_succ, List.setIfInBounds_toArray, List.set_cons_zero, List.set_cons_succ]
    refine wpAnyH_take (i := 5) (v := (.pointer (some ⟨Wb, 0, none⟩))) rfl (by kernel_rfl) (by kernel_rfl) (by kernel_rfl) (fun _ _ _ h => h) (Or.inl ⟨by rfl, fun X hS => ?_⟩) hHeld ?_
    · obtain ⟨⟨s1, s2, s3, s4, s5, s6, s7, s8⟩, ⟨t1, t2, t3, t4, t5, t6⟩, f4, f5⟩ := hS.all
      go_simp
    try simp only [Act.put, List.getElem_toArray, List.getElem_cons_zero, List.getElem_cons_succ, List.setIfInBounds_toArray, List.set_cons_zero, List.set_cons_succ]
    refine wpAnyH_take (i := 6) (v := (.pointer (some ⟨Wb, 6, none⟩))) rfl (by kernel_rfl) (by kernel_rfl) (by kernel_rfl) (fun _ _ _ h => h) (Or.inl ⟨by rfl, fun X hS => ?_⟩) hHeld ?_
    · obtain ⟨⟨s1, s2, s3, s4, s5, s6, s7, s8⟩, ⟨t1, t2, t3, t4, t5, t6⟩, f4, f5⟩ := hS.all
      go_simp
    try simp only [Act.put, List.getElem_toArray, List.getElem_cons_zero, List.getElem_cons_succ, List.setIfInBounds_toArray, List.set_cons_zero, List.set_cons_succ]
    refine wpAnyH_take (i := 7) (v := (.agg #[.int .i64 (va : Int), .int .i64 (vs : Int)])) rfl (by kernel_rfl) (by kernel_rfl) (by kernel_rfl) (fun _ _ _ h => h) (Or.inl ⟨by rfl, fun X hS => ?_⟩) hHeld ?_
    · obtain ⟨⟨s1, s2, s3, s4, s5, s6, s7, s8⟩, ⟨t1, t2, t3, t4, t5, t6⟩, f4, f5⟩ := hS.all
      go_simp
    try simp only [Act.put, List.getElem_toArray, List.getElem_cons_zero, List.getElem_cons_succ, List.setIfInBounds_toArray, List.set_cons_zero, List.set_cons_succ]
    refine wpAnyH_take (i := 8) (v := (.pointer (some ⟨E, 1, none⟩))) rfl (by kernel_rfl) (by kernel_rfl) (by kernel_rfl) (fun _ _ _ h => h) (Or.inl ⟨by rfl, fun X hS => ?_⟩) hHeld ?_
    · obtain ⟨⟨s1, s2, s3, s4, s5, s6, s7, s8⟩, ⟨t1, t2, t3, t4, t5, t6⟩, f4, f5⟩ := hS.all
      go_simp
    try simp only [Act.put, List.getElem_toArray, List.getElem_cons_zero, List.getElem_cons_succ, List.setIfInBounds_toArray, List.set_cons_zero, List.set_cons_succ]
    refine wpAnyH_take (i := 9) (v := (.int .i64 at_)) rfl (by kernel_rfl) (by kernel_rfl) (by kernel_rfl) (fun _ _ _ h => h) (Or.inl ⟨by rfl, fun X hS => ?_⟩) hHeld ?_
    · obtain ⟨⟨s1, s2, s3, s4, s5, s6, s7, s8⟩, ⟨t1, t2, t3, t4, t5, t6⟩, f4, f5⟩ := hS.all
      go_simp
    try simp only [Act.put, List.getElem_toArray, List.getElem_cons_zero, List.getElem_cons_succ, List.setIfInBounds_toArray, List.set_cons_zero, List.set_cons_succ]
    refine wpAnyH_take (i := 10) (v := (.pointer (some ⟨E, 3, none⟩))) rfl (by kernel_rfl) (by kernel_rfl) (by kernel_rfl) (fun _ _ _ h => h) (Or.inl ⟨by rfl, fun X hS => ?_⟩) hHeld ?_
    · obtain ⟨⟨s1, s2, s3, s4, s5, s6, s7, s8⟩, ⟨t1, t2, t3, t4, t5, t6⟩, f4, f5⟩ := hS.all
      go_simp
    try simp only [Act.put, List.getElem_toArray, List.getElem_cons_zero, List.getElem_cons_succ, List.setIfInBounds_toArray, List.set_cons_zero, List.set_cons_succ]
    refine wpAnyH_take (i := 11) (v := (.int .i64 n)) rfl (by kernel_rfl) (by kernel_rfl) (by kernel_rfl) (fun _ _ _ h => h) (Or.inl ⟨by rfl, fun X hS => ?_⟩) hHeld ?_
    · obtain ⟨⟨s1, s2, s3, s4, s5, s6, s7, s8⟩, ⟨t1, t2, t3, t4, t5, t6⟩, f4, f5⟩ := hS.all
      go_simp
    try simp only [Act.put, List.getElem_toArray, List.getElem_cons_zero, List.getElem_cons_succ, List.setIfInBounds_toArray, List.set_cons_zero, List.set_cons_succ]
    clear hHeld
    refine wpAnyH_ready (rs := [12, 16]) (by kernel_rfl) (by simp) (AllReadyH.cons rfl (fun K1 hK1 => ?_) (AllReadyH.cons rfl (fun K1 hK1 => ?_) AllReadyH.nil))
    · go_simp
      refine (HDC.out _ HYD.out.d).mono ?_
      rintro e w2 ⟨rfl, hb⟩
      have HD2 := Lib.hid (HYD.out.below hb)
      have HT2 := Lib.hid (show PtT T (some ⟨A, 0, none⟩) (pa : Int) (pn : Int) w2 from blk_at hb HTYD.out)
      clear hb
      refine hK1.out _ _ HD2.out (fun hHeld => ?_)
      clear hK1
      try simp only [Act.put, List.getElem_toArray, List.getElem_cons_zero, List.getElem_cons_succ, List.setIfInBounds_toArray, List.set_cons_zero, List.set_cons_succ]
      refine wpAnyH_take (i := 13) (v := (.tuple #[.agg #[.int .i64 (pa : Int), .int .i64 (pn : Int)], .int .i64 0])) rfl (by kernel_rfl) (by kernel_rfl) (by kernel_rfl) (fun _ _ _ h => h) (Or.inl ⟨by rfl, fun X hS => ?_⟩) hHeld ?_
      · obtain ⟨⟨s1, s2, s3, s4, s5, s6, s7, s8⟩, ⟨t1, t2, t3, t4, t5, t6⟩, f4, f5⟩ := hS.all
        go_simp
      try simp only [Act.put, List.getElem_toArray, List.getElem_cons_zero, List.getElem_cons_succ, List.setIfInBounds_toArray, List.set_cons_zero, List.set_cons_succ]
      refine wpAnyH_take (i := 14) (v := (.agg #[.int .i64 (pa : Int), .int .i64 (pn : Int)])) rfl (by kernel_rfl) (by kernel_rfl) (by kernel_rfl) (fun _ _ _ h => h) (Or.inl ⟨by rfl, fun X hS => ?_⟩) hHeld ?_
      · obtain ⟨⟨s1, s2, s3, s4, s5, s6, s7, s8⟩, ⟨t1, t2, t3, t4, t5, t6⟩, f4, f5⟩ := hS.all
        go_simp
      try simp only [Act.put, List.getElem_toArray, List.getElem_cons_zero, List.getElem_cons_succ, List.setIfInBounds_toArray, List.set_cons_zero, List.set_cons_succ]
      refine wpAnyH_take (i := 15) (v := (.int .i64 0)) rfl (by kernel_rfl) (by kernel_rfl) (by kernel_rfl) (fun _ _ _ h => h) (Or.inl ⟨by rfl, fun X hS => ?_⟩) hHeld ?_
      · obtain ⟨⟨s1, s2, s3, s4, s5, s6, s7, s8⟩, ⟨t1, t2, t3, t4, t5, t6⟩, f4, f5⟩ := hS.all
        go_simp
      try simp only [Act.put, List.getElem_toArray, List.getElem_cons_zero, List.getElem_cons_succ, List.setIfInBounds_toArray, List.set_cons_zero, List.set_cons_succ]
      clear hHeld
      refine wpAnyH_ready (rs := [16]) (by kernel_rfl) (by simp) (AllReadyH.cons rfl (fun K1 hK1 => ?_) AllReadyH.nil)
      go_simp
      have hD3 : DvS Wb E A b cap va vs s s d at_ fr n x S w0 (w2.alloc (.cells #[.int .i64 0, .int .i64 0] 61)) := HD2.out.below (bel1 w2 (.cells #[.int .i64 0, .int .i64 0] 61))
      have hT : PtU w2.heap.size 0 0 (w2.alloc (.cells #[.int .i64 0, .int .i64 0] 61)) := heap_new w2 (.cells #[.int .i64 0, .int .i64 0] 61)
      have hM : Mine A w2.heap.size (w2.alloc (.cells #[.int .i64 0, .int .i64 0] 61)) := (Mine.new HD2.out.x (.cells #[.int .i64 0, .int .i64 0] 61)).went (Went.of_below (HD2.out.x.below (bel1 w2 (.cells #[.int .i64 0, .int .i64 0] 61))) (Below.refl _ _))
      have h0 : w0.heap.size ≤ w2.heap.size := HD2.out.bs.bel.size
      have hT0 : PtT T (some ⟨A, 0, none⟩) (pa : Int) (pn : Int) (w2.alloc (.cells #[.int .i64 0, .int .i64 0] 61)) := blk_at (bel1 w2 (.cells #[.int .i64 0, .int .i64 0] 61)) HT2.out
      obtain ⟨x1, hx1⟩ : ∃ x1, (w2.alloc (.cells #[.int .i64 0, .int .i64 0] 61)) = x1 := ⟨_, rfl⟩
      obtain ⟨U, hTT⟩ : ∃ T, w2.heap.size = T := ⟨_, rfl⟩
      rw [hx1] at hD3 hT hM hT0 ⊢
      rw [hTT] at hT hM h0 ⊢
      have HD3 := Lib.hid hD3
      have HTN := Lib.hid hT
      have HM := Lib.hid hM
      have H0 := Lib.hid h0
      have HT3 := Lib.hid hT0
      clear hx1 hTT hD3 hT hM h0 hT0

      refine hK1.out _ _ HD3.out (fun hHeld => ?_)
      clear hK1
      try simp only [Act.put, List.getElem_toArray, List.getElem_cons_zero, List.getElem_cons_succ, List.setIfInBounds_toArray, List.set_cons_zero, List.set_cons_succ]
      clear hHeld
      refine wpAnyH_ready (rs := [17]) (by kernel_rfl) (by simp) (AllReadyH.cons rfl (fun K1 hK1 => ?_) AllReadyH.nil)
      have c0 := (cell_blk HTN.out 0).1
      have c1 := (cell_blk HTN.out 1).1
      have f0 := (cell_blk HTN.out 0).2
      have f1 := (cell_blk HTN.out 1).2
      go_simp
      clear c0 c1 f0 f1
      have hfar := HD3.out.far2 HT3.out HTN.out HM.out H0.out pa pn
      have HFD := Lib.hid hfar.1
      have HFT := Lib.hid hfar.2
      clear hfar
      refine hK1.out _ _ HFD.out (fun hHeld => ?_)
      clear hK1
      try simp only [Act.put, List.getElem_toArray, List.getElem_cons_zero, List.getElem_cons_succ, List.setIfInBounds_toArray, List.set_cons_zero, List.set_cons_succ]
      refine wpAnyH_take (i := 18) (v := (.int .i64 0)) rfl (by kernel_rfl) (by kernel_rfl) (by kernel_rfl) (fun _ _ _ h => h) (Or.inl ⟨by rfl, fun X hS => ?_⟩) hHeld ?_
      · obtain ⟨⟨s1, s2, s3, s4, s5, s6, s7, s8⟩, ⟨t1, t2, t3, t4, t5, t6⟩, f4, f5⟩ := hS.all
        go_simp
      try simp only [Act.put, List.getElem_toArray, List.getElem_cons_zero, List.getElem_cons_succ, List.setIfInBounds_toArray, List.set_cons_zero, List.set_cons_succ]
      refine wpAnyH_done (by kernel_rfl) ?_ _
      clear hHeld
      go_wp2_with fail
      go_meet
      exact ⟨U, rfl, rfl, HFD.out, HFT.out.1, HFT.out.2⟩
    · go_simp
      have hD3 : DvS Wb E A b cap va vs s s d at_ fr n x S w0 (y.alloc (.cells #[.int .i64 0, .int .i64 0] 61)).drew := HY.out.below (bel1 y (.cells #[.int .i64 0, .int .i64 0] 61)).drew
      have hT : PtU y.heap.size 0 0 (y.alloc (.cells #[.int .i64 0, .int .i64 0] 61)).drew := heap_new y (.cells #[.int .i64 0, .int .i64 0] 61)
      have hM : Mine A y.heap.size (y.alloc (.cells #[.int .i64 0, .int .i64 0] 61)).drew := (Mine.new HY.out.x (.cells #[.int .i64 0, .int .i64 0] 61)).went (Went.of_below (HY.out.x.below (bel1 y (.cells #[.int .i64 0, .int .i64 0] 61))) (Below.refl _ _).drew)
      have h0 : w0.heap.size ≤ y.heap.size := HY.out.bs.bel.size
      have hT0 : PtT T (some ⟨A, 0, none⟩) (pa : Int) (pn : Int) (y.alloc (.cells #[.int .i64 0, .int .i64 0] 61)).drew := blk_at (bel1 y (.cells #[.int .i64 0, .int .i64 0] 61)).drew HTY.out
      obtain ⟨x1, hx1⟩ : ∃ x1, (y.alloc (.cells #[.int .i64 0, .int .i64 0] 61)).drew = x1 := ⟨_, rfl⟩
      obtain ⟨U, hTT⟩ : ∃ T, y.heap.size = T := ⟨_, rfl⟩
      rw [hx1] at hD3 hT hM hT0 ⊢
      rw [hTT] at hT hM h0 ⊢
      have HD3 := Lib.hid hD3
      have HTN := Lib.hid hT
      have HM := Lib.hid hM
      have H0 := Lib.hid h0
      have HT3 := Lib.hid hT0
      clear hx1 hTT hD3 hT hM h0 hT0
      refine hK1.out _ _ HD3.out (fun hHeld => ?_)
      clear hK1
      try simp only [Act.put, List.getElem_toArray, List.getElem_cons_zero, List.getElem_cons_succ, List.setIfInBounds_toArray, List.set_cons_zero, List.set_cons_succ]
      clear hHeld
      refine wpAnyH_ready (rs := [12]) (by kernel_rfl) (by simp) (AllReadyH.cons rfl (fun K1 hK1 => ?_) AllReadyH.nil)
      go_simp
      refine (HDC.out _ HD3.out.d).mono ?_
      rintro e w2 ⟨rfl, hb⟩
      have HD4 := Lib.hid (HD3.out.below hb)
      have HTN2 := Lib.hid (show PtU U 0 0 w2 from blk_at hb HTN.out)
      have HM2 := Lib.hid (HM.out.went (Went.of_below HD3.out.x hb))
      have HT4 := Lib.hid (show PtT T (some ⟨A, 0, none⟩) (pa : Int) (pn : Int) w2 from blk_at hb HT3.out)
      clear hb

      refine hK1.out _ _ HD4.out (fun hHeld => ?_)
      clear hK1
      try simp only [Act.put, List.getElem_toArray, List.getElem_cons_zero, List.getElem_cons_succ, List.setIfInBounds_toArray, List.set_cons_zero, List.set_cons_succ]
      refine wpAnyH_take (i := 13) (v := (.tuple #[.agg #[.int .i64 (pa : Int), .int .i64 (pn : Int)], .int .i64 0])) rfl (by kernel_rfl) (by kernel_rfl) (by kernel_rfl) (fun _ _ _ h => h) (Or.inl ⟨by rfl, fun X hS => ?_⟩) hHeld ?_
      · obtain ⟨⟨s1, s2, s3, s4, s5, s6, s7, s8⟩, ⟨t1, t2, t3, t4, t5, t6⟩, f4, f5⟩ := hS.all
        go_simp
      try simp only [Act.put, List.getElem_toArray, List.getElem_cons_zero, List.getElem_cons_succ, List.setIfInBounds_toArray, List.set_cons_zero, List.set_cons_succ]
      refine wpAnyH_take (i := 14) (v := (.agg #[.int .i64 (pa : Int), .int .i64 (pn : Int)])) rfl (by kernel_rfl) (by kernel_rfl) (by kernel_rfl) (fun _ _ _ h => h) (Or.inl ⟨by rfl, fun X hS => ?_⟩) hHeld ?_
      · obtain ⟨⟨s1, s2, s3, s4, s5, s6, s7, s8⟩, ⟨t1, t2, t3, t4, t5, t6⟩, f4, f5⟩ := hS.all
        go_simp
      try simp only [Act.put, List.getElem_toArray, List.getElem_cons_zero, List.getElem_cons_succ, List.setIfInBounds_toArray, List.set_cons_zero, List.set_cons_succ]
      refine wpAnyH_take (i := 15) (v := (.int .i64 0)) rfl (by kernel_rfl) (by kernel_rfl) (by kernel_rfl) (fun _ _ _ h => h) (Or.inl ⟨by rfl, fun X hS => ?_⟩) hHeld ?_
      · obtain ⟨⟨s1, s2, s3, s4, s5, s6, s7, s8⟩, ⟨t1, t2, t3, t4, t5, t6⟩, f4, f5⟩ := hS.all
        go_simp
      try simp only [Act.put, List.getElem_toArray, List.getElem_cons_zero, List.getElem_cons_succ, List.setIfInBounds_toArray, List.set_cons_zero, List.set_cons_succ]
      clear HD3 HTN HM HT3
      have HD3 := HD4
      have HTN := HTN2
      have HM := HM2
      have HT3 := HT4
      clear hHeld
      refine wpAnyH_ready (rs := [17]) (by kernel_rfl) (by simp) (AllReadyH.cons rfl (fun K1 hK1 => ?_) AllReadyH.nil)
      have c0 := (cell_blk HTN.out 0).1
      have c1 := (cell_blk HTN.out 1).1
      have f0 := (cell_blk HTN.out 0).2
      have f1 := (cell_blk HTN.out 1).2
      go_simp
      clear c0 c1 f0 f1
      have hfar := HD3.out.far2 HT3.out HTN.out HM.out H0.out pa pn
      have HFD := Lib.hid hfar.1
      have HFT := Lib.hid hfar.2
      clear hfar
      refine hK1.out _ _ HFD.out (fun hHeld => ?_)
      clear hK1
      try simp only [Act.put, List.getElem_toArray, List.getElem_cons_zero, List.getElem_cons_succ, List.setIfInBounds_toArray, List.set_cons_zero, List.set_cons_succ]
      refine wpAnyH_take (i := 18) (v := (.int .i64 0)) rfl (by kernel_rfl) (by kernel_rfl) (by kernel_rfl) (fun _ _ _ h => h) (Or.inl ⟨by rfl, fun X hS => ?_⟩) hHeld ?_
      · obtain ⟨⟨s1, s2, s3, s4, s5, s6, s7, s8⟩, ⟨t1, t2, t3, t4, t5, t6⟩, f4, f5⟩ := hS.all
        go_simp
      try simp only [Act.put, List.getElem_toArray, List.getElem_cons_zero, List.getElem_cons_succ, List.setIfInBounds_toArray, List.set_cons_zero, List.set_cons_succ]
      refine wpAnyH_done (by kernel_rfl) ?_ _
      clear hHeld
      go_wp2_with fail
      go_meet
      exact ⟨U, rfl, rfl, HFD.out, HFT.out.1, HFT.out.2⟩
  case rest =>
  obtain ⟨U, rfl, rfl, hd8, ht8, hu8⟩ := hcut
  have HD8 := Lib.hid (hd8.below (Below.refl wc.heap.size wc).drew)
  have hS0 := (pts_mk ht8 hu8).below (Below.refl wc.heap.size wc).drew
  clear hd8 ht8 hu8 HY HYD HTY HTYD
  go_upto_region 9 with fail
  refine wp_region_held_drew (S := PtS T U (some ⟨A, 0, none⟩) pa pn pa pn) (by kernel_rfl) hS0 (fun hHeld => ?_)
  refine wpAnyH_take (i := 0) (v := (.int .i64 0)) rfl (by kernel_rfl) (by kernel_rfl) (by kernel_rfl) (fun _ _ _ h => h) (Or.inl ⟨by rfl, fun X hS => ?_⟩) hHeld ?_
  · obtain ⟨⟨p0, p1, p2⟩, ⟨u0, u1⟩, -, -⟩ := hS
    go_simp
  try simp only [Act.put, List.getElem_toArray, List.getElem_cons_zero, List.getElem_cons_succ, List.setIfInBounds_toArray, List.set_cons_zero, List.set_cons_succ]
  refine wpAnyH_take (i := 1) (v := (.int .i64 0)) rfl (by kernel_rfl) (by kernel_rfl) (by kernel_rfl) (fun _ _ _ h => h) (Or.inl ⟨by rfl, fun X hS => ?_⟩) hHeld ?_
  · obtain ⟨⟨p0, p1, p2⟩, ⟨u0, u1⟩, -, -⟩ := hS
    go_simp
  try simp only [Act.put, List.getElem_toArray, List.getElem_cons_zero, List.getElem_cons_succ, List.setIfInBounds_toArray, List.set_cons_zero, List.set_cons_succ]
  refine wpAnyH_take (i := 2) (v := (.bool false)) rfl (by kernel_rfl) (by kernel_rfl) (by kernel_rfl) (fun _ _ _ h => h) (Or.inl ⟨by rfl, fun X hS => ?_⟩) hHeld ?_
  · obtain ⟨⟨p0, p1, p2⟩, ⟨u0, u1⟩, -, -⟩ := hS
    go_simp
  try simp only [Act.put, List.getElem_toArray, List.getElem_cons_zero, List.getElem_cons_succ, List.setIfInBounds_toArray, List.set_cons_zero, List.set_cons_succ]
  refine wpAnyH_take (i := 3) (v := (.bool false)) rfl (by kernel_rfl) (by kernel_rfl) (by kernel_rfl) (fun _ _ _ h => h) (Or.inl ⟨by rfl, fun X hS => ?_⟩) hHeld ?_
  · obtain ⟨⟨p0, p1, p2⟩, ⟨u0, u1⟩, -, -⟩ := hS
    go_simp
  try simp only [Act.put, List.getElem_toArray, List.getElem_cons_zero, List.getElem_cons_succ, List.setIfInBounds_toArray, List.set_cons_zero, List.set_cons_succ]
  refine wpAnyH_take (i := 4) (v := (.int .i64 0)) rfl (by kernel_rfl) (by kernel_rfl) (by kernel_rfl) (fun _ _ _ h => h) (Or.inl ⟨by rfl, fun X hS => ?_⟩) hHeld ?_
  · obtain ⟨⟨p0, p1, p2⟩, ⟨u0, u1⟩, -, -⟩ := hS
    go_simp
  try simp only [Act.put, List.getElem_toArray, List.getElem_cons_zero, List.getElem_cons_succ, List.setIfInBounds_toArray, List.set_cons_zero, List.set_cons_succ]
  refine wpAnyH_take (i := 5) (v := (.bool true)) rfl (by kernel_rfl) (by kernel_rfl) (by kernel_rfl) (fun _ _ _ h => h) (Or.inl ⟨by rfl, fun X hS => ?_⟩) hHeld ?_
  · obtain ⟨⟨p0, p1, p2⟩, ⟨u0, u1⟩, -, -⟩ := hS
    go_simp
  try simp only [Act.put, List.getElem_toArray, List.getElem_cons_zero, List.getElem_cons_succ, List.setIfInBounds_toArray, List.set_cons_zero, List.set_cons_succ]
  refine wpAnyH_take (i := 6) (v := (.bool true)) rfl (by kernel_rfl) (by kernel_rfl) (by kernel_rfl) (fun _ _ _ h => h) (Or.inl ⟨by rfl, fun X hS => ?_⟩) hHeld ?_
  · obtain ⟨⟨p0, p1, p2⟩, ⟨u0, u1⟩, -, -⟩ := hS
    go_simp
  try simp only [Act.put, List.getElem_toArray, List.getElem_cons_zero, List.getElem_cons_succ, List.setIfInBounds_toArray, List.set_cons_zero, List.set_cons_succ]
  refine wpAnyH_take (i := 7) (v := (.agg #[.pointer (some ⟨A, 0, none⟩), .int .i64 (pa : Int), .int .i64 (pn : Int)])) rfl (by kernel_rfl) (by kernel_rfl) (by kernel_rfl) (fun _ _ _ h => h) (Or.inl ⟨by rfl, fun X hS => ?_⟩) hHeld ?_
  · obtain ⟨⟨p0, p1, p2⟩, ⟨u0, u1⟩, -, -⟩ := hS
    go_simp
  try simp only [Act.put, List.getElem_toArray, List.getElem_cons_zero, List.getElem_cons_succ, List.setIfInBounds_toArray, List.set_cons_zero, List.set_cons_succ]
  refine wpAnyH_take (i := 9) (v := (.pointer (some ⟨U, 0, none⟩))) rfl (by kernel_rfl) (by kernel_rfl) (by kernel_rfl) (fun _ _ _ h => h) (Or.inl ⟨by rfl, fun X hS => ?_⟩) hHeld ?_
  · obtain ⟨⟨p0, p1, p2⟩, ⟨u0, u1⟩, -, -⟩ := hS
    go_simp
  try simp only [Act.put, List.getElem_toArray, List.getElem_cons_zero, List.getElem_cons_succ, List.setIfInBounds_toArray, List.set_cons_zero, List.set_cons_succ]
  refine wpAnyH_take (i := 10) (v := (.int .i64 (pa : Int))) rfl (by kernel_rfl) (by kernel_rfl) (by kernel_rfl) (fun _ _ _ h => h) (Or.inl ⟨by rfl, fun X hS => ?_⟩) hHeld ?_
  · obtain ⟨⟨p0, p1, p2⟩, ⟨u0, u1⟩, -, -⟩ := hS
    go_simp
  try simp only [Act.put, List.getElem_toArray, List.getElem_cons_zero, List.getElem_cons_succ, List.setIfInBounds_toArray, List.set_cons_zero, List.set_cons_succ]
  refine wpAnyH_ready (rs := [8]) (by kernel_rfl) (by simp) (AllReadyH.cons rfl (fun K1 hK1 => ?_) AllReadyH.nil)
  go_simp
  have HH := Lib.hid hHeld
  clear hHeld
  refine (vat_any (some ⟨A, 0, none⟩) pa pn _).mono ?_
  rintro e w9 ⟨rfl, hb⟩
  have HD9 := Lib.hid (HD8.out.below hb)
  have hn9 := HH.out.below hb
  clear hb HH HD8
  refine hK1.out _ _ hn9 (fun hHeld => ?_)
  clear hK1 hn9
  try simp only [Act.put, List.getElem_toArray, List.getElem_cons_zero, List.getElem_cons_succ, List.setIfInBounds_toArray, List.set_cons_zero, List.set_cons_succ]
  refine wpAnyH_take (i := 11) (v := (.bool false)) rfl (by kernel_rfl) (by kernel_rfl) (by kernel_rfl) (fun _ _ _ h => h) (Or.inl ⟨by rfl, fun X hS => ?_⟩) hHeld ?_
  · obtain ⟨⟨p0, p1, p2⟩, ⟨u0, u1⟩, -, -⟩ := hS
    have hvv : ((pa : Int) != (pa : Int)) = false := by simp
    go_simp
  try simp only [Act.put, List.getElem_toArray, List.getElem_cons_zero, List.getElem_cons_succ, List.setIfInBounds_toArray, List.set_cons_zero, List.set_cons_succ]
  refine wpAnyH_take (i := 12) (v := (.bool false)) rfl (by kernel_rfl) (by kernel_rfl) (by kernel_rfl) (fun _ _ _ h => h) (Or.inl ⟨by rfl, fun X hS => ?_⟩) hHeld ?_
  · obtain ⟨⟨p0, p1, p2⟩, ⟨u0, u1⟩, -, -⟩ := hS
    go_simp
  try simp only [Act.put, List.getElem_toArray, List.getElem_cons_zero, List.getElem_cons_succ, List.setIfInBounds_toArray, List.set_cons_zero, List.set_cons_succ]
  refine wpAnyH_take (i := 13) (v := (.agg #[.pointer (some ⟨A, 0, none⟩), .int .i64 (pa : Int), .int .i64 (pn : Int)])) rfl (by kernel_rfl) (by kernel_rfl) (by kernel_rfl) (fun _ _ _ h => h) (Or.inl ⟨by rfl, fun X hS => ?_⟩) hHeld ?_
  · obtain ⟨⟨p0, p1, p2⟩, ⟨u0, u1⟩, -, -⟩ := hS
    go_simp
  try simp only [Act.put, List.getElem_toArray, List.getElem_cons_zero, List.getElem_cons_succ, List.setIfInBounds_toArray, List.set_cons_zero, List.set_cons_succ]
  refine wpAnyH_take (i := 15) (v := (.pointer (some ⟨U, 1, none⟩))) rfl (by kernel_rfl) (by kernel_rfl) (by kernel_rfl) (fun _ _ _ h => h) (Or.inl ⟨by rfl, fun X hS => ?_⟩) hHeld ?_
  · obtain ⟨⟨p0, p1, p2⟩, ⟨u0, u1⟩, -, -⟩ := hS
    go_simp
  try simp only [Act.put, List.getElem_toArray, List.getElem_cons_zero, List.getElem_cons_succ, List.setIfInBounds_toArray, List.set_cons_zero, List.set_cons_succ]
  refine wpAnyH_take (i := 16) (v := (.int .i64 (pn : Int))) rfl (by kernel_rfl) (by kernel_rfl) (by kernel_rfl) (fun _ _ _ h => h) (Or.inl ⟨by rfl, fun X hS => ?_⟩) hHeld ?_
  · obtain ⟨⟨p0, p1, p2⟩, ⟨u0, u1⟩, -, -⟩ := hS
    go_simp
  try simp only [Act.put, List.getElem_toArray, List.getElem_cons_zero, List.getElem_cons_succ, List.setIfInBounds_toArray, List.set_cons_zero, List.set_cons_succ]
  refine wpAnyH_ready (rs := [14]) (by kernel_rfl) (by simp) (AllReadyH.cons rfl (fun K1 hK1 => ?_) AllReadyH.nil)
  go_simp
  have HH := Lib.hid hHeld
  clear hHeld
  refine (vsize_any (some ⟨A, 0, none⟩) pa pn _).mono ?_
  rintro e w9 ⟨rfl, hb⟩
  have HD10 := Lib.hid (HD9.out.below hb)
  have hn9 := HH.out.below hb
  clear hb HH HD9
  refine hK1.out _ _ hn9 (fun hHeld => ?_)
  clear hK1 hn9
  try simp only [Act.put, List.getElem_toArray, List.getElem_cons_zero, List.getElem_cons_succ, List.setIfInBounds_toArray, List.set_cons_zero, List.set_cons_succ]
  refine wpAnyH_take (i := 17) (v := (.bool false)) rfl (by kernel_rfl) (by kernel_rfl) (by kernel_rfl) (fun _ _ _ h => h) (Or.inl ⟨by rfl, fun X hS => ?_⟩) hHeld ?_
  · obtain ⟨⟨p0, p1, p2⟩, ⟨u0, u1⟩, -, -⟩ := hS
    have hvv : ((pn : Int) != (pn : Int)) = false := by simp
    go_simp
  try simp only [Act.put, List.getElem_toArray, List.getElem_cons_zero, List.getElem_cons_succ, List.setIfInBounds_toArray, List.set_cons_zero, List.set_cons_succ]
  refine wpAnyH_take (i := 18) (v := (.bool false)) rfl (by kernel_rfl) (by kernel_rfl) (by kernel_rfl) (fun _ _ _ h => h) (Or.inl ⟨by rfl, fun X hS => ?_⟩) hHeld ?_
  · obtain ⟨⟨p0, p1, p2⟩, ⟨u0, u1⟩, -, -⟩ := hS
    go_simp
  try simp only [Act.put, List.getElem_toArray, List.getElem_cons_zero, List.getElem_cons_succ, List.setIfInBounds_toArray, List.set_cons_zero, List.set_cons_succ]
  refine wpAnyH_take (i := 19) (v := (.bool false)) rfl (by kernel_rfl) (by kernel_rfl) (by kernel_rfl) (fun _ _ _ h => h) (Or.inl ⟨by rfl, fun X hS => ?_⟩) hHeld ?_
  · obtain ⟨⟨p0, p1, p2⟩, ⟨u0, u1⟩, -, -⟩ := hS
    go_simp
  try simp only [Act.put, List.getElem_toArray, List.getElem_cons_zero, List.getElem_cons_succ, List.setIfInBounds_toArray, List.set_cons_zero, List.set_cons_succ]
  refine wpAnyH_take (i := 20) (v := (.bool false)) rfl (by kernel_rfl) (by kernel_rfl) (by kernel_rfl) (fun _ _ _ h => h) (Or.inl ⟨by rfl, fun X hS => ?_⟩) hHeld ?_
  · obtain ⟨⟨p0, p1, p2⟩, ⟨u0, u1⟩, -, -⟩ := hS
    go_simp
  try simp only [Act.put, List.getElem_toArray, List.getElem_cons_zero, List.getElem_cons_succ, List.setIfInBounds_toArray, List.set_cons_zero, List.set_cons_succ]
  refine wpAnyH_done (by kernel_rfl) ?_ _
  have HPT := Lib.hid hHeld
  clear hHeld
  obtain ⟨⟨p0, p1, p2⟩, ⟨u0, u1⟩, -, -⟩ := HPT.out
  by_cases h100 : 100 < (pn : Int)
  · go_upto_region 12 with fail
    have hS0 := HPT.out.below (Below.refl w9.heap.size w9).drew
    have hTW : T ≠ Wb := heap_neD HPT.out.2.2.1 HD10.out.w (by decide)
    have hUW : U ≠ Wb := heap_neD HPT.out.2.2.2 HD10.out.w (by decide)
    clear p0 p1 p2 u0 u1
    refine wp_region_held_drew (S := PtS T U (some ⟨A, 0, none⟩) pa pn pa pn) (by kernel_rfl) hS0 (fun hHeld => ?_)
    refine wpAnyH_take (i := 0) (v := (.pointer (some ⟨Wb, 0, none⟩))) rfl (by kernel_rfl) (by kernel_rfl) (by kernel_rfl) (fun _ _ _ h => h) (Or.inl ⟨by rfl, fun X hS => ?_⟩) hHeld ?_
    · obtain ⟨⟨p0, p1, p2⟩, ⟨u0, u1⟩, -, -⟩ := hS
      go_simp
    try simp only [Act.put, List.getElem_toArray, List.getElem_cons_zero, List.getElem_cons_succ, List.setIfInBounds_toArray, List.set_cons_zero, List.set_cons_succ]
    refine wpAnyH_take (i := 1) (v := (.pointer (some ⟨Wb, 0, none⟩))) rfl (by kernel_rfl) (by kernel_rfl) (by kernel_rfl) (fun _ _ _ h => h) (Or.inl ⟨by rfl, fun X hS => ?_⟩) hHeld ?_
    · obtain ⟨⟨p0, p1, p2⟩, ⟨u0, u1⟩, -, -⟩ := hS
      go_simp
    try simp only [Act.put, List.getElem_toArray, List.getElem_cons_zero, List.getElem_cons_succ, List.setIfInBounds_toArray, List.set_cons_zero, List.set_cons_succ]
    refine wpAnyH_take (i := 2) (v := (.agg #[.pointer (some ⟨A, 0, none⟩), .int .i64 (pa : Int), .int .i64 (pn : Int)])) rfl (by kernel_rfl) (by kernel_rfl) (by kernel_rfl) (fun _ _ _ h => h) (Or.inl ⟨by rfl, fun X hS => ?_⟩) hHeld ?_
    · obtain ⟨⟨p0, p1, p2⟩, ⟨u0, u1⟩, -, -⟩ := hS
      go_simp
    try simp only [Act.put, List.getElem_toArray, List.getElem_cons_zero, List.getElem_cons_succ, List.setIfInBounds_toArray, List.set_cons_zero, List.set_cons_succ]
    refine wpAnyH_take (i := 3) (v := (.agg #[.int .i64 (pa : Int), .int .i64 (pn : Int)])) rfl (by kernel_rfl) (by kernel_rfl) (by kernel_rfl) (fun _ _ _ h => h) (Or.inl ⟨by rfl, fun X hS => ?_⟩) hHeld ?_
    · obtain ⟨⟨p0, p1, p2⟩, ⟨u0, u1⟩, -, -⟩ := hS
      go_simp
    try simp only [Act.put, List.getElem_toArray, List.getElem_cons_zero, List.getElem_cons_succ, List.setIfInBounds_toArray, List.set_cons_zero, List.set_cons_succ]
    refine wpAnyH_take (i := 4) (v := (.pointer (some ⟨Wb, 0, none⟩))) rfl (by kernel_rfl) (by kernel_rfl) (by kernel_rfl) (fun _ _ _ h => h) (Or.inl ⟨by rfl, fun X hS => ?_⟩) hHeld ?_
    · obtain ⟨⟨p0, p1, p2⟩, ⟨u0, u1⟩, -, -⟩ := hS
      go_simp
    try simp only [Act.put, List.getElem_toArray, List.getElem_cons_zero, List.getElem_cons_succ, List.setIfInBounds_toArray, List.set_cons_zero, List.set_cons_succ]
    refine wpAnyH_take (i := 5) (v := (.pointer (some ⟨Wb, 1, none⟩))) rfl (by kernel_rfl) (by kernel_rfl) (by kernel_rfl) (fun _ _ _ h => h) (Or.inl ⟨by rfl, fun X hS => ?_⟩) hHeld ?_
    · obtain ⟨⟨p0, p1, p2⟩, ⟨u0, u1⟩, -, -⟩ := hS
      go_simp
    try simp only [Act.put, List.getElem_toArray, List.getElem_cons_zero, List.getElem_cons_succ, List.setIfInBounds_toArray, List.set_cons_zero, List.set_cons_succ]
    refine wpAnyH_ready (rs := [6]) (by kernel_rfl) (by simp) (AllReadyH.cons rfl (fun K1 hK1 => ?_) AllReadyH.nil)
    have b1 := (cell_blk HD10.out.w 1).1
    have b2 := (cell_blk HD10.out.w 2).1
    have b3 := (cell_blk HD10.out.w 3).1
    have f1 := (cell_blk HD10.out.w 1).2
    have f2 := (cell_blk HD10.out.w 2).2
    have f3 := (cell_blk HD10.out.w 3).2
    go_simp
    clear b1 b2 b3 f1 f2 f3
    have hw1 : ((((w9.setCell ⟨Wb, 1, none⟩ (.pointer (some ⟨A, 0, none⟩))).setCell ⟨Wb, 2, none⟩ (.int .i64 (pa : Int))).setCell ⟨Wb, 3, none⟩ (.int .i64 (pn : Int))).drew).heap[Wb]? = some (.cells #[.pointer (some ⟨A, 0, none⟩), .pointer (some ⟨A, 0, none⟩), .int .i64 (pa : Int), .int .i64 (pn : Int), .slice (some ⟨b, 0, none⟩) s.L cap, .int .i64 (refR s), .int .i64 (va : Int), .int .i64 (vs : Int)] 63 (0, 0)) := heap_set (heap_set (heap_set HD10.out.w _) _) _
    have hc1 : DvC Wb A b s w0 ((((w9.setCell ⟨Wb, 1, none⟩ (.pointer (some ⟨A, 0, none⟩))).setCell ⟨Wb, 2, none⟩ (.int .i64 (pa : Int))).setCell ⟨Wb, 3, none⟩ (.int .i64 (pn : Int))).drew) := (((HD10.out.core.set 1 _).set 2 _).set 3 _).below (Below.refl _ _).drew
    have hp1 : PtS T U (some ⟨A, 0, none⟩) pa pn pa pn ((((w9.setCell ⟨Wb, 1, none⟩ (.pointer (some ⟨A, 0, none⟩))).setCell ⟨Wb, 2, none⟩ (.int .i64 (pa : Int))).setCell ⟨Wb, 3, none⟩ (.int .i64 (pn : Int))).drew) := pts_mk (show PtT T (some ⟨A, 0, none⟩) pa pn _ from ((set_other _ hTW).trans ((set_other _ hTW).trans ((set_other _ hTW).trans HPT.out.2.2.1)))) (show PtU U pa pn _ from ((set_other _ hUW).trans ((set_other _ hUW).trans ((set_other _ hUW).trans HPT.out.2.2.2))))
    obtain ⟨x3, hx3⟩ : ∃ x3, (((w9.setCell ⟨Wb, 1, none⟩ (.pointer (some ⟨A, 0, none⟩))).setCell ⟨Wb, 2, none⟩ (.int .i64 (pa : Int))).setCell ⟨Wb, 3, none⟩ (.int .i64 (pn : Int))).drew = x3 := ⟨_, rfl⟩
    rw [hx3] at hw1 hc1 hp1 ⊢
    have HW1 := Lib.hid hw1
    have HC1 := Lib.hid hc1
    have HP1 := Lib.hid hp1
    clear hx3 hw1 hc1 hp1 hHeld
    refine hK1.out _ _ HP1.out (fun hHeld => ?_)
    clear hK1
    try simp only [Act.put, List.getElem_toArray, List.getElem_cons_zero, List.getElem_cons_succ, List.setIfInBounds_toArray, List.set_cons_zero, List.set_cons_succ]
    refine wpAnyH_take (i := 7) (v := (.pointer (some ⟨Wb, 0, none⟩))) rfl (by kernel_rfl) (by kernel_rfl) (by kernel_rfl) (fun _ _ _ h => h) (Or.inl ⟨by rfl, fun X hS => ?_⟩) hHeld ?_
    · obtain ⟨⟨p0, p1, p2⟩, ⟨u0, u1⟩, -, -⟩ := hS
      go_simp
    try simp only [Act.put, List.getElem_toArray, List.getElem_cons_zero, List.getElem_cons_succ, List.setIfInBounds_toArray, List.set_cons_zero, List.set_cons_succ]
    refine wpAnyH_take (i := 8) (v := (.pointer (some ⟨Wb, 6, none⟩))) rfl (by kernel_rfl) (by kernel_rfl) (by kernel_rfl) (fun _ _ _ h => h) (Or.inl ⟨by rfl, fun X hS => ?_⟩) hHeld ?_
    · obtain ⟨⟨p0, p1, p2⟩, ⟨u0, u1⟩, -, -⟩ := hS
      go_simp
    try simp only [Act.put, List.getElem_toArray, List.getElem_cons_zero, List.getElem_cons_succ, List.setIfInBounds_toArray, List.set_cons_zero, List.set_cons_succ]
    refine wpAnyH_ready (rs := [9]) (by kernel_rfl) (by simp) (AllReadyH.cons rfl (fun K1 hK1 => ?_) AllReadyH.nil)
    have b6 := (cell_blk HW1.out 6).1
    have b7 := (cell_blk HW1.out 7).1
    have f6 := (cell_blk HW1.out 6).2
    have f7 := (cell_blk HW1.out 7).2
    go_simp
    clear b6 b7 f6 f7
    have hw2 : (((x3.setCell ⟨Wb, 6, none⟩ (.int .i64 (pa : Int))).setCell ⟨Wb, 7, none⟩ (.int .i64 (pn : Int)))).heap[Wb]? = some (.cells #[.pointer (some ⟨A, 0, none⟩), .pointer (some ⟨A, 0, none⟩), .int .i64 (pa : Int), .int .i64 (pn : Int), .slice (some ⟨b, 0, none⟩) s.L cap, .int .i64 (refR s), .int .i64 (pa : Int), .int .i64 (pn : Int)] 63 (0, 0)) := heap_set (heap_set HW1.out _) _
    have hc2 : DvC Wb A b s w0 (((x3.setCell ⟨Wb, 6, none⟩ (.int .i64 (pa : Int))).setCell ⟨Wb, 7, none⟩ (.int .i64 (pn : Int)))) := ((HC1.out.set 6 _).set 7 _)
    have hp2 : PtS T U (some ⟨A, 0, none⟩) pa pn pa pn (((x3.setCell ⟨Wb, 6, none⟩ (.int .i64 (pa : Int))).setCell ⟨Wb, 7, none⟩ (.int .i64 (pn : Int)))) := pts_mk (show PtT T (some ⟨A, 0, none⟩) pa pn _ from ((set_other _ hTW).trans ((set_other _ hTW).trans HP1.out.2.2.1))) (show PtU U pa pn _ from ((set_other _ hUW).trans ((set_other _ hUW).trans HP1.out.2.2.2)))
    obtain ⟨x4, hx4⟩ : ∃ x4, ((x3.setCell ⟨Wb, 6, none⟩ (.int .i64 (pa : Int))).setCell ⟨Wb, 7, none⟩ (.int .i64 (pn : Int))) = x4 := ⟨_, rfl⟩
    rw [hx4] at hw2 hc2 hp2 ⊢
    have HW2 := Lib.hid hw2
    have HC2 := Lib.hid hc2
    clear hx4 hw2 hc2 hHeld
    refine hK1.out _ _ hp2 (fun hHeld => ?_)
    clear hK1 hp2
    try simp only [Act.put, List.getElem_toArray, List.getElem_cons_zero, List.getElem_cons_succ, List.setIfInBounds_toArray, List.set_cons_zero, List.set_cons_succ]
    refine wpAnyH_done (by kernel_rfl) ?_ _
    clear hHeld
    go_wp2_with fail
    go_ret
    exact ⟨b, cap, pa, pn, s, rfl, rfl, ⟨HW2.out, HC2.out.x, HC2.out.d, HC2.out.m, HC2.out.bs, HC2.out.ws, HPB.out.1, HPB.out.2⟩⟩
  · go_wp2_with fail
    go_ret
    exact ⟨b, cap, va, vs, s, rfl, rfl, HD10.out.fin⟩
end Go.Proofs.Ytdmaendhkenmgaa.Bt
/- Any act of law04's do. -/
namespace Go.Proofs.Ytdmaendhkenmgaa.Bt
open Go Go.RowKit Go.Shelf
set_option linter.unusedVariables false
set_option linter.unusedSimpArgs false

theorem dvo_any {Wb A b cap va vs : Nat} {s : ASt} (c : Act3) (hc : c.ok) (h6 : c.s.size ≤ 6000) {w0 w : World} (h : DvW Wb A b cap va vs s w0 w) (hL : s.L ≤ 8) :
    Calls Try.prog 28 #[.pointer (some ⟨Wb, 0, none⟩), .agg #[.int .u8 c.d, .int .i64 c.a, .int .i64 c.fr, .int .i64 c.n, .int .u64 c.x, .string c.s]] w (DvP Wb A s.L w0) := by
  obtain ⟨hd, ha1, hf1, hx0, hS, ha0, hn, hx1, hf0⟩ := hc
  have hm : c.d.tmod 10 = c.d % 10 := Int.tmod_eq_emod_of_nonneg hd.1
  have h10 : c.d % 10 = 0 ∨ c.d % 10 = 1 ∨ c.d % 10 = 2 ∨ c.d % 10 = 3 ∨ c.d % 10 = 4 ∨ c.d % 10 = 5 ∨ c.d % 10 = 6 ∨ c.d % 10 = 7 ∨ c.d % 10 = 8 ∨ c.d % 10 = 9 := by omega
  rcases h10 with k | k | k | k | k | k | k | k | k | k <;> rw [k] at hm
  · cases hw : wiB s va vs c.a c.n with
    | false => exact dvo_part_no h hL hm hd ⟨ha0, ha1⟩ ⟨hf0, hf1⟩ hn ⟨hx0, hx1⟩ hS hw
    | true => exact dvo_part_yes h hL hm hd ⟨ha0, ha1⟩ ⟨hf0, hf1⟩ hn ⟨hx0, hx1⟩ hS hw
  · exact dvo_decommit h hL hm hd ⟨ha0, ha1⟩ ⟨hf0, hf1⟩ hn ⟨hx0, hx1⟩ hS
  · exact dvo_texts2 h hL hm hd ⟨ha0, ha1⟩ ⟨hf0, hf1⟩ hn ⟨hx0, hx1⟩ h6
  · exact dvo_load h hL hm hd ⟨ha0, ha1⟩ ⟨hf0, hf1⟩ hn ⟨hx0, hx1⟩ hS
  · exact dvo_store h hL hm hd ⟨ha0, ha1⟩ ⟨hf0, hf1⟩ hn ⟨hx0, hx1⟩ hS
  · exact dvo_bytes h hL hm hd ⟨ha0, ha1⟩ ⟨hf0, hf1⟩ hn ⟨hx0, hx1⟩ hS
  · exact dvo_put h hL hm hd ⟨ha0, ha1⟩ ⟨hf0, hf1⟩ hn ⟨hx0, hx1⟩ hS
  · exact dvo_fill h hL hm hd ⟨ha0, ha1⟩ ⟨hf0, hf1⟩ hn ⟨hx0, hx1⟩ hS
  · exact dvo_copy h hL hm hd ⟨ha0, ha1⟩ ⟨hf0, hf1⟩ hn ⟨hx0, hx1⟩ hS
  · exact dvo_texts9 h hL hm hd ⟨ha0, ha1⟩ ⟨hf0, hf1⟩ hn ⟨hx0, hx1⟩ h6
end Go.Proofs.Ytdmaendhkenmgaa.Bt
/- The walk of ViewPlays. (Written by gen_dvq.py.) -/
namespace Go.Proofs.Ytdmaendhkenmgaa.Bt
open Go Go.RowKit Go.Shelf
set_option linter.unusedVariables false
set_option linter.unusedSimpArgs false

theorem DvW.below {Wb A b cap va vs : Nat} {t : ASt} {w0 X Y : World} (h : DvW Wb A b cap va vs t w0 X) (hb : Below X.heap.size X Y) : DvW Wb A b cap va vs t w0 Y :=
  ⟨blk_at hb h.w, h.x.below hb, h.d.below hb, h.m.went (Went.of_below h.x hb), h.bs.below h.x hb, h.ws, h.hva, h.hvs⟩
theorem DvW.cells {Wb A b cap va vs : Nat} {t : ASt} {w0 X : World} (h : DvW Wb A b cap va vs t w0 X) :
    X.cell? ⟨Wb, 0, none⟩ = some (.pointer (some ⟨A, 0, none⟩)) ∧ X.cell? ⟨Wb, 1, none⟩ = some (.pointer (some ⟨A, 0, none⟩)) ∧ X.cell? ⟨Wb, 2, none⟩ = some (.int .i64 (va : Int)) ∧ X.cell? ⟨Wb, 3, none⟩ = some (.int .i64 (vs : Int)) ∧ X.cell? ⟨Wb, 4, none⟩ = some (.slice (some ⟨b, 0, none⟩) t.L cap) ∧ X.cell? ⟨Wb, 5, none⟩ = some (.int .i64 (refR t)) ∧ X.cell? ⟨Wb, 6, none⟩ = some (.int .i64 (va : Int)) ∧ X.cell? ⟨Wb, 7, none⟩ = some (.int .i64 (vs : Int)) :=
  ⟨(cell_blk h.w 0).1, (cell_blk h.w 1).1, (cell_blk h.w 2).1, (cell_blk h.w 3).1, (cell_blk h.w 4).1, (cell_blk h.w 5).1, (cell_blk h.w 6).1, (cell_blk h.w 7).1⟩
theorem dk_commit {s : ASt} {b cap : Nat} {w : World} (g : Good s.L s.es) (z : ZeroS s) (hL : s.L ≤ 1048576) (a n : Int) (ha : -9223372036854775808 ≤ a ∧ a ≤ 9223372036854775807) (hn : -9223372036854775808 ≤ n ∧ n ≤ 9223372036854775807) (hr : -9223372036854775808 ≤ refR s ∧ refR s ≤ 9223372036854775807) (hb : DocB b (gS s) w) :
    Calls Try.prog 23 #[.agg #[.slice (some ⟨b, 0, none⟩) s.L cap, .int .i64 (refR s)], .int .i64 a, .int .i64 n] w (DocK (commitS s a n) (commitE s a n) (refR (commitS s a n)) w) := by
  have h := dcommit_any (cap := cap) (by rw [gS_len]; exact hL) (refR s) a n hb (by omega) (by omega) hr
  obtain ⟨c1, c2, c3⟩ := com_all g z a n
  rw [← c1, c2, c3, gS_len] at h
  refine h.mono ?_
  rintro e w' ⟨b2, cap2, h1, h2, h3⟩
  exact ⟨b2, cap2, by rw [h1, gS_len], h2, h3⟩
/-- ahead of the loop: the document's arena in a variable -/
structure VpS (Q b cap A : Nat) (s t : ASt) (w1 X : World) : Prop where
  q : DocW Q b t.L cap (refR t) X
  x : On A s X
  d : DocB b (gS t) X
  m : Mine A Q X
  bs : Base A w1 X
  h0 : w1.heap.size ≤ Q
theorem VpS.below {Q b cap A : Nat} {s t : ASt} {w1 X Y : World} (h : VpS Q b cap A s t w1 X) (hb : Below X.heap.size X Y) : VpS Q b cap A s t w1 Y :=
  ⟨h.q.below hb, h.x.below hb, h.d.below hb, h.m.went (Went.of_below h.x hb), h.bs.below h.x hb, h.h0⟩
theorem VpS.went {Q b cap A : Nat} {s s' t : ASt} {w1 X Y : World} (h : VpS Q b cap A s t w1 X) (hx : On A s' Y) (hg : Went A X Y) : VpS Q b cap A s' t w1 Y :=
  ⟨hg.keep h.x h.q (by decide) (by decide) (by decide), hx, hg.keep h.x h.d (by decide) (by decide) (by decide), h.m.went hg, h.bs.went hg, h.h0⟩
theorem VpS.put {Q b cap A : Nat} {s t t' : ASt} {w1 X : World} (h : VpS Q b cap A s t w1 X) {b2 cap2 : Nat} (hd : DocB b2 (gS t') X) : VpS Q b2 cap2 A s t' w1 ((X.setCell ⟨Q, 0, none⟩ (.slice (some ⟨b2, 0, none⟩) t'.L cap2)).setCell ⟨Q, 1, none⟩ (.int .i64 (refR t'))) := by
  have hne : b2 ≠ Q := heap_neD hd h.q (by decide)
  have h1 := h.x.set h.m 0 (.slice (some ⟨b2, 0, none⟩) t'.L cap2)
  have m1 := Mine.set h.x h.m h.m 0 (.slice (some ⟨b2, 0, none⟩) t'.L cap2)
  have k1 := h.bs.set h.x h.m h.h0 0 (.slice (some ⟨b2, 0, none⟩) t'.L cap2)
  exact ⟨heap_set (heap_set h.q _) _, h1.set m1 1 _, ((heap_far_one hne _).trans (heap_far_one hne _)).trans hd, Mine.set h1 m1 m1 1 _, k1.set h1 m1 h.h0 1 _, h.h0⟩
/-- what the loop keeps -/
def LpV (Wb A L : Nat) (w1 : World) (acts : List Act3) (v : Value) (wr : World) : Prop :=
  ∃ i : Nat, i ≤ acts.length ∧ v = .int .i64 (i : Int) ∧ ∃ b cap va vs s, s.L = L ∧ DvW Wb A b cap va vs s w1 wr
theorem vc_all3 {T : Nat} {pa : Option Addr} {va vs : Nat} {X : World} (h : VC T pa va vs X) : X.cell? ⟨T, 0, none⟩ = some (.pointer pa) ∧ X.cell? ⟨T, 1, none⟩ = some (.int .i64 (va : Int)) ∧ X.cell? ⟨T, 2, none⟩ = some (.int .i64 (vs : Int)) := ⟨(cell_blk h 0).1, (cell_blk h 1).1, (cell_blk h 2).1⟩
theorem light_all {acts : List Act3} (h : lightB acts = true) (i : Nat) (hi : i < acts.length) : acts[i].s.size ≤ 6000 := by
  unfold lightB at h
  rw [Bool.and_eq_true] at h
  have := List.all_eq_true.1 h.2 acts[i] (List.getElem_mem _)
  exact of_decide_eq_true this
set_option maxRecDepth 100000 in
set_option maxHeartbeats 8000000 in
theorem vplays_walk (p0 : Option Addr) (c0 : Nat) (acts : List Act3) (hlen : acts.length ≤ 9223372036854775807) (pt sz : Int) (hpt : -9223372036854775808 ≤ pt ∧ pt ≤ 9223372036854775807) (hsz : -9223372036854775808 ≤ sz ∧ sz ≤ 9223372036854775807) (w : World) (h : Acts3At w p0 acts) :
    Calls Try.prog 4 #[.int .i64 pt, .int .i64 sz, .slice p0 acts.length c0] w (TrueAt w) := by
  have HACT := Lib.hid h
  have HPT := Lib.hid (And.intro hpt hsz)
  clear h hpt hsz
  go_enter Try.func4, Try.ntmps4
  go_wp2_with fail
  refine (awake4_calls _).mono ?_
  rintro e w0 ⟨rfl, hb⟩
  have HB0 := Lib.hid hb
  clear hb
  go_wp2_with fail
  refine (light_any p0 c0 acts hlen w0 (HACT.out.below HB0.out)).mono ?_
  rintro e w1 ⟨rfl, hb⟩
  have HB1 := Lib.hid (HB0.out.trans (hb.mono HB0.out.size))
  clear hb HB0
  cases hl : lightB acts with
  | false =>
    go_wp2_with fail
    go_ret
    exact ⟨rfl, HB1.out⟩
  | true =>
    have HAC := Lib.hid (HACT.out.below HB1.out)
    have HLI := Lib.hid (light_all hl)
    clear hl HACT
    have LN : Hid (lenN 4 = 4) := Lib.hid (by decide)
    have HE1 : Hid (commitE (newS 4) 0 4 = 0) := Lib.hid (by decide)
    have HS1 : Hid (commitS (newS 4) 0 4 = fullS 4 (fun _ => 0)) := Lib.hid (full_new 4 4 (by decide) (by decide) (by decide))
    go_wp2_with fail
    refine (on_new 4 _).mono ?_
    rintro e w2 ⟨A, rfl, hA, hx, hbs, hmn⟩
    rw [LN.out] at hx
    have HX2 := Lib.hid hx
    have HBS2 := Lib.hid hbs
    clear hx hbs hmn hA LN
    go_wp2_with fail
    refine (dnew_any 4 (by omega) _).mono ?_
    rintro e w3 ⟨b, rfl, hd, hbw, hb⟩
    have HX3 := Lib.hid (HX2.out.below hb)
    have HBS3 := Lib.hid (HBS2.out.below HX2.out hb)
    have HD3 := Lib.hid (show DocB b (gS (newS 4)) w3 by rw [gS_new]; exact hd)
    rw [List.length_replicate, show docV (some ⟨b, 0, none⟩) 4 4 (-1) = .agg #[.slice (some ⟨b, 0, none⟩) 4 4, .int .i64 (-1)] from rfl]
    clear hd hbw hb HX2 HBS2
    go_upto_region 6 with fail
    change Code.wp _ _ _ _ (w3.alloc (.cells #[.slice (some ⟨b, 0, none⟩) 4 4, .int .i64 (-1)] 30))
    have hst : VpS w3.heap.size b 4 A (newS 4) (newS 4) w1 (w3.alloc (.cells #[.slice (some ⟨b, 0, none⟩) 4 4, .int .i64 (-1)] 30)) := by
      have hb := bel1 w3 (.cells #[.slice (some ⟨b, 0, none⟩) 4 4, .int .i64 (-1)] 30)
      exact ⟨heap_new _ _, HX3.out.below hb, HD3.out.below hb, Mine.new HX3.out _, HBS3.out.below HX3.out hb, HBS3.out.bel.size⟩
    obtain ⟨w4, hw4⟩ : ∃ w4, w3.alloc (.cells #[.slice (some ⟨b, 0, none⟩) 4 4, .int .i64 (-1)] 30) = w4 := ⟨_, rfl⟩
    obtain ⟨Q, hQ⟩ : ∃ Q, w3.heap.size = Q := ⟨_, rfl⟩
    rw [hw4, hQ] at hst
    rw [hw4, hQ]
    have HV4 := Lib.hid hst
    clear hst hw4 hQ HX3 HBS3 HD3
    go_wp2_with fail
    refine (on_commit HV4.out.x 0 4 (by omega)).mono ?_
    rintro e w5 ⟨rfl, hx, hg⟩
    rw [HE1.out]; rw [HS1.out] at hx
    have HV5 := Lib.hid (HV4.out.went hx hg)
    have HZ := Lib.hid (On.zero HV4.out.x)
    have HG0 := Lib.hid HV4.out.x.good
    clear hx hg HV4
    have hdc := dk_commit (cap := 4) HG0.out HZ.out (by show (4 : Nat) ≤ _; omega) 0 4 (by omega) (by omega) (by show -9223372036854775808 ≤ (-1 : Int) ∧ (-1 : Int) ≤ _; omega) HV5.out.d
    rw [HE1.out, HS1.out] at hdc
    have HDC := Lib.hid hdc
    obtain ⟨q0, q1⟩ := HV5.out.q.all
    change w5.cell? ⟨Q, 0, none⟩ = some (.slice (some ⟨b, 0, none⟩) 4 4) at q0
    change w5.cell? ⟨Q, 1, none⟩ = some (.int .i64 (-1)) at q1
    clear hdc HZ HG0 HE1 HS1
    go_wp2_with fail
    refine (HDC.out).mono ?_
    rintro e w6 ⟨b2, cap2, rfl, hd2, hb⟩
    have HV6 := Lib.hid (HV5.out.below hb)
    have HD6 := Lib.hid hd2
    have hput := HV6.out.put (cap2 := cap2) hd2
    clear hd2 hb q0 q1 HV5 HDC
    obtain ⟨q0, q1⟩ := HV6.out.q.all
    have fq0 := (cell_blk HV6.out.q 0).2
    have fq1 := (cell_blk HV6.out.q 1).2
    go_upto_region 9 with fail
    change Code.wp _ _ _ _ ((w6.setCell ⟨Q, 0, none⟩ (.slice (some ⟨b2, 0, none⟩) (fullS 4 fun _ => 0).L cap2)).setCell ⟨Q, 1, none⟩ (.int .i64 (refR (fullS 4 fun _ => 0))))
    obtain ⟨w7, hw7⟩ : ∃ w7, ((w6.setCell ⟨Q, 0, none⟩ (.slice (some ⟨b2, 0, none⟩) (fullS 4 fun _ => 0).L cap2)).setCell ⟨Q, 1, none⟩ (.int .i64 (refR (fullS 4 fun _ => 0)))) = w7 := ⟨_, rfl⟩
    rw [hw7] at hput ⊢
    have HV7 := Lib.hid hput
    clear hput hw7 q0 q1 fq0 fq1 HV6 HD6
    have HG7 := Lib.hid HV7.out.x.good
    have HLF : Hid ((fullS 4 fun _ => 0).L = 4) := Lib.hid rfl
    obtain ⟨sF, hsF⟩ : ∃ sF : ASt, (fullS 4 fun _ => 0) = sF := ⟨_, rfl⟩
    rw [hsF] at HV7 HG7 HLF
    rw [hsF]
    clear hsF
    have HOF := Lib.hid (on_of HV7.out.x pt sz HPT.out.1.2)
    have HTH := Lib.hid (fun (y : World) (hy : DocB b2 (gS sF) y) => dthere_any (cap := cap2) (by rw [gS_len, HLF.out]; omega) (refR sF) pt sz hy HPT.out.1 HPT.out.2)
    rw [gS_len] at HTH
    cases hth : thereB sF.L sF.es pt sz with
    | false =>
      have hE : thereE sF.L sF.es pt sz = 3 := by unfold thereE; rw [hth]; rfl
      rw [hE, show ofV (some ⟨A, 0, none⟩) pt sz 3 = .agg #[.pointer none, .int .i64 0, .int .i64 0] from rfl] at HOF
      rw [gS_there HG7.out, hth] at HTH
      clear hth hE HAC HLI HG7
      go_wp2_with fail
      refine (HOF.out).mono ?_
      rintro e w8 ⟨rfl, hb⟩
      have HV8 := Lib.hid (HV7.out.below hb)
      clear hb HV7 HOF
      go_upto_region 10 with fail
      change Code.wp _ _ _ _ (w8.alloc (.cells #[.pointer none, .int .i64 0, .int .i64 0] 55))
      have hT := heap_new w8 (.cells #[.pointer none, .int .i64 0, .int .i64 0] 55)
      have hV := HV8.out.below (bel1 w8 (.cells #[.pointer none, .int .i64 0, .int .i64 0] 55))
      obtain ⟨w9, hw9⟩ : ∃ w9, w8.alloc (.cells #[.pointer none, .int .i64 0, .int .i64 0] 55) = w9 := ⟨_, rfl⟩
      obtain ⟨T, hTT⟩ : ∃ T, w8.heap.size = T := ⟨_, rfl⟩
      rw [hw9, hTT] at hT
      rw [hw9] at hV
      rw [hw9, hTT]
      have HT := Lib.hid hT
      have HV9 := Lib.hid hV
      clear hT hV hw9 hTT HV8
      obtain ⟨q0, q1⟩ := HV9.out.q.all
      go_wp2_with fail
      refine (HTH.out _ HV9.out.d).mono ?_
      rintro e w10 ⟨rfl, hb⟩
      have hT2 : w10.heap[T]? = some (.cells #[.pointer none, .int .i64 0, .int .i64 0] 55 (0, 0)) := blk_at hb HT.out
      have HV10 := Lib.hid (HV9.out.below hb)
      have t0 := (cell_blk hT2 0).1
      have t1 := (cell_blk hT2 1).1
      have t2 := (cell_blk hT2 2).1
      change w10.cell? ⟨T, 0, none⟩ = some (.pointer none) at t0
      change w10.cell? ⟨T, 1, none⟩ = some (.int .i64 0) at t1
      change w10.cell? ⟨T, 2, none⟩ = some (.int .i64 0) at t2
      clear hb HT HV9 hT2 q0 q1
      go_wp2_with fail
      refine (vsize_any none 0 0 _).mono ?_
      rintro e w11 ⟨rfl, hb⟩
      have HF := Lib.hid (HB1.out.trans ((HV10.out.below hb).bs.bel.mono HB1.out.size))
      clear hb
      go_wp2_with fail
      go_ret
      exact ⟨rfl, HF.out⟩
    | true =>
      have hE : thereE sF.L sF.es pt sz = 0 := by unfold thereE; rw [hth]; rfl
      obtain ⟨g0, g1, g2, -⟩ := (there_iff HG7.out pt sz).1 hth
      rw [gS_there HG7.out, hth] at HTH
      have hl4 := HLF.out
      obtain ⟨va, hva⟩ := Int.eq_ofNat_of_zero_le g0
      obtain ⟨vs, hvs⟩ := Int.eq_ofNat_of_zero_le g1
      subst hva hvs
      have hv1 : va ≤ 4294967296 := by omega
      have hv2 : vs ≤ 4294967296 := by omega
      have HVB := Lib.hid (And.intro hv1 hv2)
      rw [hE, show ofV (some ⟨A, 0, none⟩) (va : Int) (vs : Int) 0 = .agg #[.pointer (some ⟨A, 0, none⟩), .int .i64 (va : Int), .int .i64 (vs : Int)] from rfl] at HOF
      clear hth hE HG7 g0 g1 g2 hl4 hv1 hv2 HPT
      go_wp2_with fail
      refine (HOF.out).mono ?_
      rintro e w8 ⟨rfl, hb⟩
      have HV8 := Lib.hid (HV7.out.below hb)
      clear hb HV7 HOF
      go_upto_region 10 with fail
      change Code.wp _ _ _ _ (w8.alloc (.cells #[.pointer (some ⟨A, 0, none⟩), .int .i64 (va : Int), .int .i64 (vs : Int)] 55))
      have hT : VC w8.heap.size (some ⟨A, 0, none⟩) va vs (w8.alloc (.cells #[.pointer (some ⟨A, 0, none⟩), .int .i64 (va : Int), .int .i64 (vs : Int)] 55)) := heap_new _ _
      have hV := HV8.out.below (bel1 w8 (.cells #[.pointer (some ⟨A, 0, none⟩), .int .i64 (va : Int), .int .i64 (vs : Int)] 55))
      obtain ⟨w9, hw9⟩ : ∃ w9, w8.alloc (.cells #[.pointer (some ⟨A, 0, none⟩), .int .i64 (va : Int), .int .i64 (vs : Int)] 55) = w9 := ⟨_, rfl⟩
      obtain ⟨T, hTT⟩ : ∃ T, w8.heap.size = T := ⟨_, rfl⟩
      rw [hw9, hTT] at hT
      rw [hw9] at hV
      rw [hw9, hTT]
      have HT := Lib.hid hT
      have HV9 := Lib.hid hV
      clear hT hV hw9 hTT HV8
      obtain ⟨q0, q1⟩ := HV9.out.q.all
      go_wp2_with fail
      refine (HTH.out _ HV9.out.d).mono ?_
      rintro e w10 ⟨rfl, hb⟩
      have HT10 := Lib.hid (show VC T (some ⟨A, 0, none⟩) va vs w10 from blk_at hb HT.out)
      have HV10 := Lib.hid (HV9.out.below hb)
      clear hb HT HV9 q0 q1
      obtain ⟨t0, t1, t2⟩ := vc_all3 HT10.out
      go_wp2_with fail
      refine (vat_any (some ⟨A, 0, none⟩) va vs _).mono ?_
      rintro e w11 ⟨rfl, hb⟩
      have HT11 := Lib.hid (show VC T (some ⟨A, 0, none⟩) va vs w11 from blk_at hb HT10.out)
      have HV11 := Lib.hid (HV10.out.below hb)
      clear hb HT10 HV10 t0 t1 t2
      obtain ⟨t0, t1, t2⟩ := vc_all3 HT11.out
      have hvv1 : ((va : Int) != (va : Int)) = false := by simp
      have hvv2 : ((vs : Int) != (vs : Int)) = false := by simp
      go_wp2_with fail
      refine (vsize_any (some ⟨A, 0, none⟩) va vs _).mono ?_
      rintro e w12 ⟨rfl, hb⟩
      have HT12 := Lib.hid (show VC T (some ⟨A, 0, none⟩) va vs w12 from blk_at hb HT11.out)
      have HV12 := Lib.hid (HV11.out.below hb)
      clear hb HT11 HV11 t0 t1 t2
      obtain ⟨t0, t1, t2⟩ := vc_all3 HT12.out
      obtain ⟨q0, q1⟩ := HV12.out.q.all
      go_upto_region 15 with fail
      change Code.wp _ _ _ _ (w12.alloc (.cells #[.pointer (some ⟨A, 0, none⟩), .pointer (some ⟨A, 0, none⟩), .int .i64 (va : Int), .int .i64 (vs : Int), .slice (some ⟨b2, 0, none⟩) sF.L cap2, .int .i64 (refR sF), .int .i64 (va : Int), .int .i64 (vs : Int)] 63))
      have hst : DvW w12.heap.size A b2 cap2 va vs sF w1 (w12.alloc (.cells #[.pointer (some ⟨A, 0, none⟩), .pointer (some ⟨A, 0, none⟩), .int .i64 (va : Int), .int .i64 (vs : Int), .slice (some ⟨b2, 0, none⟩) sF.L cap2, .int .i64 (refR sF), .int .i64 (va : Int), .int .i64 (vs : Int)] 63)) := by
        have hb := bel1 w12 (.cells #[.pointer (some ⟨A, 0, none⟩), .pointer (some ⟨A, 0, none⟩), .int .i64 (va : Int), .int .i64 (vs : Int), .slice (some ⟨b2, 0, none⟩) sF.L cap2, .int .i64 (refR sF), .int .i64 (va : Int), .int .i64 (vs : Int)] 63)
        exact ⟨heap_new _ _, HV12.out.x.below hb, HV12.out.d.below hb, Mine.new HV12.out.x _, HV12.out.bs.below HV12.out.x hb, HV12.out.bs.bel.size, HVB.out.1, HVB.out.2⟩
      obtain ⟨w13, hw13⟩ : ∃ w13, w12.alloc (.cells #[.pointer (some ⟨A, 0, none⟩), .pointer (some ⟨A, 0, none⟩), .int .i64 (va : Int), .int .i64 (vs : Int), .slice (some ⟨b2, 0, none⟩) sF.L cap2, .int .i64 (refR sF), .int .i64 (va : Int), .int .i64 (vs : Int)] 63) = w13 := ⟨_, rfl⟩
      obtain ⟨Wb, hWb⟩ : ∃ Wb, w12.heap.size = Wb := ⟨_, rfl⟩
      rw [hw13, hWb] at hst
      rw [hw13, hWb]
      have HST := Lib.hid hst
      clear hst hw13 hWb HV12 HT12 t0 t1 t2 q0 q1 HTH
      go_wp2_with fail
      go_loopw [79] (fun s79 wr => LpV Wb A 4 w1 acts s79 wr) (fun s79 _ => acts.length - (intOf s79).toNat)
      case atStart => exact ⟨0, by omega, rfl, b2, cap2, va, vs, sF, HLF.out, HST.out⟩
      case round =>
        obtain ⟨i, hi, rfl, b, cap, va, vs, s, hsl, hdw⟩ := hrel
        clear HST HLF HVB
        by_cases hlt : i < acts.length
        · rcases HAC.out.below hdw.bs.bel with h' | ⟨pb, off, rfl, hbl, hc⟩
          · omega
          · obtain ⟨⟨f0, f1, f2, f3, f4, f5⟩, hok⟩ := hc i hlt
            have h6 := HLI.out i hlt
            obtain ⟨c, hcc⟩ : ∃ c, acts[i] = c := ⟨_, rfl⟩
            rw [hcc] at f0 f1 f2 f3 f4 f5 hok h6
            have HOK := Lib.hid (And.intro hok h6)
            have HDWR := Lib.hid hdw
            have HSL := Lib.hid hsl
            clear hc hcc hok hdw hsl h6
            go_upto_region 18 with fail
            change Code.wp _ _ _ _ (wr.alloc (.cells #[.int .u8 c.d, .int .i64 c.a, .int .i64 c.fr, .int .i64 c.n, .int .u64 c.x, .string c.s] 36))
            have hE := heap_new wr (.cells #[.int .u8 c.d, .int .i64 c.a, .int .i64 c.fr, .int .i64 c.n, .int .u64 c.x, .string c.s] 36)
            have hdy := HDWR.out.below (bel1 wr (.cells #[.int .u8 c.d, .int .i64 c.a, .int .i64 c.fr, .int .i64 c.n, .int .u64 c.x, .string c.s] 36))
            obtain ⟨y, hy⟩ : ∃ y, wr.alloc (.cells #[.int .u8 c.d, .int .i64 c.a, .int .i64 c.fr, .int .i64 c.n, .int .u64 c.x, .string c.s] 36) = y := ⟨_, rfl⟩
            obtain ⟨E, hEE⟩ : ∃ E, wr.heap.size = E := ⟨_, rfl⟩
            rw [hy, hEE] at hE
            rw [hy] at hdy
            rw [hy, hEE]
            have HDW := Lib.hid hdy
            have e0 := (cell_blk hE 0).1
            have e1 := (cell_blk hE 1).1
            have e2 := (cell_blk hE 2).1
            have e3 := (cell_blk hE 3).1
            have e4 := (cell_blk hE 4).1
            have e5 := (cell_blk hE 5).1
            change y.cell? ⟨E, 0, none⟩ = some (.int .u8 c.d) at e0
            change y.cell? ⟨E, 1, none⟩ = some (.int .i64 c.a) at e1
            change y.cell? ⟨E, 2, none⟩ = some (.int .i64 c.fr) at e2
            change y.cell? ⟨E, 3, none⟩ = some (.int .i64 c.n) at e3
            change y.cell? ⟨E, 4, none⟩ = some (.int .u64 c.x) at e4
            change y.cell? ⟨E, 5, none⟩ = some (.string c.s) at e5
            clear hE hdy hy hEE f0 f1 f2 f3 f4 f5 HDWR
            refine wp_region_held_drew (S := fun _ => True) (by kernel_rfl) trivial (fun hHeld => ?_)
            refine wpAnyH_take (i := 0) (v := (.pointer (some ⟨Wb, 0, none⟩))) rfl (by kernel_rfl) (by kernel_rfl) (by kernel_rfl) (fun _ _ _ h => h) (Or.inl ⟨by rfl, fun X hS => ?_⟩) hHeld ?_
            · skip
              go_simp
            try simp only [Act.put, List.getElem_toArray, List.getElem_cons_zero, List.getElem_cons_succ, List.setIfInBounds_toArray, List.set_cons_zero, List.set_cons_succ]
            refine wpAnyH_ready (rs := [1]) (by kernel_rfl) (by simp) (AllReadyH.cons rfl (fun K1 hK1 => ?_) AllReadyH.nil)
            go_simp
            refine hK1.out _ _ trivial (fun hHeld => ?_)
            clear hK1
            try simp only [Act.put, List.getElem_toArray, List.getElem_cons_zero, List.getElem_cons_succ, List.setIfInBounds_toArray, List.set_cons_zero, List.set_cons_succ]
            refine wpAnyH_ready (rs := [2]) (by kernel_rfl) (by simp) (AllReadyH.cons rfl (fun K1 hK1 => ?_) AllReadyH.nil)
            go_simp
            refine (dvo_any c HOK.out.1 HOK.out.2 (HDW.out.below (Below.refl _ _).drew) (by rw [HSL.out]; omega)).mono ?_
            rintro e w4 ⟨b4, cap4, va4, vs4, s4, rfl, hL4, hdw4⟩
            have HDW4 := Lib.hid hdw4
            have HLL := Lib.hid (hL4.trans HSL.out)
            have HL48 := Lib.hid (show s4.L ≤ 8 by rw [hL4, HSL.out]; omega)
            have HL4M := Lib.hid (show s4.L ≤ 1048576 by rw [hL4, HSL.out]; omega)
            clear hdw4 hL4 HDW
            refine hK1.out _ _ trivial (fun hHeld => ?_)
            clear hK1
            try simp only [Act.put, List.getElem_toArray, List.getElem_cons_zero, List.getElem_cons_succ, List.setIfInBounds_toArray, List.set_cons_zero, List.set_cons_succ]
            refine wpAnyH_weak (S' := DvW Wb A b4 cap4 va4 vs4 s4 w1) (fun _ _ => trivial) _ _ _ _ ?_
            clear hHeld
            have hHeld := HDW4.out
            obtain ⟨V, hV⟩ : ∃ V, countV s4.L s4.es 0 (s4.L : Int) = V := ⟨_, rfl⟩
            have HV := Lib.hid hV
            clear hV
            refine wpAnyH_take (i := 3) (v := (.bool false)) rfl (by kernel_rfl) (by kernel_rfl) (by kernel_rfl) (fun _ _ _ h => h) (Or.inl ⟨by rfl, fun X hS => ?_⟩) hHeld ?_
            · obtain ⟨g1, g2, g3, g4, g5, g6, g7, g8⟩ := hS.cells
              go_simp
            try simp only [Act.put, List.getElem_toArray, List.getElem_cons_zero, List.getElem_cons_succ, List.setIfInBounds_toArray, List.set_cons_zero, List.set_cons_succ]
            refine wpAnyH_take (i := 4) (v := (.bool false)) rfl (by kernel_rfl) (by kernel_rfl) (by kernel_rfl) (fun _ _ _ h => h) (Or.inl ⟨by rfl, fun X hS => ?_⟩) hHeld ?_
            · obtain ⟨g1, g2, g3, g4, g5, g6, g7, g8⟩ := hS.cells
              go_simp
            try simp only [Act.put, List.getElem_toArray, List.getElem_cons_zero, List.getElem_cons_succ, List.setIfInBounds_toArray, List.set_cons_zero, List.set_cons_succ]
            refine wpAnyH_take (i := 5) (v := (.pointer (some ⟨Wb, 0, none⟩))) rfl (by kernel_rfl) (by kernel_rfl) (by kernel_rfl) (fun _ _ _ h => h) (Or.inl ⟨by rfl, fun X hS => ?_⟩) hHeld ?_
            · obtain ⟨g1, g2, g3, g4, g5, g6, g7, g8⟩ := hS.cells
              go_simp
            try simp only [Act.put, List.getElem_toArray, List.getElem_cons_zero, List.getElem_cons_succ, List.setIfInBounds_toArray, List.set_cons_zero, List.set_cons_succ]
            refine wpAnyH_take (i := 6) (v := (.pointer (some ⟨Wb, 0, none⟩))) rfl (by kernel_rfl) (by kernel_rfl) (by kernel_rfl) (fun _ _ _ h => h) (Or.inl ⟨by rfl, fun X hS => ?_⟩) hHeld ?_
            · obtain ⟨g1, g2, g3, g4, g5, g6, g7, g8⟩ := hS.cells
              go_simp
            try simp only [Act.put, List.getElem_toArray, List.getElem_cons_zero, List.getElem_cons_succ, List.setIfInBounds_toArray, List.set_cons_zero, List.set_cons_succ]
            refine wpAnyH_take (i := 7) (v := (.pointer (some ⟨Wb, 0, none⟩))) rfl (by kernel_rfl) (by kernel_rfl) (by kernel_rfl) (fun _ _ _ h => h) (Or.inl ⟨by rfl, fun X hS => ?_⟩) hHeld ?_
            · obtain ⟨g1, g2, g3, g4, g5, g6, g7, g8⟩ := hS.cells
              go_simp
            try simp only [Act.put, List.getElem_toArray, List.getElem_cons_zero, List.getElem_cons_succ, List.setIfInBounds_toArray, List.set_cons_zero, List.set_cons_succ]
            refine wpAnyH_take (i := 8) (v := (.pointer (some ⟨A, 0, none⟩))) rfl (by kernel_rfl) (by kernel_rfl) (by kernel_rfl) (fun _ _ _ h => h) (Or.inl ⟨by rfl, fun X hS => ?_⟩) hHeld ?_
            · obtain ⟨g1, g2, g3, g4, g5, g6, g7, g8⟩ := hS.cells
              go_simp
            try simp only [Act.put, List.getElem_toArray, List.getElem_cons_zero, List.getElem_cons_succ, List.setIfInBounds_toArray, List.set_cons_zero, List.set_cons_succ]
            refine wpAnyH_take (i := 10) (v := (.pointer (some ⟨Wb, 0, none⟩))) rfl (by kernel_rfl) (by kernel_rfl) (by kernel_rfl) (fun _ _ _ h => h) (Or.inl ⟨by rfl, fun X hS => ?_⟩) hHeld ?_
            · obtain ⟨g1, g2, g3, g4, g5, g6, g7, g8⟩ := hS.cells
              go_simp
            try simp only [Act.put, List.getElem_toArray, List.getElem_cons_zero, List.getElem_cons_succ, List.setIfInBounds_toArray, List.set_cons_zero, List.set_cons_succ]
            refine wpAnyH_take (i := 11) (v := (.pointer (some ⟨Wb, 0, none⟩))) rfl (by kernel_rfl) (by kernel_rfl) (by kernel_rfl) (fun _ _ _ h => h) (Or.inl ⟨by rfl, fun X hS => ?_⟩) hHeld ?_
            · obtain ⟨g1, g2, g3, g4, g5, g6, g7, g8⟩ := hS.cells
              go_simp
            try simp only [Act.put, List.getElem_toArray, List.getElem_cons_zero, List.getElem_cons_succ, List.setIfInBounds_toArray, List.set_cons_zero, List.set_cons_succ]
            refine wpAnyH_take (i := 12) (v := (.pointer (some ⟨Wb, 4, none⟩))) rfl (by kernel_rfl) (by kernel_rfl) (by kernel_rfl) (fun _ _ _ h => h) (Or.inl ⟨by rfl, fun X hS => ?_⟩) hHeld ?_
            · obtain ⟨g1, g2, g3, g4, g5, g6, g7, g8⟩ := hS.cells
              go_simp
            try simp only [Act.put, List.getElem_toArray, List.getElem_cons_zero, List.getElem_cons_succ, List.setIfInBounds_toArray, List.set_cons_zero, List.set_cons_succ]
            refine wpAnyH_take (i := 13) (v := (.agg #[.slice (some ⟨b4, 0, none⟩) s4.L cap4, .int .i64 (refR s4)])) rfl (by kernel_rfl) (by kernel_rfl) (by kernel_rfl) (fun _ _ _ h => h) (Or.inl ⟨by rfl, fun X hS => ?_⟩) hHeld ?_
            · obtain ⟨g1, g2, g3, g4, g5, g6, g7, g8⟩ := hS.cells
              go_simp
            try simp only [Act.put, List.getElem_toArray, List.getElem_cons_zero, List.getElem_cons_succ, List.setIfInBounds_toArray, List.set_cons_zero, List.set_cons_succ]
            refine wpAnyH_ready (rs := [9]) (by kernel_rfl) (by simp) (AllReadyH.cons rfl (fun K1 hK1 => ?_) AllReadyH.nil)
            go_simp
            have HH := Lib.hid hHeld
            clear hHeld
            refine (dof_any HH.out.x (by have := HL48.out; omega)).mono ?_
            rintro e w7 ⟨bo, rfl, hdo, hb⟩
            have HDO := Lib.hid hdo
            have hn := HH.out.below hb
            clear hb HH hdo
            refine hK1.out _ _ hn (fun hHeld => ?_)
            clear hK1
            try simp only [Act.put, List.getElem_toArray, List.getElem_cons_zero, List.getElem_cons_succ, List.setIfInBounds_toArray, List.set_cons_zero, List.set_cons_succ]
            refine wpAnyH_ready (rs := [14]) (by kernel_rfl) (by simp) (AllReadyH.cons rfl (fun K1 hK1 => ?_) AllReadyH.nil)
            go_simp
            have HH := Lib.hid hHeld
            clear hHeld
            have hsm := dsame_any (cap := s4.L) (cap2 := cap4) (gs := gS s4) (by rw [gS_len]; exact HL4M.out) (-1) (refR s4) HDO.out HH.out.d
            rw [gS_len] at hsm
            refine hsm.mono ?_
            rintro e w8 ⟨rfl, hb⟩
            have hn := HH.out.below hb
            clear hb HH hsm HDO
            refine hK1.out _ _ hn (fun hHeld => ?_)
            clear hK1
            try simp only [Act.put, List.getElem_toArray, List.getElem_cons_zero, List.getElem_cons_succ, List.setIfInBounds_toArray, List.set_cons_zero, List.set_cons_succ]
            refine wpAnyH_take (i := 15) (v := (.bool false)) rfl (by kernel_rfl) (by kernel_rfl) (by kernel_rfl) (fun _ _ _ h => h) (Or.inl ⟨by rfl, fun X hS => ?_⟩) hHeld ?_
            · obtain ⟨g1, g2, g3, g4, g5, g6, g7, g8⟩ := hS.cells
              go_simp
            try simp only [Act.put, List.getElem_toArray, List.getElem_cons_zero, List.getElem_cons_succ, List.setIfInBounds_toArray, List.set_cons_zero, List.set_cons_succ]
            refine wpAnyH_take (i := 16) (v := (.bool false)) rfl (by kernel_rfl) (by kernel_rfl) (by kernel_rfl) (fun _ _ _ h => h) (Or.inl ⟨by rfl, fun X hS => ?_⟩) hHeld ?_
            · obtain ⟨g1, g2, g3, g4, g5, g6, g7, g8⟩ := hS.cells
              go_simp
            try simp only [Act.put, List.getElem_toArray, List.getElem_cons_zero, List.getElem_cons_succ, List.setIfInBounds_toArray, List.set_cons_zero, List.set_cons_succ]
            refine wpAnyH_take (i := 17) (v := (.bool false)) rfl (by kernel_rfl) (by kernel_rfl) (by kernel_rfl) (fun _ _ _ h => h) (Or.inl ⟨by rfl, fun X hS => ?_⟩) hHeld ?_
            · obtain ⟨g1, g2, g3, g4, g5, g6, g7, g8⟩ := hS.cells
              go_simp
            try simp only [Act.put, List.getElem_toArray, List.getElem_cons_zero, List.getElem_cons_succ, List.setIfInBounds_toArray, List.set_cons_zero, List.set_cons_succ]
            refine wpAnyH_take (i := 18) (v := (.pointer (some ⟨Wb, 0, none⟩))) rfl (by kernel_rfl) (by kernel_rfl) (by kernel_rfl) (fun _ _ _ h => h) (Or.inl ⟨by rfl, fun X hS => ?_⟩) hHeld ?_
            · obtain ⟨g1, g2, g3, g4, g5, g6, g7, g8⟩ := hS.cells
              go_simp
            try simp only [Act.put, List.getElem_toArray, List.getElem_cons_zero, List.getElem_cons_succ, List.setIfInBounds_toArray, List.set_cons_zero, List.set_cons_succ]
            refine wpAnyH_take (i := 19) (v := (.pointer (some ⟨Wb, 0, none⟩))) rfl (by kernel_rfl) (by kernel_rfl) (by kernel_rfl) (fun _ _ _ h => h) (Or.inl ⟨by rfl, fun X hS => ?_⟩) hHeld ?_
            · obtain ⟨g1, g2, g3, g4, g5, g6, g7, g8⟩ := hS.cells
              go_simp
            try simp only [Act.put, List.getElem_toArray, List.getElem_cons_zero, List.getElem_cons_succ, List.setIfInBounds_toArray, List.set_cons_zero, List.set_cons_succ]
            refine wpAnyH_take (i := 20) (v := (.pointer (some ⟨Wb, 1, none⟩))) rfl (by kernel_rfl) (by kernel_rfl) (by kernel_rfl) (fun _ _ _ h => h) (Or.inl ⟨by rfl, fun X hS => ?_⟩) hHeld ?_
            · obtain ⟨g1, g2, g3, g4, g5, g6, g7, g8⟩ := hS.cells
              go_simp
            try simp only [Act.put, List.getElem_toArray, List.getElem_cons_zero, List.getElem_cons_succ, List.setIfInBounds_toArray, List.set_cons_zero, List.set_cons_succ]
            refine wpAnyH_take (i := 21) (v := (.pointer (some ⟨Wb, 1, none⟩))) rfl (by kernel_rfl) (by kernel_rfl) (by kernel_rfl) (fun _ _ _ h => h) (Or.inl ⟨by rfl, fun X hS => ?_⟩) hHeld ?_
            · obtain ⟨g1, g2, g3, g4, g5, g6, g7, g8⟩ := hS.cells
              go_simp
            try simp only [Act.put, List.getElem_toArray, List.getElem_cons_zero, List.getElem_cons_succ, List.setIfInBounds_toArray, List.set_cons_zero, List.set_cons_succ]
            refine wpAnyH_take (i := 22) (v := (.pointer (some ⟨A, 0, none⟩))) rfl (by kernel_rfl) (by kernel_rfl) (by kernel_rfl) (fun _ _ _ h => h) (Or.inl ⟨by rfl, fun X hS => ?_⟩) hHeld ?_
            · obtain ⟨g1, g2, g3, g4, g5, g6, g7, g8⟩ := hS.cells
              go_simp
            try simp only [Act.put, List.getElem_toArray, List.getElem_cons_zero, List.getElem_cons_succ, List.setIfInBounds_toArray, List.set_cons_zero, List.set_cons_succ]
            refine wpAnyH_take (i := 24) (v := (.pointer (some ⟨Wb, 0, none⟩))) rfl (by kernel_rfl) (by kernel_rfl) (by kernel_rfl) (fun _ _ _ h => h) (Or.inl ⟨by rfl, fun X hS => ?_⟩) hHeld ?_
            · obtain ⟨g1, g2, g3, g4, g5, g6, g7, g8⟩ := hS.cells
              go_simp
            try simp only [Act.put, List.getElem_toArray, List.getElem_cons_zero, List.getElem_cons_succ, List.setIfInBounds_toArray, List.set_cons_zero, List.set_cons_succ]
            refine wpAnyH_take (i := 25) (v := (.pointer (some ⟨Wb, 0, none⟩))) rfl (by kernel_rfl) (by kernel_rfl) (by kernel_rfl) (fun _ _ _ h => h) (Or.inl ⟨by rfl, fun X hS => ?_⟩) hHeld ?_
            · obtain ⟨g1, g2, g3, g4, g5, g6, g7, g8⟩ := hS.cells
              go_simp
            try simp only [Act.put, List.getElem_toArray, List.getElem_cons_zero, List.getElem_cons_succ, List.setIfInBounds_toArray, List.set_cons_zero, List.set_cons_succ]
            refine wpAnyH_take (i := 26) (v := (.pointer (some ⟨Wb, 0, none⟩))) rfl (by kernel_rfl) (by kernel_rfl) (by kernel_rfl) (fun _ _ _ h => h) (Or.inl ⟨by rfl, fun X hS => ?_⟩) hHeld ?_
            · obtain ⟨g1, g2, g3, g4, g5, g6, g7, g8⟩ := hS.cells
              go_simp
            try simp only [Act.put, List.getElem_toArray, List.getElem_cons_zero, List.getElem_cons_succ, List.setIfInBounds_toArray, List.set_cons_zero, List.set_cons_succ]
            refine wpAnyH_take (i := 27) (v := (.pointer (some ⟨A, 0, none⟩))) rfl (by kernel_rfl) (by kernel_rfl) (by kernel_rfl) (fun _ _ _ h => h) (Or.inl ⟨by rfl, fun X hS => ?_⟩) hHeld ?_
            · obtain ⟨g1, g2, g3, g4, g5, g6, g7, g8⟩ := hS.cells
              go_simp
            try simp only [Act.put, List.getElem_toArray, List.getElem_cons_zero, List.getElem_cons_succ, List.setIfInBounds_toArray, List.set_cons_zero, List.set_cons_succ]
            refine wpAnyH_ready (rs := [23]) (by kernel_rfl) (by simp) (AllReadyH.cons rfl (fun K1 hK1 => ?_) AllReadyH.nil)
            go_simp
            have HH := Lib.hid hHeld
            clear hHeld
            refine (on_acom HH.out.x).mono ?_
            rintro e w9 ⟨rfl, hb⟩
            rw [HV.out]
            have hn := HH.out.below hb
            clear hb HH
            refine hK1.out _ _ hn (fun hHeld => ?_)
            clear hK1
            try simp only [Act.put, List.getElem_toArray, List.getElem_cons_zero, List.getElem_cons_succ, List.setIfInBounds_toArray, List.set_cons_zero, List.set_cons_succ]
            refine wpAnyH_ready (rs := [28]) (by kernel_rfl) (by simp) (AllReadyH.cons rfl (fun K1 hK1 => ?_) AllReadyH.nil)
            go_simp
            have HH := Lib.hid hHeld
            clear hHeld
            refine (on_acom HH.out.x).mono ?_
            rintro e w9 ⟨rfl, hb⟩
            rw [HV.out]
            have hn := HH.out.below hb
            clear hb HH
            refine hK1.out _ _ hn (fun hHeld => ?_)
            clear hK1
            try simp only [Act.put, List.getElem_toArray, List.getElem_cons_zero, List.getElem_cons_succ, List.setIfInBounds_toArray, List.set_cons_zero, List.set_cons_succ]
            refine wpAnyH_take (i := 29) (v := (.bool false)) rfl (by kernel_rfl) (by kernel_rfl) (by kernel_rfl) (fun _ _ _ h => h) (Or.inl ⟨by rfl, fun X hS => ?_⟩) hHeld ?_
            · obtain ⟨g1, g2, g3, g4, g5, g6, g7, g8⟩ := hS.cells
              have hvv : (V != V) = false := by simp
              go_simp
            try simp only [Act.put, List.getElem_toArray, List.getElem_cons_zero, List.getElem_cons_succ, List.setIfInBounds_toArray, List.set_cons_zero, List.set_cons_succ]
            refine wpAnyH_take (i := 30) (v := (.bool false)) rfl (by kernel_rfl) (by kernel_rfl) (by kernel_rfl) (fun _ _ _ h => h) (Or.inl ⟨by rfl, fun X hS => ?_⟩) hHeld ?_
            · obtain ⟨g1, g2, g3, g4, g5, g6, g7, g8⟩ := hS.cells
              go_simp
            try simp only [Act.put, List.getElem_toArray, List.getElem_cons_zero, List.getElem_cons_succ, List.setIfInBounds_toArray, List.set_cons_zero, List.set_cons_succ]
            refine wpAnyH_take (i := 31) (v := (.bool false)) rfl (by kernel_rfl) (by kernel_rfl) (by kernel_rfl) (fun _ _ _ h => h) (Or.inl ⟨by rfl, fun X hS => ?_⟩) hHeld ?_
            · obtain ⟨g1, g2, g3, g4, g5, g6, g7, g8⟩ := hS.cells
              go_simp
            try simp only [Act.put, List.getElem_toArray, List.getElem_cons_zero, List.getElem_cons_succ, List.setIfInBounds_toArray, List.set_cons_zero, List.set_cons_succ]
            refine wpAnyH_take (i := 32) (v := (.pointer (some ⟨Wb, 0, none⟩))) rfl (by kernel_rfl) (by kernel_rfl) (by kernel_rfl) (fun _ _ _ h => h) (Or.inl ⟨by rfl, fun X hS => ?_⟩) hHeld ?_
            · obtain ⟨g1, g2, g3, g4, g5, g6, g7, g8⟩ := hS.cells
              go_simp
            try simp only [Act.put, List.getElem_toArray, List.getElem_cons_zero, List.getElem_cons_succ, List.setIfInBounds_toArray, List.set_cons_zero, List.set_cons_succ]
            refine wpAnyH_take (i := 33) (v := (.pointer (some ⟨Wb, 0, none⟩))) rfl (by kernel_rfl) (by kernel_rfl) (by kernel_rfl) (fun _ _ _ h => h) (Or.inl ⟨by rfl, fun X hS => ?_⟩) hHeld ?_
            · obtain ⟨g1, g2, g3, g4, g5, g6, g7, g8⟩ := hS.cells
              go_simp
            try simp only [Act.put, List.getElem_toArray, List.getElem_cons_zero, List.getElem_cons_succ, List.setIfInBounds_toArray, List.set_cons_zero, List.set_cons_succ]
            refine wpAnyH_take (i := 34) (v := (.pointer (some ⟨Wb, 1, none⟩))) rfl (by kernel_rfl) (by kernel_rfl) (by kernel_rfl) (fun _ _ _ h => h) (Or.inl ⟨by rfl, fun X hS => ?_⟩) hHeld ?_
            · obtain ⟨g1, g2, g3, g4, g5, g6, g7, g8⟩ := hS.cells
              go_simp
            try simp only [Act.put, List.getElem_toArray, List.getElem_cons_zero, List.getElem_cons_succ, List.setIfInBounds_toArray, List.set_cons_zero, List.set_cons_succ]
            refine wpAnyH_take (i := 35) (v := (.pointer (some ⟨Wb, 1, none⟩))) rfl (by kernel_rfl) (by kernel_rfl) (by kernel_rfl) (fun _ _ _ h => h) (Or.inl ⟨by rfl, fun X hS => ?_⟩) hHeld ?_
            · obtain ⟨g1, g2, g3, g4, g5, g6, g7, g8⟩ := hS.cells
              go_simp
            try simp only [Act.put, List.getElem_toArray, List.getElem_cons_zero, List.getElem_cons_succ, List.setIfInBounds_toArray, List.set_cons_zero, List.set_cons_succ]
            refine wpAnyH_take (i := 36) (v := (.pointer (some ⟨A, 0, none⟩))) rfl (by kernel_rfl) (by kernel_rfl) (by kernel_rfl) (fun _ _ _ h => h) (Or.inl ⟨by rfl, fun X hS => ?_⟩) hHeld ?_
            · obtain ⟨g1, g2, g3, g4, g5, g6, g7, g8⟩ := hS.cells
              go_simp
            try simp only [Act.put, List.getElem_toArray, List.getElem_cons_zero, List.getElem_cons_succ, List.setIfInBounds_toArray, List.set_cons_zero, List.set_cons_succ]
            refine wpAnyH_ready (rs := [37]) (by kernel_rfl) (by simp) (AllReadyH.cons rfl (fun K1 hK1 => ?_) AllReadyH.nil)
            go_simp
            have HH := Lib.hid hHeld
            clear hHeld
            refine (on_capD HH.out.x).mono ?_
            rintro e w9 ⟨rfl, hb⟩
            subst hb
            have hn := HH.out
            have HW8 := Lib.hid hn
            clear HH
            refine hK1.out _ _ hn (fun hHeld => ?_)
            clear hK1
            try simp only [Act.put, List.getElem_toArray, List.getElem_cons_zero, List.getElem_cons_succ, List.setIfInBounds_toArray, List.set_cons_zero, List.set_cons_succ]
            refine wpAnyH_take (i := 38) (v := (.bool false)) rfl (by kernel_rfl) (by kernel_rfl) (by kernel_rfl) (fun _ _ _ h => h) (Or.inl ⟨by rfl, fun X hS => ?_⟩) hHeld ?_
            · obtain ⟨g1, g2, g3, g4, g5, g6, g7, g8⟩ := hS.cells
              have hl4 : (s4.L : Int) = 4 := by rw [HLL.out]; rfl
              go_simp
            try simp only [Act.put, List.getElem_toArray, List.getElem_cons_zero, List.getElem_cons_succ, List.setIfInBounds_toArray, List.set_cons_zero, List.set_cons_succ]
            refine wpAnyH_take (i := 39) (v := (.bool false)) rfl (by kernel_rfl) (by kernel_rfl) (by kernel_rfl) (fun _ _ _ h => h) (Or.inl ⟨by rfl, fun X hS => ?_⟩) hHeld ?_
            · obtain ⟨g1, g2, g3, g4, g5, g6, g7, g8⟩ := hS.cells
              go_simp
            try simp only [Act.put, List.getElem_toArray, List.getElem_cons_zero, List.getElem_cons_succ, List.setIfInBounds_toArray, List.set_cons_zero, List.set_cons_succ]
            refine wpAnyH_done (by kernel_rfl) ?_ _
            clear hHeld
            go_wp2_with fail
            go_roundw
            case rel => exact ⟨i + 1, by omega, by go_num, b4, cap4, va4, vs4, s4, HLL.out, HW8.out⟩
            case measure => simp [intOf]; omega
        · obtain rfl : i = acts.length := by omega
          have HDW := Lib.hid hdw
          clear hdw hsl
          go_wp2_with fail
          go_ret
          exact ⟨rfl, HB1.out.trans (HDW.out.bs.bel.mono HB1.out.size)⟩
end Go.Proofs.Ytdmaendhkenmgaa.Bt
