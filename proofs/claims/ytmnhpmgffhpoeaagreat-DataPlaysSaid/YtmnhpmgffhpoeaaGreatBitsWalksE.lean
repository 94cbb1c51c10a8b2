/- laid of the empty set that has no row yet; the contracts of laid, With and Without at every row; what follows of them. -/
import Derived.Test.YtmnhpmgffhpoeaaGreatBitsWalksD
namespace Go.Proofs.YtmnhpmgffhpoeaaGreat.Bt
open Go Go.RowKit

theorem edges_nil (L : Nat) (x : Int) (w : World) :
    Calls Tryz.prog 78 #[.agg #[.int .i64 L, .slice none 0 0], .int .i64 x] w fun e w' => e = .returned (.int .i64 0) ∧ Below w.heap.size w w' :=
  edges_any L none 0 0 [] x w List.Pairwise.nil (by simp) (.inl ⟨rfl, rfl⟩) rfl

set_option maxHeartbeats 1000000 in
theorem laid_nil_t (L : Nat) (fr n : Nat) (w : World) (g : Good L []) (hn0 : 0 < n) (hnL : fr + n ≤ L) :
    Calls Tryz.prog 62 #[.agg #[.int .i64 L, .slice none 0 0], .int .i64 fr, .int .i64 n, .bool true] w (LaidPost L none [] fr n true w) := by
  have hL := g.small
  have hgl := good_len g
  have HW : Hid (withinB L fr n = true) := Lib.hid (by unfold withinB; simp; omega)
  have HE : Hid (laidS L [] fr n true = laidE [] fr n true) := Lib.hid (by unfold laidS; rw [HW.out, decide_eq_true (by omega)]; simp)
  have HRow : Hid (RowAt w none []) := Lib.hid (.inl ⟨rfl, rfl⟩)
  have hnz : ((n : Int) == 0) = false := beq_eq_false_iff_ne.2 (by omega)
  go_enter Tryz.func62, Tryz.ntmps62
  go_wp2_with fail
  refine (within_any L hL none 0 0 _ _ (by omega) _).mono ?_
  rw [HW.out]
  rintro e w1 ⟨rfl, hb⟩
  have H1 : Hold w L none 0 0 [] w1 := by
    refine Hold.next (x := (w.alloc (.cells #[.int .i64 L, .slice none 0 0] 73)).alloc (.cells #[.int .i64 0, .slice none 0 0] 73)) ?_ (hb.mono (by simp))
    refine ⟨by simp, by simp, by simp, by simp, by simp, by simp, by simp, ((Below.refl _ _).alloc (Nat.le_refl _) _).alloc (by simp) _, ?_⟩
    exact (HRow.out.below ((Below.refl _ _).alloc (Nat.le_refl _) _)).below ((Below.refl _ _).alloc (by simp) _)
  have hc0 := H1.c0
  have hc1 := H1.c1
  go_wp2_with fail
  have hw1 : IntKind.i64.wrap ((fr : Int) + n) = fr + n := IntWalk.i64_in _ (by omega)
  have hw2 : IntKind.i64.wrap ((fr : Int) + n + 1) = fr + n + 1 := IntWalk.i64_in _ (by omega)
  go_region_held3 (fun x => x.cell? ⟨w.heap.size, 0, none⟩ = some (.int .i64 (L : Int)) ∧ x.cell? ⟨w.heap.size, 1, none⟩ = some (.slice none 0 0) ∧ Hold w L none 0 0 [] x)
    (first | exact H1.drew.all | assumption)
    (first | (go_at_call 78; refine (edges_nil L _ _).mono ?_; rintro e w' ⟨rfl, hbb⟩; have hnx := Hold.all (Hold.next' (w := w) (L := L) (p := none) (n := 0) (cap := 0) (es := []) hbb (by assumption))))
  clear hw1 hw2
  obtain ⟨hd0, hd1, H2⟩ := hnx
  have i1 : insB 0 = false := rfl
  have HQ : Hid (laidE [] fr n true = [fr, fr + n]) := Lib.hid (by unfold laidE; rw [cnt_nil, cnt_nil, i1]; rfl)
  obtain ⟨i0, hi, hz0, hz1, hz2⟩ := info_parts Tryz.info3
  go_wp2_with (first | (at_make; refine wpList_make_own _ rfl _ _ 71 rfl (w.heap.size + 2) 3 i0 (.int .i64 0) 1 Tryz.underlying71 hi hz0 hz1 .i64 .i64 _ 2 rfl rfl rfl (by rw [hz2]; omega) (by unfold maxLen; omega) H2.sz ?_; intro w3 hown3 hgrow3; have H3 := H2.grown hgrow3 (fun k e => by cases e) HRow.out; have f30 := H3.c0; have f31 := H3.c1) | (at_builtin; refine wpList_append_fits_any _ rfl (.tmp 36) (.tmp 40) 71 rfl (w.heap.size + 2) 3 i0 1 Tryz.underlying71 hi hz1 w'.heap.size 0 2 _ rfl hown3 none 0 0 [] rfl rfl (fun _ => ⟨rfl, rfl⟩) (fun ad h => by cases h) (fun u h => by cases h) (by omega) ?_; intro w4 hown4 hgrow4; (try simp only [Nat.zero_add, List.nil_append] at hown4); have H4 := H3.grown hgrow4 (fun k e => by cases e; exact H2.sz) HRow.out; have f40 := H4.c0; have f41 := H4.c1; clear f30 f31) | (at_builtin; refine wpList_append_fits_any _ rfl (.tmp 46) (.tmp 48) 71 rfl (w.heap.size + 2) 3 i0 1 Tryz.underlying71 hi hz1 w'.heap.size 0 2 _ rfl (hown4.alloc _) _ 1 _ (enc [fr]) rfl rfl (by intro h; cases h) (one_at _ _ _) enc_one (by omega) ?_; intro w5 hown5 hgrow5; (try simp only [Nat.zero_add, List.nil_append] at hown5); have H5 := (H4.grown (World.grownBy_alloc _ _ none) (fun k e => by cases e) HRow.out).grown hgrow5 (fun k e => by cases e; exact H2.sz) HRow.out; have f50 := H5.c0; have f51 := H5.c1; clear f40 f41) | (at_builtin; refine wpList_append_fits_any _ rfl (.tmp 54) (.tmp 58) 71 rfl (w.heap.size + 2) 3 i0 1 Tryz.underlying71 hi hz1 w'.heap.size 1 2 _ rfl (hown5.alloc _) _ 1 _ (enc [(fr + n)]) rfl rfl (by intro h; cases h) (one_at _ _ _) enc_one (by omega) ?_; intro w6 hown6 hgrow6; (try simp only [Nat.zero_add, List.nil_append] at hown6); have H6 := (H5.grown (World.grownBy_alloc _ _ none) (fun k e => by cases e) HRow.out).grown hgrow6 (fun k e => by cases e; exact H2.sz) HRow.out; have f60 := H6.c0; have f61 := H6.c1; clear f50 f51) | (at_builtin; refine wpList_append_fits_any _ rfl (.tmp 60) (.tmp 64) 71 rfl (w.heap.size + 2) 3 i0 1 Tryz.underlying71 hi hz1 w'.heap.size 2 2 _ rfl hown6 none 0 0 [] rfl rfl (fun _ => ⟨rfl, rfl⟩) (fun ad h => by cases h) (fun u h => by cases h) (by omega) ?_; intro w7 hown7 hgrow7; (try simp only [Nat.add_zero, List.append_nil] at hown7); have H7 := H6.grown hgrow7 (fun k e => by cases e; exact H2.sz) HRow.out; have f70 := H7.c0; have f71 := H7.c1; have f72 := H7.r0; have f73 := H7.r1; have f74 := H7.fz; have f75 := H7.fz1; clear f60 f61) | (go_at_call 79; refine (inside_any 0 (by omega) _).mono ?_; rw [i1]; rintro e w8 ⟨rfl, rfl⟩))
  exact bodyPost_ret (v := .tuple #[.agg #[.int .i64 L, .slice (some ⟨w'.heap.size, 0, none⟩) 2 2], .int .i64 0]) (by simp [results, Tryz.results62, go_sem, (two_set f72 f73 (.int .i64 L) (.slice (some ⟨w'.heap.size, 0, none⟩) 2 2)).1, (two_set f72 f73 (.int .i64 L) (.slice (some ⟨w'.heap.size, 0, none⟩) 2 2)).2]) rfl
    (laid_close (m := 0) (k := 2) (by have e := HQ.out; rw [e]; exact hown7) (by rw [HQ.out]; rfl) (by omega) H7 H2.sz HW.out HE.out)

set_option maxHeartbeats 1000000 in
theorem laid_nil_f (L : Nat) (fr n : Nat) (w : World) (g : Good L []) (hn0 : 0 < n) (hnL : fr + n ≤ L) :
    Calls Tryz.prog 62 #[.agg #[.int .i64 L, .slice none 0 0], .int .i64 fr, .int .i64 n, .bool false] w (LaidPost L none [] fr n false w) := by
  have hL := g.small
  have hgl := good_len g
  have HW : Hid (withinB L fr n = true) := Lib.hid (by unfold withinB; simp; omega)
  have HE : Hid (laidS L [] fr n false = laidE [] fr n false) := Lib.hid (by unfold laidS; rw [HW.out, decide_eq_true (by omega)]; simp)
  have HRow : Hid (RowAt w none []) := Lib.hid (.inl ⟨rfl, rfl⟩)
  have hnz : ((n : Int) == 0) = false := beq_eq_false_iff_ne.2 (by omega)
  go_enter Tryz.func62, Tryz.ntmps62
  go_wp2_with fail
  refine (within_any L hL none 0 0 _ _ (by omega) _).mono ?_
  rw [HW.out]
  rintro e w1 ⟨rfl, hb⟩
  have H1 : Hold w L none 0 0 [] w1 := by
    refine Hold.next (x := (w.alloc (.cells #[.int .i64 L, .slice none 0 0] 73)).alloc (.cells #[.int .i64 0, .slice none 0 0] 73)) ?_ (hb.mono (by simp))
    refine ⟨by simp, by simp, by simp, by simp, by simp, by simp, by simp, ((Below.refl _ _).alloc (Nat.le_refl _) _).alloc (by simp) _, ?_⟩
    exact (HRow.out.below ((Below.refl _ _).alloc (Nat.le_refl _) _)).below ((Below.refl _ _).alloc (by simp) _)
  have hc0 := H1.c0
  have hc1 := H1.c1
  go_wp2_with fail
  have hw1 : IntKind.i64.wrap ((fr : Int) + n) = fr + n := IntWalk.i64_in _ (by omega)
  have hw2 : IntKind.i64.wrap ((fr : Int) + n + 1) = fr + n + 1 := IntWalk.i64_in _ (by omega)
  go_region_held3 (fun x => x.cell? ⟨w.heap.size, 0, none⟩ = some (.int .i64 (L : Int)) ∧ x.cell? ⟨w.heap.size, 1, none⟩ = some (.slice none 0 0) ∧ Hold w L none 0 0 [] x)
    (first | exact H1.drew.all | assumption)
    (first | (go_at_call 78; refine (edges_nil L _ _).mono ?_; rintro e w' ⟨rfl, hbb⟩; have hnx := Hold.all (Hold.next' (w := w) (L := L) (p := none) (n := 0) (cap := 0) (es := []) hbb (by assumption))))
  clear hw1 hw2
  obtain ⟨hd0, hd1, H2⟩ := hnx
  have i1 : insB 0 = false := rfl
  have HQ : Hid (laidE [] fr n false = []) := Lib.hid (by unfold laidE; rw [cnt_nil, cnt_nil, i1]; rfl)
  obtain ⟨i0, hi, hz0, hz1, hz2⟩ := info_parts Tryz.info3
  go_wp2_with (first | (at_make; refine wpList_make_own _ rfl _ _ 71 rfl (w.heap.size + 2) 3 i0 (.int .i64 0) 1 Tryz.underlying71 hi hz0 hz1 .i64 .i64 _ 2 rfl rfl rfl (by rw [hz2]; omega) (by unfold maxLen; omega) H2.sz ?_; intro w3 hown3 hgrow3; have H3 := H2.grown hgrow3 (fun k e => by cases e) HRow.out; have f30 := H3.c0; have f31 := H3.c1) | (at_builtin; refine wpList_append_fits_any _ rfl (.tmp 36) (.tmp 40) 71 rfl (w.heap.size + 2) 3 i0 1 Tryz.underlying71 hi hz1 w'.heap.size 0 2 _ rfl hown3 none 0 0 [] rfl rfl (fun _ => ⟨rfl, rfl⟩) (fun ad h => by cases h) (fun u h => by cases h) (by omega) ?_; intro w4 hown4 hgrow4; (try simp only [Nat.zero_add, List.nil_append] at hown4); have H4 := H3.grown hgrow4 (fun k e => by cases e; exact H2.sz) HRow.out; have f40 := H4.c0; have f41 := H4.c1; clear f30 f31) | (at_builtin; refine wpList_append_fits_any _ rfl (.tmp 60) (.tmp 64) 71 rfl (w.heap.size + 2) 3 i0 1 Tryz.underlying71 hi hz1 w'.heap.size 0 2 _ rfl hown4 none 0 0 [] rfl rfl (fun _ => ⟨rfl, rfl⟩) (fun ad h => by cases h) (fun u h => by cases h) (by omega) ?_; intro w5 hown5 hgrow5; (try simp only [Nat.add_zero, List.append_nil] at hown5); have H5 := H4.grown hgrow5 (fun k e => by cases e; exact H2.sz) HRow.out; have f50 := H5.c0; have f51 := H5.c1; have f52 := H5.r0; have f53 := H5.r1; have f54 := H5.fz; have f55 := H5.fz1; clear f40 f41) | (go_at_call 79; refine (inside_any 0 (by omega) _).mono ?_; rw [i1]; rintro e w8 ⟨rfl, rfl⟩))
  exact bodyPost_ret (v := .tuple #[.agg #[.int .i64 L, .slice (some ⟨w'.heap.size, 0, none⟩) 0 2], .int .i64 0]) (by simp [results, Tryz.results62, go_sem, (two_set f52 f53 (.int .i64 L) (.slice (some ⟨w'.heap.size, 0, none⟩) 0 2)).1, (two_set f52 f53 (.int .i64 L) (.slice (some ⟨w'.heap.size, 0, none⟩) 0 2)).2]) rfl
    (laid_close (m := 0) (k := 0) (by have e := HQ.out; rw [e]; exact hown5) (by rw [HQ.out]; rfl) (by omega) H5 H2.sz HW.out HE.out)

end Go.Proofs.YtmnhpmgffhpoeaaGreat.Bt
