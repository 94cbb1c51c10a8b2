/- BitsWalksE, BitsWalksF. -/
import Derived.Test.YtbeldoiaecjkgaaGreatDoorMoC
section
namespace Go.Proofs.YtbeldoiaecjkgaaGreatDoor.Bt
open Go Go.RowKit

theorem edges_nil (L : Nat) (x : Int) (w : World) :
    Calls Tryz.prog 241 #[.agg #[.int .i64 L, .slice none 0 0], .int .i64 x] w fun e w' => e = .returned (.int .i64 0) ∧ Below w.heap.size w w' :=
  edges_any L none 0 0 [] x w List.Pairwise.nil (by simp) (.inl ⟨rfl, rfl⟩) rfl

set_option maxHeartbeats 1000000 in
theorem laid_nil_t (L : Nat) (fr n : Nat) (w : World) (g : Good L []) (hn0 : 0 < n) (hnL : fr + n ≤ L) :
    Calls Tryz.prog 191 #[.agg #[.int .i64 L, .slice none 0 0], .int .i64 fr, .int .i64 n, .bool true] w (LaidPost L none [] fr n true w) := by
  have hL := g.small
  have hgl := good_len g
  have HW : Hid (withinB L fr n = true) := Lib.hid (by unfold withinB; simp; omega)
  have HE : Hid (laidS L [] fr n true = laidE [] fr n true) := Lib.hid (by unfold laidS; rw [HW.out, decide_eq_true (by omega)]; simp)
  have HRow : Hid (RowAt w none []) := Lib.hid (.inl ⟨rfl, rfl⟩)
  have hnz : ((n : Int) == 0) = false := beq_eq_false_iff_ne.2 (by omega)
  go_enter Tryz.func191, Tryz.ntmps191
  go_wp2_with fail
  refine (within_any L hL none 0 0 _ _ (by omega) _).mono ?_
  rw [HW.out]
  rintro e w1 ⟨rfl, hb⟩
  have H1 : Hold w L none 0 0 [] w1 := by
    refine Hold.next (x := (w.alloc (.cells #[.int .i64 L, .slice none 0 0] 85)).alloc (.cells #[.int .i64 0, .slice none 0 0] 85)) ?_ (hb.mono (by simp))
    refine ⟨by simp, by simp, by simp, by simp, by simp, by simp, by simp, ((Below.refl _ _).alloc (Nat.le_refl _) _).alloc (by simp) _, ?_⟩
    exact (HRow.out.below ((Below.refl _ _).alloc (Nat.le_refl _) _)).below ((Below.refl _ _).alloc (by simp) _)
  have hc0 := H1.c0
  have hc1 := H1.c1
  go_wp2_with fail
  have hw1 : IntKind.i64.wrap ((fr : Int) + n) = fr + n := IntWalk.i64_in _ (by omega)
  have hw2 : IntKind.i64.wrap ((fr : Int) + n + 1) = fr + n + 1 := IntWalk.i64_in _ (by omega)
  go_region_held3 (fun x => x.cell? ⟨w.heap.size, 0, none⟩ = some (.int .i64 (L : Int)) ∧ x.cell? ⟨w.heap.size, 1, none⟩ = some (.slice none 0 0) ∧ Hold w L none 0 0 [] x)
    (first | exact H1.drew.all | assumption)
    (first | (go_at_call 241; refine (edges_nil L _ _).mono ?_; rintro e w' ⟨rfl, hbb⟩; have hnx := Hold.all (Hold.next' (w := w) (L := L) (p := none) (n := 0) (cap := 0) (es := []) hbb (by assumption))))
  clear hw1 hw2
  obtain ⟨hd0, hd1, H2⟩ := hnx
  have i1 : insB 0 = false := rfl
  have HQ : Hid (laidE [] fr n true = [fr, fr + n]) := Lib.hid (by unfold laidE; rw [cnt_nil, cnt_nil, i1]; rfl)
  obtain ⟨i0, hi, hz0, hz1, hz2⟩ := info_parts Tryz.info3
  go_wp2_with (first | (at_make; refine wpList_make_own _ rfl _ _ 83 rfl (w.heap.size + 2) 3 i0 (.int .i64 0) 1 Tryz.underlying83 hi hz0 hz1 .i64 .i64 _ 2 rfl rfl rfl (by rw [hz2]; omega) (by unfold maxLen; omega) H2.sz ?_; intro w3 hown3 hgrow3; have H3 := H2.grown hgrow3 (fun k e => by cases e) HRow.out; have f30 := H3.c0; have f31 := H3.c1) | (at_builtin; refine wpList_append_fits_any _ rfl (.tmp 36) (.tmp 40) 83 rfl (w.heap.size + 2) 3 i0 1 Tryz.underlying83 hi hz1 w'.heap.size 0 2 _ rfl hown3 none 0 0 [] rfl rfl (fun _ => ⟨rfl, rfl⟩) (fun ad h => by cases h) (fun u h => by cases h) (by omega) ?_; intro w4 hown4 hgrow4; (try simp only [Nat.zero_add, List.nil_append] at hown4); have H4 := H3.grown hgrow4 (fun k e => by cases e; exact H2.sz) HRow.out; have f40 := H4.c0; have f41 := H4.c1; clear f30 f31) | (at_builtin; refine wpList_append_fits_any _ rfl (.tmp 46) (.tmp 48) 83 rfl (w.heap.size + 2) 3 i0 1 Tryz.underlying83 hi hz1 w'.heap.size 0 2 _ rfl (hown4.alloc _) _ 1 _ (enc [fr]) rfl rfl (by intro h; cases h) (one_at _ _ _) enc_one (by omega) ?_; intro w5 hown5 hgrow5; (try simp only [Nat.zero_add, List.nil_append] at hown5); have H5 := (H4.grown (World.grownBy_alloc _ _ none) (fun k e => by cases e) HRow.out).grown hgrow5 (fun k e => by cases e; exact H2.sz) HRow.out; have f50 := H5.c0; have f51 := H5.c1; clear f40 f41) | (at_builtin; refine wpList_append_fits_any _ rfl (.tmp 54) (.tmp 58) 83 rfl (w.heap.size + 2) 3 i0 1 Tryz.underlying83 hi hz1 w'.heap.size 1 2 _ rfl (hown5.alloc _) _ 1 _ (enc [(fr + n)]) rfl rfl (by intro h; cases h) (one_at _ _ _) enc_one (by omega) ?_; intro w6 hown6 hgrow6; (try simp only [Nat.zero_add, List.nil_append] at hown6); have H6 := (H5.grown (World.grownBy_alloc _ _ none) (fun k e => by cases e) HRow.out).grown hgrow6 (fun k e => by cases e; exact H2.sz) HRow.out; have f60 := H6.c0; have f61 := H6.c1; clear f50 f51) | (at_builtin; refine wpList_append_fits_any _ rfl (.tmp 60) (.tmp 64) 83 rfl (w.heap.size + 2) 3 i0 1 Tryz.underlying83 hi hz1 w'.heap.size 2 2 _ rfl hown6 none 0 0 [] rfl rfl (fun _ => ⟨rfl, rfl⟩) (fun ad h => by cases h) (fun u h => by cases h) (by omega) ?_; intro w7 hown7 hgrow7; (try simp only [Nat.add_zero, List.append_nil] at hown7); have H7 := H6.grown hgrow7 (fun k e => by cases e; exact H2.sz) HRow.out; have f70 := H7.c0; have f71 := H7.c1; have f72 := H7.r0; have f73 := H7.r1; have f74 := H7.fz; have f75 := H7.fz1; clear f60 f61) | (go_at_call 242; refine (inside_any 0 (by omega) _).mono ?_; rw [i1]; rintro e w8 ⟨rfl, rfl⟩))
  exact bodyPost_ret (v := .tuple #[.agg #[.int .i64 L, .slice (some ⟨w'.heap.size, 0, none⟩) 2 2], .int .i64 0]) (by simp [results, Tryz.results191, go_sem, (two_set f72 f73 (.int .i64 L) (.slice (some ⟨w'.heap.size, 0, none⟩) 2 2)).1, (two_set f72 f73 (.int .i64 L) (.slice (some ⟨w'.heap.size, 0, none⟩) 2 2)).2]) rfl
    (laid_close (m := 0) (k := 2) (by have e := HQ.out; rw [e]; exact hown7) (by rw [HQ.out]; rfl) (by omega) H7 H2.sz HW.out HE.out)

set_option maxHeartbeats 1000000 in
theorem laid_nil_f (L : Nat) (fr n : Nat) (w : World) (g : Good L []) (hn0 : 0 < n) (hnL : fr + n ≤ L) :
    Calls Tryz.prog 191 #[.agg #[.int .i64 L, .slice none 0 0], .int .i64 fr, .int .i64 n, .bool false] w (LaidPost L none [] fr n false w) := by
  have hL := g.small
  have hgl := good_len g
  have HW : Hid (withinB L fr n = true) := Lib.hid (by unfold withinB; simp; omega)
  have HE : Hid (laidS L [] fr n false = laidE [] fr n false) := Lib.hid (by unfold laidS; rw [HW.out, decide_eq_true (by omega)]; simp)
  have HRow : Hid (RowAt w none []) := Lib.hid (.inl ⟨rfl, rfl⟩)
  have hnz : ((n : Int) == 0) = false := beq_eq_false_iff_ne.2 (by omega)
  go_enter Tryz.func191, Tryz.ntmps191
  go_wp2_with fail
  refine (within_any L hL none 0 0 _ _ (by omega) _).mono ?_
  rw [HW.out]
  rintro e w1 ⟨rfl, hb⟩
  have H1 : Hold w L none 0 0 [] w1 := by
    refine Hold.next (x := (w.alloc (.cells #[.int .i64 L, .slice none 0 0] 85)).alloc (.cells #[.int .i64 0, .slice none 0 0] 85)) ?_ (hb.mono (by simp))
    refine ⟨by simp, by simp, by simp, by simp, by simp, by simp, by simp, ((Below.refl _ _).alloc (Nat.le_refl _) _).alloc (by simp) _, ?_⟩
    exact (HRow.out.below ((Below.refl _ _).alloc (Nat.le_refl _) _)).below ((Below.refl _ _).alloc (by simp) _)
  have hc0 := H1.c0
  have hc1 := H1.c1
  go_wp2_with fail
  have hw1 : IntKind.i64.wrap ((fr : Int) + n) = fr + n := IntWalk.i64_in _ (by omega)
  have hw2 : IntKind.i64.wrap ((fr : Int) + n + 1) = fr + n + 1 := IntWalk.i64_in _ (by omega)
  go_region_held3 (fun x => x.cell? ⟨w.heap.size, 0, none⟩ = some (.int .i64 (L : Int)) ∧ x.cell? ⟨w.heap.size, 1, none⟩ = some (.slice none 0 0) ∧ Hold w L none 0 0 [] x)
    (first | exact H1.drew.all | assumption)
    (first | (go_at_call 241; refine (edges_nil L _ _).mono ?_; rintro e w' ⟨rfl, hbb⟩; have hnx := Hold.all (Hold.next' (w := w) (L := L) (p := none) (n := 0) (cap := 0) (es := []) hbb (by assumption))))
  clear hw1 hw2
  obtain ⟨hd0, hd1, H2⟩ := hnx
  have i1 : insB 0 = false := rfl
  have HQ : Hid (laidE [] fr n false = []) := Lib.hid (by unfold laidE; rw [cnt_nil, cnt_nil, i1]; rfl)
  obtain ⟨i0, hi, hz0, hz1, hz2⟩ := info_parts Tryz.info3
  go_wp2_with (first | (at_make; refine wpList_make_own _ rfl _ _ 83 rfl (w.heap.size + 2) 3 i0 (.int .i64 0) 1 Tryz.underlying83 hi hz0 hz1 .i64 .i64 _ 2 rfl rfl rfl (by rw [hz2]; omega) (by unfold maxLen; omega) H2.sz ?_; intro w3 hown3 hgrow3; have H3 := H2.grown hgrow3 (fun k e => by cases e) HRow.out; have f30 := H3.c0; have f31 := H3.c1) | (at_builtin; refine wpList_append_fits_any _ rfl (.tmp 36) (.tmp 40) 83 rfl (w.heap.size + 2) 3 i0 1 Tryz.underlying83 hi hz1 w'.heap.size 0 2 _ rfl hown3 none 0 0 [] rfl rfl (fun _ => ⟨rfl, rfl⟩) (fun ad h => by cases h) (fun u h => by cases h) (by omega) ?_; intro w4 hown4 hgrow4; (try simp only [Nat.zero_add, List.nil_append] at hown4); have H4 := H3.grown hgrow4 (fun k e => by cases e; exact H2.sz) HRow.out; have f40 := H4.c0; have f41 := H4.c1; clear f30 f31) | (at_builtin; refine wpList_append_fits_any _ rfl (.tmp 60) (.tmp 64) 83 rfl (w.heap.size + 2) 3 i0 1 Tryz.underlying83 hi hz1 w'.heap.size 0 2 _ rfl hown4 none 0 0 [] rfl rfl (fun _ => ⟨rfl, rfl⟩) (fun ad h => by cases h) (fun u h => by cases h) (by omega) ?_; intro w5 hown5 hgrow5; (try simp only [Nat.add_zero, List.append_nil] at hown5); have H5 := H4.grown hgrow5 (fun k e => by cases e; exact H2.sz) HRow.out; have f50 := H5.c0; have f51 := H5.c1; have f52 := H5.r0; have f53 := H5.r1; have f54 := H5.fz; have f55 := H5.fz1; clear f40 f41) | (go_at_call 242; refine (inside_any 0 (by omega) _).mono ?_; rw [i1]; rintro e w8 ⟨rfl, rfl⟩))
  exact bodyPost_ret (v := .tuple #[.agg #[.int .i64 L, .slice (some ⟨w'.heap.size, 0, none⟩) 0 2], .int .i64 0]) (by simp [results, Tryz.results191, go_sem, (two_set f52 f53 (.int .i64 L) (.slice (some ⟨w'.heap.size, 0, none⟩) 0 2)).1, (two_set f52 f53 (.int .i64 L) (.slice (some ⟨w'.heap.size, 0, none⟩) 0 2)).2]) rfl
    (laid_close (m := 0) (k := 0) (by have e := HQ.out; rw [e]; exact hown5) (by rw [HQ.out]; rfl) (by omega) H5 H2.sz HW.out HE.out)

end Go.Proofs.YtbeldoiaecjkgaaGreatDoor.Bt
end
section
namespace Go.Proofs.YtbeldoiaecjkgaaGreatDoor.Bt
open Go Go.RowKit

theorem laid_same {L : Nat} {es : List Nat} {fr n : Int} {inn : Bool} (h : withinB L fr n = false ∨ n = 0) : laidS L es fr n inn = es := by
  unfold laidS; rcases h with h | h
  · rw [h]; rfl
  · subst h; simp
theorem laid_any (L : Nat) (p : Option Addr) (m cap : Nat) (es : List Nat) (fr n : Int) (inn : Bool) (w : World) (g : Good L es) (hrow : RowAt w p es) (hm : m = es.length) (hcap : m ≤ cap) (hcn : p = none → cap = 0)
    (hf : fr ≤ 9223372036854775807) :
    Calls Tryz.prog 191 #[.agg #[.int .i64 L, .slice p m cap], .int .i64 fr, .int .i64 n, .bool inn] w (LaidPost L p es fr n inn w) := by
  have hL := g.small
  have hgl := good_len g
  cases hw : withinB L fr n with
  | false =>
    have HS : Hid (laidS L es fr n inn = es) := Lib.hid (laid_same (.inl hw))
    have HE : Hid (laidErr L fr n = 3) := Lib.hid (by unfold laidErr; rw [hw]; rfl)
    have HW := Lib.hid hw; clear hw
    have HM := Lib.hid hm; clear hm
    have HP := Lib.hid hcn; clear hcn
    go_enter Tryz.func191, Tryz.ntmps191
    go_wp2_with fail
    refine (within_any L hL p m cap _ _ hf _).mono ?_
    rw [HW.out]
    rintro e w1 ⟨rfl, hb⟩
    have H1 : Hold w L p m cap es w1 := by
      refine Hold.next (x := (w.alloc (.cells #[.int .i64 L, .slice p m cap] 85)).alloc (.cells #[.int .i64 0, .slice none 0 0] 85)) ?_ (hb.mono (by simp))
      refine ⟨by simp, by simp, by simp, by simp, by simp, by simp, by simp, ((Below.refl _ _).alloc (Nat.le_refl _) _).alloc (by simp) _, ?_⟩
      exact (hrow.below ((Below.refl _ _).alloc (Nat.le_refl _) _)).below ((Below.refl _ _).alloc (by simp) _)
    have hc0 := H1.c0; have hc1 := H1.c1; have f2 := H1.r0; have f3 := H1.r1; have f4 := H1.fz; have f5 := H1.fz1
    go_wp2_with fail
    exact bodyPost_ret (v := .tuple #[.agg #[.int .i64 L, .slice p m cap], .int .i64 3]) (by simp [results, Tryz.results191, go_sem, (two_set f2 f3 (.int .i64 L) (.slice p m cap)).1, (two_set f2 f3 (.int .i64 L) (.slice p m cap)).2]) rfl
      ⟨p, m, cap, by rw [HE.out], by rw [HS.out]; exact HM.out, hcap, HP.out, by
        rw [HS.out]
        exact hrow.below ((H1.bl.setCell (p := ⟨w.heap.size + 1, 0, none⟩) (by show _ ≤ w.heap.size + 1; omega) _).setCell (p := ⟨w.heap.size + 1, 1, none⟩) (by show _ ≤ w.heap.size + 1; omega) _), .inl rfl,
        (H1.bl.setCell (p := ⟨w.heap.size + 1, 0, none⟩) (by show _ ≤ w.heap.size + 1; omega) _).setCell (p := ⟨w.heap.size + 1, 1, none⟩) (by show _ ≤ w.heap.size + 1; omega) _⟩
  | true =>
    have hwi : 0 ≤ fr ∧ 0 ≤ n ∧ n ≤ L - fr := by simpa [withinB] using hw
    by_cases hn : n = 0
    · subst hn
      have HS : Hid (laidS L es fr 0 inn = es) := Lib.hid (laid_same (.inr rfl))
      have HE : Hid (laidErr L fr 0 = 0) := Lib.hid (by unfold laidErr; rw [hw]; rfl)
      have HW := Lib.hid hw; clear hw
      have HM := Lib.hid hm; clear hm
      have HP := Lib.hid hcn; clear hcn
      go_enter Tryz.func191, Tryz.ntmps191
      go_wp2_with fail
      refine (within_any L hL p m cap _ _ hf _).mono ?_
      rw [HW.out]
      rintro e w1 ⟨rfl, hb⟩
      have H1 : Hold w L p m cap es w1 := by
        refine Hold.next (x := (w.alloc (.cells #[.int .i64 L, .slice p m cap] 85)).alloc (.cells #[.int .i64 0, .slice none 0 0] 85)) ?_ (hb.mono (by simp))
        refine ⟨by simp, by simp, by simp, by simp, by simp, by simp, by simp, ((Below.refl _ _).alloc (Nat.le_refl _) _).alloc (by simp) _, ?_⟩
        exact (hrow.below ((Below.refl _ _).alloc (Nat.le_refl _) _)).below ((Below.refl _ _).alloc (by simp) _)
      have hc0 := H1.c0; have hc1 := H1.c1; have f2 := H1.r0; have f3 := H1.r1; have f4 := H1.fz; have f5 := H1.fz1
      go_wp2_with fail
      exact bodyPost_ret (v := .tuple #[.agg #[.int .i64 L, .slice p m cap], .int .i64 0]) (by simp [results, Tryz.results191, go_sem, (two_set f2 f3 (.int .i64 L) (.slice p m cap)).1, (two_set f2 f3 (.int .i64 L) (.slice p m cap)).2]) rfl
        ⟨p, m, cap, by rw [HE.out], by rw [HS.out]; exact HM.out, hcap, HP.out, by
          rw [HS.out]
          exact hrow.below ((H1.bl.setCell (p := ⟨w.heap.size + 1, 0, none⟩) (by show _ ≤ w.heap.size + 1; omega) _).setCell (p := ⟨w.heap.size + 1, 1, none⟩) (by show _ ≤ w.heap.size + 1; omega) _), .inl rfl,
          (H1.bl.setCell (p := ⟨w.heap.size + 1, 0, none⟩) (by show _ ≤ w.heap.size + 1; omega) _).setCell (p := ⟨w.heap.size + 1, 1, none⟩) (by show _ ≤ w.heap.size + 1; omega) _⟩
    · obtain ⟨f, rfl⟩ := Int.eq_ofNat_of_zero_le hwi.1
      obtain ⟨k, rfl⟩ := Int.eq_ofNat_of_zero_le hwi.2.1
      have hk0 : 0 < k := by omega
      have hfk : f + k ≤ L := by omega
      rcases hrow with ⟨rfl, rfl⟩ | ⟨b, off, rfl, hlt, hc⟩
      · obtain rfl : cap = 0 := hcn rfl
        obtain rfl : m = 0 := hm
        cases inn
        · exact laid_nil_f L f k w g hk0 hfk
        · exact laid_nil_t L f k w g hk0 hfk
      · have hr : RowAt w (some ⟨b, off, none⟩) es := .inr ⟨b, off, rfl, hlt, hc⟩
        by_cases h1 : insB (cnt es f) = inn
        · by_cases h2 : insB (cnt es (f + k + 1)) = inn
          · exact laid_ff L b off m cap es f k inn w g hr hm hcap hk0 hfk h1 h2
          · exact laid_ft L b off m cap es f k inn w g hr hm hcap hk0 hfk h1 (by revert h2; cases insB (cnt es (f + k + 1)) <;> cases inn <;> simp)
        · by_cases h2 : insB (cnt es (f + k + 1)) = inn
          · exact laid_tf L b off m cap es f k inn w g hr hm hcap hk0 hfk (by revert h1; cases insB (cnt es f) <;> cases inn <;> simp) h2
          · exact laid_tt L b off m cap es f k inn w g hr hm hcap hk0 hfk (by revert h1; cases insB (cnt es f) <;> cases inn <;> simp) (by revert h2; cases insB (cnt es (f + k + 1)) <;> cases inn <;> simp)

theorem laidS_good {L : Nat} {es : List Nat} (g : Good L es) (fr n : Int) (inn : Bool) : Good L (laidS L es fr n inn) := by
  unfold laidS
  by_cases h : (withinB L fr n && decide (n ≠ 0)) = true
  · rw [if_pos h]
    have h' : (0 ≤ fr ∧ 0 ≤ n ∧ n ≤ L - fr) ∧ n ≠ 0 := by simpa [withinB] using h
    exact laid_good g (by omega) (by omega) inn
  · rw [if_neg h]; exact g

theorem row_set {w w0 w1 : World} {p p' : Option Addr} {es es' : List Nat} {v0 v1 : Value} (hrow : RowAt w p es) (hr' : RowAt w1 p' es') (ha : p' = p ∨ ∃ a, p' = some a ∧ w0.heap.size ≤ a.block) (hs : w0.heap.size = w.heap.size + 2) :
    RowAt ((w1.setCell ⟨w.heap.size + 1, 0, none⟩ v0).setCell ⟨w.heap.size + 1, 1, none⟩ v1) p' es' := by
  rcases hr' with h | ⟨b, off, rfl, hlt, hc⟩
  · exact .inl h
  · have hne : b ≠ w.heap.size + 1 := by
      rcases ha with h | ⟨a, h, h2⟩
      · subst h
        rcases hrow with ⟨h, _⟩ | ⟨b', off', h, hlt', _⟩
        · cases h
        · cases h; omega
      · cases h; have h3 : w0.heap.size ≤ b := h2; omega
    have he : ((w1.setCell ⟨w.heap.size + 1, 0, none⟩ v0).setCell ⟨w.heap.size + 1, 1, none⟩ v1).heap[b]? = w1.heap[b]? := by
      rw [Below.heap_setCell _ ⟨w.heap.size + 1, 1, none⟩ _ _ (by exact hne), Below.heap_setCell _ ⟨w.heap.size + 1, 0, none⟩ _ _ (by exact hne)]
    have hl2 : b < ((w1.setCell ⟨w.heap.size + 1, 0, none⟩ v0).setCell ⟨w.heap.size + 1, 1, none⟩ v1).heap.size := by
      have e := he; rw [Array.getElem?_eq_getElem hlt] at e; exact (Array.getElem?_eq_some_iff.1 e).1
    refine .inr ⟨b, off, rfl, hl2, fun k hk => ?_⟩
    rw [World.cell?_of_block (w := w1) (a := ⟨b, off + k, none⟩) he]; exact hc k hk

theorem with_any (L : Nat) (p : Option Addr) (m cap : Nat) (es : List Nat) (fr n : Int) (w : World) (g : Good L es) (hrow : RowAt w p es) (hm : m = es.length) (hcap : m ≤ cap) (hcn : p = none → cap = 0)
    (hf : fr ≤ 9223372036854775807) :
    Calls Tryz.prog 128 #[.agg #[.int .i64 L, .slice p m cap], .int .i64 fr, .int .i64 n] w (LaidPost L p es fr n true w) := by
  have HM := Lib.hid hm; have HP := Lib.hid hcn; clear hm hcn
  go_enter Tryz.func128, Tryz.ntmps128
  go_wp2_with fail
  refine (laid_any L p m cap es _ _ _ _ g ((hrow.below ((Below.refl _ _).alloc (Nat.le_refl _) _)).below ((Below.refl _ _).alloc (by simp) _)) HM.out hcap HP.out hf).mono ?_
  rintro e w1 ⟨p', n', cap', rfl, hn', hc', hp', hr', ha', hb⟩
  have HN := Lib.hid hn'; have HP2 := Lib.hid hp'; clear hn' hp'
  have hb2 : Below w.heap.size w w1 := (((Below.refl _ _).alloc (Nat.le_refl _) _).alloc (by simp) _).trans (hb.mono (by simp; omega))
  have f2 : w1.cell? ⟨w.heap.size + 1, 0, none⟩ = some (.int .i64 0) := by rw [hb.cell (p := ⟨w.heap.size + 1, 0, none⟩) (by simp)]; simp
  have f3 : w1.cell? ⟨w.heap.size + 1, 1, none⟩ = some (.slice none 0 0) := by rw [hb.cell (p := ⟨w.heap.size + 1, 1, none⟩) (by simp)]; simp
  have f4 : w1.frozen? ⟨w.heap.size + 1, 0, none⟩ = false := by rw [hb.frozen (p := ⟨w.heap.size + 1, 0, none⟩) (by simp)]; simp
  have f5 : w1.frozen? ⟨w.heap.size + 1, 1, none⟩ = false := by rw [hb.frozen (p := ⟨w.heap.size + 1, 1, none⟩) (by simp)]; simp
  go_wp2_with fail
  have hbf : Below w.heap.size w ((w1.setCell ⟨w.heap.size + 1, 0, none⟩ (.int .i64 L)).setCell ⟨w.heap.size + 1, 1, none⟩ (.slice p' n' cap')) := (hb2.setCell (p := ⟨w.heap.size + 1, 0, none⟩) (by show _ ≤ w.heap.size + 1; omega) _).setCell (p := ⟨w.heap.size + 1, 1, none⟩) (by show _ ≤ w.heap.size + 1; omega) _
  exact bodyPost_ret (v := .tuple #[.agg #[.int .i64 L, .slice p' n' cap'], .int .i64 (laidErr L fr n)]) (by simp [results, Tryz.results128, go_sem, (two_set f2 f3 (.int .i64 L) (.slice p' n' cap')).1, (two_set f2 f3 (.int .i64 L) (.slice p' n' cap')).2]) rfl
    ⟨p', n', cap', rfl, HN.out, hc', HP2.out, row_set hrow hr' ha' (by simp), by rcases ha' with h | ⟨a, h, h2⟩; exact .inl h; exact .inr ⟨a, h, by simp at h2; omega⟩, hbf⟩

theorem without_any (L : Nat) (p : Option Addr) (m cap : Nat) (es : List Nat) (fr n : Int) (w : World) (g : Good L es) (hrow : RowAt w p es) (hm : m = es.length) (hcap : m ≤ cap) (hcn : p = none → cap = 0)
    (hf : fr ≤ 9223372036854775807) :
    Calls Tryz.prog 155 #[.agg #[.int .i64 L, .slice p m cap], .int .i64 fr, .int .i64 n] w (LaidPost L p es fr n false w) := by
  have HM := Lib.hid hm; have HP := Lib.hid hcn; clear hm hcn
  go_enter Tryz.func155, Tryz.ntmps155
  go_wp2_with fail
  refine (laid_any L p m cap es _ _ _ _ g ((hrow.below ((Below.refl _ _).alloc (Nat.le_refl _) _)).below ((Below.refl _ _).alloc (by simp) _)) HM.out hcap HP.out hf).mono ?_
  rintro e w1 ⟨p', n', cap', rfl, hn', hc', hp', hr', ha', hb⟩
  have HN := Lib.hid hn'; have HP2 := Lib.hid hp'; clear hn' hp'
  have hb2 : Below w.heap.size w w1 := (((Below.refl _ _).alloc (Nat.le_refl _) _).alloc (by simp) _).trans (hb.mono (by simp; omega))
  have f2 : w1.cell? ⟨w.heap.size + 1, 0, none⟩ = some (.int .i64 0) := by rw [hb.cell (p := ⟨w.heap.size + 1, 0, none⟩) (by simp)]; simp
  have f3 : w1.cell? ⟨w.heap.size + 1, 1, none⟩ = some (.slice none 0 0) := by rw [hb.cell (p := ⟨w.heap.size + 1, 1, none⟩) (by simp)]; simp
  have f4 : w1.frozen? ⟨w.heap.size + 1, 0, none⟩ = false := by rw [hb.frozen (p := ⟨w.heap.size + 1, 0, none⟩) (by simp)]; simp
  have f5 : w1.frozen? ⟨w.heap.size + 1, 1, none⟩ = false := by rw [hb.frozen (p := ⟨w.heap.size + 1, 1, none⟩) (by simp)]; simp
  go_wp2_with fail
  have hbf : Below w.heap.size w ((w1.setCell ⟨w.heap.size + 1, 0, none⟩ (.int .i64 L)).setCell ⟨w.heap.size + 1, 1, none⟩ (.slice p' n' cap')) := (hb2.setCell (p := ⟨w.heap.size + 1, 0, none⟩) (by show _ ≤ w.heap.size + 1; omega) _).setCell (p := ⟨w.heap.size + 1, 1, none⟩) (by show _ ≤ w.heap.size + 1; omega) _
  exact bodyPost_ret (v := .tuple #[.agg #[.int .i64 L, .slice p' n' cap'], .int .i64 (laidErr L fr n)]) (by simp [results, Tryz.results155, go_sem, (two_set f2 f3 (.int .i64 L) (.slice p' n' cap')).1, (two_set f2 f3 (.int .i64 L) (.slice p' n' cap')).2]) rfl
    ⟨p', n', cap', rfl, HN.out, hc', HP2.out, row_set hrow hr' ha' (by simp), by rcases ha' with h | ⟨a, h, h2⟩; exact .inl h; exact .inr ⟨a, h, by simp at h2; omega⟩, hbf⟩

end Go.Proofs.YtbeldoiaecjkgaaGreatDoor.Bt
end
