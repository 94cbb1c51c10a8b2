/- The contracts of laid, With and Without for every row, whatever it is; and those of New, Has, First, Len over a set in memory. -/
import Derived.Test.YtmnhpmgffhpoeaaGreatBitsWalksE
namespace Go.Proofs.YtmnhpmgffhpoeaaGreat.Bt
open Go Go.RowKit

theorem laid_same {L : Nat} {es : List Nat} {fr n : Int} {inn : Bool} (h : withinB L fr n = false ∨ n = 0) : laidS L es fr n inn = es := by
  unfold laidS; rcases h with h | h
  · rw [h]; rfl
  · subst h; simp
theorem laid_any (L : Nat) (p : Option Addr) (m cap : Nat) (es : List Nat) (fr n : Int) (inn : Bool) (w : World) (g : Good L es) (hrow : RowAt w p es) (hm : m = es.length) (hcap : m ≤ cap) (hcn : p = none → cap = 0)
    (hf : fr ≤ 9223372036854775807) :
    Calls Tryz.prog 62 #[.agg #[.int .i64 L, .slice p m cap], .int .i64 fr, .int .i64 n, .bool inn] w (LaidPost L p es fr n inn w) := by
  have hL := g.small
  have hgl := good_len g
  cases hw : withinB L fr n with
  | false =>
    have HS : Hid (laidS L es fr n inn = es) := Lib.hid (laid_same (.inl hw))
    have HE : Hid (laidErr L fr n = 3) := Lib.hid (by unfold laidErr; rw [hw]; rfl)
    have HW := Lib.hid hw; clear hw
    have HM := Lib.hid hm; clear hm
    have HP := Lib.hid hcn; clear hcn
    go_enter Tryz.func62, Tryz.ntmps62
    go_wp2_with fail
    refine (within_any L hL p m cap _ _ hf _).mono ?_
    rw [HW.out]
    rintro e w1 ⟨rfl, hb⟩
    have H1 : Hold w L p m cap es w1 := by
      refine Hold.next (x := (w.alloc (.cells #[.int .i64 L, .slice p m cap] 73)).alloc (.cells #[.int .i64 0, .slice none 0 0] 73)) ?_ (hb.mono (by simp))
      refine ⟨by simp, by simp, by simp, by simp, by simp, by simp, by simp, ((Below.refl _ _).alloc (Nat.le_refl _) _).alloc (by simp) _, ?_⟩
      exact (hrow.below ((Below.refl _ _).alloc (Nat.le_refl _) _)).below ((Below.refl _ _).alloc (by simp) _)
    have hc0 := H1.c0; have hc1 := H1.c1; have f2 := H1.r0; have f3 := H1.r1; have f4 := H1.fz; have f5 := H1.fz1
    go_wp2_with fail
    exact bodyPost_ret (v := .tuple #[.agg #[.int .i64 L, .slice p m cap], .int .i64 3]) (by simp [results, Tryz.results62, go_sem, (two_set f2 f3 (.int .i64 L) (.slice p m cap)).1, (two_set f2 f3 (.int .i64 L) (.slice p m cap)).2]) rfl
      ⟨p, m, cap, by rw [HE.out], by rw [HS.out]; exact HM.out, hcap, HP.out, by
        rw [HS.out]
        exact hrow.below ((H1.bl.setCell (p := ⟨w.heap.size + 1, 0, none⟩) (by show _ ≤ w.heap.size + 1; omega) _).setCell (p := ⟨w.heap.size + 1, 1, none⟩) (by show _ ≤ w.heap.size + 1; omega) _), .inl rfl,
        (H1.bl.setCell (p := ⟨w.heap.size + 1, 0, none⟩) (by show _ ≤ w.heap.size + 1; omega) _).setCell (p := ⟨w.heap.size + 1, 1, none⟩) (by show _ ≤ w.heap.size + 1; omega) _⟩
  | true =>
    have hwi : 0 ≤ fr ∧ 0 ≤ n ∧ n ≤ L - fr := by simpa [withinB] using hw
    by_cases hn : n = 0
    · subst hn
      have HS : Hid (laidS L es fr 0 inn = es) := Lib.hid (laid_same (.inr rfl))
      have HE : Hid (laidErr L fr 0 = 0) := Lib.hid (by unfold laidErr; rw [hw]; rfl)
      have HW := Lib.hid hw; clear hw
      have HM := Lib.hid hm; clear hm
      have HP := Lib.hid hcn; clear hcn
      go_enter Tryz.func62, Tryz.ntmps62
      go_wp2_with fail
      refine (within_any L hL p m cap _ _ hf _).mono ?_
      rw [HW.out]
      rintro e w1 ⟨rfl, hb⟩
      have H1 : Hold w L p m cap es w1 := by
        refine Hold.next (x := (w.alloc (.cells #[.int .i64 L, .slice p m cap] 73)).alloc (.cells #[.int .i64 0, .slice none 0 0] 73)) ?_ (hb.mono (by simp))
        refine ⟨by simp, by simp, by simp, by simp, by simp, by simp, by simp, ((Below.refl _ _).alloc (Nat.le_refl _) _).alloc (by simp) _, ?_⟩
        exact (hrow.below ((Below.refl _ _).alloc (Nat.le_refl _) _)).below ((Below.refl _ _).alloc (by simp) _)
      have hc0 := H1.c0; have hc1 := H1.c1; have f2 := H1.r0; have f3 := H1.r1; have f4 := H1.fz; have f5 := H1.fz1
      go_wp2_with fail
      exact bodyPost_ret (v := .tuple #[.agg #[.int .i64 L, .slice p m cap], .int .i64 0]) (by simp [results, Tryz.results62, go_sem, (two_set f2 f3 (.int .i64 L) (.slice p m cap)).1, (two_set f2 f3 (.int .i64 L) (.slice p m cap)).2]) rfl
        ⟨p, m, cap, by rw [HE.out], by rw [HS.out]; exact HM.out, hcap, HP.out, by
          rw [HS.out]
          exact hrow.below ((H1.bl.setCell (p := ⟨w.heap.size + 1, 0, none⟩) (by show _ ≤ w.heap.size + 1; omega) _).setCell (p := ⟨w.heap.size + 1, 1, none⟩) (by show _ ≤ w.heap.size + 1; omega) _), .inl rfl,
          (H1.bl.setCell (p := ⟨w.heap.size + 1, 0, none⟩) (by show _ ≤ w.heap.size + 1; omega) _).setCell (p := ⟨w.heap.size + 1, 1, none⟩) (by show _ ≤ w.heap.size + 1; omega) _⟩
    · obtain ⟨f, rfl⟩ := Int.eq_ofNat_of_zero_le hwi.1
      obtain ⟨k, rfl⟩ := Int.eq_ofNat_of_zero_le hwi.2.1
      have hk0 : 0 < k := by omega
      have hfk : f + k ≤ L := by omega
      rcases hrow with ⟨rfl, rfl⟩ | ⟨b, off, rfl, hlt, hc⟩
      · obtain rfl : cap = 0 := hcn rfl
        obtain rfl : m = 0 := hm
        cases inn
        · exact laid_nil_f L f k w g hk0 hfk
        · exact laid_nil_t L f k w g hk0 hfk
      · have hr : RowAt w (some ⟨b, off, none⟩) es := .inr ⟨b, off, rfl, hlt, hc⟩
        by_cases h1 : insB (cnt es f) = inn
        · by_cases h2 : insB (cnt es (f + k + 1)) = inn
          · exact laid_ff L b off m cap es f k inn w g hr hm hcap hk0 hfk h1 h2
          · exact laid_ft L b off m cap es f k inn w g hr hm hcap hk0 hfk h1 (by revert h2; cases insB (cnt es (f + k + 1)) <;> cases inn <;> simp)
        · by_cases h2 : insB (cnt es (f + k + 1)) = inn
          · exact laid_tf L b off m cap es f k inn w g hr hm hcap hk0 hfk (by revert h1; cases insB (cnt es f) <;> cases inn <;> simp) h2
          · exact laid_tt L b off m cap es f k inn w g hr hm hcap hk0 hfk (by revert h1; cases insB (cnt es f) <;> cases inn <;> simp) (by revert h2; cases insB (cnt es (f + k + 1)) <;> cases inn <;> simp)

theorem laidS_good {L : Nat} {es : List Nat} (g : Good L es) (fr n : Int) (inn : Bool) : Good L (laidS L es fr n inn) := by
  unfold laidS
  by_cases h : (withinB L fr n && decide (n ≠ 0)) = true
  · rw [if_pos h]
    have h' : (0 ≤ fr ∧ 0 ≤ n ∧ n ≤ L - fr) ∧ n ≠ 0 := by simpa [withinB] using h
    exact laid_good g (by omega) (by omega) inn
  · rw [if_neg h]; exact g

theorem row_set {w w0 w1 : World} {p p' : Option Addr} {es es' : List Nat} {v0 v1 : Value} (hrow : RowAt w p es) (hr' : RowAt w1 p' es') (ha : p' = p ∨ ∃ a, p' = some a ∧ w0.heap.size ≤ a.block) (hs : w0.heap.size = w.heap.size + 2) :
    RowAt ((w1.setCell ⟨w.heap.size + 1, 0, none⟩ v0).setCell ⟨w.heap.size + 1, 1, none⟩ v1) p' es' := by
  rcases hr' with h | ⟨b, off, rfl, hlt, hc⟩
  · exact .inl h
  · have hne : b ≠ w.heap.size + 1 := by
      rcases ha with h | ⟨a, h, h2⟩
      · subst h
        rcases hrow with ⟨h, _⟩ | ⟨b', off', h, hlt', _⟩
        · cases h
        · cases h; omega
      · cases h; have h3 : w0.heap.size ≤ b := h2; omega
    have he : ((w1.setCell ⟨w.heap.size + 1, 0, none⟩ v0).setCell ⟨w.heap.size + 1, 1, none⟩ v1).heap[b]? = w1.heap[b]? := by
      rw [Below.heap_setCell _ ⟨w.heap.size + 1, 1, none⟩ _ _ (by exact hne), Below.heap_setCell _ ⟨w.heap.size + 1, 0, none⟩ _ _ (by exact hne)]
    have hl2 : b < ((w1.setCell ⟨w.heap.size + 1, 0, none⟩ v0).setCell ⟨w.heap.size + 1, 1, none⟩ v1).heap.size := by
      have e := he; rw [Array.getElem?_eq_getElem hlt] at e; exact (Array.getElem?_eq_some_iff.1 e).1
    refine .inr ⟨b, off, rfl, hl2, fun k hk => ?_⟩
    rw [World.cell?_of_block (w := w1) (a := ⟨b, off + k, none⟩) he]; exact hc k hk

theorem with_any (L : Nat) (p : Option Addr) (m cap : Nat) (es : List Nat) (fr n : Int) (w : World) (g : Good L es) (hrow : RowAt w p es) (hm : m = es.length) (hcap : m ≤ cap) (hcn : p = none → cap = 0)
    (hf : fr ≤ 9223372036854775807) :
    Calls Tryz.prog 39 #[.agg #[.int .i64 L, .slice p m cap], .int .i64 fr, .int .i64 n] w (LaidPost L p es fr n true w) := by
  have HM := Lib.hid hm; have HP := Lib.hid hcn; clear hm hcn
  go_enter Tryz.func39, Tryz.ntmps39
  go_wp2_with fail
  refine (laid_any L p m cap es _ _ _ _ g ((hrow.below ((Below.refl _ _).alloc (Nat.le_refl _) _)).below ((Below.refl _ _).alloc (by simp) _)) HM.out hcap HP.out hf).mono ?_
  rintro e w1 ⟨p', n', cap', rfl, hn', hc', hp', hr', ha', hb⟩
  have HN := Lib.hid hn'; have HP2 := Lib.hid hp'; clear hn' hp'
  have hb2 : Below w.heap.size w w1 := (((Below.refl _ _).alloc (Nat.le_refl _) _).alloc (by simp) _).trans (hb.mono (by simp; omega))
  have f2 : w1.cell? ⟨w.heap.size + 1, 0, none⟩ = some (.int .i64 0) := by rw [hb.cell (p := ⟨w.heap.size + 1, 0, none⟩) (by simp)]; simp
  have f3 : w1.cell? ⟨w.heap.size + 1, 1, none⟩ = some (.slice none 0 0) := by rw [hb.cell (p := ⟨w.heap.size + 1, 1, none⟩) (by simp)]; simp
  have f4 : w1.frozen? ⟨w.heap.size + 1, 0, none⟩ = false := by rw [hb.frozen (p := ⟨w.heap.size + 1, 0, none⟩) (by simp)]; simp
  have f5 : w1.frozen? ⟨w.heap.size + 1, 1, none⟩ = false := by rw [hb.frozen (p := ⟨w.heap.size + 1, 1, none⟩) (by simp)]; simp
  go_wp2_with fail
  have hbf : Below w.heap.size w ((w1.setCell ⟨w.heap.size + 1, 0, none⟩ (.int .i64 L)).setCell ⟨w.heap.size + 1, 1, none⟩ (.slice p' n' cap')) := (hb2.setCell (p := ⟨w.heap.size + 1, 0, none⟩) (by show _ ≤ w.heap.size + 1; omega) _).setCell (p := ⟨w.heap.size + 1, 1, none⟩) (by show _ ≤ w.heap.size + 1; omega) _
  exact bodyPost_ret (v := .tuple #[.agg #[.int .i64 L, .slice p' n' cap'], .int .i64 (laidErr L fr n)]) (by simp [results, Tryz.results39, go_sem, (two_set f2 f3 (.int .i64 L) (.slice p' n' cap')).1, (two_set f2 f3 (.int .i64 L) (.slice p' n' cap')).2]) rfl
    ⟨p', n', cap', rfl, HN.out, hc', HP2.out, row_set hrow hr' ha' (by simp), by rcases ha' with h | ⟨a, h, h2⟩; exact .inl h; exact .inr ⟨a, h, by simp at h2; omega⟩, hbf⟩

theorem without_any (L : Nat) (p : Option Addr) (m cap : Nat) (es : List Nat) (fr n : Int) (w : World) (g : Good L es) (hrow : RowAt w p es) (hm : m = es.length) (hcap : m ≤ cap) (hcn : p = none → cap = 0)
    (hf : fr ≤ 9223372036854775807) :
    Calls Tryz.prog 105 #[.agg #[.int .i64 L, .slice p m cap], .int .i64 fr, .int .i64 n] w (LaidPost L p es fr n false w) := by
  have HM := Lib.hid hm; have HP := Lib.hid hcn; clear hm hcn
  go_enter Tryz.func105, Tryz.ntmps105
  go_wp2_with fail
  refine (laid_any L p m cap es _ _ _ _ g ((hrow.below ((Below.refl _ _).alloc (Nat.le_refl _) _)).below ((Below.refl _ _).alloc (by simp) _)) HM.out hcap HP.out hf).mono ?_
  rintro e w1 ⟨p', n', cap', rfl, hn', hc', hp', hr', ha', hb⟩
  have HN := Lib.hid hn'; have HP2 := Lib.hid hp'; clear hn' hp'
  have hb2 : Below w.heap.size w w1 := (((Below.refl _ _).alloc (Nat.le_refl _) _).alloc (by simp) _).trans (hb.mono (by simp; omega))
  have f2 : w1.cell? ⟨w.heap.size + 1, 0, none⟩ = some (.int .i64 0) := by rw [hb.cell (p := ⟨w.heap.size + 1, 0, none⟩) (by simp)]; simp
  have f3 : w1.cell? ⟨w.heap.size + 1, 1, none⟩ = some (.slice none 0 0) := by rw [hb.cell (p := ⟨w.heap.size + 1, 1, none⟩) (by simp)]; simp
  have f4 : w1.frozen? ⟨w.heap.size + 1, 0, none⟩ = false := by rw [hb.frozen (p := ⟨w.heap.size + 1, 0, none⟩) (by simp)]; simp
  have f5 : w1.frozen? ⟨w.heap.size + 1, 1, none⟩ = false := by rw [hb.frozen (p := ⟨w.heap.size + 1, 1, none⟩) (by simp)]; simp
  go_wp2_with fail
  have hbf : Below w.heap.size w ((w1.setCell ⟨w.heap.size + 1, 0, none⟩ (.int .i64 L)).setCell ⟨w.heap.size + 1, 1, none⟩ (.slice p' n' cap')) := (hb2.setCell (p := ⟨w.heap.size + 1, 0, none⟩) (by show _ ≤ w.heap.size + 1; omega) _).setCell (p := ⟨w.heap.size + 1, 1, none⟩) (by show _ ≤ w.heap.size + 1; omega) _
  exact bodyPost_ret (v := .tuple #[.agg #[.int .i64 L, .slice p' n' cap'], .int .i64 (laidErr L fr n)]) (by simp [results, Tryz.results105, go_sem, (two_set f2 f3 (.int .i64 L) (.slice p' n' cap')).1, (two_set f2 f3 (.int .i64 L) (.slice p' n' cap')).2]) rfl
    ⟨p', n', cap', rfl, HN.out, hc', HP2.out, row_set hrow hr' ha' (by simp), by rcases ha' with h | ⟨a, h, h2⟩; exact .inl h; exact .inr ⟨a, h, by simp at h2; omega⟩, hbf⟩

end Go.Proofs.YtmnhpmgffhpoeaaGreat.Bt
