/- BitsWalksB, BitsWalksC. -/
import Derived.Test.YtelfddkfddnenaaGreatMoA
import Derived.WalkSmall
section
namespace Go.Proofs.YtelfddkfddnenaaGreat.Bt
open Go Go.RowKit

theorem edges_any (L : Nat) (p : Option Addr) (n cap : Nat) (es : List Nat) (x : Int) (w : World) (hr : Rising es) (hlen : es.length ≤ 1048577) (hrow : RowAt w p es) (hn : n = es.length) :
    Calls Tryz.prog 240 #[.agg #[.int .i64 L, .slice p n cap], .int .i64 x] w fun e w' => e = .returned (.int .i64 (cnt es x)) ∧ Below w.heap.size w w' := by
  have HN := Lib.hid hn; clear hn
  go_enter Tryz.func240, Tryz.ntmps240
  go_wp2_with fail
  refine (search_any p cap es x _ hr hlen (hrow.below ((Below.refl _ _).alloc (Nat.le_refl _) _)) n HN.out).mono ?_
  rintro e w' ⟨t, rfl, rfl⟩
  go_wp2_with fail
  go_ret
  exact ⟨rfl, (Below.refl _ _).alloc (Nat.le_refl _) _⟩

def withinB (L : Nat) (fr n : Int) : Bool := decide (0 ≤ fr ∧ 0 ≤ n ∧ n ≤ L - fr)
theorem within_any (L : Nat) (hL : L ≤ 1048576) (p : Option Addr) (m cap : Nat) (fr n : Int) (hf : fr ≤ 9223372036854775807) (w : World) :
    Calls Tryz.prog 257 #[.agg #[.int .i64 L, .slice p m cap], .int .i64 fr, .int .i64 n] w fun e w' => e = .returned (.bool (withinB L fr n)) ∧ Below w.heap.size w w' := by
  by_cases h1 : 0 ≤ fr
  · by_cases h2 : 0 ≤ n
    · have HR : Hid (withinB L fr n = decide (n ≤ L - fr)) := Lib.hid (by unfold withinB; simp [h1, h2])
      go_enter Tryz.func257, Tryz.ntmps257
      go_wp2_with fail
      go_ret
      exact ⟨by rw [HR.out]; rfl, (Below.refl _ _).alloc (Nat.le_refl _) _⟩
    · have HR : Hid (withinB L fr n = false) := Lib.hid (by unfold withinB; simp [h2])
      have hd : decide (0 ≤ n) = false := by simpa using h2
      go_enter Tryz.func257, Tryz.ntmps257
      go_wp2_with fail
      go_ret
      exact ⟨by rw [HR.out]; rfl, (Below.refl _ _).alloc (Nat.le_refl _) _⟩
  · have HR : Hid (withinB L fr n = false) := Lib.hid (by unfold withinB; simp [h1])
    have hd : decide (0 ≤ fr) = false := by simpa using h1
    go_enter Tryz.func257, Tryz.ntmps257
    go_wp2_with fail
    go_ret
    exact ⟨by rw [HR.out]; rfl, (Below.refl _ _).alloc (Nat.le_refl _) _⟩
theorem len_any (L : Nat) (p : Option Addr) (m cap : Nat) (w : World)  :
    Calls Tryz.prog 137 #[.agg #[.int .i64 L, .slice p m cap]] w fun e w' => e = .returned (.int .i64 L) ∧ Below w.heap.size w w' := by
  go_enter Tryz.func137, Tryz.ntmps137
  go_wp2_with fail
  go_ret
  exact ⟨rfl, (Below.refl _ _).alloc (Nat.le_refl _) _⟩
def lenN (x : Int) : Nat := (min (max x 0) 1048576).toNat
theorem new_any (x : Int) (w : World) :
    Calls Tryz.prog 136 #[.int .i64 x] w fun e w' => e = .returned (.agg #[.int .i64 (lenN x), .slice none 0 0]) ∧ Below w.heap.size w w' := by
  by_cases h1 : x < 0
  · have HL : Hid ((lenN x : Int) = 0) := Lib.hid (by unfold lenN; omega)
    go_enter Tryz.func136, Tryz.ntmps136
    go_wp2_with fail
    exact bodyPost_ret (v := .agg #[.int .i64 0, .slice none 0 0]) (by simp [results, Tryz.results136, go_sem]) rfl ⟨by rw [HL.out], (Below.refl _ _).alloc (Nat.le_refl _) _⟩
  · by_cases h2 : 1048576 < x
    · have HL : Hid ((lenN x : Int) = 1048576) := Lib.hid (by unfold lenN; omega)
      go_enter Tryz.func136, Tryz.ntmps136
      go_wp2_with fail
      exact bodyPost_ret (v := .agg #[.int .i64 1048576, .slice none 0 0]) (by simp [results, Tryz.results136, go_sem]) rfl ⟨by rw [HL.out], (Below.refl _ _).alloc (Nat.le_refl _) _⟩
    · have HL : Hid ((lenN x : Int) = x) := Lib.hid (by unfold lenN; omega)
      go_enter Tryz.func136, Tryz.ntmps136
      go_wp2_with fail
      exact bodyPost_ret (v := .agg #[.int .i64 x, .slice none 0 0]) (by simp [results, Tryz.results136, go_sem]) rfl ⟨by rw [HL.out], (Below.refl _ _).alloc (Nat.le_refl _) _⟩

/-- is a number in it -/
def hasB (L : Nat) (es : List Nat) (i : Int) : Bool := decide (0 ≤ i ∧ i < L) && mem es i
theorem has_any (L : Nat) (p : Option Addr) (n cap : Nat) (es : List Nat) (i : Int) (w : World) (g : Good L es) (hrow : RowAt w p es) (hn : n = es.length) :
    Calls Tryz.prog 324 #[.agg #[.int .i64 L, .slice p n cap], .int .i64 i] w fun e w' => e = .returned (.bool (hasB L es i)) ∧ Below w.heap.size w w' := by
  have HN := Lib.hid hn; clear hn
  have hL := g.small
  by_cases h1 : 0 ≤ i
  · by_cases h2 : i < L
    · have HR : Hid (hasB L es i = insB (cnt es (i + 1))) := Lib.hid (by unfold hasB mem; simp [h1, h2])
      have hcl := cnt_le es (i + 1)
      have hgl := good_len g
      have hd : decide (i < (L : Int)) = true := by simpa using h2
      go_enter Tryz.func324, Tryz.ntmps324
      go_wp2_with fail
      refine (edges_any L p n cap es _ _ g.rising hgl (hrow.below ((Below.refl _ _).alloc (Nat.le_refl _) _)) HN.out).mono ?_
      rintro e w1 ⟨rfl, hb⟩
      have hb2 : Below w.heap.size w w1 := ((Below.refl _ _).alloc (Nat.le_refl _) _).trans (hb.mono (by simp))
      go_wp2_with fail
      refine (inside_any _ (by omega) _).mono ?_
      rintro e w2 ⟨rfl, rfl⟩
      go_wp2_with fail
      go_ret
      exact ⟨by rw [HR.out]; rfl, hb2⟩
    · have HR : Hid (hasB L es i = false) := Lib.hid (by unfold hasB; simp [h2])
      have hd : decide (i < (L : Int)) = false := by simpa using h2
      go_enter Tryz.func324, Tryz.ntmps324
      go_wp2_with fail
      go_ret
      exact ⟨by rw [HR.out]; rfl, (Below.refl _ _).alloc (Nat.le_refl _) _⟩
  · have HR : Hid (hasB L es i = false) := Lib.hid (by unfold hasB; simp [h1])
    have hd : decide (0 ≤ i) = false := by simpa using h1
    go_enter Tryz.func324, Tryz.ntmps324
    go_wp2_with fail
    go_ret
    exact ⟨by rw [HR.out]; rfl, (Below.refl _ _).alloc (Nat.le_refl _) _⟩
end Go.Proofs.YtelfddkfddnenaaGreat.Bt
end
section
namespace Go.Proofs.YtelfddkfddnenaaGreat.Bt
open Go Go.RowKit

def fI (fr : Int) : Int := if fr < 0 then 0 else fr
def firstB (L : Nat) (es : List Nat) (fr : Int) (inn : Bool) : Bool :=
  decide (fI fr < L) && (insB (cnt es (fI fr + 1)) == inn || (decide (cnt es (fI fr + 1) < es.length) && decide (es.getD (cnt es (fI fr + 1)) 0 < L)))
def firstV (L : Nat) (es : List Nat) (fr : Int) (inn : Bool) : Int :=
  if firstB L es fr inn then (if insB (cnt es (fI fr + 1)) == inn then fI fr else es.getD (cnt es (fI fr + 1)) 0) else 0

theorem beq_comm' (a b : Bool) : (a == b) = (b == a) := by cases a <;> cases b <;> rfl

theorem first_any (L : Nat) (p : Option Addr) (n cap : Nat) (es : List Nat) (fr : Int) (inn : Bool) (w : World) (g : Good L es) (hrow : RowAt w p es) (hn : n = es.length) :
    Calls Tryz.prog 180 #[.agg #[.int .i64 L, .slice p n cap], .int .i64 fr, .bool inn] w fun e w' => e = .returned (.tuple #[.int .i64 (firstV L es fr inn), .bool (firstB L es fr inn)]) ∧ Below w.heap.size w w' := by
  have hL := g.small
  have hgl := good_len g
  obtain ⟨f, y, hf0, hff, hcase⟩ : ∃ f y : Int, 0 ≤ f ∧ f = fI fr ∧ ((fr < 0 ∧ f = 0 ∧ y = 1) ∨ (0 ≤ fr ∧ f = fr ∧ y = fr + 1)) := by
    by_cases h : fr < 0
    · exact ⟨0, 1, by omega, by unfold fI; rw [if_pos h], .inl ⟨h, rfl, rfl⟩⟩
    · exact ⟨fr, fr + 1, by omega, by unfold fI; rw [if_neg h], .inr ⟨by omega, rfl, rfl⟩⟩
  have hyf : y = fI fr + 1 := by omega
  obtain ⟨c, hc⟩ : ∃ c, cnt es y = c := ⟨_, rfl⟩
  have hcl : c ≤ es.length := by rw [← hc]; exact cnt_le _ _
  have hB0 : firstB L es fr inn = (decide (f < L) && (insB c == inn || (decide (c < es.length) && decide (es.getD c 0 < L)))) := by unfold firstB; rw [← hyf, ← hff, hc]
  have hV0 : firstV L es fr inn = if firstB L es fr inn then (if insB c == inn then f else es.getD c 0) else 0 := by unfold firstV; rw [← hyf, ← hff, hc]
  have HN := Lib.hid hn
  have HC := Lib.hid hc
  clear hff hyf hc hn
  by_cases h2 : f < L
  · have hrow1 := hrow.below ((Below.refl w.heap.size w).alloc (Nat.le_refl _) (.cells #[.int .i64 L, .slice p n cap] 167))
    cases hi : (insB c == inn) with
    | true =>
      have HB : Hid (firstB L es fr inn = true) := Lib.hid (by rw [hB0, hi]; simp [h2])
      have HV : Hid (firstV L es fr inn = f) := Lib.hid (by rw [hV0, HB.out, hi]; simp)
      clear hB0 hV0
      rcases hcase with ⟨hc, rfl, rfl⟩ | ⟨hc, rfl, rfl⟩
      all_goals
        go_enter Tryz.func180, Tryz.ntmps180
        go_wp2_with fail
        refine (edges_any L p n cap es _ _ g.rising hgl hrow1 HN.out).mono ?_
        rw [HC.out]
        rintro e w1 ⟨rfl, hb⟩
        have hb2 : Below w.heap.size w w1 := ((Below.refl _ _).alloc (Nat.le_refl _) _).trans (hb.mono (by simp))
        go_wp2_with fail
        refine (inside_any _ (by omega) _).mono ?_
        rintro e w2 ⟨rfl, rfl⟩
        go_wp2_with fail
        go_ret2
        exact ⟨by rw [HB.out, HV.out]; rfl, hb2⟩
    | false =>
      by_cases h3 : c < es.length
      · obtain ⟨v, hv⟩ : ∃ v : Nat, es.getD c 0 = v := ⟨_, rfl⟩
        obtain ⟨b, off, hp, hlt, hcell⟩ : ∃ b off, p = some ⟨b, off, none⟩ ∧ b < w.heap.size ∧ w.cell? ⟨b, off + c, none⟩ = some (.int .i64 (v : Int)) := by
          rcases hrow with ⟨rfl, rfl⟩ | ⟨b, off, rfl, hlt, hc⟩
          · simp at h3
          · exact ⟨b, off, rfl, hlt, by rw [hc c h3, hv]⟩
        subst hp
        have hnl : c < n := by rw [HN.out]; exact h3
        have hn2 : n ≤ 1048577 := by rw [HN.out]; exact hgl
        by_cases h4 : v < L
        · have HB : Hid (firstB L es fr inn = true) := Lib.hid (by rw [hB0, hi, hv]; simp [h2, h3, h4])
          have HV : Hid (firstV L es fr inn = v) := Lib.hid (by rw [hV0, HB.out, hi, hv]; simp)
          have d1 : decide (c < n) = true := by simpa using hnl
          have d2 : decide (v < L) = true := by simpa using h4
          clear hB0 hV0 hv
          rcases hcase with ⟨hc, rfl, rfl⟩ | ⟨hc, rfl, rfl⟩
          all_goals
            go_enter Tryz.func180, Tryz.ntmps180
            go_wp2_with fail
            refine (edges_any L _ n cap es _ _ g.rising hgl hrow1 HN.out).mono ?_
            rw [HC.out]
            rintro e w1 ⟨rfl, hb⟩
            have hb2 : Below w.heap.size w w1 := ((Below.refl _ _).alloc (Nat.le_refl _) _).trans (hb.mono (by simp))
            have hbox0 : w1.cell? ⟨w.heap.size, 0, none⟩ = some (.int .i64 L) := by rw [hb.cell (p := ⟨w.heap.size, 0, none⟩) (by simp)]; simp
            have hbox1 : w1.cell? ⟨w.heap.size, 1, none⟩ = some (.slice (some ⟨b, off, none⟩) n cap) := by rw [hb.cell (p := ⟨w.heap.size, 1, none⟩) (by simp)]; simp
            have hcell1 : w1.cell? ⟨b, off + c, none⟩ = some (.int .i64 (v : Int)) := by rw [hb2.cell (p := ⟨b, off + c, none⟩) hlt]; exact hcell
            go_wp2_with fail
            refine (inside_any _ (by omega) _).mono ?_
            rintro e w2 ⟨rfl, rfl⟩
            go_wp2_with fail
            go_quiet (fail)
            go_wp2_with fail
            go_ret2
            exact ⟨by rw [HB.out, HV.out]; rfl, by first | exact hb2 | exact below_drewN hb2 _⟩
        · have HB : Hid (firstB L es fr inn = false) := Lib.hid (by rw [hB0, hi, hv]; simp [h4])
          have HV : Hid (firstV L es fr inn = 0) := Lib.hid (by rw [hV0, HB.out]; simp)
          have d1 : decide (c < n) = true := by simpa using hnl
          have d2 : decide (v < L) = false := by simpa using h4
          clear hB0 hV0 hv
          rcases hcase with ⟨hc, rfl, rfl⟩ | ⟨hc, rfl, rfl⟩
          all_goals
            go_enter Tryz.func180, Tryz.ntmps180
            go_wp2_with fail
            refine (edges_any L _ n cap es _ _ g.rising hgl hrow1 HN.out).mono ?_
            rw [HC.out]
            rintro e w1 ⟨rfl, hb⟩
            have hb2 : Below w.heap.size w w1 := ((Below.refl _ _).alloc (Nat.le_refl _) _).trans (hb.mono (by simp))
            have hbox0 : w1.cell? ⟨w.heap.size, 0, none⟩ = some (.int .i64 L) := by rw [hb.cell (p := ⟨w.heap.size, 0, none⟩) (by simp)]; simp
            have hbox1 : w1.cell? ⟨w.heap.size, 1, none⟩ = some (.slice (some ⟨b, off, none⟩) n cap) := by rw [hb.cell (p := ⟨w.heap.size, 1, none⟩) (by simp)]; simp
            have hcell1 : w1.cell? ⟨b, off + c, none⟩ = some (.int .i64 (v : Int)) := by rw [hb2.cell (p := ⟨b, off + c, none⟩) hlt]; exact hcell
            go_wp2_with fail
            refine (inside_any _ (by omega) _).mono ?_
            rintro e w2 ⟨rfl, rfl⟩
            go_wp2_with fail
            go_quiet (fail)
            go_wp2_with fail
            go_ret2
            exact ⟨by rw [HB.out, HV.out]; rfl, by first | exact hb2 | exact below_drewN hb2 _⟩
      · have HB : Hid (firstB L es fr inn = false) := Lib.hid (by rw [hB0, hi]; simp [h3])
        have HV : Hid (firstV L es fr inn = 0) := Lib.hid (by rw [hV0, HB.out]; simp)
        have hnl : n ≤ c := by rw [HN.out]; omega
        have d1 : decide (c < n) = false := by simpa using hnl
        clear hB0 hV0
        rcases hcase with ⟨hc, rfl, rfl⟩ | ⟨hc, rfl, rfl⟩
        all_goals
          go_enter Tryz.func180, Tryz.ntmps180
          go_wp2_with fail
          refine (edges_any L _ n cap es _ _ g.rising hgl hrow1 HN.out).mono ?_
          rw [HC.out]
          rintro e w1 ⟨rfl, hb⟩
          have hb2 : Below w.heap.size w w1 := ((Below.refl _ _).alloc (Nat.le_refl _) _).trans (hb.mono (by simp))
          have hbox0 : w1.cell? ⟨w.heap.size, 0, none⟩ = some (.int .i64 L) := by rw [hb.cell (p := ⟨w.heap.size, 0, none⟩) (by simp)]; simp
          have hbox1 : w1.cell? ⟨w.heap.size, 1, none⟩ = some (.slice p n cap) := by rw [hb.cell (p := ⟨w.heap.size, 1, none⟩) (by simp)]; simp
          go_wp2_with fail
          refine (inside_any _ (by omega) _).mono ?_
          rintro e w2 ⟨rfl, rfl⟩
          go_wp2_with fail
          go_quiet (fail)
          go_wp2_with fail
          go_ret2
          exact ⟨by rw [HB.out, HV.out]; rfl, by first | exact hb2 | exact below_drewN hb2 _⟩
  · have HB : Hid (firstB L es fr inn = false) := Lib.hid (by rw [hB0]; simp [h2])
    have HV : Hid (firstV L es fr inn = 0) := Lib.hid (by rw [hV0, HB.out]; simp)
    clear hB0 hV0
    rcases hcase with ⟨hc, rfl, rfl⟩ | ⟨hc, rfl, rfl⟩
    · obtain rfl : L = 0 := by omega
      go_enter Tryz.func180, Tryz.ntmps180
      go_wp2_with fail
      go_ret2
      exact ⟨by rw [HB.out, HV.out]; rfl, (Below.refl _ _).alloc (Nat.le_refl _) _⟩
    · go_enter Tryz.func180, Tryz.ntmps180
      go_wp2_with fail
      go_ret2
      exact ⟨by rw [HB.out, HV.out]; rfl, (Below.refl _ _).alloc (Nat.le_refl _) _⟩
end Go.Proofs.YtelfddkfddnenaaGreat.Bt
end
