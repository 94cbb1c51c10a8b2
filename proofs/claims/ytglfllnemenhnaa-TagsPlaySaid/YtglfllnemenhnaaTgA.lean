/- The contracts of a table's small functions: mayBegin, tagOf, code, Open, Len, Get. -/
import Derived.Test.YtglfllnemenhnaaOnB
namespace Go.Proofs.Ytglfllnemenhnaa.Bt
open Go Go.RowKit Go.Shelf
set_option linter.unusedVariables false

def begB (s : Int) : Bool := decide (s = 2 ∨ s = 3)
theorem tbeg_any (s : Int) (w : World) : Calls Try.prog 90 #[.int .u8 s] w fun e w' => e = .returned (.bool (begB s)) ∧ w = w' := by
  by_cases h2 : s = 2
  · subst h2
    go_enter Try.func90, Try.ntmps90
    go_wp2_with fail
    go_ret
    exact ⟨rfl, rfl⟩
  · have d2 : (s == 2) = false := by simpa using h2
    by_cases h3 : s = 3
    · subst h3
      clear h2 d2
      go_enter Try.func90, Try.ntmps90
      go_wp2_with fail
      go_ret
      exact ⟨rfl, rfl⟩
    · have d3 : (s == 3) = false := by simpa using h3
      have HB : Hid (begB s = false) := Lib.hid (by unfold begB; simp [h2, h3])
      clear h2 h3
      go_enter Try.func90, Try.ntmps90
      go_wp2_with fail
      go_ret
      exact ⟨by rw [HB.out]; rfl, rfl⟩

/-- is a byte a tag? its state, its order -/
def tagB (c : Int) : Bool := decide (c / 4 ≤ 10) && (decide (c / 4 = 0) || begB (c % 4))
def tagS (c : Int) : Int := if tagB c then c % 4 else 0
def tagO (c : Int) : Int := if tagB c then c / 4 else 0
abbrev tagV (s o : Int) : Value := .agg #[.int .u8 s, .int .u8 o]
theorem tagS_b (c : Int) (h0 : 0 ≤ c) : 0 ≤ tagS c ∧ tagS c ≤ 3 := by unfold tagS; split <;> omega
theorem tagO_b (c : Int) (h0 : 0 ≤ c) : 0 ≤ tagO c ∧ tagO c ≤ 10 := by
  unfold tagO; split
  · rename_i h; unfold tagB at h; simp at h; omega
  · omega
set_option maxHeartbeats 1000000 in
theorem tagof_any (c : Int) (h0 : 0 ≤ c) (h1 : c ≤ 255) (w : World) :
    Calls Try.prog 95 #[.int .u8 c] w (Gives (tagV (tagS c) (tagO c)) w) := by
  by_cases h10 : c / 4 ≤ 10
  · by_cases hz : c / 4 ≤ 0
    · have HR : Hid (tagV (tagS c) (tagO c) = tagV (c % 4) (c / 4)) := Lib.hid (by
        have hb : tagB c = true := by unfold tagB; simp; omega
        unfold tagS tagO; rw [if_pos hb, if_pos hb])
      go_enter Try.func95, Try.ntmps95
      go_wp2_with fail
      exact bodyPost_ret (v := tagV (c % 4) (c / 4)) (by simp [results, Try.results95, go_sem]) rfl ⟨by rw [HR.out], below2 _ _ _⟩
    · cases hb : begB (c % 4) with
      | true =>
        have HR : Hid (tagV (tagS c) (tagO c) = tagV (c % 4) (c / 4)) := Lib.hid (by
          have hb : tagB c = true := by unfold tagB; rw [hb]; simp; omega
          unfold tagS tagO; rw [if_pos hb, if_pos hb])
        have HB := Lib.hid hb; clear hb
        go_enter Try.func95, Try.ntmps95
        go_wp2_with (go_at_call 90; refine (tbeg_any _ _).mono ?_; rintro e w' ⟨rfl, rfl⟩; rw [HB.out])
        exact bodyPost_ret (v := tagV (c % 4) (c / 4)) (by simp [results, Try.results95, go_sem]) rfl ⟨by rw [HR.out], below2 _ _ _⟩
      | false =>
        have HR : Hid (tagV (tagS c) (tagO c) = tagV 0 0) := Lib.hid (by
          have hb : tagB c = false := by unfold tagB; rw [hb]; simp; omega
          unfold tagS tagO; rw [hb]; rfl)
        have HB := Lib.hid hb; clear hb
        go_enter Try.func95, Try.ntmps95
        go_wp2_with (go_at_call 90; refine (tbeg_any _ _).mono ?_; rintro e w' ⟨rfl, rfl⟩; rw [HB.out])
        exact bodyPost_ret (v := tagV 0 0) (by simp [results, Try.results95, go_sem]) rfl ⟨by rw [HR.out], below2 _ _ _⟩
  · have HR : Hid (tagV (tagS c) (tagO c) = tagV 0 0) := Lib.hid (by
      have hb : tagB c = false := by unfold tagB; simp; omega
      unfold tagS tagO; rw [hb]; rfl)
    go_enter Try.func95, Try.ntmps95
    go_wp2_with fail
    exact bodyPost_ret (v := tagV 0 0) (by simp [results, Try.results95, go_sem]) rfl ⟨by rw [HR.out], below2 _ _ _⟩

/-- the byte that a tag is -/
def codeI (s o : Int) : Int := 4 * o + s
theorem code_bits (s o : Int) (hs : 0 ≤ s) (hs2 : s ≤ 3) (ho : 0 ≤ o) (ho2 : o ≤ 10) : bits BinOp.or IntKind.u8 (o * 4) s = codeI s o := by
  have h1 : s = 0 ∨ s = 1 ∨ s = 2 ∨ s = 3 := by omega
  have h2 : o = 0 ∨ o = 1 ∨ o = 2 ∨ o = 3 ∨ o = 4 ∨ o = 5 ∨ o = 6 ∨ o = 7 ∨ o = 8 ∨ o = 9 ∨ o = 10 := by omega
  rcases h1 with rfl | rfl | rfl | rfl <;> rcases h2 with rfl | rfl | rfl | rfl | rfl | rfl | rfl | rfl | rfl | rfl | rfl <;> decide
theorem tcode_any (s o : Int) (hs : 0 ≤ s) (hs2 : s ≤ 3) (ho : 0 ≤ o) (ho2 : o ≤ 10) (w : World) :
    Calls Try.prog 91 #[tagV s o] w (Gives (.int .u8 (codeI s o)) w) := by
  have HC := Lib.hid (code_bits s o hs hs2 ho ho2)
  go_enter Try.func91, Try.ntmps91
  go_wp2_with fail
  go_ret
  refine ⟨?_, (Below.refl _ _).alloc (Nat.le_refl _) _⟩
  rw [← HC.out]; rfl

abbrev tbP (pa : Option Addr) (va vs : Nat) : Value := .agg #[.pointer pa, .int .i64 (va : Int), .int .i64 (vs : Int)]
theorem topen_any (pa : Option Addr) (va vs : Nat) (w : World) : Calls Try.prog 36 #[.agg #[.pointer pa, .int .i64 (va : Int), .int .i64 (vs : Int)]] w (Gives (tbP pa va vs) w) := by
  go_enter Try.func36, Try.ntmps36
  go_wp2_with fail
  exact bodyPost_ret (v := tbP pa va vs) (by simp [results, Try.results36, go_sem]) rfl ⟨rfl, below2 _ _ _⟩
theorem tlen_any (pa : Option Addr) (va vs : Nat) (w : World) : Calls Try.prog 39 #[tbP pa va vs] w (Gives (.int .i64 (vs : Int)) w) := by
  go_enter Try.func39, Try.ntmps39
  go_wp2_with fail
  refine (vsize_any pa va vs _).mono ?_
  rintro e w1 ⟨rfl, hb⟩
  go_wp2_with fail
  go_ret
  exact ⟨rfl, ((Below.refl w.heap.size w).alloc (Nat.le_refl _) _).trans (hb.mono (by simp))⟩
set_option maxHeartbeats 1000000 in
theorem tget_gen (pa : Option Addr) (va vs : Nat) (i : Int) (w : World) (c er : Int) (h0 : 0 ≤ c) (h1 : c ≤ 255)
    (HC : ∀ X, Below w.heap.size w X → Calls Try.prog 54 #[.agg #[.pointer pa, .int .i64 (va : Int), .int .i64 (vs : Int)], .int .i64 i, .int .i64 1] X (Gives (.tuple #[.int .u64 c, .int .i64 er]) X)) :
    Calls Try.prog 37 #[tbP pa va vs, .int .i64 i] w (Gives (.tuple #[tagV (tagS c) (tagO c), .int .i64 er]) w) := by
  have HC' := Lib.hid HC; clear HC
  have HB := Lib.hid (below2 w (.cells #[.pointer pa, .int .i64 (va : Int), .int .i64 (vs : Int)] 72) (.cells #[.int .u8 0, .int .u8 0] 86))
  have HR := Lib.hid (heap_old2 w (.cells #[.pointer pa, .int .i64 (va : Int), .int .i64 (vs : Int)] 72) (.cells #[.int .u8 0, .int .u8 0] 86))
  go_enter Try.func37, Try.ntmps37
  go_wp2_with fail
  refine (HC'.out _ HB.out).mono ?_
  rintro e w1 ⟨rfl, hb⟩
  have HR1 := Lib.hid (pair_at hb HR.out)
  have HB1 := Lib.hid (HB.out.trans (hb.mono HB.out.size))
  clear hb HR HB HC'
  go_wp2_with fail
  refine (tagof_any c h0 h1 _).mono ?_
  rintro e w2 ⟨rfl, hb⟩
  have hr := pair_at hb HR1.out
  have HB2 := Lib.hid (HB1.out.trans (hb.mono HB1.out.size))
  have r0 := (cell_blk hr 0).1; have r1 := (cell_blk hr 1).1
  have f0 := (cell_blk hr 0).2; have f1 := (cell_blk hr 1).2
  have HR2 := Lib.hid hr
  clear hb HR1 HB1 hr
  go_wp2_with fail
  have h3 := pair_set HR2.out rfl (.int .u8 (tagS c)) (.int .u8 (tagO c))
  have g0 := (cell_blk h3 0).1; have g1 := (cell_blk h3 1).1
  exact bodyPost_ret (v := .tuple #[tagV (tagS c) (tagO c), .int .i64 er]) (by simp [results, Try.results37, go_sem, g0, g1]) rfl ⟨rfl, (HB2.out.setCell (p := ⟨w.heap.size + 1, 0, none⟩) (Nat.le_succ _) _).setCell (p := ⟨w.heap.size + 1, 1, none⟩) (Nat.le_succ _) _⟩
end Go.Proofs.Ytglfllnemenhnaa.Bt
