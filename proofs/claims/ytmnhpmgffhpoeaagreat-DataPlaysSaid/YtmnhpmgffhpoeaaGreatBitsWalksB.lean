/- The contracts of edgesBelow, within, New, Len, Has, First: what each returns, and that nothing that was there is turned. -/
import Derived.Test.YtmnhpmgffhpoeaaGreatBitsWalksA
namespace Go.Proofs.YtmnhpmgffhpoeaaGreat.Bt
open Go Go.RowKit

theorem edges_any (L : Nat) (p : Option Addr) (n cap : Nat) (es : List Nat) (x : Int) (w : World) (hr : Rising es) (hlen : es.length ≤ 1048577) (hrow : RowAt w p es) (hn : n = es.length) :
    Calls Tryz.prog 78 #[.agg #[.int .i64 L, .slice p n cap], .int .i64 x] w fun e w' => e = .returned (.int .i64 (cnt es x)) ∧ Below w.heap.size w w' := by
  have HN := Lib.hid hn; clear hn
  go_enter Tryz.func78, Tryz.ntmps78
  go_wp2_with fail
  refine (search_any p cap es x _ hr hlen (hrow.below ((Below.refl _ _).alloc (Nat.le_refl _) _)) n HN.out).mono ?_
  rintro e w' ⟨t, rfl, rfl⟩
  go_wp2_with fail
  go_ret
  exact ⟨rfl, (Below.refl _ _).alloc (Nat.le_refl _) _⟩

def withinB (L : Nat) (fr n : Int) : Bool := decide (0 ≤ fr ∧ 0 ≤ n ∧ n ≤ L - fr)
theorem within_any (L : Nat) (hL : L ≤ 1048576) (p : Option Addr) (m cap : Nat) (fr n : Int) (hf : fr ≤ 9223372036854775807) (w : World) :
    Calls Tryz.prog 76 #[.agg #[.int .i64 L, .slice p m cap], .int .i64 fr, .int .i64 n] w fun e w' => e = .returned (.bool (withinB L fr n)) ∧ Below w.heap.size w w' := by
  by_cases h1 : 0 ≤ fr
  · by_cases h2 : 0 ≤ n
    · have HR : Hid (withinB L fr n = decide (n ≤ L - fr)) := Lib.hid (by unfold withinB; simp [h1, h2])
      go_enter Tryz.func76, Tryz.ntmps76
      go_wp2_with fail
      go_ret
      exact ⟨by rw [HR.out]; rfl, (Below.refl _ _).alloc (Nat.le_refl _) _⟩
    · have HR : Hid (withinB L fr n = false) := Lib.hid (by unfold withinB; simp [h2])
      have hd : decide (0 ≤ n) = false := by simpa using h2
      go_enter Tryz.func76, Tryz.ntmps76
      go_wp2_with fail
      go_ret
      exact ⟨by rw [HR.out]; rfl, (Below.refl _ _).alloc (Nat.le_refl _) _⟩
  · have HR : Hid (withinB L fr n = false) := Lib.hid (by unfold withinB; simp [h1])
    have hd : decide (0 ≤ fr) = false := by simpa using h1
    go_enter Tryz.func76, Tryz.ntmps76
    go_wp2_with fail
    go_ret
    exact ⟨by rw [HR.out]; rfl, (Below.refl _ _).alloc (Nat.le_refl _) _⟩
theorem len_any (L : Nat) (p : Option Addr) (m cap : Nat) (w : World)  :
    Calls Tryz.prog 36 #[.agg #[.int .i64 L, .slice p m cap]] w fun e w' => e = .returned (.int .i64 L) ∧ Below w.heap.size w w' := by
  go_enter Tryz.func36, Tryz.ntmps36
  go_wp2_with fail
  go_ret
  exact ⟨rfl, (Below.refl _ _).alloc (Nat.le_refl _) _⟩
def lenN (x : Int) : Nat := (min (max x 0) 1048576).toNat
theorem new_any (x : Int) (w : World) :
    Calls Tryz.prog 35 #[.int .i64 x] w fun e w' => e = .returned (.agg #[.int .i64 (lenN x), .slice none 0 0]) ∧ Below w.heap.size w w' := by
  by_cases h1 : x < 0
  · have HL : Hid ((lenN x : Int) = 0) := Lib.hid (by unfold lenN; omega)
    go_enter Tryz.func35, Tryz.ntmps35
    go_wp2_with fail
    exact bodyPost_ret (v := .agg #[.int .i64 0, .slice none 0 0]) (by simp [results, Tryz.results35, go_sem]) rfl ⟨by rw [HL.out], (Below.refl _ _).alloc (Nat.le_refl _) _⟩
  · by_cases h2 : 1048576 < x
    · have HL : Hid ((lenN x : Int) = 1048576) := Lib.hid (by unfold lenN; omega)
      go_enter Tryz.func35, Tryz.ntmps35
      go_wp2_with fail
      exact bodyPost_ret (v := .agg #[.int .i64 1048576, .slice none 0 0]) (by simp [results, Tryz.results35, go_sem]) rfl ⟨by rw [HL.out], (Below.refl _ _).alloc (Nat.le_refl _) _⟩
    · have HL : Hid ((lenN x : Int) = x) := Lib.hid (by unfold lenN; omega)
      go_enter Tryz.func35, Tryz.ntmps35
      go_wp2_with fail
      exact bodyPost_ret (v := .agg #[.int .i64 x, .slice none 0 0]) (by simp [results, Tryz.results35, go_sem]) rfl ⟨by rw [HL.out], (Below.refl _ _).alloc (Nat.le_refl _) _⟩

/-- is a number in it -/
def hasB (L : Nat) (es : List Nat) (i : Int) : Bool := decide (0 ≤ i ∧ i < L) && mem es i
end Go.Proofs.YtmnhpmgffhpoeaaGreat.Bt
