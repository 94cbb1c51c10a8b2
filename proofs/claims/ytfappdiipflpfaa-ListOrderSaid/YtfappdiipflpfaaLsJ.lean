/- slices.IsSorted of integers. -/
import Derived.Test.YtfappdiipflpfaaLsI
import Derived.BigQuiet
import Derived.Deep.QuietTactic
namespace Go.Proofs.Ytfappdiipflpfaa.Bt
open Go Go.RowKit Go.Shelf
set_option linter.unusedVariables false

set_option maxHeartbeats 1000000 in
theorem sorted_any (p : Option Addr) (n cap : Nat) (zs : List Int) (hn : n = zs.length) (hl : n ≤ 1000000) (w : World) (hrow : IntsRow w p zs) (hs : ∀ j, j + 1 < zs.length → zs.getD j 0 ≤ zs.getD (j + 1) 0) :
    Calls Try.prog 89 #[.slice p n cap] w (Gives (.bool true) w) := by
  have q1 : IntKind.i64.wrap ((n : Int) - 1) = (n : Int) - 1 := IntWalk.i64_in _ (by omega)
  have HN := Lib.hid hn
  have HS := Lib.hid hs
  have HR := Lib.hid hrow
  clear hn hs hrow
  go_enter Try.func89, Try.ntmps89
  go_wp2_with fail
  clear q1
  go_loopw [3] (fun i wr => ∃ v : Int, i = .int .i64 v ∧ -1 ≤ v ∧ v ≤ (n : Int) - 1 ∧ Below w.heap.size w wr) (fun i _ => (intOf i).toNat)
  case atStart => exact ⟨(n : Int) - 1, rfl, by omega, by omega, Below.refl _ _⟩
  case round =>
    obtain ⟨v, rfl, h1, h2, hb⟩ := hrel
    by_cases h0 : 0 < v
    · obtain ⟨j, hj⟩ : ∃ j : Nat, v = (j : Int) + 1 := ⟨(v - 1).toNat, by omega⟩
      have hjn : j + 1 < zs.length := by have := HN.out; omega
      rcases HR.out with he | ⟨b, off, rfl, hlt, hc⟩
      · rw [he] at hjn; simp at hjn
      have c1 := (hb.cell (p := ⟨b, off + (j + 1), none⟩) hlt).trans (hc (j + 1) hjn)
      have c0 := (hb.cell (p := ⟨b, off + j, none⟩) hlt).trans (hc j (by omega))
      have hle := HS.out j hjn
      obtain ⟨x, hx⟩ : ∃ x, zs.getD j 0 = x := ⟨_, rfl⟩
      obtain ⟨y, hy⟩ : ∃ y, zs.getD (j + 1) 0 = y := ⟨_, rfl⟩
      rw [hx] at c0 hle; rw [hy] at c1 hle
      have dl : decide (y < x) = false := by simpa using hle
      have HB := Lib.hid hb
      have i1 : IntKind.i64.wrap (v - 1) = (j : Int) := by rw [IntWalk.i64_in _ (by omega)]; omega
      have i2 : 0 ≤ v := by omega
      have i3 : v < (n : Int) := by omega
      have i4 : 0 ≤ (j : Int) := by omega
      have i5 : (j : Int) < (n : Int) := by omega
      have i6 : v.toNat = j + 1 := by omega
      have HJ := Lib.hid hj
      clear hx hy hc hb hj dl
      go_wp2_with fail
      go_quiet ((go_at_call 140; exact Calls.quiet_of_same ((less_any _ _ _).mono fun _ _ h => ⟨h.1, h.2.symm⟩)))
      go_wp2_with fail
      go_roundw
      case rel => exact ⟨(j : Int), rfl, by omega, by have := HJ.out; omega, below_drewN HB.out _⟩
      case measure => have := HJ.out; simp [intOf]; omega
    · go_wp2_with fail
      go_ret
      exact ⟨rfl, hb⟩
end Go.Proofs.Ytfappdiipflpfaa.Bt
