/- The contracts of inside, isNaN, Less, BinarySearch (over rising edges), edgesBelow, within, New, Len: what each returns, and that nothing that was there is turned. -/
import Derived.Test.YtmnhpmgffhpoeaaGreatRows
import Derived.Test.YtmnhpmgffhpoeaaGreatBitsMath
import Derived.WalkKit
import Derived.Below
import Derived.BigQuiet
import Derived.Deep.QuietTactic
import Derived.Lib.Hide
import Derived.Outline
namespace Go.Proofs.YtmnhpmgffhpoeaaGreat.Bt
open Go Go.RowKit

/-- the edges' row in memory -/
def RowAt (w : World) (p : Option Addr) (es : List Nat) : Prop :=
  (p = none ∧ es = []) ∨ ∃ b off, p = some ⟨b, off, none⟩ ∧ b < w.heap.size ∧ ∀ k, k < es.length → w.cell? ⟨b, off + k, none⟩ = some (.int .i64 ((es.getD k 0 : Nat) : Int))
theorem RowAt.below {w w' : World} {p : Option Addr} {es : List Nat} (h : RowAt w p es) (hb : Below w.heap.size w w') : RowAt w' p es := by
  rcases h with h | ⟨b, off, rfl, hlt, hc⟩
  · exact .inl h
  · exact .inr ⟨b, off, rfl, Nat.lt_of_lt_of_le hlt hb.size, fun k hk => by rw [hb.cell (p := ⟨b, off + k, none⟩) hlt]; exact hc k hk⟩
def setV (L : Nat) (p : Option Addr) (n cap : Nat) : Value := .agg #[.int .i64 L, .slice p n cap]

theorem inside_any (k : Nat) (hk : k ≤ 9223372036854775807) (w : World) : Calls Tryz.prog 79 #[.int .i64 k] w fun e w' => e = .returned (.bool (insB k)) ∧ w = w' := by
  unfold insB
  by_cases h : k % 2 = 1
  · have h1 : ((k : Int) % 2 == 1) = true := beq_iff_eq.2 (by omega)
    have HR : Hid (decide (k % 2 = 1) = true) := Lib.hid (by simpa using h)
    clear h
    go_enter Tryz.func79, Tryz.ntmps79
    go_wp2
    go_ret
    exact ⟨by rw [HR.out]; rfl, rfl⟩
  · have h1 : ((k : Int) % 2 == 1) = false := beq_eq_false_iff_ne.2 (by omega)
    have HR : Hid (decide (k % 2 = 1) = false) := Lib.hid (by simpa using h)
    clear h
    go_enter Tryz.func79, Tryz.ntmps79
    go_wp2
    go_ret
    exact ⟨by rw [HR.out]; rfl, rfl⟩
theorem cmpNaN_any (x : Int) (w : World) : Calls Tryz.prog 101 #[.int .i64 x] w fun e w' => e = .returned (.bool false) ∧ w = w' := by
  go_enter Tryz.func101, Tryz.ntmps101
  go_wp2
  go_ret
  exact ⟨rfl, rfl⟩
theorem slNaN_any (x : Int) (w : World) : Calls Tryz.prog 97 #[.int .i64 x] w fun e w' => e = .returned (.bool false) ∧ w = w' := by
  go_enter Tryz.func97, Tryz.ntmps97
  go_wp2
  go_ret
  exact ⟨rfl, rfl⟩
theorem less_any (x y : Int) (w : World) : Calls Tryz.prog 96 #[.int .i64 x, .int .i64 y] w fun e w' => e = .returned (.bool (decide (x < y))) ∧ w = w' := by
  go_enter Tryz.func96, Tryz.ntmps96
  go_wp2_with (go_at_call 101; refine (cmpNaN_any _ _).mono ?_; rintro e w' ⟨rfl, rfl⟩)
  go_ret
  exact ⟨rfl, rfl⟩

def Srch (n : Int) (w : World) (e : Ending) (w' : World) : Prop := ∃ t : Bool, e = .returned (.tuple #[.int .i64 n, .bool t]) ∧ w = w'
theorem search_some (b off cap : Nat) (es : List Nat) (x : Int) (w : World) (hr : Rising es) (hlen : es.length ≤ 1048577)
    (hc : ∀ k, k < es.length → w.cell? ⟨b, off + k, none⟩ = some (.int .i64 ((es.getD k 0 : Nat) : Int))) :
    Calls Tryz.prog 90 #[.slice (some ⟨b, off, none⟩) es.length cap, .int .i64 x] w (Srch (cnt es x) w) := by
  have HC := Lib.hid hc; clear hc
  go_enter Tryz.func90, Tryz.ntmps90
  go_wp2
  go_loop [7, 8] (fun i j => ∃ p q : Nat, p ≤ cnt es x ∧ cnt es x ≤ q ∧ q ≤ es.length ∧ i = .int .i64 p ∧ j = .int .i64 q) (fun i j => (intOf j - intOf i).toNat)
  case atStart => exact ⟨0, es.length, by omega, cnt_le _ _, by omega, rfl, rfl⟩
  case round =>
    obtain ⟨p, q, h1, h2, h3, rfl, rfl⟩ := hrel
    by_cases hlt : p < q
    · obtain ⟨v, hv⟩ : ∃ v : Nat, es.getD ((p + q) / 2) 0 = v := ⟨_, rfl⟩
      have hcell : w.cell? ⟨b, off + (p + q) / 2, none⟩ = some (.int .i64 (v : Int)) := by rw [← hv]; exact HC.out _ (by omega)
      by_cases hx : (v : Int) < x
      · have hn : (p + q) / 2 + 1 ≤ cnt es x := by
          refine Classical.byContradiction fun h => ?_
          have := get_ge hr (x := x) (i := (p + q) / 2) (by omega) (by omega)
          omega
        have HV := Lib.hid hv; clear hv
        have hd : decide ((v : Int) < x) = true := by simpa using hx
        go_wp2_with (go_at_call 96; refine (less_any _ _ _).mono ?_; rintro e w' ⟨rfl, rfl⟩)
        go_round
        case rel => exact ⟨(p + q) / 2 + 1, q, hn, h2, h3, by go_num, rfl⟩
        case measure => simp [intOf]; omega
      · have hn : cnt es x ≤ (p + q) / 2 := by
          refine Classical.byContradiction fun h => ?_
          have := get_lt hr (x := x) (i := (p + q) / 2) (by omega)
          omega
        have HV := Lib.hid hv; clear hv
        have hd : decide ((v : Int) < x) = false := by simpa using hx
        go_wp2_with (go_at_call 96; refine (less_any _ _ _).mono ?_; rintro e w' ⟨rfl, rfl⟩)
        go_round
        case rel => exact ⟨p, (p + q) / 2, h1, hn, by omega, rfl, by go_num⟩
        case measure => simp [intOf]; omega
    · have hp : p = cnt es x := by omega
      have HP := Lib.hid hp; clear hp
      by_cases hl : p < es.length
      · obtain ⟨v, hv⟩ : ∃ v : Nat, es.getD p 0 = v := ⟨_, rfl⟩
        have hcell : w.cell? ⟨b, off + p, none⟩ = some (.int .i64 (v : Int)) := by rw [← hv]; exact HC.out _ hl
        have HV := Lib.hid hv; clear hv
        by_cases hx : (v : Int) = x
        · have hd : ((v : Int) == x) = true := beq_iff_eq.2 hx
          clear hx
          go_wp2_with (go_at_call 97; refine (slNaN_any _ _).mono ?_; rintro e w' ⟨rfl, rfl⟩)
          go_ret2
          exact ⟨_, by rw [← HP.out]; rfl, rfl⟩
        · have hd : ((v : Int) == x) = false := beq_eq_false_iff_ne.2 hx
          go_wp2_with (go_at_call 97; refine (slNaN_any _ _).mono ?_; rintro e w' ⟨rfl, rfl⟩)
          go_ret2
          exact ⟨_, by rw [← HP.out]; rfl, rfl⟩
      · go_wp2_with (go_at_call 97; refine (slNaN_any _ _).mono ?_; rintro e w' ⟨rfl, rfl⟩)
        go_ret2
        exact ⟨_, by rw [← HP.out]; rfl, rfl⟩
theorem search_none (p : Option Addr) (cap : Nat) (x : Int) (w : World) :
    Calls Tryz.prog 90 #[.slice p 0 cap, .int .i64 x] w (Srch 0 w) := by
  go_enter Tryz.func90, Tryz.ntmps90
  go_wp2
  refine wp_loop_rounds 1 ?_; rw [rounds_succ]
  go_wp2
  go_ret2
  exact ⟨_, rfl, rfl⟩
theorem search_any (p : Option Addr) (cap : Nat) (es : List Nat) (x : Int) (w : World) (hr : Rising es) (hlen : es.length ≤ 1048577) (hrow : RowAt w p es) (n : Nat) (hn : n = es.length) :
    Calls Tryz.prog 90 #[.slice p n cap, .int .i64 x] w (Srch (cnt es x) w) := by
  subst hn
  rcases hrow with ⟨rfl, rfl⟩ | ⟨b, off, rfl, _, hc⟩
  · exact search_none none cap x w
  · exact search_some b off cap es x w hr hlen hc
end Go.Proofs.YtmnhpmgffhpoeaaGreat.Bt
