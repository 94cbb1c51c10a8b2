/- The contracts of Load and Store: what each returns, and what it turns. -/
import Derived.Test.YtmnhpmgffhpoeaaGreatArWalksD
import Derived.Laws.BitsAllLaws
namespace Go.Proofs.YtmnhpmgffhpoeaaGreat.Bt
open Go Go.RowKit Go.Shelf
set_option linter.unusedVariables false

/-- the number in k bytes at a, the lowest first -/
def numV (m : Nat → UInt8) (a : Nat) : Nat → Nat
  | 0 => 0
  | k + 1 => numV m a k + (m (a + k)).toNat * 2 ^ (8 * k)
theorem numV_lt (m : Nat → UInt8) (a k : Nat) : numV m a k < 2 ^ (8 * k) := by
  induction k with
  | zero => simp [numV]
  | succ k ih =>
    unfold numV
    have hb : (m (a + k)).toNat < 256 := (m (a + k)).toNat_lt
    have e : 2 ^ (8 * (k + 1)) = 256 * 2 ^ (8 * k) := by rw [show 8 * (k + 1) = 8 * k + 8 from by omega, Nat.pow_add]; omega
    rw [e]
    have : (m (a + k)).toNat * 2 ^ (8 * k) ≤ 255 * 2 ^ (8 * k) := Nat.mul_le_mul_right _ (by omega)
    omega
theorem or_byte (x c j : Nat) (hx : x < 2 ^ (8 * j)) (hc : c < 256) (hj : j < 8) :
    bits .or .u64 (x : Int) (IntKind.u64.wrap (IntKind.u64.wrap (c : Int) * 2 ^ (8 * j))) = ((x + c * 2 ^ (8 * j) : Nat) : Int) := by
  have hp : 2 ^ (8 * j) ≤ 2 ^ 56 := Nat.pow_le_pow_right (by omega) (by omega)
  have hcp : c * 2 ^ (8 * j) ≤ 255 * 2 ^ 56 := Nat.mul_le_mul (by omega) hp
  have e1 : IntKind.u64.wrap (c : Int) = (c : Int) := by rw [IntKind.wrap_u64]; omega
  have e2 : ((c : Int) * 2 ^ (8 * j)) = ((c * 2 ^ (8 * j) : Nat) : Int) := by simp
  have e3 : IntKind.u64.wrap (((c * 2 ^ (8 * j) : Nat) : Int)) = ((c * 2 ^ (8 * j) : Nat) : Int) := by rw [IntKind.wrap_u64]; omega
  rw [e1, e2, e3, u64_or_nat _ _ (by omega) (by omega)]
  congr 1
  have := Nat.shiftLeft_add_eq_or_of_lt hx c
  rw [Nat.shiftLeft_eq] at this
  rw [Nat.or_comm, ← this, Nat.add_comm]
section
variable {A P n cap : Nat} {s : ASt} {ps : List (Option Nat)} {p : Option Addr} {w : World}
def LoadPost (m : Nat → UInt8) (L : Nat) (es : List Nat) (a k : Int) (w : World) (e : Ending) (w' : World) : Prop :=
  e = .returned (.tuple #[.int .u64 (if numE L es a k = 0 then (numV m a.toNat k.toNat : Int) else 0), .int .i64 (numE L es a k)]) ∧ Below w.heap.size w w'
theorem load_yes (h : ArX A s P ps p n cap w) (a k : Int) (ha : a ≤ 9223372036854775807) (hn : numE s.L s.es a k = 0) :
    Calls Tryz.prog 68 #[.pointer (some ⟨A, 0, none⟩), .int .i64 a, .int .i64 k] w (LoadPost s.mm s.L s.es a k w) := by
  have hw : wholeB k = true := by
    unfold numE at hn; cases hq : wholeB k with
    | true => rfl
    | false => rw [hq] at hn; cases hn
  have ht : thereB s.L s.es a k = true := by
    unfold numE thereE at hn; rw [hw] at hn
    cases hq : thereB s.L s.es a k with
    | true => rfl
    | false => rw [hq] at hn; cases hn
  obtain ⟨t0, t1, t2, t3⟩ := (there_iff h.good a k).1 ht
  have hk8 : 1 ≤ k ∧ k ≤ 8 := by rcases whole_cases hw with rfl | rfl | rfl | rfl <;> omega
  have HM : Hid (∀ i : Int, a ≤ i → i < a + k → mem s.es (i / 4096) = true) := Lib.hid t3
  have hsm := h.good.small
  have HNU := Lib.hid hn
  have HC := fun w (hw : ArX A s P ps p n cap w) => number_any hw a k ha
  clear t3 hn hw ht
  go_enter Tryz.func68, Tryz.ntmps68
  go_wp2_with fail
  refine (HC _ h).mono ?_
  rintro e w1 ⟨rfl, hb⟩
  rw [HNU.out]
  have h' := h.below hb
  clear h HC
  obtain ⟨c0, c1, c2, c3, c4⟩ := h'.head
  have HX := Lib.hid h'
  clear h'
  obtain ⟨an, rfl⟩ : ∃ an : Nat, a = an := ⟨a.toNat, by omega⟩
  obtain ⟨kn, rfl⟩ : ∃ kn : Nat, k = kn := ⟨k.toNat, by omega⟩
  go_wp2_with fail
  go_loop [9, 20] (fun x i => ∃ j : Nat, j ≤ kn ∧ i = .int .i64 j ∧ x = .int .u64 (numV s.mm an j : Int)) (fun _ i => kn - (intOf i).toNat)
  case atStart => exact ⟨0, Nat.zero_le _, rfl, rfl⟩
  case round =>
    obtain ⟨j, hj, rfl, rfl⟩ := hrel
    by_cases hlt : j < kn
    · have hi : (an + j) / 4096 < s.L := by omega
      have hil : (an + j) / 4096 < ps.length := by rw [HX.out.len]; exact hi
      have e1 : ((an : Int) + j).toNat = an + j := by omega
      cases hq : ps[(an + j) / 4096]? with
      | none => rw [List.getElem?_eq_none_iff] at hq; omega
      | some q =>
        have hsl := HX.out.slot hq
        cases q with
        | none =>
          simp only [ptrV] at hsl
          have HQ := Lib.hid hq; clear hq
          have hz : s.mm (an + j) = 0 := by
            have := HX.out.no _ HQ.out ((an + j) % 4096) (by omega)
            rw [show (an + j) / 4096 * 4096 + (an + j) % 4096 = an + j from by omega] at this; exact this
          have HZ : Hid (numV s.mm an (j + 1) = numV s.mm an j) := Lib.hid (by unfold numV; rw [hz]; cases j <;> simp [numV])
          clear hz
          go_wp2_with fail
          go_round
          case rel => exact ⟨j + 1, by omega, by go_num, by rw [HZ.out]⟩
          case measure => simp [intOf]; omega
        | some b =>
          have hby := HX.out.byte hq (show (an + j) % 4096 < 4096 by omega)
          simp only [ptrV] at hsl
          have HQ := Lib.hid hq; clear hq
          have HZ : Hid (bits BinOp.or IntKind.u64 (numV s.mm an j : Int) (IntKind.u64.wrap (IntKind.u64.wrap ((s.mm ((an + j) / 4096 * 4096 + (an + j) % 4096)).toNat : Int) * 2 ^ (8 * j))) = ((numV s.mm an (j + 1) : Nat) : Int)) := Lib.hid (by
            rw [show (an + j) / 4096 * 4096 + (an + j) % 4096 = an + j from by omega]
            exact or_byte _ _ j (numV_lt _ _ _) (UInt8.toNat_lt _) (by omega))
          go_wp2_with fail
          go_round
          case rel => exact ⟨j + 1, by omega, by go_num, by rw [HZ.out]⟩
          case measure => simp [intOf]; omega
    · have hje : j = kn := by omega
      subst hje
      go_wp2_with fail
      go_ret2
      refine ⟨?_, hb⟩
      rw [HNU.out, if_pos rfl, Int.toNat_natCast, Int.toNat_natCast]; rfl
theorem load_no (h : ArX A s P ps p n cap w) (a k : Int) (ha : a ≤ 9223372036854775807) (hn : numE s.L s.es a k ≠ 0) :
    Calls Tryz.prog 68 #[.pointer (some ⟨A, 0, none⟩), .int .i64 a, .int .i64 k] w (LoadPost s.mm s.L s.es a k w) := by
  have hb0 : (numE s.L s.es a k != 0) = true := by rw [bne_iff_ne]; exact hn
  have HC := fun w (hw : ArX A s P ps p n cap w) => number_any hw a k ha
  have HNE := Lib.hid hn
  clear hn
  go_enter Tryz.func68, Tryz.ntmps68
  go_wp2_with fail
  refine (HC _ h).mono ?_
  rintro e w1 ⟨rfl, hb⟩
  clear h HC
  go_wp2_with fail
  go_ret2
  refine ⟨?_, hb⟩
  rw [if_neg HNE.out]; rfl
theorem load_any (h : ArX A s P ps p n cap w) (a k : Int) (ha : a ≤ 9223372036854775807) :
    Calls Tryz.prog 68 #[.pointer (some ⟨A, 0, none⟩), .int .i64 a, .int .i64 k] w (LoadPost s.mm s.L s.es a k w) := by
  by_cases hn : numE s.L s.es a k = 0
  · exact load_yes h a k ha hn
  · exact load_no h a k ha hn
theorem load_nil (a k : Int) (w : World) : Calls Tryz.prog 68 #[.pointer none, .int .i64 a, .int .i64 k] w fun e w' => e = .returned (.tuple #[.int .u64 0, .int .i64 1]) ∧ w = w' := by
  go_enter Tryz.func68, Tryz.ntmps68
  go_wp2_with fail
  refine (number_nil a k _).mono ?_
  rintro e w1 ⟨rfl, rfl⟩
  go_wp2_with fail
  go_ret2
  exact ⟨rfl, rfl⟩
end
end Go.Proofs.YtmnhpmgffhpoeaaGreat.Bt
