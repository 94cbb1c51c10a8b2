/- What no arena answers; ArenaNil. -/
import Derived.Test.YtmkffkbhgdhkcaaArAwake
namespace Go.Proofs.Ytmkffkbhgdhkcaa.Bt
open Go Go.RowKit Go.Shelf
set_option linter.unusedVariables false

theorem good0 : Good 0 [] := ⟨List.Pairwise.nil, rfl, (fun e h => by cases h), by omega⟩
theorem has_nil (i : Int) (w : World) : Calls Try.prog 36 #[.pointer none, .int .i64 i] w fun e w' => e = .returned (.bool false) ∧ Below w.heap.size w w' := by
  have h0 : Hid (hasB 0 [] i = false) := Lib.hid (by unfold hasB; rw [decide_eq_false (by omega)]; rfl)
  go_enter Try.func36, Try.ntmps36
  go_wp2_with fail
  refine (pages_nil _).mono ?_
  rintro e w1 ⟨rfl, hb1⟩
  go_wp2_with fail
  refine (has_any 0 none 0 0 [] i _ good0 (.inl ⟨rfl, rfl⟩) rfl).mono ?_
  rintro e w2 ⟨rfl, hb2⟩
  rw [h0.out]
  go_wp2_with fail
  go_ret
  exact ⟨rfl, hb1.trans (hb2.mono hb1.size)⟩
theorem committed_nil (w : World) : Calls Try.prog 31 #[.pointer none] w fun e w' => e = .returned (.int .i64 0) ∧ Below w.heap.size w w' := by
  have h0 : Hid (countV 0 [] 0 0 = 0) := Lib.hid (by decide)
  go_enter Try.func31, Try.ntmps31
  go_wp2_with fail
  refine (pages_nil _).mono ?_
  rintro e w1 ⟨rfl, hb1⟩
  go_wp2_with fail
  refine (cap_nil _).mono ?_
  rintro e w2 ⟨rfl, rfl⟩
  go_wp2_with fail
  refine (count_any 0 none 0 0 [] 0 0 _ good0 rfl (.inl ⟨rfl, rfl⟩) (by omega)).mono ?_
  rintro e w3 ⟨rfl, hb3⟩
  rw [h0.out]
  go_wp2_with fail
  go_ret
  exact ⟨rfl, hb1.trans (hb3.mono hb1.size)⟩
theorem decommit_nil (a k : Int) (w : World) : Calls Try.prog 43 #[.pointer none, .int .i64 a, .int .i64 k] w fun e w' => e = .returned (.int .i64 1) ∧ w = w' := by
  go_enter Try.func43, Try.ntmps43
  go_wp2_with fail
  refine (acount_nil a k _).mono ?_
  rintro e w1 ⟨rfl, rfl⟩
  go_wp2_with fail
  go_ret
  exact ⟨rfl, rfl⟩
theorem refuse_nil (k : Int) (w : World) : Calls Try.prog 46 #[.pointer none, .int .i64 k] w fun e w' => e = .returned (.tuple #[]) ∧ w = w' := by
  go_enter Try.func46, Try.ntmps46
  go_wp2_with fail
  go_end0
  exact ⟨rfl, rfl⟩
theorem clone_nil (w : World) : Calls Try.prog 48 #[.pointer none] w fun e w' => e = .returned (.pointer none) ∧ w = w' := by
  go_enter Try.func48, Try.ntmps48
  go_wp2_with fail
  go_ret
  exact ⟨rfl, rfl⟩
theorem put_nil (a : Int) (s : ByteArray) (hs : s.size ≤ 9223372036854775807) (w : World) : Calls Try.prog 42 #[.pointer none, .int .i64 a, .string s] w fun e w' => e = .returned (.int .i64 1) ∧ Below w.heap.size w w' := by
  go_enter Try.func42, Try.ntmps42
  go_wp2_with fail
  refine (there_nil a _ _).mono ?_
  rintro e w1 ⟨rfl, rfl⟩
  go_wp2_with fail
  go_ret
  exact ⟨rfl, ((Below.refl w.heap.size w).alloc (Nat.le_refl _) _).alloc (by simp) _⟩
theorem fill_nil (a k b : Int) (w : World) : Calls Try.prog 47 #[.pointer none, .int .i64 a, .int .i64 k, .int .u8 b] w fun e w' => e = .returned (.int .i64 1) ∧ Below w.heap.size w w' := by
  go_enter Try.func47, Try.ntmps47
  go_wp2_with fail
  refine (there_nil a k _).mono ?_
  rintro e w1 ⟨rfl, rfl⟩
  go_wp2_with fail
  go_ret
  exact ⟨rfl, ((Below.refl w.heap.size w).alloc (Nat.le_refl _) _).alloc (by simp) _⟩
theorem copy_nil (a b k : Int) (w : World) : Calls Try.prog 45 #[.pointer none, .int .i64 a, .int .i64 b, .int .i64 k] w fun e w' => e = .returned (.int .i64 1) ∧ w = w' := by
  go_enter Try.func45, Try.ntmps45
  go_wp2_with fail
  refine (there_nil a k _).mono ?_
  rintro e w1 ⟨rfl, rfl⟩
  go_wp2_with fail
  go_ret
  exact ⟨rfl, rfl⟩

set_option maxRecDepth 100000 in
set_option maxHeartbeats 1000000 in
theorem arenaNil_all (w : World) : Calls Try.prog 9 #[] w (TrueAt w) := by
  go_enter Try.func9, Try.ntmps9
  go_wp2_with fail
  refine (refuse_nil 0 _).mono ?_
  rintro e w1 ⟨rfl, rfl⟩
  go_wp2_with fail
  refine (load_nil 0 3 _).mono ?_
  rintro e w2 ⟨rfl, rfl⟩
  go_wp2_with fail
  refine (bytes_nil 0 0 _).mono ?_
  rintro e w3 ⟨rfl, B3⟩
  go_wp2_with fail
  refine (awake3_calls _).mono ?_
  rintro e w4 ⟨rfl, hb⟩
  have B4 := B3.trans (hb.mono B3.size); clear hb
  go_wp2_with fail
  refine (cap_nil _).mono ?_
  rintro e w5 ⟨rfl, rfl⟩
  go_wp2_with fail
  refine (committed_nil _).mono ?_
  rintro e w6 ⟨rfl, hb⟩
  have B6 := B4.trans (hb.mono B4.size); clear hb
  go_wp2_with fail
  refine (has_nil 0 _).mono ?_
  rintro e w7 ⟨rfl, hb⟩
  have B7 := B6.trans (hb.mono B6.size); clear hb
  go_wp2_with fail
  refine (pages_nil _).mono ?_
  rintro e w8 ⟨rfl, hb⟩
  have B8 := B7.trans (hb.mono B7.size); clear hb
  go_wp2_with fail
  refine (len_any 0 none 0 0 _).mono ?_
  rintro e w9 ⟨rfl, hb⟩
  have B9 := B8.trans (hb.mono B8.size); clear hb
  go_wp2_with fail
  refine (commit_nil 0 0 _).mono ?_
  rintro e w10 ⟨rfl, rfl⟩
  go_wp2_with fail
  refine (decommit_nil 0 1 _).mono ?_
  rintro e w10 ⟨rfl, rfl⟩
  go_wp2_with fail
  refine (store_nil 0 3 0 _).mono ?_
  rintro e w10 ⟨rfl, rfl⟩
  go_wp2_with fail
  refine (put_nil 0 ⟨#[]⟩ (by decide) _).mono ?_
  rintro e w11 ⟨rfl, hb⟩
  have B11 := B9.trans (hb.mono B9.size); clear hb
  go_wp2_with fail
  refine (fill_nil 0 0 0 _).mono ?_
  rintro e w12 ⟨rfl, hb⟩
  have B12 := B11.trans (hb.mono B11.size); clear hb
  go_wp2_with fail
  refine (copy_nil 0 0 0 _).mono ?_
  rintro e w13 ⟨rfl, rfl⟩
  go_wp2_with fail
  refine (clone_nil _).mono ?_
  rintro e w13 ⟨rfl, rfl⟩
  go_wp2_with fail
  go_ret
  exact ⟨rfl, B12⟩
end Go.Proofs.Ytmkffkbhgdhkcaa.Bt
