/- The walk of ArenaCopies. -/
import Derived.Test.YtfappdiipflpfaaArFull
namespace Go.Proofs.Ytfappdiipflpfaa.Bt
open Go Go.RowKit Go.Shelf
set_option linter.unusedVariables false

theorem copies_out (a0 : ByteArray) (a1 a2 a3 : Int) (w : World) (hs : a0.size ≤ 9223372036854775807) (hl : ¬ a0.size ≤ 9000) :
    Calls Try.prog 5 #[.string a0, .int .i64 a1, .int .i64 a2, .int .i64 a3] w (TrueAt w) := by
  go_enter Try.func5, Try.ntmps5
  go_wp2_with fail
  refine (awake3_calls _).mono ?_
  rintro e w1 ⟨rfl, hb1⟩
  go_wp2_with fail
  go_ret
  exact ⟨rfl, hb1⟩
set_option maxRecDepth 100000 in
set_option maxHeartbeats 2000000 in
theorem copies_in (a0 : ByteArray) (a1 a2 a3 : Int) (w : World) (b1 : a1 ≤ 9223372036854775807) (b2 : a2 ≤ 9223372036854775807) (hl : a0.size ≤ 9000) :
    Calls Try.prog 5 #[.string a0, .int .i64 a1, .int .i64 a2, .int .i64 a3] w (TrueAt w) := by
  have l4 : Hid (lenN 4 = 4) := Lib.hid (by decide)
  have e4 : Hid (commitE (newS 4) 0 4 = 0) := Lib.hid (by decide)
  have s4 : Hid (commitS (newS 4) 0 4 = fullS 4 (fun _ => 0)) := Lib.hid (full_new 4 4 (by decide) (by decide) (by decide))
  have TE : Hid (∀ a k, thereE 4 [0, 4] a k = if 0 ≤ a ∧ 0 ≤ k ∧ a + k ≤ 16384 then 0 else 3) := Lib.hid fun a k => thereE_full (by omega) (by omega) a k
  go_enter Try.func5, Try.ntmps5
  go_wp2_with fail
  refine (awake3_calls _).mono ?_
  rintro e w1 ⟨rfl, hb1⟩
  go_wp2_with fail
  refine (arena_new 4 _).mono ?_
  rintro e w2 ⟨A, P, rfl, hA, hP, hx, hb2⟩
  rw [l4.out] at hx
  have hn0 : ∀ i b : Nat, (List.replicate 4 (none : Option Nat))[i]? = some (some b) → w1.heap.size ≤ b := fun i b h => by
    rw [List.getElem?_replicate] at h; split at h <;> cases h
  have HX2 := Lib.hid hx
  clear hx
  go_wp2_with fail
  refine (commit_any HX2.out 0 4 (by omega)).mono ?_
  rintro e w3 ⟨rfl, ht⟩
  rw [e4.out]; rw [s4.out] at ht
  obtain ⟨⟨P3, ps3, p3, n3, c3, hx3, q1, q2, q3⟩, hb3⟩ := ht.at hb2.size hA hP hn0
  have HX3 := Lib.hid hx3
  have HQ3 := Lib.hid (And.intro q1 (And.intro q2 q3))
  have B3 := hb1.trans ((hb2.trans hb3).mono hb1.size)
  clear hx3 hn0 ht q1 q2 q3 hb3 HX2 hA hP
  go_wp2_with fail
  refine (put_any HX3.out 0 (by omega) a0 (by omega)).mono ?_
  rintro e w4 ⟨rfl, ht⟩
  have hz : Hid (thereE (fullS 4 fun _ => 0).L (fullS 4 fun _ => 0).es 0 a0.data.toList.length = 0) := Lib.hid (by
    show thereE 4 [0, 4] 0 _ = 0
    rw [TE.out, bytes_len, if_pos (by omega)])
  rw [hz.out]
  have hps : putS (fullS 4 fun _ => 0) 0 a0.data.toList = fullS 4 (putM (fun _ => 0) 0 a0.data.toList) := by
    unfold putS; rw [if_pos hz.out]; rfl
  rw [hps] at ht
  clear hps
  generalize putM (fun _ => 0) 0 a0.data.toList = mm at *
  obtain ⟨⟨P4, ps4, p4, n4, c4, hx4, q1, q2, q3⟩, hb4⟩ := ht.at (B := w.heap.size) B3.size (Nat.le_trans hb1.size HQ3.out.1) (Nat.le_trans hb1.size HQ3.out.2.1) (fun i b h => Nat.le_trans hb1.size (HQ3.out.2.2 i b h))
  have HX4 := Lib.hid hx4
  have HQ4 := Lib.hid (And.intro q1 (And.intro q2 q3))
  have B4 := B3.trans hb4
  clear hx4 ht q1 q2 q3 hb4 HX3 HQ3 hz
  go_wp2_with fail
  refine (bytes_any HX4.out a1 a3 b1).mono ?_
  rintro e w5 ⟨rfl, hb5⟩
  have HX5 := Lib.hid (HX4.out.below hb5)
  have B5 := B4.trans (hb5.mono B4.size)
  obtain ⟨E1, hE1⟩ : ∃ E, thereE (fullS 4 mm).L (fullS 4 mm).es a1 a3 = E := ⟨_, rfl⟩
  rw [hE1]
  have HE1 := Lib.hid hE1
  clear hE1 hb5
  generalize hS1 : (if E1 = 0 then strL (getM (fullS 4 mm).mm a1.toNat a3.toNat) else ⟨#[]⟩ : ByteArray) = str1
  have HS1 := Lib.hid hS1; clear hS1
  go_wp2_with fail
  refine (copy_any HX5.out a2 a1 a3 b2 b1).mono ?_
  rintro e w6 ⟨rfl, ht⟩
  obtain ⟨E2, hE2⟩ : ∃ E, copyE (fullS 4 mm) a2 a1 a3 = E := ⟨_, rfl⟩
  obtain ⟨s6, hs6⟩ : ∃ s, copyS (fullS 4 mm) a2 a1 a3 = s := ⟨_, rfl⟩
  rw [hE2]; rw [hs6] at ht
  have HE2 := Lib.hid hE2; have HS6 := Lib.hid hs6
  clear hE2 hs6
  obtain ⟨⟨P6, ps6, p6, n6, c6, hx6, _⟩, hb6⟩ := ht.at (B := w.heap.size) B5.size HQ4.out.1 HQ4.out.2.1 HQ4.out.2.2
  have HX6 := Lib.hid hx6
  have B6 := B5.trans hb6
  clear hx6 ht hb6 HX5 HX4
  go_wp2_with fail
  refine (bytes_any HX6.out a2 a3 b2).mono ?_
  rintro e w7 ⟨rfl, hb7⟩
  have B7 := B6.trans (hb7.mono B6.size)
  have hes : s6.L = 4 ∧ s6.es = [0, 4] := by
    rw [← HS6.out]; unfold copyS; split
    · split <;> exact ⟨rfl, rfl⟩
    · exact ⟨rfl, rfl⟩
  have HES := Lib.hid hes
  obtain ⟨E3, hE3⟩ : ∃ E, thereE s6.L s6.es a2 a3 = E := ⟨_, rfl⟩
  rw [hE3]
  have HE3 : Hid (thereE 4 [0, 4] a2 a3 = E3) := Lib.hid (by rw [hes.1, hes.2] at hE3; exact hE3)
  have HE1' : Hid (thereE 4 [0, 4] a1 a3 = E1) := HE1
  clear hE3 hb7 hes
  generalize hS3 : (if E3 = 0 then strL (getM s6.mm a2.toNat a3.toNat) else ⟨#[]⟩ : ByteArray) = str3
  have HS3 := Lib.hid hS3; clear hS3
  have hfin : (E1 = 0 ∧ E3 = 0 ∧ E2 = 0 ∧ (str3.toList == str1.toList) = true) ∨ (E1 = 0 ∧ E3 = 3 ∧ E2 = 3) ∨ (E1 = 3 ∧ E2 = 3) := by
    have t1 := thereE_or 4 [0, 4] a1 a3
    have t3 := thereE_or 4 [0, 4] a2 a3
    rw [HE1'.out] at t1; rw [HE3.out] at t3
    have hce : E2 = if E3 ≠ 0 then 3 else if a2 = a1 then 0 else E1 := by
      rw [← HE2.out]; unfold copyE
      show (if thereE 4 [0, 4] a2 a3 ≠ 0 then (3 : Int) else if a2 = a1 then 0 else thereE 4 [0, 4] a1 a3) = _
      rw [HE3.out, HE1'.out]
    rcases t1 with t1 | t1 <;> rcases t3 with t3 | t3
    · left
      have h2 : E2 = 0 := by rw [hce, if_neg (by simpa using t3)]; split; rfl; exact t1
      refine ⟨t1, t3, h2, ?_⟩
      suffices heq : str3 = str1 by rw [heq]; exact beq_self_eq_true _
      rw [← HS1.out, ← HS3.out, if_pos t1, if_pos t3, ← HS6.out]
      unfold copyS
      rw [HE2.out, if_pos h2]
      split
      · rename_i h; rw [h]
      · have hk : 0 ≤ a3 := by
          have := HE3.out; rw [TE.out, t3] at this; split at this
          · omega
          · cases this
        show strL (getM (putM mm a2.toNat (getM mm a1.toNat a3.toNat)) a2.toNat a3.toNat) = strL (getM mm a1.toNat a3.toNat)
        have := getM_putM mm a2.toNat (getM mm a1.toNat a3.toNat)
        rw [getM_length] at this
        rw [this]
    · right; left
      exact ⟨t1, t3, by rw [hce, if_pos (by rw [t3]; decide)]⟩
    · right; right
      refine ⟨t1, ?_⟩
      rw [hce, if_neg (by simpa using t3)]
      split
      · rename_i h
        have h1 := HE1'.out; have h3 := HE3.out
        rw [h, h1] at h3; omega
      · exact t1
    · right; right
      exact ⟨t1, by rw [hce, if_pos (by rw [t3]; decide)]⟩
  clear HS1 HS3 HE1 HE1' HE2 HE3 HS6 HX6 HQ4
  rcases hfin with ⟨rfl, rfl, rfl, hst⟩ | ⟨rfl, rfl, rfl⟩ | ⟨rfl, rfl⟩
  all_goals
    go_wp2_with fail
    go_ret
    exact ⟨rfl, B7⟩
theorem copies_all (a0 : ByteArray) (a1 a2 a3 : Int) (w : World) (w0 : a0.size ≤ maxLen) (b1 : a1 ≤ 9223372036854775807) (b2 : a2 ≤ 9223372036854775807) :
    Calls Try.prog 5 #[.string a0, .int .i64 a1, .int .i64 a2, .int .i64 a3] w (TrueAt w) := by
  unfold maxLen at w0
  by_cases h : a0.size ≤ 9000
  · exact copies_in a0 a1 a2 a3 w b1 b2 h
  · exact copies_out a0 a1 a2 a3 w w0 h
end Go.Proofs.Ytfappdiipflpfaa.Bt
