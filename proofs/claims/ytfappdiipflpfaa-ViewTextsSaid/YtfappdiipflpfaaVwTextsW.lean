/- The walk of ViewTexts. -/
import Derived.Test.YtfappdiipflpfaaVwTexts
import Derived.Test.YtfappdiipflpfaaArKeepM
namespace Go.Proofs.Ytfappdiipflpfaa.Bt
open Go Go.RowKit Go.Shelf
set_option linter.unusedVariables false

def TextsRel (xs : List ByteArray) (w : World) (i : Value) (wr : World) : Prop := ∃ k : Nat, k ≤ xs.length ∧ i = .int .i64 k ∧ (∀ j (hj : j < xs.length), j < k → xs[j].size ≤ 500) ∧ Below w.heap.size w wr
/-- what laying them comes to -/
theorem texts_laid (sz : Nat) (hs : 50 + sz ≤ 12288) (a : ByteArray) (ha : a.size ≤ 10000) :
    (a.size ≤ sz ∧ thereE 3 [0, 3] (addrV 50 sz 0 a.size) a.data.toList.length = 0 ∧ putS (fullS 3 fun _ => 0) (addrV 50 sz 0 a.size) a.data.toList = fullS 3 (putM (fun _ => 0) 50 a.data.toList)) ∨
    (¬ a.size ≤ sz ∧ thereE 3 [0, 3] (addrV 50 sz 0 a.size) a.data.toList.length = 3 ∧ putS (fullS 3 fun _ => 0) (addrV 50 sz 0 a.size) a.data.toList = fullS 3 fun _ => 0) := by
  have hl : a.data.toList.length = a.size := bytes_len a
  have he : ∀ y : Int, thereE 3 [0, 3] y a.data.toList.length = if 0 ≤ y ∧ 0 ≤ (a.size : Int) ∧ y + a.size ≤ ((3 : Nat) : Int) * 4096 then 0 else 3 := fun y => by rw [hl]; exact thereE_full (by omega) (by omega) y a.size
  by_cases h : a.size ≤ sz
  · have e : addrV 50 sz 0 a.size = 50 := by unfold addrV; rw [if_pos (by omega)]; rfl
    have e2 : thereE 3 [0, 3] (50 : Int) a.data.toList.length = 0 := by rw [he, if_pos (by omega)]
    refine .inl ⟨h, by rw [e]; exact e2, ?_⟩
    rw [e]
    unfold putS
    rw [show (fullS 3 fun _ => 0).L = 3 from rfl, show (fullS 3 fun _ => 0).es = [0, 3] from rfl, if_pos e2]
    rfl
  · have e : addrV 50 sz 0 a.size = -1 := by unfold addrV; rw [if_neg (by omega)]
    have e2 : thereE 3 [0, 3] (-1 : Int) a.data.toList.length = 3 := by rw [he, if_neg (by omega)]
    refine .inr ⟨h, by rw [e]; exact e2, ?_⟩
    rw [e]
    unfold putS
    rw [show (fullS 3 fun _ => 0).L = 3 from rfl, show (fullS 3 fun _ => 0).es = [0, 3] from rfl, if_neg (by rw [e2]; decide)]
theorem zeros_get (k : Nat) : getM (fun _ => 0) 50 k = List.replicate k 0 := by
  unfold getM
  rw [List.map_const', List.length_range]
set_option maxRecDepth 100000 in
set_option maxHeartbeats 2000000 in
theorem texts_all (a0 : Int) (b0 : a0 ≤ 9223372036854775807) (p : Option Addr) (c : Nat) (xs : List ByteArray) (hlen : xs.length ≤ 9223372036854775807) (hcap : xs.length ≤ c) (hsz : ∀ x ∈ xs, x.size ≤ 9223372036854775807) (w : World) (h : StrsAt w p xs) :
    Calls Try.prog 8 #[.int .i64 a0, .slice p xs.length c] w (TrueAt w) := by
  have l3 : Hid (lenN 3 = 3) := Lib.hid (by decide)
  have e3 : Hid (commitE (newS 3) 0 3 = 0) := Lib.hid (by decide)
  have s3 : Hid (commitS (newS 3) 0 3 = fullS 3 (fun _ => 0)) := Lib.hid (full_new 3 3 (by decide) (by decide) (by decide))
  have TE : Hid (∀ a k, thereE 3 [0, 3] a k = if 0 ≤ a ∧ 0 ≤ k ∧ a + k ≤ 12288 then 0 else 3) := Lib.hid fun a k => thereE_full (by omega) (by omega) a k
  have HSZ := Lib.hid hsz
  clear hsz
  go_enter Try.func8, Try.ntmps8
  go_wp2_with fail
  refine (awake4_calls _).mono ?_
  rintro e w1 ⟨rfl, hb1⟩
  by_cases h20 : 20 < xs.length
  · go_wp2_with fail
    go_ret
    exact ⟨rfl, hb1⟩
  go_wp2_with fail
  go_loopw [21] (fun i wr => TextsRel xs w i wr) (fun i _ => xs.length - (intOf i).toNat)
  case atStart => exact ⟨0, Nat.zero_le _, rfl, fun _ _ h => absurd h (Nat.not_lt_zero _), hb1⟩
  case round =>
    obtain ⟨k, hk, rfl, hz, hB⟩ := hrel
    have HZ := Lib.hid hz
    clear hz
    by_cases hlt : k < xs.length
    · rcases h.below hB with h' | ⟨b, off, rfl, hbl, hc⟩
      · omega
      · have e0 := hc k hlt
        have hs9 := HSZ.out xs[k] (List.getElem_mem _)
        obtain ⟨s, hs⟩ : ∃ s, xs[k] = s := ⟨_, rfl⟩
        rw [hs] at e0 hs9
        have HS := Lib.hid hs
        clear hc hs h
        by_cases c5 : 500 < s.size
        · go_wp2_with fail
          go_ret
          exact ⟨rfl, hB⟩
        · go_wp2_with fail
          go_roundw
          case rel => exact ⟨k + 1, by omega, by go_num, fun j hj hjk => by
              by_cases e : j = k
              · subst e; rw [HS.out]; omega
              · exact HZ.out j hj (by omega), hB⟩
          case measure => simp [intOf]; omega
    · have HALL : Hid (∀ x ∈ xs, x.size ≤ 500) := Lib.hid fun x hx => by
        obtain ⟨j, hj, rfl⟩ := List.getElem_of_mem hx
        exact HZ.out j hj (by omega)
      have HJ : Hid ((joinB xs).size ≤ 10000) := Lib.hid (by
        rw [joinB_size]
        have := join_le xs 500 HALL.out
        omega)
      clear HZ
      go_wp2_with fail
      refine (arena_new 3 _).mono ?_
      rintro e w2 ⟨A, P, rfl, hA, hP, hx2', hb2⟩
      rw [l3.out] at hx2'
      have hn0 : ∀ i b : Nat, (List.replicate 3 (none : Option Nat))[i]? = some (some b) → wr.heap.size ≤ b := fun i b h => by
        rw [List.getElem?_replicate] at h; split at h <;> cases h
      have HX2 := Lib.hid hx2'
      clear hx2'
      go_wp2_with fail
      refine (commit_any HX2.out 0 3 (by omega)).mono ?_
      rintro e w3 ⟨rfl, ht⟩
      rw [e3.out]; rw [s3.out] at ht
      obtain ⟨⟨P3, ps3, p3, n3, c3, hx3, q1, q2, q3⟩, hb3⟩ := ht.at hb2.size hA hP hn0
      have HX3 := Lib.hid hx3
      have HQ3 := Lib.hid (And.intro q1 (And.intro q2 q3))
      have B3 := hB.trans ((hb2.trans hb3).mono hB.size)
      clear hx3 hn0 ht q1 q2 q3 hb3 HX2 hA hP hb2
      go_wp2_with fail
      refine (vof_any HX3.out 50 a0 (by omega)).mono ?_
      rintro e w4 ⟨rfl, hb4⟩
      have HX4 := Lib.hid (HX3.out.below hb4)
      have B4 := B3.trans (hb4.mono B3.size)
      have HQ4 : Hid (w.heap.size ≤ A ∧ w.heap.size ≤ P3 ∧ ∀ (i b : Nat), ps3[i]? = some (some b) → w.heap.size ≤ b) := Lib.hid ⟨Nat.le_trans hB.size HQ3.out.1, Nat.le_trans hB.size HQ3.out.2.1, fun i b hi => Nat.le_trans hB.size (HQ3.out.2.2 i b hi)⟩
      clear HX3 HQ3 hb4 hB B3
      obtain ⟨E, hE⟩ : ∃ E, thereE (fullS 3 fun _ => 0).L (fullS 3 fun _ => 0).es 50 a0 = E := ⟨_, rfl⟩
      have hE2 : (if 0 ≤ (50 : Int) ∧ 0 ≤ a0 ∧ (50 : Int) + a0 ≤ 12288 then (0 : Int) else 3) = E := by rw [← TE.out]; exact hE
      rw [hE]
      clear hE
      by_cases hin : 0 ≤ (50 : Int) ∧ 0 ≤ a0 ∧ (50 : Int) + a0 ≤ 12288
      · rw [if_pos hin] at hE2
        subst hE2
        obtain ⟨sz, rfl⟩ : ∃ sz : Nat, a0 = sz := ⟨a0.toNat, by omega⟩
        have hs50 : 50 + sz ≤ 12288 := by omega
        clear hin
        unfold ofV
        rw [if_pos rfl]
        go_wp2_with fail
        have HV0 : VC w4.heap.size (some ⟨A, 0, none⟩) 50 sz (w4.alloc (.cells #[.pointer (some ⟨A, 0, none⟩), .int .i64 50, .int .i64 (sz : Int)] 53)) := heap_new _ _
        have BA := B4.alloc B4.size (.cells #[.pointer (some ⟨A, 0, none⟩), .int .i64 50, .int .i64 (sz : Int)] 53)
        have HXA := Lib.hid (HX4.out.below ((Below.refl w4.heap.size w4).alloc (Nat.le_refl _) (.cells #[.pointer (some ⟨A, 0, none⟩), .int .i64 50, .int .i64 (sz : Int)] 53)))
        obtain ⟨B, hB⟩ : ∃ B, w4.heap.size = B := ⟨_, rfl⟩
        obtain ⟨wa, hwa⟩ : ∃ wa, w4.alloc (.cells #[.pointer (some ⟨A, 0, none⟩), .int .i64 50, .int .i64 (sz : Int)] 53) = wa := ⟨_, rfl⟩
        rw [hwa] at HV0 BA HXA ⊢
        rw [hB] at HV0 ⊢
        clear hwa hB HX4
        refine (join_any p c xs wa (h.below BA) (by omega) hcap (by have := HJ.out; omega)).mono ?_
        rintro e w5 ⟨rfl, hb5⟩
        obtain ⟨g0, g1, g2, HV5⟩ := (HV0.below hb5).all
        have B5 := BA.trans (hb5.mono BA.size)
        have HX5 := Lib.hid (HXA.out.below hb5)
        have HVh := Lib.hid HV5
        clear HV0 HV5 hb5 HXA
        have hj9 : (joinB xs).size ≤ 9223372036854775807 := by have := HJ.out; omega
        go_wp2_with fail
        refine (vtexts_any HX5.out 50 sz (by omega) (by omega) p c xs (h.below B5) (by omega) hcap (by have := HJ.out; omega)).mono ?_
        rintro e w6 ⟨rfl, ht⟩
        have hj0 := HJ.out
        clear HJ hj9 HVh g0 g1 g2
        generalize joinB xs = al at *
        have hal : strL al.data.toList = al := by cases al; simp [strL]
        have HAL := Lib.hid hal
        clear hal
        have hth : thereE 3 [0, 3] (50 : Int) (al.size : Int) = 0 := by rw [TE.out, if_pos (by omega)]
        have HTH := Lib.hid hth
        clear hth
        rcases texts_laid sz hs50 al hj0 with ⟨x1, x2, x3⟩ | ⟨x1, x2, x3⟩
        · rw [show thereE (fullS 3 fun _ => 0).L (fullS 3 fun _ => 0).es (addrV 50 sz 0 al.size) al.data.toList.length = 0 from x2]
          rw [x3] at ht
          obtain ⟨⟨P7, ps7, p7, n7, c7, hx7, q1, q2, q3⟩, hb7⟩ := ht.at (B := w.heap.size) B5.size HQ4.out.1 HQ4.out.2.1 HQ4.out.2.2
          have HX7 := Lib.hid hx7
          have B7 := B5.trans hb7
          clear hx7 q1 q2 q3 ht hb7 HX5 HQ4 x2 x3
          go_wp2_with fail
          refine (bytes_any HX7.out 50 al.size (by omega)).mono ?_
          rintro e w8 ⟨rfl, hb8⟩
          have B8 := B7.trans (hb8.mono B7.size)
          rw [show thereE (fullS 3 (putM (fun _ => 0) 50 al.data.toList)).L (fullS 3 (putM (fun _ => 0) 50 al.data.toList)).es 50 al.size = 0 from HTH.out, if_pos rfl]
          have hst : strL (getM (fullS 3 (putM (fun _ => 0) 50 al.data.toList)).mm (50 : Int).toNat (al.size : Int).toNat) = al := by
            have h1 := getM_putM (fun _ => 0) 50 al.data.toList
            rw [bytes_len] at h1
            rw [Int.toNat_natCast, show (50 : Int).toNat = 50 from rfl, show (fullS 3 (putM (fun _ => 0) 50 al.data.toList)).mm = putM (fun _ => 0) 50 al.data.toList from rfl, h1, HAL.out]
          rw [hst]
          have hq : (al.toList == al.toList) = true := beq_self_eq_true _
          have hd : decide ((al.size : Int) ≤ (sz : Int)) = true := by simp; omega
          clear hst hb8 HX7
          go_wp2_with fail
          go_ret
          exact ⟨rfl, B8⟩
        · rw [show thereE (fullS 3 fun _ => 0).L (fullS 3 fun _ => 0).es (addrV 50 sz 0 al.size) al.data.toList.length = 3 from x2]
          rw [x3] at ht
          obtain ⟨⟨P7, ps7, p7, n7, c7, hx7, q1, q2, q3⟩, hb7⟩ := ht.at (B := w.heap.size) B5.size HQ4.out.1 HQ4.out.2.1 HQ4.out.2.2
          have HX7 := Lib.hid hx7
          have B7 := B5.trans hb7
          clear hx7 q1 q2 q3 ht hb7 HX5 HQ4 x2 x3
          go_wp2_with fail
          refine (bytes_any HX7.out 50 al.size (by omega)).mono ?_
          rintro e w8 ⟨rfl, hb8⟩
          have B8 := B7.trans (hb8.mono B7.size)
          rw [show thereE (fullS 3 fun _ => 0).L (fullS 3 fun _ => 0).es 50 al.size = 0 from HTH.out, if_pos rfl]
          rw [Int.toNat_natCast, show (50 : Int).toNat = 50 from rfl, show (fullS 3 fun _ => 0).mm = fun _ => 0 from rfl, zeros_get]
          generalize hz : strL (List.replicate al.size 0) = zs
          have HZS := Lib.hid hz
          have hq : (zs.toList == zs.toList) = true := beq_self_eq_true _
          have hd : decide ((al.size : Int) ≤ (sz : Int)) = false := by simp; omega
          clear hb8 HX7 hz
          go_wp2_with fail
          refine (noughts_any al.size (by omega) _).mono ?_
          rintro e w9 ⟨rfl, hb9⟩
          rw [HZS.out]
          have B9 := B8.trans (hb9.mono B8.size)
          clear hb9 HZS
          go_wp2_with fail
          go_ret
          exact ⟨rfl, B9⟩
      · rw [if_neg hin] at hE2
        subst hE2
        clear hin
        unfold ofV
        rw [if_neg (by decide)]
        go_wp2_with fail
        have HV0 : VC w4.heap.size none 0 0 (w4.alloc (.cells #[.pointer none, .int .i64 0, .int .i64 0] 53)) := heap_new _ _
        have BA := B4.alloc B4.size (.cells #[.pointer none, .int .i64 0, .int .i64 0] 53)
        obtain ⟨B, hB⟩ : ∃ B, w4.heap.size = B := ⟨_, rfl⟩
        obtain ⟨wa, hwa⟩ : ∃ wa, w4.alloc (.cells #[.pointer none, .int .i64 0, .int .i64 0] 53) = wa := ⟨_, rfl⟩
        rw [hwa] at HV0 BA ⊢
        rw [hB] at HV0 ⊢
        clear hwa hB HX4 HQ4
        refine (join_any p c xs wa (h.below BA) (by omega) hcap (by have := HJ.out; omega)).mono ?_
        rintro e w5 ⟨rfl, hb5⟩
        obtain ⟨g0, g1, g2, HV5⟩ := (HV0.below hb5).all
        have B5 := BA.trans (hb5.mono BA.size)
        clear HV0 HV5 hb5
        go_wp2_with fail
        refine (vtexts_none p c xs (h.below B5) (by omega) hcap (by have := HJ.out; omega)).mono ?_
        rintro e w6 ⟨rfl, hb6⟩
        have B6 := B5.trans (hb6.mono B5.size)
        clear hb6
        go_wp2_with fail
        go_ret
        exact ⟨rfl, B6⟩
end Go.Proofs.Ytfappdiipflpfaa.Bt
