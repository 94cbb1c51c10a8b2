/- The contracts of slices.Equal over integers in memory, and of awake. -/
import Derived.Test.YtmnhpmgffhpoeaaGreatBitsRows
namespace Go.Proofs.YtmnhpmgffhpoeaaGreat.Bt
open Go Go.RowKit

/-- a slice value whose first numbers are known -/
def IntsRow (w : World) (p : Option Addr) (zs : List Int) : Prop :=
  zs = [] ∨ ∃ b off, p = some ⟨b, off, none⟩ ∧ b < w.heap.size ∧ ∀ k, k < zs.length → w.cell? ⟨b, off + k, none⟩ = some (.int .i64 (zs.getD k 0))
theorem IntsAt.row {w : World} {v : Value} {zs : List Int} (h : IntsAt w v zs) : ∃ p cap, v = .slice p zs.length cap ∧ IntsRow w p zs := by
  rcases h with ⟨rfl, rfl⟩ | ⟨b, off, cap, rfl, hlt, hc⟩
  · exact ⟨none, 0, rfl, .inl rfl⟩
  · exact ⟨_, cap, rfl, .inr ⟨b, off, rfl, hlt, hc⟩⟩
def EqPost (a b : List Int) (w : World) (e : Ending) (w' : World) : Prop := e = .returned (.bool (a == b)) ∧ ∃ n, w' = w.drewN n

theorem equal_len (p q : Option Addr) (n m cp cq : Nat) (h : n ≠ m) (w : World) : Calls Tryz.prog 106 #[.slice p n cp, .slice q m cq] w fun e w' => e = .returned (.bool false) ∧ w = w' := by
  have hd : ((n : Int) != (m : Int)) = true := by rw [bne_iff_ne]; omega
  go_enter Tryz.func106, Tryz.ntmps106
  go_wp2
  go_ret
  exact ⟨rfl, rfl⟩
def Lp (a b : List Int) (w : World) (n : Nat) (i : Value) (wr : World) : Prop := ∃ k : Nat, k ≤ n ∧ i = .int .i64 k ∧ (∀ j, j < k → a.getD j 0 = b.getD j 0) ∧ ∃ d, wr = w.drewN d
theorem equal_some (b1 o1 b2 o2 cp cq n : Nat) (a b : List Int) (ha : n = a.length) (hb : n = b.length) (hn : n ≤ 9223372036854775807) (w : World)
    (hca : ∀ k, k < n → w.cell? ⟨b1, o1 + k, none⟩ = some (.int .i64 (a.getD k 0))) (hcb : ∀ k, k < n → w.cell? ⟨b2, o2 + k, none⟩ = some (.int .i64 (b.getD k 0))) :
    Calls Tryz.prog 106 #[.slice (some ⟨b1, o1, none⟩) n cp, .slice (some ⟨b2, o2, none⟩) n cq] w (EqPost a b w) := by
  have HA := Lib.hid hca; have HB := Lib.hid hcb; clear hca hcb
  have HL := Lib.hid ha; have HM := Lib.hid hb; clear ha hb
  go_enter Tryz.func106, Tryz.ntmps106
  go_wp2
  go_loopw [13] (fun i wr => Lp a b w n i wr) (fun i _ => n - (intOf i).toNat)
  case atStart => exact ⟨0, by omega, rfl, fun j hj => by omega, 0, rfl⟩
  case round =>
    obtain ⟨k, hk, rfl, hall, d, rfl⟩ := hrel
    have HS := Lib.hid hall; clear hall
    by_cases hlt : k < n
    · obtain ⟨x, hx⟩ : ∃ x, a.getD k 0 = x := ⟨_, rfl⟩
      obtain ⟨y, hy⟩ : ∃ y, b.getD k 0 = y := ⟨_, rfl⟩
      have ca : w.cell? ⟨b1, o1 + k, none⟩ = some (.int .i64 x) := by rw [HA.out k hlt, hx]
      have cb : w.cell? ⟨b2, o2 + k, none⟩ = some (.int .i64 y) := by rw [HB.out k hlt, hy]
      have HX := Lib.hid hx; have HY := Lib.hid hy; clear hx hy
      by_cases he : x = y
      · have hd : (x != y) = false := by simpa using he
        have HE := Lib.hid he; clear he
        go_wp2
        go_quiet (fail)
        go_wp2
        go_roundw
        case rel => exact ⟨k + 1, by omega, by go_num, fun j hj => by
          by_cases hjk : j = k
          · subst hjk; rw [HX.out, HY.out, HE.out]
          · exact HS.out j (by omega), by rename_i nq; exact ⟨d + nq, by simp [World.drewN]⟩⟩
        case measure => simp [intOf]; omega
      · have hd : (x != y) = true := by simpa using he
        have hf : Hid ((a == b) = false) := Lib.hid (beq_eq_false_iff_ne.2 fun h => he (by rw [← HX.out, ← HY.out, h]))
        go_wp2
        go_quiet (fail)
        go_wp2
        go_ret
        exact ⟨by rw [hf.out]; rfl, by rename_i nq; exact ⟨d + nq, by simp [World.drewN, Nat.add_assoc]⟩⟩
    · have hf : Hid ((a == b) = true) := Lib.hid (by
        rw [beq_iff_eq]
        apply List.ext_getElem (by rw [← HL.out, ← HM.out])
        intro i h1 h2
        have := HS.out i (by have := HL.out; omega)
        simpa [List.getD_eq_getElem?_getD, List.getElem?_eq_getElem h1, List.getElem?_eq_getElem h2] using this)
      go_wp2
      go_ret
      exact ⟨by rw [hf.out]; rfl, d, rfl⟩
theorem equal_zero (p q : Option Addr) (cp cq : Nat) (w : World) : Calls Tryz.prog 106 #[.slice p 0 cp, .slice q 0 cq] w fun e w' => e = .returned (.bool true) ∧ w = w' := by
  go_enter Tryz.func106, Tryz.ntmps106
  go_wp2
  refine wp_loop_rounds 1 ?_; rw [rounds_succ]
  go_wp2
  go_ret
  exact ⟨rfl, rfl⟩
theorem equal_any (p q : Option Addr) (cp cq n m : Nat) (a b : List Int) (ha : n = a.length) (hb : m = b.length) (hl : n ≤ 9223372036854775807) (w : World) (ra : IntsRow w p a) (rb : IntsRow w q b) :
    Calls Tryz.prog 106 #[.slice p n cp, .slice q m cq] w (EqPost a b w) := by
  by_cases hne : n = m
  · subst hne
    rcases ra with rfl | ⟨b1, o1, rfl, _, hc1⟩
    · obtain rfl : n = 0 := ha
      have e : b = [] := List.eq_nil_of_length_eq_zero hb.symm
      subst e
      exact (equal_zero p q cp cq w).mono fun e w' ⟨h1, h2⟩ => ⟨h1, 0, h2.symm⟩
    · rcases rb with rfl | ⟨b2, o2, rfl, _, hc2⟩
      · obtain rfl : n = 0 := hb
        have e : a = [] := List.eq_nil_of_length_eq_zero ha.symm
        subst e
        exact (equal_zero _ q cp cq w).mono fun e w' ⟨h1, h2⟩ => ⟨h1, 0, h2.symm⟩
      · exact equal_some b1 o1 b2 o2 cp cq n a b ha hb hl w (by rw [ha]; exact hc1) (by rw [hb]; exact hc2)
  · have hf : (a == b) = false := beq_eq_false_iff_ne.2 fun h => hne (by rw [ha, hb, h])
    exact (equal_len p q n m cp cq hne w).mono fun e w' ⟨h1, h2⟩ => ⟨by rw [hf]; exact h1, 0, h2.symm⟩

theorem RowAt.keep {w w' : World} {p : Option Addr} {es : List Nat} (h : RowAt w p es) (hb : ∀ b off, p = some ⟨b, off, none⟩ → w'.heap[b]? = w.heap[b]?) : RowAt w' p es := by
  rcases h with h | ⟨b, off, rfl, hlt, hc⟩
  · exact .inl h
  · have he := hb b off rfl
    have hl2 : b < w'.heap.size := by
      have e := he; rw [Array.getElem?_eq_getElem hlt] at e; exact (Array.getElem?_eq_some_iff.1 e).1
    exact .inr ⟨b, off, rfl, hl2, fun k hk => by rw [World.cell?_of_block (w := w) (a := ⟨b, off + k, none⟩) he]; exact hc k hk⟩
theorem heap_two (x : World) (B k : Nat) (v0 v1 : Value) (h : k ≠ B) : ((x.setCell ⟨B, 0, none⟩ v0).setCell ⟨B, 1, none⟩ v1).heap[k]? = x.heap[k]? := by
  rw [Below.heap_setCell _ ⟨B, 1, none⟩ _ _ (by exact h), Below.heap_setCell _ ⟨B, 0, none⟩ _ _ (by exact h)]
theorem RowAt.lt {w : World} {b off : Nat} {es : List Nat} (h : RowAt w (some ⟨b, off, none⟩) es) : b < w.heap.size := by
  rcases h with ⟨h, _⟩ | ⟨b', off', h, hlt, _⟩
  · cases h
  · cases h; exact hlt
theorem awake_calls (w : World) : Calls Tryz.prog 104 #[] w fun e w' => e = .returned (.bool true) ∧ Below w.heap.size w w' := by
  have g0 : Good 10 [] := ⟨List.Pairwise.nil, rfl, (fun e h => by cases h), by decide⟩
  have s1 : laidS 10 [] 2 3 true = [2, 5] := by decide
  have s2 : laidS 10 [2, 5] 3 1 false = [2, 3, 4, 5] := by decide
  have e1 : laidErr 10 2 3 = 0 := by decide
  have e2 : laidErr 10 3 1 = 0 := by decide
  have l10 : lenN 10 = 10 := by decide
  have g1 : Good 10 [2, 5] := by rw [← s1]; exact laidS_good g0 _ _ _
  have g2 : Good 10 [2, 3, 4, 5] := by rw [← s2]; exact laidS_good g1 _ _ _
  have f1 : firstB 10 [2, 3, 4, 5] 3 false = true := by decide
  have f2 : firstV 10 [2, 3, 4, 5] 3 false = 3 := by decide
  have fl : flat (pairs [2, 3, 4, 5]) = [2, 1, 4, 1] := by decide
  have G0 := Lib.hid g0; have S1 := Lib.hid s1; have S2 := Lib.hid s2; have E1 := Lib.hid e1; have E2 := Lib.hid e2; have L10 := Lib.hid l10; have F1 := Lib.hid f1; have F2 := Lib.hid f2; have FL := Lib.hid fl
  clear g0 s1 s2 e1 e2 l10 f1 f2 fl
  go_enter Tryz.func104, Tryz.ntmps104
  go_wp2_with fail
  refine (new_any _ _).mono ?_
  rw [L10.out]
  rintro e w1 ⟨rfl, hb1⟩
  go_wp2_with fail
  refine (with_any 10 none 0 0 [] 2 3 _ G0.out (.inl ⟨rfl, rfl⟩) rfl (Nat.le_refl _) (fun _ => rfl) (by omega)).mono ?_
  rintro e w2 ⟨p1, n1, c1, rfl, hn1, hc1, hp1, hr1, _, hb2⟩
  rw [S1.out] at hn1 hr1
  rw [E1.out]
  have HN1 := Lib.hid hn1; have HP1 := Lib.hid hp1; clear hn1 hp1
  have B2 : Below w.heap.size w w2 := hb1.trans (hb2.mono hb1.size)
  go_wp2_with fail
  refine (without_any 10 p1 n1 c1 [2, 5] 3 1 _ g1 (hr1.below ((Below.refl _ _).alloc (Nat.le_refl _) _)) HN1.out hc1 HP1.out (by omega)).mono ?_
  rintro e w3 ⟨p2, n2, c2, rfl, hn2, hc2, hp2, hr2, ha2, hb3⟩
  rw [S2.out] at hn2 hr2
  rw [E2.out]
  have HN2 := Lib.hid hn2; have HP2 := Lib.hid hp2; clear hn2 hp2
  have B3 : Below w.heap.size w w3 := B2.trans ((((Below.refl _ _).alloc (Nat.le_refl _) _).trans (hb3.mono (by simp))).mono B2.size)
  have c0 : w3.cell? ⟨w2.heap.size, 0, none⟩ = some (.int .i64 10) := by rw [hb3.cell (p := ⟨w2.heap.size, 0, none⟩) (by simp)]; simp
  have c1' : w3.cell? ⟨w2.heap.size, 1, none⟩ = some (.slice p1 n1 c1) := by rw [hb3.cell (p := ⟨w2.heap.size, 1, none⟩) (by simp)]; simp
  have z0 : w3.frozen? ⟨w2.heap.size, 0, none⟩ = false := by rw [hb3.frozen (p := ⟨w2.heap.size, 0, none⟩) (by simp)]; simp
  have z1 : w3.frozen? ⟨w2.heap.size, 1, none⟩ = false := by rw [hb3.frozen (p := ⟨w2.heap.size, 1, none⟩) (by simp)]; simp
  have hne : ∀ b off, p2 = some ⟨b, off, none⟩ → b ≠ w2.heap.size := fun b off h => by
    rcases ha2 with h2 | ⟨a, h2, h3⟩
    · rw [h2] at h; subst h; have := hr1.lt; omega
    · rw [h] at h2; cases h2; simp at h3; omega
  have hcap2 : n2 ≤ 1048577 := by rw [HN2.out]; decide
  go_wp2_with fail
  have R4 : RowAt ((w3.setCell ⟨w2.heap.size, 0, none⟩ (.int .i64 10)).setCell ⟨w2.heap.size, 1, none⟩ (.slice p2 n2 c2)) p2 [2, 3, 4, 5] := hr2.keep fun b off h => heap_two _ _ _ _ _ (hne b off h)
  have B4 : Below w.heap.size w ((w3.setCell ⟨w2.heap.size, 0, none⟩ (.int .i64 10)).setCell ⟨w2.heap.size, 1, none⟩ (.slice p2 n2 c2)) := (B3.setCell (p := ⟨w2.heap.size, 0, none⟩) B2.size _).setCell (p := ⟨w2.heap.size, 1, none⟩) B2.size _
  have k0 := (two_set c0 c1' (.int .i64 10) (.slice p2 n2 c2)).1
  have k1 := (two_set c0 c1' (.int .i64 10) (.slice p2 n2 c2)).2
  have sz4 : w2.heap.size < ((w3.setCell ⟨w2.heap.size, 0, none⟩ (.int .i64 10)).setCell ⟨w2.heap.size, 1, none⟩ (.slice p2 n2 c2)).heap.size := World.block_lt_of_cell? _ _ k0
  refine (first_any 10 p2 n2 c2 [2, 3, 4, 5] 3 false _ g2 R4 HN2.out).mono ?_
  rw [F1.out, F2.out]
  rintro e w5 ⟨rfl, hb5⟩
  have R5 := R4.below hb5
  have B5 : Below w.heap.size w w5 := B4.trans (hb5.mono B4.size)
  have m0 : w5.cell? ⟨w2.heap.size, 0, none⟩ = some (.int .i64 10) := (hb5.cell (p := ⟨w2.heap.size, 0, none⟩) sz4).trans k0
  have m1 : w5.cell? ⟨w2.heap.size, 1, none⟩ = some (.slice p2 n2 c2) := (hb5.cell (p := ⟨w2.heap.size, 1, none⟩) sz4).trans k1
  clear k0 k1 c0 c1' z0 z1
  go_wp2_with fail
  refine (rows_any 10 p2 n2 c2 [2, 3, 4, 5] _ g2 HN2.out R5).mono ?_
  rintro e w6 ⟨v, rfl, hv, hb6⟩
  rw [FL.out] at hv
  obtain ⟨pv, cv, rfl, hv'⟩ := hv.row
  have B6 : Below w.heap.size w w6 := B5.trans (hb6.mono B5.size)
  go_wp2_with fail
  refine (equal_any pv (some ⟨w6.heap.size, 0, none⟩) cv 4 4 4 [2, 1, 4, 1] [2, 1, 4, 1] rfl rfl (by omega) _ ?_ ?_).mono ?_
  · rcases hv' with h | ⟨b, off, h, hlt, hc⟩
    · cases h
    · exact .inr ⟨b, off, h, by simp; omega, fun k hk => by rw [((Below.refl _ _).alloc (Nat.le_refl _) _ : Below w6.heap.size w6 _).cell (p := ⟨b, off + k, none⟩) hlt]; exact hc k hk⟩
  · refine .inr ⟨w6.heap.size, 0, rfl, by simp, fun k hk => ?_⟩
    match k, hk with
    | 0, _ => simp
    | 1, _ => simp
    | 2, _ => simp
    | 3, _ => simp
    | n + 4, hk => simp at hk; omega
  · rintro e w7 ⟨rfl, nd, rfl⟩
    go_wp2_with fail
    go_ret
    exact ⟨rfl, below_drewN (B6.alloc B6.size _) _⟩
end Go.Proofs.YtmnhpmgffhpoeaaGreat.Bt
