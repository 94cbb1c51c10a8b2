/- The contract of Store: what it returns, and what it turns. -/
import Derived.Test.YtmnhpmgffhpoeaaGreatArWalksE
import Derived.Deep.RegionWith
namespace Go.Proofs.YtmnhpmgffhpoeaaGreat.Bt
open Go Go.RowKit Go.Shelf
set_option linter.unusedVariables false

/-- the lowest k bytes of a number, the lowest first -/
def byteN (x : Int) (i : Nat) : UInt8 := UInt8.ofNat (x.toNat / 2 ^ (8 * i))
def numB (x : Int) (k : Nat) : List UInt8 := (List.range k).map (byteN x)
theorem numB_succ (x : Int) (k : Nat) : numB x (k + 1) = numB x k ++ [byteN x k] := by simp [numB, List.range_succ]
theorem numB_length (x : Int) (k : Nat) : (numB x k).length = k := by simp [numB]
theorem byte_val {x : Int} (hx : 0 ≤ x) (j : Nat) : IntKind.u8.wrap (x / 2 ^ (8 * j)) = ((byteN x j).toNat : Int) := by
  have e : x / 2 ^ (8 * j) = ((x.toNat / 2 ^ (8 * j) : Nat) : Int) := by
    obtain ⟨xn, rfl⟩ : ∃ xn : Nat, x = xn := ⟨x.toNat, by omega⟩
    simp
  rw [e]
  generalize hz : x.toNat / 2 ^ (8 * j) = z
  have e2 : IntKind.u8.wrap (z : Int) = ((z % 256 : Nat) : Int) := by simp [IntKind.wrap, IntKind.bits, IntKind.signed]
  rw [e2]
  unfold byteN
  rw [hz]
  simp
theorem ArX.setByte {A P n cap : Nat} {s : ASt} {ps : List (Option Nat)} {p : Option Addr} {x : World} (h : ArX A s P ps p n cap x) {i b j : Nat} (hb : ps[i]? = some (some b)) (hj : j < 4096) (y : UInt8) :
    ArX A { s with mm := fun k => if k = i * 4096 + j then y else s.mm k } P ps p n cap (x.setCell ⟨b, j, none⟩ (.int .u8 (y.toNat : Int))) ∧ Step A P ps ps x (x.setCell ⟨b, j, none⟩ (.int .u8 (y.toNat : Int))) := by
  refine ⟨h.paged hb (by rw [set_size]; exact Nat.le_refl _) ?_ (fun k _ hk => Below.heap_setCell _ _ _ _ (by exact hk)) (fun k hk => if_neg (fun e => hk (by omega))), ⟨rfl, rfl, rfl, by rw [set_size]; exact Nat.le_refl _, fun k _ hk => Below.heap_setCell _ _ _ _ (by show k ≠ b; exact fun e => hk (.inr (.inr ⟨i, by rw [e]; exact hb⟩))), fun _ _ e => .inl e⟩⟩
  rw [heap_set (h.pg i b hb)]
  have e := pg_set (m := s.mm) (m' := fun k => if k = i * 4096 + j then y else s.mm k) (i := i) hj (y := y) (fun k hk => by
    by_cases e : k = j
    · subst e; simp
    · rw [if_neg e, if_neg (by omega)])
  rw [e]
section
variable {A P n cap : Nat} {s : ASt} {ps : List (Option Nat)} {p : Option Addr} {w : World}
def StRel (A P : Nat) (s : ASt) (ps : List (Option Nat)) (p : Option Addr) (n cap an kn : Nat) (x : Int) (w : World) (i : Value) (wr : World) : Prop :=
  ∃ (j : Nat) (ps' : List (Option Nat)), j ≤ kn ∧ i = .int .i64 j ∧ ArX A { s with mm := putM s.mm an (numB x j) } P ps' p n cap wr ∧ Step A P ps ps' w wr
def storeS (s : ASt) (a k x : Int) : ASt := if numE s.L s.es a k = 0 then { s with mm := putM s.mm a.toNat (numB x k.toNat) } else s
def StorePost (A P : Nat) (s : ASt) (ps : List (Option Nat)) (p : Option Addr) (a k x : Int) (w : World) (e : Ending) (w' : World) : Prop :=
  e = .returned (.int .i64 (numE s.L s.es a k)) ∧ Turned A P ps p (storeS s a k x) w w'
set_option maxRecDepth 100000 in
set_option maxHeartbeats 1000000 in
theorem store_yes (h : ArX A s P ps p n cap w) (a k x : Int) (ha : a ≤ 9223372036854775807) (hx : 0 ≤ x) (hn : numE s.L s.es a k = 0) :
    Calls Tryz.prog 65 #[.pointer (some ⟨A, 0, none⟩), .int .i64 a, .int .i64 k, .int .u64 x] w (StorePost A P s ps p a k x w) := by
  have hw : wholeB k = true := by
    unfold numE at hn; cases hq : wholeB k with
    | true => rfl
    | false => rw [hq] at hn; cases hn
  have ht : thereB s.L s.es a k = true := by
    unfold numE thereE at hn; rw [hw] at hn
    cases hq : thereB s.L s.es a k with
    | true => rfl
    | false => rw [hq] at hn; cases hn
  obtain ⟨t0, t1, t2, t3⟩ := (there_iff h.good a k).1 ht
  have hk8 : 1 ≤ k ∧ k ≤ 8 := by rcases whole_cases hw with rfl | rfl | rfl | rfl <;> omega
  have HM : Hid (∀ i : Int, a ≤ i → i < a + k → mem s.es (i / 4096) = true) := Lib.hid t3
  have hsm := h.good.small
  have HNU := Lib.hid hn
  have HC := fun w (hw : ArX A s P ps p n cap w) => number_any hw a k ha
  clear t3 hn hw ht
  go_enter Tryz.func65, Tryz.ntmps65
  go_wp2_with fail
  refine (HC _ h).mono ?_
  rintro e w1 ⟨rfl, hb⟩
  rw [HNU.out]
  have h' := h.below hb
  clear h HC
  have HX := Lib.hid h'
  clear h'
  obtain ⟨an, rfl⟩ : ∃ an : Nat, a = an := ⟨a.toNat, by omega⟩
  obtain ⟨kn, rfl⟩ : ∃ kn : Nat, k = kn := ⟨k.toNat, by omega⟩
  go_wp2_with fail
  go_loopw [20] (fun i wr => StRel A P s ps p n cap an kn x w i wr) (fun i _ => kn - (intOf i).toNat)
  case atStart => exact ⟨0, ps, Nat.zero_le _, rfl, by rw [show numB x 0 = [] from rfl, putM_nil]; exact HX.out, Step.of_below hb⟩
  case round =>
    obtain ⟨j, ps', hj, rfl, hxj, hst⟩ := hrel
    by_cases hlt : j < kn
    · have hi : (an + j) / 4096 < s.L := by omega
      have hm := HM.out ((an + j : Nat) : Int) (by omega) (by omega)
      have hm' : mem s.es (((an + j) / 4096 : Nat) : Int) = true := by
        rw [show ((((an + j) / 4096 : Nat)) : Int) = ((an + j : Nat) : Int) / 4096 from by omega]; exact hm
      clear hm
      have q1 : IntKind.i64.wrap ((an : Int) + j) = (an : Int) + j := IntWalk.i64_in _ (by omega)
      have q2 : 0 ≤ (an : Int) + j := by omega
      have q3 : ((an : Int) + j).toNat = an + j := by omega
      have q4 : IntKind.i64.wrap (8 * (j : Int)) = 8 * (j : Int) := IntWalk.i64_in _ (by omega)
      have q5 : 0 ≤ 8 * (j : Int) := by omega
      obtain ⟨mi, hmi⟩ : ∃ mi, (an + j) / 4096 = mi := ⟨_, rfl⟩
      obtain ⟨mj, hmj⟩ : ∃ mj, (an + j) % 4096 = mj := ⟨_, rfl⟩
      have q6 : IntKind.i64.wrap (((an : Int) + j).tdiv 4096) = (mi : Int) := by rw [Int.tdiv_eq_ediv_of_nonneg (by omega)]; rw [IntWalk.i64_in _ (by omega)]; omega
      have q7 : ((an : Int) + j).tmod 4096 = (mj : Int) := by rw [Int.tmod_eq_emod_of_nonneg (by omega)]; omega
      have q10 : (8 * (j : Int)).toNat = 8 * j := by omega
      have q8 : (mj : Int) < 4096 := by omega
      have q9 : mj < 4096 := by omega
      have HMJ : Hid (mi * 4096 + mj = an + j) := Lib.hid (by omega)
      rw [hmi] at hi hm'
      clear hmi hmj
      obtain ⟨yb, hyb⟩ : ∃ yb : Int, ((byteN x j).toNat : Int) = yb := ⟨_, rfl⟩
      have hv : x / 2 ^ (8 * j) % 256 = yb := by
        have h1 := byte_val hx j
        rw [hyb] at h1
        rw [← h1]; simp [IntKind.wrap, IntKind.bits, IntKind.signed]
      have HYB := Lib.hid hyb
      clear hyb
      have hil : mi < ps'.length := by rw [hxj.len]; exact hi
      obtain ⟨c0, c1, c2, c3, c4⟩ := hxj.head
      have hcase : (byteN x j = 0 ∧ ps'[mi]? = some none) ∨ (byteN x j ≠ 0 ∨ byteN x j = 0 ∧ ∃ b, ps'[mi]? = some (some b)) := by
        by_cases h0 : byteN x j = 0
        · cases hq : ps'[mi]? with
          | none => rw [List.getElem?_eq_none_iff] at hq; omega
          | some q => cases q with
            | none => exact .inl ⟨h0, rfl⟩
            | some b => exact .inr (.inr ⟨h0, b, rfl⟩)
        · exact .inr (.inl h0)
      rcases hcase with ⟨h0, hq⟩ | hcase
      · obtain rfl : yb = 0 := by rw [← HYB.out, h0]; rfl
        have hsl := hxj.slot hq
        simp only [ptrV] at hsl
        have HQ := Lib.hid hq
        have H0 := Lib.hid h0
        have HXJ := Lib.hid (And.intro hxj hst)
        clear hq h0 hxj hst
        go_wp2_with fail
        go_roundw
        case rel =>
          refine ⟨j + 1, ps', by omega, by go_num, ?_, HXJ.out.2⟩
          have hz : putM s.mm an (numB x j) (mi * 4096 + mj) = 0 := HXJ.out.1.no _ HQ.out mj q9
          have e : putM s.mm an (numB x (j + 1)) = putM s.mm an (numB x j) := by
            rw [numB_succ, putM_snoc, numB_length, ← HMJ.out]
            funext i
            by_cases e : i = mi * 4096 + mj
            · rw [if_pos e, H0.out, e, hz]
            · rw [if_neg e]
          rw [e]; exact HXJ.out.1
        case measure => simp [intOf]; omega
      rcases hcase with h0 | ⟨h0, b0, hq⟩
      · have d0 : ¬ yb = 0 := by
          rw [← HYB.out]
          have h1 : (byteN x j).toNat ≠ 0 := fun e => h0 (UInt8.toNat_inj.1 e)
          omega
        clear h0
        go_wp2_with fail
        refine (laid_page hxj mi hi hm').mono ?_
        rintro e w' ⟨b, ps2, rfl, hpb, hx2, hs2⟩
        have hby := hx2.byte hpb q9
        have hfr := (cell_blk (hx2.pg _ b hpb) mj).2
        have hsb := hx2.setByte hpb q9 (byteN x j)
        rw [HYB.out] at hsb
        have HSB := Lib.hid hsb
        clear hsb
        have HSS := Lib.hid ((hst.trans hs2).trans (HSB.out.2))
        clear hpb hs2 hxj hst
        go_wp2_with fail
        go_roundw
        case rel =>
          refine ⟨j + 1, ps2, by omega, by go_num, ?_, HSS.out⟩
          have e : putM s.mm an (numB x (j + 1)) = fun k => if k = mi * 4096 + mj then byteN x j else putM s.mm an (numB x j) k := by
            rw [numB_succ, putM_snoc, numB_length, HMJ.out]
          rw [e]; exact HSB.out.1
        case measure => simp [intOf]; omega
      · obtain rfl : yb = 0 := by rw [← HYB.out, h0]; rfl
        have hsl := hxj.slot hq
        simp only [ptrV] at hsl
        clear h0 hq
        go_wp2_with fail
        refine (laid_page hxj mi hi hm').mono ?_
        rintro e w' ⟨b, ps2, rfl, hpb, hx2, hs2⟩
        have hby := hx2.byte hpb q9
        have hfr := (cell_blk (hx2.pg _ b hpb) mj).2
        have hsb := hx2.setByte hpb q9 (byteN x j)
        rw [HYB.out] at hsb
        have HSB := Lib.hid hsb
        clear hsb
        have HSS := Lib.hid ((hst.trans hs2).trans (HSB.out.2))
        clear hpb hs2 hxj hst
        go_wp2_with fail
        go_roundw
        case rel =>
          refine ⟨j + 1, ps2, by omega, by go_num, ?_, HSS.out⟩
          have e : putM s.mm an (numB x (j + 1)) = fun k => if k = mi * 4096 + mj then byteN x j else putM s.mm an (numB x j) k := by
            rw [numB_succ, putM_snoc, numB_length, HMJ.out]
          rw [e]; exact HSB.out.1
        case measure => simp [intOf]; omega
    · have hje : j = kn := by omega
      subst hje
      have HF := Lib.hid (And.intro hxj hst)
      clear hxj hst
      go_wp2_with fail
      go_ret
      refine ⟨by rw [HNU.out]; rfl, ps', p, n, cap, ?_, HF.out.2, fun _ _ _ => .inl rfl⟩
      unfold storeS
      rw [HNU.out, if_pos rfl, Int.toNat_natCast, Int.toNat_natCast]; exact HF.out.1
theorem store_no (h : ArX A s P ps p n cap w) (a k x : Int) (ha : a ≤ 9223372036854775807) (hn : numE s.L s.es a k ≠ 0) :
    Calls Tryz.prog 65 #[.pointer (some ⟨A, 0, none⟩), .int .i64 a, .int .i64 k, .int .u64 x] w (StorePost A P s ps p a k x w) := by
  have hb0 : (numE s.L s.es a k != 0) = true := by rw [bne_iff_ne]; exact hn
  have HC := fun w (hw : ArX A s P ps p n cap w) => number_any hw a k ha
  have HNE := Lib.hid hn
  have HX := Lib.hid h
  clear hn
  go_enter Tryz.func65, Tryz.ntmps65
  go_wp2_with fail
  refine (HC _ h).mono ?_
  rintro e w1 ⟨rfl, hb⟩
  clear h HC
  go_wp2_with fail
  go_ret
  exact ⟨rfl, ps, p, n, cap, by unfold storeS; rw [if_neg HNE.out]; exact HX.out.below hb, Step.of_below hb, fun _ _ _ => .inl rfl⟩
theorem store_any (h : ArX A s P ps p n cap w) (a k x : Int) (ha : a ≤ 9223372036854775807) (hx : 0 ≤ x) :
    Calls Tryz.prog 65 #[.pointer (some ⟨A, 0, none⟩), .int .i64 a, .int .i64 k, .int .u64 x] w (StorePost A P s ps p a k x w) := by
  by_cases hn : numE s.L s.es a k = 0
  · exact store_yes h a k x ha hx hn
  · exact store_no h a k x ha hn
theorem store_nil (a k x : Int) (w : World) : Calls Tryz.prog 65 #[.pointer none, .int .i64 a, .int .i64 k, .int .u64 x] w fun e w' => e = .returned (.int .i64 1) ∧ w = w' := by
  go_enter Tryz.func65, Tryz.ntmps65
  go_wp2_with fail
  refine (number_nil a k _).mono ?_
  rintro e w1 ⟨rfl, rfl⟩
  go_wp2_with fail
  go_ret
  exact ⟨rfl, rfl⟩
end
end Go.Proofs.YtmnhpmgffhpoeaaGreat.Bt
