/- ArWalksE, ArWalksF, ArIter. -/
import Derived.Test.YtbeldoiaecjkgaaGreatDoorMoJ
import Derived.Laws.BitsAllLaws
import Derived.Deep.RegionWith
section
namespace Go.Proofs.YtbeldoiaecjkgaaGreatDoor.Bt
open Go Go.RowKit Go.Shelf
set_option linter.unusedVariables false

/-- the number in k bytes at a, the lowest first -/
def numV (m : Nat → UInt8) (a : Nat) : Nat → Nat
  | 0 => 0
  | k + 1 => numV m a k + (m (a + k)).toNat * 2 ^ (8 * k)
theorem numV_lt (m : Nat → UInt8) (a k : Nat) : numV m a k < 2 ^ (8 * k) := by
  induction k with
  | zero => simp [numV]
  | succ k ih =>
    unfold numV
    have hb : (m (a + k)).toNat < 256 := (m (a + k)).toNat_lt
    have e : 2 ^ (8 * (k + 1)) = 256 * 2 ^ (8 * k) := by rw [show 8 * (k + 1) = 8 * k + 8 from by omega, Nat.pow_add]; omega
    rw [e]
    have : (m (a + k)).toNat * 2 ^ (8 * k) ≤ 255 * 2 ^ (8 * k) := Nat.mul_le_mul_right _ (by omega)
    omega
theorem or_byte (x c j : Nat) (hx : x < 2 ^ (8 * j)) (hc : c < 256) (hj : j < 8) :
    bits .or .u64 (x : Int) (IntKind.u64.wrap (IntKind.u64.wrap (c : Int) * 2 ^ (8 * j))) = ((x + c * 2 ^ (8 * j) : Nat) : Int) := by
  have hp : 2 ^ (8 * j) ≤ 2 ^ 56 := Nat.pow_le_pow_right (by omega) (by omega)
  have hcp : c * 2 ^ (8 * j) ≤ 255 * 2 ^ 56 := Nat.mul_le_mul (by omega) hp
  have e1 : IntKind.u64.wrap (c : Int) = (c : Int) := by rw [IntKind.wrap_u64]; omega
  have e2 : ((c : Int) * 2 ^ (8 * j)) = ((c * 2 ^ (8 * j) : Nat) : Int) := by simp
  have e3 : IntKind.u64.wrap (((c * 2 ^ (8 * j) : Nat) : Int)) = ((c * 2 ^ (8 * j) : Nat) : Int) := by rw [IntKind.wrap_u64]; omega
  rw [e1, e2, e3, u64_or_nat _ _ (by omega) (by omega)]
  congr 1
  have := Nat.shiftLeft_add_eq_or_of_lt hx c
  rw [Nat.shiftLeft_eq] at this
  rw [Nat.or_comm, ← this, Nat.add_comm]
section
variable {A P n cap : Nat} {s : ASt} {ps : List (Option Nat)} {p : Option Addr} {w : World}
def LoadPost (m : Nat → UInt8) (L : Nat) (es : List Nat) (a k : Int) (w : World) (e : Ending) (w' : World) : Prop :=
  e = .returned (.tuple #[.int .u64 (if numE L es a k = 0 then (numV m a.toNat k.toNat : Int) else 0), .int .i64 (numE L es a k)]) ∧ Below w.heap.size w w'
theorem load_yes (h : ArX A s P ps p n cap w) (a k : Int) (ha : a ≤ 9223372036854775807) (hn : numE s.L s.es a k = 0) :
    Calls Tryz.prog 172 #[.pointer (some ⟨A, 0, none⟩), .int .i64 a, .int .i64 k] w (LoadPost s.mm s.L s.es a k w) := by
  have hw : wholeB k = true := by
    unfold numE at hn; cases hq : wholeB k with
    | true => rfl
    | false => rw [hq] at hn; cases hn
  have ht : thereB s.L s.es a k = true := by
    unfold numE thereE at hn; rw [hw] at hn
    cases hq : thereB s.L s.es a k with
    | true => rfl
    | false => rw [hq] at hn; cases hn
  obtain ⟨t0, t1, t2, t3⟩ := (there_iff h.good a k).1 ht
  have hk8 : 1 ≤ k ∧ k ≤ 8 := by rcases whole_cases hw with rfl | rfl | rfl | rfl <;> omega
  have HM : Hid (∀ i : Int, a ≤ i → i < a + k → mem s.es (i / 4096) = true) := Lib.hid t3
  have hsm := h.good.small
  have HNU := Lib.hid hn
  have HC := fun w (hw : ArX A s P ps p n cap w) => number_any hw a k ha
  clear t3 hn hw ht
  go_enter Tryz.func172, Tryz.ntmps172
  go_wp2_with fail
  refine (HC _ h).mono ?_
  rintro e w1 ⟨rfl, hb⟩
  rw [HNU.out]
  have h' := h.below hb
  clear h HC
  obtain ⟨c0, c1, c2, c3, c4⟩ := h'.head
  have HX := Lib.hid h'
  clear h'
  obtain ⟨an, rfl⟩ : ∃ an : Nat, a = an := ⟨a.toNat, by omega⟩
  obtain ⟨kn, rfl⟩ : ∃ kn : Nat, k = kn := ⟨k.toNat, by omega⟩
  go_wp2_with fail
  go_loop [9, 20] (fun x i => ∃ j : Nat, j ≤ kn ∧ i = .int .i64 j ∧ x = .int .u64 (numV s.mm an j : Int)) (fun _ i => kn - (intOf i).toNat)
  case atStart => exact ⟨0, Nat.zero_le _, rfl, rfl⟩
  case round =>
    obtain ⟨j, hj, rfl, rfl⟩ := hrel
    by_cases hlt : j < kn
    · have hi : (an + j) / 4096 < s.L := by omega
      have hil : (an + j) / 4096 < ps.length := by rw [HX.out.len]; exact hi
      have e1 : ((an : Int) + j).toNat = an + j := by omega
      cases hq : ps[(an + j) / 4096]? with
      | none => rw [List.getElem?_eq_none_iff] at hq; omega
      | some q =>
        have hsl := HX.out.slot hq
        cases q with
        | none =>
          simp only [ptrV] at hsl
          have HQ := Lib.hid hq; clear hq
          have hz : s.mm (an + j) = 0 := by
            have := HX.out.no _ HQ.out ((an + j) % 4096) (by omega)
            rw [show (an + j) / 4096 * 4096 + (an + j) % 4096 = an + j from by omega] at this; exact this
          have HZ : Hid (numV s.mm an (j + 1) = numV s.mm an j) := Lib.hid (by unfold numV; rw [hz]; cases j <;> simp [numV])
          clear hz
          go_wp2_with fail
          go_round
          case rel => exact ⟨j + 1, by omega, by go_num, by rw [HZ.out]⟩
          case measure => simp [intOf]; omega
        | some b =>
          have hby := HX.out.byte hq (show (an + j) % 4096 < 4096 by omega)
          simp only [ptrV] at hsl
          have HQ := Lib.hid hq; clear hq
          have HZ : Hid (bits BinOp.or IntKind.u64 (numV s.mm an j : Int) (IntKind.u64.wrap (IntKind.u64.wrap ((s.mm ((an + j) / 4096 * 4096 + (an + j) % 4096)).toNat : Int) * 2 ^ (8 * j))) = ((numV s.mm an (j + 1) : Nat) : Int)) := Lib.hid (by
            rw [show (an + j) / 4096 * 4096 + (an + j) % 4096 = an + j from by omega]
            exact or_byte _ _ j (numV_lt _ _ _) (UInt8.toNat_lt _) (by omega))
          go_wp2_with fail
          go_round
          case rel => exact ⟨j + 1, by omega, by go_num, by rw [HZ.out]⟩
          case measure => simp [intOf]; omega
    · have hje : j = kn := by omega
      subst hje
      go_wp2_with fail
      go_ret2
      refine ⟨?_, hb⟩
      rw [HNU.out, if_pos rfl, Int.toNat_natCast, Int.toNat_natCast]; rfl
theorem load_no (h : ArX A s P ps p n cap w) (a k : Int) (ha : a ≤ 9223372036854775807) (hn : numE s.L s.es a k ≠ 0) :
    Calls Tryz.prog 172 #[.pointer (some ⟨A, 0, none⟩), .int .i64 a, .int .i64 k] w (LoadPost s.mm s.L s.es a k w) := by
  have hb0 : (numE s.L s.es a k != 0) = true := by rw [bne_iff_ne]; exact hn
  have HC := fun w (hw : ArX A s P ps p n cap w) => number_any hw a k ha
  have HNE := Lib.hid hn
  clear hn
  go_enter Tryz.func172, Tryz.ntmps172
  go_wp2_with fail
  refine (HC _ h).mono ?_
  rintro e w1 ⟨rfl, hb⟩
  clear h HC
  go_wp2_with fail
  go_ret2
  refine ⟨?_, hb⟩
  rw [if_neg HNE.out]; rfl
theorem load_any (h : ArX A s P ps p n cap w) (a k : Int) (ha : a ≤ 9223372036854775807) :
    Calls Tryz.prog 172 #[.pointer (some ⟨A, 0, none⟩), .int .i64 a, .int .i64 k] w (LoadPost s.mm s.L s.es a k w) := by
  by_cases hn : numE s.L s.es a k = 0
  · exact load_yes h a k ha hn
  · exact load_no h a k ha hn
theorem load_nil (a k : Int) (w : World) : Calls Tryz.prog 172 #[.pointer none, .int .i64 a, .int .i64 k] w fun e w' => e = .returned (.tuple #[.int .u64 0, .int .i64 1]) ∧ w = w' := by
  go_enter Tryz.func172, Tryz.ntmps172
  go_wp2_with fail
  refine (number_nil a k _).mono ?_
  rintro e w1 ⟨rfl, rfl⟩
  go_wp2_with fail
  go_ret2
  exact ⟨rfl, rfl⟩
end
end Go.Proofs.YtbeldoiaecjkgaaGreatDoor.Bt
end
section
namespace Go.Proofs.YtbeldoiaecjkgaaGreatDoor.Bt
open Go Go.RowKit Go.Shelf
set_option linter.unusedVariables false

/-- the lowest k bytes of a number, the lowest first -/
def byteN (x : Int) (i : Nat) : UInt8 := UInt8.ofNat (x.toNat / 2 ^ (8 * i))
def numB (x : Int) (k : Nat) : List UInt8 := (List.range k).map (byteN x)
theorem numB_succ (x : Int) (k : Nat) : numB x (k + 1) = numB x k ++ [byteN x k] := by simp [numB, List.range_succ]
theorem numB_length (x : Int) (k : Nat) : (numB x k).length = k := by simp [numB]
theorem byte_val {x : Int} (hx : 0 ≤ x) (j : Nat) : IntKind.u8.wrap (x / 2 ^ (8 * j)) = ((byteN x j).toNat : Int) := by
  have e : x / 2 ^ (8 * j) = ((x.toNat / 2 ^ (8 * j) : Nat) : Int) := by
    obtain ⟨xn, rfl⟩ : ∃ xn : Nat, x = xn := ⟨x.toNat, by omega⟩
    simp
  rw [e]
  generalize hz : x.toNat / 2 ^ (8 * j) = z
  have e2 : IntKind.u8.wrap (z : Int) = ((z % 256 : Nat) : Int) := by simp [IntKind.wrap, IntKind.bits, IntKind.signed]
  rw [e2]
  unfold byteN
  rw [hz]
  simp
theorem ArX.setByte {A P n cap : Nat} {s : ASt} {ps : List (Option Nat)} {p : Option Addr} {x : World} (h : ArX A s P ps p n cap x) {i b j : Nat} (hb : ps[i]? = some (some b)) (hj : j < 4096) (y : UInt8) :
    ArX A { s with mm := fun k => if k = i * 4096 + j then y else s.mm k } P ps p n cap (x.setCell ⟨b, j, none⟩ (.int .u8 (y.toNat : Int))) ∧ Step A P ps ps x (x.setCell ⟨b, j, none⟩ (.int .u8 (y.toNat : Int))) := by
  refine ⟨h.paged hb (by rw [set_size]; exact Nat.le_refl _) ?_ (fun k _ hk => Below.heap_setCell _ _ _ _ (by exact hk)) (fun k hk => if_neg (fun e => hk (by omega))), ⟨rfl, rfl, rfl, by rw [set_size]; exact Nat.le_refl _, fun k _ hk => Below.heap_setCell _ _ _ _ (by show k ≠ b; exact fun e => hk (.inr (.inr ⟨i, by rw [e]; exact hb⟩))), fun _ _ e => .inl e⟩⟩
  rw [heap_set (h.pg i b hb)]
  have e := pg_set (m := s.mm) (m' := fun k => if k = i * 4096 + j then y else s.mm k) (i := i) hj (y := y) (fun k hk => by
    by_cases e : k = j
    · subst e; simp
    · rw [if_neg e, if_neg (by omega)])
  rw [e]
section
variable {A P n cap : Nat} {s : ASt} {ps : List (Option Nat)} {p : Option Addr} {w : World}
def StRel (A P : Nat) (s : ASt) (ps : List (Option Nat)) (p : Option Addr) (n cap an kn : Nat) (x : Int) (w : World) (i : Value) (wr : World) : Prop :=
  ∃ (j : Nat) (ps' : List (Option Nat)), j ≤ kn ∧ i = .int .i64 j ∧ ArX A { s with mm := putM s.mm an (numB x j) } P ps' p n cap wr ∧ Step A P ps ps' w wr
def storeS (s : ASt) (a k x : Int) : ASt := if numE s.L s.es a k = 0 then { s with mm := putM s.mm a.toNat (numB x k.toNat) } else s
def StorePost (A P : Nat) (s : ASt) (ps : List (Option Nat)) (p : Option Addr) (a k x : Int) (w : World) (e : Ending) (w' : World) : Prop :=
  e = .returned (.int .i64 (numE s.L s.es a k)) ∧ Turned A P ps p (storeS s a k x) w w'
set_option maxRecDepth 100000 in
set_option maxHeartbeats 1000000 in
theorem store_yes (h : ArX A s P ps p n cap w) (a k x : Int) (ha : a ≤ 9223372036854775807) (hx : 0 ≤ x) (hn : numE s.L s.es a k = 0) :
    Calls Tryz.prog 131 #[.pointer (some ⟨A, 0, none⟩), .int .i64 a, .int .i64 k, .int .u64 x] w (StorePost A P s ps p a k x w) := by
  have hw : wholeB k = true := by
    unfold numE at hn; cases hq : wholeB k with
    | true => rfl
    | false => rw [hq] at hn; cases hn
  have ht : thereB s.L s.es a k = true := by
    unfold numE thereE at hn; rw [hw] at hn
    cases hq : thereB s.L s.es a k with
    | true => rfl
    | false => rw [hq] at hn; cases hn
  obtain ⟨t0, t1, t2, t3⟩ := (there_iff h.good a k).1 ht
  have hk8 : 1 ≤ k ∧ k ≤ 8 := by rcases whole_cases hw with rfl | rfl | rfl | rfl <;> omega
  have HM : Hid (∀ i : Int, a ≤ i → i < a + k → mem s.es (i / 4096) = true) := Lib.hid t3
  have hsm := h.good.small
  have HNU := Lib.hid hn
  have HC := fun w (hw : ArX A s P ps p n cap w) => number_any hw a k ha
  clear t3 hn hw ht
  go_enter Tryz.func131, Tryz.ntmps131
  go_wp2_with fail
  refine (HC _ h).mono ?_
  rintro e w1 ⟨rfl, hb⟩
  rw [HNU.out]
  have h' := h.below hb
  clear h HC
  have HX := Lib.hid h'
  clear h'
  obtain ⟨an, rfl⟩ : ∃ an : Nat, a = an := ⟨a.toNat, by omega⟩
  obtain ⟨kn, rfl⟩ : ∃ kn : Nat, k = kn := ⟨k.toNat, by omega⟩
  go_wp2_with fail
  go_loopw [20] (fun i wr => StRel A P s ps p n cap an kn x w i wr) (fun i _ => kn - (intOf i).toNat)
  case atStart => exact ⟨0, ps, Nat.zero_le _, rfl, by rw [show numB x 0 = [] from rfl, putM_nil]; exact HX.out, Step.of_below hb⟩
  case round =>
    obtain ⟨j, ps', hj, rfl, hxj, hst⟩ := hrel
    by_cases hlt : j < kn
    · have hi : (an + j) / 4096 < s.L := by omega
      have hm := HM.out ((an + j : Nat) : Int) (by omega) (by omega)
      have hm' : mem s.es (((an + j) / 4096 : Nat) : Int) = true := by
        rw [show ((((an + j) / 4096 : Nat)) : Int) = ((an + j : Nat) : Int) / 4096 from by omega]; exact hm
      clear hm
      have q1 : IntKind.i64.wrap ((an : Int) + j) = (an : Int) + j := IntWalk.i64_in _ (by omega)
      have q2 : 0 ≤ (an : Int) + j := by omega
      have q3 : ((an : Int) + j).toNat = an + j := by omega
      have q4 : IntKind.i64.wrap (8 * (j : Int)) = 8 * (j : Int) := IntWalk.i64_in _ (by omega)
      have q5 : 0 ≤ 8 * (j : Int) := by omega
      obtain ⟨mi, hmi⟩ : ∃ mi, (an + j) / 4096 = mi := ⟨_, rfl⟩
      obtain ⟨mj, hmj⟩ : ∃ mj, (an + j) % 4096 = mj := ⟨_, rfl⟩
      have q6 : IntKind.i64.wrap (((an : Int) + j).tdiv 4096) = (mi : Int) := by rw [Int.tdiv_eq_ediv_of_nonneg (by omega)]; rw [IntWalk.i64_in _ (by omega)]; omega
      have q7 : ((an : Int) + j).tmod 4096 = (mj : Int) := by rw [Int.tmod_eq_emod_of_nonneg (by omega)]; omega
      have q10 : (8 * (j : Int)).toNat = 8 * j := by omega
      have q8 : (mj : Int) < 4096 := by omega
      have q9 : mj < 4096 := by omega
      have HMJ : Hid (mi * 4096 + mj = an + j) := Lib.hid (by omega)
      rw [hmi] at hi hm'
      clear hmi hmj
      obtain ⟨yb, hyb⟩ : ∃ yb : Int, ((byteN x j).toNat : Int) = yb := ⟨_, rfl⟩
      have hv : x / 2 ^ (8 * j) % 256 = yb := by
        have h1 := byte_val hx j
        rw [hyb] at h1
        rw [← h1]; simp [IntKind.wrap, IntKind.bits, IntKind.signed]
      have HYB := Lib.hid hyb
      clear hyb
      have hil : mi < ps'.length := by rw [hxj.len]; exact hi
      obtain ⟨c0, c1, c2, c3, c4⟩ := hxj.head
      have hcase : (byteN x j = 0 ∧ ps'[mi]? = some none) ∨ (byteN x j ≠ 0 ∨ byteN x j = 0 ∧ ∃ b, ps'[mi]? = some (some b)) := by
        by_cases h0 : byteN x j = 0
        · cases hq : ps'[mi]? with
          | none => rw [List.getElem?_eq_none_iff] at hq; omega
          | some q => cases q with
            | none => exact .inl ⟨h0, rfl⟩
            | some b => exact .inr (.inr ⟨h0, b, rfl⟩)
        · exact .inr (.inl h0)
      rcases hcase with ⟨h0, hq⟩ | hcase
      · obtain rfl : yb = 0 := by rw [← HYB.out, h0]; rfl
        have hsl := hxj.slot hq
        simp only [ptrV] at hsl
        have HQ := Lib.hid hq
        have H0 := Lib.hid h0
        have HXJ := Lib.hid (And.intro hxj hst)
        clear hq h0 hxj hst
        go_wp2_with fail
        go_roundw
        case rel =>
          refine ⟨j + 1, ps', by omega, by go_num, ?_, HXJ.out.2⟩
          have hz : putM s.mm an (numB x j) (mi * 4096 + mj) = 0 := HXJ.out.1.no _ HQ.out mj q9
          have e : putM s.mm an (numB x (j + 1)) = putM s.mm an (numB x j) := by
            rw [numB_succ, putM_snoc, numB_length, ← HMJ.out]
            funext i
            by_cases e : i = mi * 4096 + mj
            · rw [if_pos e, H0.out, e, hz]
            · rw [if_neg e]
          rw [e]; exact HXJ.out.1
        case measure => simp [intOf]; omega
      rcases hcase with h0 | ⟨h0, b0, hq⟩
      · have d0 : ¬ yb = 0 := by
          rw [← HYB.out]
          have h1 : (byteN x j).toNat ≠ 0 := fun e => h0 (UInt8.toNat_inj.1 e)
          omega
        clear h0
        go_wp2_with fail
        refine (laid_page hxj mi hi hm').mono ?_
        rintro e w' ⟨b, ps2, rfl, hpb, hx2, hs2⟩
        have hby := hx2.byte hpb q9
        have hfr := (cell_blk (hx2.pg _ b hpb) mj).2
        have hsb := hx2.setByte hpb q9 (byteN x j)
        rw [HYB.out] at hsb
        have HSB := Lib.hid hsb
        clear hsb
        have HSS := Lib.hid ((hst.trans hs2).trans (HSB.out.2))
        clear hpb hs2 hxj hst
        go_wp2_with fail
        go_roundw
        case rel =>
          refine ⟨j + 1, ps2, by omega, by go_num, ?_, HSS.out⟩
          have e : putM s.mm an (numB x (j + 1)) = fun k => if k = mi * 4096 + mj then byteN x j else putM s.mm an (numB x j) k := by
            rw [numB_succ, putM_snoc, numB_length, HMJ.out]
          rw [e]; exact HSB.out.1
        case measure => simp [intOf]; omega
      · obtain rfl : yb = 0 := by rw [← HYB.out, h0]; rfl
        have hsl := hxj.slot hq
        simp only [ptrV] at hsl
        clear h0 hq
        go_wp2_with fail
        refine (laid_page hxj mi hi hm').mono ?_
        rintro e w' ⟨b, ps2, rfl, hpb, hx2, hs2⟩
        have hby := hx2.byte hpb q9
        have hfr := (cell_blk (hx2.pg _ b hpb) mj).2
        have hsb := hx2.setByte hpb q9 (byteN x j)
        rw [HYB.out] at hsb
        have HSB := Lib.hid hsb
        clear hsb
        have HSS := Lib.hid ((hst.trans hs2).trans (HSB.out.2))
        clear hpb hs2 hxj hst
        go_wp2_with fail
        go_roundw
        case rel =>
          refine ⟨j + 1, ps2, by omega, by go_num, ?_, HSS.out⟩
          have e : putM s.mm an (numB x (j + 1)) = fun k => if k = mi * 4096 + mj then byteN x j else putM s.mm an (numB x j) k := by
            rw [numB_succ, putM_snoc, numB_length, HMJ.out]
          rw [e]; exact HSB.out.1
        case measure => simp [intOf]; omega
    · have hje : j = kn := by omega
      subst hje
      have HF := Lib.hid (And.intro hxj hst)
      clear hxj hst
      go_wp2_with fail
      go_ret
      refine ⟨by rw [HNU.out]; rfl, ps', p, n, cap, ?_, HF.out.2, fun _ _ _ => .inl rfl⟩
      unfold storeS
      rw [HNU.out, if_pos rfl, Int.toNat_natCast, Int.toNat_natCast]; exact HF.out.1
theorem store_no (h : ArX A s P ps p n cap w) (a k x : Int) (ha : a ≤ 9223372036854775807) (hn : numE s.L s.es a k ≠ 0) :
    Calls Tryz.prog 131 #[.pointer (some ⟨A, 0, none⟩), .int .i64 a, .int .i64 k, .int .u64 x] w (StorePost A P s ps p a k x w) := by
  have hb0 : (numE s.L s.es a k != 0) = true := by rw [bne_iff_ne]; exact hn
  have HC := fun w (hw : ArX A s P ps p n cap w) => number_any hw a k ha
  have HNE := Lib.hid hn
  have HX := Lib.hid h
  clear hn
  go_enter Tryz.func131, Tryz.ntmps131
  go_wp2_with fail
  refine (HC _ h).mono ?_
  rintro e w1 ⟨rfl, hb⟩
  clear h HC
  go_wp2_with fail
  go_ret
  exact ⟨rfl, ps, p, n, cap, by unfold storeS; rw [if_neg HNE.out]; exact HX.out.below hb, Step.of_below hb, fun _ _ _ => .inl rfl⟩
theorem store_any (h : ArX A s P ps p n cap w) (a k x : Int) (ha : a ≤ 9223372036854775807) (hx : 0 ≤ x) :
    Calls Tryz.prog 131 #[.pointer (some ⟨A, 0, none⟩), .int .i64 a, .int .i64 k, .int .u64 x] w (StorePost A P s ps p a k x w) := by
  by_cases hn : numE s.L s.es a k = 0
  · exact store_yes h a k x ha hx hn
  · exact store_no h a k x ha hn
theorem store_nil (a k x : Int) (w : World) : Calls Tryz.prog 131 #[.pointer none, .int .i64 a, .int .i64 k, .int .u64 x] w fun e w' => e = .returned (.int .i64 1) ∧ w = w' := by
  go_enter Tryz.func131, Tryz.ntmps131
  go_wp2_with fail
  refine (number_nil a k _).mono ?_
  rintro e w1 ⟨rfl, rfl⟩
  go_wp2_with fail
  go_ret
  exact ⟨rfl, rfl⟩
end
end Go.Proofs.YtbeldoiaecjkgaaGreatDoor.Bt
end
section
namespace Go.Proofs.YtbeldoiaecjkgaaGreatDoor.Bt
open Go Go.RowKit Go.Shelf
set_option linter.unusedVariables false

attribute [local go_sem] Oper.semAt_some

/-- a piece of n bytes at a: how many lie ahead of it, and how many it has -/
abbrev Pc (a n : Nat) := { x : Nat × Nat // 0 < x.2 ∧ x.1 + x.2 ≤ n ∧ (a + x.1) % 4096 + x.2 ≤ 4096 }
def encPc (a n : Nat) (x : Pc a n) : Array Value :=
  #[.int .i64 (x.1.1 : Int), .agg #[.int .i64 (((a + x.1.1) / 4096 : Nat) : Int), .int .i64 (((a + x.1.1) % 4096 : Nat) : Int), .int .i64 (((a + x.1.1) % 4096 + x.1.2 : Nat) : Int)]]
/-- is a byte in one of the pieces? -/
def cov {a n : Nat} (l : List (Pc a n)) (i : Nat) : Bool := l.any fun x => decide (x.1.1 ≤ i ∧ i < x.1.1 + x.1.2)
theorem cov_snoc {a n : Nat} (l : List (Pc a n)) (x : Pc a n) (i : Nat) : cov (l ++ [x]) i = (cov l i || decide (x.1.1 ≤ i ∧ i < x.1.1 + x.1.2)) := by simp [cov]
theorem cov_nil {a n : Nat} (i : Nat) : cov ([] : List (Pc a n)) i = false := rfl

set_option maxRecDepth 100000 in
set_option maxHeartbeats 2000000 in
theorem pieces1_in (nf l Bn Ba a n : Nat) (hn : n ≤ 4294967296) (hb : a ≤ 4294967296) (J Jx : List (Pc a n) → World → Prop)
    (hY : ∀ pre x W, J pre W → pre.length < n → YieldAt Fence.wide (nf - 1) Tryz.prog l (encPc a n x) W fun e W' =>
      (e = .returned (.bool true) ∧ J (pre ++ [x]) W' ∧ K2 Bn Ba W W') ∨ (e = .returned (.bool false) ∧ Jx (pre ++ [x]) W'))
    (W : World) (hN : W.cell? ⟨Bn, 0, none⟩ = some (.int .i64 (n : Int))) (hA : W.cell? ⟨Ba, 0, none⟩ = some (.int .i64 (a : Int))) (h0 : J [] W) :
    CallsIn Fence.wide nf Tryz.prog 202 #[.func (.yield l) #[] #[], .pointer (some ⟨Bn, 0, none⟩), .pointer (some ⟨Ba, 0, none⟩)] W fun e W' => (∃ v, e = .returned v) ∧
      ((∃ ys, (∀ i, i < n → cov ys i = true) ∧ J ys W') ∨ (∃ pre, True ∧ Jx pre W')) := by
  refine callsIn_of_wp Tryz.func202 rfl trivial ?_ rfl
  simp only [Tryz.ntmps202, List.size_toArray, List.length_cons, List.length_nil, Nat.reduceAdd, Nat.reduceSub, Array.replicate_succ, Array.replicate_zero, List.push_toArray, List.append_toArray, List.nil_append, List.cons_append]
  gi_wp2
  gi_loopw [4] (fun i wr => ∃ (d : Nat) (pre : List (Pc a n)), d ≤ n ∧ i = .int .i64 (d : Nat) ∧ pre.length ≤ d ∧ Hid (∀ i, i < d → cov pre i = true) ∧ J pre wr ∧ K2 Bn Ba W wr)
    (fun i _ => n - (intOf i).toNat)
  case atStart => exact ⟨0, [], by omega, rfl, by simp, Lib.hid (fun i hi => by omega), h0, K2.refl _⟩
  case round =>
    obtain ⟨d, pre, hd, rfl, hpl, hcv, hJs, hnx⟩ := hrel
    have cN : wr.cell? ⟨Bn, 0, none⟩ = some (.int .i64 (n : Int)) := (hnx.one 0).trans hN
    have cA : wr.cell? ⟨Ba, 0, none⟩ = some (.int .i64 (a : Int)) := (hnx.two 0).trans hA
    clear hN hA
    by_cases hlt : d < n
    · obtain ⟨lo, hlo⟩ : ∃ lo, (a + d) % 4096 = lo := ⟨_, rfl⟩
      obtain ⟨pg, hpg⟩ : ∃ pg, (a + d) / 4096 = pg := ⟨_, rfl⟩
      have hl4 : lo < 4096 := by omega
      have q1 : ((a : Int) + d) % 4096 = (lo : Int) := by omega
      have q2 : ((a : Int) + d) / 4096 = (pg : Int) := by omega
      obtain ⟨m, hm0, hm1, hm2, hmm⟩ : ∃ m : Nat, 0 < m ∧ d + m ≤ n ∧ lo + m ≤ 4096 ∧ ((m = n - d ∧ (lo : Int) + n - d ≤ 4096) ∨ (lo + m = 4096 ∧ (4096 : Int) < (lo : Int) + n - d)) := by
        by_cases h : (lo : Int) + n - d ≤ 4096
        · exact ⟨n - d, by omega, by omega, by omega, .inl ⟨rfl, h⟩⟩
        · exact ⟨4096 - lo, by omega, by omega, by omega, .inr ⟨by omega, by omega⟩⟩
      obtain ⟨x, hx1, hx2⟩ : ∃ x : Pc a n, x.1.1 = d ∧ x.1.2 = m := ⟨⟨(d, m), hm0, hm1, by rw [hlo]; exact hm2⟩, rfl, rfl⟩
      obtain ⟨fn, tmps, assign, body, hy, hR⟩ := hY pre x wr hJs (by omega)
      simp only [encPc, hx1, hx2, hlo, hpg] at hy
      have HCV : Hid (∀ i, i < d + m → cov (pre ++ [x]) i = true) := Lib.hid fun i hi => by
        rw [cov_snoc, hx1, hx2]
        by_cases h : i < d
        · rw [hcv.out i h]; rfl
        · rw [decide_eq_true (by omega)]; simp
      clear hlo hpg hx1 hx2
      have HKF : Hid (∀ W3, J (pre ++ [x]) W3 → K2 Bn Ba wr W3 → ∃ (d' : Nat) (pre' : List (Pc a n)), d' ≤ n ∧ Value.int .i64 ((d : Int) + m) = .int .i64 (d' : Nat) ∧ pre'.length ≤ d' ∧ Hid (∀ i, i < d' → cov pre' i = true) ∧ J pre' W3 ∧ K2 Bn Ba W W3) := Lib.hid fun W3 hj hk =>
        ⟨d + m, pre ++ [x], by omega, by go_num, by simp; omega, HCV, hj, hnx.trans hk⟩
      rcases hmm with ⟨hm5, h4⟩ | ⟨hm5, h4⟩
      · obtain ⟨H, hH⟩ : ∃ H, lo + m = H := ⟨_, rfl⟩
        rw [hH] at hy
        have e1 : (lo : Int) + n - d = (H : Int) := by omega
        have e2 : (H : Int) - lo = (m : Int) := by omega
        have hH4 : H ≤ 4096 := by omega
        clear hm5 hH h4
        gi_wp2_with fail
        refine ⟨fun hd => by simp [Fence.wide] at hd, hR.mono ?_⟩
        rintro e W3 (⟨rfl, hJ3, hk3⟩ | ⟨rfl, hJx3⟩)
        · have HF := Lib.hid (HKF.out W3 hJ3 hk3)
          clear HKF
          gi_wp2_with fail
          go_roundw
          case rel => exact HF.out
          case measure => simp [intOf]; omega
        · gi_wp2_with fail
          refine bodyPost_ret (results_none rfl _ _ _) rfl ?_
          exact ⟨⟨_, rfl⟩, .inr ⟨_, trivial, hJx3⟩⟩
      · rw [hm5, show (((4096 : Nat) : Int)) = 4096 from rfl] at hy
        have e2 : (4096 : Int) - lo = (m : Int) := by omega
        clear hm5
        gi_wp2_with fail
        refine ⟨fun hd => by simp [Fence.wide] at hd, hR.mono ?_⟩
        rintro e W3 (⟨rfl, hJ3, hk3⟩ | ⟨rfl, hJx3⟩)
        · have HF := Lib.hid (HKF.out W3 hJ3 hk3)
          clear HKF
          gi_wp2_with fail
          go_roundw
          case rel => exact HF.out
          case measure => simp [intOf]; omega
        · gi_wp2_with fail
          refine bodyPost_ret (results_none rfl _ _ _) rfl ?_
          exact ⟨⟨_, rfl⟩, .inr ⟨_, trivial, hJx3⟩⟩
    · have hke : d = n := by omega
      have HK := Lib.hid hke; clear hke
      gi_wp2
      go_end0
      exact ⟨⟨_, rfl⟩, .inl ⟨_, fun i hi => hcv.out i (by rw [HK.out]; exact hi), hJs⟩⟩

theorem pieces_stops (nf Bn Ba a n : Nat) (hn : n ≤ 4294967296) (hb : a ≤ 4294967296) (w : World) (lN : Bn < w.heap.size) (lA : Ba < w.heap.size) (hN : w.cell? ⟨Bn, 0, none⟩ = some (.int .i64 (n : Int))) (hA : w.cell? ⟨Ba, 0, none⟩ = some (.int .i64 (a : Int))) :
    SeqStopsK Fence.wide nf Tryz.prog 202 #[.pointer (some ⟨Bn, 0, none⟩), .pointer (some ⟨Ba, 0, none⟩)] (encPc a n) (K2 Bn Ba) (fun ys => ∀ i, i < n → cov ys i = true) (fun _ => True) n w := fun l J Jx W hW hJ hJx hY h0 =>
  pieces1_in nf l Bn Ba a n hn hb J Jx hY W ((hW.cell (p := ⟨Bn, 0, none⟩) lN).trans hN) ((hW.cell (p := ⟨Ba, 0, none⟩) lA).trans hA) h0

theorem pieces_fn (a n : Int) (w : World) :
    Calls Tryz.prog 141 #[.int .i64 a, .int .i64 n] w fun e w' => e = .returned (.func (.func 202) #[] #[.pointer (some ⟨w.heap.size + 1, 0, none⟩), .pointer (some ⟨w.heap.size, 0, none⟩)]) ∧ w' = (w.alloc (.cells #[.int .i64 a] 3)).alloc (.cells #[.int .i64 n] 3) := by
  have hmf : ∀ (fn : Fn) (first cap : Array Value) (w : World), (Instr.makeFunc fn first cap).run Tryz.prog w = .ok (.func fn first cap) w := fun _ _ _ _ => rfl
  go_enter Tryz.func141, Tryz.ntmps141
  go_wp2
  go_ret
  exact ⟨rfl, rfl⟩
end Go.Proofs.YtbeldoiaecjkgaaGreatDoor.Bt
end
