/- Several texts in one: BwB; BwC; BwD; BwE; SizeMath; SizeWalksA; SizeWalksB; SizeWalksC; SizeWalksD; BwF; BwG; BwH; BwI; BwJ; BwK; BwL. -/
import Derived.Test.YtfemgekhpcgliaaGreatCmC
import GoSem.Claim
import Derived.WalkKit
import Derived.Test.YtfemgekhpcgliaaGreatRows
import Derived.BigQuiet
import Derived.Deep.QuietTactic
import Derived.Lib.Hide
import Derived.Outline
import Derived.Test.YtfemgekhpcgliaaGreatCmA
import Derived.Deep.DeepCutAuto
import Derived.Test.YtfemgekhpcgliaaGreatCmB
/- A buddy's setFree, least, greatest. -/
namespace Go.Proofs.YtfemgekhpcgliaaGreat.Bt
open Go Go.RowKit Go.Shelf
set_option linter.unusedVariables false
set_option linter.unusedSimpArgs false
section
variable {B A n : Nat} {s : ASt} {w : World}
theorem lay_ok (va : Nat) (x k : Nat) (hx : x + 2 ^ k ≤ n) (g : Good s.L s.es) (ht : thereE s.L s.es (va : Int) (n : Int) = 0) : layA va n (x : Int) k = ((va + x : Nat) : Int) ∧ layE s va n (x : Int) k = 0 := by
  have h0 := pow2_pos k
  unfold layE layA
  generalize 2 ^ k = P at *
  have e : addrV va n (x : Int) (P : Int) = ((va + x : Nat) : Int) := by unfold addrV; rw [if_pos (by omega)]; omega
  rw [e]
  exact ⟨rfl, there_part g ht (by omega) (by omega) (by omega)⟩
set_option maxHeartbeats 2000000 in
theorem bsetfree (h : BV B A n s w) (hn : n ≤ 80) (x k : Nat) (hk : k ≤ 10) (hx : x + 2 ^ k ≤ n) (ht : thereE s.L s.es 256 (n : Int) = 0) (fl : Nat → List Nat)
    (hl : Lks s.L s.es (layM s.mm (256 + x) (2 ^ k) 2 k 1) fl) (hm : adr x ∉ fl k) (hT : thereE s.L s.es (adr x : Int) 16 = 0) :
    Calls Tryz.prog 78 #[bdyP B, .int .i64 (x : Int), .int .i64 (k : Int)] w (Ret A { s with mm := addM (layM s.mm (256 + x) (2 ^ k) 2 k 1) fl k (adr x) } (.tuple #[]) w) := by
  have g := h.1.good
  obtain ⟨e1, e2⟩ := lay_ok (s := s) 256 x k hx g ht
  have hp := pow2_pos k
  have HL := Lib.hid (tlay_yes h.1 256 n (by omega) (by omega) (x : Int) 2 k (256 + x) (2 ^ k) (by omega) (by omega) 2 k 1 (.inl ⟨by decide, rfl, rfl, rfl⟩) rfl e1 e2)
  obtain ⟨s1, hs1⟩ : ∃ s1, layS s (256 + x) (2 ^ k) 2 k 1 = s1 := ⟨_, rfl⟩
  have q1 : s1.mm = layM s.mm (256 + x) (2 ^ k) 2 k 1 := by rw [← hs1]; rfl
  have q2 : s1.L = s.L := by rw [← hs1]; rfl
  have q3 : s1.es = s.es := by rw [← hs1]; rfl
  have hK : LsK s1 16 88 (k : Int) (16 + 8 * k) (fl k) := ⟨k, rfl, by omega, rfl, by rw [q1, q2, q3]; exact hl k hk⟩
  have HA := Lib.hid fun X (hX : On A s1 X) => ladd_yes hX 16 88 (by omega) (by omega) (k : Int) (16 + 8 * k) (adr x) (fl k) hK (by unfold adr; omega) hm (by rw [q2, q3]; exact hT)
  have HF : Hid ({ s1 with mm := put8 (put8 s1.mm (adr x) (fnd (16 + 8 * k) 8 (fl k) (adr x)).2.2) (fnd (16 + 8 * k) 8 (fl k) (adr x)).1 (adr x) } = { s with mm := addM (layM s.mm (256 + x) (2 ^ k) 2 k 1) fl k (adr x) }) := Lib.hid (by rw [← hs1]; rfl)
  have HAD := Lib.hid fun X (hX : BV B A n s1 X) => baddr hX hn x (by omega)
  rw [hs1] at HL
  have HQ2 := Lib.hid q2
  obtain ⟨sF, hsF⟩ : ∃ sF, ({ s1 with mm := put8 (put8 s1.mm (adr x) (fnd (16 + 8 * k) 8 (fl k) (adr x)).2.2) (fnd (16 + 8 * k) 8 (fl k) (adr x)).1 (adr x) } : ASt) = sF := ⟨_, rfl⟩
  have HFL : Hid (sF.L = s1.L) := Lib.hid (by rw [← hsF])
  rw [hsF] at HF HA
  obtain ⟨ad, had⟩ : ∃ ad, adr x = ad := ⟨_, rfl⟩
  rw [had] at HA HAD
  rw [← HF.out]
  have H := Lib.hid h
  obtain ⟨c0, c1, c2, c3, c4, c5, c6, c7, c8, c9, _⟩ := h.all
  clear h g ht hl hm hT e1 e2 hp hs1 q1 q2 q3 hK hsF had HF hx
  go_enter Tryz.func78, Tryz.ntmps78
  go_wp2_with fail
  refine HL.out.mono ?_
  rintro e w1 ⟨rfl, ho, hg⟩
  have HV := Lib.hid (H.out.went ho hg HQ2.out)
  have HG := Lib.hid hg
  clear c0 c1 c2 c3 c4 c5 c6 c7 c8 c9 ho hg HL H
  go_wp2_with fail
  go_region_held3 (fun x => x.cell? ⟨B, 4, none⟩ = some (.pointer (some ⟨A, 0, none⟩)) ∧ x.cell? ⟨B, 5, none⟩ = some (.int .i64 16) ∧ x.cell? ⟨B, 6, none⟩ = some (.int .i64 88))
    (first | (have q := (HV.out.below (Below.refl _ _).drew).all; exact ⟨q.2.2.2.2.1, q.2.2.2.2.2.1, q.2.2.2.2.2.2.1⟩) | assumption)
    (first | (go_at_call 82; refine (HAD.out _ (HV.out.below (Below.refl _ _).drew)).mono ?_; rintro e w' ⟨rfl, hb⟩; have hb2 := (Below.refl _ _).drew.trans hb; have hq := (HV.out.below hb2).all; have kk := And.intro hq.2.2.2.2.1 (And.intro hq.2.2.2.2.2.1 hq.2.2.2.2.2.2.1))
           | (go_at_call 115; refine (HA.out _ hq.2.2.2.2.2.2.2.2.2.2.1).mono ?_; rintro e w2 ⟨rfl, ho, hg⟩; have hgg := (Went.of_below HV.out.1 hb2).trans hg; have hq2 := (HV.out.went ho hgg HFL.out).all; have kk2 := And.intro hq2.2.2.2.2.1 (And.intro hq2.2.2.2.2.2.1 hq2.2.2.2.2.2.2.1); have HW := Lib.hid (And.intro ho hgg)))
  exact bodyPost_ret (v := .tuple #[]) (by simp [results, Tryz.results78, go_sem]) rfl ⟨rfl, HW.out.1, HG.out.trans HW.out.2⟩

/-- the first free run of the least order that isn't below one -/
def Least (R : Runs) (g o : Nat) (y : Option (Nat × Nat)) : Prop := match y with
  | some (x, k) => R x = some (k, false) ∧ o ≤ k ∧ ∀ i l, R i = some (l, false) → o ≤ l → k < l ∨ (k = l ∧ x ≤ i)
  | none => ∀ i l, R i = some (l, false) → l < o
def leastV (y : Option (Nat × Nat)) : Value := match y with
  | some (x, k) => .tuple #[.int .i64 (adr x : Int), .int .i64 (k : Int), .bool true]
  | none => .tuple #[.int .i64 0, .int .i64 0, .bool false]
def hd0 : List Nat → Int
  | [] => 0
  | m :: _ => (m : Int)
theorem atV_one {h0 : Nat} {ms : List Nat} (hp : ∀ m ∈ ms, 1 ≤ m) : atV (prs h0 8 ms) 1 = hd0 ms := by
  unfold atV
  rw [find_prs h0 8 ms 1 (fun m hm => hp m hm)]
  cases ms with
  | nil => rfl
  | cons m t =>
    have := hp m (List.mem_cons_self ..)
    simp only [fnd]
    rw [if_pos (by omega)]
    rfl
/-- a list of free runs is empty, or begins with the first one -/
theorem freeL_head {R : Runs} {g k : Nat} (hR : Til g R g) : (freeL 1 R g g k = [] ∧ ∀ i, R i ≠ some (k, false)) ∨ ∃ x t, freeL 1 R g g k = adr x :: t ∧ R x = some (k, false) ∧ ∀ i, R i = some (k, false) → x ≤ i := by
  cases e : freeL 1 R g g k with
  | nil =>
    refine .inl ⟨rfl, fun i hi => ?_⟩
    have : (1 + i) * 4096 ∈ freeL 1 R g g k := freeL_at.2 ⟨hR.lt hi, hi, Nat.ne_of_lt (hR.lt hi)⟩
    rw [e] at this; cases this
  | cons c t =>
    have hc : c ∈ freeL 1 R g g k := by rw [e]; exact List.mem_cons_self ..
    obtain ⟨x, h1, h2, h3, rfl⟩ := freeL_mem.1 hc
    refine .inr ⟨x, t, rfl, h2, fun i hi => ?_⟩
    have : (1 + i) * 4096 ∈ freeL 1 R g g k := freeL_at.2 ⟨hR.lt hi, hi, Nat.ne_of_lt (hR.lt hi)⟩
    rw [e] at this
    have hs := freeL_sorted 1 R g g k
    rw [e, List.pairwise_cons] at hs
    rcases List.mem_cons.1 this with q | q
    · omega
    · have := hs.1 _ q; omega
set_option maxRecDepth 100000 in
set_option maxHeartbeats 2000000 in
theorem bleast {cap G g : Nat} {R : Runs} (h : BV B A n s w) (hB : Bud cap G g R g s) (o : Nat) (ho : o ≤ 10) :
    Calls Tryz.prog 75 #[bdyP B, .int .i64 (o : Int)] w fun e w' => ∃ y, e = .returned (leastV y) ∧ Least R g o y ∧ Below w.heap.size w w' := by
  have HF : Hid (∀ X, BV B A n s X → ∀ k : Nat, k ≤ 10 → Calls Tryz.prog 111 #[lsP (some ⟨A, 0, none⟩) 16 88, .int .i64 (k : Int)] X (Gives (.tuple #[.int .i64 (atV (prs (16 + 8 * k) 8 (freeL 1 R g g k)) 1), .bool (decide (0 < atV (prs (16 + 8 * k) 8 (freeL 1 R g g k)) 1))]) X)) := Lib.hid fun X hX k hk =>
    lfirst hX.1 16 88 (by omega) (by omega) (k : Int) _ (LsK.lk (h0 := 16 + 8 * k) ⟨k, rfl, by omega, rfl, hB.ls k hk⟩)
  have HA : Hid (∀ k, atV (prs (16 + 8 * k) 8 (freeL 1 R g g k)) 1 = hd0 (freeL 1 R g g k)) := Lib.hid fun k => atV_one (h0 := 16 + 8 * k) (ms := freeL 1 R g g k) fun m hm => (by
    obtain ⟨i, _, _, _, e⟩ := freeL_mem.1 hm
    have : (1 + i) * 4096 = m := e
    omega)
  have HT := Lib.hid hB.ti
  have H := Lib.hid h
  obtain ⟨c0, c1, c2, c3, c4, c5, c6, c7, c8, c9, _⟩ := h.all
  clear h hB
  go_enter Tryz.func75, Tryz.ntmps75
  go_wp2_with fail
  go_loopw [7] (fun s7 wx => ∃ k : Nat, o ≤ k ∧ k ≤ 11 ∧ s7 = .int .i64 (k : Int) ∧ Hid (∀ i l, R i = some (l, false) → o ≤ l → k ≤ l) ∧ Hid (Below w.heap.size w wx)) (fun s7 _ => 11 - (intOf s7).toNat)
  case atStart => exact ⟨o, Nat.le_refl _, by omega, rfl, Lib.hid fun i l _ h => h, Lib.hid (Below.refl _ _)⟩
  case round =>
    obtain ⟨k, hok, hk11, rfl, HN, HB⟩ := hrel
    clear c0 c1 c2 c3 c4 c5 c6 c7 c8 c9
    by_cases hk : k ≤ 10
    · have hv := H.out.below HB.out
      have HV := Lib.hid hv
      obtain ⟨c0, c1, c2, c3, c4, c5, c6, c7, c8, c9, _⟩ := hv.all
      have d : ¬ (10 : Int) < (k : Int) := by omega
      clear hv
      go_wp2_with fail
      refine (HF.out _ HV.out k hk).mono ?_
      rintro e w1 ⟨rfl, hb⟩
      have HB1 := Lib.hid (HB.out.trans (hb.mono HB.out.size))
      rw [HA.out]
      clear hb
      rcases freeL_head (k := k) HT.out with ⟨el, hno⟩ | ⟨x, t, el, hx, hmin⟩
      · rw [el, show hd0 [] = 0 from rfl]
        have HN1 : Hid (∀ i l, R i = some (l, false) → o ≤ l → k + 1 ≤ l) := Lib.hid fun i l h1 h2 => by
          have := HN.out i l h1 h2
          rcases Nat.lt_or_eq_of_le this with q | q
          · exact q
          · subst q; exact absurd h1 (hno i)
        clear el hno
        go_wp2_with fail
        go_roundw
        case rel => exact ⟨k + 1, by omega, by omega, by go_num, HN1, HB1⟩
        case measure => simp [intOf]; omega
      · rw [el, show hd0 (adr x :: t) = (adr x : Int) from rfl]
        have HL : Hid (Least R g o (some (x, k))) := Lib.hid ⟨hx, hok, fun i l h1 h2 => by
          have := HN.out i l h1 h2
          rcases Nat.lt_or_eq_of_le this with q | q
          · exact .inl q
          · subst q; exact .inr ⟨rfl, hmin i h1⟩⟩
        have hp : (0 : Int) < (adr x : Int) := by unfold adr; omega
        have hd : decide ((0 : Int) < (adr x : Int)) = true := by simpa using hp
        clear el hx hmin
        go_wp2_with fail
        exact bodyPost_ret (v := leastV (some (x, k))) (by simp [results, Tryz.results75, go_sem, leastV]) rfl ⟨some (x, k), rfl, HL.out, HB1.out⟩
    · obtain rfl : k = 11 := by omega
      have HL : Hid (Least R g o none) := Lib.hid fun i l h1 => by
        by_cases q : l < o
        · exact q
        · have := HN.out i l h1 (by omega)
          have := (HT.out.al _ _ _ h1).1
          omega
      go_wp2_with fail
      exact bodyPost_ret (v := leastV none) (by simp [results, Tryz.results75, go_sem, leastV]) rfl ⟨none, rfl, HL.out, HB.out⟩
end
end Go.Proofs.YtfemgekhpcgliaaGreat.Bt
/- A buddy's greatest. -/
namespace Go.Proofs.YtfemgekhpcgliaaGreat.Bt
open Go Go.RowKit Go.Shelf
set_option linter.unusedVariables false
set_option linter.unusedSimpArgs false
set_option maxRecDepth 100000 in
set_option maxHeartbeats 2000000 in
theorem bgreatest (p q : Nat) (hp : p < q) (hq : q ≤ 2000) (w : World) :
    Calls Tryz.prog 102 #[.int .i64 (p : Int), .int .i64 (q : Int)] w fun e w' => ∃ k : Nat, e = .returned (.int .i64 (k : Int)) ∧ k ≤ 10 ∧ p % 2 ^ k = 0 ∧ p + 2 ^ k ≤ q ∧ w = w' := by
  go_enter Tryz.func102, Tryz.ntmps102
  go_wp2_with fail
  go_loop [5] (fun s5 => ∃ k : Nat, k ≤ 10 ∧ s5 = .int .i64 (k : Int)) (fun s5 => (intOf s5).toNat)
  case atStart => exact ⟨10, by omega, rfl⟩
  case round =>
    obtain ⟨k, hk, rfl⟩ := hrel
    by_cases h0 : k = 0
    · subst h0
      go_wp2_with fail
      go_ret
      exact ⟨0, rfl, by omega, by rw [Nat.pow_zero]; exact Nat.mod_one p, by rw [Nat.pow_zero]; omega, rfl⟩
    · obtain ⟨hN, hN1, hN2⟩ := pow_n k (by omega)
      obtain ⟨P, hP⟩ : ∃ P, 2 ^ k = P := ⟨_, rfl⟩
      have HP := Lib.hid hP
      rw [hP] at hN hN1 hN2
      have hm : Int.tmod (p : Int) (P : Int) = ((p % P : Nat) : Int) := by rw [Int.tmod_eq_emod_of_nonneg (by omega)]; rfl
      have hP0 : ¬ (P : Int) = 0 := by omega
      have hs : IntKind.i64.wrap ((p : Int) + (P : Int)) = (p : Int) + P := by rw [IntKind.wrap_i64]; omega
      have hk0 : (0 : Int) < (k : Int) := by omega
      clear hP h0
      by_cases hz : p % P = 0
      · have HZ := Lib.hid hz
        rw [hz] at hm
        clear hz
        by_cases hle : p + P ≤ q
        · have hle2 : ¬ ((q : Int) < (p : Int) + (P : Int)) := by omega
          have HL := Lib.hid hle
          clear hle
          go_wp2_with fail
          go_ret
          exact ⟨k, rfl, hk, by rw [HP.out]; exact HZ.out, by rw [HP.out]; exact HL.out, rfl⟩
        · have hle2 : ((q : Int) < (p : Int) + (P : Int)) := by omega
          clear hle
          go_wp2_with fail
          go_round
          case rel => exact ⟨k - 1, by omega, by rw [show ((k - 1 : Nat) : Int) = (k : Int) - 1 from by omega]⟩
          case measure => simp [intOf]; omega
      · have hz2 : ¬ (((p % P : Nat) : Int) = 0) := by omega
        obtain ⟨M, hM⟩ : ∃ M, p % P = M := ⟨_, rfl⟩
        rw [hM] at hm hz2
        clear hz hM
        go_wp2_with fail
        go_round
        case rel => exact ⟨k - 1, by omega, by rw [show ((k - 1 : Nat) : Int) = (k : Int) - 1 from by omega]⟩
        case measure => simp [intOf]; omega
end Go.Proofs.YtfemgekhpcgliaaGreat.Bt
/- A buddy's release: a run is free, and put together with the free ones beside it. -/
namespace Go.Proofs.YtfemgekhpcgliaaGreat.Bt
open Go Go.RowKit Go.Shelf
set_option linter.unusedVariables false
set_option linter.unusedSimpArgs false
/-- the same taken runs -/
def TkSame (R R' : Runs) : Prop := ∀ i k, R' i = some (k, true) ↔ R i = some (k, true)
theorem TkSame.refl (R : Runs) : TkSame R R := fun _ _ => Iff.rfl
theorem TkSame.trans {R R1 R2 : Runs} (h : TkSame R R1) (k : TkSame R1 R2) : TkSame R R2 := fun i j => (k i j).trans (h i j)
/-- all bytes of taken runs stay -/
def KeepT (R : Runs) (m m' : Nat → UInt8) : Prop := ∀ i k, R i = some (k, true) → ∀ a, (1 + i) * 4096 ≤ a → a < (1 + i + 2 ^ k) * 4096 → m' a = m a
theorem KeepT.refl (R : Runs) (m : Nat → UInt8) : KeepT R m m := fun _ _ _ _ _ _ => rfl
theorem KeepT.trans {R R1 : Runs} {m m1 m2 : Nat → UInt8} (h : KeepT R m m1) (k : KeepT R1 m1 m2) (t : TkSame R R1) : KeepT R m m2 := fun i j e a h1 h2 => (k i j ((t i j).2 e) a h1 h2).trans (h i j e a h1 h2)
section
variable {B A n G g x k : Nat} {R : Runs} {s : ASt} {w : World}
/-- bytes outside the own page, and of no free run's, are far from what a list's steps turn -/
theorem tk_far {R : Runs} (h : Til g R x) {i k : Nat} (e : R i = some (k, true)) {a : Nat} (h1 : (1 + i) * 4096 ≤ a) (h2 : a < (1 + i + 2 ^ k) * 4096) {j l : Nat} (f : R j = some (l, false)) (p : Nat) (hp1 : j ≤ p) (hp2 : p < j + 2 ^ l) : a < (1 + p) * 4096 ∨ (1 + p) * 4096 + 8 ≤ a := by
  by_cases q : i ≤ p ∧ p < i + 2 ^ k
  · have := (h.one e f q.1 q.2 hp1 hp2).2.2; cases this
  · omega
theorem del_keep (h : Til g R x) (y j l : Nat) (hl : l ≤ 10) (v : Nat) (m : Nat → UInt8) (X : Nat) : KeepT R m (put8 m (fnd (16 + 8 * l) 8 (freeL 1 R y g l) X).1 v) := fun i k e a h1 h2 => by
  rcases List.mem_cons.1 (fnd_mem (16 + 8 * l) 8 (freeL 1 R y g l) X) with q | q
  · exact put8_byte _ _ (by rw [q]; omega)
  · obtain ⟨p, _, hp, _, ep⟩ := freeL_mem.1 q
    have := tk_far h e h1 h2 hp p (Nat.le_refl _) (by have := pow2_pos l; omega)
    exact put8_byte _ _ (by rw [← ep]; omega)
theorem add_keep (h : Til g R x) (y l p : Nat) (hl : l ≤ 10) (m : Nat → UInt8) {j q : Nat} (f : R j = some (q, false)) (hp1 : j ≤ p) (hp2 : p < j + 2 ^ q) : KeepT R m (addM m (freeL 1 R y g) l ((1 + p) * 4096)) := fun i k e a h1 h2 => by
  unfold addM
  rw [del_keep h y 0 l hl _ _ _ i k e a h1 h2]
  exact put8_byte _ _ (by have := tk_far h e h1 h2 f p hp1 hp2; omega)
theorem lay_keep (p k : Nat) (hp : p + 2 ^ k ≤ 3000) (fs fo : Int) (os : UInt8) (m : Nat → UInt8) : KeepT R m (layM m (256 + p) (2 ^ k) fs fo os) := fun i l e a h1 h2 => by
  exact layM_out _ _ _ (pow2_pos k) _ _ _ _ (by omega)
end
theorem xor_twin : ∀ x : Nat, x < 81 → ∀ k : Nat, k < 10 → x % 2 ^ k = 0 → bits BinOp.xor IntKind.i64 (x : Int) ((2 ^ k : Nat) : Int) = ((twin x k : Nat) : Int) := by decide
section
variable {B A n cap G g x k : Nat} {R : Runs} {s : ASt} {w : World}
theorem Bud.sz (h : Bud cap G g R x s) (hL : s.L = n + 1) : cap = n + 1 ∧ n ≤ 80 ∧ g ≤ n ∧ G ≤ n := by
  have := h.cL; have := h.c2; have := h.gG; omega
theorem Bud.tabs (h : Bud cap G g R x s) (hL : s.L = n + 1) : thereE s.L s.es 256 (n : Int) = 0 := by
  have := h.sz hL; exact h.there (by omega) (by omega) (by omega)
theorem Bud.front (h : Bud cap G g R x s) : thereE s.L s.es 8 8 = 0 := h.there (by omega) (by omega) (by omega)
/-- the tag of a page -/
theorem Bud.tag (h : Bud cap G g R x s) (hL : s.L = n + 1) (p : Nat) (hp : p < n) (hh : ¬ Hole R x p) : gC s 256 n (p : Int) = (codeR R g p : Int) ∧ gE s 256 n (p : Int) = 0 := by
  have hn := h.sz hL
  have e : addrV 256 n (p : Int) 1 = ((256 + p : Nat) : Int) := by unfold addrV; rw [if_pos (by omega)]; omega
  have hE : gE s 256 n (p : Int) = 0 := by
    unfold gE numE
    rw [e, show wholeB 1 = true from rfl, if_pos rfl]
    exact h.there (by omega) (by omega) (by omega)
  refine ⟨?_, hE⟩
  unfold gE at hE
  unfold gC ldV
  rw [if_pos hE, e, Int.toNat_natCast, ← h.tg p (by omega) hh]
  show ((numV s.mm (256 + p) 1 : Nat) : Int) = _
  simp [numV]
theorem gC_out (s : ASt) (va n : Nat) (p : Int) (hp : (n : Int) ≤ p) : gC s va n p = 0 := by
  have e : addrV va n p 1 = -1 := by unfold addrV; rw [if_neg (by omega)]
  unfold gC
  rw [e]
  unfold ldV
  rw [if_neg]
  unfold numE
  rw [show wholeB 1 = true from rfl, if_pos rfl]
  unfold thereE
  rw [if_neg]
  · decide
  · unfold thereB
    simp
theorem code_tag (R : Runs) (g p : Nat) (h : ∀ k t, R p = some (k, t) → k ≤ 10) : tagS (codeR R g p : Int) = (if p < g then (match R p with | some (_, t) => (if t then 3 else 2) | none => 1) else 0 : Int) ∧ tagO (codeR R g p : Int) = (if p < g then (match R p with | some (k, _) => (k : Int) | none => 0) else 0 : Int) := by
  unfold codeR
  by_cases c : p < g
  · rw [if_pos c, if_pos c, if_pos c]
    cases e : R p with
    | none => decide
    | some y =>
      obtain ⟨k, t⟩ := y
      have hk := h k t e
      have h2 : k = 0 ∨ k = 1 ∨ k = 2 ∨ k = 3 ∨ k = 4 ∨ k = 5 ∨ k = 6 ∨ k = 7 ∨ k = 8 ∨ k = 9 ∨ k = 10 := by omega
      cases t <;> rcases h2 with rfl | rfl | rfl | rfl | rfl | rfl | rfl | rfl | rfl | rfl | rfl <;> decide
  · rw [if_neg c, if_neg c, if_neg c]; decide
/-- the twin's tag: it is free, and of that order, just if it is -/
theorem Bud.twin_tag (h : Bud cap G g R x s) (hL : s.L = n + 1) (e : R x = some (k, false)) :
    (R (twin x k) = some (k, false) ∧ tagS (gC s 256 n (twin x k : Int)) = 2 ∧ tagO (gC s 256 n (twin x k : Int)) = k) ∨
    (R (twin x k) ≠ some (k, false) ∧ (tagS (gC s 256 n (twin x k : Int)) ≠ 2 ∨ (tagS (gC s 256 n (twin x k : Int)) = 2 ∧ tagO (gC s 256 n (twin x k : Int)) ≠ k))) := by
  have hn := h.sz hL
  by_cases c : twin x k < n
  · have hh : ¬ Hole R x (twin x k) := fun ⟨k', t', q1, q2, q3⟩ => by
      rw [e] at q1
      have := (some_of q1).1
      subst this
      have h0 := pow2_pos k
      rcases two_cases (h.ti.al _ _ _ e).2.1 with z | ⟨z1, z2⟩
      · rw [twin_low z] at q3; omega
      · have := twin_high z2
        rw [Nat.sub_add_cancel z1] at this
        rw [this] at q2; omega
    rw [(h.tag hL _ c hh).1]
    obtain ⟨t1, t2⟩ := code_tag R g (twin x k) fun l t q => (h.ti.al _ _ _ q).1
    rw [t1, t2]
    cases q : R (twin x k) with
    | none =>
      refine .inr ⟨by simp, .inl ?_⟩
      split <;> decide
    | some y =>
      obtain ⟨l, t⟩ := y
      have := h.ti.lt q
      rw [if_pos this, if_pos this]
      cases t with
      | true => exact .inr ⟨by simp, .inl (show (3 : Int) ≠ 2 by decide)⟩
      | false =>
        by_cases hl : l = k
        · subst hl; exact .inl ⟨rfl, rfl, rfl⟩
        · exact .inr ⟨by simp [hl], .inr ⟨rfl, by show (l : Int) ≠ k; omega⟩⟩
  · rw [gC_out s 256 n _ (by omega)]
    refine .inr ⟨fun q => ?_, .inl (by decide)⟩
    have := h.ti.lt q
    omega
end
end Go.Proofs.YtfemgekhpcgliaaGreat.Bt
/- A buddy's release: a run is free, and put together with the free ones beside it. -/
namespace Go.Proofs.YtfemgekhpcgliaaGreat.Bt
open Go Go.RowKit Go.Shelf
set_option linter.unusedVariables false
set_option linter.unusedSimpArgs false
/-- behind a step: other runs, of which the same are taken, and all that is in these stays -/
def Goes (B A n G g : Nat) (R : Runs) (s : ASt) (w w' : World) : Prop :=
  ∃ R' s', BV B A n s' w' ∧ Bud (n + 1) G g R' g s' ∧ Went A w w' ∧ TkSame R R' ∧ KeepT R s.mm s'.mm ∧ s'.rf = s.rf ∧ s'.lf = s.lf
/-- within a step -/
structure Mid (B A n G g : Nat) (R0 : Runs) (s0 : ASt) (w : World) (R : Runs) (x k : Nat) (s : ASt) (wr : World) : Prop where
  bv : BV B A n s wr
  bu : Bud (n + 1) G g R x s
  at_ : R x = some (k, false)
  wt : Went A w wr
  tk : TkSame R0 R
  kp : KeepT R0 s0.mm s.mm
  rf : s.rf = s0.rf
  lf : s.lf = s0.lf
theorem Mid.k10 {B A n G g : Nat} {R0 : Runs} {s0 : ASt} {w : World} {R : Runs} {x k : Nat} {s : ASt} {wr : World} (h : Mid B A n G g R0 s0 w R x k s wr) : k ≤ 10 ∧ x + 2 ^ k ≤ n ∧ n ≤ 80 := by
  have a := h.bu.addr h.at_
  have b := h.bu.sz h.bv.2.1
  omega
theorem twin_lt {x k : Nat} (hx : x ≤ 80) (hk : k < 10) : twin x k ≤ 1000 := by
  have : 2 ^ k ≤ 2 ^ 9 := Nat.pow_le_pow_right (by decide) (by omega)
  unfold twin; split <;> omega
theorem join_taken {R : Runs} {g x k : Nat} (h : Til g R x) (e : R x = some (k, false)) (f : R (twin x k) = some (k, false)) : TkSame R (layR R (min x (twin x k)) (k + 1) false) := fun i l => by
  obtain ⟨j, em, hi, e1, e2, hx⟩ := join_of h.toTile e f
  rw [em]
  constructor
  · intro q
    rcases layR_some q with ⟨_, _, c⟩ | ⟨_, c⟩
    · cases c
    · exact c
  · intro q
    have n1 : i ≠ j := fun c => by rw [c, e1] at q; cases (some_of q).2
    have n2 : i ≠ j + 2 ^ k := fun c => by rw [c, e2] at q; cases (some_of q).2
    rw [layR_out (join_out h.toTile e1 e2 q n1 n2)]
    exact q
section
variable {B A n G g : Nat} {R0 : Runs} {s0 : ASt} {w : World}
/-- the tail: it isn't put together any more -/
theorem Mid.stop {R : Runs} {x k : Nat} {s : ASt} {wr : World} (h : Mid B A n G g R0 s0 w R x k s wr) (hs : k < 10 → R (twin x k) ≠ some (k, false)) :
    Calls Tryz.prog 78 #[bdyP B, .int .i64 (x : Int), .int .i64 (k : Int)] wr fun e w' => e = .returned (.tuple #[]) ∧ Goes B A n G g R0 s0 w w' := by
  obtain ⟨k1, k2, k3⟩ := h.k10
  have h0 := pow2_pos k
  have o := freeL_off R x g
  have gs := h.bu.sz h.bv.2.1
  refine (bsetfree h.bv k3 x k k1 k2 (h.bu.tabs h.bv.2.1) (freeL 1 R x g) (lks_lay h.bu.ls o h0 (by omega) (by omega) 2 k 1) (fun c => (freeL_at.1 c).2.2 rfl) (h.bu.there (by unfold adr; omega) (by omega) (by have := h.bu.gG; have := h.bu.addr h.at_; unfold adr; omega))).mono ?_
  rintro e w' ⟨rfl, ho, hg⟩
  have hb := h.bu.stop h.at_ hs
  refine ⟨rfl, R, _, h.bv.went ho hg rfl, hb, h.wt.trans hg, h.tk, ?_, h.rf, h.lf⟩
  refine h.kp.trans ?_ h.tk
  exact (lay_keep (R := R) x k (by omega) 2 k 1 s.mm).trans (add_keep h.bu.ti x k x k1 _ h.at_ (Nat.le_refl _) (by omega)) (TkSame.refl R)
/-- put together once more -/
theorem Mid.join {R : Runs} {x k : Nat} {s : ASt} {wr : World} (h : Mid B A n G g R0 s0 w R x k s wr) (hk : k < 10) (f : R (twin x k) = some (k, false)) :
    Calls Tryz.prog 76 #[lsP (some ⟨A, 0, none⟩) 16 88, .int .i64 (k : Int), .int .i64 (adr (twin x k) : Int)] wr fun e w' => e = .returned (.int .i64 0) ∧
      ∃ s', Mid B A n G g R0 s0 w (layR R (min x (twin x k)) (k + 1) false) (min x (twin x k)) (k + 1) s' w' := by
  have hX : adr (twin x k) ∈ freeL 1 R x g k := freeL_at.2 ⟨(h.bu.addr f).2.2.1, f, twin_ne (h.bu.ti.al _ _ _ h.at_).2.1⟩
  refine (lrem_yes h.bv.1 16 88 (by omega) (by omega) (k : Int) (16 + 8 * k) (adr (twin x k)) (freeL 1 R x g k) ⟨k, rfl, by omega, rfl, h.bu.ls k (by omega)⟩ (by unfold adr; omega) hX).mono ?_
  rintro e w' ⟨rfl, ho, hg⟩
  exact ⟨rfl, _, h.bv.went ho hg rfl, h.bu.join h.at_ f hk, layR_self _ _ _ _, h.wt.trans hg, h.tk.trans (join_taken h.bu.ti h.at_ f), h.kp.trans (del_keep h.bu.ti x 0 k (by omega) _ _ _) h.tk, h.rf, h.lf⟩
theorem Mid.below {R : Runs} {x k : Nat} {s : ASt} {wr w' : World} (h : Mid B A n G g R0 s0 w R x k s wr) (hb : Below wr.heap.size wr w') : Mid B A n G g R0 s0 w R x k s w' :=
  { h with bv := h.bv.below hb, wt := h.wt.trans (Went.of_below h.bv.1 hb) }
theorem Mid.shl {R : Runs} {x k : Nat} {s : ASt} {wr : World} (h : Mid B A n G g R0 s0 w R x k s wr) (hk : k < 10) : ∃ P : Nat, 2 ^ k = P ∧ IntKind.i64.wrap ((2 : Int) ^ k) = (P : Int) ∧ bits BinOp.xor IntKind.i64 (x : Int) (P : Int) = ((twin x k : Nat) : Int) :=
  ⟨2 ^ k, rfl, (pow_n k (by omega)).1, xor_twin x (by have := h.k10; have := pow2_pos k; omega) k hk (h.bu.ti.al _ _ _ h.at_).2.1⟩
set_option maxRecDepth 100000 in
set_option maxHeartbeats 4000000 in
theorem brelease {R : Runs} {x k : Nat} {s : ASt} (h : BV B A n s w) (hB : Bud (n + 1) G g R x s) (e : R x = some (k, false)) :
    Calls Tryz.prog 100 #[bdyP B, .int .i64 (x : Int), .int .i64 (k : Int)] w fun e w' => e = .returned (.tuple #[]) ∧ Goes B A n G g R s w w' := by
  have HM : Hid (Mid B A n G g R s w R x k s w) := Lib.hid ⟨h, hB, e, Went.refl _ _, TkSame.refl _, KeepT.refl _ _, rfl, rfl⟩
  clear h hB e
  go_enter Tryz.func100, Tryz.ntmps100
  go_wp2_with fail
  go_loopw [1, 2] (fun s1 s2 wr => ∃ (x' k' : Nat) (R' : Runs) (s' : ASt), s1 = .int .i64 (x' : Int) ∧ s2 = .int .i64 (k' : Int) ∧ Hid (Mid B A n G g R s w R' x' k' s' wr)) (fun _ s2 _ => 10 - (intOf s2).toNat)
  case atStart => exact ⟨x, k, R, s, rfl, rfl, HM⟩
  case round =>
    clear HM
    obtain ⟨x', k', R', s', rfl, rfl, HM⟩ := hrel
    by_cases hk : k' < 10
    · obtain ⟨P, hP, hw, hx⟩ := HM.out.shl hk
      have hk2 : ((k' : Nat) : Int) < 10 := by omega
      obtain ⟨c0, c1, c2, c3, c4, c5, c6, c7, c8, c9, _⟩ := HM.out.bv.all
      obtain ⟨t, ht⟩ : ∃ t, twin x' k' = t := ⟨_, rfl⟩
      have HT := Lib.hid ht
      rw [ht] at hx
      have HG := Lib.hid (tget_on HM.out.bv.1 256 n (by omega) (by have := HM.out.k10; omega) (t : Int) (by have := HM.out.k10; have := twin_lt (x := x') (k := k') (by have := pow2_pos k'; omega) hk; omega))
      have HTW := Lib.hid (HM.out.bu.twin_tag HM.out.bv.2.1 HM.out.at_)
      rw [ht] at HTW
      have hmn : Hid (min x' t = min x' (twin x' k')) := Lib.hid (by rw [ht])
      clear hP ht
      go_wp2_with fail
      refine HG.out.mono ?_
      rintro e w1 ⟨rfl, hb⟩
      have HM1 := Lib.hid (HM.out.below hb)
      clear hb c0 c1 c2 c3 c4 c5 c6 c7 c8 c9 HG
      have hS := tagS_b (gC s' 256 n (t : Int)) (gC_b s' 256 n (t : Int)).1
      have hO := tagO_b (gC s' 256 n (t : Int)) (gC_b s' 256 n (t : Int)).1
      generalize tagS (gC s' 256 n (t : Int)) = S at *
      generalize tagO (gC s' 256 n (t : Int)) = O at *
      generalize gE s' 256 n (t : Int) = E at *
      have hwO : IntKind.i64.wrap O = O := by rw [IntKind.wrap_i64]; omega
      have hm2 := HM1.out.below (bel1 w1 (.cells #[.int .u8 S, .int .u8 O] 118))
      rcases HTW.out with ⟨hf, rfl, rfl⟩ | ⟨hf, hn | ⟨rfl, hn⟩⟩
      · have HM2 := Lib.hid hm2
        have HFF := Lib.hid hf
        clear HM1 HTW HM hS hO
        go_upto_region 4 with fail
        obtain ⟨w2, hw2⟩ : ∃ w2, w1.alloc (.cells #[.int .u8 2, .int .u8 (k' : Int)] 118) = w2 := ⟨_, rfl⟩
        rw [hw2] at hm2 HM2 ⊢
        clear hw2
        have HAD := Lib.hid fun X (hX : BV B A n s' X) => baddr hX (HM2.out.k10.2.2) t (by have := HM2.out.k10; have := twin_lt (x := x') (k := k') (by have := pow2_pos k'; omega) hk; have := HT.out; omega)
        have HJ := Lib.hid fun X (hX : Mid B A n G g R s w R' x' k' s' X) => hX.join hk (by rw [HT.out]; exact HFF.out)
        rw [HT.out] at HJ
        clear hm2
        go_region_held3 (fun x => x.cell? ⟨B, 4, none⟩ = some (.pointer (some ⟨A, 0, none⟩)) ∧ x.cell? ⟨B, 5, none⟩ = some (.int .i64 16) ∧ x.cell? ⟨B, 6, none⟩ = some (.int .i64 88))
          (first | (have q := (HM2.out.below (Below.refl _ _).drew).bv.all; exact ⟨q.2.2.2.2.1, q.2.2.2.2.2.1, q.2.2.2.2.2.2.1⟩) | assumption)
          (first | (go_at_call 82; refine (HAD.out _ (HM2.out.below (Below.refl _ _).drew).bv).mono ?_; rintro e w' ⟨rfl, hb⟩; have hm3 := (HM2.out.below (Below.refl _ _).drew).below hb; have hq := hm3.bv.all; have kk := And.intro hq.2.2.2.2.1 (And.intro hq.2.2.2.2.2.1 hq.2.2.2.2.2.2.1))
                 | (go_at_call 76; refine (HJ.out _ hm3).mono ?_; rintro e w3 ⟨rfl, s3, hm4⟩; have hq2 := hm4.bv.all; have kk2 := And.intro hq2.2.2.2.2.1 (And.intro hq2.2.2.2.2.2.1 hq2.2.2.2.2.2.2.1); have HM4 := Lib.hid hm4))
        clear hm3 hm4 hq hq2 kk kk2 HJ HAD hb
        go_wp2_with fail
        refine ⟨⟨min x' t, k' + 1, _, s3, by rw [show ((min x' t : Nat) : Int) = if t < x' then (t : Int) else (x' : Int) from by split <;> omega], by go_num, HM4⟩, by simp [intOf]; omega⟩
      · have HST := Lib.hid fun (X : World) (hX : Mid B A n G g R s w R' x' k' s' X) => hX.stop fun _ => by rw [HT.out]; exact hf
        have HM2 := Lib.hid hm2
        clear hm2 HM1 HTW HM hf
        go_wp2_with fail
        refine (HST.out _ HM2.out).mono ?_
        rintro e w' ⟨rfl, hgo⟩
        have HGO := Lib.hid hgo
        clear hgo
        go_wp2_with fail
        go_end0
        exact ⟨rfl, HGO.out⟩
      · have HST := Lib.hid fun (X : World) (hX : Mid B A n G g R s w R' x' k' s' X) => hX.stop fun _ => by rw [HT.out]; exact hf
        have HM2 := Lib.hid hm2
        clear hm2 HM1 HTW HM hf
        go_wp2_with fail
        refine (HST.out _ HM2.out).mono ?_
        rintro e w' ⟨rfl, hgo⟩
        have HGO := Lib.hid hgo
        clear hgo
        go_wp2_with fail
        go_end0
        exact ⟨rfl, HGO.out⟩
    · have HST := Lib.hid fun (X : World) (hX : Mid B A n G g R s w R' x' k' s' X) => hX.stop fun q => absurd q hk
      have hk2 : ¬ ((k' : Nat) : Int) < 10 := by omega
      go_wp2_with fail
      refine (HST.out _ HM.out).mono ?_
      rintro e w' ⟨rfl, hgo⟩
      have HGO := Lib.hid hgo
      clear hgo
      go_wp2_with fail
      go_end0
      exact ⟨rfl, HGO.out⟩
end
end Go.Proofs.YtfemgekhpcgliaaGreat.Bt
/- The plain mathematics of layer 1 (sizes): no program, no condition. -/
namespace Go.Proofs.YtfemgekhpcgliaaGreat.Sz
open Go

def isSz (n : Int) : Bool := decide (0 ≤ n ∧ n ≤ 4294967296)
def wholeB (a : Int) : Bool := decide (a ∈ [1, 2, 4, 8, 16, 32, 64, 128, 256, 512, 1024, 2048, 4096])
def upV (n a : Int) : Int := if isSz n && wholeB a then (n + a - 1) / a * a else 0
def upB (n a : Int) : Bool := isSz n && wholeB a
def pgV (n : Int) : Int := if isSz n then (n + 4095) / 4096 else 0
def ordV (p : Int) : Int := if p < 1 then 0 else if p ≤ 1 then 0 else if p ≤ 2 then 1 else if p ≤ 4 then 2 else if p ≤ 8 then 3 else if p ≤ 16 then 4 else if p ≤ 32 then 5 else if p ≤ 64 then 6 else if p ≤ 128 then 7 else if p ≤ 256 then 8 else if p ≤ 512 then 9 else if p ≤ 1024 then 10 else 0
def ordB (p : Int) : Bool := decide (1 ≤ p ∧ p ≤ 1024)
def spanV (o : Int) : Int := if o < 0 then 0 else if 10 < o then 0 else 4096 * 2 ^ o.toNat
def pw (j : Nat) : Int := 2 ^ j

theorem isSz_true {n : Int} (h : isSz n = true) : 0 ≤ n ∧ n ≤ 4294967296 := by simpa [isSz] using h
theorem isSz_mk {n : Int} (h : 0 ≤ n ∧ n ≤ 4294967296) : isSz n = true := by simpa [isSz] using h
theorem isSz_no {n : Int} (h : ¬ (0 ≤ n ∧ n ≤ 4294967296)) : isSz n = false := by simpa [isSz] using h

theorem wholeB_cases {a : Int} (h : wholeB a = true) : a = 1 ∨ a = 2 ∨ a = 4 ∨ a = 8 ∨ a = 16 ∨ a = 32 ∨ a = 64 ∨ a = 128 ∨ a = 256 ∨ a = 512 ∨ a = 1024 ∨ a = 2048 ∨ a = 4096 := by
  simpa [wholeB] using h
theorem wholeB_range {a : Int} (h : wholeB a = true) : 1 ≤ a ∧ a ≤ 4096 := by
  rcases wholeB_cases h with h | h | h | h | h | h | h | h | h | h | h | h | h <;> omega

theorem up_bd {n a : Int} (h : isSz n = true) (ha : wholeB a = true) : n ≤ (n + a - 1) / a * a ∧ (n + a - 1) / a * a ≤ 4294967296 ∧ (n + a - 1) / a * a - n < a ∧ (n + a - 1) / a * a % a = 0 := by
  have := isSz_true h
  rcases wholeB_cases ha with rfl | rfl | rfl | rfl | rfl | rfl | rfl | rfl | rfl | rfl | rfl | rfl | rfl <;> omega
theorem pw_succ (j : Nat) : pw (j + 1) = 2 * pw j := by unfold pw; rw [Int.pow_succ]; omega
theorem pw_pos (j : Nat) : 1 ≤ pw j := by
  induction j with
  | zero => decide
  | succ j ih => rw [pw_succ]; omega
theorem pw_mono {i j : Nat} (h : i ≤ j) : pw i ≤ pw j := by
  induction h with
  | refl => omega
  | step _ ih => rw [pw_succ]; have := pw_pos i; omega
theorem pw_10 : pw 10 = 1024 := by decide

/-- 'a & (a - 1) is nought' says the same -/
theorem whole_bits_nat : ∀ i : Fin 64, ∀ j : Fin 64, (bits .and .i64 ((64 * i.val + j.val + 1 : Nat) : Int) (((64 * i.val + j.val + 1 : Nat) : Int) - 1) == 0) = wholeB ((64 * i.val + j.val + 1 : Nat) : Int) := by decide +kernel
theorem whole_bits (a : Int) (h1 : 1 ≤ a) (h2 : a ≤ 4096) : (bits .and .i64 a (a - 1) == 0) = wholeB a := by
  obtain ⟨k, rfl⟩ : ∃ k : Nat, a = ((k + 1 : Nat) : Int) := ⟨(a - 1).toNat, by omega⟩
  have h := whole_bits_nat ⟨k / 64, by omega⟩ ⟨k % 64, by omega⟩
  simpa [show 64 * (k / 64) + k % 64 = k from by omega] using h
theorem whole_no (a : Int) (h : a < 1 ∨ 4096 < a) : wholeB a = false := by
  cases hw : wholeB a with
  | false => rfl
  | true => have := wholeB_range hw; omega
end Go.Proofs.YtfemgekhpcgliaaGreat.Sz
/- The contracts of isSize, Is, Whole (both), Up (both), Pages (both): each returns what the plain functions of SizeMath give, and leaves the world as it was. No condition but that the integers fit their kind. -/
namespace Go.Proofs.YtfemgekhpcgliaaGreat.Sz
open Go Go.RowKit

theorem isSize_any (n : Int) (w : World) : Calls Tryz.prog 108 #[.int .i64 n] w fun e w' => e = .returned (.bool (isSz n)) ∧ w = w' := by
  by_cases h : 0 ≤ n
  · by_cases h2 : n ≤ 4294967296
    · rw [isSz_mk ⟨h, h2⟩]
      go_enter Tryz.func108, Tryz.ntmps108
      go_wp2
      go_ret
      exact ⟨rfl, rfl⟩
    · rw [isSz_no (by omega)]
      go_enter Tryz.func108, Tryz.ntmps108
      go_wp2
      go_ret
      exact ⟨rfl, rfl⟩
  · rw [isSz_no (by omega)]
    go_enter Tryz.func108, Tryz.ntmps108
    go_wp2
    go_ret
    exact ⟨rfl, rfl⟩

theorem whole_any (a : Int) (w : World) : Calls Tryz.prog 109 #[.int .i64 a] w fun e w' => e = .returned (.bool (wholeB a)) ∧ w = w' := by
  by_cases h1 : 1 ≤ a
  · by_cases h2 : a ≤ 4096
    · rw [← whole_bits a h1 h2]
      go_enter Tryz.func109, Tryz.ntmps109
      go_wp2
      go_ret
      exact ⟨rfl, rfl⟩
    · rw [whole_no a (by omega)]
      go_enter Tryz.func109, Tryz.ntmps109
      go_wp2
      go_ret
      exact ⟨rfl, rfl⟩
  · rw [whole_no a (by omega)]
    go_enter Tryz.func109, Tryz.ntmps109
    go_wp2
    go_ret
    exact ⟨rfl, rfl⟩

end Go.Proofs.YtfemgekhpcgliaaGreat.Sz
/- The contracts of Up, Pages, Order, Span, the program's and the document's: each returns what the plain functions of SizeMath give, and leaves the world as it was, but for draws. -/
namespace Go.Proofs.YtfemgekhpcgliaaGreat.Sz
open Go Go.RowKit

theorem up_calls (n a : Int) (w : World) : Calls Tryz.prog 70 #[.int .i64 n, .int .i64 a] w fun e w' => e = .returned (.tuple #[.int .i64 (upV n a), .bool (upB n a)]) ∧ w = w' := by
  unfold upV upB
  cases hs : isSz n with
  | false =>
    have HS := Lib.hid hs; clear hs
    go_enter Tryz.func70, Tryz.ntmps70
    go_wp2_with (go_at_call 108; refine (isSize_any _ _).mono ?_; rw [HS.out]; rintro e w' ⟨rfl, rfl⟩)
    go_ret2
    exact ⟨rfl, rfl⟩
  | true =>
    cases ha : wholeB a with
    | false =>
      have HS := Lib.hid hs; clear hs
      have HA := Lib.hid ha; clear ha
      go_enter Tryz.func70, Tryz.ntmps70
      go_wp2_with (first | (go_at_call 108; refine (isSize_any _ _).mono ?_; rw [HS.out]; rintro e w' ⟨rfl, rfl⟩) | (go_at_call 109; refine (whole_any _ _).mono ?_; rw [HA.out]; rintro e w' ⟨rfl, rfl⟩))
      go_ret2
      exact ⟨rfl, rfl⟩
    | true =>
      have hr := wholeB_range ha
      have hn := isSz_true hs
      obtain ⟨b1, b2, _, _⟩ := up_bd hs ha
      have HS := Lib.hid hs; clear hs
      have HA := Lib.hid ha; clear ha
      go_enter Tryz.func70, Tryz.ntmps70
      go_wp2_with (first | (go_at_call 108; refine (isSize_any _ _).mono ?_; rw [HS.out]; rintro e w' ⟨rfl, rfl⟩) | (go_at_call 109; refine (whole_any _ _).mono ?_; rw [HA.out]; rintro e w' ⟨rfl, rfl⟩))
      go_ret2
      exact ⟨rfl, rfl⟩

theorem pages_calls (n : Int) (w : World) : Calls Tryz.prog 88 #[.int .i64 n] w fun e w' => e = .returned (.tuple #[.int .i64 (pgV n), .bool (isSz n)]) ∧ w = w' := by
  have hb : 0 ≤ upV n 4096 ∧ upV n 4096 ≤ 4294967296 := by
    unfold upV
    cases hs : isSz n with
    | false => simp
    | true => have := isSz_true hs; have hw : wholeB 4096 = true := by decide
              rw [hw]; simp; omega
  have HE : Hid (upV n 4096 / 4096 = pgV n) := by
    refine Lib.hid ?_
    unfold upV pgV
    cases hs : isSz n with
    | false => simp
    | true => have := isSz_true hs; have hw : wholeB 4096 = true := by decide
              rw [hw]; simp; omega
  have HB : Hid (upB n 4096 = isSz n) := by
    refine Lib.hid ?_
    unfold upB; have hw : wholeB 4096 = true := by decide
    rw [hw]; simp
  go_enter Tryz.func88, Tryz.ntmps88
  go_wp2_with (go_at_call 70; refine (up_calls _ _ _).mono ?_; rintro e w' ⟨rfl, rfl⟩)
  go_ret2
  exact ⟨by simp [HE.out, HB.out], rfl⟩

end Go.Proofs.YtfemgekhpcgliaaGreat.Sz
/- The contracts of Order and Span, the program's and the document's: each returns what the plain functions of SizeMath give, and leaves the world as it was. -/
namespace Go.Proofs.YtfemgekhpcgliaaGreat.Sz
open Go Go.RowKit

theorem ord_hit (p : Int) (j : Nat) (hj : j ≤ 10) (h1 : 1 ≤ p) (hn : ∀ i, i < j → pw i < p) (hp : p ≤ pw j) : ordV p = j ∧ ordB p = true := by
  have hb : pw j ≤ 1024 := by rw [← pw_10]; exact pw_mono hj
  refine ⟨?_, by simp [ordB]; omega⟩
  have e : ∀ i, pw i = 2 ^ i := fun _ => rfl
  unfold ordV
  match j, hj with
  | 0, _ => have := e 0; simp at this; omega
  | 1, _ => have a := hn 0 (by omega); simp [e] at a hp; omega
  | 2, _ => have a := hn 1 (by omega); simp [e] at a hp; omega
  | 3, _ => have a := hn 2 (by omega); simp [e] at a hp; omega
  | 4, _ => have a := hn 3 (by omega); simp [e] at a hp; omega
  | 5, _ => have a := hn 4 (by omega); simp [e] at a hp; omega
  | 6, _ => have a := hn 5 (by omega); simp [e] at a hp; omega
  | 7, _ => have a := hn 6 (by omega); simp [e] at a hp; omega
  | 8, _ => have a := hn 7 (by omega); simp [e] at a hp; omega
  | 9, _ => have a := hn 8 (by omega); simp [e] at a hp; omega
  | 10, _ => have a := hn 9 (by omega); simp [e] at a hp; omega
  | n + 11, h => omega
theorem ord_none (p : Int) (hn : p < 1 ∨ ∀ i, i < 11 → pw i < p) : ordV p = 0 ∧ ordB p = false := by
  rcases hn with h | h
  · exact ⟨by unfold ordV; omega, by simp [ordB]; omega⟩
  · have a := h 10 (by omega)
    rw [pw_10] at a
    exact ⟨by unfold ordV; omega, by simp [ordB]; omega⟩

theorem span_zero {o : Int} (h : o < 0 ∨ 10 < o) : spanV o = 0 := by
  unfold spanV
  by_cases h1 : o < 0
  · simp [h1]
  · rw [if_neg h1, if_pos (by omega)]
theorem span_pw (j : Nat) (h : j ≤ 10) : spanV j = 4096 * pw j := by
  unfold spanV pw
  rw [if_neg (by omega), if_neg (by omega)]; simp

theorem span_calls (o : Int) (w : World) : Calls Tryz.prog 69 #[.int .i64 o] w fun e w' => e = .returned (.int .i64 (spanV o)) ∧ w = w' := by
  by_cases h1 : o < 0
  · rw [span_zero (.inl h1)]
    go_enter Tryz.func69, Tryz.ntmps69
    go_wp2
    go_ret
    exact ⟨rfl, rfl⟩
  · by_cases h2 : 10 < o
    · rw [span_zero (.inr h2)]
      go_enter Tryz.func69, Tryz.ntmps69
      go_wp2
      go_ret
      exact ⟨rfl, rfl⟩
    · obtain ⟨j, rfl⟩ := Int.eq_ofNat_of_zero_le (show 0 ≤ o by omega)
      rw [span_pw j (by omega)]
      have hle : pw j ≤ 1024 := by rw [← pw_10]; exact pw_mono (by omega)
      have hp1 := pw_pos j
      have hw : wrap64 (4096 * 2 ^ j) = 4096 * pw j := IntWalk.wrap64_in (4096 * pw j) ⟨by omega, by omega⟩
      go_enter Tryz.func69, Tryz.ntmps69
      go_wp2
      go_ret
      exact ⟨rfl, rfl⟩

end Go.Proofs.YtfemgekhpcgliaaGreat.Sz
/- The contracts of Sum, the program's and the document's, over any slice of integers, the nil one too: each returns what 'sumF' gives, and leaves the world as it was. -/
namespace Go.Proofs.YtfemgekhpcgliaaGreat.Sz
open Go Go.RowKit

def sumF : Int → List Int → Option Int
  | t, [] => some t
  | t, x :: r => if isSz x && isSz (t + x) then sumF (t + x) r else none
def sumV (l : List Int) : Int := (sumF 0 l).getD 0
def sumB (l : List Int) : Bool := (sumF 0 l).isSome

theorem sum_end {t : Int} {l zs : List Int} (h : sumF 0 zs = sumF t l) (hl : l = []) : sumV zs = t ∧ sumB zs = true := by
  subst hl; unfold sumV sumB; rw [h]; simp [sumF]
theorem sum_bad {t x : Int} {zs : List Int} {k : Nat} (h : sumF 0 zs = sumF t (zs.drop k)) (hk : k < zs.length) (hx : zs.getD k 0 = x) (hb : ¬ (isSz x = true ∧ isSz (t + x) = true)) : sumV zs = 0 ∧ sumB zs = false := by
  have e : zs.drop k = x :: zs.drop (k + 1) := by
    rw [List.drop_eq_getElem_cons hk]; simp [List.getD_eq_getElem?_getD, List.getElem?_eq_getElem hk] at hx; rw [hx]
  have hf : sumF 0 zs = none := by
    rw [h, e, sumF, if_neg]; simpa using hb
  unfold sumV sumB; rw [hf]; simp
theorem sum_next {t x : Int} {zs : List Int} {k : Nat} (h : sumF 0 zs = sumF t (zs.drop k)) (hk : k < zs.length) (hx : zs.getD k 0 = x) (hb : isSz x = true ∧ isSz (t + x) = true) : sumF 0 zs = sumF (t + x) (zs.drop (k + 1)) := by
  have e : zs.drop k = x :: zs.drop (k + 1) := by
    rw [List.drop_eq_getElem_cons hk]; simp [List.getD_eq_getElem?_getD, List.getElem?_eq_getElem hk] at hx; rw [hx]
  rw [h, e, sumF, if_pos]; simpa using hb

theorem sum_calls (b off cap : Nat) (zs : List Int) (w : World) (hlen : zs.length ≤ 9223372036854775807)
    (hc : ∀ k, k < zs.length → w.cell? ⟨b, off + k, none⟩ = some (.int .i64 (zs.getD k 0))) :
    Calls Tryz.prog 87 #[.slice (some ⟨b, off, none⟩) zs.length cap] w fun e w' => e = .returned (.tuple #[.int .i64 (sumV zs), .bool (sumB zs)]) ∧ w = w' := by
  have HC := Lib.hid hc; clear hc
  go_enter Tryz.func87, Tryz.ntmps87
  go_wp2
  go_loop [4, 9] (fun t i => ∃ k : Nat, ∃ n : Int, k ≤ zs.length ∧ 0 ≤ n ∧ n ≤ 4294967296 ∧ sumF 0 zs = sumF n (zs.drop k) ∧ i = .int .i64 k ∧ t = .int .i64 n) (fun _ i => (zs.length - intOf i).toNat)
  case atStart => exact ⟨0, 0, by omega, by omega, by omega, rfl, rfl, rfl⟩
  case round =>
    obtain ⟨k, n, hk, hn0, hn1, hs, rfl, rfl⟩ := hrel
    have HS := Lib.hid hs; clear hs
    by_cases hlt : k < zs.length
    · obtain ⟨x, hx⟩ : ∃ x, zs.getD k 0 = x := ⟨_, rfl⟩
      have hcell : w.cell? ⟨b, off + k, none⟩ = some (.int .i64 x) := by rw [← hx]; exact HC.out k hlt
      have HX := Lib.hid hx; clear hx
      by_cases hneg : x < 0
      · obtain ⟨e1, e2⟩ := sum_bad HS.out hlt HX.out (fun h => by have := isSz_true h.1; omega)
        have E1 := Lib.hid e1; have E2 := Lib.hid e2; clear e1 e2
        go_wp2
        go_ret2
        exact ⟨by rw [E1.out, E2.out]; rfl, rfl⟩
      · by_cases hbig : 4294967296 - n < x
        · obtain ⟨e1, e2⟩ := sum_bad HS.out hlt HX.out (fun h => by have := isSz_true h.2; omega)
          have E1 := Lib.hid e1; have E2 := Lib.hid e2; clear e1 e2
          go_wp2
          go_ret2
          exact ⟨by rw [E1.out, E2.out]; rfl, rfl⟩
        · have hb : isSz x = true ∧ isSz (n + x) = true := ⟨isSz_mk (by omega), isSz_mk (by omega)⟩
          have HN := Lib.hid (sum_next HS.out hlt HX.out hb); clear hb
          go_wp2
          go_round
          case rel => exact ⟨k + 1, n + x, by omega, by omega, by omega, HN.out, by go_num, rfl⟩
          case measure => simp [intOf]; omega
    · obtain ⟨e1, e2⟩ := sum_end HS.out (List.drop_eq_nil_of_le (by omega))
      have E1 := Lib.hid e1; have E2 := Lib.hid e2; clear e1 e2
      go_wp2
      go_ret2
      exact ⟨by rw [E1.out, E2.out]; rfl, rfl⟩
end Go.Proofs.YtfemgekhpcgliaaGreat.Sz
/- A buddy's Grow. -/
namespace Go.Proofs.YtfemgekhpcgliaaGreat.Bt
open Go Go.RowKit Go.Shelf
set_option linter.unusedVariables false
set_option linter.unusedSimpArgs false
theorem up_is (g k : Nat) (hg : g ≤ 80) (hk : k ≤ 10) : Sz.upV (g : Int) ((2 ^ k : Nat) : Int) = ((upN g (2 ^ k) : Nat) : Int) ∧ Sz.upB (g : Int) ((2 ^ k : Nat) : Int) = true := by
  have hi : Sz.isSz (g : Int) = true := by unfold Sz.isSz; rw [decide_eq_true_iff]; omega
  have h2 : k = 0 ∨ k = 1 ∨ k = 2 ∨ k = 3 ∨ k = 4 ∨ k = 5 ∨ k = 6 ∨ k = 7 ∨ k = 8 ∨ k = 9 ∨ k = 10 := by omega
  have hw : Sz.wholeB ((2 ^ k : Nat) : Int) = true := by rcases h2 with rfl | rfl | rfl | rfl | rfl | rfl | rfl | rfl | rfl | rfl | rfl <;> decide
  have h0 := pow2_pos k
  obtain ⟨b1, b2, b3, b4⟩ := Sz.up_bd hi hw
  obtain ⟨u1, u2, u3, _⟩ := upN_is (g := g) h0
  refine ⟨?_, by unfold Sz.upB; rw [hi, hw]; rfl⟩
  unfold Sz.upV
  rw [hi, hw]
  simp only [Bool.and_self, if_true]
  generalize ((g : Int) + ((2 ^ k : Nat) : Int) - 1) / ((2 ^ k : Nat) : Int) * ((2 ^ k : Nat) : Int) = V at *
  obtain ⟨v, rfl⟩ := Int.eq_ofNat_of_zero_le (show 0 ≤ V by omega)
  generalize 2 ^ k = P at *
  generalize upN g P = u at *
  have : v = u := mul_near (n := P) (by omega) u3 (by omega) (by omega)
  rw [this]
theorem more_taken {g k : Nat} {R : Runs} (h : Til g R g) : TkSame R (layR R g k false) := fun i l => by
  constructor
  · intro q
    rcases layR_some q with ⟨_, _, c⟩ | ⟨_, c⟩
    · cases c
    · exact c
  · intro q
    rw [layR_out (.inl (h.lt q))]
    exact q
/-- as it grows: it has E pages, p of them are in runs -/
structure Stp (B A n E p : Nat) (R0 : Runs) (m0 : Nat → UInt8) (rf : Bool) (lf : Nat) (w : World) (R : Runs) (s : ASt) (wr : World) : Prop where
  bv : BV B A n s wr
  bu : Bud (n + 1) E p R p s
  wt : Went A w wr
  tk : TkSame R0 R
  kp : KeepT R0 m0 s.mm
  rf : s.rf = rf
  lf : s.lf = lf
section
variable {B A n E p : Nat} {R0 : Runs} {m0 : Nat → UInt8} {rf : Bool} {lf : Nat} {w : World}
theorem Stp.below {R : Runs} {s : ASt} {wr w' : World} (h : Stp B A n E p R0 m0 rf lf w R s wr) (hb : Below wr.heap.size wr w') : Stp B A n E p R0 m0 rf lf w R s w' :=
  { h with bv := h.bv.below hb, wt := h.wt.trans (Went.of_below h.bv.1 hb) }
/-- a run more -/
theorem Stp.run {R : Runs} {s : ASt} {wr : World} {k : Nat} (h : Stp B A n E p R0 m0 rf lf w R s wr) (hk : k ≤ 10) (hp : p % 2 ^ k = 0) (hE : p + 2 ^ k ≤ E) :
    Calls Tryz.prog 100 #[bdyP B, .int .i64 (p : Int), .int .i64 (k : Int)] wr fun e w' => e = .returned (.tuple #[]) ∧ ∃ R' s', Stp B A n E (p + 2 ^ k) R0 m0 rf lf w R' s' w' := by
  refine (brelease h.bv (h.bu.more hk hp hE) (layR_self _ _ _ _)).mono ?_
  rintro e w' ⟨rfl, R', s', g1, g2, g3, g4, g5, g6, g7⟩
  have t1 := more_taken (k := k) h.bu.ti
  refine ⟨rfl, R', s', g1, g2, h.wt.trans g3, (h.tk.trans t1).trans g4, h.kp.trans (fun i l e a q1 q2 => g5 i l ((t1 i l).2 e) a q1 q2) h.tk, g6.trans h.rf, g7.trans h.lf⟩
end
/-- what Grow does where it can't -/
def GrowNo (B A n g : Nat) (R : Runs) (s : ASt) (w w' : World) : Prop := BV B A n (refS s) w' ∧ Bud (n + 1) g g R g (refS s) ∧ Went A w w'
theorem Bud.ref {cap G g x : Nat} {R : Runs} {s : ASt} (h : Bud cap G g R x s) : Bud cap G g R x (refS s) :=
  { cL := (refS_L s).trans h.cL, c2 := h.c2, es := (refS_es s).trans h.es, gG := h.gG, mr := by rw [refS_mm]; exact h.mr, gr := by rw [refS_mm]; exact h.gr, tg := by rw [refS_mm]; exact h.tg, ls := by rw [refS_L, refS_es, refS_mm]; exact h.ls, ti := h.ti }
section
variable {B A n g : Nat} {R : Runs} {s : ASt} {w : World}
theorem put8_keep (R : Runs) (m : Nat → UInt8) (v : Nat) : KeepT R m (put8 m 8 v) := fun i k e a h1 h2 => put8_byte _ _ (by omega)
set_option maxRecDepth 100000 in
set_option maxHeartbeats 4000000 in
theorem bgrow_out (h : BV B A n s w) (k : Int) (hk : k < 0 ∨ 10 < k) : Calls Tryz.prog 56 #[bdyP B, .int .i64 k] w fun e w' => e = .returned (.int .i64 2) ∧ w = w' := by
  have hd : decide (0 ≤ k ∧ k ≤ 10) = false := by rw [decide_eq_false_iff_not]; omega
  have HD := Lib.hid hd
  clear hd hk
  go_enter Tryz.func56, Tryz.ntmps56
  go_wp2_with fail
  refine (bisorder k _).mono ?_
  rw [HD.out]
  rintro e w' ⟨rfl, rfl⟩
  go_wp2_with fail
  go_ret
  exact ⟨rfl, rfl⟩
/-- the Commit by which it grows -/
theorem bcommit (h : BV B A n s w) (hB : Bud (n + 1) g g R g s) (E : Nat) (hE : g < E) :
    Calls Tryz.prog 44 #[.pointer (some ⟨A, 0, none⟩), .int .i64 ((1 + g : Nat) : Int), .int .i64 ((E - g : Nat) : Int)] w fun e w' => ∃ c : Int, e = .returned (.int .i64 c) ∧
      ((c ≠ 0 ∧ n < E ∧ BV B A n s w' ∧ Went A w w') ∨ (c ≠ 0 ∧ E ≤ n ∧ refB s = true ∧ GrowNo B A n g R s w w') ∨ (c = 0 ∧ E ≤ n ∧ refB s = false ∧ BV B A n { refS s with es := [0, 1 + E] } w' ∧ Went A w w')) := by
  have hz := hB.sz h.2.1
  refine (on_commit h.1 _ _ (by omega)).mono ?_
  rintro e w' ⟨rfl, ho, hg⟩
  refine ⟨_, rfl, ?_⟩
  by_cases c : n < E
  · obtain ⟨q1, q2⟩ := up_no (e := 1 + g) (d := E - g) hB.cL (by omega) (by omega)
    rw [q1]; rw [q2] at ho
    exact .inl ⟨by decide, c, h.went ho hg rfl, hg⟩
  · cases r : refB s with
    | true =>
      obtain ⟨q1, q2⟩ := up_refused (e := 1 + g) (d := E - g) hB.cL hB.es (by omega) (by omega) (by omega) r
      rw [q1]; rw [q2] at ho
      exact .inr (.inl ⟨by decide, by omega, rfl, h.went ho hg (refS_L s), hB.ref, hg⟩)
    | false =>
      obtain ⟨q1, q2⟩ := up_given (e := 1 + g) (d := E - g) hB.cL hB.es (by omega) (by omega) (by omega) (by omega) r
      rw [q1]; rw [q2] at ho
      rw [show 1 + g + (E - g) = 1 + E from by omega] at ho
      exact .inr (.inr ⟨rfl, by omega, rfl, h.went ho hg (refS_L s), hg⟩)
def GrowPost (B A n g k : Nat) (R : Runs) (s : ASt) (w : World) (e : Ending) (w' : World) : Prop :=
  (e = .returned (.int .i64 4) ∧ n < upN g (2 ^ k) + 2 ^ k ∧ BV B A n s w' ∧ Went A w w') ∨
  (e = .returned (.int .i64 4) ∧ upN g (2 ^ k) + 2 ^ k ≤ n ∧ refB s = true ∧ GrowNo B A n g R s w w') ∨
  (e = .returned (.int .i64 0) ∧ upN g (2 ^ k) + 2 ^ k ≤ n ∧ refB s = false ∧ ∃ R' s', Stp B A n (upN g (2 ^ k) + 2 ^ k) (upN g (2 ^ k) + 2 ^ k) R s.mm (refS s).rf (refS s).lf w R' s' w')
end
end Go.Proofs.YtfemgekhpcgliaaGreat.Bt
/- A buddy's Grow. -/
namespace Go.Proofs.YtfemgekhpcgliaaGreat.Bt
open Go Go.RowKit Go.Shelf
set_option linter.unusedVariables false
set_option linter.unusedSimpArgs false
section
variable {B A n g : Nat} {R : Runs} {s : ASt} {w : World}
set_option maxRecDepth 100000 in
set_option maxHeartbeats 8000000 in
theorem bgrow_any (h : BV B A n s w) (hB : Bud (n + 1) g g R g s) (k : Nat) (hk : k ≤ 10) : Calls Tryz.prog 56 #[bdyP B, .int .i64 (k : Int)] w (GrowPost B A n g k R s w) := by
  have hz := hB.sz h.2.1
  have hd : decide (0 ≤ (k : Int) ∧ (k : Int) ≤ 10) = true := by rw [decide_eq_true_iff]; omega
  obtain ⟨hN, hN1, hN2⟩ := pow_n k (by omega)
  have HN := Lib.hid hN
  clear hN
  obtain ⟨u1, u2, u3, _⟩ := upN_is (g := g) (pow2_pos k)
  obtain ⟨v1, v2⟩ := up_is g k (by omega) hk
  have HU := Lib.hid fun X => Sz.up_calls (g : Int) ((2 ^ k : Nat) : Int) X
  rw [v1, v2] at HU
  have HGR := Lib.hid fun X (hX : BV B A n s X) => bgrown hX g (by omega) hB.front hB.gr
  have HBA := Lib.hid fun X (hX : BV B A n s X) => bbase hX hz.2.1
  have HCM := Lib.hid fun X (hX : BV B A n s X) => bcommit (R := R) hX hB (upN g (2 ^ k) + 2 ^ k) (by omega)
  have HB := Lib.hid hB
  have HGP : Hid (∀ e w', GrowPost B A n g k R s w e w' ↔ ((e = .returned (.int .i64 4) ∧ n < upN g (2 ^ k) + 2 ^ k ∧ BV B A n s w' ∧ Went A w w') ∨
  (e = .returned (.int .i64 4) ∧ upN g (2 ^ k) + 2 ^ k ≤ n ∧ refB s = true ∧ GrowNo B A n g R s w w') ∨
  (e = .returned (.int .i64 0) ∧ upN g (2 ^ k) + 2 ^ k ≤ n ∧ refB s = false ∧ ∃ R' s', Stp B A n (upN g (2 ^ k) + 2 ^ k) (upN g (2 ^ k) + 2 ^ k) R s.mm (refS s).rf (refS s).lf w R' s' w'))) := Lib.hid fun e w' => Iff.rfl
  have HU3 := Lib.hid u3
  obtain ⟨u, hu⟩ : ∃ u, upN g (2 ^ k) = u := ⟨_, rfl⟩
  obtain ⟨P, hP⟩ : ∃ P, 2 ^ k = P := ⟨_, rfl⟩
  have HP := Lib.hid hP
  rw [hu, hP] at HCM HGP HU
  rw [hu] at u1 u2 HU3
  rw [hP] at u2 HN hN1 hN2 HU3
  obtain ⟨E, hE⟩ : ∃ E, u + P = E := ⟨_, rfl⟩
  rw [hE] at HCM HGP
  have HRN : Hid (∀ (p : Nat) (R' : Runs) (s' : ASt) (X : World), Stp B A n (E) p R s.mm (refS s).rf (refS s).lf w R' s' X → ∀ k' : Nat, k' ≤ 10 → p % 2 ^ k' = 0 → p + 2 ^ k' ≤ E → Calls Tryz.prog 100 #[bdyP B, .int .i64 (p : Int), .int .i64 (k' : Int)] X fun e w' => e = .returned (.tuple #[]) ∧ ∃ R'' s'', Stp B A n (E) (p + 2 ^ k') R s.mm (refS s).rf (refS s).lf w R'' s'' w') := Lib.hid fun p R' s' X hX k' h1 h2 h3 => Stp.run (k := k') hX h1 h2 h3
  have E1 : Hid (IntKind.i64.wrap ((u : Int) + (P : Int)) = (E : Int)) := Lib.hid (by rw [IntKind.wrap_i64]; omega)
  have E2 : Hid (IntKind.i64.wrap ((1 : Int) + (g : Int)) = ((1 + g : Nat) : Int)) := Lib.hid (by rw [IntKind.wrap_i64]; omega)
  have E3 : Hid (IntKind.i64.wrap ((E : Int) - (g : Int)) = ((E - g : Nat) : Int)) := Lib.hid (by rw [IntKind.wrap_i64]; omega)
  have HE := Lib.hid hE
  have HV := Lib.hid h
  have HZ := Lib.hid hz
  have HD := Lib.hid hd
  have HK := Lib.hid hk
  obtain ⟨G1, hG1⟩ : ∃ G1, 1 + g = G1 := ⟨_, rfl⟩
  obtain ⟨D1, hD1⟩ : ∃ D1, E - g = D1 := ⟨_, rfl⟩
  rw [hG1, hD1] at HCM
  rw [hG1] at E2
  rw [hD1] at E3
  have HSM : Hid (E ≤ 3000 ∧ u ≤ 1200 ∧ P ≤ 1024 ∧ 1 ≤ P ∧ g ≤ u ∧ u < g + P) := Lib.hid (by omega)
  clear u3 v1 v2 hu hP hE hd h hB hG1 hD1 hz
  have hN := HN.out
  have e1 := E1.out
  have e2 := E2.out
  have e3 := E3.out
  go_enter Tryz.func56, Tryz.ntmps56
  go_wp2_with fail
  refine (bisorder k _).mono ?_
  rw [HD.out]
  rintro e w' ⟨rfl, rfl⟩
  go_wp2_with fail
  refine (HGR.out _ HV.out).mono ?_
  rintro e w1 ⟨rfl, hb⟩
  have HV1 := Lib.hid (HV.out.below hb)
  have HW1 := Lib.hid (Went.of_below HV.out.1 hb)
  clear hb
  go_wp2_with fail
  refine (HU.out _).mono ?_
  rintro e w' ⟨rfl, rfl⟩
  go_wp2_with fail
  go_region_held3 (fun x => x.cell? ⟨B, 0, none⟩ = some (.pointer (some ⟨A, 0, none⟩)))
    (first | (have q := (HV1.out.below (Below.refl _ _).drew).all; exact q.1) | assumption)
    (first | (go_at_call 17; refine (HBA.out _ (HV1.out.below (Below.refl _ _).drew)).mono ?_; rintro e w' ⟨rfl, hb⟩; have hb2 := (Below.refl _ _).drew.trans hb; have hv2 := HV1.out.below hb2; have kk := hv2.all.1)
           | (go_at_call 44; refine (HCM.out _ hv2).mono ?_; rintro e w3 ⟨c, rfl, hc⟩; have hc2 := Lib.hid hc; have hww := HW1.out.trans (Went.of_below HV1.out.1 hb2); have kk2 : w3.cell? ⟨B, 0, none⟩ = some (.pointer (some ⟨A, 0, none⟩)) := (by rcases hc2.out with ⟨_, _, q, _⟩ | ⟨_, _, _, q⟩ | ⟨_, _, _, q, _⟩; exact q.all.1; exact q.1.all.1; exact q.all.1); have hw3 := Lib.hid hww))
  clear kk kk2 hc hb hb2 hv2 hww HGR HBA HCM HV1 HU
  rcases hc2.out with ⟨c0, cn, q1, q2⟩ | ⟨c0, cn, cr, q1⟩ | ⟨rfl, cn, cr, q1, q2⟩
  · have HF := Lib.hid ((HGP.out (.returned (.int .i64 4)) w3).2 (.inl ⟨rfl, cn, q1, hw3.out.trans q2⟩))
    have hcb : (c != 0) = true := by simpa using c0
    clear q1 q2 HRN HGP hc2 cn
    go_wp2_with fail
    go_ret
    exact HF.out
  · have HF := Lib.hid ((HGP.out (.returned (.int .i64 4)) w3).2 (.inr (.inl ⟨rfl, cn, cr, q1.1, q1.2.1, hw3.out.trans q1.2.2⟩)))
    have hcb : (c != 0) = true := by simpa using c0
    clear q1 HRN HGP hc2 cn cr
    go_wp2_with fail
    go_ret
    exact HF.out
  · have HCN := Lib.hid cn
    have hz := HZ.out
    have sm := HSM.out
    have hsg := Lib.hid (bsetgrown q1 E (by omega) (by show thereE (refS s).L [0, 1 + E] 8 8 = 0; rw [refS_L]; have := HV.out.2.1; exact there_up (by omega) (by omega) (by omega) (by omega) (by omega) (by omega)))
    have hst : Hid (∀ X, On A { ({ refS s with es := [0, 1 + E] } : ASt) with mm := put8 (refS s).mm 8 E } X → Went A w X → BdyAt B A n X → Stp B A n E g R s.mm (refS s).rf (refS s).lf w R { ({ refS s with es := [0, 1 + E] } : ASt) with mm := put8 (refS s).mm 8 E } X) := Lib.hid fun X h1 h2 h3 => by
      have hb := HB.out.grown (E := E) (rf := (refS s).rf) (lf := (refS s).lf) (by have := HSM.out; have := HE.out; omega) (by have := HCN.out; omega)
      have e : (⟨s.L, [0, 1 + E], put8 s.mm 8 E, (refS s).rf, (refS s).lf⟩ : ASt) = { ({ refS s with es := [0, 1 + E] } : ASt) with mm := put8 (refS s).mm 8 E } := by rw [refS_mm, ← refS_L s]
      rw [e] at hb
      exact ⟨⟨h1, (refS_L s).trans HV.out.2.1, h3⟩, hb, h2, TkSame.refl _, by show KeepT R s.mm (put8 (refS s).mm 8 E); rw [refS_mm]; exact put8_keep _ _ _, rfl, rfl⟩
    have HQ := Lib.hid (And.intro q1 (hw3.out.trans q2))
    obtain ⟨sG, hsG⟩ : ∃ sG, ({ ({ refS s with es := [0, 1 + E] } : ASt) with mm := put8 (refS s).mm 8 E } : ASt) = sG := ⟨_, rfl⟩
    have hsg2 : Hid (Calls Tryz.prog 101 #[bdyP B, .int .i64 (E : Int)] w3 (Ret A sG (.tuple #[]) w3)) := Lib.hid (by rw [← hsG]; exact hsg.out)
    rw [hsG] at hst
    clear q1 q2 hsg hsG hz sm cn
    go_wp2_with fail
    refine hsg2.out.mono ?_
    rintro e w4 ⟨rfl, ho, hg⟩
    have HS := Lib.hid (hst.out w4 ho (HQ.out.2.trans hg) (hg.keep HQ.out.1.1 HQ.out.1.2.2 (by decide) (by decide) (by decide)))
    clear ho hg hst hsg2
    go_wp2_with fail
    go_loopw [9] (fun s9 wr => ∃ (p : Nat) (R' : Runs) (s' : ASt), p ≤ u ∧ s9 = .int .i64 (p : Int) ∧ Hid (Stp B A n E p R s.mm (refS s).rf (refS s).lf w R' s' wr)) (fun s9 _ => u - (intOf s9).toNat)
    case atStart => exact ⟨g, R, sG, u1, rfl, HS⟩
    case round =>
      clear HS
      obtain ⟨p, R', s', hpu, rfl, HS⟩ := hrel
      by_cases hlt : p < u
      · have hlt2 : (p : Int) < (u : Int) := by omega
        have HG := Lib.hid fun X => bgreatest p u hlt (by have := HSM.out; omega) X
        go_wp2_with fail
        refine (HG.out _).mono ?_
        rintro e w5 ⟨k', rfl, hk', hm', hf', rfl⟩
        have HR := Lib.hid (HRN.out p R' s' _ HS.out k' hk' hm' (by have := HE.out; omega))
        obtain ⟨hN', _, _⟩ := pow_n k' (by omega)
        have HN' := Lib.hid hN'
        clear hN'
        obtain ⟨P', hP'⟩ : ∃ P', 2 ^ k' = P' := ⟨_, rfl⟩
        have hp0 := pow2_pos k'
        rw [hP'] at HN' HR hf' hp0
        obtain ⟨p2, hp2⟩ : ∃ p2, p + P' = p2 := ⟨_, rfl⟩
        rw [hp2] at HR
        have E4 : Hid (IntKind.i64.wrap ((p : Int) + (P' : Int)) = (p2 : Int)) := Lib.hid (by have := HSM.out; rw [IntKind.wrap_i64]; omega)
        have hpp : p < p2 ∧ p2 ≤ u := by omega
        have hN' := HN'.out
        have e4 := E4.out
        clear hP' hp2 hm' hf' HG hp0
        go_wp2_with fail
        refine HR.out.mono ?_
        rintro e w6 ⟨rfl, R2, s2, hs2⟩
        have HS2 := Lib.hid hs2
        clear hs2 HR
        go_wp2_with fail
        refine ⟨⟨p2, R2, s2, hpp.2, rfl, HS2⟩, by simp [intOf]; omega⟩
      · obtain rfl : p = u := by omega
        have HR := Lib.hid (HRN.out p R' s' _ HS.out k HK.out (by rw [HP.out]; exact HU3.out) (by rw [HP.out, HE.out]; exact Nat.le_refl _))
        rw [HP.out, HE.out] at HR
        go_wp2_with fail
        refine HR.out.mono ?_
        rintro e w6 ⟨rfl, R2, s2, hs2⟩
        have HF := Lib.hid ((HGP.out (.returned (.int .i64 0)) w6).2 (.inr (.inr ⟨rfl, HCN.out, cr, R2, s2, hs2⟩)))
        clear hs2 HR
        go_wp2_with fail
        go_ret
        exact HF.out
end
end Go.Proofs.YtfemgekhpcgliaaGreat.Bt
/- A buddy's Alloc: what it does to a run that was picked. -/
namespace Go.Proofs.YtfemgekhpcgliaaGreat.Bt
open Go Go.RowKit Go.Shelf
set_option linter.unusedVariables false
set_option linter.unusedSimpArgs false
theorem adr_div (x : Nat) : ((adr x : Nat) : Int).tdiv 4096 = ((1 + x : Nat) : Int) := by
  rw [Int.tdiv_eq_ediv_of_nonneg (by omega)]; unfold adr; omega
/-- one taken run more -/
def TkMore (R R' : Runs) (x k : Nat) : Prop := ∀ i l, R' i = some (l, true) ↔ ((i = x ∧ l = k) ∨ R i = some (l, true))
theorem half_taken {g x k : Nat} {R : Runs} (h : Tile g R) (e : R x = some (k + 1, false)) : TkSame R (halfR R x k false) := fun i l => by
  have hn := half_in h e
  constructor
  · intro q
    rcases half_back q with ⟨_, _, c⟩ | ⟨_, _, _, c⟩ | ⟨_, _, c⟩
    · cases c
    · cases c
    · exact c
  · intro q
    have n1 : i ≠ x := fun c => by rw [c, e] at q; cases (some_of q).2
    have n2 : i ≠ x + 2 ^ k := fun c => by rw [c, hn] at q; cases q
    unfold halfR
    rw [if_neg n1, if_neg n2]
    exact q
theorem take_taken {g x k : Nat} {R : Runs} (h : Tile g R) (e : R x = some (k, false)) : TkMore R (layR R x k true) x k := fun i l => by
  constructor
  · intro q
    rcases layR_back q with ⟨c, d, _⟩ | ⟨_, c⟩
    · exact .inl ⟨c, d⟩
    · exact .inr c
  · rintro (⟨rfl, rfl⟩ | q)
    · exact layR_self _ _ _ _
    · exact h.fwd e (fun c => by rw [c, e] at q; cases (some_of q).2) q
/-- behind a call that took a run -/
def Took (B A n g x k : Nat) (R : Runs) (s : ASt) (w w' : World) : Prop :=
  ∃ R' s', BV B A n s' w' ∧ Bud (n + 1) g g R' g s' ∧ Went A w w' ∧ TkMore R R' x k ∧ KeepT R s.mm s'.mm ∧ s'.rf = s.rf ∧ s'.lf = s.lf
section
variable {B A n G g : Nat} {R0 : Runs} {s0 : ASt} {w : World}
/-- a free run is taken out of its list -/
theorem Stp.pick {R : Runs} {s : ASt} {wr : World} {x l : Nat} (h : Stp B A n g g R0 s0.mm s0.rf s0.lf w R s wr) (e : R x = some (l, false)) :
    Calls Tryz.prog 76 #[lsP (some ⟨A, 0, none⟩) 16 88, .int .i64 (l : Int), .int .i64 (adr x : Int)] wr fun e w' => e = .returned (.int .i64 0) ∧ ∃ s', Mid B A n g g R0 s0 w R x l s' w' := by
  have a := h.bu.addr e
  have hX : adr x ∈ freeL 1 R g g l := freeL_at.2 ⟨a.2.2.1, e, Nat.ne_of_lt a.2.2.1⟩
  refine (lrem_yes h.bv.1 16 88 (by omega) (by omega) (l : Int) (16 + 8 * l) (adr x) (freeL 1 R g g l) ⟨l, rfl, by omega, rfl, h.bu.ls l a.1⟩ (by unfold adr; omega) hX).mono ?_
  rintro e w' ⟨rfl, ho, hg⟩
  exact ⟨rfl, _, h.bv.went ho hg rfl, h.bu.pick e, e, h.wt.trans hg, h.tk, h.kp.trans (del_keep h.bu.ti g 0 l a.1 _ _ _) h.tk, h.rf, h.lf⟩
/-- halved -/
theorem Mid.half {R : Runs} {x k : Nat} {s : ASt} {wr : World} (h : Mid B A n G g R0 s0 w R x (k + 1) s wr) (hG : g ≤ G) :
    Calls Tryz.prog 78 #[bdyP B, .int .i64 ((x + 2 ^ k : Nat) : Int), .int .i64 (k : Int)] wr fun e w' => e = .returned (.tuple #[]) ∧ ∃ R' s', Mid B A n G g R0 s0 w R' x k s' w' := by
  obtain ⟨k1, k2, k3⟩ := h.k10
  have h0 := pow2_pos k
  have hp := pow2_succ k
  have o := freeL_off R x g
  have a := h.bu.addr h.at_
  have gs := h.bu.sz h.bv.2.1
  refine (bsetfree h.bv k3 (x + 2 ^ k) k (by omega) (by omega) (h.bu.tabs h.bv.2.1) (freeL 1 R x g) (lks_lay h.bu.ls o h0 (by omega) (by omega) 2 k 1) (fun c => ?_) (h.bu.there (by unfold adr; omega) (by omega) (by unfold adr; omega))).mono ?_
  · have c2 := (freeL_at.1 c).2.1
    rw [half_in h.bu.ti.toTile h.at_] at c2
    cases c2
  rintro e w' ⟨rfl, ho, hg⟩
  refine ⟨rfl, _, _, h.bv.went ho hg rfl, h.bu.half h.at_, half_at _ _ _ _, h.wt.trans hg, h.tk.trans (half_taken h.bu.ti.toTile h.at_), h.kp.trans ?_ h.tk, h.rf, h.lf⟩
  exact (lay_keep (R := R) (x + 2 ^ k) k (by omega) 2 k 1 s.mm).trans (add_keep h.bu.ti x k (x + 2 ^ k) (by omega) _ h.at_ (by omega) (by omega)) (TkSame.refl R)
/-- taken -/
theorem Mid.take {R : Runs} {x k : Nat} {s : ASt} {wr : World} (h : Mid B A n g g R0 s0 w R x k s wr) :
    Calls Tryz.prog 79 #[tbP (some ⟨A, 0, none⟩) 256 n, .int .i64 (x : Int), .int .i64 (k : Int), .int .u8 3] wr fun e w' => e = .returned (.int .i64 0) ∧ Took B A n g x k R0 s0 w w' := by
  obtain ⟨k1, k2, k3⟩ := h.k10
  obtain ⟨e1, e2⟩ := lay_ok (s := s) 256 x k k2 h.bv.1.good (h.bu.tabs h.bv.2.1)
  have gs := h.bu.sz h.bv.2.1
  have hx : (x : Int) ≤ 9223372036854775807 := by have := pow2_pos k; omega
  refine (tlay_yes h.bv.1 256 n (by omega) (by omega) (x : Int) 3 k (256 + x) (2 ^ k) hx (by omega) 3 k 1 (.inl ⟨by decide, rfl, rfl, rfl⟩) rfl e1 e2).mono ?_
  rintro e w' ⟨rfl, ho, hg⟩
  refine ⟨rfl, _, _, h.bv.went ho hg rfl, h.bu.take h.at_, h.wt.trans hg, fun i l => ?_, h.kp.trans (lay_keep (R := R) x k (by omega) 3 k 1 s.mm) h.tk, h.rf, h.lf⟩
  rw [take_taken h.bu.ti.toTile h.at_ i l, h.tk i l]
end
/-- the run that is taken of: x, of order l; of the runs R1, of g1 pages; s0: how many Commits are OK yet -/
def Picks (n g k : Nat) (R : Runs) (s : ASt) (g1 x l : Nat) (R1 : Runs) (s0 : ASt) : Prop :=
  k ≤ l ∧ R1 x = some (l, false) ∧ TkSame R R1 ∧ Til g1 R1 g1 ∧ Least R1 g1 k (some (x, l)) ∧
    ((g1 = g ∧ R1 = R ∧ s0 = s) ∨ (Least R g k none ∧ g1 = upN g (2 ^ k) + 2 ^ k ∧ g1 ≤ n ∧ refB s = false ∧ s0 = refS s))
def AllocPost (B A n g k : Nat) (R : Runs) (s : ASt) (w : World) (e : Ending) (w' : World) : Prop :=
  (∃ g1 x l R1 s0, Picks n g k R s g1 x l R1 s0 ∧ e = .returned (.tuple #[.int .i64 (adr x : Int), .int .i64 0]) ∧ Took B A n g1 x k R s0 w w') ∨
  (e = .returned (.tuple #[.int .i64 0, .int .i64 4]) ∧ Least R g k none ∧ ((n < upN g (2 ^ k) + 2 ^ k ∧ BV B A n s w' ∧ Went A w w') ∨ (upN g (2 ^ k) + 2 ^ k ≤ n ∧ refB s = true ∧ GrowNo B A n g R s w w')))
/-- ahead of the taking -/
def AlR (B A n g k : Nat) (R : Runs) (s : ASt) (w : World) (s6 s7 : Value) (wx : World) : Prop :=
  ∃ (g1 x l : Nat) (R1 : Runs) (s0 s1 : ASt), s6 = .int .i64 (adr x : Int) ∧ s7 = .int .i64 (l : Int) ∧ Picks n g k R s g1 x l R1 s0 ∧ Stp B A n g1 g1 R s0.mm s0.rf s0.lf w R1 s1 wx
theorem grown_has {g k E : Nat} {R R1 : Runs} (h : Til g R g) (h1 : Til E R1 E) (t : TkSame R R1) (hk : k ≤ 10) (hE : E = upN g (2 ^ k) + 2 ^ k) : ¬ Least R1 E k none := fun hL => by
  obtain ⟨u1, u2, u3, _⟩ := upN_is (g := g) (pow2_pos k)
  obtain ⟨i, l, e, hl, _⟩ := block_in h1 k (upN g (2 ^ k)) hk u3 (by omega) fun p p1 p2 i l e hc => by
    have := h.al _ _ _ ((t i l).1 e)
    omega
  have := hL i l e
  omega
end Go.Proofs.YtfemgekhpcgliaaGreat.Bt
/- A buddy's Alloc. -/
namespace Go.Proofs.YtfemgekhpcgliaaGreat.Bt
open Go Go.RowKit Go.Shelf
set_option linter.unusedVariables false
set_option linter.unusedSimpArgs false
section
variable {B A n g : Nat} {R : Runs} {s : ASt} {w : World}
set_option maxRecDepth 100000 in
set_option maxHeartbeats 4000000 in
theorem balloc_out (h : BV B A n s w) (k : Int) (hk : k < 0 ∨ 10 < k) : Calls Tryz.prog 33 #[bdyP B, .int .i64 k] w fun e w' => e = .returned (.tuple #[.int .i64 0, .int .i64 2]) ∧ w = w' := by
  have hd : decide (0 ≤ k ∧ k ≤ 10) = false := by rw [decide_eq_false_iff_not]; omega
  have HD := Lib.hid hd
  clear hd hk
  go_enter Tryz.func33, Tryz.ntmps33
  go_wp2_with fail
  refine (bisorder k _).mono ?_
  rw [HD.out]
  rintro e w' ⟨rfl, rfl⟩
  go_wp2_with fail
  go_ret2
  exact ⟨rfl, rfl⟩
set_option maxRecDepth 100000 in
set_option maxHeartbeats 8000000 in
theorem balloc_any (h : BV B A n s w) (hB : Bud (n + 1) g g R g s) (k : Nat) (hk : k ≤ 10) : Calls Tryz.prog 33 #[bdyP B, .int .i64 (k : Int)] w (AllocPost B A n g k R s w) := by
  have hd : decide (0 ≤ (k : Int) ∧ (k : Int) ≤ 10) = true := by rw [decide_eq_true_iff]; omega
  have HD := Lib.hid hd
  have HV := Lib.hid h
  have HB := Lib.hid hB
  have HK := Lib.hid hk
  clear h hB hd
  go_enter Tryz.func33, Tryz.ntmps33
  go_wp2_with fail
  refine (bisorder k _).mono ?_
  rw [HD.out]
  rintro e w' ⟨rfl, rfl⟩
  go_wp2_with fail
  refine (bleast HV.out HB.out k hk).mono ?_
  rintro e w1 ⟨y, rfl, hy, hb⟩
  have HV1 := Lib.hid (HV.out.below hb)
  have HW1 := Lib.hid (Went.of_below HV.out.1 hb)
  have HY := Lib.hid hy
  clear hb hy
  have HL : Hid (∃ a l o, leastV y = .tuple #[.int .i64 a, .int .i64 l, .bool o] ∧ ((o = true ∧ ∃ x l', y = some (x, l') ∧ a = (adr x : Int) ∧ l = (l' : Int)) ∨ (o = false ∧ y = none))) := Lib.hid (by
    rcases y with _ | ⟨x, l⟩
    · exact ⟨0, 0, false, rfl, .inr ⟨rfl, rfl⟩⟩
    · exact ⟨_, _, true, rfl, .inl ⟨rfl, x, l, rfl, rfl, rfl⟩⟩)
  obtain ⟨a, l, o, hv, hcs⟩ := HL.out
  rw [hv]
  have HC := Lib.hid hcs
  clear hv hcs HL
  go_upto_if 24 with fail
  go_cut [6, 7] (fun s6 s7 wx => AlR B A n g k R s w s6 s7 wx)
  case first =>
    as_aux_lemma =>
    rcases HC.out with ⟨rfl, x, l', rfl, rfl, rfl⟩ | ⟨rfl, rfl⟩
    · have hF : AlR B A n g k R s w (.int .i64 (adr x : Int)) (.int .i64 (l' : Int)) w1 :=
        ⟨g, x, l', R, s, s, rfl, rfl, ⟨HY.out.2.1, HY.out.1, TkSame.refl _, HB.out.ti, HY.out, .inl ⟨rfl, rfl, rfl⟩⟩, ⟨HV1.out, HB.out, HW1.out, TkSame.refl _, KeepT.refl _ _, rfl, rfl⟩⟩
      have HF := Lib.hid hF
      clear hF
      go_wp2_with fail
      go_meet
      exact HF.out
    · have HN : Hid (Least R g k none) := HY
      have HP : Hid (∀ e w', e = .returned (.tuple #[.int .i64 0, .int .i64 4]) ∧ ((n < upN g (2 ^ k) + 2 ^ k ∧ BV B A n s w' ∧ Went A w w') ∨ (upN g (2 ^ k) + 2 ^ k ≤ n ∧ refB s = true ∧ GrowNo B A n g R s w w')) → AllocPost B A n g k R s w e w') := Lib.hid fun e w' ⟨h1, h2⟩ => .inr ⟨h1, HN.out, h2⟩
      go_wp2_with fail
      refine (bgrow_any HV1.out HB.out k HK.out).mono ?_
      rintro e w2 hgp
      rcases hgp with ⟨rfl, q1, q2, q3⟩ | ⟨rfl, q1, q2, q3⟩ | ⟨rfl, q1, q2, R1, s1, q3⟩
      · have HF := Lib.hid (HP.out _ w2 ⟨rfl, .inl ⟨q1, q2, HW1.out.trans q3⟩⟩)
        clear q1 q2 q3 HP
        go_wp2_with fail
        go_ret2
        exact HF.out
      · have HF := Lib.hid (HP.out _ w2 ⟨rfl, .inr ⟨q1, q2, q3.1, q3.2.1, HW1.out.trans q3.2.2⟩⟩)
        clear q1 q2 q3 HP
        go_wp2_with fail
        go_ret2
        exact HF.out
      · have HS := Lib.hid q3
        have HQ := Lib.hid (And.intro q1 q2)
        clear q1 q2 q3 HP
        go_wp2_with fail
        refine (bleast HS.out.bv HS.out.bu k HK.out).mono ?_
        rintro e w3 ⟨y2, rfl, hy2, hb⟩
        rcases y2 with _ | ⟨x, l'⟩
        · exact absurd hy2 (grown_has HB.out.ti HS.out.bu.ti HS.out.tk HK.out rfl)
        · have hs := HS.out.below hb
          have hF : AlR B A n g k R s w (.int .i64 (adr x : Int)) (.int .i64 (l' : Int)) w3 :=
            ⟨_, x, l', R1, refS s, s1, rfl, rfl, ⟨hy2.2.1, hy2.1, hs.tk, hs.bu.ti, hy2, .inr ⟨HN.out, rfl, HQ.out.1, HQ.out.2, rfl⟩⟩, ⟨hs.bv, hs.bu, HW1.out.trans hs.wt, hs.tk, by rw [refS_mm]; exact hs.kp, hs.rf, hs.lf⟩⟩
          have HF := Lib.hid hF
          clear hF hs hy2 hb
          simp only [leastV]
          go_wp2_with fail
          go_meet
          exact HF.out
  case rest =>
    obtain ⟨g1, x, l', R1, s0, s1, rfl, rfl, hp, hst⟩ := hcut
    have HP := Lib.hid hp
    have HS := Lib.hid hst
    obtain ⟨c0, c1, c2, c3, c4, c5, c6, c7, c8, c9, _⟩ := hst.bv.all
    have hsz := hst.bu.addr hp.2.1
    have hnn := hst.bu.sz hst.bv.2.1
    have HSZ := Lib.hid (And.intro hsz hnn)
    have HKL := Lib.hid hp.1
    have HR := Lib.hid (hst.pick hp.2.1)
    clear hp hst hsz hnn
    go_wp2_with fail
    refine HR.out.mono ?_
    rintro e w3 ⟨rfl, s2, hm⟩
    have HM := Lib.hid hm
    have HPG := Lib.hid (bpage hm.bv HSZ.out.2.2.1 (adr x : Int) ((1 + x : Nat) : Int) (adr_div x) (by omega) (by have := HSZ.out; omega))
    clear hm c0 c1 c2 c3 c4 c5 c6 c7 c8 c9 HR HS
    have e1 : (((1 + x : Nat) : Int) - 1) = (x : Int) := by omega
    rw [e1] at HPG
    clear e1
    go_wp2_with fail
    refine HPG.out.mono ?_
    rintro e w4 ⟨rfl, hb⟩
    have HM4 := Lib.hid (HM.out.below hb)
    clear hb HM HPG
    go_wp2_with fail
    go_loopw [7] (fun s7 wr => ∃ (m : Nat) (R' : Runs) (s' : ASt), k ≤ m ∧ m ≤ 10 ∧ s7 = .int .i64 (m : Int) ∧ Hid (Mid B A n g1 g1 R s0 w R' x m s' wr)) (fun s7 _ => (intOf s7).toNat)
    case atStart => exact ⟨l', R1, s2, HKL.out, HSZ.out.1.1, rfl, HM4⟩
    case round =>
      clear HM4
      obtain ⟨m, R', s', hkm, hm10, rfl, HM⟩ := hrel
      by_cases hlt : k < m
      · have hlt2 : (k : Int) < (m : Int) := by omega
        obtain ⟨j, rfl⟩ : ∃ j, m = j + 1 := ⟨m - 1, by omega⟩
        have hj : IntKind.i64.wrap (((j + 1 : Nat) : Int) - 1) = (j : Int) := by rw [IntKind.wrap_i64]; omega
        have HJ := Lib.hid hj
        clear hj
        obtain ⟨hN, _, _⟩ := pow_n j (by omega)
        have HN := Lib.hid hN
        clear hN
        have HH := Lib.hid (HM.out.half (Nat.le_refl _))
        obtain ⟨P, hP⟩ : ∃ P, 2 ^ j = P := ⟨_, rfl⟩
        have hPx : x + P ≤ 2000 := by have h1 := HM.out.k10; have h2 := pow2_succ j; omega
        rw [hP] at HN HH
        have E4 : Hid (IntKind.i64.wrap ((x : Int) + (P : Int)) = ((x + P : Nat) : Int)) := Lib.hid (by rw [IntKind.wrap_i64]; omega)
        obtain ⟨xp, hxp⟩ : ∃ xp, x + P = xp := ⟨_, rfl⟩
        rw [hxp] at E4 HH
        have hkj : k ≤ j := by omega
        have hj10 : j ≤ 10 := by omega
        have hj2 : ((j + 1 : Nat) : Int) = (j : Int) + 1 := by omega
        have e4 := E4.out
        have hj := HJ.out
        have hN := HN.out
        clear hP hPx hxp
        go_wp2_with fail
        refine HH.out.mono ?_
        rintro e w5 ⟨rfl, R2, s3, hm⟩
        have HM5 := Lib.hid hm
        clear hm HH
        go_wp2_with fail
        refine ⟨⟨j, R2, s3, hkj, hj10, rfl, HM5⟩, by simp [intOf]⟩
      · obtain rfl : m = k := by omega
        have HT := Lib.hid HM.out.take
        obtain ⟨c0, c1, c2, c3, c4, c5, c6, c7, c8, c9, _⟩ := HM.out.bv.all
        go_wp2_with fail
        refine HT.out.mono ?_
        rintro e w5 ⟨rfl, ht⟩
        have HF : Hid (AllocPost B A n g m R s w (.returned (.tuple #[.int .i64 (adr x : Int), .int .i64 0])) w5) := Lib.hid (.inl ⟨g1, x, l', R1, s0, HP.out, rfl, ht⟩)
        clear ht HT c0 c1 c2 c3 c4 c5 c6 c7 c8 c9
        go_wp2_with fail
        go_ret2
        exact HF.out
end
end Go.Proofs.YtfemgekhpcgliaaGreat.Bt
/- A buddy's Order and Free. -/
namespace Go.Proofs.YtfemgekhpcgliaaGreat.Bt
open Go Go.RowKit Go.Shelf
set_option linter.unusedVariables false
set_option linter.unusedSimpArgs false
/-- what Order answers -/
def OrdV (R : Runs) (a : Int) (k e : Int) : Prop := (∃ (p l : Nat), a = (adr p : Int) ∧ R p = some (l, true) ∧ k = (l : Int) ∧ e = 0) ∨ ((∀ (p l : Nat), a = (adr p : Int) → R p ≠ some (l, true)) ∧ k = 0 ∧ e = 8)
theorem bdy_cells {B A n : Nat} {x : World} (h : BdyAt B A n x) :
    x.cell? ⟨B, 0, none⟩ = some (.pointer (some ⟨A, 0, none⟩)) ∧ x.cell? ⟨B, 1, none⟩ = some (.pointer (some ⟨A, 0, none⟩)) ∧ x.cell? ⟨B, 2, none⟩ = some (.int .i64 0) ∧ x.cell? ⟨B, 3, none⟩ = some (.int .i64 256) ∧
    x.cell? ⟨B, 4, none⟩ = some (.pointer (some ⟨A, 0, none⟩)) ∧ x.cell? ⟨B, 5, none⟩ = some (.int .i64 16) ∧ x.cell? ⟨B, 6, none⟩ = some (.int .i64 88) ∧
    x.cell? ⟨B, 7, none⟩ = some (.pointer (some ⟨A, 0, none⟩)) ∧ x.cell? ⟨B, 8, none⟩ = some (.int .i64 256) ∧ x.cell? ⟨B, 9, none⟩ = some (.int .i64 (n : Int)) ∧ True := by
  refine ⟨?_, ?_, ?_, ?_, ?_, ?_, ?_, ?_, ?_, ?_, trivial⟩ <;> (rw [(cell_blk h _).1]; rfl)
theorem BdyAt.far2 {B A n R : Nat} {x : World} (h : BdyAt B A n x) (hne : B ≠ R) (u v : Value) : BdyAt B A n ((x.setCell ⟨R, 0, none⟩ u).setCell ⟨R, 1, none⟩ v) := (heap_far2 hne u v).trans h
def TagVar (S O E : Int) (w : World) (s6 s7 : Value) (wx : World) : Prop := ∃ T, s6 = .pointer (some ⟨T, 0, none⟩) ∧ s7 = .int .i64 E ∧ wx.heap[T]? = some (.cells #[.int .u8 S, .int .u8 O] 118 (0, 0)) ∧ Below w.heap.size w wx
section
variable {B A n g : Nat} {R : Runs} {s : ASt} {w : World}
/-- the tag of any page: taken just if a taken run begins there -/
theorem Bud.taken_tag (hB : Bud (n + 1) g g R g s) (hL : s.L = n + 1) (q : Int) : 
    (∃ p l : Nat, q = (p : Int) ∧ R p = some (l, true) ∧ l ≤ 10 ∧ tagS (gC s 256 n q) = 3 ∧ tagO (gC s 256 n q) = l) ∨ ((∀ p l : Nat, q = (p : Int) → R p ≠ some (l, true)) ∧ tagS (gC s 256 n q) ≠ 3) := by
  by_cases h0 : q < 0
  · exact .inr ⟨fun p l e => by omega, by rw [gC_neg s 256 n h0]; decide⟩
  obtain ⟨p, rfl⟩ := Int.eq_ofNat_of_zero_le (show 0 ≤ q by omega)
  by_cases hp : p < n
  · rw [(hB.tag hL p hp (hole_none (hB.ti.out (Nat.le_refl _)) p)).1]
    obtain ⟨t1, t2⟩ := code_tag R g p fun l t e => (hB.ti.al _ _ _ e).1
    rw [t1, t2]
    cases e : R p with
    | none =>
      refine .inr ⟨fun p' l e2 e3 => ?_, ?_⟩
      · have : p' = p := by omega
        subst this; rw [e] at e3; cases e3
      · split <;> decide
    | some y =>
      obtain ⟨l, t⟩ := y
      have hl := hB.ti.lt e
      rw [if_pos hl, if_pos hl]
      cases t with
      | true => exact .inl ⟨p, l, rfl, e, (hB.ti.al _ _ _ e).1, rfl, rfl⟩
      | false =>
        refine .inr ⟨fun p' l' e2 e3 => ?_, show (2 : Int) ≠ 3 by decide⟩
        have : p' = p := by omega
        subst this; rw [e] at e3; cases (some_of e3).2
  · rw [gC_out s 256 n _ (by omega)]
    refine .inr ⟨fun p' l e2 e3 => ?_, by decide⟩
    have := hB.ti.lt e3
    have := (hB.sz hL)
    omega
set_option maxRecDepth 100000 in
set_option maxHeartbeats 8000000 in
theorem border_any (h : BV B A n s w) (hB : Bud (n + 1) g g R g s) (a : Int) (h0 : -9223372036854775808 ≤ a) (h1 : a ≤ 9223372036854775807) :
    Calls Tryz.prog 52 #[bdyP B, .int .i64 a] w fun e w' => ∃ k er : Int, e = .returned (.tuple #[.int .i64 k, .int .i64 er]) ∧ OrdV R a k er ∧ Below w.heap.size w w' := by
  have hz := hB.sz h.2.1
  have hq := tdiv_b a 4096 (by decide) h0 h1
  have hqb : -2251799813685249 ≤ a.tdiv 4096 ∧ a.tdiv 4096 ≤ 2251799813685249 := by
    have := Int.mul_tdiv_add_tmod a 4096
    have := Int.tmod_lt_of_pos a (show (0 : Int) < 4096 by decide)
    have := Int.lt_tmod_of_pos a (show (0 : Int) < 4096 by decide)
    omega
  have hsp : a = 4096 * a.tdiv 4096 + a.tmod 4096 := (Int.mul_tdiv_add_tmod a 4096).symm
  obtain ⟨q, hqq⟩ : ∃ q, a.tdiv 4096 = q := ⟨_, rfl⟩
  obtain ⟨m, hmm⟩ : ∃ m, a.tmod 4096 = m := ⟨_, rfl⟩
  rw [hqq] at hqb
  rw [hqq, hmm] at hsp
  have HPG := Lib.hid fun X (hX : BV B A n s X) => bpage hX hz.2.1 a q hqq (by omega) (by omega)
  have HGT := Lib.hid fun X (hX : BV B A n s X) => tget_on hX.1 256 n (by omega) (by omega) (q - 1) (by omega)
  have HTG := Lib.hid (hB.taken_tag h.2.1 (q - 1))
  have HSP := Lib.hid hsp
  have HV := Lib.hid h
  have hrm : Int.tmod a 4096 = m := hmm
  clear h hB hz hq hqq hqb hsp hmm h0 h1
  go_enter Tryz.func52, Tryz.ntmps52
  go_upto_region 3 with fail
  have hS := tagS_b (gC s 256 n (q - 1)) (gC_b s 256 n (q - 1)).1
  have hO := tagO_b (gC s 256 n (q - 1)) (gC_b s 256 n (q - 1)).1
  generalize tagS (gC s 256 n (q - 1)) = S at *
  generalize tagO (gC s 256 n (q - 1)) = O at *
  generalize gE s 256 n (q - 1) = E at *
  have HSO := Lib.hid (And.intro hS hO)
  clear hS hO
  go_cut [6, 7] (fun s6 s7 wx => TagVar S O E w s6 s7 wx)
  case first =>
    as_aux_lemma =>
    have hBw : B < w.heap.size := (Array.getElem?_eq_some_iff.1 HV.out.2.2).1
    have HBW := Lib.hid hBw
    clear hBw
    go_region_held3 (fun x => x.cell? ⟨B, 7, none⟩ = some (.pointer (some ⟨A, 0, none⟩)) ∧ x.cell? ⟨B, 8, none⟩ = some (.int .i64 256) ∧ x.cell? ⟨B, 9, none⟩ = some (.int .i64 (n : Int)))
      (first | assumption | (have q := (HV.out.below (Below.refl _ _).drew).all; exact ⟨q.2.2.2.2.2.2.2.1, q.2.2.2.2.2.2.2.2.1, q.2.2.2.2.2.2.2.2.2.1⟩) | (have q := (HV.out.below ((bel1 w (.cells #[.int .u8 0, .int .u8 0] 118))).drew).all; exact ⟨q.2.2.2.2.2.2.2.1, q.2.2.2.2.2.2.2.2.1, q.2.2.2.2.2.2.2.2.2.1⟩)
             | (have q := (hv1.below (bel1 _ (.cells #[.int .u8 0, .int .u8 0] 118))).all; exact ⟨q.2.2.2.2.2.2.2.1, q.2.2.2.2.2.2.2.2.1, q.2.2.2.2.2.2.2.2.2.1⟩) | (have q := (hvg.below (bel1 _ (.cells #[.int .u8 0, .int .u8 0] 118))).all; exact ⟨q.2.2.2.2.2.2.2.1, q.2.2.2.2.2.2.2.2.1, q.2.2.2.2.2.2.2.2.2.1⟩) | (have q := (hvg.below (bel1 _ (.cells #[.int .u8 S, .int .u8 O] 118))).all; exact ⟨q.2.2.2.2.2.2.2.1, q.2.2.2.2.2.2.2.2.1, q.2.2.2.2.2.2.2.2.2.1⟩)
             | (have q := bdy_cells (hvg.2.2.far2 hne (.int .u8 S) (.int .u8 O)); exact ⟨q.2.2.2.2.2.2.2.1, q.2.2.2.2.2.2.2.2.1, q.2.2.2.2.2.2.2.2.2.1⟩))
      (first | (go_at_call 77
                refine (HPG.out _ (HV.out.below (Below.refl _ _).drew)).mono ?_
                rintro e w' ⟨rfl, hb⟩
                have hb1 : Below w.heap.size w w' := (Below.refl _ _).drew.trans hb
                have hv1 := HV.out.below hb1
                have hq := hv1.all
                have kk := And.intro hq.2.2.2.2.2.2.2.1 (And.intro hq.2.2.2.2.2.2.2.2.1 hq.2.2.2.2.2.2.2.2.2.1))
             | (go_at_call 77
                refine (HPG.out _ (HV.out.below ((bel1 w (.cells #[.int .u8 0, .int .u8 0] 118)).drew))).mono ?_
                rintro e w' ⟨rfl, hb⟩
                have hb1 : Below w.heap.size w w' := ((bel1 w (.cells #[.int .u8 0, .int .u8 0] 118)).drew).trans (hb.mono ((bel1 w (.cells #[.int .u8 0, .int .u8 0] 118)).drew).size)
                have hT : w'.heap[w.heap.size]? = some (.cells #[.int .u8 0, .int .u8 0] 118 (0, 0)) := (hb.block w.heap.size (by show w.heap.size < (w.alloc (.cells #[.int .u8 0, .int .u8 0] 118)).heap.size; simp)).trans (heap_new w (.cells #[.int .u8 0, .int .u8 0] 118))
                have hv1 := HV.out.below hb1
                have hq := hv1.all
                have kk := And.intro hq.2.2.2.2.2.2.2.1 (And.intro hq.2.2.2.2.2.2.2.2.1 hq.2.2.2.2.2.2.2.2.2.1))
             | (go_at_call 99
                have hT2 := hT
                refine (HGT.out _ hv1).mono ?_
                rintro e w'' ⟨rfl, hbg⟩
                have hT3 := (hbg.block w.heap.size (Array.getElem?_eq_some_iff.1 hT).1).trans hT
                have r0 := (cell_blk hT3 0).1; have r1 := (cell_blk hT3 1).1; have f0 := (cell_blk hT3 0).2; have f1 := (cell_blk hT3 1).2
                have hne : B ≠ w.heap.size := Nat.ne_of_lt HBW.out
                have hvg : BV B A n s w'' := hv1.below hbg
                have hbw : Below w.heap.size w w'' := hb1.trans (hbg.mono hb1.size)
                have HT3 := Lib.hid hT3
                have hq2 := hvg.all
                have kk2 := And.intro hq2.2.2.2.2.2.2.2.1 (And.intro hq2.2.2.2.2.2.2.2.2.1 hq2.2.2.2.2.2.2.2.2.2.1)
                clear hT hT2 hT3)
             | (go_at_call 99
                refine (HGT.out _ hv1).mono ?_
                rintro e w'' ⟨rfl, hbg⟩
                have hvg : BV B A n s w'' := hv1.below hbg
                have hbw : Below w.heap.size w w'' := hb1.trans (hbg.mono hb1.size)
                have hq2 := hvg.all
                have kk2 := And.intro hq2.2.2.2.2.2.2.2.1 (And.intro hq2.2.2.2.2.2.2.2.2.1 hq2.2.2.2.2.2.2.2.2.2.1))
             | (go_at_call 99
                refine (HGT.out _ (hv1.below (bel1 _ (.cells #[.int .u8 0, .int .u8 0] 118)))).mono ?_
                rintro e w'' ⟨rfl, hbg⟩
                have hT3 := (hbg.block w'.heap.size (by simp)).trans (heap_new w' (.cells #[.int .u8 0, .int .u8 0] 118))
                have r0 := (cell_blk hT3 0).1; have r1 := (cell_blk hT3 1).1; have f0 := (cell_blk hT3 0).2; have f1 := (cell_blk hT3 1).2
                have hne : B ≠ w'.heap.size := Nat.ne_of_lt (Nat.lt_of_lt_of_le HBW.out hb1.size)
                have hvg : BV B A n s w'' := (hv1.below (bel1 _ (.cells #[.int .u8 0, .int .u8 0] 118))).below hbg
                have hbw : Below w.heap.size w w'' := (hb1.alloc hb1.size (.cells #[.int .u8 0, .int .u8 0] 118)).trans (hbg.mono (hb1.alloc hb1.size (.cells #[.int .u8 0, .int .u8 0] 118)).size)
                have HT3 := Lib.hid hT3
                have hbs := hb1.size
                have hq2 := hvg.all
                have kk2 := And.intro hq2.2.2.2.2.2.2.2.1 (And.intro hq2.2.2.2.2.2.2.2.2.1 hq2.2.2.2.2.2.2.2.2.2.1)
                clear hT3))
    all_goals go_wp2_with fail
    all_goals go_meet
    all_goals first
      | exact ⟨_, rfl, rfl, heap_new w'' (.cells #[.int .u8 S, .int .u8 O] 118), hbw.alloc hbw.size (.cells #[.int .u8 S, .int .u8 O] 118)⟩
      | exact ⟨w.heap.size, rfl, rfl, pair_set HT3.out rfl (.int .u8 S) (.int .u8 O), (hbw.setCell (p := ⟨w.heap.size, 0, none⟩) (Nat.le_refl _) (.int .u8 S)).setCell (p := ⟨w.heap.size, 1, none⟩) (Nat.le_refl _) (.int .u8 O)⟩
      | exact ⟨w'.heap.size, rfl, rfl, pair_set HT3.out rfl (.int .u8 S) (.int .u8 O), (hbw.setCell (p := ⟨w'.heap.size, 0, none⟩) hbs (.int .u8 S)).setCell (p := ⟨w'.heap.size, 1, none⟩) hbs (.int .u8 O)⟩
  case rest =>
    obtain ⟨T, rfl, rfl, hT, hb⟩ := hcut
    have HB := Lib.hid hb
    have t0 := (cell_blk hT 0).1; have t1 := (cell_blk hT 1).1
    simp at t0 t1
    clear hb hT HPG HGT
    have HO : Hid (IntKind.i64.wrap O = O) := Lib.hid (by have := HSO.out; rw [IntKind.wrap_i64]; omega)
    by_cases hm0 : m = 0
    · subst hm0
      rcases HTG.out with ⟨p, l, e1, e2, e3, rfl, rfl⟩ | ⟨hno, hns⟩
      · have HF : Hid (OrdV R a (l : Int) 0) := Lib.hid (.inl ⟨p, l, by have := HSP.out; unfold adr; omega, e2, rfl, rfl⟩)
        have hO := HO.out
        clear HTG HSP e1 e2
        go_wp2_with fail
        go_ret2
        exact ⟨_, _, rfl, HF.out, HB.out⟩
      · have HF : Hid (OrdV R a 0 8) := Lib.hid (.inr ⟨fun p l e => hno p l (by have := HSP.out; unfold adr at e; omega), rfl, rfl⟩)
        clear HTG HSP hno
        go_wp2_with fail
        go_ret2
        exact ⟨_, _, rfl, HF.out, HB.out⟩
    · have HF : Hid (OrdV R a 0 8) := Lib.hid (.inr ⟨fun p l e => by
        have h1 := HSP.out
        have h2 : Int.tmod a 4096 = m := hrm
        have h3 : Int.tmod a 4096 = 0 := by
          rw [e, Int.tmod_eq_emod_of_nonneg (by omega)]; unfold adr; omega
        omega, rfl, rfl⟩)
      clear HTG HSP
      go_wp2_with fail
      go_ret2
      exact ⟨_, _, rfl, HF.out, HB.out⟩
end
end Go.Proofs.YtfemgekhpcgliaaGreat.Bt
/- A table's Run on a buddy's tags; a buddy's Free. -/
namespace Go.Proofs.YtfemgekhpcgliaaGreat.Bt
open Go Go.RowKit Go.Shelf
set_option linter.unusedVariables false
set_option linter.unusedSimpArgs false
theorem dnN_to (ins : Int → Bool) (x : Nat) : ∀ p : Nat, x ≤ p → (∀ j : Nat, x < j → j ≤ p → ins (j : Int) = true) → ins (x : Int) = false → dnN ins (p + 1) = (x : Int)
  | 0, h, _, hx => by
    have : x = 0 := by omega
    subst this
    unfold dnN
    rw [if_neg (by rw [hx]; decide)]
  | p + 1, h, hi, hx => by
    unfold dnN
    by_cases c : x = p + 1
    · subst c
      rw [if_neg (by rw [hx]; decide)]
    · rw [if_pos (hi (p + 1) (by omega) (Nat.le_refl _))]
      exact dnN_to ins x p (by omega) (fun j h1 h2 => hi j h1 (by omega)) hx
section
variable {B A n g : Nat} {R : Runs} {s : ASt} {w : World}
/-- the tag of a run's first page; of its others -/
theorem Bud.first_tag (hB : Bud (n + 1) g g R g s) (hL : s.L = n + 1) {x k : Nat} {t : Bool} (e : R x = some (k, t)) : tagS (gC s 256 n (x : Int)) = (if t then 3 else 2 : Int) ∧ tagO (gC s 256 n (x : Int)) = k := by
  have a := hB.addr e
  rw [(hB.tag hL x (by omega) (hole_none (hB.ti.out (Nat.le_refl _)) x)).1]
  obtain ⟨t1, t2⟩ := code_tag R g x fun l u q => (hB.ti.al _ _ _ q).1
  rw [t1, t2, if_pos a.2.2.1, if_pos a.2.2.1, e]
  exact ⟨rfl, rfl⟩
theorem Bud.inner_tag (hB : Bud (n + 1) g g R g s) (hL : s.L = n + 1) {x k : Nat} {t : Bool} (e : R x = some (k, t)) (p : Nat) (h1 : x < p) (h2 : p < x + 2 ^ k) : tagS (gC s 256 n (p : Int)) = 1 := by
  have a := hB.addr e
  have hz := hB.sz hL
  have hn := hB.ti.toTile.inside e p h1 h2
  rw [(hB.tag hL p (by omega) (hole_none (hB.ti.out (Nat.le_refl _)) p)).1]
  obtain ⟨t1, t2⟩ := code_tag R g p fun l u q => (hB.ti.al _ _ _ q).1
  rw [t1, if_pos (by omega), hn]
theorem brun_at (h : BV B A n s w) (hB : Bud (n + 1) g g R g s) {x k : Nat} {t : Bool} (e : R x = some (k, t)) (p : Nat) (h1 : x ≤ p) (h2 : p < x + 2 ^ k) :
    Calls Tryz.prog 81 #[tbP (some ⟨A, 0, none⟩) 256 n, .int .i64 (p : Int)] w (Gives (.tuple #[.int .i64 (x : Int), tagV (if t then 3 else 2) (k : Int), .int .i64 0]) w) := by
  have hz := hB.sz h.2.1
  have a := hB.addr e
  have hE := (hB.tag h.2.1 p (by omega) (hole_none (hB.ti.out (Nat.le_refl _)) p)).2
  have hf := hB.first_tag h.2.1 e
  have hx : runF (gC s 256 n) (p : Int) = (x : Int) := by
    unfold runF
    rw [Int.toNat_natCast]
    refine dnN_to _ x p h1 (fun j j1 j2 => ?_) ?_
    · unfold insI; rw [hB.inner_tag h.2.1 e j j1 (by omega)]; rfl
    · unfold insI; rw [hf.1]; cases t <;> rfl
  have hok : runOk (gC s 256 n) (p : Int) = true := by
    unfold runOk
    rw [hx, hf.1, hf.2, Int.toNat_natCast]
    have : decide ((p : Int) - (x : Int) < ((2 ^ k : Nat) : Int)) = true := by rw [decide_eq_true_iff]; omega
    rw [this]
    cases t <;> rfl
  have hv : runV (gC s 256 n) (p : Int) = .tuple #[.int .i64 (x : Int), tagV (if t then 3 else 2) (k : Int), .int .i64 0] := by
    unfold runV
    rw [hok, if_pos rfl, hx, hf.1, hf.2]
  have := trun_on h.1 256 n (by omega) (by omega) (p : Int) (by omega) (by omega) hE
  rw [hv] at this
  exact this
theorem brun_no (h : BV B A n s w) (hB : Bud (n + 1) g g R g s) : 
    Calls Tryz.prog 81 #[tbP (some ⟨A, 0, none⟩) 256 n, .int .i64 (-1)] w fun e w' => ∃ er : Int, er ≠ 0 ∧ e = .returned (.tuple #[.int .i64 0, tagV 0 0, .int .i64 er]) ∧ Below w.heap.size w w' := by
  have hz := hB.sz h.2.1
  have hE : gE s 256 n (-1) ≠ 0 := fun q => by have := gE_lt q; omega
  refine (trun_bad h.1 256 n (by omega) (by omega) (-1) (by omega) hE).mono ?_
  rintro e w' ⟨rfl, hb⟩
  exact ⟨_, hE, rfl, hb⟩
/-- one taken run less -/
def TkLess (R R' : Runs) (x : Nat) : Prop := ∀ i l, R' i = some (l, true) ↔ (i ≠ x ∧ R i = some (l, true))
/-- behind a call that freed the run at x -/
def Freed (B A n g x k : Nat) (R : Runs) (s : ASt) (w w' : World) : Prop :=
  ∃ R' s', BV B A n s' w' ∧ Bud (n + 1) g g R' g s' ∧ Went A w w' ∧ TkLess R R' x ∧ KeepT (layR R x k false) s.mm s'.mm ∧ s'.rf = s.rf ∧ s'.lf = s.lf
theorem free_taken {x k : Nat} (h : Tile g R) (e : R x = some (k, true)) : TkLess R (layR R x k false) x := fun i l => by
  constructor
  · intro q
    rcases layR_back q with ⟨_, _, c⟩ | ⟨c1, c2⟩
    · cases c
    · exact ⟨c1, c2⟩
  · rintro ⟨q1, q2⟩
    exact h.fwd e q1 q2
def FreePost (B A n g : Nat) (R : Runs) (s : ASt) (a : Int) (w : World) (e : Ending) (w' : World) : Prop :=
  (∃ p l : Nat, a = (adr p : Int) ∧ R p = some (l, true) ∧ e = .returned (.int .i64 0) ∧ Freed B A n g p l R s w w') ∨ ((∀ (p l : Nat), a = (adr p : Int) → R p ≠ some (l, true)) ∧ e = .returned (.int .i64 8) ∧ Below w.heap.size w w')
set_option maxRecDepth 100000 in
set_option maxHeartbeats 4000000 in
theorem bFree_any (h : BV B A n s w) (hB : Bud (n + 1) g g R g s) (a : Int) (h0 : -9223372036854775808 ≤ a) (h1 : a ≤ 9223372036854775807) :
    Calls Tryz.prog 54 #[bdyP B, .int .i64 a] w (FreePost B A n g R s a w) := by
  have HV := Lib.hid h
  have HB := Lib.hid hB
  have HO := Lib.hid (border_any h hB a h0 h1)
  have HZ := Lib.hid (hB.sz h.2.1)
  clear h hB h0 h1
  go_enter Tryz.func54, Tryz.ntmps54
  go_wp2_with fail
  refine HO.out.mono ?_
  rintro e w1 ⟨k, er, rfl, hv, hb⟩
  have HBL := Lib.hid hb
  have HV1 := Lib.hid (HV.out.below hb)
  clear hb HO
  rcases hv with ⟨p, l, rfl, hR, rfl, rfl⟩ | ⟨hno, rfl, rfl⟩
  · have HR := Lib.hid hR
    have HPG := Lib.hid (bpage HV1.out HZ.out.2.1 (adr p : Int) ((1 + p : Nat) : Int) (adr_div p) (by omega) (by have := HB.out.addr hR; have := HZ.out; omega))
    have e1 : (((1 + p : Nat) : Int) - 1) = (p : Int) := by omega
    rw [e1] at HPG
    clear e1 hR
    go_wp2_with fail
    refine HPG.out.mono ?_
    rintro e w2 ⟨rfl, hb⟩
    have HRL := Lib.hid (brelease (HV1.out.below hb) (HB.out.freed HR.out) (layR_self _ _ _ _))
    have HW := Lib.hid ((Went.of_below HV.out.1 HBL.out).trans (Went.of_below HV1.out.1 hb))
    clear hb HPG
    go_wp2_with fail
    refine HRL.out.mono ?_
    rintro e w3 ⟨rfl, R', s', g1, g2, g3, g4, g5, g6, g7⟩
    have HF : Hid (Freed B A n g p l R s w w3) := Lib.hid ⟨R', s', g1, g2, HW.out.trans g3, fun i j => (g4 i j).trans (free_taken HB.out.ti.toTile HR.out i j), g5, g6, g7⟩
    clear g1 g2 g3 g4 g5 g6 g7 HRL
    go_wp2_with fail
    go_ret
    exact .inl ⟨p, l, rfl, HR.out, rfl, HF.out⟩
  · have HN := Lib.hid hno
    clear hno
    go_wp2_with fail
    go_ret
    exact .inr ⟨HN.out, rfl, HBL.out⟩
end
end Go.Proofs.YtfemgekhpcgliaaGreat.Bt
/- A buddy's Shrink. -/
namespace Go.Proofs.YtfemgekhpcgliaaGreat.Bt
open Go Go.RowKit Go.Shelf
set_option linter.unusedVariables false
set_option linter.unusedSimpArgs false
def TagAt (T : Nat) (S O : Int) (w : World) : Prop := w.heap[T]? = some (.cells #[.int .u8 S, .int .u8 O] 118 (0, 0))
/-- a buddy, and a variable that holds a tag -/
def BT (B A n T : Nat) (S O : Int) (s : ASt) (w : World) : Prop := BV B A n s w ∧ TagAt T S O w
section
variable {B A n T g : Nat} {S O : Int} {s s' : ASt} {R : Runs} {w x y : World}
theorem BT.below (h : BT B A n T S O s x) (hb : Below x.heap.size x y) : BT B A n T S O s y := ⟨h.1.below hb, (hb.block _ (Array.getElem?_eq_some_iff.1 h.2).1).trans h.2⟩
theorem BT.went (h : BT B A n T S O s x) (ho : On A s' y) (hg : Went A x y) (hL : s'.L = s.L) : BT B A n T S O s' y := ⟨h.1.went ho hg hL, hg.keep h.1.1 h.2 (by decide) (by decide) (by decide)⟩
theorem BT.tag (h : BT B A n T S O s x) : x.cell? ⟨T, 0, none⟩ = some (.int .u8 S) ∧ x.cell? ⟨T, 1, none⟩ = some (.int .u8 O) := by
  constructor <;> (rw [(cell_blk h.2 _).1]; rfl)
theorem BT.new (h : BV B A n s w) (S O : Int) : BT B A n w.heap.size S O s (w.alloc (.cells #[.int .u8 S, .int .u8 O] 118)) := ⟨h.below (bel1 w _), heap_new _ _⟩
end
theorem on_decommit8 {A : Nat} {s : ASt} {w : World} (h : On A s w) (a k : Int) (ha : a ≤ 9223372036854775807) :
    Calls Tryz.prog 103 #[.pointer (some ⟨A, 0, none⟩), .int .i64 a, .int .i64 k] w (Ret A (decS s a k) (.int .i64 (decE s a k)) w) := by
  obtain ⟨P, ps, p, n, cap, h⟩ := h
  refine (decommit_any h a k ha).mono ?_
  rintro e w' ⟨rfl, ht⟩
  obtain ⟨h1, h2⟩ := Went.of_turned h ht
  exact ⟨rfl, h1, h2⟩
/-- the end of the last taken run -/
def EndT (R : Runs) (e : Nat) : Prop := (∀ i k, R i = some (k, true) → i + 2 ^ k ≤ e) ∧ (e = 0 ∨ ∃ i k, R i = some (k, true) ∧ i + 2 ^ k = e)
theorem EndT.one {R : Runs} {e f : Nat} (h : EndT R e) (k : EndT R f) : e = f := by
  have h1 : e ≤ f := by
    rcases h.2 with c | ⟨i, l, c, d⟩
    · omega
    · have := k.1 i l c; omega
  have h2 : f ≤ e := by
    rcases k.2 with c | ⟨i, l, c, d⟩
    · omega
    · have := h.1 i l c; omega
  omega
theorem EndT.same {R R' : Runs} {e : Nat} (h : EndT R' e) (t : TkSame R R') : EndT R e :=
  ⟨fun i k q => h.1 i k ((t i k).2 q), h.2.imp id fun ⟨i, k, q, q2⟩ => ⟨i, k, (t i k).1 q, q2⟩⟩
/-- the last run -/
theorem Tile.last {g : Nat} {R : Runs} (h : Tile g R) (hg : 0 < g) : ∃ x k t, R x = some (k, t) ∧ x + 2 ^ k = g ∧ x < g := by
  obtain ⟨x, k, t, e, h1, h2⟩ := h.cv (g - 1) (by omega)
  have a := h.al _ _ _ e
  exact ⟨x, k, t, e, by omega, by omega⟩
theorem less_taken {g x k : Nat} {R : Runs} (e : R x = some (k, false)) : TkSame R (lessR R x) := fun i l => by
  unfold lessR
  by_cases c : i = x
  · rw [if_pos c, c, e]; simp
  · rw [if_neg c]
set_option maxRecDepth 100000 in
theorem clr_keep {g x k : Nat} {R : Runs} (h : Til g R g) (e : R x = some (k, false)) (hx : x + 2 ^ k = g) (m : Nat → UInt8) : KeepT R m (clrM m (1 + x) (2 ^ k)) := fun i l q a h1 h2 => by
  have a1 := h.al _ _ _ q
  have hne : i < x := by
    rcases Nat.lt_trichotomy i x with c | c | c
    · exact c
    · rw [c, e] at q; cases (some_of q).2
    · have := h.dj _ _ _ _ _ _ e q c
      have := pow2_pos l
      omega
  have := h.dj _ _ _ _ _ _ q e hne
  exact clrM_out (by omega)
/-- as it shrinks -/
structure Shr (B A n g : Nat) (R0 : Runs) (s0 : ASt) (w : World) (g1 : Nat) (R : Runs) (s : ASt) (wr : World) : Prop where
  bv : BV B A n s wr
  bu : Bud (n + 1) g1 g1 R g1 s
  le : g1 ≤ g
  wt : Went A w wr
  tk : TkSame R0 R
  kp : KeepT R0 s0.mm s.mm
  rf : s.rf = s0.rf
  lf : s.lf = s0.lf
def ShrinkPost (B A n g : Nat) (R : Runs) (s : ASt) (w : World) (e : Ending) (w' : World) : Prop :=
  ∃ g1 R1 s1, EndT R g1 ∧ e = .returned (.int .i64 (((g : Nat) : Int) - (g1 : Int))) ∧ Shr B A n g R s w g1 R1 s1 w'
section
variable {B A n g : Nat} {R0 : Runs} {s0 : ASt} {w : World} {g1 : Nat} {R : Runs} {s : ASt} {wr : World}
theorem Shr.below {w' : World} (h : Shr B A n g R0 s0 w g1 R s wr) (hb : Below wr.heap.size wr w') : Shr B A n g R0 s0 w g1 R s w' :=
  { h with bv := h.bv.below hb, wt := h.wt.trans (Went.of_below h.bv.1 hb) }
/-- the states on the way of a run that goes -/
def shA (s : ASt) (R : Runs) (g k x : Nat) : ASt := { s with mm := delM s.mm (freeL 1 R g g) k (adr x) }
def shB (s : ASt) (R : Runs) (g k x : Nat) : ASt := layS (shA s R g k x) (256 + x) (2 ^ k) 0 0 0
def shC (s : ASt) (R : Runs) (g k x : Nat) : ASt := { shB s R g k x with es := [0, 1 + x], mm := clrM (shB s R g k x).mm (1 + x) (2 ^ k) }
def shD (s : ASt) (R : Runs) (g k x : Nat) : ASt := { shC s R g k x with mm := put8 (shC s R g k x).mm 8 x }
theorem Shr.calls {x k : Nat} (h : Shr B A n g R0 s0 w g1 R s wr) (e : R x = some (k, false)) (hx : x + 2 ^ k = g1) (T : Nat) (S O : Int) :
    (∀ X, BT B A n T S O s X → Calls Tryz.prog 76 #[lsP (some ⟨A, 0, none⟩) 16 88, .int .i64 (k : Int), .int .i64 (adr x : Int)] X fun e w' => e = .returned (.int .i64 0) ∧ BT B A n T S O (shA s R g1 k x) w' ∧ Went A X w') ∧
    (∀ X, BT B A n T S O (shA s R g1 k x) X → Calls Tryz.prog 79 #[tbP (some ⟨A, 0, none⟩) 256 n, .int .i64 (x : Int), .int .i64 (k : Int), .int .u8 0] X fun e w' => e = .returned (.int .i64 0) ∧ BT B A n T S O (shB s R g1 k x) w' ∧ Went A X w') ∧
    (∀ X, BT B A n T S O (shB s R g1 k x) X → Calls Tryz.prog 103 #[.pointer (some ⟨A, 0, none⟩), .int .i64 ((1 + x : Nat) : Int), .int .i64 ((2 ^ k : Nat) : Int)] X fun e w' => e = .returned (.int .i64 0) ∧ BT B A n T S O (shC s R g1 k x) w' ∧ Went A X w') ∧
    (∀ X, BT B A n T S O (shC s R g1 k x) X → Calls Tryz.prog 101 #[bdyP B, .int .i64 (x : Int)] X fun e w' => e = .returned (.tuple #[]) ∧ BT B A n T S O (shD s R g1 k x) w' ∧ Went A X w') ∧
    (∀ X, BV B A n (shD s R g1 k x) X → Went A wr X → Shr B A n g R0 s0 w x (lessR R x) (shD s R g1 k x) X) := by
  have a := h.bu.addr e
  have hz := h.bu.sz h.bv.2.1
  have h0 := pow2_pos k
  have hX : adr x ∈ freeL 1 R g1 g1 k := freeL_at.2 ⟨a.2.2.1, e, Nat.ne_of_lt a.2.2.1⟩
  have L1 : (shA s R g1 k x).L = s.L := rfl
  have hL := h.bv.2.1
  have hb := h.bu.pick e
  refine ⟨fun X hX' => ?_, fun X hX' => ?_, fun X hX' => ?_, fun X hX' => ?_, fun X hX' hW => ?_⟩
  · refine (lrem_yes hX'.1.1 16 88 (by omega) (by omega) (k : Int) (16 + 8 * k) (adr x) (freeL 1 R g1 g1 k) ⟨k, rfl, by omega, rfl, h.bu.ls k a.1⟩ (by unfold adr; omega) hX).mono ?_
    rintro e w' ⟨rfl, ho, hg⟩
    exact ⟨rfl, hX'.went ho hg rfl, hg⟩
  · obtain ⟨e1, e2⟩ := lay_ok (n := n) (s := shA s R g1 k x) 256 x k (by omega) h.bu.good (h.bu.tabs hL)
    have hx : (x : Int) ≤ 9223372036854775807 := by omega
    refine (tlay_yes hX'.1.1 256 n (by omega) (by omega) (x : Int) 0 k (256 + x) (2 ^ k) hx (by omega) 0 0 0 (.inr ⟨rfl, rfl, rfl, rfl⟩) rfl e1 e2).mono ?_
    rintro e w' ⟨rfl, ho, hg⟩
    exact ⟨rfl, hX'.went ho hg rfl, hg⟩
  · obtain ⟨q1, q2⟩ := down_given (s := shB s R g1 k x) (e := 1 + x) (d := 2 ^ k) (cap := n + 1) hL (by show s.es = _; rw [h.bu.es]; congr 2; omega) (by omega) h0 (by omega) (by omega)
    refine (on_decommit8 hX'.1.1 _ _ (by omega)).mono ?_
    rintro e w' ⟨rfl, ho, hg⟩
    rw [q1]; rw [q2] at ho
    exact ⟨rfl, hX'.went ho hg rfl, hg⟩
  · refine (bsetgrown hX'.1 x (by omega) (by show thereE s.L [0, 1 + x] 8 8 = 0; exact there_up (by omega) (by omega) (by omega) (by omega) (by omega) (by omega))).mono ?_
    rintro e w' ⟨rfl, ho, hg⟩
    exact ⟨rfl, hX'.went ho hg rfl, hg⟩
  · have hs := hb.shrunk e hx h.bu.ti
    have t1 := less_taken (g := g1) e
    refine ⟨hX', hs, by have := h.le; omega, h.wt.trans hW, h.tk.trans t1, h.kp.trans ?_ h.tk, h.rf, h.lf⟩
    refine (del_keep h.bu.ti g1 0 k a.1 _ _ _).trans (((lay_keep (R := R) x k (by omega) 0 0 0 _).trans ((clr_keep h.bu.ti e hx _).trans (put8_keep R _ x) (TkSame.refl R)) (TkSame.refl R))) (TkSame.refl R)
end
end Go.Proofs.YtfemgekhpcgliaaGreat.Bt
