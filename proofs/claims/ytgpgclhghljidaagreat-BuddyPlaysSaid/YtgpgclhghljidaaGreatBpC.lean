/- Several texts in one: TgE; TgG; BdQ; BdR; BdS; BdT; BdU; BwA; LsA; RgT; LsB. -/
import Derived.Test.YtgpgclhghljidaaGreatBpB
import Derived.Test.YtgpgclhghljidaaGreatBdP
import Derived.Test.YtgpgclhghljidaaGreatArDec
import Derived.Test.YtgpgclhghljidaaGreatLsM
import Derived.RangeFuncNested
import Derived.Test.YtgpgclhghljidaaGreatRoundHeld
import Derived.Test.YtgpgclhghljidaaGreatBitsIter
/- The statements' open and example. -/
namespace Go.Proofs.YtgpgclhghljidaaGreat.Bt
open Go Go.RowKit Go.Shelf
set_option linter.unusedVariables false

def OpenP (n : Nat) (w : World) (e : Ending) (w' : World) : Prop :=
  ∃ A, e = .returned (.tuple #[.pointer (some ⟨A, 0, none⟩), tbP (some ⟨A, 0, none⟩) 96 n, .bool true]) ∧ On A (fullS 1 (fun _ => 0)) w' ∧ Base A w w'
set_option maxHeartbeats 2000000 in
theorem lopen_any (n : Nat) (hn : n ≤ 4000) (w : World) : Calls Tryz.prog 123 #[.int .i64 (n : Int)] w (OpenP n w) := by
  have L1 : Hid (lenN 1 = 1) := Lib.hid (by decide)
  have E1 : Hid (commitE (newS 1) 0 1 = 0) := Lib.hid (by decide)
  have S1 : Hid (commitS (newS 1) 0 1 = fullS 1 (fun _ => 0)) := Lib.hid (full_new 1 1 (by decide) (by decide) (by decide))
  have T1 : Hid (thereE (fullS 1 fun _ => 0).L (fullS 1 fun _ => 0).es 96 n = 0) := Lib.hid (by
    show thereE 1 [0, 1] 96 n = 0
    rw [thereE_full (by omega) (by omega), if_pos (by omega)])
  have HV : Hid (∀ pu a k, ofV pu a k 0 = .agg #[.pointer pu, .int .i64 a, .int .i64 k]) := Lib.hid fun pu a k => by unfold ofV; rw [if_pos rfl]
  go_enter Tryz.func123, Tryz.ntmps123
  go_wp2_with fail
  refine (on_new 1 _).mono ?_
  rintro e w1 ⟨A, rfl, hA, hx, hb, hm⟩
  rw [L1.out] at hx
  have HX1 := Lib.hid hx
  have HB1 := Lib.hid (show Base A w w1 from hb.rebase (bel1 w (.cells #[.pointer none, .int .i64 0, .int .i64 0] 43)))
  have HM1 := Lib.hid (hm w.heap.size (by simp))
  have HR1 := Lib.hid ((hb.bel.block w.heap.size (by simp)).trans (heap_new w (.cells #[.pointer none, .int .i64 0, .int .i64 0] 43)))
  clear hx hb hA hm
  go_wp2_with fail
  refine (on_commit HX1.out 0 1 (by omega)).mono ?_
  rintro e w2 ⟨rfl, hx, hg⟩
  rw [E1.out]; rw [S1.out] at hx
  have HX2 := Lib.hid hx
  have HB2 := Lib.hid (HB1.out.went hg)
  have HR2 := Lib.hid (HM1.out.at hg HR1.out)
  have HM2 := Lib.hid (HM1.out.went hg)
  clear hx hg
  go_wp2_with fail
  refine (on_of HX2.out 96 n (by omega)).mono ?_
  rintro e w3 ⟨rfl, hb⟩
  rw [T1.out, HV.out]
  have HX3 := Lib.hid (HX2.out.below hb)
  have HB3 := Lib.hid (HB2.out.below HX2.out hb)
  have HR3 := Lib.hid ((hb.block _ (Array.getElem?_eq_some_iff.1 HR2.out).1).trans HR2.out)
  have HM3 := Lib.hid (HM2.out.went (Went.of_below HX2.out hb))
  clear hb
  go_wp2_with fail
  have bV := Lib.hid (bel1 w3 (.cells #[.pointer (some ⟨A, 0, none⟩), .int .i64 96, .int .i64 (n : Int)] 40))
  refine (topen_any (some ⟨A, 0, none⟩) 96 n _).mono ?_
  rintro e w4 ⟨rfl, hb⟩
  have HX4 := Lib.hid ((HX3.out.below bV.out).below hb)
  have HB4 := Lib.hid ((HB3.out.below HX3.out bV.out).below (HX3.out.below bV.out) hb)
  have hr3 := HR3.out
  have hr4 := (hb.block w.heap.size (Nat.lt_of_lt_of_le (Array.getElem?_eq_some_iff.1 hr3).1 bV.out.size)).trans ((bV.out.block _ (Array.getElem?_eq_some_iff.1 hr3).1).trans hr3)
  have HR4 := Lib.hid hr4
  have HM4 := Lib.hid ((HM3.out.went (Went.of_below HX3.out bV.out)).went (Went.of_below (HX3.out.below bV.out) hb))
  have c0 := (cell_blk hr4 0).1; have c1 := (cell_blk hr4 1).1; have c2 := (cell_blk hr4 2).1
  have f0 := (cell_blk hr4 0).2; have f1 := (cell_blk hr4 1).2; have f2 := (cell_blk hr4 2).2
  clear hr3 hr4 hb
  go_wp2_with fail
  have h3 := three_set HR4.out rfl (.pointer (some ⟨A, 0, none⟩)) (.int .i64 96) (.int .i64 (n : Int))
  have g0 := (cell_blk h3 0).1; have g1 := (cell_blk h3 1).1; have g2 := (cell_blk h3 2).1
  have hF := set3 (w0 := w) HX4.out HB4.out HM4.out (Nat.le_refl _) (.pointer (some ⟨A, 0, none⟩)) (.int .i64 96) (.int .i64 (n : Int))
  have HF := Lib.hid hF
  clear hF
  exact bodyPost_ret (v := .tuple #[.pointer (some ⟨A, 0, none⟩), tbP (some ⟨A, 0, none⟩) 96 n, .bool true]) (by simp [results, Tryz.results123, go_sem, g0, g1, g2]) rfl ⟨A, rfl, HF.out.1, HF.out.2⟩
end Go.Proofs.YtgpgclhghljidaaGreat.Bt
/- What a table tells of a run that was laid. -/
namespace Go.Proofs.YtgpgclhghljidaaGreat.Bt
open Go Go.RowKit Go.Shelf
set_option linter.unusedVariables false

theorem tag_code (s o : Int) (hs : begB s = true ∨ (s = 0 ∧ o = 0)) (h0 : 0 ≤ o) (h1 : o ≤ 10) : tagS (codeI s o) = s ∧ tagO (codeI s o) = o := by
  unfold codeI
  rcases hs with hs | ⟨rfl, rfl⟩
  · have h3 : s = 2 ∨ s = 3 := by unfold begB at hs; simpa using hs
    have e1 : (4 * o + s) / 4 = o := by omega
    have e2 : (4 * o + s) % 4 = s := by omega
    have hb : tagB (4 * o + s) = true := by unfold tagB; rw [e1, e2, hs]; simp; omega
    unfold tagS tagO
    rw [if_pos hb, if_pos hb, e1, e2]; exact ⟨rfl, rfl⟩
  · decide
theorem tag_one : tagS 1 = 1 ∧ tagO 1 = 0 := by decide
theorem tag_nought : tagS 0 = 0 ∧ tagO 0 = 0 := by decide
theorem addrV_in {va vs : Nat} {j : Int} (h0 : 0 ≤ j) (h1 : j < vs) : addrV va vs j 1 = (va : Int) + j := by unfold addrV; rw [if_pos (by omega)]
theorem gE_full (m : Nat → UInt8) (va vs : Nat) (h : va + vs ≤ 4096) (j : Int) : gE (fullS 1 m) va vs j = if 0 ≤ j ∧ j < vs then 0 else 3 := by
  unfold gE numE
  rw [show wholeB 1 = true from rfl, if_pos rfl]
  show thereE 1 [0, 1] _ _ = _
  rw [thereE_full (by omega) (by omega)]
  unfold addrV
  by_cases hj : 0 ≤ j ∧ j < vs
  · rw [if_pos (show 0 ≤ j ∧ (0 : Int) ≤ 1 ∧ 1 ≤ (vs : Int) - j by omega), if_pos hj, if_pos (by omega)]
  · rw [if_neg (show ¬ (0 ≤ j ∧ (0 : Int) ≤ 1 ∧ 1 ≤ (vs : Int) - j) by omega), if_neg hj, if_neg (by omega)]
theorem gC_full (m : Nat → UInt8) (va vs : Nat) (h : va + vs ≤ 4096) (j : Nat) (hj : j < vs) : gC (fullS 1 m) va vs j = (m (va + j)).toNat := by
  have he := gE_full m va vs h j
  rw [if_pos (by omega)] at he
  unfold gE at he
  unfold gC ldV
  rw [if_pos he, addrV_in (by omega) (by omega)]
  show ((numV m ((va : Int) + j).toNat 1 : Nat) : Int) = _
  rw [show ((va : Int) + j).toNat = va + j by omega]
  show ((numV m (va + j) 0 + (m (va + j + 0)).toNat * 2 ^ (8 * 0) : Nat) : Int) = _
  simp [numV]
theorem layM_first (m : Nat → UInt8) (an N : Nat) (fs fo : Int) (os : UInt8) (h : 0 ≤ codeI fs fo ∧ codeI fs fo ≤ 255) : ((layM m an N fs fo os an).toNat : Int) = codeI fs fo := by
  unfold layM
  have := putM_in (putM m an (List.replicate N os)) an (numB (codeI fs fo) 1) (i := 0) (by rw [numB_length]; omega)
  rw [Nat.add_zero] at this
  rw [this]
  have e : (numB (codeI fs fo) 1).getD 0 0 = byteN (codeI fs fo) 0 := rfl
  rw [e, ← byte_val h.1 0]
  have := IntKind.wrap_u8 (codeI fs fo / 2 ^ (8 * 0))
  rw [this]
  have e2 : codeI fs fo / 2 ^ (8 * 0) = codeI fs fo := by simp
  rw [e2]; omega
theorem layM_other (m : Nat → UInt8) (an N : Nat) (fs fo : Int) (os : UInt8) (k : Nat) (h1 : 0 < k) (h2 : k < N) : layM m an N fs fo os (an + k) = os := by
  unfold layM
  rw [putM_out _ _ _ (.inr (by rw [numB_length]; omega)), putM_in _ _ _ (by simpa using h2)]
  rw [List.getD_eq_getElem?_getD, List.getElem?_replicate, if_pos h2]; rfl
theorem layM_out (m : Nat → UInt8) (an N : Nat) (hN : 0 < N) (fs fo : Int) (os : UInt8) (i : Nat) (h : i < an ∨ an + N ≤ i) : layM m an N fs fo os i = m i := by
  unfold layM
  rw [putM_out _ _ _ (by rw [numB_length]; omega), putM_out _ _ _ (by rw [List.length_replicate]; omega)]
/-- where Lay lays in an arena of one page -/
theorem lay_at (m : Nat → UInt8) (va vs : Nat) (h : va + vs ≤ 4096) (i : Int) (on : Nat) :
    layE (fullS 1 m) va vs i on = if 0 ≤ i ∧ i + (2 ^ on : Nat) ≤ vs then 0 else 3 := by
  unfold layE layA
  show thereE 1 [0, 1] _ _ = _
  rw [thereE_full (by omega) (by omega)]
  unfold addrV
  have hp := Nat.two_pow_pos on
  by_cases hj : 0 ≤ i ∧ i + (2 ^ on : Nat) ≤ vs
  · rw [if_pos (show 0 ≤ i ∧ (0 : Int) ≤ (2 ^ on : Nat) ∧ ((2 ^ on : Nat) : Int) ≤ (vs : Int) - i by omega), if_pos hj, if_pos (by omega)]
  · rw [if_neg (show ¬ (0 ≤ i ∧ (0 : Int) ≤ (2 ^ on : Nat) ∧ ((2 ^ on : Nat) : Int) ≤ (vs : Int) - i) by omega), if_neg hj, if_neg (by omega)]
theorem lay_addr (va vs : Nat) (i on : Nat) (h : i + 2 ^ on ≤ vs) : layA va vs i on = ((va + i : Nat) : Int) := by
  unfold layA addrV
  generalize 2 ^ on = N at *
  rw [if_pos (by omega)]; omega
/-- of a run that was laid as Free or Taken -/
theorem run_laid (m : Nat → UInt8) (va vs : Nat) (h : va + vs ≤ 4096) (i on : Nat) (hi : i + 2 ^ on ≤ vs) (st : Int) (hs : begB st = true) (ho : on ≤ 10) (k : Nat) (hk : k < 2 ^ on) :
    runV (gC (fullS 1 (layM m (va + i) (2 ^ on) st on 1)) va vs) ((i : Int) + k) = .tuple #[.int .i64 (i : Int), tagV st on, .int .i64 0] := by
  have h3 : st = 2 ∨ st = 3 := by unfold begB at hs; simpa using hs
  have hcb : 0 ≤ codeI st on ∧ codeI st on ≤ 255 := by unfold codeI; omega
  obtain ⟨t1, t2⟩ := tag_code st on (.inl hs) (by omega) (by omega)
  have c0 : gC (fullS 1 (layM m (va + i) (2 ^ on) st on 1)) va vs i = codeI st on := by
    rw [gC_full _ _ _ h i (by omega), layM_first _ _ _ _ _ _ hcb]
  have ck : ∀ j : Nat, 0 < j → j < 2 ^ on → gC (fullS 1 (layM m (va + i) (2 ^ on) st on 1)) va vs ((i + j : Nat) : Int) = 1 := fun j j1 j2 => by
    rw [gC_full _ _ _ h (i + j) (by omega), ← Nat.add_assoc, layM_other _ _ _ _ _ _ _ j1 j2]; rfl
  generalize gC (fullS 1 (layM m (va + i) (2 ^ on) st on 1)) va vs = c at *
  have hd : ∀ j : Nat, j < 2 ^ on → dnN (insI c) (i + j + 1) = i := by
    intro j
    induction j with
    | zero =>
      intro _
      show (if insI c ((i + 0 : Nat) : Int) then dnN (insI c) (i + 0) else ((i + 0 : Nat) : Int)) = _
      rw [Nat.add_zero, if_neg]
      unfold insI; rw [c0, t1]; simp; omega
    | succ j ih =>
      intro hj
      show (if insI c ((i + (j + 1) : Nat) : Int) then dnN (insI c) (i + (j + 1)) else _) = _
      rw [if_pos]
      · exact ih (by omega)
      · unfold insI; rw [ck (j + 1) (by omega) hj]; decide
  have hf : runF c ((i : Int) + k) = i := by
    unfold runF
    rw [show ((i : Int) + k).toNat + 1 = i + k + 1 by omega]
    exact hd k hk
  have hok : runOk c ((i : Int) + k) = true := by
    unfold runOk; rw [hf, c0, t1, t2, hs, Bool.true_and, decide_eq_true_iff, Int.toNat_natCast]; omega
  unfold runV
  rw [if_pos hok, hf, c0, t1, t2]
/-- of a run that was laid as None -/
theorem run_none (m : Nat → UInt8) (va vs : Nat) (h : va + vs ≤ 4096) (i on : Nat) (hi : i + 2 ^ on ≤ vs) (k : Nat) (hk : k < 2 ^ on) :
    runV (gC (fullS 1 (layM m (va + i) (2 ^ on) 0 0 0)) va vs) ((i : Int) + k) = .tuple #[.int .i64 0, tagV 0 0, .int .i64 8] := by
  have ck : gC (fullS 1 (layM m (va + i) (2 ^ on) 0 0 0)) va vs ((i + k : Nat) : Int) = 0 := by
    rw [gC_full _ _ _ h (i + k) (by omega), ← Nat.add_assoc]
    cases k with
    | zero => rw [Nat.add_zero, layM_first _ _ _ _ _ _ (by decide)]; rfl
    | succ k => rw [layM_other _ _ _ _ _ _ _ (by omega) hk]; rfl
  generalize gC (fullS 1 (layM m (va + i) (2 ^ on) 0 0 0)) va vs = c at *
  have hf : runF c ((i : Int) + k) = ((i + k : Nat) : Int) := by
    unfold runF
    rw [show ((i : Int) + k).toNat + 1 = i + k + 1 by omega]
    show (if insI c ((i + k : Nat) : Int) then dnN (insI c) (i + k) else ((i + k : Nat) : Int)) = _
    rw [if_neg]
    unfold insI; rw [ck]; decide
  have hok : runOk c ((i : Int) + k) = false := by
    unfold runOk; rw [hf, ck, show begB (tagS 0) = false by decide, Bool.false_and]
  unfold runV
  rw [hok]; rfl
end Go.Proofs.YtgpgclhghljidaaGreat.Bt
/- A buddy's pages in memory: tags, lists; what a run that is laid, or a member more or less, makes of them. -/
namespace Go.Proofs.YtgpgclhghljidaaGreat.Bt
open Go Go.RowKit Go.Shelf
set_option linter.unusedVariables false

theorem good_up {L e : Nat} (h0 : 0 < e) (h1 : e ≤ L) (h2 : L ≤ 1048576) : Good L [0, e] := ⟨by simp [Rising]; omega, by simp, (fun x h => by simp at h; omega), h2⟩
theorem there_up {L e : Nat} (h0 : 0 < e) (h1 : e ≤ L) (h2 : L ≤ 1048576) {a k : Int} (ha : 0 ≤ a) (hk : 0 ≤ k) (h : a + k ≤ (e : Int) * 4096) : thereE L [0, e] a k = 0 := by
  unfold thereE
  rw [if_pos]
  exact (there_iff (good_up h0 h1 h2) a k).2 ⟨ha, hk, by omega, fun i i1 i2 => by
    have := mem_full (L := e) h0 (i / 4096); rw [this]; simp; omega⟩
/-- of a page: the byte that stands for it -/
def codeR (R : Runs) (g p : Nat) : Nat := if p < g then (match R p with | some (k, t) => 4 * k + (if t then 3 else 2) | none => 1) else 0
/-- is a page in the run that isn't laid yet? -/
def Hole (R : Runs) (x p : Nat) : Prop := ∃ k t, R x = some (k, t) ∧ x ≤ p ∧ p < x + 2 ^ k
/-- the tags of all pages that are given out, but for the hole -/
def Tgs (cap g : Nat) (R : Runs) (x : Nat) (m : Nat → UInt8) : Prop := ∀ p, p + 1 < cap → ¬ Hole R x p → (m (256 + p)).toNat = codeR R g p
/-- the heads of the lists lie off -/
def LOff (own : Nat) (fl : Nat → List Nat) : Prop := (∀ k, k ≤ 10 → ∀ c ∈ fl k, 4096 ≤ c ∧ c % 4096 = 0) ∧ (∀ k, k ≤ 10 → (fl k).Pairwise (· < ·)) ∧ ∀ j k, j ≤ 10 → k ≤ 10 → j ≠ k → ∀ c, c ∈ fl j → c ∉ fl k
def Lks (L : Nat) (es : List Nat) (m : Nat → UInt8) (fl : Nat → List Nat) : Prop := ∀ k, k ≤ 10 → Ch L es m (16 + 8 * k) 0 (fl k)
theorem mul_off {a b : Nat} (ha : a % 4096 = 0) (hb : b % 4096 = 0) (h : a ≠ b) : a + 4096 ≤ b ∨ b + 4096 ≤ a := by omega
theorem LOff.apart {fl : Nat → List Nat} (h : LOff 1 fl) {k : Nat} (hk : k ≤ 10) : Apart ((16 + 8 * k) :: fl k) := by
  refine List.pairwise_cons.2 ⟨fun c hc => ?_, ?_⟩
  · have := h.1 k hk c hc; omega
  · refine (List.Pairwise.and_mem.1 (h.2.1 k hk)).imp fun {a b} ⟨ha, hb, hl⟩ => ?_
    have h1 := h.1 k hk a ha
    have h2 := h.1 k hk b hb
    omega
/-- the place of a link of one list, and of one of another -/
theorem LOff.off {fl : Nat → List Nat} (h : LOff 1 fl) {j k : Nat} (hj : j ≤ 10) (hk : k ≤ 10) (hne : j ≠ k) {c d : Nat} (hc : c ∈ (16 + 8 * j) :: fl j) (hd : d ∈ (16 + 8 * k) :: fl k) : c + 8 ≤ d ∨ d + 8 ≤ c := by
  rcases List.mem_cons.1 hc with rfl | hc <;> rcases List.mem_cons.1 hd with rfl | hd
  · omega
  · have := h.1 k hk d hd; omega
  · have := h.1 j hj c hc; omega
  · have h1 := h.1 j hj c hc
    have h2 := h.1 k hk d hd
    have : c ≠ d := fun e => h.2.2 j k hj hk hne c hc (by rw [e]; exact hd)
    omega
theorem lks_add {L : Nat} {es : List Nat} {m : Nat → UInt8} {fl : Nat → List Nat} (g : Good L es) (h : Lks L es m fl) (o : LOff 1 fl) {k X : Nat} (hk : k ≤ 10) (hX : 4096 ≤ X) (hX4 : X % 4096 = 0) (hT : thereE L es X 16 = 0) (hn : ∀ j, j ≤ 10 → X ∉ fl j) (z : Nat) :
    Lks L es (put8 (put8 m X (fnd (16 + 8 * k) z (fl k) X).2.2) (fnd (16 + 8 * k) z (fl k) X).1 X) (fun j => if j = k then ins X (fl k) else fl j) := fun j hj => by
  have hoff : ∀ i, i ≤ 10 → ∀ c ∈ (16 + 8 * i) :: fl i, X + 8 ≤ c ∨ c + 8 ≤ X := fun i hi c hc => by
    rcases List.mem_cons.1 hc with rfl | hc
    · omega
    · have := o.1 i hi c hc
      have : c ≠ X := fun e => hn i hi (by rw [← e]; exact hc)
      omega
  by_cases e : j = k
  · subst e
    show Ch _ _ _ _ _ (if j = j then _ else _)
    rw [if_pos rfl]
    exact add_ch g hT z (h j hj) (by omega) (hn j hj) (o.apart hj) (hoff j hj)
  · show Ch _ _ _ _ _ (if j = k then _ else _)
    rw [if_neg e]
    refine (h j hj).keep fun c hc => ?_
    have h1 := o.off hj hk e hc (fnd_mem (16 + 8 * k) z (fl k) X)
    have h2 := hoff j hj c hc
    rw [put8_far _ _ (by omega), put8_far _ _ (by omega)]
theorem lks_less {L : Nat} {es : List Nat} {m : Nat → UInt8} {fl : Nat → List Nat} (g : Good L es) (h : Lks L es m fl) (o : LOff 1 fl) {k X : Nat} (hk : k ≤ 10) (hX : X ∈ fl k) (z : Nat) :
    Lks L es (put8 m (fnd (16 + 8 * k) z (fl k) X).1 (nxt m X)) (fun j => if j = k then (fl k).erase X else fl j) := fun j hj => by
  by_cases e : j = k
  · subst e
    show Ch _ _ _ _ _ (if j = j then _ else _)
    rw [if_pos rfl]
    exact del_ch g z (h j hj) hX (o.apart hj)
  · show Ch _ _ _ _ _ (if j = k then _ else _)
    rw [if_neg e]
    refine (h j hj).keep fun c hc => ?_
    have h1 := o.off hj hk e hc (fnd_mem (16 + 8 * k) z (fl k) X)
    rw [put8_far _ _ (by omega)]
theorem put8_byte (m : Nat → UInt8) {a i : Nat} (v : Nat) (h : i < a ∨ a + 8 ≤ i) : put8 m a v i = m i := putM_out _ _ _ (by rw [numB_length]; omega)
/-- a member more, or less, turns no tag, and nothing in front of the lists -/
theorem add_byte {m : Nat → UInt8} {fl : Nat → List Nat} (o : LOff 1 fl) {k X i : Nat} (hk : k ≤ 10) (hX : 4096 ≤ X) (z : Nat) (hi : i < 16 ∨ (104 ≤ i ∧ i < 4096)) :
    put8 (put8 m X (fnd (16 + 8 * k) z (fl k) X).2.2) (fnd (16 + 8 * k) z (fl k) X).1 X i = m i := by
  have h1 : i < (fnd (16 + 8 * k) z (fl k) X).1 ∨ (fnd (16 + 8 * k) z (fl k) X).1 + 8 ≤ i := by
    rcases List.mem_cons.1 (fnd_mem (16 + 8 * k) z (fl k) X) with e | e
    · omega
    · have := o.1 k hk _ e; omega
  rw [put8_byte _ _ h1, put8_byte _ _ (by omega)]
theorem less_byte {m : Nat → UInt8} {fl : Nat → List Nat} (o : LOff 1 fl) {k X i : Nat} (v : Nat) (hk : k ≤ 10) (z : Nat) (hi : i < 16 ∨ (104 ≤ i ∧ i < 4096)) :
    put8 m (fnd (16 + 8 * k) z (fl k) X).1 v i = m i := by
  have h1 : i < (fnd (16 + 8 * k) z (fl k) X).1 ∨ (fnd (16 + 8 * k) z (fl k) X).1 + 8 ≤ i := by
    rcases List.mem_cons.1 (fnd_mem (16 + 8 * k) z (fl k) X) with e | e
    · omega
    · have := o.1 k hk _ e; omega
  rw [put8_byte _ _ h1]
/-- a run laid over the tags turns no list -/
theorem lks_lay {L : Nat} {es : List Nat} {m : Nat → UInt8} {fl : Nat → List Nat} (h : Lks L es m fl) (o : LOff 1 fl) {an N : Nat} (hN : 0 < N) (h1 : 104 ≤ an) (h2 : an + N ≤ 4096) (fs fo : Int) (os : UInt8) : Lks L es (layM m an N fs fo os) fl := fun j hj =>
  (h j hj).keep fun c hc => numV_congr fun i hi => layM_out _ _ _ hN _ _ _ _ (by
    rcases List.mem_cons.1 hc with rfl | hc
    · omega
    · have := o.1 j hj c hc; omega)
theorem freeL_off (R : Runs) (x g : Nat) : LOff 1 (freeL 1 R x g) := by
  refine ⟨fun k _ c hc => ?_, fun k _ => freeL_sorted _ _ _ _ _, fun j k _ _ hne c hc hd => ?_⟩
  · obtain ⟨i, _, _, _, e⟩ := freeL_mem.1 hc; omega
  · obtain ⟨i, _, h1, _, e⟩ := freeL_mem.1 hc
    obtain ⟨i', _, h2, _, e'⟩ := freeL_mem.1 hd
    have : i' = i := by omega
    subst this
    rw [h1] at h2
    exact hne (some_of h2).1
/-- a run laid: its pages' tags -/
theorem lay_codes (m : Nat → UInt8) (x k p : Nat) (hk : k ≤ 10) (u : Bool) : (layM m (256 + x) (2 ^ k) (if u then 3 else 2) k 1 (256 + p)).toNat = if p = x then 4 * k + (if u then 3 else 2) else if x < p ∧ p < x + 2 ^ k then 1 else (m (256 + p)).toNat := by
  have h0 := pow2_pos k
  by_cases h1 : p = x
  · subst h1
    rw [if_pos rfl]
    have := layM_first m (256 + p) (2 ^ k) (if u then 3 else 2) k 1 (by unfold codeI; split <;> omega)
    have e : codeI (if u then 3 else 2) k = ((4 * k + (if u then 3 else 2) : Nat) : Int) := by unfold codeI; cases u <;> simp
    rw [e] at this
    exact Int.ofNat_inj.1 this
  · rw [if_neg h1]
    by_cases h2 : x < p ∧ p < x + 2 ^ k
    · rw [if_pos h2]
      have := layM_other m (256 + x) (2 ^ k) (if u then 3 else 2) k 1 (p - x) (by omega) (by omega)
      rw [show 256 + x + (p - x) = 256 + p from by omega] at this
      rw [this]; rfl
    · rw [if_neg h2, layM_out _ _ _ h0 _ _ _ _ (by omega)]
theorem none_codes (m : Nat → UInt8) (x k p : Nat) : (layM m (256 + x) (2 ^ k) 0 0 0 (256 + p)).toNat = if x ≤ p ∧ p < x + 2 ^ k then 0 else (m (256 + p)).toNat := by
  have h0 := pow2_pos k
  by_cases h1 : p = x
  · subst h1
    rw [if_pos (by omega)]
    have := layM_first m (256 + p) (2 ^ k) 0 0 0 (by decide)
    rw [show codeI 0 0 = 0 from rfl] at this
    omega
  · by_cases h2 : x < p ∧ p < x + 2 ^ k
    · rw [if_pos (by omega)]
      have := layM_other m (256 + x) (2 ^ k) 0 0 0 (p - x) (by omega) (by omega)
      rw [show 256 + x + (p - x) = 256 + p from by omega] at this
      rw [this]; rfl
    · rw [if_neg (by omega), layM_out _ _ _ h0 _ _ _ _ (by omega)]
end Go.Proofs.YtgpgclhghljidaaGreat.Bt
/- A buddy in memory: what it is behind each of its steps. -/
namespace Go.Proofs.YtgpgclhghljidaaGreat.Bt
open Go Go.RowKit Go.Shelf
set_option linter.unusedVariables false

/-- a buddy's mark -/
def bMark : Nat := 0xff6e6f706c6c696d
/-- a buddy of at most 80 pages: G pages are committed behind its own one, g of them are in runs; the run at x isn't laid yet -/
structure Bud (cap G g : Nat) (R : Runs) (x : Nat) (s : ASt) : Prop where
  cL : s.L = cap
  c2 : 2 ≤ cap ∧ cap ≤ 80
  es : s.es = [0, 1 + G]
  gG : g ≤ G ∧ G < cap
  mr : numV s.mm 0 8 = bMark
  gr : numV s.mm 8 8 = G
  tg : Tgs cap g R x s.mm
  ls : Lks s.L s.es s.mm (freeL 1 R x g)
  ti : Til g R x
section
variable {cap G g x k : Nat} {R : Runs} {s : ASt}
theorem Bud.good (h : Bud cap G g R x s) : Good s.L s.es := by
  have := h.gG; have := h.c2
  rw [h.cL, h.es]; exact good_up (by omega) (by omega) (by omega)
theorem Bud.there (h : Bud cap G g R x s) {a n : Int} (h0 : 0 ≤ a) (h1 : 0 ≤ n) (h2 : a + n ≤ ((1 + G : Nat) : Int) * 4096) : thereE s.L s.es a n = 0 := by
  have := h.gG; have := h.c2
  rw [h.cL, h.es]; exact there_up (by omega) (by omega) (by omega) h0 h1 h2
theorem front_same {m m' : Nat → UInt8} (h : ∀ i, i < 16 → m' i = m i) {a : Nat} (ha : a + 8 ≤ 16) : numV m' a 8 = numV m a 8 := numV_congr fun j hj => h _ (by omega)
/-- the memory behind Add -/
def addM (m : Nat → UInt8) (fl : Nat → List Nat) (k X : Nat) : Nat → UInt8 := put8 (put8 m X (fnd (16 + 8 * k) 8 (fl k) X).2.2) (fnd (16 + 8 * k) 8 (fl k) X).1 X
/-- the memory behind Remove -/
def delM (m : Nat → UInt8) (fl : Nat → List Nat) (k X : Nat) : Nat → UInt8 := put8 m (fnd (16 + 8 * k) 8 (fl k) X).1 (nxt m X)
theorem Lks.of {L : Nat} {es : List Nat} {m : Nat → UInt8} {fl fl' : Nat → List Nat} (h : Lks L es m fl) (e : ∀ k, k ≤ 10 → fl' k = fl k) : Lks L es m fl' := fun k hk => by rw [e k hk]; exact h k hk
theorem hole_none (h : R x = Option.none) (p : Nat) : ¬ Hole R x p := fun ⟨k, t, e, _⟩ => by rw [h] at e; cases e
/-- the pages of other runs aren't in the hole -/
theorem Bud.addr (h : Bud cap G g R x s) {i k : Nat} {t : Bool} (e : R i = some (k, t)) : k ≤ 10 ∧ i + 2 ^ k ≤ g ∧ i < g ∧ i + 1 < cap ∧ i + 2 ^ k < cap + 1 := by
  have := h.ti.al _ _ _ e; have := h.gG; have := pow2_pos k; omega
/-- a taken run is freed: nothing is laid yet -/
theorem Bud.freed (h : Bud cap G g R g s) (e : R x = some (k, true)) : Bud cap G g (layR R x k false) x s :=
  { h with
    tg := fun p hp hn => by
      have h1 := h.tg p hp (hole_none (h.ti.out (Nat.le_refl _)) p)
      rw [h1]
      unfold codeR
      by_cases c : p < g
      · rw [if_pos c, if_pos c]
        have ho : p < x ∨ x + 2 ^ k ≤ p := by
          by_cases q : p < x ∨ x + 2 ^ k ≤ p
          · exact q
          · exact absurd ⟨k, false, layR_self _ _ _ _, by omega, by omega⟩ hn
        rw [layR_out ho]
      · rw [if_neg c, if_neg c]
    ls := h.ls.of fun j _ => free_freed h.ti e j
    ti := h.ti.freed e }
/-- a free run is taken out of its list -/
theorem Bud.pick (h : Bud cap G g R g s) (e : R x = some (k, false)) : Bud cap G g R x { s with mm := delM s.mm (freeL 1 R g g) k ((1 + x) * 4096) } := by
  have a := h.addr e
  have hX : (1 + x) * 4096 ∈ freeL 1 R g g k := freeL_at.2 ⟨a.2.2.1, e, Nat.ne_of_lt a.2.2.1⟩
  have o := freeL_off R g g
  have by16 : ∀ i, i < 16 ∨ (104 ≤ i ∧ i < 4096) → delM s.mm (freeL 1 R g g) k ((1 + x) * 4096) i = s.mm i := fun i hi => less_byte o _ a.1 8 hi
  exact { h with
    mr := (front_same (fun i hi => by16 i (.inl hi)) (by omega)).trans h.mr
    gr := (front_same (fun i hi => by16 i (.inl hi)) (by omega)).trans h.gr
    tg := fun p hp hn => by
      have := h.c2
      show (delM _ _ _ _ _).toNat = _
      rw [by16 _ (.inr (by omega))]
      exact h.tg p hp (hole_none (h.ti.out (Nat.le_refl _)) p)
    ls := (lks_less h.good h.ls o a.1 hX 8).of fun j hj => by
      by_cases c : j = k
      · subst c; rw [if_pos rfl]; exact free_pick h.ti e
      · rw [if_neg c]; exact free_pick' h.ti e c
    ti := h.ti.at }
/-- put together with its twin, that is taken out of its list -/
theorem Bud.join (h : Bud cap G g R x s) (e : R x = some (k, false)) (f : R (twin x k) = some (k, false)) (hk : k < 10) :
    Bud cap G g (layR R (min x (twin x k)) (k + 1) false) (min x (twin x k)) { s with mm := delM s.mm (freeL 1 R x g) k ((1 + twin x k) * 4096) } := by
  have a := h.addr f
  have ax := h.addr e
  have hne := twin_ne (h.ti.al _ _ _ e).2.1
  have hX : (1 + twin x k) * 4096 ∈ freeL 1 R x g k := freeL_at.2 ⟨a.2.2.1, f, hne⟩
  have o := freeL_off R x g
  have by16 : ∀ i, i < 16 ∨ (104 ≤ i ∧ i < 4096) → delM s.mm (freeL 1 R x g) k ((1 + twin x k) * 4096) i = s.mm i := fun i hi => less_byte o _ a.1 8 hi
  obtain ⟨i, em, hi, e1, e2, hx⟩ := join_of h.ti.toTile e f
  have hp := pow2_succ k
  have h0 := pow2_pos k
  exact { h with
    mr := (front_same (fun i hi => by16 i (.inl hi)) (by omega)).trans h.mr
    gr := (front_same (fun i hi => by16 i (.inl hi)) (by omega)).trans h.gr
    tg := fun p hp' hn => by
      have := h.c2
      show (delM _ _ _ _ _).toNat = _
      rw [by16 _ (.inr (by omega))]
      have ho : p < i ∨ i + 2 ^ (k + 1) ≤ p := by
        by_cases q : p < i ∨ i + 2 ^ (k + 1) ≤ p
        · exact q
        · exact absurd ⟨k + 1, false, layR_self _ _ _ _, by omega, by omega⟩ hn
      rw [h.tg p hp' (fun ⟨k', t', q1, q2, q3⟩ => by
        rw [e] at q1
        have := (some_of q1).1
        subst this
        omega)]
      unfold codeR
      rw [em, layR_out ho]
    ls := (lks_less h.good h.ls o a.1 hX 8).of fun j hj => by
      by_cases c : j = k
      · subst c; rw [if_pos rfl]; exact free_join h.ti e f
      · rw [if_neg c]; exact free_join' h.ti e f c
    ti := h.ti.join e f hk }
/-- what a run laid makes of the tags -/
theorem lay_tags {m : Nat → UInt8} {g' : Nat} {R' : Runs} {y : Nat} {u : Bool} (hk : k ≤ 10) (hx : R' x = some (k, u)) (hin : ∀ p, x < p → p < x + 2 ^ k → R' p = Option.none) (hg : x + 2 ^ k ≤ g')
    (h : ∀ p, p + 1 < cap → ¬ Hole R' y p → ¬ (x ≤ p ∧ p < x + 2 ^ k) → (m (256 + p)).toNat = codeR R' g' p) : Tgs cap g' R' y (layM m (256 + x) (2 ^ k) (if u then 3 else 2) k 1) := fun p hp hn => by
  have h0 := pow2_pos k
  rw [lay_codes m x k p hk u]
  by_cases c : p = x
  · subst c
    rw [if_pos (show p = p from rfl)]
    unfold codeR
    rw [if_pos (show p < g' by omega), hx]
  · rw [if_neg c]
    by_cases d : x < p ∧ p < x + 2 ^ k
    · rw [if_pos d]
      unfold codeR
      rw [if_pos (by omega), hin p d.1 d.2]
    · rw [if_neg d]
      exact h p hp hn (by omega)
theorem Tile.inside (h : Tile g R) {t : Bool} (e : R x = some (k, t)) (p : Nat) (h1 : x < p) (h2 : p < x + 2 ^ k) : R p = Option.none := by
  cases c : R p with
  | none => rfl
  | some y => have := h.dj _ _ _ _ y.1 y.2 e c h1; omega
/-- the run that wasn't laid yet is: a free one, that is put into its list -/
theorem Bud.stop (h : Bud cap G g R x s) (e : R x = some (k, false)) (hs : k < 10 → R (twin x k) ≠ some (k, false)) :
    Bud cap G g R g { s with mm := addM (layM s.mm (256 + x) (2 ^ k) 2 k 1) (freeL 1 R x g) k ((1 + x) * 4096) } := by
  have a := h.addr e
  have o := freeL_off R x g
  have h0 := pow2_pos k
  have c2 := h.c2
  have gG := h.gG
  have hn : ∀ j, j ≤ 10 → (1 + x) * 4096 ∉ freeL 1 R x g j := fun j _ c => (freeL_at.1 c).2.2 rfl
  have hT : thereE s.L s.es (((1 + x) * 4096 : Nat) : Int) 16 = 0 := h.there (by omega) (by omega) (by omega)
  have by16 : ∀ i, i < 16 ∨ (104 ≤ i ∧ i < 4096) → addM (layM s.mm (256 + x) (2 ^ k) 2 k 1) (freeL 1 R x g) k ((1 + x) * 4096) i = layM s.mm (256 + x) (2 ^ k) 2 k 1 i := fun i hi => add_byte o a.1 (by omega) 8 hi
  have fr : ∀ i, i < 16 → addM (layM s.mm (256 + x) (2 ^ k) 2 k 1) (freeL 1 R x g) k ((1 + x) * 4096) i = s.mm i := fun i hi => (by16 i (.inl hi)).trans (layM_out _ _ _ h0 _ _ _ _ (by omega))
  have T := lay_tags (cap := cap) (m := s.mm) (y := g) a.1 e (h.ti.toTile.inside e) a.2.1 (fun p hp _ hc => h.tg p hp (fun ⟨k', t', q1, q2, q3⟩ => by
    rw [e] at q1
    have := (some_of q1).1
    subst this
    exact hc ⟨q2, q3⟩))
  exact { h with
    mr := (front_same fr (by omega)).trans h.mr
    gr := (front_same fr (by omega)).trans h.gr
    tg := fun p hp hn => by
      show (addM _ _ _ _ _).toNat = _
      rw [by16 _ (.inr (by omega))]
      exact T p hp hn
    ls := (lks_add h.good (lks_lay h.ls o h0 (by omega) (by omega) 2 k 1) o a.1 (by omega) (by omega) hT hn 8).of fun j hj => by
      by_cases c : j = k
      · subst c; rw [if_pos rfl]; exact free_stop h.ti e
      · rw [if_neg c]; exact free_stop' h.ti e c
    ti := h.ti.stop e hs }
end
end Go.Proofs.YtgpgclhghljidaaGreat.Bt
/- A buddy in memory: halved, taken, grown, shrunk. -/
namespace Go.Proofs.YtgpgclhghljidaaGreat.Bt
open Go Go.RowKit Go.Shelf
set_option linter.unusedVariables false
section
variable {cap G g x k : Nat} {R : Runs} {s : ASt}
theorem half_at (R : Runs) (i k : Nat) (t : Bool) : halfR R i k t i = some (k, t) := if_pos rfl
theorem half_snd (R : Runs) (i k : Nat) (t : Bool) : halfR R i k t (i + 2 ^ k) = some (k, false) := by
  have := pow2_pos k
  unfold halfR; rw [if_neg (by omega), if_pos rfl]
/-- halved: the second half is laid, and put into its list -/
theorem Bud.half (h : Bud cap G g R x s) (e : R x = some (k + 1, false)) :
    Bud cap G g (halfR R x k false) x { s with mm := addM (layM s.mm (256 + (x + 2 ^ k)) (2 ^ k) 2 k 1) (freeL 1 R x g) k ((1 + (x + 2 ^ k)) * 4096) } := by
  have a := h.addr e
  have o := freeL_off R x g
  have h0 := pow2_pos k
  have hp := pow2_succ k
  have c2 := h.c2
  have gG := h.gG
  have nn := half_in h.ti.toTile e
  have hn : ∀ j, j ≤ 10 → (1 + (x + 2 ^ k)) * 4096 ∉ freeL 1 R x g j := fun j _ c => by
    have := (freeL_at.1 c).2.1
    rw [nn] at this; cases this
  have hT : thereE s.L s.es (((1 + (x + 2 ^ k)) * 4096 : Nat) : Int) 16 = 0 := h.there (by omega) (by omega) (by omega)
  have by16 : ∀ i, i < 16 ∨ (104 ≤ i ∧ i < 4096) → addM (layM s.mm (256 + (x + 2 ^ k)) (2 ^ k) 2 k 1) (freeL 1 R x g) k ((1 + (x + 2 ^ k)) * 4096) i = layM s.mm (256 + (x + 2 ^ k)) (2 ^ k) 2 k 1 i := fun i hi => add_byte o (by omega) (by omega) 8 hi
  have fr : ∀ i, i < 16 → addM (layM s.mm (256 + (x + 2 ^ k)) (2 ^ k) 2 k 1) (freeL 1 R x g) k ((1 + (x + 2 ^ k)) * 4096) i = s.mm i := fun i hi => (by16 i (.inl hi)).trans (layM_out _ _ _ h0 _ _ _ _ (by omega))
  have T := lay_tags (cap := cap) (m := s.mm) (y := x) (g' := g) (R' := halfR R x k false) (x := x + 2 ^ k) (k := k) (u := false) (by omega) (half_snd R x k false) ((h.ti.toTile.half (u := false) e).inside (half_snd R x k false)) (by omega) (fun p hp' hh hc => by
    have hx : p < x ∨ x + 2 ^ k ≤ p := by
      by_cases q : p < x ∨ x + 2 ^ k ≤ p
      · exact q
      · exact absurd ⟨k, false, half_at R x k false, by omega, by omega⟩ hh
    rw [h.tg p hp' (fun ⟨k', t', q1, q2, q3⟩ => by
      rw [e] at q1
      have := (some_of q1).1
      subst this
      omega)]
    unfold codeR halfR
    rw [if_neg (show ¬ p = x by omega), if_neg (show ¬ p = x + 2 ^ k by omega)])
  exact { h with
    mr := (front_same fr (by omega)).trans h.mr
    gr := (front_same fr (by omega)).trans h.gr
    tg := fun p hp' hh => by
      show (addM _ _ _ _ _).toNat = _
      rw [by16 _ (.inr (by omega))]
      exact T p hp' hh
    ls := (lks_add h.good (lks_lay h.ls o h0 (by omega) (by omega) 2 k 1) o (by omega) (by omega) (by omega) hT hn 8).of fun j hj => by
      by_cases c : j = k
      · subst c; rw [if_pos rfl]; exact free_half h.ti e
      · rw [if_neg c]; exact free_half' h.ti e c
    ti := h.ti.half e }
/-- taken: laid as a taken one -/
theorem Bud.take (h : Bud cap G g R x s) (e : R x = some (k, false)) :
    Bud cap G g (layR R x k true) g { s with mm := layM s.mm (256 + x) (2 ^ k) 3 k 1 } := by
  have a := h.addr e
  have o := freeL_off R x g
  have h0 := pow2_pos k
  have c2 := h.c2
  have gG := h.gG
  have fr : ∀ i, i < 16 → layM s.mm (256 + x) (2 ^ k) 3 k 1 i = s.mm i := fun i hi => layM_out _ _ _ h0 _ _ _ _ (by omega)
  have T := lay_tags (cap := cap) (m := s.mm) (y := g) (g' := g) (R' := layR R x k true) (x := x) (k := k) (u := true) a.1 (layR_self _ _ _ _) (fun p p1 p2 => layR_in p1 p2) a.2.1 (fun p hp' hh hc => by
    rw [h.tg p hp' (fun ⟨k', t', q1, q2, q3⟩ => by
      rw [e] at q1
      have := (some_of q1).1
      subst this
      omega)]
    unfold codeR
    rw [layR_out (show p < x ∨ x + 2 ^ k ≤ p by omega)])
  exact { h with
    mr := (front_same fr (by omega)).trans h.mr
    gr := (front_same fr (by omega)).trans h.gr
    tg := fun p hp' hh => T p hp' hh
    ls := (lks_lay h.ls o h0 (by omega) (by omega) 3 k 1).of fun j hj => free_take h.ti e
    ti := h.ti.take e }
/-- a run more of the pages that are committed -/
theorem Bud.more (h : Bud cap G g R g s) (hk : k ≤ 10) (hg : g % 2 ^ k = 0) (hG : g + 2 ^ k ≤ G) : Bud cap G (g + 2 ^ k) (layR R g k false) g s :=
  have h0 := pow2_pos k
  { h with
    gG := ⟨hG, h.gG.2⟩
    tg := fun p hp' hh => by
      rw [h.tg p hp' (hole_none (h.ti.out (Nat.le_refl _)) p)]
      have hx : p < g ∨ g + 2 ^ k ≤ p := by
        by_cases q : p < g ∨ g + 2 ^ k ≤ p
        · exact q
        · exact absurd ⟨k, false, layR_self _ _ _ _, by omega, by omega⟩ hh
      unfold codeR
      rcases hx with c | c
      · rw [if_pos c, if_pos (show p < g + 2 ^ k by omega), layR_out (.inl c)]
      · rw [if_neg (show ¬ p < g by omega), if_neg (show ¬ p < g + 2 ^ k by omega)]
    ls := h.ls.of fun j _ => free_more h.ti
    ti := h.ti.more hk hg }
end
end Go.Proofs.YtgpgclhghljidaaGreat.Bt
/- An arena whose first pages are committed: pages more, pages less; what a buddy is behind that. -/
namespace Go.Proofs.YtgpgclhghljidaaGreat.Bt
open Go Go.RowKit Go.Shelf
set_option linter.unusedVariables false

theorem mem_up {e : Nat} (h0 : 0 < e) (i : Int) : mem [0, e] i = decide (0 ≤ i ∧ i < e) := mem_full h0 i
theorem within_nat {L e d : Nat} (h : e + d ≤ L) : withinB L (e : Int) (d : Int) = true := by unfold withinB; rw [decide_eq_true_iff]; omega
theorem up_laid {L e d : Nat} (h0 : 0 < e) (hd : 0 < d) (h : e + d ≤ L) (hL : L ≤ 1048576) : laidS L [0, e] (e : Int) (d : Int) true = [0, e + d] := by
  have g := good_up h0 (show e ≤ L by omega) hL
  refine good_ext (L := L) (laidS_good g _ _ _) (good_up (by omega) h hL) fun i hi => ?_
  rw [mem_laidS g (within_nat h), mem_up h0, mem_up (show 0 < e + d by omega)]
  by_cases c : (e : Int) ≤ i ∧ (i : Int) < e + d
  · rw [if_pos c, decide_eq_true (by omega)]
  · rw [if_neg c]; congr 1; exact propext ⟨fun _ => by omega, fun _ => by omega⟩
theorem down_laid {L e d : Nat} (h0 : 0 < e) (hd : 0 < d) (h : e + d ≤ L) (hL : L ≤ 1048576) : laidS L [0, e + d] (e : Int) (d : Int) false = [0, e] := by
  have g := good_up (show 0 < e + d by omega) h hL
  refine good_ext (L := L) (laidS_good g _ _ _) (good_up h0 (by omega) hL) fun i hi => ?_
  rw [mem_laidS g (within_nat h), mem_up (show 0 < e + d by omega), mem_up h0]
  by_cases c : (e : Int) ≤ i ∧ (i : Int) < e + d
  · rw [if_pos c, decide_eq_false (by omega)]
  · rw [if_neg c]; congr 1; exact propext ⟨fun _ => by omega, fun _ => by omega⟩
theorem up_count {L e d : Nat} (h0 : 0 < e) (hd : 0 < d) (h : e + d ≤ L) : countR L [0, e] (e : Int) (d : Int) = 0 := by
  unfold countR countV
  rw [if_neg (by omega), if_pos (within_nat h)]
  unfold memCount
  rw [Int.natCast_eq_zero, List.countP_eq_zero]
  intro i hi
  rw [mem_up h0, decide_eq_true_iff]
  omega
theorem down_count {L e d : Nat} (h0 : 0 < e) (hd : 0 < d) (h : e + d ≤ L) : countR L [0, e + d] (e : Int) (d : Int) = d := by
  unfold countR countV
  rw [if_neg (by omega), if_pos (within_nat h)]
  unfold memCount
  rw [Int.toNat_natCast, List.countP_eq_length.2 (fun i hi => by
    rw [mem_up (by omega), decide_eq_true_iff]
    have := List.mem_range.1 hi
    omega), List.length_range, Int.toNat_natCast]
theorem count_ok {L e d : Nat} (hd : 0 < d) (h : e + d ≤ L) : countE L (e : Int) (d : Int) = 0 := by
  unfold countE laidErr
  rw [if_neg (by omega), if_pos (within_nat h)]
theorem count_no {L e d : Nat} (hd : 0 < d) (h : L < e + d) : countE L (e : Int) (d : Int) = 3 := by
  unfold countE laidErr
  rw [if_neg (by omega), if_neg (by unfold withinB; rw [decide_eq_true_iff]; omega)]
section
variable {s : ASt} {cap e d : Nat}
theorem up_no (hL : s.L = cap) (hd : 0 < d) (h : cap < e + d) : commitE s (e : Int) (d : Int) = 3 ∧ commitS s (e : Int) (d : Int) = s := by
  unfold commitE commitS
  rw [hL, count_no hd h]
  exact ⟨rfl, rfl⟩
theorem up_refused (hL : s.L = cap) (he : s.es = [0, e]) (h0 : 0 < e) (hd : 0 < d) (h : e + d ≤ cap) (hr : refB s = true) : commitE s (e : Int) (d : Int) = 4 ∧ commitS s (e : Int) (d : Int) = refS s := by
  unfold commitE commitS
  rw [hL, he, count_ok hd h, up_count h0 hd h, hr]
  exact ⟨rfl, rfl⟩
theorem up_given (hL : s.L = cap) (he : s.es = [0, e]) (h0 : 0 < e) (hd : 0 < d) (h : e + d ≤ cap) (hc : cap ≤ 1048576) (hr : refB s = false) : commitE s (e : Int) (d : Int) = 0 ∧ commitS s (e : Int) (d : Int) = { refS s with es := [0, e + d] } := by
  unfold commitE commitS
  rw [hL, he, count_ok hd h, up_count h0 hd h, hr, up_laid h0 hd h hc]
  exact ⟨rfl, rfl⟩
theorem down_given (hL : s.L = cap) (he : s.es = [0, e + d]) (h0 : 0 < e) (hd : 0 < d) (h : e + d ≤ cap) (hc : cap ≤ 1048576) : decE s (e : Int) (d : Int) = 0 ∧ decS s (e : Int) (d : Int) = { s with es := [0, e], mm := clrM s.mm e d } := by
  have h1 : decE s (e : Int) (d : Int) = 0 := by
    unfold decE
    rw [hL, he, count_ok hd h, down_count h0 hd h, if_neg (by decide), if_neg (by omega)]
  refine ⟨h1, ?_⟩
  unfold decS
  rw [if_pos h1, hL, he, down_laid h0 hd h hc]
  rfl
end
end Go.Proofs.YtgpgclhghljidaaGreat.Bt
/- A buddy in memory that has grown, or shrunk. -/
namespace Go.Proofs.YtgpgclhghljidaaGreat.Bt
open Go Go.RowKit Go.Shelf
set_option linter.unusedVariables false

theorem Ch.re {L L' : Nat} {es es' : List Nat} {m : Nat → UInt8} : ∀ {h b : Nat} {ms : List Nat}, Ch L es m h b ms → thereE L' es' h 8 = 0 → (∀ c : Nat, c ∈ ms → thereE L' es' c 16 = 0 ∧ thereE L' es' c 8 = 0) → Ch L' es' m h b ms
  | _, _, [], k, h8, _ => ⟨h8, k.2⟩
  | _, _, x :: t, k, h8, hc => ⟨h8, k.2.1, k.2.2.1, (hc x (List.mem_cons_self ..)).1, Ch.re k.2.2.2.2 (hc x (List.mem_cons_self ..)).2 fun c h => hc c (List.mem_cons_of_mem _ h)⟩
section
variable {cap G g x k : Nat} {R : Runs} {s : ASt}
theorem lks_re {L E : Nat} {es : List Nat} {m : Nat → UInt8} {fl : Nat → List Nat} (h : Lks L es m fl) (o : LOff 1 fl) (h0 : 0 < E) (h1 : E ≤ L) (h2 : L ≤ 1048576) (hc : ∀ k, k ≤ 10 → ∀ c ∈ fl k, c + 4096 ≤ E * 4096) : Lks L [0, E] m fl := fun k hk =>
  (h k hk).re (there_up h0 h1 h2 (by omega) (by omega) (by omega)) fun c hm => by
    have := hc k hk c hm
    exact ⟨there_up h0 h1 h2 (by omega) (by omega) (by omega), there_up h0 h1 h2 (by omega) (by omega) (by omega)⟩
theorem lks_front {L : Nat} {es : List Nat} {m m' : Nat → UInt8} {fl : Nat → List Nat} (h : Lks L es m fl) (o : LOff 1 fl) (e : ∀ i, 16 ≤ i → (i < 104 ∨ ∃ k, k ≤ 10 ∧ ∃ c ∈ fl k, c ≤ i ∧ i < c + 8) → m' i = m i) : Lks L es m' fl := fun k hk =>
  (h k hk).keep fun c hc => numV_congr fun j hj => by
    rcases List.mem_cons.1 hc with q | q
    · exact e _ (by omega) (.inl (by omega))
    · have := o.1 k hk c q
      exact e _ (by omega) (.inr ⟨k, hk, c, q, by omega, by omega⟩)
theorem freeL_lt {c k : Nat} (h : Til g R x) (hc : c ∈ freeL 1 R x g k) : c + 4096 ≤ (1 + g) * 4096 := by
  obtain ⟨i, h1, h2, _, e⟩ := freeL_mem.1 hc
  omega
/-- more pages are committed, and that is written down -/
theorem Bud.grown {E : Nat} {rf : Bool} {lf : Nat} (h : Bud cap G g R x s) (hE : G ≤ E) (hc : E < cap) :
    Bud cap E g R x ⟨s.L, [0, 1 + E], put8 s.mm 8 E, rf, lf⟩ := by
  have c2 := h.c2
  have gG := h.gG
  have o := freeL_off R x g
  have far : ∀ i, 16 ≤ i → put8 s.mm 8 E i = s.mm i := fun i hi => put8_byte _ _ (by omega)
  exact {
    cL := h.cL
    c2 := c2
    es := rfl
    gG := ⟨by omega, hc⟩
    mr := (put8_far _ _ (by omega)).trans h.mr
    gr := put8_same _ _ _ (by omega)
    tg := fun p hp hn => by
      show (put8 s.mm 8 E (256 + p)).toNat = _
      rw [far _ (by omega)]
      exact h.tg p hp hn
    ls := by
      have r : Lks s.L [0, 1 + E] s.mm (freeL 1 R x g) := lks_re h.ls o (by omega) (by rw [h.cL]; omega) (by rw [h.cL]; omega) fun k hk c hm => by
        exact Nat.le_trans (freeL_lt h.ti hm) (Nat.mul_le_mul_right 4096 (show 1 + g ≤ 1 + E by omega))
      exact lks_front r o fun i hi _ => far i hi
    ti := h.ti }
theorem clrM_out {m : Nat → UInt8} {a k i : Nat} (h : i < a * 4096) : clrM m a k i = m i := by unfold clrM; rw [if_neg (by omega)]
theorem less_codes (h : Til g R g) (e : R x = some (k, false)) (hx : x + 2 ^ k = g) (p : Nat) (hp : p < x) : codeR (lessR R x) x p = codeR R g p := by
  unfold codeR lessR
  have h0 := pow2_pos k
  rw [if_pos hp, if_pos (show p < g by omega), if_neg (show ¬ p = x by omega)]
/-- the last run is gone: its tags, its pages; that is written down -/
theorem Bud.shrunk (h : Bud cap g g R x s) (e : R x = some (k, false)) (hx : x + 2 ^ k = g) (ht : Til g R g) :
    Bud cap x x (lessR R x) x ⟨s.L, [0, 1 + x], put8 (clrM (layM s.mm (256 + x) (2 ^ k) 0 0 0) (1 + x) (2 ^ k)) 8 x, s.rf, s.lf⟩ := by
  have a := h.addr e
  have h0 := pow2_pos k
  have c2 := h.c2
  have gG := h.gG
  have o := freeL_off R x g
  have o' := freeL_off (lessR R x) x x
  have lay : ∀ i, i < 104 → layM s.mm (256 + x) (2 ^ k) 0 0 0 i = s.mm i := fun i hi => layM_out _ _ _ h0 _ _ _ _ (by omega)
  have low : ∀ i, 16 ≤ i → i < (1 + x) * 4096 → put8 (clrM (layM s.mm (256 + x) (2 ^ k) 0 0 0) (1 + x) (2 ^ k)) 8 x i = layM s.mm (256 + x) (2 ^ k) 0 0 0 i := fun i h1 h2 => by
    rw [put8_byte _ _ (by omega), clrM_out h2]
  have ti := ht.less e hx
  exact {
    cL := h.cL
    c2 := c2
    es := rfl
    gG := ⟨by omega, by omega⟩
    mr := (put8_far _ _ (by omega)).trans ((numV_congr fun j hj => by rw [clrM_out (by omega), lay _ (by omega)]).trans h.mr)
    gr := put8_same _ _ _ (by omega)
    tg := fun p hp hn => by
      show (put8 _ 8 x (256 + p)).toNat = _
      rw [low _ (by omega) (by omega), none_codes]
      by_cases c : x ≤ p ∧ p < x + 2 ^ k
      · rw [if_pos c]
        unfold codeR
        rw [if_neg (by omega)]
      · rw [if_neg c, h.tg p hp (fun ⟨k', t', q1, q2, q3⟩ => by
          rw [e] at q1
          have := (some_of q1).1
          subst this
          exact c ⟨q2, q3⟩)]
        by_cases d : p < x
        · rw [less_codes ht e hx p d]
        · unfold codeR
          rw [if_neg (by omega), if_neg d]
    ls := by
      show Lks s.L [0, 1 + x] _ _
      have q : ∀ j, freeL 1 (lessR R x) x x j = freeL 1 R x g j := fun j => free_less ht e hx
      refine Lks.of (fl := freeL 1 R x g) ?_ fun j _ => q j
      have lt : ∀ j, ∀ c ∈ freeL 1 R x g j, c + 4096 ≤ (1 + x) * 4096 := fun j c hc => by
        rw [← q j] at hc
        exact freeL_lt ti hc
      refine lks_front (lks_re h.ls o (by omega) (by rw [h.cL]; omega) (by rw [h.cL]; omega) fun j _ c hm => lt j c hm) o fun i hi hc => ?_
      have hi2 : i < 104 ∨ (4096 ≤ i ∧ i < (1 + x) * 4096) := by
        rcases hc with hc | ⟨j, hj, c, hm, q1, q2⟩
        · exact .inl hc
        · have := lt j c hm
          have := o.1 j hj c hm
          exact .inr (by omega)
      show put8 (clrM (layM s.mm (256 + x) (2 ^ k) 0 0 0) (1 + x) (2 ^ k)) 8 x i = _
      rw [low i hi (by omega), layM_out _ _ _ h0 _ _ _ _ (by omega)]
    ti := ti }
end
end Go.Proofs.YtgpgclhghljidaaGreat.Bt
/- A buddy in memory; Base, address, page, Grown, setGrown, isOrder. -/
namespace Go.Proofs.YtgpgclhghljidaaGreat.Bt
open Go Go.RowKit Go.Shelf
set_option linter.unusedVariables false
set_option linter.unusedSimpArgs false
/-- the block of a buddy of an arena in block A; its table has n tags -/
def BdyAt (B A n : Nat) (w : World) : Prop := w.heap[B]? = some (.cells #[.pointer (some ⟨A, 0, none⟩), .pointer (some ⟨A, 0, none⟩), .int .i64 0, .int .i64 256, .pointer (some ⟨A, 0, none⟩), .int .i64 16, .int .i64 88, .pointer (some ⟨A, 0, none⟩), .int .i64 256, .int .i64 (n : Int)] 45 (0, 0))
def BV (B A n : Nat) (s : ASt) (w : World) : Prop := On A s w ∧ s.L = n + 1 ∧ BdyAt B A n w
theorem BV.below {B A n : Nat} {s : ASt} {x y : World} (h : BV B A n s x) (hb : Below x.heap.size x y) : BV B A n s y :=
  ⟨h.1.below hb, h.2.1, (hb.block _ (Array.getElem?_eq_some_iff.1 h.2.2).1).trans h.2.2⟩
theorem BV.went {B A n : Nat} {s s' : ASt} {x y : World} (h : BV B A n s x) (ho : On A s' y) (hg : Went A x y) (hL : s'.L = s.L) : BV B A n s' y :=
  ⟨ho, hL.trans h.2.1, hg.keep h.1 h.2.2 (by decide) (by decide) (by decide)⟩
theorem BV.all {B A n : Nat} {s : ASt} {x : World} (h : BV B A n s x) :
    x.cell? ⟨B, 0, none⟩ = some (.pointer (some ⟨A, 0, none⟩)) ∧ x.cell? ⟨B, 1, none⟩ = some (.pointer (some ⟨A, 0, none⟩)) ∧ x.cell? ⟨B, 2, none⟩ = some (.int .i64 0) ∧ x.cell? ⟨B, 3, none⟩ = some (.int .i64 256) ∧
    x.cell? ⟨B, 4, none⟩ = some (.pointer (some ⟨A, 0, none⟩)) ∧ x.cell? ⟨B, 5, none⟩ = some (.int .i64 16) ∧ x.cell? ⟨B, 6, none⟩ = some (.int .i64 88) ∧
    x.cell? ⟨B, 7, none⟩ = some (.pointer (some ⟨A, 0, none⟩)) ∧ x.cell? ⟨B, 8, none⟩ = some (.int .i64 256) ∧ x.cell? ⟨B, 9, none⟩ = some (.int .i64 (n : Int)) ∧ BV B A n s x := by
  refine ⟨?_, ?_, ?_, ?_, ?_, ?_, ?_, ?_, ?_, ?_, h⟩ <;> (rw [(cell_blk h.2.2 _).1]; rfl)
abbrev bdyP (B : Nat) : Value := .pointer (some ⟨B, 0, none⟩)
theorem on_cap8 {A : Nat} {s : ASt} {w : World} (h : On A s w) : Calls Tryz.prog 35 #[.pointer (some ⟨A, 0, none⟩)] w fun e w' => e = .returned (.int .i64 (s.L : Int)) ∧ w = w' := by
  obtain ⟨P, ps, p, n, cap, h⟩ := h; exact cap_any h
section
variable {B A n : Nat} {s : ASt} {w : World}
set_option maxHeartbeats 1000000 in
theorem bbase (h : BV B A n s w) (hn : n ≤ 80) : Calls Tryz.prog 17 #[bdyP B] w (Gives (.int .i64 1) w) := by
  have H := Lib.hid h
  have hw : IntKind.i64.wrap (((n + 1 : Nat) : Int) - (n : Int)) = 1 := by rw [IntKind.wrap_i64]; omega
  have hL := h.2.1
  have HC := Lib.hid fun X (hX : BV B A n s X) => on_cap8 hX.1
  rw [hL] at HC
  have HT := Lib.hid fun X => tlen_any (some ⟨A, 0, none⟩) 256 n X
  clear h hL
  go_enter Tryz.func17, Tryz.ntmps17
  go_wp2_with fail
  go_region_held3 (fun x => x.cell? ⟨B, 0, none⟩ = some (.pointer (some ⟨A, 0, none⟩)) ∧ x.cell? ⟨B, 7, none⟩ = some (.pointer (some ⟨A, 0, none⟩)) ∧ x.cell? ⟨B, 8, none⟩ = some (.int .i64 256) ∧ x.cell? ⟨B, 9, none⟩ = some (.int .i64 (n : Int)) ∧ BV B A n s x)
    (first | (have q := (H.out.below (Below.refl _ _).drew).all; exact ⟨q.1, q.2.2.2.2.2.2.2.1, q.2.2.2.2.2.2.2.2.1, q.2.2.2.2.2.2.2.2.2.1, q.2.2.2.2.2.2.2.2.2.2⟩) | assumption)
    (first | (go_at_call 35; refine (HC.out _ (H.out.below (Below.refl _ _).drew)).mono ?_; rintro e w' ⟨rfl, rfl⟩)
           | (go_at_call 61; refine (HT.out _).mono ?_; rintro e w' ⟨rfl, hb⟩; have hq := (((H.out.below (Below.refl _ _).drew).below hb)).all; have hbb := (Below.refl _ _).drew.trans hb; have k := And.intro hq.1 (And.intro hq.2.2.2.2.2.2.2.1 (And.intro hq.2.2.2.2.2.2.2.2.1 (And.intro hq.2.2.2.2.2.2.2.2.2.1 hq.2.2.2.2.2.2.2.2.2.2)))))
  have HB := Lib.hid hbb
  clear hbb hb k hq
  go_wp2_with fail
  go_ret
  exact ⟨by rw [show IntKind.i64.wrap ((n : Int) + 1 - (n : Int)) = 1 from by rw [IntKind.wrap_i64]; omega]; rfl, HB.out⟩
/-- the address of a page that it gives out -/
def adr (p : Nat) : Nat := (1 + p) * 4096
set_option maxHeartbeats 1000000 in
theorem baddr (h : BV B A n s w) (hn : n ≤ 80) (p : Nat) (hp : p ≤ 2000) : Calls Tryz.prog 82 #[bdyP B, .int .i64 (p : Int)] w (Gives (.int .i64 (adr p : Int)) w) := by
  have HB := Lib.hid fun X (hX : BV B A n s X) => bbase hX hn
  have H := Lib.hid h
  have h1 : IntKind.i64.wrap (1 + (p : Int)) = 1 + p := by rw [IntKind.wrap_i64]; omega
  have h2 : IntKind.i64.wrap ((1 + (p : Int)) * 4096) = ((1 + p) * 4096 : Nat) := by rw [IntKind.wrap_i64]; omega
  have e : Hid (((adr p : Nat) : Int) = (1 + (p : Int)) * 4096) := Lib.hid (by unfold adr; omega)
  clear h
  go_enter Tryz.func82, Tryz.ntmps82
  go_wp2_with fail
  refine (HB.out _ H.out).mono ?_
  rintro e w' ⟨rfl, hb⟩
  have HW := Lib.hid hb
  clear hb
  go_wp2_with fail
  go_ret
  exact ⟨by rw [e.out]; rfl, HW.out⟩
theorem tdiv_b (a k : Int) (hk : 1 ≤ k) (h0 : -9223372036854775808 ≤ a) (h1 : a ≤ 9223372036854775807) : -9223372036854775808 ≤ a.tdiv k ∧ a.tdiv k ≤ 9223372036854775807 := by
  have := Int.tdiv_mul_le a (show k ≠ 0 by omega)
  rcases Int.le_total 0 a with c | c
  · have h2 := Int.tdiv_le_self k c
    have h3 := Int.tdiv_nonneg c (show 0 ≤ k by omega)
    omega
  · have e : a.tdiv k = -((-a).tdiv k) := by rw [Int.neg_tdiv, Int.neg_neg]
    have h2 := Int.tdiv_le_self (a := -a) k (by omega)
    have h3 := Int.tdiv_nonneg (a := -a) (b := k) (by omega) (by omega)
    omega
set_option maxHeartbeats 1000000 in
theorem bpage (h : BV B A n s w) (hn : n ≤ 80) (a q : Int) (hq : a.tdiv 4096 = q) (h0 : -9223372036854775807 ≤ q) (h1 : q ≤ 9223372036854775807) : Calls Tryz.prog 77 #[bdyP B, .int .i64 a] w (Gives (.int .i64 (q - 1)) w) := by
  have HB := Lib.hid fun X (hX : BV B A n s X) => bbase hX hn
  have H := Lib.hid h
  have hw0 : IntKind.i64.wrap q = q := by rw [IntKind.wrap_i64]; omega
  have hw : IntKind.i64.wrap (q - 1) = q - 1 := by rw [IntKind.wrap_i64]; omega
  clear h
  go_enter Tryz.func77, Tryz.ntmps77
  go_wp2_with fail
  refine (HB.out _ H.out).mono ?_
  rintro e w' ⟨rfl, hb⟩
  have HW := Lib.hid hb
  clear hb
  go_wp2_with fail
  go_ret
  exact ⟨by trivial, HW.out⟩
set_option maxHeartbeats 1000000 in
theorem bgrown (h : BV B A n s w) (G : Nat) (hG : G ≤ 80) (ht : thereE s.L s.es 8 8 = 0) (hm : numV s.mm 8 8 = G) : Calls Tryz.prog 16 #[bdyP B] w (Gives (.int .i64 (G : Int)) w) := by
  have HL := Lib.hid fun X (hX : BV B A n s X) => on_load hX.1 0 256 (by omega) (by omega) 8 8 (by omega)
  have ha : addrV 0 256 8 8 = 8 := by decide
  have he : numE s.L s.es 8 8 = 0 := by unfold numE; rw [show wholeB 8 = true from rfl, if_pos rfl]; exact ht
  have hv : ldV s 8 8 = (G : Int) := by unfold ldV; rw [if_pos he]; exact congrArg Int.ofNat hm
  rw [ha, he, hv] at HL
  have H := Lib.hid h
  obtain ⟨c0, c1, c2, c3, _⟩ := h.all
  have hw : IntKind.i64.wrap (G : Int) = G := by rw [IntKind.wrap_i64]; omega
  clear h ht hm ha he hv
  go_enter Tryz.func16, Tryz.ntmps16
  go_wp2_with fail
  refine (HL.out _ H.out).mono ?_
  rintro e w' ⟨rfl, hb⟩
  have HW := Lib.hid hb
  clear hb
  go_wp2_with fail
  go_ret
  exact ⟨by trivial, HW.out⟩
set_option maxHeartbeats 1000000 in
theorem bsetgrown (h : BV B A n s w) (G : Nat) (hG : G ≤ 80) (ht : thereE s.L s.es 8 8 = 0) : Calls Tryz.prog 101 #[bdyP B, .int .i64 (G : Int)] w (Ret A { s with mm := put8 s.mm 8 G } (.tuple #[]) w) := by
  have HL := Lib.hid fun X (hX : BV B A n s X) => on_store hX.1 0 256 (by omega) (by omega) 8 8 (G : Int) (by omega) (by omega)
  have ha : addrV 0 256 8 8 = 8 := by decide
  have he : numE s.L s.es 8 8 = 0 := by unfold numE; rw [show wholeB 8 = true from rfl, if_pos rfl]; exact ht
  have hv : storeS s 8 8 (G : Int) = { s with mm := put8 s.mm 8 G } := by unfold storeS put8; rw [if_pos he]; rfl
  rw [ha, he, hv] at HL
  have H := Lib.hid h
  obtain ⟨c0, c1, c2, c3, _⟩ := h.all
  have hw : IntKind.u64.wrap (G : Int) = G := by rw [IntKind.wrap_u64]; omega
  clear h ht ha he hv
  go_enter Tryz.func101, Tryz.ntmps101
  go_wp2_with fail
  refine (HL.out _ H.out).mono ?_
  rintro e w' ⟨rfl, hx, hg⟩
  have HW := Lib.hid (And.intro hx hg)
  clear hx hg
  go_wp2_with fail
  exact bodyPost_ret (v := .tuple #[]) (by simp [results, Tryz.results101, go_sem]) rfl ⟨rfl, HW.out.1, HW.out.2⟩
end
theorem bisorder (k : Int) (w : World) : Calls Tryz.prog 74 #[.int .i64 k] w fun e w' => e = .returned (.bool (decide (0 ≤ k ∧ k ≤ 10))) ∧ w = w' := by
  by_cases h0 : 0 ≤ k
  · by_cases h1 : k ≤ 10
    · have d1 : ¬ 10 < k := by omega
      go_enter Tryz.func74, Tryz.ntmps74
      go_wp2_with fail
      go_ret
      exact ⟨by simp [h0, h1], rfl⟩
    · have d1 : 10 < k := by omega
      go_enter Tryz.func74, Tryz.ntmps74
      go_wp2_with fail
      go_ret
      exact ⟨by simp [h0, h1], rfl⟩
  · have d0 : k < 0 := by omega
    go_enter Tryz.func74, Tryz.ntmps74
    go_wp2_with fail
    go_ret
    exact ⟨by rw [decide_eq_false (show ¬ 0 ≤ k by omega)]; rfl, rfl⟩
end Go.Proofs.YtgpgclhghljidaaGreat.Bt
/- The contracts of a list's small functions: Open, Len, follow, lead. -/
namespace Go.Proofs.YtgpgclhghljidaaGreat.Bt
open Go Go.RowKit Go.Shelf
set_option linter.unusedVariables false

abbrev lsP (pa : Option Addr) (va vs : Nat) : Value := .agg #[.pointer pa, .int .i64 (va : Int), .int .i64 (vs : Int)]
theorem lopenL (pa : Option Addr) (va vs : Nat) (w : World) : Calls Tryz.prog 94 #[.agg #[.pointer pa, .int .i64 (va : Int), .int .i64 (vs : Int)]] w (Gives (lsP pa va vs) w) := by
  go_enter Tryz.func94, Tryz.ntmps94
  go_wp2_with fail
  exact bodyPost_ret (v := lsP pa va vs) (by simp [results, Tryz.results94, go_sem]) rfl ⟨rfl, below2 _ _ _⟩
theorem llen_any (pa : Option Addr) (va vs : Nat) (h2 : vs ≤ 4294967296) (w : World) : Calls Tryz.prog 138 #[lsP pa va vs] w (Gives (.int .i64 ((vs / 8 : Nat) : Int)) w) := by
  have q1 : IntKind.i64.wrap ((vs : Int).tdiv 8) = ((vs / 8 : Nat) : Int) := by rw [Int.tdiv_eq_ediv_of_nonneg (by omega), IntWalk.i64_in _ (by omega)]; omega
  have HQ := Lib.hid q1
  clear q1
  go_enter Tryz.func138, Tryz.ntmps138
  go_wp2_with fail
  refine (vsize_any pa va vs _).mono ?_
  rintro e w1 ⟨rfl, hb⟩
  have q1 := HQ.out
  go_wp2_with fail
  go_ret
  exact ⟨by first | rfl | (rw [← HQ.out]; rfl), ((Below.refl w.heap.size w).alloc (Nat.le_refl _) _).trans (hb.mono (by simp))⟩
theorem num8 (L : Nat) (es : List Nat) (a : Int) : numE L es a 8 = thereE L es a 8 := rfl
theorem addr_head {a z : Nat} (h8 : 8 ≤ z) : addrV a z 0 8 = (a : Int) := by unfold addrV; rw [if_pos (by omega)]; omega
section
variable {A : Nat} {s : ASt} {w : World}
theorem ld8 {a : Nat} (hn : thereE s.L s.es a 8 = 0) : ldV s a 8 = (numV s.mm a 8 : Int) := by
  unfold ldV; rw [num8, if_pos hn]; rfl
set_option maxHeartbeats 1000000 in
theorem lfollow (h : On A s w) (a z m : Nat) (h1 : a ≤ 4294967296) (h2 : z ≤ 4294967296) (h8 : 8 ≤ z) (hm : m ≤ 4294967296) (hn : thereE s.L s.es a 8 = 0) (hv : numV s.mm a 8 = m) (b : Int) :
    Calls Tryz.prog 114 #[vwV A a z, .int .i64 b] w (Gives (.int .i64 (if (m : Int) ≤ b then 0 else (m : Int))) w) := by
  have HL := Lib.hid (on_load (h.below (bel1 w (.cells #[.pointer (some ⟨A, 0, none⟩), .int .i64 (a : Int), .int .i64 (z : Int)] 40))) a z h1 h2 0 8 (by omega))
  have HV : Hid (ldV s (addrV a z 0 8) 8 = (m : Int)) := Lib.hid (by rw [addr_head h8, ld8 hn, hv])
  have q1 : IntKind.i64.wrap (m : Int) = (m : Int) := IntWalk.i64_in _ (by omega)
  clear hn hv h
  have HB := Lib.hid (bel1 w (.cells #[.pointer (some ⟨A, 0, none⟩), .int .i64 (a : Int), .int .i64 (z : Int)] 40))
  by_cases hb : (m : Int) ≤ b
  · rw [if_pos hb]
    go_enter Tryz.func114, Tryz.ntmps114
    go_wp2_with fail
    refine HL.out.mono ?_
    rintro e w1 ⟨rfl, hbb⟩
    rw [HV.out]
    have HF := Lib.hid (HB.out.trans (hbb.mono HB.out.size))
    clear hbb
    go_wp2_with fail
    go_ret
    exact ⟨rfl, HF.out⟩
  · rw [if_neg hb]
    go_enter Tryz.func114, Tryz.ntmps114
    go_wp2_with fail
    refine HL.out.mono ?_
    rintro e w1 ⟨rfl, hbb⟩
    rw [HV.out]
    have HF := Lib.hid (HB.out.trans (hbb.mono HB.out.size))
    clear hbb
    go_wp2_with fail
    go_ret
    exact ⟨by first | rfl | simp [q1], HF.out⟩
theorem llead (h : On A s w) (a z v : Nat) (h1 : a ≤ 4294967296) (h2 : z ≤ 4294967296) (h8 : 8 ≤ z) (hv : v ≤ 4294967296) (hn : thereE s.L s.es a 8 = 0) :
    Calls Tryz.prog 113 #[vwV A a z, .int .i64 (v : Int)] w (Ret A { s with mm := put8 s.mm a v } (.int .i64 0) w) := by
  have HB := Lib.hid (bel1 w (.cells #[.pointer (some ⟨A, 0, none⟩), .int .i64 (a : Int), .int .i64 (z : Int)] 40))
  have HO := Lib.hid h
  have HS := Lib.hid (on_store (h.below HB.out) a z h1 h2 0 8 (v : Int) (by omega) (by omega))
  have HN : Hid (numE s.L s.es (addrV a z 0 8) 8 = 0) := Lib.hid (by rw [addr_head h8, num8]; exact hn)
  have HM : Hid (storeS s (addrV a z 0 8) 8 v = { s with mm := put8 s.mm a v }) := Lib.hid (by
    unfold storeS; rw [HN.out, if_pos rfl, addr_head h8]; rfl)
  have q1 : IntKind.u64.wrap (v : Int) = (v : Int) := by rw [IntKind.wrap_u64]; omega
  clear hn h
  go_enter Tryz.func113, Tryz.ntmps113
  go_wp2_with fail
  refine HS.out.mono ?_
  rintro e w1 ⟨rfl, hx, hg⟩
  rw [HN.out]; rw [HM.out] at hx
  have HF := Lib.hid (And.intro hx ((Went.of_below HO.out HB.out).trans hg))
  clear hx hg
  go_wp2_with fail
  go_ret
  exact ⟨rfl, HF.out.1, HF.out.2⟩
end
end Go.Proofs.YtgpgclhghljidaaGreat.Bt
/- A range over a function whose iterator keeps a variable of its own in a block of cells, of a type of which the loop's own variables are not: a law of my own beside the library's. -/
namespace Go.Proofs.YtgpgclhghljidaaGreat.Bt
open Go Go.RowKit

/-- an object of cells of type T -/
def OfT (T : TypeId) (o : Obj) : Prop := ∃ c fr, o = .cells c T fr
/-- the loop's invariant: it abides whatever turns objects that are no cells, and those of type T, that came since -/
def OwnT {β : Type} (T : TypeId) (B : Nat) (I : β → World → Prop) : Prop :=
  ∀ s W W' row, I s W → W.grownBy W' row → (∀ r, row = some r → B ≤ r ∧ ∃ o : Obj, W.heap[r]? = some o ∧ (o.isCells = false ∨ OfT T o)) → I s W'
/-- the same of what an iterator turns -/
def WalkT {β : Type} (T : TypeId) (B : Nat) (J : β → World → Prop) : Prop :=
  ∀ s W W' row, J s W → W.grownBy W' row → (∀ r, row = some r → B ≤ r ∧ ∃ o : Obj, W.heap[r]? = some o ∧ (o.isWalk = true ∨ OfT T o)) → J s W'
def SeqT {α : Type} (T : TypeId) (F : Fence) (n : Nat) (P : Program) (g : Nat) (lb : Array Value) (encs : α → Array Value) (Kp : World → World → Prop) (S Sp : List α → Prop) (N : Nat) (w : World) : Prop :=
  ∀ (l : Nat) (J Jx : List α → World → Prop) (W : World), Below w.heap.size w W → WalkT T W.heap.size J → WalkT T W.heap.size Jx →
    (∀ pre x W1, J pre W1 → pre.length < N → YieldAt F (n - 1) P l (encs x) W1 fun e W' =>
      (e = .returned (.bool true) ∧ J (pre ++ [x]) W' ∧ Kp W1 W') ∨ (e = .returned (.bool false) ∧ Jx (pre ++ [x]) W')) →
    J [] W →
    CallsIn F n P g (#[.func (.yield l) #[] #[]] ++ lb) W fun e W' => (∃ v, e = .returned v) ∧ ((∃ xs, S xs ∧ J xs W') ∨ (∃ pre, Sp pre ∧ Jx pre W'))

theorem OwnT.one {β : Type} {T : TypeId} {B : Nat} {I : β → World → Prop} (h : OwnT T B I) {s : β} {W : World} (o : Obj) (hs : I s W) : I s (W.alloc o) :=
  h s W _ none hs (World.grownBy_alloc W o none) (fun r e => by cases e)
theorem OwnT.turn {β : Type} {T : TypeId} {B : Nat} {I : β → World → Prop} (h : OwnT T B I) {s : β} {W : World} {l : Nat} {o : Obj} (o' : Obj) (hs : I s W) (hB : B ≤ l) (hl : W.heap[l]? = some o) (ho : o.isCells = false) : I s (W.putObj l o') :=
  h s W _ (some l) hs (grownBy_putObj' W l o') (fun r e => by cases e; exact ⟨hB, o, hl, .inl ho⟩)
theorem OwnT.and {β : Type} {T : TypeId} {B : Nat} {I I' : β → World → Prop} (h : OwnT T B I) (h' : OwnT T B I') : OwnT T B (fun s W => I s W ∧ I' s W) :=
  fun s W W' row hs hg hr => ⟨h s W W' row hs.1 hg hr, h' s W W' row hs.2 hg hr⟩
/-- a block that is no walk's, and not of type T, lies as it lay -/
theorem stays {T : TypeId} {B : Nat} {W W' : World} {row : Option Nat} (hg : W.grownBy W' row) (hr : ∀ r, row = some r → B ≤ r ∧ ∃ o : Obj, W.heap[r]? = some o ∧ (o.isWalk = true ∨ OfT T o))
    {k : Nat} {o : Obj} (hk : W.heap[k]? = some o) (hw : o.isWalk = false) (ht : ¬ OfT T o) : W'.heap[k]? = some o := by
  refine (hg.block k (Array.getElem?_eq_some_iff.1 hk).1 fun e => ?_).trans hk
  obtain ⟨_, o', ho', h⟩ := hr k e.symm
  rw [hk] at ho'; cases ho'
  rcases h with h | h
  · rw [hw] at h; cases h
  · exact ht h
/-- a block of cells of another type lies as it lay -/
theorem stays_cells {T U : TypeId} {B : Nat} {W W' : World} {row : Option Nat} (hg : W.grownBy W' row) (hr : ∀ r, row = some r → B ≤ r ∧ ∃ o : Obj, W.heap[r]? = some o ∧ (o.isCells = false ∨ OfT T o))
    {k : Nat} {c : Array Value} {fr : Nat × Nat} (hk : W.heap[k]? = some (.cells c U fr)) (hU : U ≠ T) : W'.heap[k]? = some (.cells c U fr) := by
  refine (hg.block k (Array.getElem?_eq_some_iff.1 hk).1 fun e => ?_).trans hk
  obtain ⟨_, o', ho', h⟩ := hr k e.symm
  rw [hk] at ho'; cases ho'
  rcases h with h | ⟨c', fr', h⟩
  · cases h
  · cases h; exact hU rfl

theorem range_T {α : Type} {T : TypeId} {F : Fence} {n : Nat} {P : Program} {g : Operand} {ps : Array Tmp} {assign body : Code} {Q : Exit → Act → World → Prop} {a : Act} {w : World}
    (hro : F.round = none) (h1 : 1 ≤ n) {gf : Nat} {lb : Array Value} (hg : a.eval g = .func (.func gf) #[] lb) (hFg : F.fn gf) (eg : ∀ args w, (callFunc gf args).run P w = .ok (.enter gf args) w)
    {encs : α → Array Value} {Kp : World → World → Prop} {S Sp : List α → Prop} {N : Nat} (hseq : SeqT T F (n - 1) P gf lb encs Kp S Sp N w)
    (hKt : ∀ {A B C : World}, Kp A B → Kp B C → Kp A C) (hKb : ∀ (W : World) (l : Nat) (o o' : Obj), w.heap.size ≤ l → W.heap[l]? = some o → o.isCells = false → o.isWalk = false → Kp W (W.putObj l o')) (hps : ∀ x, (encs x).size = ps.size)
    (I : List α → World → Prop) (Ix : Code → List α → World → Prop) (hI : OwnT T w.heap.size I) (hIx : ∀ c, OwnT T w.heap.size (Ix c)) (h0 : I [] w)
    (Ax : α → Act → World → Prop) (hAx : ∀ x a', OwnFrom w.heap.size (fun (_ : Unit) W => Ax x a' W))
    (hassign : ∀ (l : Nat) (pre : List α) (x : α) (W : World) (K : Act → World → Prop), I pre W → (∀ a' W', KeepsFrom w.heap.size W W' → Kp W W' → I pre W' → Ax x a' W' → K a' W') →
      assign.wpIn (F.inRound l) (n - 1 - 1) P (Exit.then K (fun _ _ _ => False)) { tmps := (ps.zip (encs x)).foldl (fun t (p, v) => t.setIfInBounds p v) a.tmps, defers := [] } W)
    (hbody : ∀ (l : Nat) (pre : List α) (x : α) (a' : Act) (W : World), I pre W → Ax x a' W → pre.length < N → body.wpIn (F.inRound l) (n - 1 - 1) P (ownPostG w.heap.size Kp I Ix (pre ++ [x]) W) a' W)
    (hdone : ∀ (D : Nat) (xs : List α) (W : World), w.heap.size ≤ D → S xs → I xs W → W.heap[D]? = some (.deferred (some [])) → Q .normal { a with defers := { target := .collected D, args := #[] } :: a.defers } W)
    (hstop : ∀ (D : Nat) (c : Code) (pre : List α) (W : World), w.heap.size ≤ D → Sp pre → Ix c pre W → W.heap[D]? = some (.deferred (some [])) → c.wpIn F n P Q { a with defers := { target := .collected D, args := #[] } :: a.defers } W) :
    (Code.rangeFunc g ps assign body).wpIn F n P Q a w := by
  refine wpIn_rangeFunc fun fn hfn => ?_
  rw [hro]
  -- the two blocks that the loop lays for itself: the deferred calls in block D, its record in the next one
  obtain ⟨D, hD⟩ : ∃ D, w.heap.size = D := ⟨_, rfl⟩
  obtain ⟨mk, hmk⟩ : ∃ mk : LoopState → Option Code → Loop, mk = fun st pe => { state := st, pending := pe, fn := fn, tmps := a.tmps, params := ps, assign := assign, body := body, defers := D } := ⟨_, rfl⟩
  have mks : ∀ st pe, (mk st pe).state = st ∧ (mk st pe).pending = pe ∧ (∀ st' , { mk st pe with state := st' } = mk st' pe) ∧ (∀ st' pe', { mk st pe with state := st', pending := pe' } = mk st' pe') := fun st pe => by rw [hmk]; exact ⟨rfl, rfl, fun _ => rfl, fun _ _ => rfl⟩
  obtain ⟨Bk, hBk⟩ : ∃ Bk : LoopState → Option Code → World → Prop, Bk = fun st pe W => W.heap[D + 1]? = some (.loop (mk st pe)) ∧ W.heap[D]? = some (.deferred (some [])) := ⟨_, rfl⟩
  have put : ∀ {st pe} st' pe' {W : World}, Bk st pe W → Bk st' pe' (W.putObj (D + 1) (.loop (mk st' pe'))) := fun {st pe} st' pe' {W} h => by
    rw [hBk] at h ⊢
    exact ⟨World.putObj_heap_same (Array.getElem?_eq_some_iff.1 h.1).1, (World.putObj_heap_other (by omega)).trans h.2⟩
  have kept : ∀ {st pe} {W W' : World}, KeepsFrom D W W' → Bk st pe W → Bk st pe W' := fun hk h => by
    rw [hBk] at h ⊢
    exact ⟨hk.same _ _ (by omega) h.1 rfl, hk.same _ _ (Nat.le_refl _) h.2 rfl⟩
  have walked : ∀ {st pe} {W W' : World} {row : Option Nat} {B : Nat}, W.grownBy W' row → (∀ r, row = some r → B ≤ r ∧ ∃ o : Obj, W.heap[r]? = some o ∧ (o.isWalk = true ∨ OfT T o)) → Bk st pe W → Bk st pe W' := fun hg' hr h => by
    rw [hBk] at h ⊢
    exact ⟨stays hg' hr h.1 rfl (fun ⟨_, _, e⟩ => by cases e), stays hg' hr h.2 rfl (fun ⟨_, _, e⟩ => by cases e)⟩
  have turnI : ∀ {st pe s} st' pe' {W : World}, Bk st pe W → I s W → I s (W.putObj (D + 1) (.loop (mk st' pe'))) := fun {st pe s} st' pe' {W} h hs => by
    rw [hBk] at h; exact hI.turn _ hs (by omega) h.1 rfl
  have turnX : ∀ {st pe s c} st' pe' {W : World}, Bk st pe W → Ix c s W → Ix c s (W.putObj (D + 1) (.loop (mk st' pe'))) := fun {st pe s c} st' pe' {W} h hs => by
    rw [hBk] at h; exact (hIx _).turn _ hs (by omega) h.1 rfl
  have turnK : ∀ {st pe} st' pe' {W : World}, Bk st pe W → Kp W (W.putObj (D + 1) (.loop (mk st' pe'))) := fun {st pe} st' pe' {W} h => by
    rw [hBk] at h; exact hKb _ _ _ _ (by omega) h.1 rfl rfl
  obtain ⟨W1, hW1⟩ : ∃ W1, (w.alloc (.deferred (some []))).alloc (.loop (mk .ready none)) = W1 := ⟨_, rfl⟩
  have hB1 : Bk .ready none W1 := by
    rw [hBk, ← hW1, ← hD]
    refine ⟨?_, (Below.heap_alloc _ _ _ (by simp)).trans (World.alloc_heap_new w _)⟩
    have := World.alloc_heap_new (w.alloc (.deferred (some []))) (.loop (mk .ready none)); rwa [World.size_alloc] at this
  have hI1 : I [] W1 := by rw [← hW1]; exact hI.one _ (hI.one _ h0)
  have hs1 : D ≤ W1.heap.size := by rw [← hW1, ← hD]; simp; omega
  have hb1 : Below w.heap.size w W1 := by rw [← hW1]; exact ((Below.refl _ w).alloc (Nat.le_refl _) _).alloc (by simp) _
  refine ⟨D + 1, [{ target := .collected D, args := #[] }], W1, { target := .fn (.func gf) lb, args := #[.func (.yield (D + 1)) #[] #[]] }, W1, gf, #[.func (.yield (D + 1)) #[] #[]] ++ lb, W1, ?_, ?_, ?_, ?_, fun _ => h1, ?_⟩
  · rw [← hW1, hmk, ← hD]; exact run_enterLoop_outer _ _ _ _ _
  · simp only [resolve, hg]; simp [go_sem]
  · intro f' hf'; simp [Target.leads] at hf'; subst hf'; exact hFg
  · simp [invoke, go_sem, eg]
  have up : ∀ {A : World} {row : Option Nat}, (∀ r, row = some r → W1.heap.size ≤ r ∧ ∃ o : Obj, A.heap[r]? = some o ∧ (o.isWalk = true ∨ OfT T o)) → (∀ r, row = some r → w.heap.size ≤ r ∧ ∃ o : Obj, A.heap[r]? = some o ∧ (o.isCells = false ∨ OfT T o)) :=
    fun hr r e => by obtain ⟨hB, o, ho, h⟩ := hr r e; exact ⟨by omega, o, ho, h.imp Obj.not_cells_of_walk id⟩
  refine (hseq (D + 1) (fun pre W => I pre W ∧ Bk .ready none W) (fun pre W => ∃ c, Ix c pre W ∧ Bk .done (some c) W) W1 hb1
    (fun s A B row hs hg' hr => ⟨hI s A B row hs.1 hg' (up hr), walked hg' hr hs.2⟩)
    (fun s A B row hs hg' hr => by obtain ⟨c, hc, hk⟩ := hs; exact ⟨c, hIx c s A B row hc hg' (up hr), walked hg' hr hk⟩)
    ?_ ⟨hI1, hB1⟩).mono ?_
  · -- a round
    rintro pre x W ⟨hi, hk⟩ hlen
    have hl : W.heap[D + 1]? = some (.loop (mk .ready none)) := by rw [hBk] at hk; exact hk.1
    have hy := run_yield (P := P) (args := encs x) hl (by rw [hmk]; exact hps x)
    rw [hmk] at hy
    refine ⟨fn, _, assign, body, hy, roundIn_of_wpIn hfn (hassign _ pre x W _ hi ?_)⟩
    clear hy hl
    intro a' Wa hkf hkp hia hax
    have hka := kept (by rw [← hD]; exact hkf) hk
    have hl : Wa.heap[D + 1]? = some (.loop (mk .ready none)) := by rw [hBk] at hka; exact hka.1
    have hbeg := run_beginRound (P := P) hl (mks _ _).1
    rw [(mks _ _).2.2.1] at hbeg
    refine ⟨_, hbeg, ?_⟩
    have hkb := put .busy none hka
    have hkk := turnK .busy none hka
    refine wpIn_mono (hbody _ pre x a' _ (turnI .busy none hka hia) ((hAx x a') () _ _ (some (D + 1)) hax (grownBy_putObj' _ _ _) (fun r e => by cases e; exact ⟨by omega, _, hl, rfl⟩)) hlen) ?_
    have fin : ∀ (jump : Option Code) (W3 : World), KeepsFrom D (Wa.putObj (D + 1) (.loop (mk .busy none))) W3 →
        (Instr.endRound (D + 1) jump).run P W3 = .ok (.bool jump.isNone) (W3.putObj (D + 1) (.loop (mk (if jump.isNone then .ready else .done) jump))) ∧ Bk .busy none W3 := fun jump W3 hk3 => by
      have h3 := kept hk3 hkb
      have hl3 : W3.heap[D + 1]? = some (.loop (mk .busy none)) := by rw [hBk] at h3; exact h3.1
      have := run_endRound (P := P) jump hl3
      rw [(mks _ _).2.2.2] at this
      exact ⟨this, h3⟩
    rintro e a3 W3 hp
    cases e with
    | normal =>
      obtain ⟨hk3, hkp3, hi3⟩ := hp
      obtain ⟨hr, h3⟩ := fin none W3 (by rw [← hD]; rw [← hD] at hk3; exact hk3)
      exact ⟨_, _, hr, .inl ⟨rfl, ⟨turnI _ _ h3 hi3, put _ _ h3⟩, hKt hkp (hKt (hKt hkk hkp3) (turnK _ _ h3))⟩⟩
    | ret =>
      obtain ⟨hk3, hi3⟩ := hp
      obtain ⟨hr, h3⟩ := fin (some .ret) W3 (by rw [← hD]; rw [← hD] at hk3; exact hk3)
      exact ⟨_, _, hr, .inr ⟨rfl, .ret, turnX _ _ h3 hi3, put _ _ h3⟩⟩
    | exit id =>
      obtain ⟨hk3, hi3⟩ := hp
      obtain ⟨hr, h3⟩ := fin (some (.exit id)) W3 (by rw [← hD]; rw [← hD] at hk3; exact hk3)
      exact ⟨_, _, hr, .inr ⟨rfl, .exit id, turnX _ _ h3 hi3, put _ _ h3⟩⟩
    | goto t =>
      obtain ⟨hk3, hi3⟩ := hp
      obtain ⟨hr, h3⟩ := fin (some (.goto t)) W3 (by rw [← hD]; rw [← hD] at hk3; exact hk3)
      exact ⟨_, _, hr, .inr ⟨rfl, .goto t, turnX _ _ h3 hi3, put _ _ h3⟩⟩
    | panic ch => exact hp.elim
    | outgrown => exact hp.elim
  · -- behind the iterator
    have shut : ∀ {st pe} {W : World}, st ≠ .busy → Bk st pe W → (Instr.endLoop (D + 1)).run P W = .ok pe (W.putObj (D + 1) (.loop (mk .exhausted pe))) := fun {st pe W} hst h => by
      have hl : W.heap[D + 1]? = some (.loop (mk st pe)) := by rw [hBk] at h; exact h.1
      have := run_endLoop (P := P) hl (by rw [(mks st pe).1]; exact hst)
      rw [(mks st pe).2.2.1, (mks st pe).2.1] at this
      exact this
    have dfr : ∀ {st pe} {W : World}, Bk st pe W → W.heap[D]? = some (.deferred (some [])) := fun h => by rw [hBk] at h; exact h.2
    rintro e W2 ⟨⟨v, rfl⟩, (⟨xs, hS, hi, hk⟩ | ⟨pre, hSp, c, hi, hk⟩)⟩
    · exact ⟨none, _, shut (by intro e; cases e) hk, hdone _ xs _ (by omega) hS (turnI _ _ hk hi) (dfr (put .exhausted none hk))⟩
    · exact ⟨some c, _, shut (by intro e; cases e) hk, hstop _ c pre _ (by omega) hSp (turnX _ _ hk hi) (dfr (put .exhausted (some c) hk))⟩
end Go.Proofs.YtgpgclhghljidaaGreat.Bt
/- The contract of a list's links: the function value that it answers, for every loop body that keeps the arena and the views. -/
namespace Go.Proofs.YtgpgclhghljidaaGreat.Bt
open Go Go.RowKit Go.Shelf
set_option linter.unusedVariables false
attribute [local go_sem] Oper.semAt_some

/-! a region that draws its order, inside the wide fence, with a condition that every operation keeps -/
section
variable {P : Program} {ops : Array Oper} {Q : Exit → Act → World → Prop} {S : World → Prop} {n : Nat} {md : Region.Mode}
theorem wide_of_upon {o : Oper} {a : Act} {K : Act → World → Prop} (r : Result Next) (h : o.upon P a K Q r) : o.uponIn Fence.wide n P a K Q r := by
  unfold Oper.upon at h
  unfold Oper.uponIn
  split at h
  · exact h
  · exact h
  · exact h
  · exact ⟨fun hd => by simp [Fence.wide] at hd, callsIn_wide.2 h⟩
  · exact ⟨fun hd => by simp [Fence.wide] at hd, fun c cs _ => by
      obtain ⟨v, w', r, s⟩ := h c cs
      exact ⟨v, w', r, stepsIn_wide.2 s⟩⟩
  · exact h
  · exact h.elim
theorem wide_of_wpOp {i : Nat} (hLO : ¬ LetsOut Q) {K : Act → World → Prop} {a : Act} {w : World} (h : wpOp P ops Q i K a w) : wpOpIn Fence.wide n P ops Q i K a w := by
  unfold wpOp at h
  unfold wpOpIn
  cases ho : ops[i]? with
  | none => rw [ho] at h; exact h
  | some o =>
    rw [ho] at h
    simp only at h ⊢
    by_cases hw : Region.wanted o (yielded ops a.tmps) = true
    · rw [if_pos hw] at h ⊢
      rcases h with h | ⟨_, h⟩
      · refine ⟨fun _ _ => trivial, ?_⟩
        rw [show Fence.wide.round = none from rfl, Oper.semAt_none]
        exact wide_of_upon _ h
      · exact absurd h hLO
    · rw [if_neg hw] at h ⊢
      exact ⟨fun _ _ => trivial, h⟩
theorem wide_of_any (hLO : ¬ LetsOut Q) : ∀ (fuel : Nat) (listed : Array Bool) (a : Act) (w : World), wpAny P md ops Q fuel listed a w → wpAnyIn Fence.wide n P md ops Q fuel listed a w
  | 0, _, _, _, h => h
  | fuel + 1, listed, a, w, h => ⟨h.1, fun i hi => wpOpIn_mono (fun a' w' h' => wide_of_any hLO fuel _ a' w' h') (wide_of_wpOp hLO (h.2 i hi))⟩
theorem wide_held {id : Nat} {a : Act} {w : World} {K : Act → World → Prop} {Q' : Exit → Act → World → Prop} (S : World → Prop) (hm : P.follows .mixedOrders = true)
    (h : wpAnyH P .any ops (Exit.then K fun _ _ _ => False) S ops.size (Array.replicate ops.size false) a w.drew) : (Code.region id ops true).wpIn Fence.wide n P (Exit.then K Q') a w :=
  wpIn_mono (wpIn_region_any hm (wide_of_any (fun ⟨_, _, h⟩ => h) _ _ _ _ (wpAny_of_held _ _ _ _ h))) fun e a' w' h' => by cases e <;> first | exact h' | exact h'.elim
end

/-! an arena, when blocks are turned that are none of its own -/
theorem grown_set (W : World) (b o : Nat) (v : Value) : W.grownBy (W.setCell ⟨b, o, none⟩ v) (some b) :=
  ⟨rfl, rfl, rfl, by simp [World.setCell], fun k _ hk => Below.heap_setCell _ ⟨b, o, none⟩ _ _ (fun e => hk (by rw [e]))⟩
theorem grown_below {W W' : World} (h : Below W.heap.size W W') : W.grownBy W' none := ⟨h.os, h.tape, h.output, h.size, fun k hk _ => h.block k hk⟩
theorem arx_turn {A P n cap l : Nat} {s : ASt} {ps : List (Option Nat)} {p : Option Addr} {x : World} {o : Obj} (h : ArX A s P ps p n cap x) (hl : x.heap[l]? = some o) (ho : o.isCells = false) (o' : Obj) : ArX A s P ps p n cap (x.putObj l o') := by
  have ne : ∀ {k : Nat} {c : Array Value} {T : TypeId} {fr : Nat × Nat}, x.heap[k]? = some (.cells c T fr) → (x.putObj l o').heap[k]? = some (.cells c T fr) := fun {k c T fr} hk =>
    (World.putObj_heap_other (fun e => by subst e; rw [hl] at hk; cases hk; cases ho)).trans hk
  exact { h with
    hd := ne h.hd
    row := ne h.row
    pg := fun i b hb => ne (h.pg i b hb)
    edges := by
      rcases h.edges with h1 | ⟨b, off, h1, h2, h3⟩
      · exact .inl h1
      · refine .inr ⟨b, off, h1, by simpa [World.putObj] using h2, fun k hk => ?_⟩
        have h4 := h3 k hk
        obtain ⟨o2, ho2, hc2⟩ := cells_of_cell h4
        rw [World.cell?_of_block (w := x) (a := ⟨b, off + k, none⟩) (World.putObj_heap_other (fun e => by
          rw [show b = l from e] at ho2; rw [hl] at ho2; cases ho2; rw [ho] at hc2; cases hc2))]
        exact h4 }
theorem On.turn {A l : Nat} {s : ASt} {x : World} {o : Obj} (h : On A s x) (hl : x.heap[l]? = some o) (ho : o.isCells = false) (o' : Obj) : On A s (x.putObj l o') := by
  obtain ⟨P, ps, p, n, cap, h⟩ := h; exact ⟨P, ps, p, n, cap, arx_turn h hl ho o'⟩
theorem Mine.turn {A l k : Nat} {s : ASt} {x : World} {o : Obj} (h : On A s x) (hl : x.heap[l]? = some o) (ho : o.isCells = false) (o' : Obj) (hm : Mine A k x) : Mine A k (x.putObj l o') := by
  obtain ⟨P, ps, p, n, cap, h⟩ := h
  have h2 := arx_turn h hl ho o'
  exact ⟨by have := hm.lt; simpa [World.putObj] using this, fun e => hm.own ((ownW_iff h k).2 ((ownW_iff h2 k).1 e)), fun e => hm.edg ((edgW_iff h k).2 ((edgW_iff h2 k).1 e))⟩
theorem Mine.belowW {A k : Nat} {s : ASt} {x y : World} (h : On A s x) (hb : Below x.heap.size x y) (hm : Mine A k x) : Mine A k y := hm.went (Went.of_below h hb)

/-- what a loop's body keeps: two blocks, the arena and what is none of its own, all views' variables -/
def KL (A : Nat) (s : ASt) (x y : Nat) (W W' : World) : Prop :=
  K2 x y W W' ∧ (On A s W → On A s W' ∧ ∀ k, Mine A k W → Mine A k W') ∧ ∀ (k : Nat) (c : Array Value), W.heap[k]? = some (Obj.cells c 40 (0, 0)) → W'.heap[k]? = some (Obj.cells c 40 (0, 0))
theorem KL.trans {A : Nat} {s : ASt} {x y : Nat} {B C D : World} (h : KL A s x y B C) (k : KL A s x y C D) : KL A s x y B D :=
  ⟨h.1.trans k.1, fun o => ⟨(k.2.1 (h.2.1 o).1).1, fun i hi => (k.2.1 (h.2.1 o).1).2 i ((h.2.1 o).2 i hi)⟩, fun i c e => k.2.2 i c (h.2.2 i c e)⟩
theorem KL.refl {A : Nat} {s : ASt} {x y : Nat} (W : World) : KL A s x y W W := ⟨K2.refl _, fun o => ⟨o, fun _ h => h⟩, fun _ _ e => e⟩
theorem KL.put {A : Nat} {s : ASt} {x y : Nat} {w : World} (hx : x < w.heap.size) (hy : y < w.heap.size) (W : World) (l : Nat) (o o' : Obj) (hl : w.heap.size ≤ l) (h : W.heap[l]? = some o) (hc : o.isCells = false) (hw : o.isWalk = false) : KL A s x y W (W.putObj l o') :=
  ⟨K2.put hx hy W l o o' hl h hc hw, fun ho => ⟨ho.turn h hc o', fun k hk => Mine.turn ho h hc o' hk⟩, fun k c e => (World.putObj_heap_other (fun e2 => by subst e2; rw [h] at e; cases e; cases hc)).trans e⟩
theorem KL.below {A : Nat} {s : ASt} {x y : Nat} {W W' : World} (hx : x < W.heap.size) (hy : y < W.heap.size) (hb : Below W.heap.size W W') : KL A s x y W W' :=
  ⟨⟨hb.block _ hx, hb.block _ hy⟩, fun o => ⟨o.below hb, fun k hk => hk.belowW o hb⟩, fun k c e => (hb.block k (Array.getElem?_eq_some_iff.1 e).1).trans e⟩
/-- a variable of one's own, of another type, is written -/
theorem KL.set {A : Nat} {s : ASt} {x y R : Nat} {W : World} {c0 : Array Value} {T : TypeId} (hR : W.heap[R]? = some (.cells c0 T (0, 0))) (hT : T ≠ 40) (hx : R ≠ x) (hy : R ≠ y) (hm : On A s W → Mine A R W) (o : Nat) (v : Value) : KL A s x y W (W.setCell ⟨R, o, none⟩ v) :=
  ⟨⟨set_other v (Ne.symm hx), set_other v (Ne.symm hy)⟩, fun ho => ⟨ho.set (hm ho) o v, fun k hk => Mine.set ho (hm ho) hk o v⟩, fun k c e => (set_other v (fun e2 => by subst e2; rw [hR] at e; cases e; exact hT rfl)).trans e⟩

abbrev Lk := Nat × Nat × Nat
def encLk (A : Nat) (x : Lk) : Array Value := #[vwV A x.1 x.2.1, .int .i64 (x.2.2 : Int)]
theorem prs_ne (a z : Nat) (l : List Nat) : 0 < (prs a z l).length := by cases l <;> simp [prs]

/-- between two rounds -/
def LkRel (A : Nat) (s : ASt) (V x y : Nat) (W0 : World) (all : List Lk) (J : List Lk → World → Prop) (e t : Value) (wr : World) : Prop :=
  ∃ (pre : List Lk) (a z b : Nat) (rest : List Nat), e = .int .i64 0 ∧ t = .int .i64 (b : Int) ∧ pre ++ prs a z rest = all ∧ Ch s.L s.es s.mm a b rest ∧ (8 ≤ z ∧ z ≤ 16 ∧ a ≤ 4294967296 ∧ b ≤ 4294967296) ∧
    J pre wr ∧ On A s wr ∧ Mine A V wr ∧ wr.heap[V]? = some (.cells #[.pointer (some ⟨A, 0, none⟩), .int .i64 (a : Int), .int .i64 (z : Int)] 40 (0, 0)) ∧ K2 x y W0 wr
end Go.Proofs.YtgpgclhghljidaaGreat.Bt
