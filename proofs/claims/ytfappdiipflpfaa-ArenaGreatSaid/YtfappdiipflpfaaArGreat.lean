/- The walk of ArenaGreat. -/
import Derived.Test.YtfappdiipflpfaaArAwake
import Derived.Deep.DeepCutAuto
namespace Go.Proofs.Ytfappdiipflpfaa.Bt
open Go Go.RowKit Go.Shelf
set_option linter.unusedVariables false

section
variable {A P n cap : Nat} {s : ASt} {ps : List (Option Nat)} {p : Option Addr} {w : World}
theorem committed_any (h : ArX A s P ps p n cap w) :
    Calls Try.prog 22 #[.pointer (some ⟨A, 0, none⟩)] w fun e w' => e = .returned (.int .i64 (countV s.L s.es 0 s.L)) ∧ Below w.heap.size w w' := by
  have HX := Lib.hid h
  have g := h.good
  have hs := g.small
  have HN := Lib.hid h.num
  clear h
  go_enter Try.func22, Try.ntmps22
  go_wp2_with fail
  refine (pages_any HX.out).mono ?_
  rintro e w1 ⟨rfl, hb1⟩
  go_wp2_with fail
  refine (cap_any (HX.out.below hb1)).mono ?_
  rintro e w2 ⟨rfl, rfl⟩
  go_wp2_with fail
  refine (count_any s.L p n cap s.es 0 s.L _ g HN.out (HX.out.below hb1).edges (by omega)).mono ?_
  rintro e w3 ⟨rfl, hb3⟩
  go_wp2_with fail
  go_ret
  exact ⟨rfl, hb1.trans (hb3.mono hb1.size)⟩
theorem ahas_any (h : ArX A s P ps p n cap w) (i : Int) :
    Calls Try.prog 33 #[.pointer (some ⟨A, 0, none⟩), .int .i64 i] w fun e w' => e = .returned (.bool (hasB s.L s.es i)) ∧ Below w.heap.size w w' := by
  have HX := Lib.hid h
  have g := h.good
  have HN := Lib.hid h.num
  clear h
  go_enter Try.func33, Try.ntmps33
  go_wp2_with fail
  refine (pages_any HX.out).mono ?_
  rintro e w1 ⟨rfl, hb1⟩
  go_wp2_with fail
  refine (has_any s.L p n cap s.es i _ g (HX.out.below hb1).edges HN.out).mono ?_
  rintro e w2 ⟨rfl, hb2⟩
  go_wp2_with fail
  go_ret
  exact ⟨rfl, hb1.trans (hb2.mono hb1.size)⟩
end

def NewAt (a0 : Int) (w : World) (s11 s12 : Value) (wx : World) : Prop :=
  ∃ A P, s11 = .pointer (some ⟨A, 0, none⟩) ∧ s12 = .int .i64 (lenN a0 : Int) ∧ w.heap.size ≤ A ∧ w.heap.size ≤ P ∧ ArX A (newS (lenN a0)) P (List.replicate (lenN a0) none) none 0 0 wx ∧ Below w.heap.size w wx
theorem lenN_lo {a : Int} (h : a < 0) : (0 : Int) = (lenN a : Int) := by unfold lenN; omega
theorem lenN_hi {a : Int} (h : 1048576 < a) : (1048576 : Int) = (lenN a : Int) := by unfold lenN; omega
theorem lenN_mid {a : Int} (h0 : 0 ≤ a) (h : a ≤ 1048576) : a = (lenN a : Int) := by unfold lenN; omega
/-- within the one page that is committed; none at all -/
def insF (e a1 a2 k : Int) : Bool := (e == 0) && decide (1 ≤ k ∧ k ≤ 4096 ∧ a1 * 4096 ≤ a2 ∧ a2 ≤ (a1 + 1) * 4096 - k)
def noneF (L : Nat) (a2 k : Int) : Bool := decide (k = 0 ∧ 0 ≤ a2 ∧ a2 ≤ (L : Int) * 4096)
theorem mem_nil' (i : Int) : mem [] i = false := rfl
theorem there_one {L : Nat} (hL : L ≤ 1048576) {a1 : Int} (h0 : 0 ≤ a1) (h1 : a1 < L) (a2 k : Int) : thereB L (laidS L [] a1 1 true) a2 k = (insF 0 a1 a2 k || noneF L a2 k) := by
  have g : Good L [] := ⟨List.Pairwise.nil, rfl, (fun e h => by cases h), hL⟩
  have hw : withinB L a1 1 = true := by unfold withinB; simp; omega
  have hm : ∀ i, mem (laidS L [] a1 1 true) i = decide (i = a1) := fun i => by
    rw [mem_laidS g hw, mem_nil']
    by_cases h : i = a1
    · rw [if_pos (by omega), decide_eq_true h]
    · rw [if_neg (by omega), decide_eq_false h]
  rw [Bool.eq_iff_iff, there_iff (laidS_good g a1 1 true)]
  unfold insF noneF
  simp only [hm, decide_eq_true_iff, Bool.or_eq_true, Bool.and_eq_true, beq_self_eq_true, true_and]
  constructor
  · rintro ⟨x0, x1, x2, x3⟩
    by_cases hk : k = 0
    · exact .inr ⟨hk, x0, by omega⟩
    · have y1 := x3 a2 (by omega) (by omega)
      have y2 := x3 (a2 + k - 1) (by omega) (by omega)
      exact .inl ⟨by omega, by omega, by omega, by omega⟩
  · rintro (⟨x0, x1, x2, x3⟩ | ⟨x0, x1, x2⟩)
    · exact ⟨by omega, by omega, by omega, fun i i1 i2 => by omega⟩
    · exact ⟨by omega, by omega, by omega, fun i i1 i2 => by omega⟩
theorem there_not {L : Nat} (hL : L ≤ 1048576) (a1 a2 k : Int) : thereB L [] a2 k = (insF 3 a1 a2 k || noneF L a2 k) := by
  have g : Good L [] := ⟨List.Pairwise.nil, rfl, (fun e h => by cases h), hL⟩
  rw [Bool.eq_iff_iff, there_iff g]
  unfold insF noneF
  simp only [mem_nil', decide_eq_true_iff, Bool.or_eq_true, Bool.and_eq_true]
  constructor
  · rintro ⟨x0, x1, x2, x3⟩
    by_cases hk : k = 0
    · exact .inr ⟨hk, x0, by omega⟩
    · have y1 := x3 a2 (by omega) (by omega); cases y1
  · rintro (⟨x0, _⟩ | ⟨x0, x1, x2⟩)
    · cases x0
    · exact ⟨by omega, by omega, by omega, fun i i1 i2 => by omega⟩
theorem great_commit (L : Nat) (a1 : Int) : commitE (newS L) a1 1 = if 0 ≤ a1 ∧ a1 < L then 0 else 3 := by
  have hc : countE (newS L).L a1 1 = if 0 ≤ a1 ∧ a1 < L then 0 else 3 := by
    unfold countE laidErr withinB
    rw [if_neg (by omega)]
    show (if decide (0 ≤ a1 ∧ (0 : Int) ≤ 1 ∧ (1 : Int) ≤ L - a1) = true then (0 : Int) else 3) = _
    by_cases h : 0 ≤ a1 ∧ a1 < L
    · rw [if_pos h, if_pos (by simp; omega)]
    · rw [if_neg h, if_neg (by simp; omega)]
  unfold commitE
  rw [hc]
  by_cases h : 0 ≤ a1 ∧ a1 < L
  · rw [if_pos h, if_neg (by simp), if_neg ?_]
    · rfl
    · unfold countR countV
      rw [if_neg (by omega)]
      split
      · unfold memCount; simp [newS, mem_nil']
      · exact Int.lt_irrefl 0
  · rw [if_neg h, if_pos (by decide)]
theorem great_commitS (L : Nat) (a1 : Int) (e : Int) (he : commitE (newS L) a1 1 = e) : (e = 0 ∧ commitS (newS L) a1 1 = ⟨L, laidS L [] a1 1 true, fun _ => 0, false, 0⟩) ∨ (e = 3 ∧ commitS (newS L) a1 1 = newS L) := by
  have hc := great_commit L a1
  rw [he] at hc
  by_cases h : 0 ≤ a1 ∧ a1 < L
  · rw [if_pos h] at hc
    refine .inl ⟨hc, ?_⟩
    unfold commitS
    rw [if_neg ?_]
    · rfl
    · rintro (h1 | h1)
      · unfold commitE at he; rw [if_pos h1] at he; rw [he] at h1; exact h1 hc
      · unfold commitE at he
        by_cases h2 : countE (newS L).L a1 1 = 0
        · rw [if_neg (by simpa using h2), if_pos h1] at he; omega
        · rw [if_pos h2] at he; omega
  · rw [if_neg h] at hc
    refine .inr ⟨hc, ?_⟩
    unfold commitS
    have hne : countE (newS L).L a1 1 ≠ 0 := fun h2 => by
      unfold commitE at he
      rw [if_neg (by simpa using h2)] at he
      split at he
      · omega
      · split at he <;> omega
    rw [if_pos (.inl hne)]
theorem zero_count (L : Nat) (hL : L ≤ 1048576) : countV L [] 0 L = 0 := by
  unfold countV withinB
  rw [if_pos (by simp)]
  unfold memCount; simp [mem_nil']
set_option maxRecDepth 100000 in
set_option maxHeartbeats 4000000 in
theorem great_all (a0 a1 a2 a3 a4 : Int) (w : World) (b0 : -9223372036854775808 ≤ a0 ∧ a0 ≤ 9223372036854775807) (b1 : -9223372036854775808 ≤ a1 ∧ a1 ≤ 9223372036854775807) (b2 : -9223372036854775808 ≤ a2 ∧ a2 ≤ 9223372036854775807) :
    Calls Try.prog 3 #[.int .i64 a0, .int .i64 a1, .int .i64 a2, .int .i64 a3, .int .i64 a4] w (TrueAt w) := by
  go_enter Try.func3, Try.ntmps3
  go_wp2_with fail
  refine (awake3_calls _).mono ?_
  rintro e w1 ⟨rfl, hb1⟩
  go_upto_region 3 with fail
  go_cut [11, 12] (fun s11 s12 wx => NewAt a0 w1 s11 s12 wx)
  case first =>
    as_aux_lemma =>
    go_wp2_with (go_at_call 20; refine (arena_new a0 _).mono ?_; rintro e w2 ⟨A, P, rfl, hA, hP, hx, hb2⟩; have HX := Lib.hid hx; clear hx)
    all_goals go_meet
    all_goals first
      | exact ⟨A, P, rfl, congrArg (Value.int .i64) (lenN_lo (by assumption)), hA, hP, HX.out, hb2⟩
      | exact ⟨A, P, rfl, congrArg (Value.int .i64) (lenN_hi (by rw [if_neg (by omega)] at *; assumption)), hA, hP, HX.out, hb2⟩
      | exact ⟨A, P, rfl, congrArg (Value.int .i64) (lenN_mid (by assumption) (by rw [if_neg (by omega)] at *; assumption)), hA, hP, HX.out, hb2⟩
      | skip
    all_goals trace_state
    all_goals sorry
  case rest =>
    obtain ⟨A, P, rfl, rfl, hA, hP, hx, hb2⟩ := hcut
    have hL := lenN_le a0
    generalize lenN a0 = L at *
    have HZ := Lib.hid (zero_count L hL)
    have HX := Lib.hid hx
    have hn0 : ∀ i b : Nat, (List.replicate L (none : Option Nat))[i]? = some (some b) → w1.heap.size ≤ b := fun i b h => by
      rw [List.getElem?_replicate] at h; split at h <;> cases h
    have HN0 := Lib.hid hn0
    clear hx hn0
    have Bc := hb1.trans (hb2.mono hb1.size)
    go_wp2_with fail
    refine (cap_any HX.out).mono ?_
    rintro e w3 ⟨rfl, rfl⟩
    go_wp2_with fail
    refine (committed_any HX.out).mono ?_
    rintro e w4 ⟨rfl, hb4⟩
    have HZ' : Hid (countV (newS L).L (newS L).es 0 (newS L).L = 0) := HZ
    rw [HZ'.out]
    have HX4 := Lib.hid (HX.out.below hb4)
    have B4 := Bc.trans (hb4.mono Bc.size)
    go_wp2_with fail
    refine (commit_any HX4.out a1 1 (by omega)).mono ?_
    rintro e w5 ⟨rfl, ht⟩
    obtain ⟨hat, hbt⟩ := ht.at (Nat.le_trans hb2.size hb4.size) hA hP HN0.out
    have B5 := B4.trans (hbt.mono (by have := hb1.size; have := B4.size; omega))
    obtain ⟨P2, ps2, p2, n2, c2, hx2, hA2, hP2, hps2⟩ := hat
    have HOW := Lib.hid (And.intro hA2 (And.intro hP2 hps2))
    clear hA2 hP2 hps2
    have HX2 := Lib.hid hx2
    clear ht hbt hx2 HX HX4 HN0
    obtain ⟨e5, he5⟩ : ∃ e, commitE (newS L) a1 1 = e := ⟨_, rfl⟩
    have hgs := great_commitS L a1 e5 he5
    have hgc := great_commit L a1
    rw [he5] at hgc ⊢
    have HSL : Hid ((commitS (newS L) a1 1).L = L) := Lib.hid (by rcases hgs with ⟨_, h⟩ | ⟨_, h⟩ <;> rw [h] <;> rfl)
    have HTB : Hid (∀ k, thereB (commitS (newS L) a1 1).L (commitS (newS L) a1 1).es a2 k = (insF e5 a1 a2 k || noneF L a2 k)) := Lib.hid fun k => by
      rcases hgs with ⟨h1, h⟩ | ⟨h1, h⟩
      · subst h1
        by_cases hh : 0 ≤ a1 ∧ a1 < L
        · rw [h]; exact there_one hL hh.1 hh.2 a2 k
        · rw [if_neg hh] at hgc; cases hgc
      · subst h1; rw [h]; exact there_not hL a1 a2 k
    generalize commitS (newS L) a1 1 = s1 at *
    have hcase : (e5 = 0 ∧ 0 ≤ a1 ∧ a1 < L) ∨ (e5 = 3 ∧ a1 < 0) ∨ (e5 = 3 ∧ 0 ≤ a1 ∧ (L : Int) ≤ a1) := by
      by_cases hh : 0 ≤ a1 ∧ a1 < L
      · rw [if_pos hh] at hgc; exact .inl ⟨hgc, hh⟩
      · rw [if_neg hh] at hgc; exact .inr (by omega)
    clear hgs hgc he5
    have HTv : Hid ((thereE s1.L s1.es a2 a3 = 0 ∧ (insF e5 a1 a2 a3 || noneF L a2 a3) = true) ∨ (thereE s1.L s1.es a2 a3 = 3 ∧ (insF e5 a1 a2 a3 || noneF L a2 a3) = false)) := Lib.hid (by
      unfold thereE; rw [HTB.out]
      cases (insF e5 a1 a2 a3 || noneF L a2 a3)
      · exact .inr ⟨rfl, rfl⟩
      · exact .inl ⟨rfl, rfl⟩)
    have HNv : Hid ((wholeB a4 = true ∧ numE s1.L s1.es a2 a4 = (if insF e5 a1 a2 a4 then 0 else 3)) ∨ (wholeB a4 = false ∧ numE s1.L s1.es a2 a4 = 2)) := Lib.hid (by
      unfold numE
      cases hw : wholeB a4 with
      | true =>
        refine .inl ⟨rfl, ?_⟩
        have hn : noneF L a2 a4 = false := by unfold noneF; rcases whole_cases hw with rfl | rfl | rfl | rfl <;> simp
        rw [if_pos rfl]; unfold thereE; rw [HTB.out, hn, Bool.or_false]
      | false => exact .inr ⟨rfl, rfl⟩)
    have HCS := Lib.hid hcase
    clear hcase HZ HZ' hb4
    go_upto_region 7 with fail
    go_cut [58] (fun s58 wx => s58 = .bool false ∧ w5 = wx)
    case first =>
      as_aux_lemma =>
      rcases HCS.out with ⟨rfl, h0, h1⟩ | ⟨rfl, h1⟩ | ⟨rfl, h0, h1⟩
      · have j0 : decide (0 ≤ a1) = true := by simpa using h0
        have j1 : decide (a1 < (L : Int)) = true := by simpa using h1
        go_wp2_with fail
        go_meet
        exact ⟨rfl, rfl⟩
      · have j0 : decide (0 ≤ a1) = false := by simpa using h1
        go_wp2_with fail
        go_meet
        exact ⟨rfl, rfl⟩
      · have j0 : decide (0 ≤ a1) = true := by simpa using h0
        have j1 : decide (a1 < (L : Int)) = false := by simpa using h1
        go_wp2_with fail
        go_meet
        exact ⟨rfl, rfl⟩
    case rest =>
      obtain ⟨rfl, rfl⟩ := hcut
      go_wp2_with fail
      refine (bytes_any HX2.out a2 a3 (by omega)).mono ?_
      rintro e w6 ⟨rfl, hb6⟩
      have HX6 := Lib.hid (HX2.out.below hb6)
      have B6 := B5.trans (hb6.mono B5.size)
      obtain ⟨T, hT⟩ : ∃ T, thereE s1.L s1.es a2 a3 = T := ⟨_, rfl⟩
      rw [hT]
      have HT3 := HTv; rw [hT] at HT3
      clear hT
      generalize (if T = 0 then strL (getM s1.mm a2.toNat a3.toNat) else ⟨#[]⟩ : ByteArray) = str
      go_wp2_with fail
      refine (load_any HX6.out a2 a4 (by omega)).mono ?_
      rintro e w7 ⟨rfl, hb7⟩
      have HX7 := Lib.hid (HX6.out.below hb7)
      have B7 := B6.trans (hb7.mono B6.size)
      obtain ⟨N, hN⟩ : ∃ N, numE s1.L s1.es a2 a4 = N := ⟨_, rfl⟩
      rw [hN]
      have HN3 := HNv; rw [hN] at HN3
      clear hN
      generalize (if N = 0 then (numV s1.mm a2.toNat a4.toNat : Int) else 0) = num
      clear HTv HNv HTB HX2 HX6 hb6 hb7
      go_upto_region 11 with fail
      go_cut [18] (fun s18 wx => s18 = .bool (insF e5 a1 a2 a3) ∧ w7 = wx)
      case first =>
        as_aux_lemma =>
        rcases HCS.out with ⟨rfl, h0, h1⟩ | ⟨rfl, h1⟩ | ⟨rfl, h0, h1⟩
        · by_cases k1 : 1 ≤ a3
          · have j1 : decide (1 ≤ a3) = true := by simpa using k1
            by_cases k2 : a3 ≤ 4096
            · have j2 : decide (a3 ≤ 4096) = true := by simpa using k2
              by_cases k3 : a1 * 4096 ≤ a2
              · have j3 : decide (a1 * 4096 ≤ a2) = true := by simpa using k3
                by_cases k4 : a2 ≤ (a1 + 1) * 4096 - a3
                · have HI : Hid (insF 0 a1 a2 a3 = true) := Lib.hid (by unfold insF; rw [decide_eq_true ⟨k1, k2, k3, k4⟩]; rfl)
                  have j4 : decide (a2 ≤ (a1 + 1) * 4096 - a3) = true := by simpa using k4
                  go_wp2_with fail
                  go_meet
                  exact ⟨by rw [HI.out], rfl⟩
                · have HI : Hid (insF 0 a1 a2 a3 = false) := Lib.hid (by unfold insF; rw [decide_eq_false (fun h => k4 h.2.2.2)]; rfl)
                  have j4 : decide (a2 ≤ (a1 + 1) * 4096 - a3) = false := by simpa using k4
                  go_wp2_with fail
                  go_meet
                  exact ⟨by rw [HI.out], rfl⟩
              · have HI : Hid (insF 0 a1 a2 a3 = false) := Lib.hid (by unfold insF; rw [decide_eq_false (fun h => k3 h.2.2.1)]; rfl)
                have j3 : decide (a1 * 4096 ≤ a2) = false := by simpa using k3
                go_wp2_with fail
                go_meet
                exact ⟨by rw [HI.out], rfl⟩
            · have HI : Hid (insF 0 a1 a2 a3 = false) := Lib.hid (by unfold insF; rw [decide_eq_false (fun h => k2 h.2.1)]; rfl)
              have j2 : decide (a3 ≤ 4096) = false := by simpa using k2
              go_wp2_with fail
              go_meet
              exact ⟨by rw [HI.out], rfl⟩
          · have HI : Hid (insF 0 a1 a2 a3 = false) := Lib.hid (by unfold insF; rw [decide_eq_false (fun h => k1 h.1)]; rfl)
            have j1 : decide (1 ≤ a3) = false := by simpa using k1
            go_wp2_with fail
            go_meet
            exact ⟨by rw [HI.out], rfl⟩
        all_goals
          go_wp2_with fail
          go_meet
          exact ⟨rfl, rfl⟩
      case rest =>
        obtain ⟨rfl, rfl⟩ := hcut
        go_upto_region 12 with fail
        go_cut [19] (fun s19 wx => s19 = .bool (noneF L a2 a3) ∧ w7 = wx)
        case first =>
          as_aux_lemma =>
          by_cases k1 : a3 = 0
          · have j1 : (a3 == 0) = true := by simpa using k1
            by_cases k2 : 0 ≤ a2
            · have j2 : decide (0 ≤ a2) = true := by simpa using k2
              by_cases k3 : a2 ≤ (L : Int) * 4096
              · have HI : Hid (noneF L a2 a3 = true) := Lib.hid (by unfold noneF; rw [decide_eq_true ⟨k1, k2, k3⟩])
                have j3 : decide (a2 ≤ (L : Int) * 4096) = true := by simpa using k3
                clear k1
                go_wp2_with fail
                go_meet
                exact ⟨by rw [HI.out], rfl⟩
              · have HI : Hid (noneF L a2 a3 = false) := Lib.hid (by unfold noneF; rw [decide_eq_false (fun h => k3 h.2.2)])
                have j3 : decide (a2 ≤ (L : Int) * 4096) = false := by simpa using k3
                clear k1
                go_wp2_with fail
                go_meet
                exact ⟨by rw [HI.out], rfl⟩
            · have HI : Hid (noneF L a2 a3 = false) := Lib.hid (by unfold noneF; rw [decide_eq_false (fun h => k2 h.2.1)])
              have j2 : decide (0 ≤ a2) = false := by simpa using k2
              clear k1
              go_wp2_with fail
              go_meet
              exact ⟨by rw [HI.out], rfl⟩
          · have HI : Hid (noneF L a2 a3 = false) := Lib.hid (by unfold noneF; rw [decide_eq_false (fun h => k1 h.1)])
            have j1 : (a3 == 0) = false := by simpa using k1
            clear k1
            go_wp2_with fail
            go_meet
            exact ⟨by rw [HI.out], rfl⟩
        case rest =>
          obtain ⟨rfl, rfl⟩ := hcut
          generalize insF e5 a1 a2 a3 = bi at *
          generalize noneF L a2 a3 = bn at *
          go_upto_region 13 with fail
          go_cut [124] (fun s124 wx => s124 = .bool false ∧ w7 = wx)
          case first =>
            as_aux_lemma =>
            rcases HT3.out with ⟨rfl, ho⟩ | ⟨rfl, ho⟩
            all_goals
              cases bi <;> cases bn <;> first
                | (exfalso; revert ho; decide)
                | (clear ho HT3; go_wp2_with fail; go_meet; exact ⟨rfl, rfl⟩)
          case rest =>
            obtain ⟨rfl, rfl⟩ := hcut
            clear HT3
            go_upto_region 15 with fail
            go_cut [20] (fun s20 wx => s20 = .bool (wholeB a4) ∧ w7 = wx)
            case first =>
              as_aux_lemma =>
              by_cases k1 : a4 = 1
              · subst k1; go_wp2_with fail; go_meet; exact ⟨rfl, rfl⟩
              by_cases k2 : a4 = 2
              · subst k2; go_wp2_with fail; go_meet; exact ⟨rfl, rfl⟩
              by_cases k4 : a4 = 4
              · subst k4; go_wp2_with fail; go_meet; exact ⟨rfl, rfl⟩
              by_cases k8 : a4 = 8
              · subst k8; go_wp2_with fail; go_meet; exact ⟨rfl, rfl⟩
              have HI : Hid (wholeB a4 = false) := Lib.hid (by unfold wholeB; simp [k1, k2, k4, k8])
              have j1 : (a4 == 1) = false := by simpa using k1
              have j2 : (a4 == 2) = false := by simpa using k2
              have j4 : (a4 == 4) = false := by simpa using k4
              have j8 : (a4 == 8) = false := by simpa using k8
              clear k1 k2 k4 k8
              go_wp2_with fail
              go_meet
              exact ⟨by rw [HI.out], rfl⟩
            case rest =>
              obtain ⟨rfl, rfl⟩ := hcut
              have HW8 : Hid (wholeB a4 = true → 1 ≤ a4 ∧ a4 ≤ 8) := Lib.hid fun h => by rcases whole_cases h with rfl | rfl | rfl | rfl <;> omega
              generalize wholeB a4 = bw at *
              go_upto_region 16 with fail
              go_cut [21] (fun s21 wx => s21 = .bool (bw && insF e5 a1 a2 a4) ∧ w7 = wx)
              case first =>
                as_aux_lemma =>
                cases bw with
                | false =>
                  clear HN3 HW8
                  go_wp2_with fail
                  go_meet
                  exact ⟨rfl, rfl⟩
                | true =>
                  obtain ⟨z1, z2⟩ := HW8.out rfl
                  clear HN3 HW8
                  rcases HCS.out with ⟨rfl, h0, h1⟩ | ⟨rfl, h1⟩ | ⟨rfl, h0, h1⟩
                  · by_cases k3 : a1 * 4096 ≤ a2
                    · have j3 : decide (a1 * 4096 ≤ a2) = true := by simpa using k3
                      by_cases k4 : a2 ≤ (a1 + 1) * 4096 - a4
                      · have HI : Hid ((true && insF 0 a1 a2 a4) = true) := Lib.hid (by unfold insF; rw [decide_eq_true ⟨z1, by omega, k3, k4⟩]; rfl)
                        have j4 : decide (a2 ≤ (a1 + 1) * 4096 - a4) = true := by simpa using k4
                        go_wp2_with fail
                        go_meet
                        exact ⟨by rw [HI.out], rfl⟩
                      · have HI : Hid ((true && insF 0 a1 a2 a4) = false) := Lib.hid (by unfold insF; rw [decide_eq_false (fun h => k4 h.2.2.2)]; rfl)
                        have j4 : decide (a2 ≤ (a1 + 1) * 4096 - a4) = false := by simpa using k4
                        go_wp2_with fail
                        go_meet
                        exact ⟨by rw [HI.out], rfl⟩
                    · have HI : Hid ((true && insF 0 a1 a2 a4) = false) := Lib.hid (by unfold insF; rw [decide_eq_false (fun h => k3 h.2.2.1)]; rfl)
                      have j3 : decide (a1 * 4096 ≤ a2) = false := by simpa using k3
                      go_wp2_with fail
                      go_meet
                      exact ⟨by rw [HI.out], rfl⟩
                  all_goals
                    go_wp2_with fail
                    go_meet
                    exact ⟨rfl, rfl⟩
              case rest =>
                obtain ⟨rfl, rfl⟩ := hcut
                clear HW8
                have HE0 : Hid (commitE s1 a1 0 = 2) := Lib.hid (by unfold commitE countE; rw [if_pos (by omega), if_pos (by decide)])
                generalize insF e5 a1 a2 a4 = bb at *
                rcases HN3.out with ⟨rfl, rfl⟩ | ⟨rfl, rfl⟩
                · cases bb
                  all_goals
                    simp only [Bool.true_and, Bool.false_eq_true, if_true, if_false]
                    go_wp2_with fail
                    refine (commit_any HX7.out a1 0 (by omega)).mono ?_
                    rintro e w8 ⟨rfl, ht⟩
                    have B8 := B7.trans (ht.at B7.size (Nat.le_trans hb1.size HOW.out.1) (Nat.le_trans hb1.size HOW.out.2.1) (fun i b h => Nat.le_trans hb1.size (HOW.out.2.2 i b h))).2
                    rw [HE0.out]
                    clear ht
                    go_wp2_with fail
                    go_ret
                    exact ⟨rfl, B8⟩
                · go_wp2_with fail
                  refine (commit_any HX7.out a1 0 (by omega)).mono ?_
                  rintro e w8 ⟨rfl, ht⟩
                  have B8 := B7.trans (ht.at B7.size (Nat.le_trans hb1.size HOW.out.1) (Nat.le_trans hb1.size HOW.out.2.1) (fun i b h => Nat.le_trans hb1.size (HOW.out.2.2 i b h))).2
                  rw [HE0.out]
                  clear ht
                  go_wp2_with fail
                  go_ret
                  exact ⟨rfl, B8⟩
end Go.Proofs.Ytfappdiipflpfaa.Bt
