/- The document's functions on a set of bools: Put, Count, First, Same. -/
import Derived.Test.YtoineackmpafdaaBol
import Derived.Test.YtoineackmpafdaaPbM
import Derived.BigQuiet
import Derived.Deep.DeepCutAuto
namespace Go.Proofs.Ytoineackmpafdaa.Bt
open Go Go.RowKit Go.Shelf
set_option linter.unusedVariables false
set_option linter.unusedSimpArgs false

def putF (f : Nat → Bool) (fr k : Nat) (inn : Bool) (p : Nat) : Bool := if fr ≤ p ∧ p < fr + k then inn else f p
def upB (i : Nat) (g : Nat → Bool) (p : Nat) : Bool := if p < i then g p else false
theorem wiB_in {n : Nat} {fr k : Nat} (h : fr + k ≤ n) : wiB n (fr : Int) (k : Int) = true := by unfold wiB; simp; omega
structure PutR (b B n : Nat) (f g : Nat → Bool) (w x : World) : Prop where
  o : BolAt B n g x
  s : BolAt b n f x
  l : Below w.heap.size w x
theorem PutR.set {b B n : Nat} {f g : Nat → Bool} {w x : World} (h : PutR b B n f g w x) (hne : b ≠ B) (hB : w.heap.size ≤ B) (i : Nat) (hi : i < n) (v : Bool) : PutR b B n f (fun p => if p = i then v else g p) w (x.setCell ⟨B, i, none⟩ (.bool v)) :=
  ⟨h.o.set i hi v, h.s.keep hne i _, h.l.setCell (p := ⟨B, i, none⟩) hB _⟩
theorem PutR.ext {b B n : Nat} {f g g' : Nat → Bool} {w x : World} (h : PutR b B n f g w x) (e : ∀ i, i < n → g i = g' i) : PutR b B n f g' w x := ⟨h.o.ext e, h.s, h.l⟩
set_option maxHeartbeats 2000000 in
set_option maxRecDepth 100000 in
theorem pput_in (b n : Nat) (hn : n ≤ 1048576) (f : Nat → Bool) (fr k : Nat) (hk : fr + k ≤ n) (inn : Bool) (w : World) (h : BolAt b n f w) :
    Calls Try.prog 129 #[.slice (some ⟨b, 0, none⟩) n n, .int .i64 (fr : Int), .int .i64 (k : Int), .bool inn] w fun e w' =>
      e = .returned (.tuple #[.slice (some ⟨w.heap.size, 0, none⟩) n n, .int .i64 0]) ∧ BolAt w.heap.size n (putF f fr k inn) w' ∧ Below w.heap.size w w' := by
  have HWI := Lib.hid (fun w => refWithin_any (some ⟨b, 0, none⟩) n n (by omega) (fr : Int) (k : Int) w)
  rw [wiB_in hk] at HWI
  have hmk := run_bools n hn w
  have hne := Nat.ne_of_lt h.lt
  have hP : PutR b w.heap.size n f (upB 0 (putF f fr k inn)) w (w.alloc (.cells (bC n (fun _ => false)) 4)) :=
    ⟨(show BolAt _ _ _ _ from bol_new _ _).ext fun i _ => by unfold upB; simp, h.below ((Below.refl _ _).alloc (Nat.le_refl _) _), (Below.refl _ _).alloc (Nat.le_refl _) _⟩
  have hfk : (fr : Int) + (k : Int) ≤ 1048576 := by omega
  have HFK := Lib.hid hfk
  clear h
  go_enter Try.func129, Try.ntmps129
  go_wp2_with fail
  refine (HWI.out _).mono ?_
  rintro e w1 ⟨rfl, rfl⟩
  go_upto_region 4 with fail
  obtain ⟨x, hx⟩ : ∃ x, w.alloc (.cells (bC n (fun _ => false)) 4) = x := ⟨_, rfl⟩
  obtain ⟨B, hB⟩ : ∃ B, w.heap.size = B := ⟨_, rfl⟩
  rw [hx] at hP
  rw [hB] at hP hne
  change Code.wp _ _ _ _ (w.alloc (.cells (bC n (fun _ => false)) 4))
  try rw [hx]
  try rw [hB]
  have HBB := Lib.hid hB
  have HP := Lib.hid hP
  have HNE := Lib.hid hne
  clear hx hB hP hmk hne
  go_wp2_with fail
  go_loopw [24] (fun s24 wr => ∃ i : Nat, i ≤ n ∧ s24 = .int .i64 (i : Int) ∧ PutR b B n f (upB i (putF f fr k inn)) w wr) (fun s24 _ => n - (intOf s24).toNat)
  case atStart => exact ⟨0, Nat.zero_le _, rfl, HP.out⟩
  case round =>
    clear HP
    obtain ⟨i, hi, rfl, hr⟩ := hrel
    have HR := Lib.hid hr
    by_cases hlt : i < n
    · have hs := hr.s.cell i hlt
      have hoc := hr.o.cell i hlt
      have hof := (cell_blk hr.o i).2
      obtain ⟨v, hv⟩ : ∃ v, f i = v := ⟨_, rfl⟩
      rw [hv] at hs
      have HV := Lib.hid hv
      have h1 := Lib.hid (hr.set HNE.out (Nat.le_of_eq HBB.out) i hlt v)
      clear hr hv
      go_upto_region 8 with fail
      obtain ⟨y, hy⟩ : ∃ y, wr.setCell ⟨B, i, none⟩ (.bool v) = y := ⟨_, rfl⟩
      change Code.wp _ _ _ _ (wr.setCell ⟨B, i, none⟩ (.bool v))
      rw [hy] at h1 ⊢
      have ho2 := h1.out.o.cell i hlt
      have hf2 := (cell_blk h1.out.o i).2
      clear hs hoc hof hy
      have hfk := HFK.out
      by_cases g1 : (fr : Int) ≤ (i : Int)
      · by_cases g2 : (i : Int) < (fr : Int) + (k : Int)
        · have h2 := Lib.hid (h1.out.set HNE.out (Nat.le_of_eq HBB.out) i hlt inn)
          go_wp2_with fail
          go_roundw
          case rel => exact ⟨i + 1, by omega, by go_num, h2.out.ext fun p _ => by
            unfold upB putF
            by_cases e : p = i
            · subst e; simp; omega
            · by_cases q : p < i
              · simp [e, q, show p < i + 1 by omega]
              · simp [e, q, show ¬ p < i + 1 by omega]⟩
          case measure => simp [intOf]; omega
        · go_wp2_with fail
          go_roundw
          case rel => exact ⟨i + 1, by omega, by go_num, h1.out.ext fun p _ => by
            have hv := HV.out
            unfold upB putF
            by_cases e : p = i
            · subst e; simp [hv]; omega
            · by_cases q : p < i
              · simp [e, q, show p < i + 1 by omega]
              · simp [e, q, show ¬ p < i + 1 by omega]⟩
          case measure => simp [intOf]; omega
      · go_wp2_with fail
        go_roundw
        case rel => exact ⟨i + 1, by omega, by go_num, h1.out.ext fun p _ => by
            have hv := HV.out
            unfold upB putF
            by_cases e : p = i
            · subst e; simp [hv]; omega
            · by_cases q : p < i
              · simp [e, q, show p < i + 1 by omega]
              · simp [e, q, show ¬ p < i + 1 by omega]⟩
        case measure => simp [intOf]; omega
    · obtain rfl : i = n := by omega
      have hfin := HR.out.ext (g' := putF f fr k inn) fun p hp => by unfold upB; rw [if_pos hp]
      have HF : Hid (BolAt w.heap.size i (putF f fr k inn) wr ∧ Below w.heap.size w wr) := Lib.hid ⟨by rw [HBB.out]; exact hfin.o, hfin.l⟩
      clear hr hfin
      go_wp2_with fail
      go_ret2
      exact ⟨by rw [HBB.out]; rfl, HF.out⟩
theorem pput_out (b n : Nat) (hn : n ≤ 1048576) (fr k : Int) (hw : wiB n fr k = false) (inn : Bool) (w : World) :
    Calls Try.prog 129 #[.slice (some ⟨b, 0, none⟩) n n, .int .i64 fr, .int .i64 k, .bool inn] w fun e w' =>
      e = .returned (.tuple #[.slice (some ⟨b, 0, none⟩) n n, .int .i64 3]) ∧ w = w' := by
  have HWI := Lib.hid (fun w => refWithin_any (some ⟨b, 0, none⟩) n n (by omega) fr k w)
  rw [hw] at HWI
  clear hw
  go_enter Try.func129, Try.ntmps129
  go_wp2_with fail
  refine (HWI.out _).mono ?_
  rintro e w1 ⟨rfl, rfl⟩
  go_wp2_with fail
  go_ret2
  exact ⟨rfl, rfl⟩
def cntB (f : Nat → Bool) (fr j : Nat) : Nat := (List.range j).countP fun t => f (fr + t)
theorem cntB_succ (f : Nat → Bool) (fr j : Nat) : cntB f fr (j + 1) = cntB f fr j + (if f (fr + j) then 1 else 0) := by
  unfold cntB; rw [List.range_succ, List.countP_append]; simp [List.countP_cons]
theorem cntB_le (f : Nat → Bool) (fr j : Nat) : cntB f fr j ≤ j := by
  unfold cntB; have := List.countP_le_length (p := fun t => f (fr + t)) (l := List.range j); simpa using this
set_option maxHeartbeats 2000000 in
set_option maxRecDepth 100000 in
theorem pcount_in (b n : Nat) (hn : n ≤ 1048576) (f : Nat → Bool) (fr k : Nat) (hk : fr + k ≤ n) (w : World) (h : BolAt b n f w) :
    Calls Try.prog 130 #[.slice (some ⟨b, 0, none⟩) n n, .int .i64 (fr : Int), .int .i64 (k : Int)] w fun e w' =>
      e = .returned (.tuple #[.int .i64 ((cntB f fr k : Nat) : Int), .int .i64 0]) ∧ w = w' := by
  have HWI := Lib.hid (fun w => refWithin_any (some ⟨b, 0, none⟩) n n (by omega) (fr : Int) (k : Int) w)
  rw [wiB_in hk] at HWI
  have H := Lib.hid h
  have hfk : (fr : Int) + (k : Int) ≤ 1048576 := by omega
  clear h
  go_enter Try.func130, Try.ntmps130
  go_wp2_with fail
  refine (HWI.out _).mono ?_
  rintro e w1 ⟨rfl, rfl⟩
  go_wp2_with fail
  go_loop [9, 8] (fun s9 s8 => ∃ j : Nat, j ≤ k ∧ s9 = .int .i64 ((fr : Int) + j) ∧ s8 = .int .i64 ((cntB f fr j : Nat) : Int)) (fun s9 _ => fr + k - (intOf s9).toNat)
  case atStart => exact ⟨0, Nat.zero_le _, by simp, rfl⟩
  case round =>
    obtain ⟨j, hj, rfl, rfl⟩ := hrel
    by_cases hlt : j < k
    · have hcell := H.out.cell (fr + j) (by omega)
      have hlt2 : (fr : Int) + j < (n : Int) := by omega
      have hlt3 : (fr : Int) + j < (fr : Int) + k := by omega
      have ht : ((fr : Int) + j).toNat = fr + j := by omega
      have hle := cntB_le f fr j
      have hs := cntB_succ f fr j
      obtain ⟨v, hv⟩ : ∃ v, f (fr + j) = v := ⟨_, rfl⟩
      obtain ⟨c, hc⟩ : ∃ c, cntB f fr j = c := ⟨_, rfl⟩
      rw [hv] at hcell hs
      rw [hc] at hle hs ⊢
      have hcb : (c : Int) ≤ 1048576 := by omega
      have HS := Lib.hid hs
      clear hv hc hs
      cases v with
      | true =>
        go_wp2_with fail
        go_round
        case rel => exact ⟨j + 1, by omega, by go_num, by rw [HS.out]; go_num⟩
        case measure => simp [intOf]; omega
      | false =>
        go_wp2_with fail
        go_round
        case rel => exact ⟨j + 1, by omega, by go_num, by rw [HS.out]; rfl⟩
        case measure => simp [intOf]; omega
    · have e : j = k := by omega
      subst e
      obtain ⟨c, hc⟩ : ∃ c, cntB f fr j = c := ⟨_, rfl⟩
      have HC := Lib.hid hc
      rw [hc]
      clear hc
      go_wp2_with fail
      go_ret2
      exact ⟨by rw [HC.out]; rfl, rfl⟩
theorem pcount_out (b n : Nat) (hn : n ≤ 1048576) (fr k : Int) (hw : wiB n fr k = false) (w : World) :
    Calls Try.prog 130 #[.slice (some ⟨b, 0, none⟩) n n, .int .i64 fr, .int .i64 k] w fun e w' => e = .returned (.tuple #[.int .i64 0, .int .i64 3]) ∧ w = w' := by
  have HWI := Lib.hid (fun w => refWithin_any (some ⟨b, 0, none⟩) n n (by omega) fr k w)
  rw [hw] at HWI
  clear hw
  go_enter Try.func130, Try.ntmps130
  go_wp2_with fail
  refine (HWI.out _).mono ?_
  rintro e w1 ⟨rfl, rfl⟩
  go_wp2_with fail
  go_ret2
  exact ⟨rfl, rfl⟩
def fsP (f : Nat → Bool) (fr : Int) (inn : Bool) (i : Nat) : Bool := decide (fr ≤ (i : Int)) && (f i == inn)
def fsV (f : Nat → Bool) (n : Nat) (fr : Int) (inn : Bool) : Value := match (List.range n).find? (fsP f fr inn) with
  | some k => .tuple #[.int .i64 (k : Int), .bool true]
  | none => .tuple #[.int .i64 0, .bool false]
theorem fsV_at {f : Nat → Bool} {n : Nat} {fr : Int} {inn : Bool} {i : Nat} (hi : i < n) (h : fsP f fr inn i = true) (hj : ∀ j, j < i → fsP f fr inn j = false) : fsV f n fr inn = .tuple #[.int .i64 (i : Int), .bool true] := by
  have : (List.range n).find? (fsP f fr inn) = some i := List.find?_range_eq_some.2 ⟨h, List.mem_range.2 hi, fun j hj' => by rw [hj j hj']; rfl⟩
  unfold fsV; rw [this]
theorem fsV_none {f : Nat → Bool} {n : Nat} {fr : Int} {inn : Bool} (hj : ∀ j, j < n → fsP f fr inn j = false) : fsV f n fr inn = .tuple #[.int .i64 0, .bool false] := by
  have : (List.range n).find? (fsP f fr inn) = none := List.find?_range_eq_none.2 fun j hj' => by rw [hj j hj']; rfl
  unfold fsV; rw [this]
def NoneTo (f : Nat → Bool) (fr : Int) (inn : Bool) (i : Nat) : Prop := ∀ j, j < i → fsP f fr inn j = false
theorem NoneTo.succ {f : Nat → Bool} {fr : Int} {inn : Bool} {i : Nat} (h : NoneTo f fr inn i) (k : fsP f fr inn i = false) : NoneTo f fr inn (i + 1) := fun j hj => by
  by_cases e : j = i
  · rw [e]; exact k
  · exact h j (by omega)
set_option maxHeartbeats 2000000 in
set_option maxRecDepth 100000 in
theorem pfirst_any (b n : Nat) (hn : n ≤ 1048576) (f : Nat → Bool) (fr : Int) (inn : Bool) (w : World) (h : BolAt b n f w) :
    Calls Try.prog 131 #[.slice (some ⟨b, 0, none⟩) n n, .int .i64 fr, .bool inn] w fun e w' => e = .returned (fsV f n fr inn) ∧ w = w' := by
  have H := Lib.hid h
  clear h
  go_enter Try.func131, Try.ntmps131
  go_wp2_with fail
  go_loop [12] (fun s12 => ∃ i : Nat, i ≤ n ∧ s12 = .int .i64 (i : Int) ∧ NoneTo f fr inn i) (fun s12 => n - (intOf s12).toNat)
  case atStart => exact ⟨0, Nat.zero_le _, rfl, fun j hj => by omega⟩
  case round =>
    obtain ⟨i, hi, rfl, hN⟩ := hrel
    have HN := Lib.hid hN
    clear hN
    by_cases hlt : i < n
    · have hcell := H.out.cell i hlt
      obtain ⟨v, hv⟩ : ∃ v, f i = v := ⟨_, rfl⟩
      rw [hv] at hcell
      have HV := Lib.hid hv
      clear hv
      by_cases g1 : fr ≤ (i : Int)
      · cases hvi : (v == inn) with
        | true =>
          have hp : fsP f fr inn i = true := by unfold fsP; rw [decide_eq_true g1, HV.out, hvi]; rfl
          have HF := Lib.hid (fsV_at hlt hp HN.out)
          clear hp
          go_wp2_with fail
          go_ret2
          exact ⟨by rw [HF.out]; rfl, rfl⟩
        | false =>
          have HP : Hid (fsP f fr inn i = false) := Lib.hid (by unfold fsP; rw [HV.out, hvi]; simp)
          go_wp2_with fail
          go_round
          case rel => exact ⟨i + 1, by omega, by go_num, HN.out.succ HP.out⟩
          case measure => simp [intOf]; omega
      · have HP : Hid (fsP f fr inn i = false) := Lib.hid (by unfold fsP; rw [decide_eq_false g1]; rfl)
        go_wp2_with fail
        go_round
        case rel => exact ⟨i + 1, by omega, by go_num, HN.out.succ HP.out⟩
        case measure => simp [intOf]; omega
    · obtain rfl : i = n := by omega
      have HF := Lib.hid (fsV_none HN.out)
      go_wp2_with fail
      go_ret2
      exact ⟨by rw [HF.out]; rfl, rfl⟩
def sameB (n : Nat) (f g : Nat → Bool) : Bool := (List.range n).all fun i => f i == g i
def SameTo (f g : Nat → Bool) (i : Nat) : Prop := ∀ j, j < i → f j = g j
theorem SameTo.succ {f g : Nat → Bool} {i : Nat} (h : SameTo f g i) (k : f i = g i) : SameTo f g (i + 1) := fun j hj => by
  by_cases e : j = i
  · rw [e]; exact k
  · exact h j (by omega)
theorem sameB_true {n : Nat} {f g : Nat → Bool} (h : SameTo f g n) : sameB n f g = true := by
  unfold sameB; rw [List.all_eq_true]; intro j hj; rw [h j (List.mem_range.1 hj)]; simp
theorem sameB_false {n : Nat} {f g : Nat → Bool} {i : Nat} (hi : i < n) (h : f i ≠ g i) : sameB n f g = false := by
  unfold sameB; rw [List.all_eq_false]; exact ⟨i, List.mem_range.2 hi, by simpa using h⟩
set_option maxHeartbeats 2000000 in
set_option maxRecDepth 100000 in
theorem psame_any (b c n : Nat) (hn : n ≤ 1048576) (f g : Nat → Bool) (w : World) (h : BolAt b n f w) (k : BolAt c n g w) :
    Calls Try.prog 68 #[.slice (some ⟨b, 0, none⟩) n n, .slice (some ⟨c, 0, none⟩) n n] w fun e w' => e = .returned (.bool (sameB n f g)) ∧ ∃ d, w' = w.drewN d := by
  have H := Lib.hid h; have K := Lib.hid k
  clear h k
  go_enter Try.func68, Try.ntmps68
  go_wp2
  go_loopw [13] (fun s13 wr => ∃ i : Nat, i ≤ n ∧ s13 = .int .i64 (i : Int) ∧ SameTo f g i ∧ ∃ d, wr = w.drewN d) (fun s13 _ => n - (intOf s13).toNat)
  case atStart => exact ⟨0, Nat.zero_le _, rfl, fun j hj => by omega, 0, rfl⟩
  case round =>
    obtain ⟨i, hi, rfl, hS, d, rfl⟩ := hrel
    have HS := Lib.hid hS
    clear hS
    by_cases hlt : i < n
    · have ca := H.out.cell i hlt
      have cb := K.out.cell i hlt
      obtain ⟨x, hx⟩ : ∃ x, f i = x := ⟨_, rfl⟩
      obtain ⟨y, hy⟩ : ∃ y, g i = y := ⟨_, rfl⟩
      rw [hx] at ca; rw [hy] at cb
      have HX := Lib.hid hx; have HY := Lib.hid hy
      clear hx hy
      by_cases he : x = y
      · have hd : (x == y) = true := by simpa using he
        have HE := Lib.hid he; clear he
        go_wp2
        go_quiet (fail)
        go_wp2
        go_roundw
        case rel => exact ⟨i + 1, by omega, by go_num, HS.out.succ (by rw [HX.out, HY.out, HE.out]), by rename_i nq; exact ⟨d + nq, by simp [World.drewN]⟩⟩
        case measure => simp [intOf]; omega
      · have hd : (x == y) = false := by simpa using he
        have hf : Hid (sameB n f g = false) := Lib.hid (sameB_false hlt (by rw [HX.out, HY.out]; exact he))
        go_wp2
        go_quiet (fail)
        go_wp2
        go_ret
        exact ⟨by rw [hf.out]; rfl, by rename_i nq; exact ⟨d + nq, by simp [World.drewN, Nat.add_assoc]⟩⟩
    · obtain rfl : i = n := by omega
      have hf : Hid (sameB i f g = true) := Lib.hid (sameB_true HS.out)
      go_wp2
      go_ret
      exact ⟨by rw [hf.out]; rfl, d, rfl⟩
end Go.Proofs.Ytoineackmpafdaa.Bt
