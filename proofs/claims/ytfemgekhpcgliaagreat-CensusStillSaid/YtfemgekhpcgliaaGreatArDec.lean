/- The contract of Decommit: what it returns, and what it turns. -/
import Derived.Test.YtfemgekhpcgliaaGreatArPut
namespace Go.Proofs.YtfemgekhpcgliaaGreat.Bt
open Go Go.RowKit Go.Shelf
set_option linter.unusedVariables false

/-- the pages from a on, k of them, gone -/
def clrP (ps : List (Option Nat)) (a k : Nat) : List (Option Nat) := ps.take a ++ List.replicate k none ++ ps.drop (a + k)
theorem clrP_length (ps : List (Option Nat)) (a k : Nat) (h : a + k ≤ ps.length) : (clrP ps a k).length = ps.length := by simp [clrP]; omega
theorem clrP_get (ps : List (Option Nat)) (a k : Nat) (h : a + k ≤ ps.length) (i : Nat) : (clrP ps a k)[i]? = if a ≤ i ∧ i < a + k then some none else ps[i]? := by
  unfold clrP
  by_cases h1 : i < a
  · rw [List.append_assoc, List.getElem?_append_left (by rw [List.length_take]; omega), List.getElem?_take, if_pos h1, if_neg (by omega)]
  · by_cases h2 : i < a + k
    · rw [List.append_assoc, List.getElem?_append_right (by rw [List.length_take]; omega), List.length_take, List.getElem?_append_left (by rw [List.length_replicate]; omega), List.getElem?_replicate, if_pos (by omega), if_pos (by omega)]
    · rw [List.getElem?_append_right (by rw [List.length_append, List.length_take, List.length_replicate]; omega), List.length_append, List.length_take, List.length_replicate, List.getElem?_drop, if_neg (by omega)]
      congr 1; omega
def clrM (m : Nat → UInt8) (a k : Nat) : Nat → UInt8 := fun i => if a * 4096 ≤ i ∧ i < (a + k) * 4096 then 0 else m i

theorem run_clear (w : World) (P : Nat) (ps : List (Option Nat)) (a k c : Nat) (hk : 0 < k) (h : a + k ≤ ps.length) (hP : w.heap[P]? = some (.cells (rowV ps) 96 (0, 0))) (ty : TypeId) :
    (Builtin.clear_ #[84] ty #[.slice (some ⟨P, a, none⟩) k c]).run Tryz.prog w = .ok (.tuple #[]) (w.setRow P (rowV (clrP ps a k))) := by
  obtain ⟨i0, hi, hz0, hz1, hz2⟩ := info_parts Tryz.infoPtr
  have hz : (Builtin.zeroCells (Value.pointer none).cells k).toList = List.replicate k (.pointer none) := by
    apply List.ext_getElem?
    intro j
    by_cases hj : j < k
    · simp [Builtin.zeroCells, Value.cells, hj, Nat.mod_one]
    · rw [List.getElem?_eq_none (by simp [Builtin.zeroCells, Value.cells]; omega), List.getElem?_eq_none (by simp; omega)]
  have hst := run_storeCells_at Tryz.prog P a 96 (List.replicate k (.pointer none)) 0 (rowV ps) w hP (by simp [rowV]; omega) (fun v hv => by rw [List.eq_of_mem_replicate hv]; rfl)
  have he : ((rowV ps).toList.take (a + 0) ++ List.replicate k (Value.pointer none) ++ (rowV ps).toList.drop (a + 0 + (List.replicate k (Value.pointer none)).length)).toArray = rowV (clrP ps a k) := by
    simp [rowV, clrP, ptrV, List.map_take, List.map_drop, List.map_replicate]
  rw [he] at hst
  obtain ⟨k', rfl⟩ : ∃ k', k = k' + 1 := ⟨k - 1, by omega⟩
  simp [Builtin.clear_, run_underlying Tryz.underlying84, zeroValue, typeInfo, hi, hz0, hz]
  rw [hst]; rfl
section
variable {A P n cap : Nat} {s : ASt} {ps : List (Option Nat)} {p : Option Addr} {w : World}
theorem cleared (h : ArX A s P ps p n cap w) (a k : Nat) (hk : a + k ≤ s.L) :
    ArX A { s with mm := clrM s.mm a k } P (clrP ps a k) p n cap (w.setRow P (rowV (clrP ps a k))) ∧ Step A P ps (clrP ps a k) w (w.setRow P (rowV (clrP ps a k))) := by
  have hkl : a + k ≤ ps.length := by rw [h.len]; exact hk
  have hget : ∀ i b : Nat, (clrP ps a k)[i]? = some (some b) → ps[i]? = some (some b) ∧ ¬ (a ≤ i ∧ i < a + k) := fun i b hi => by
    rw [clrP_get ps a k hkl] at hi
    by_cases c : a ≤ i ∧ i < a + k
    · rw [if_pos c] at hi; cases hi
    · rw [if_neg c] at hi; exact ⟨hi, c⟩
  refine ⟨{ h with
    len := by rw [clrP_length ps a k hkl]; exact h.len
    hd := (setRow_other _ _ _ _ h.ap).trans h.hd
    row := setRow_heap _ _ _ _ _ _ h.row
    pg := fun i b hi => ?_
    no := fun i hi j hj => ?_
    un := fun i b hi => h.un i b (hget i b hi).1
    edges := h.edges.keep fun b off e => setRow_other _ _ _ _ (h.eap b off e).2.1
    apg := fun i b hi => h.apg i b (hget i b hi).1
    one := fun i j b hi hj => h.one i j b (hget i b hi).1 (hget j b hj).1
    eap := fun b off e => ⟨(h.eap b off e).1, (h.eap b off e).2.1, fun i hi => (h.eap b off e).2.2 i (hget i b hi).1⟩ }, ⟨rfl, rfl, rfl, by rw [setRow_size]; exact Nat.le_refl _, fun k _ hn => setRow_other _ _ _ _ (fun e => hn (.inr (.inl e))), fun i b hi => .inl (hget i b hi).1⟩⟩
  · obtain ⟨h1, h2⟩ := hget i b hi
    refine (setRow_other _ _ _ _ (h.apg i b h1).2).trans ((h.pg i b h1).trans ?_)
    rw [pg_ext fun j hj => ?_]
    show s.mm (i * 4096 + j) = clrM s.mm a k (i * 4096 + j)
    unfold clrM
    rw [if_neg]
    rintro ⟨x1, x2⟩
    exact h2 ⟨by omega, by omega⟩
  · show clrM s.mm a k (i * 4096 + j) = 0
    unfold clrM
    by_cases c : a * 4096 ≤ i * 4096 + j ∧ i * 4096 + j < (a + k) * 4096
    · rw [if_pos c]
    · rw [if_neg c]
      rw [clrP_get ps a k hkl] at hi
      rw [if_neg (by rintro ⟨x1, x2⟩; exact c ⟨by omega, by omega⟩)] at hi
      exact h.no i hi j hj

def decE (s : ASt) (a k : Int) : Int := if countE s.L a k ≠ 0 then countE s.L a k else if countR s.L s.es a k < k then 8 else 0
def decS (s : ASt) (a k : Int) : ASt := if decE s a k = 0 then { s with es := laidS s.L s.es a k false, mm := clrM s.mm a.toNat k.toNat } else s
theorem decommit_any (h : ArX A s P ps p n cap w) (a k : Int) (ha : a ≤ 9223372036854775807) :
    Calls Tryz.prog 103 #[.pointer (some ⟨A, 0, none⟩), .int .i64 a, .int .i64 k] w fun e w' => e = .returned (.int .i64 (decE s a k)) ∧ Turned A P ps p (decS s a k) w w' := by
  have HC := fun w (hw : ArX A s P ps p n cap w) => acount_any hw a k ha
  have HF := Lib.hid h
  by_cases h1 : countE s.L a k = 0
  · have hk : ¬ k < 1 := fun hk => by unfold countE at h1; rw [if_pos hk] at h1; cases h1
    have hw : withinB s.L a k = true := by
      unfold countE laidErr at h1; rw [if_neg hk] at h1
      cases hq : withinB s.L a k with
      | true => rfl
      | false => rw [hq] at h1; cases h1
    have hwi : 0 ≤ a ∧ 0 ≤ k ∧ k ≤ s.L - a := by simpa [withinB] using hw
    have hsm := h.good.small
    by_cases h2 : countR s.L s.es a k < k
    · have HE : Hid (decE s a k = 8 ∧ decS s a k = s) := Lib.hid (by
        have h0 : decE s a k = 8 := by unfold decE; rw [if_neg (by simpa using h1), if_pos h2]
        exact ⟨h0, by unfold decS; rw [h0]; rfl⟩)
      have H1 := Lib.hid h1
      clear h1 hw
      go_enter Tryz.func103, Tryz.ntmps103
      go_wp2_with fail
      refine (HC _ h).mono ?_
      rintro e w1 ⟨rfl, hb⟩
      rw [H1.out]
      generalize countR s.L s.es a k = c at *
      clear h HC
      go_wp2_with fail
      go_ret
      exact ⟨by rw [HE.out.1]; rfl, by rw [HE.out.2]; exact ⟨ps, p, n, cap, HF.out.below hb, Step.of_below hb, fun _ _ _ => .inl rfl⟩⟩
    · have HE : Hid (decE s a k = 0 ∧ decS s a k = { s with es := laidS s.L s.es a k false, mm := clrM s.mm a.toNat k.toNat } ∧ laidErr s.L a k = 0) := Lib.hid (by
        have h0 : decE s a k = 0 := by unfold decE; rw [if_neg (by simpa using h1), if_neg h2]
        exact ⟨h0, by unfold decS; rw [if_pos h0], by unfold laidErr; rw [hw]; rfl⟩)
      have H1 := Lib.hid h1
      have HW := Lib.hid hw
      obtain ⟨an, rfl⟩ : ∃ an : Nat, a = an := ⟨a.toNat, by omega⟩
      obtain ⟨kn, rfl⟩ : ∃ kn : Nat, k = kn := ⟨k.toNat, by omega⟩
      rw [Int.toNat_natCast, Int.toNat_natCast] at HE
      clear h1 hw
      have z1 : an + kn ≤ s.L := by omega
      have z0 : 0 < kn := by omega
      have z2 : (an : Int) ≤ (an : Int) + kn := by omega
      have z3 : ((an : Int) + kn).toNat = an + kn := by omega
      have z4 : (an : Int) + kn ≤ (s.L : Int) := by omega
      have z5 : ¬ s.L = an := by omega
      go_enter Tryz.func103, Tryz.ntmps103
      go_wp2_with fail
      refine (HC _ h).mono ?_
      rintro e w1 ⟨rfl, hb⟩
      rw [H1.out]
      generalize countR s.L s.es (an : Int) (kn : Int) = c at *
      have hx1 := HF.out.below hb
      obtain ⟨c0, c1, c2, c3, c4⟩ := hx1.head
      have HCL := fun c ty => run_clear w1 P ps an kn c z0 (by rw [hx1.len]; exact z1) hx1.row ty
      have HD := Lib.hid (cleared hx1 an kn z1)
      obtain ⟨d0, d1, _, _, _⟩ := HD.out.1.head
      have g := HD.out.1.good
      have HED := Lib.hid HD.out.1.edges; have HN := Lib.hid HD.out.1.num; have HP := Lib.hid HD.out.1.nil; have hcp := HD.out.1.room
      clear h HC hx1 c0 c1 c3 c4
      go_wp2_with fail
      generalize w1.setRow P (rowV (clrP ps an kn)) = w2 at *
      refine (without_any s.L p n cap s.es an kn _ g HED.out HN.out hcp HP.out (by omega)).mono ?_
      rintro e w3 ⟨p', n', cap', rfl, hn', hc', hp', hr', ha', hb3⟩
      have HS := Lib.hid (held_set (es' := laidS s.L s.es an kn false) HD.out.1 hb3 (laidS_good g _ _ _) hn' hc' hp' hr' ha' (fun i b hib => by
        have hu := HD.out.1.un i b hib
        have hkl : an + kn ≤ ps.length := by rw [HF.out.len]; exact z1
        rw [clrP_get ps an kn hkl] at hib
        rw [mem_laidS g HW.out]
        rw [if_neg]
        · exact hu
        · rintro ⟨x1, x2⟩
          rw [if_pos ⟨by omega, by omega⟩] at hib; cases hib))
      rw [HE.out.2.2]
      have hx3 := HD.out.1.below hb3
      obtain ⟨e0, e1, _, _, _⟩ := hx3.head
      have f0 := hx3.free 0; have f1 := hx3.free 1
      clear hn' hp' hx3 d0 d1 HCL
      go_wp2_with fail
      go_ret
      exact ⟨by rw [HE.out.1]; rfl, by rw [HE.out.2.1]; exact ⟨clrP ps an kn, p', n', cap', HS.out.1, ((Step.of_below hb).trans HD.out.2).trans HS.out.2.1, fun b off e => by
        rcases HS.out.2.2 b off e with h | h
        · exact .inl h
        · exact .inr (Nat.le_trans (Nat.le_trans hb.size HD.out.2.size) h)⟩⟩
  · have HE : Hid (decE s a k = countE s.L a k ∧ decS s a k = s) := Lib.hid (by
      have h0 : decE s a k = countE s.L a k := by unfold decE; rw [if_pos h1]
      exact ⟨h0, by unfold decS; rw [if_neg (by rw [h0]; exact h1)]⟩)
    have hb0 : (countE s.L a k != 0) = true := by rw [bne_iff_ne]; exact h1
    clear h1
    go_enter Tryz.func103, Tryz.ntmps103
    go_wp2_with fail
    refine (HC _ h).mono ?_
    rintro e w1 ⟨rfl, hb⟩
    generalize countE s.L a k = ce at *
    clear h HC
    go_wp2_with fail
    go_ret
    exact ⟨by rw [HE.out.1]; rfl, by rw [HE.out.2]; exact ⟨ps, p, n, cap, HF.out.below hb, Step.of_below hb, fun _ _ _ => .inl rfl⟩⟩
end
end Go.Proofs.YtfemgekhpcgliaaGreat.Bt
