/- ArCopy, ArDec. -/
import Derived.Test.YtelfddkfddnenaaGreatMoO
section
namespace Go.Proofs.YtelfddkfddnenaaGreat.Bt
open Go Go.RowKit Go.Shelf
set_option linter.unusedVariables false

theorem strL_list (l : List UInt8) : (strL l).data.toList = l := rfl
theorem strL_size (l : List UInt8) : (strL l).size = l.length := rfl
theorem bytes_len (x : ByteArray) : x.data.toList.length = x.size := by rw [Array.length_toList]; rfl
section
variable {A P n cap : Nat} {s : ASt} {ps : List (Option Nat)} {p : Option Addr} {w : World}
theorem put_no (h : ArX A s P ps p n cap w) (a : Int) (ha : a ≤ 9223372036854775807) (x : ByteArray) (hx : x.size ≤ 9223372036854775807) (hn : thereE s.L s.es a x.size ≠ 0) :
    Calls Tryz.prog 80 #[.pointer (some ⟨A, 0, none⟩), .int .i64 a, .string x] w (PutPost A P s ps p a x.data.toList w) := by
  have hb0 : (thereE s.L s.es a x.size != 0) = true := by rw [bne_iff_ne]; exact hn
  have HNE := Lib.hid hn
  have HX := Lib.hid h
  have HL := Lib.hid (bytes_len x)
  clear hn h
  go_enter Tryz.func80, Tryz.ntmps80
  go_wp2_with fail
  have B0 : Below w.heap.size w ((w.alloc (.cells #[.pointer (some ⟨A, 0, none⟩)] 26)).alloc (.cells #[.string x] 9)) := ((Below.refl w.heap.size w).alloc (Nat.le_refl _) _).alloc (by simp) _
  refine (there_any (HX.out.below B0) a x.size ha).mono ?_
  rintro e w1 ⟨rfl, hb⟩
  have B1 := B0.trans (hb.mono B0.size)
  clear hb
  go_wp2_with fail
  go_ret
  refine ⟨by rw [HL.out]; rfl, ps, p, n, cap, ?_, Step.of_below B1, fun _ _ _ => .inl rfl⟩
  unfold putS
  rw [HL.out, if_neg HNE.out]; exact HX.out.below B1
theorem put_any (h : ArX A s P ps p n cap w) (a : Int) (ha : a ≤ 9223372036854775807) (x : ByteArray) (hx : x.size ≤ 9223372036854775807) :
    Calls Tryz.prog 80 #[.pointer (some ⟨A, 0, none⟩), .int .i64 a, .string x] w (PutPost A P s ps p a x.data.toList w) := by
  by_cases hn : thereE s.L s.es a x.size = 0
  · have ht : thereB s.L s.es a x.size = true := by
      unfold thereE at hn
      cases hq : thereB s.L s.es a x.size with
      | true => rfl
      | false => rw [hq] at hn; cases hn
    obtain ⟨t0, t1, t2, t3⟩ := (there_iff h.good a x.size).1 ht
    obtain ⟨an, rfl⟩ : ∃ an : Nat, a = an := ⟨a.toNat, by omega⟩
    exact callsIn_wide.1 (put_yes h an x hx hn)
  · exact put_no h a ha x hx hn

/-- Copy -/
def copyE (s : ASt) (to fr k : Int) : Int := if thereE s.L s.es to k ≠ 0 then 3 else if to = fr then 0 else thereE s.L s.es fr k
def copyS (s : ASt) (to fr k : Int) : ASt := if copyE s to fr k = 0 then (if to = fr then s else { s with mm := putM s.mm to.toNat (getM s.mm fr.toNat k.toNat) }) else s
theorem thereE_or (L : Nat) (es : List Nat) (a k : Int) : thereE L es a k = 0 ∨ thereE L es a k = 3 := by unfold thereE; split; exact .inl rfl; exact .inr rfl
def CopyPost (A P : Nat) (s : ASt) (ps : List (Option Nat)) (p : Option Addr) (to fr k : Int) (w : World) (e : Ending) (w' : World) : Prop :=
  e = .returned (.int .i64 (copyE s to fr k)) ∧ Turned A P ps p (copyS s to fr k) w w'
theorem copy_any (h : ArX A s P ps p n cap w) (to fr k : Int) (h1 : to ≤ 9223372036854775807) (h2 : fr ≤ 9223372036854775807) :
    Calls Tryz.prog 61 #[.pointer (some ⟨A, 0, none⟩), .int .i64 to, .int .i64 fr, .int .i64 k] w (CopyPost A P s ps p to fr k w) := by
  have HX := Lib.hid h
  have g := Lib.hid h.good
  clear h
  rcases thereE_or s.L s.es to k with ht | ht
  · have HT := Lib.hid ht
    by_cases he : to = fr
    · have HE : Hid (copyE s to fr k = 0 ∧ copyS s to fr k = s) := Lib.hid (by
        have : copyE s to fr k = 0 := by unfold copyE; rw [if_neg (by rw [ht]; simp), if_pos he]
        exact ⟨this, by unfold copyS; rw [if_pos this, if_pos he]⟩)
      have hd : (to == fr) = true := by simpa using he
      have HC := fun w (hw : ArX A s P ps p n cap w) => there_any hw to k h1
      clear he ht
      go_enter Tryz.func61, Tryz.ntmps61
      go_wp2_with fail
      refine (HC _ HX.out).mono ?_
      rintro e w1 ⟨rfl, hb⟩
      rw [HT.out]
      clear HC
      go_wp2_with fail
      go_ret
      exact ⟨by rw [HE.out.1]; rfl, by rw [HE.out.2]; exact ⟨ps, p, n, cap, HX.out.below hb, Step.of_below hb, fun _ _ _ => .inl rfl⟩⟩
    · have hd : (to == fr) = false := by simpa using he
      rcases thereE_or s.L s.es fr k with hf | hf
      · have hk : 0 ≤ k ∧ k ≤ 4294967296 := by
          have hb : thereB s.L s.es fr k = true := by
            unfold thereE at hf
            cases hq : thereB s.L s.es fr k with
            | true => rfl
            | false => rw [hq] at hf; cases hf
          obtain ⟨t0, t1, t2, _⟩ := (there_iff g.out fr k).1 hb
          have := g.out.small
          omega
        have hlen : ((getM s.mm fr.toNat k.toNat).length : Int) = k := by rw [getM_length]; omega
        have HE : Hid (copyE s to fr k = 0 ∧ copyS s to fr k = { s with mm := putM s.mm to.toNat (getM s.mm fr.toNat k.toNat) } ∧ putS s to (getM s.mm fr.toNat k.toNat) = copyS s to fr k) := Lib.hid (by
          have h0 : copyE s to fr k = 0 := by unfold copyE; rw [if_neg (by rw [ht]; simp), if_neg he, hf]
          have h1 : copyS s to fr k = { s with mm := putM s.mm to.toNat (getM s.mm fr.toNat k.toNat) } := by unfold copyS; rw [if_pos h0, if_neg he]
          exact ⟨h0, h1, by rw [h1]; unfold putS; rw [hlen, if_pos ht]⟩)
        have HF := Lib.hid hf
        have HLEN := Lib.hid hlen
        have HC := fun w (hw : ArX A s P ps p n cap w) => there_any hw to k h1
        have HB := fun w (hw : ArX A s P ps p n cap w) => bytes_any hw fr k h2
        have HP := fun w (hw : ArX A s P ps p n cap w) => put_any hw to h1 (strL (getM s.mm fr.toNat k.toNat)) (by rw [strL_size]; omega)
        clear he ht hf hlen
        go_enter Tryz.func61, Tryz.ntmps61
        go_wp2_with fail
        refine (HC _ HX.out).mono ?_
        rintro e w1 ⟨rfl, hb⟩
        rw [HT.out]
        have HX1 := Lib.hid (HX.out.below hb)
        clear HC
        go_wp2_with fail
        refine (HB _ HX1.out).mono ?_
        rintro e w2 ⟨rfl, hb2⟩
        rw [HF.out, if_pos rfl]
        have HX2 := Lib.hid (HX1.out.below hb2)
        clear HB
        generalize hst : strL (getM s.mm fr.toNat k.toNat) = str at *
        have HST := Lib.hid hst
        clear hst
        go_wp2_with fail
        refine (HP _ HX2.out).mono ?_
        rintro e w3 ⟨rfl, ht3⟩
        have hsl : str.data.toList = getM s.mm fr.toNat k.toNat := by rw [← HST.out]; rfl
        rw [hsl, HLEN.out, HT.out]
        rw [hsl, HE.out.2.2] at ht3
        have HT3 := Lib.hid ht3
        clear ht3 hsl HP
        go_wp2_with fail
        go_ret
        exact ⟨by rw [HE.out.1]; rfl, Turned.trans (s' := s) (Step.of_below (hb.trans (hb2.mono hb.size))) (fun _ _ _ => .inl rfl) HT3.out⟩
      · have HE : Hid (copyE s to fr k = 3 ∧ copyS s to fr k = s) := Lib.hid (by
          have h0 : copyE s to fr k = 3 := by unfold copyE; rw [if_neg (by rw [ht]; simp), if_neg he, hf]
          exact ⟨h0, by unfold copyS; rw [h0]; rfl⟩)
        have HF := Lib.hid hf
        have HC := fun w (hw : ArX A s P ps p n cap w) => there_any hw to k h1
        have HB := fun w (hw : ArX A s P ps p n cap w) => bytes_any hw fr k h2
        clear he ht hf
        go_enter Tryz.func61, Tryz.ntmps61
        go_wp2_with fail
        refine (HC _ HX.out).mono ?_
        rintro e w1 ⟨rfl, hb⟩
        rw [HT.out]
        have HX1 := Lib.hid (HX.out.below hb)
        clear HC
        go_wp2_with fail
        refine (HB _ HX1.out).mono ?_
        rintro e w2 ⟨rfl, hb2⟩
        rw [HF.out, if_neg (by decide)]
        have B2 := hb.trans (hb2.mono hb.size)
        clear HB
        go_wp2_with fail
        go_ret
        exact ⟨by rw [HE.out.1]; rfl, by rw [HE.out.2]; exact ⟨ps, p, n, cap, HX.out.below B2, Step.of_below B2, fun _ _ _ => .inl rfl⟩⟩
  · have HT := Lib.hid ht
    have HE : Hid (copyE s to fr k = 3 ∧ copyS s to fr k = s) := Lib.hid (by
      have h0 : copyE s to fr k = 3 := by unfold copyE; rw [if_pos (by rw [ht]; decide)]
      exact ⟨h0, by unfold copyS; rw [h0]; rfl⟩)
    have HC := fun w (hw : ArX A s P ps p n cap w) => there_any hw to k h1
    clear ht
    go_enter Tryz.func61, Tryz.ntmps61
    go_wp2_with fail
    refine (HC _ HX.out).mono ?_
    rintro e w1 ⟨rfl, hb⟩
    rw [HT.out]
    clear HC
    go_wp2_with fail
    go_ret
    exact ⟨by rw [HE.out.1]; rfl, by rw [HE.out.2]; exact ⟨ps, p, n, cap, HX.out.below hb, Step.of_below hb, fun _ _ _ => .inl rfl⟩⟩
end
end Go.Proofs.YtelfddkfddnenaaGreat.Bt
end
section
namespace Go.Proofs.YtelfddkfddnenaaGreat.Bt
open Go Go.RowKit Go.Shelf
set_option linter.unusedVariables false

/-- the pages from a on, k of them, gone -/
def clrP (ps : List (Option Nat)) (a k : Nat) : List (Option Nat) := ps.take a ++ List.replicate k none ++ ps.drop (a + k)
theorem clrP_length (ps : List (Option Nat)) (a k : Nat) (h : a + k ≤ ps.length) : (clrP ps a k).length = ps.length := by simp [clrP]; omega
theorem clrP_get (ps : List (Option Nat)) (a k : Nat) (h : a + k ≤ ps.length) (i : Nat) : (clrP ps a k)[i]? = if a ≤ i ∧ i < a + k then some none else ps[i]? := by
  unfold clrP
  by_cases h1 : i < a
  · rw [List.append_assoc, List.getElem?_append_left (by rw [List.length_take]; omega), List.getElem?_take, if_pos h1, if_neg (by omega)]
  · by_cases h2 : i < a + k
    · rw [List.append_assoc, List.getElem?_append_right (by rw [List.length_take]; omega), List.length_take, List.getElem?_append_left (by rw [List.length_replicate]; omega), List.getElem?_replicate, if_pos (by omega), if_pos (by omega)]
    · rw [List.getElem?_append_right (by rw [List.length_append, List.length_take, List.length_replicate]; omega), List.length_append, List.length_take, List.length_replicate, List.getElem?_drop, if_neg (by omega)]
      congr 1; omega
def clrM (m : Nat → UInt8) (a k : Nat) : Nat → UInt8 := fun i => if a * 4096 ≤ i ∧ i < (a + k) * 4096 then 0 else m i

theorem run_clear (w : World) (P : Nat) (ps : List (Option Nat)) (a k c : Nat) (hk : 0 < k) (h : a + k ≤ ps.length) (hP : w.heap[P]? = some (.cells (rowV ps) 171 (0, 0))) (ty : TypeId) :
    (Builtin.clear_ #[168] ty #[.slice (some ⟨P, a, none⟩) k c]).run Tryz.prog w = .ok (.tuple #[]) (w.setRow P (rowV (clrP ps a k))) := by
  obtain ⟨i0, hi, hz0, hz1, hz2⟩ := info_parts Tryz.infoPtr
  have hz : (Builtin.zeroCells (Value.pointer none).cells k).toList = List.replicate k (.pointer none) := by
    apply List.ext_getElem?
    intro j
    by_cases hj : j < k
    · simp [Builtin.zeroCells, Value.cells, hj, Nat.mod_one]
    · rw [List.getElem?_eq_none (by simp [Builtin.zeroCells, Value.cells]; omega), List.getElem?_eq_none (by simp; omega)]
  have hst := run_storeCells_at Tryz.prog P a 171 (List.replicate k (.pointer none)) 0 (rowV ps) w hP (by simp [rowV]; omega) (fun v hv => by rw [List.eq_of_mem_replicate hv]; rfl)
  have he : ((rowV ps).toList.take (a + 0) ++ List.replicate k (Value.pointer none) ++ (rowV ps).toList.drop (a + 0 + (List.replicate k (Value.pointer none)).length)).toArray = rowV (clrP ps a k) := by
    simp [rowV, clrP, ptrV, List.map_take, List.map_drop, List.map_replicate]
  rw [he] at hst
  obtain ⟨k', rfl⟩ : ∃ k', k = k' + 1 := ⟨k - 1, by omega⟩
  simp [Builtin.clear_, run_underlying Tryz.underlying168, zeroValue, typeInfo, hi, hz0, hz]
  rw [hst]; rfl
section
variable {A P n cap : Nat} {s : ASt} {ps : List (Option Nat)} {p : Option Addr} {w : World}
theorem cleared (h : ArX A s P ps p n cap w) (a k : Nat) (hk : a + k ≤ s.L) :
    ArX A { s with mm := clrM s.mm a k } P (clrP ps a k) p n cap (w.setRow P (rowV (clrP ps a k))) ∧ Step A P ps (clrP ps a k) w (w.setRow P (rowV (clrP ps a k))) := by
  have hkl : a + k ≤ ps.length := by rw [h.len]; exact hk
  have hget : ∀ i b : Nat, (clrP ps a k)[i]? = some (some b) → ps[i]? = some (some b) ∧ ¬ (a ≤ i ∧ i < a + k) := fun i b hi => by
    rw [clrP_get ps a k hkl] at hi
    by_cases c : a ≤ i ∧ i < a + k
    · rw [if_pos c] at hi; cases hi
    · rw [if_neg c] at hi; exact ⟨hi, c⟩
  refine ⟨{ h with
    len := by rw [clrP_length ps a k hkl]; exact h.len
    hd := (setRow_other _ _ _ _ h.ap).trans h.hd
    row := setRow_heap _ _ _ _ _ _ h.row
    pg := fun i b hi => ?_
    no := fun i hi j hj => ?_
    un := fun i b hi => h.un i b (hget i b hi).1
    edges := h.edges.keep fun b off e => setRow_other _ _ _ _ (h.eap b off e).2.1
    apg := fun i b hi => h.apg i b (hget i b hi).1
    one := fun i j b hi hj => h.one i j b (hget i b hi).1 (hget j b hj).1
    eap := fun b off e => ⟨(h.eap b off e).1, (h.eap b off e).2.1, fun i hi => (h.eap b off e).2.2 i (hget i b hi).1⟩ }, ⟨rfl, rfl, rfl, by rw [setRow_size]; exact Nat.le_refl _, fun k _ hn => setRow_other _ _ _ _ (fun e => hn (.inr (.inl e))), fun i b hi => .inl (hget i b hi).1⟩⟩
  · obtain ⟨h1, h2⟩ := hget i b hi
    refine (setRow_other _ _ _ _ (h.apg i b h1).2).trans ((h.pg i b h1).trans ?_)
    rw [pg_ext fun j hj => ?_]
    show s.mm (i * 4096 + j) = clrM s.mm a k (i * 4096 + j)
    unfold clrM
    rw [if_neg]
    rintro ⟨x1, x2⟩
    exact h2 ⟨by omega, by omega⟩
  · show clrM s.mm a k (i * 4096 + j) = 0
    unfold clrM
    by_cases c : a * 4096 ≤ i * 4096 + j ∧ i * 4096 + j < (a + k) * 4096
    · rw [if_pos c]
    · rw [if_neg c]
      rw [clrP_get ps a k hkl] at hi
      rw [if_neg (by rintro ⟨x1, x2⟩; exact c ⟨by omega, by omega⟩)] at hi
      exact h.no i hi j hj

def decE (s : ASt) (a k : Int) : Int := if countE s.L a k ≠ 0 then countE s.L a k else if countR s.L s.es a k < k then 8 else 0
def decS (s : ASt) (a k : Int) : ASt := if decE s a k = 0 then { s with es := laidS s.L s.es a k false, mm := clrM s.mm a.toNat k.toNat } else s
end
end Go.Proofs.YtelfddkfddnenaaGreat.Bt
end
