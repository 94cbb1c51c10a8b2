/- The contracts of Put and Copy, for all arguments. -/
import Derived.Test.YtmnhpmgffhpoeaaGreatArPut
namespace Go.Proofs.YtmnhpmgffhpoeaaGreat.Bt
open Go Go.RowKit Go.Shelf
set_option linter.unusedVariables false

theorem strL_list (l : List UInt8) : (strL l).data.toList = l := rfl
theorem strL_size (l : List UInt8) : (strL l).size = l.length := rfl
theorem bytes_len (x : ByteArray) : x.data.toList.length = x.size := by rw [Array.length_toList]; rfl
section
variable {A P n cap : Nat} {s : ASt} {ps : List (Option Nat)} {p : Option Addr} {w : World}
theorem put_no (h : ArX A s P ps p n cap w) (a : Int) (ha : a ≤ 9223372036854775807) (x : ByteArray) (hx : x.size ≤ 9223372036854775807) (hn : thereE s.L s.es a x.size ≠ 0) :
    Calls Tryz.prog 55 #[.pointer (some ⟨A, 0, none⟩), .int .i64 a, .string x] w (PutPost A P s ps p a x.data.toList w) := by
  have hb0 : (thereE s.L s.es a x.size != 0) = true := by rw [bne_iff_ne]; exact hn
  have HNE := Lib.hid hn
  have HX := Lib.hid h
  have HL := Lib.hid (bytes_len x)
  clear hn h
  go_enter Tryz.func55, Tryz.ntmps55
  go_wp2_with fail
  have B0 : Below w.heap.size w ((w.alloc (.cells #[.pointer (some ⟨A, 0, none⟩)] 26)).alloc (.cells #[.string x] 9)) := ((Below.refl w.heap.size w).alloc (Nat.le_refl _) _).alloc (by simp) _
  refine (there_any (HX.out.below B0) a x.size ha).mono ?_
  rintro e w1 ⟨rfl, hb⟩
  have B1 := B0.trans (hb.mono B0.size)
  clear hb
  go_wp2_with fail
  go_ret
  refine ⟨by rw [HL.out]; rfl, ps, p, n, cap, ?_, Step.of_below B1, fun _ _ _ => .inl rfl⟩
  unfold putS
  rw [HL.out, if_neg HNE.out]; exact HX.out.below B1
theorem put_any (h : ArX A s P ps p n cap w) (a : Int) (ha : a ≤ 9223372036854775807) (x : ByteArray) (hx : x.size ≤ 9223372036854775807) :
    Calls Tryz.prog 55 #[.pointer (some ⟨A, 0, none⟩), .int .i64 a, .string x] w (PutPost A P s ps p a x.data.toList w) := by
  by_cases hn : thereE s.L s.es a x.size = 0
  · have ht : thereB s.L s.es a x.size = true := by
      unfold thereE at hn
      cases hq : thereB s.L s.es a x.size with
      | true => rfl
      | false => rw [hq] at hn; cases hn
    obtain ⟨t0, t1, t2, t3⟩ := (there_iff h.good a x.size).1 ht
    obtain ⟨an, rfl⟩ : ∃ an : Nat, a = an := ⟨a.toNat, by omega⟩
    exact callsIn_wide.1 (put_yes h an x hx hn)
  · exact put_no h a ha x hx hn

/-- Copy -/
def copyE (s : ASt) (to fr k : Int) : Int := if thereE s.L s.es to k ≠ 0 then 3 else if to = fr then 0 else thereE s.L s.es fr k
def copyS (s : ASt) (to fr k : Int) : ASt := if copyE s to fr k = 0 then (if to = fr then s else { s with mm := putM s.mm to.toNat (getM s.mm fr.toNat k.toNat) }) else s
theorem thereE_or (L : Nat) (es : List Nat) (a k : Int) : thereE L es a k = 0 ∨ thereE L es a k = 3 := by unfold thereE; split; exact .inl rfl; exact .inr rfl
def CopyPost (A P : Nat) (s : ASt) (ps : List (Option Nat)) (p : Option Addr) (to fr k : Int) (w : World) (e : Ending) (w' : World) : Prop :=
  e = .returned (.int .i64 (copyE s to fr k)) ∧ Turned A P ps p (copyS s to fr k) w w'
theorem copy_any (h : ArX A s P ps p n cap w) (to fr k : Int) (h1 : to ≤ 9223372036854775807) (h2 : fr ≤ 9223372036854775807) :
    Calls Tryz.prog 32 #[.pointer (some ⟨A, 0, none⟩), .int .i64 to, .int .i64 fr, .int .i64 k] w (CopyPost A P s ps p to fr k w) := by
  have HX := Lib.hid h
  have g := Lib.hid h.good
  clear h
  rcases thereE_or s.L s.es to k with ht | ht
  · have HT := Lib.hid ht
    by_cases he : to = fr
    · have HE : Hid (copyE s to fr k = 0 ∧ copyS s to fr k = s) := Lib.hid (by
        have : copyE s to fr k = 0 := by unfold copyE; rw [if_neg (by rw [ht]; simp), if_pos he]
        exact ⟨this, by unfold copyS; rw [if_pos this, if_pos he]⟩)
      have hd : (to == fr) = true := by simpa using he
      have HC := fun w (hw : ArX A s P ps p n cap w) => there_any hw to k h1
      clear he ht
      go_enter Tryz.func32, Tryz.ntmps32
      go_wp2_with fail
      refine (HC _ HX.out).mono ?_
      rintro e w1 ⟨rfl, hb⟩
      rw [HT.out]
      clear HC
      go_wp2_with fail
      go_ret
      exact ⟨by rw [HE.out.1]; rfl, by rw [HE.out.2]; exact ⟨ps, p, n, cap, HX.out.below hb, Step.of_below hb, fun _ _ _ => .inl rfl⟩⟩
    · have hd : (to == fr) = false := by simpa using he
      rcases thereE_or s.L s.es fr k with hf | hf
      · have hk : 0 ≤ k ∧ k ≤ 4294967296 := by
          have hb : thereB s.L s.es fr k = true := by
            unfold thereE at hf
            cases hq : thereB s.L s.es fr k with
            | true => rfl
            | false => rw [hq] at hf; cases hf
          obtain ⟨t0, t1, t2, _⟩ := (there_iff g.out fr k).1 hb
          have := g.out.small
          omega
        have hlen : ((getM s.mm fr.toNat k.toNat).length : Int) = k := by rw [getM_length]; omega
        have HE : Hid (copyE s to fr k = 0 ∧ copyS s to fr k = { s with mm := putM s.mm to.toNat (getM s.mm fr.toNat k.toNat) } ∧ putS s to (getM s.mm fr.toNat k.toNat) = copyS s to fr k) := Lib.hid (by
          have h0 : copyE s to fr k = 0 := by unfold copyE; rw [if_neg (by rw [ht]; simp), if_neg he, hf]
          have h1 : copyS s to fr k = { s with mm := putM s.mm to.toNat (getM s.mm fr.toNat k.toNat) } := by unfold copyS; rw [if_pos h0, if_neg he]
          exact ⟨h0, h1, by rw [h1]; unfold putS; rw [hlen, if_pos ht]⟩)
        have HF := Lib.hid hf
        have HLEN := Lib.hid hlen
        have HC := fun w (hw : ArX A s P ps p n cap w) => there_any hw to k h1
        have HB := fun w (hw : ArX A s P ps p n cap w) => bytes_any hw fr k h2
        have HP := fun w (hw : ArX A s P ps p n cap w) => put_any hw to h1 (strL (getM s.mm fr.toNat k.toNat)) (by rw [strL_size]; omega)
        clear he ht hf hlen
        go_enter Tryz.func32, Tryz.ntmps32
        go_wp2_with fail
        refine (HC _ HX.out).mono ?_
        rintro e w1 ⟨rfl, hb⟩
        rw [HT.out]
        have HX1 := Lib.hid (HX.out.below hb)
        clear HC
        go_wp2_with fail
        refine (HB _ HX1.out).mono ?_
        rintro e w2 ⟨rfl, hb2⟩
        rw [HF.out, if_pos rfl]
        have HX2 := Lib.hid (HX1.out.below hb2)
        clear HB
        generalize hst : strL (getM s.mm fr.toNat k.toNat) = str at *
        have HST := Lib.hid hst
        clear hst
        go_wp2_with fail
        refine (HP _ HX2.out).mono ?_
        rintro e w3 ⟨rfl, ht3⟩
        have hsl : str.data.toList = getM s.mm fr.toNat k.toNat := by rw [← HST.out]; rfl
        rw [hsl, HLEN.out, HT.out]
        rw [hsl, HE.out.2.2] at ht3
        have HT3 := Lib.hid ht3
        clear ht3 hsl HP
        go_wp2_with fail
        go_ret
        exact ⟨by rw [HE.out.1]; rfl, Turned.trans (s' := s) (Step.of_below (hb.trans (hb2.mono hb.size))) (fun _ _ _ => .inl rfl) HT3.out⟩
      · have HE : Hid (copyE s to fr k = 3 ∧ copyS s to fr k = s) := Lib.hid (by
          have h0 : copyE s to fr k = 3 := by unfold copyE; rw [if_neg (by rw [ht]; simp), if_neg he, hf]
          exact ⟨h0, by unfold copyS; rw [h0]; rfl⟩)
        have HF := Lib.hid hf
        have HC := fun w (hw : ArX A s P ps p n cap w) => there_any hw to k h1
        have HB := fun w (hw : ArX A s P ps p n cap w) => bytes_any hw fr k h2
        clear he ht hf
        go_enter Tryz.func32, Tryz.ntmps32
        go_wp2_with fail
        refine (HC _ HX.out).mono ?_
        rintro e w1 ⟨rfl, hb⟩
        rw [HT.out]
        have HX1 := Lib.hid (HX.out.below hb)
        clear HC
        go_wp2_with fail
        refine (HB _ HX1.out).mono ?_
        rintro e w2 ⟨rfl, hb2⟩
        rw [HF.out, if_neg (by decide)]
        have B2 := hb.trans (hb2.mono hb.size)
        clear HB
        go_wp2_with fail
        go_ret
        exact ⟨by rw [HE.out.1]; rfl, by rw [HE.out.2]; exact ⟨ps, p, n, cap, HX.out.below B2, Step.of_below B2, fun _ _ _ => .inl rfl⟩⟩
  · have HT := Lib.hid ht
    have HE : Hid (copyE s to fr k = 3 ∧ copyS s to fr k = s) := Lib.hid (by
      have h0 : copyE s to fr k = 3 := by unfold copyE; rw [if_pos (by rw [ht]; decide)]
      exact ⟨h0, by unfold copyS; rw [h0]; rfl⟩)
    have HC := fun w (hw : ArX A s P ps p n cap w) => there_any hw to k h1
    clear ht
    go_enter Tryz.func32, Tryz.ntmps32
    go_wp2_with fail
    refine (HC _ HX.out).mono ?_
    rintro e w1 ⟨rfl, hb⟩
    rw [HT.out]
    clear HC
    go_wp2_with fail
    go_ret
    exact ⟨by rw [HE.out.1]; rfl, by rw [HE.out.2]; exact ⟨ps, p, n, cap, HX.out.below hb, Step.of_below hb, fun _ _ _ => .inl rfl⟩⟩
end
end Go.Proofs.YtmnhpmgffhpoeaaGreat.Bt
