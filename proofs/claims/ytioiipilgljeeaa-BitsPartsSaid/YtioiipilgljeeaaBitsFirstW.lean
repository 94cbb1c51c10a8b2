/- The walk of BitsFirst: for every length, every acts, every number it returns true. -/
import Derived.Test.YtioiipilgljeeaaBitsVar
namespace Go.Proofs.Ytioiipilgljeeaa.Bt
open Go Go.RowKit

def TrueAt (w : World) (e : Ending) (w' : World) : Prop := e = .returned (.bool true) ∧ Below w.heap.size w w'
/-- the last loop: between from and here none is as asked -/
def NoneRel (S L : Nat) (es : List Nat) (w : World) (f : Int) (i : Value) (x : World) : Prop := ∃ k : Int, f ≤ k ∧ i = .int .i64 k ∧ VarAt S L es x ∧ Below w.heap.size w x

set_option maxHeartbeats 2000000 in
theorem first_walk (a0 a2 : Int) (a3 : Bool) (p1 : Option Addr) (c1 : Nat) (acts : List ActL) (hacts : acts.length ≤ 9223372036854775807) (w : World) (h1 : ActsAt w p1 acts) (hl : acts.length ≤ 60) (h0 : a0 ≤ 2000) :
    Calls Try.prog 10 #[.int .i64 a0, .slice p1 acts.length c1, .int .i64 a2, .bool a3] w (TrueAt w) := by
  go_enter Try.func10, Try.ntmps10
  go_wp2_with fail
  refine (awake_calls _).mono ?_
  rintro e w1 ⟨rfl, hb1⟩
  go_wp2_with fail
  refine (new_any _ _).mono ?_
  rintro e w2 ⟨rfl, hb2⟩
  have hL := lenN_le a0
  generalize lenN a0 = L at *
  have B2 : Below w.heap.size w w2 := hb1.trans (hb2.mono hb1.size)
  go_wp2_with fail
  have HV := VarAt.new w2 L hL
  have B3 : Below w.heap.size w (w2.alloc (.cells #[.int .i64 (L : Int), .slice none 0 0] 35)) := B2.alloc B2.size _
  have hS : w.heap.size ≤ w2.heap.size := B2.size
  generalize w2.alloc (.cells #[.int .i64 (L : Int), .slice none 0 0] 35) = w3 at *
  generalize w2.heap.size = S at *
  go_loopw [29] (fun i x => RunRel S L w acts.length i x) (fun i _ => acts.length - (intOf i).toNat)
  case atStart => exact ⟨0, [], by omega, rfl, HV, B3⟩
  case round =>
    obtain ⟨k, es, hk, rfl, hv, hB⟩ := hrel
    have HVr := hv
    by_cases hlt : k < acts.length
    · have HA := h1.below hB
      rcases HA with h | ⟨b, off, rfl, hbl, hc⟩
      · rw [h] at hlt; simp at hlt
      · obtain ⟨⟨e0, e1, e2⟩, hok⟩ := hc k hlt
        obtain ⟨act, hact⟩ : ∃ act, acts[k] = act := ⟨_, rfl⟩
        rw [hact] at e0 e1 e2 hok
        obtain ⟨inn, fr, n⟩ := act
        simp only at e0 e1 e2
        have BA : Below w.heap.size w (wr.alloc (.cells #[.bool inn, .int .i64 fr, .int .i64 n] 42)) := hB.alloc hB.size _
        have HVa := hv.below ((Below.refl _ _).alloc (Nat.le_refl _) (.cells #[.bool inn, .int .i64 fr, .int .i64 n] 42))
        have HVk := HVa
        have hSl := hv.lt
        obtain ⟨p, m, cap, g, c0, c1', z0, z1, hr, hn, hcp, hpn, hne⟩ := HVa
        have HN := Lib.hid hn; have HP := Lib.hid hpn; have HQ := Lib.hid hne
        clear hn hpn hact hc h1 hne hv
        go_wp2_with fail
        refine (done_none L p m cap es ⟨inn, fr, n⟩ none 0 _ g hr HN.out hcp HP.out hok.2.1).mono ?_
        rintro e w5 ⟨p', n', cap', q, cq, tt, rfl, hn', hc', hp', hr', hpp', hb5⟩
        have HN' := Lib.hid hn'; have HP' := Lib.hid hp'; clear hn' hp'
        have HV5 := HVk.below hb5
        have HS := HV5.store (laidS_good g fr n inn) hr' HN'.out hc' HP'.out hpp' HQ.out (by simp; omega)
        have BF : Below w.heap.size w ((w5.setCell ⟨S, 0, none⟩ (.int .i64 (L : Int))).setCell ⟨S, 1, none⟩ (.slice p' n' cap')) := ((BA.trans (hb5.mono BA.size)).setCell (p := ⟨S, 0, none⟩) hS _).setCell (p := ⟨S, 1, none⟩) hS _
        obtain ⟨_, _, _, _, d0, d1, y0, y1, _⟩ := HV5
        go_wp2_with fail
        go_roundw
        case rel => exact ⟨k + 1, _, by omega, by go_num, HS, BF⟩
        case measure => simp [intOf]; omega
    · have HVr2 := Lib.hid HVr
      obtain ⟨p, m, cap, g, c0, c1', z0, z1, hr, hn, hcp, hpn, hne⟩ := hv
      have HN := Lib.hid hn; have HP := Lib.hid hpn
      clear hn hpn h1 hne HVr
      have hLs := g.small
      have hfi : 0 ≤ fI a2 := by unfold fI; split <;> omega
      go_wp2_with fail
      refine (first_any L p m cap es a2 a3 _ g hr HN.out).mono ?_
      rintro e w5 ⟨rfl, hb5⟩
      have HV5 := HVr2.out.below hb5
      have B5 : Below w.heap.size w w5 := hB.trans (hb5.mono hB.size)
      have HV5h := Lib.hid HV5
      obtain ⟨p5, m5, cap5, g5, d0, d1, _, _, hr5, hn5, _, _, _⟩ := HV5
      have HN5 := Lib.hid hn5
      clear hn5 c0 c1' z0 z1
      cases hf : firstB L es a2 a3 with
      | true =>
        obtain ⟨t1, t2, t3, t4, t5⟩ := first_true g hf
        have HT1 := Lib.hid t1; have HT5 := Lib.hid t5; have HF := Lib.hid hf
        clear t1 t5 hf
        generalize firstV L es a2 a3 = v at *
        go_wp2_with fail
        refine (len_any L p5 m5 cap5 _).mono ?_
        rintro e w6 ⟨rfl, hb6⟩
        have HV6 := HV5h.out.below hb6
        have B6 : Below w.heap.size w w6 := B5.trans (hb6.mono B5.size)
        have HV6h := Lib.hid HV6
        obtain ⟨p6, m6, cap6, g6, x0, x1, _, _, hr6, hn6, _, _, _⟩ := HV6
        have HN6 := Lib.hid hn6
        clear hn6 d0 d1
        go_wp2_with fail
        refine (has_any L p6 m6 cap6 es v _ g6 hr6 HN6.out).mono ?_
        rw [HT1.out]
        rintro e w7 ⟨rfl, hb7⟩
        have HV7 := HV6h.out.below hb7
        have B7 : Below w.heap.size w w7 := B6.trans (hb7.mono B6.size)
        have HV7h := Lib.hid HV7
        obtain ⟨p7, m7, cap7, g7, v0, v1, _, _, hr7, hn7, _, _, _⟩ := HV7
        have hbq : (a3 != a3) = false := by simp
        clear hn7 x0 x1
        go_wp2_with fail
        refine (len_any L p7 m7 cap7 _).mono ?_
        rintro e w8 ⟨rfl, hb8⟩
        have HVzh := Lib.hid (HV7h.out.below hb8)
        have BZ : Below w.heap.size w w8 := B7.trans (hb8.mono B7.size)
        clear v0 v1
        go_wp2_with fail
        all_goals
          go_loopw [15] (fun i x => NoneRel S L es w (fI a2) i x) (fun i _ => (v - intOf i).toNat)
          case atStart => exact ⟨_, by unfold fI; split <;> omega, rfl, HVzh.out, BZ⟩
          case round =>
            obtain ⟨k, hk, rfl, hv, hB9⟩ := hrel
            have hk0 : 0 ≤ k := by omega
            have HV9h := Lib.hid hv
            obtain ⟨p9, m9, cap9, g9, e0, e1, _, _, hr9, hn9, _, _, _⟩ := hv
            have HN9 := Lib.hid hn9
            clear hn9
            by_cases hlt9 : k < v
            · have HH : Hid (hasB L es k = !a3) := Lib.hid (HT5.out k hk hlt9)
              have hb9 : ((!a3) == a3) = false := by cases a3 <;> rfl
              go_wp2_with fail
              refine (has_any L p9 m9 cap9 es k _ g9 hr9 HN9.out).mono ?_
              rw [HH.out]
              rintro e w10 ⟨rfl, hb10⟩
              go_wp2_with fail
              go_roundw
              case rel => exact ⟨k + 1, by omega, rfl, HV9h.out.below hb10, hB9.trans (hb10.mono hB9.size)⟩
              case measure => simp [intOf]; omega
            · go_wp2_with fail
              go_ret
              exact ⟨rfl, hB9⟩
      | false =>
        obtain ⟨t1, t5⟩ := first_false g hf
        have HT5 := Lib.hid t5; have HF := Lib.hid hf; have HT1 := Lib.hid t1
        clear t1 t5 hf
        rw [HT1.out]
        go_wp2_with fail
        refine (len_any L p5 m5 cap5 _).mono ?_
        rintro e w6 ⟨rfl, hb6⟩
        have HVzh := Lib.hid (HV5h.out.below hb6)
        have BZ : Below w.heap.size w w6 := B5.trans (hb6.mono B5.size)
        clear d0 d1
        go_wp2_with fail
        all_goals
          go_loopw [15] (fun i x => NoneRel S L es w (fI a2) i x) (fun i _ => ((L : Int) - intOf i).toNat)
          case atStart => exact ⟨_, by unfold fI; split <;> omega, rfl, HVzh.out, BZ⟩
          case round =>
            obtain ⟨k, hk, rfl, hv, hB9⟩ := hrel
            have hk0 : 0 ≤ k := by omega
            have HV9h := Lib.hid hv
            obtain ⟨p9, m9, cap9, g9, e0, e1, _, _, hr9, hn9, _, _, _⟩ := hv
            have HN9 := Lib.hid hn9
            clear hn9
            by_cases hlt9 : k < (L : Int)
            · have HH : Hid (hasB L es k = !a3) := Lib.hid (HT5.out k hk hlt9)
              have hb9 : ((!a3) == a3) = false := by cases a3 <;> rfl
              go_wp2_with fail
              refine (has_any L p9 m9 cap9 es k _ g9 hr9 HN9.out).mono ?_
              rw [HH.out]
              rintro e w10 ⟨rfl, hb10⟩
              go_wp2_with fail
              go_roundw
              case rel => exact ⟨k + 1, by omega, rfl, HV9h.out.below hb10, hB9.trans (hb10.mono hB9.size)⟩
              case measure => simp [intOf]; omega
            · go_wp2_with fail
              go_ret
              exact ⟨rfl, hB9⟩

theorem first_out (a0 a2 : Int) (a3 : Bool) (p1 : Option Addr) (c1 len : Nat) (hlen : len ≤ 9223372036854775807) (w : World) (h : ¬ (len ≤ 60 ∧ a0 ≤ 2000)) :
    Calls Try.prog 10 #[.int .i64 a0, .slice p1 len c1, .int .i64 a2, .bool a3] w (TrueAt w) := by
  by_cases h1 : len ≤ 60
  · have h0 : ¬ a0 ≤ 2000 := fun h2 => h ⟨h1, h2⟩
    clear h
    go_enter Try.func10, Try.ntmps10
    go_wp2_with fail
    refine (awake_calls _).mono ?_
    rintro e w1 ⟨rfl, hb1⟩
    go_wp2_with fail
    go_ret
    exact ⟨rfl, hb1⟩
  · clear h
    go_enter Try.func10, Try.ntmps10
    go_wp2_with fail
    refine (awake_calls _).mono ?_
    rintro e w1 ⟨rfl, hb1⟩
    go_wp2_with fail
    go_ret
    exact ⟨rfl, hb1⟩
theorem first_all (a0 a2 : Int) (a3 : Bool) (p1 : Option Addr) (c1 len : Nat) (w : World) (h : ∃ acts : List ActL, acts.length = len ∧ len ≤ 9223372036854775807 ∧ ActsAt w p1 acts) :
    Calls Try.prog 10 #[.int .i64 a0, .slice p1 len c1, .int .i64 a2, .bool a3] w (TrueAt w) := by
  obtain ⟨acts, rfl, hlen, ha⟩ := h
  by_cases hc : acts.length ≤ 60 ∧ a0 ≤ 2000
  · exact first_walk a0 a2 a3 p1 c1 acts hlen w ha hc.1 hc.2
  · exact first_out a0 a2 a3 p1 c1 _ hlen w hc
end Go.Proofs.Ytioiipilgljeeaa.Bt
