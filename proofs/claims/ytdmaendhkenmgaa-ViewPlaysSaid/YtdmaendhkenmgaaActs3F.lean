/- The acts of the third layer's laws, in memory, with all bounds of their numbers; Light. (As Acts3, whose acts tell less; never both in one claim.) -/
import Derived.Deep.Slices
import Derived.Deep.Strs
import Derived.ChangeSame
import Derived.OpenShut
import Derived.Test.YtdmaendhkenmgaaBitsVar
namespace Go.Proofs.Ytdmaendhkenmgaa.Bt
open Go Go.RowKit Go.Shelf Go.ChangeShapes Go.WideShapes Go.Deep
set_option linter.unusedVariables false

structure Act3 where
  d : Int
  a : Int
  fr : Int
  n : Int
  x : Int
  s : ByteArray
def Act3.ok (a : Act3) : Prop := (0 ≤ a.d ∧ a.d ≤ 255) ∧ a.a ≤ 9223372036854775807 ∧ a.fr ≤ 9223372036854775807 ∧ 0 ≤ a.x ∧ a.s.size ≤ 9223372036854775807 ∧ -9223372036854775808 ≤ a.a ∧ (-9223372036854775808 ≤ a.n ∧ a.n ≤ 9223372036854775807) ∧ a.x < 18446744073709551616 ∧ -9223372036854775808 ≤ a.fr
def Act3Cells (w : World) (b off : Nat) (a : Act3) : Prop :=
  w.cell? ⟨b, off, none⟩ = some (.int .u8 a.d) ∧ w.cell? ⟨b, off + 1, none⟩ = some (.int .i64 a.a) ∧ w.cell? ⟨b, off + 2, none⟩ = some (.int .i64 a.fr) ∧ w.cell? ⟨b, off + 3, none⟩ = some (.int .i64 a.n) ∧ w.cell? ⟨b, off + 4, none⟩ = some (.int .u64 a.x) ∧ w.cell? ⟨b, off + 5, none⟩ = some (.string a.s)
def Acts3At (w : World) (p : Option Addr) (acts : List Act3) : Prop :=
  acts.length = 0 ∨ ∃ b off, p = some ⟨b, off, none⟩ ∧ b < w.heap.size ∧ ∀ i (hi : i < acts.length), Act3Cells w b (off + i * 6) acts[i] ∧ acts[i].ok
theorem Acts3At.below {w w' : World} {p : Option Addr} {acts : List Act3} (h : Acts3At w p acts) (hb : Below w.heap.size w w') : Acts3At w' p acts := by
  rcases h with h | ⟨b, off, rfl, hlt, hc⟩
  · exact .inl h
  · refine .inr ⟨b, off, rfl, Nat.lt_of_lt_of_le hlt hb.size, fun i hi => ?_⟩
    obtain ⟨⟨c0, c1, c2, c3, c4, c5⟩, hok⟩ := hc i hi
    exact ⟨⟨(hb.cell (p := ⟨b, off + i * 6, none⟩) hlt).trans c0, (hb.cell (p := ⟨b, off + i * 6 + 1, none⟩) hlt).trans c1, (hb.cell (p := ⟨b, off + i * 6 + 2, none⟩) hlt).trans c2, (hb.cell (p := ⟨b, off + i * 6 + 3, none⟩) hlt).trans c3, (hb.cell (p := ⟨b, off + i * 6 + 4, none⟩) hlt).trans c4, (hb.cell (p := ⟨b, off + i * 6 + 5, none⟩) hlt).trans c5⟩, hok⟩
section
variable {H : Type} {enc : TypeId × Value → H} {P : Program} {w : World} {base : Nat} {spare : Nat → Bool} {held : Bool}
theorem trod_struct6 {t : TypeId} {f0 f1 f2 f3 f4 f5 : Field} {fuel : Nat} {cs : List Value} {x : DataW H × List MemPlace} (ht : P.underlying t = some (.struct #[f0, f1, f2, f3, f4, f5])) (h : DataW.trod enc P w base spare held fuel t cs = some x) :
    ∃ y0 y1 y2 y3 y4 y5 n, cs.length = P.cellsOf t ∧ DataW.trod enc P w base spare held n f0.type ((cs.drop f0.offset).take (P.cellsOf f0.type)) = some y0 ∧
      DataW.trod enc P w base spare held n f1.type ((cs.drop f1.offset).take (P.cellsOf f1.type)) = some y1 ∧ DataW.trod enc P w base spare held n f2.type ((cs.drop f2.offset).take (P.cellsOf f2.type)) = some y2 ∧
      DataW.trod enc P w base spare held n f3.type ((cs.drop f3.offset).take (P.cellsOf f3.type)) = some y3 ∧ DataW.trod enc P w base spare held n f4.type ((cs.drop f4.offset).take (P.cellsOf f4.type)) = some y4 ∧
      DataW.trod enc P w base spare held n f5.type ((cs.drop f5.offset).take (P.cellsOf f5.type)) = some y5 := by
  obtain ⟨xs, n, _, rfl, hl, hlen, hf⟩ := DataW.trod_struct ht h
  match xs, hlen with
  | [y0, y1, y2, y3, y4, y5], _ => exact ⟨y0, y1, y2, y3, y4, y5, n, hl, by simpa using hf 0 f0 rfl, by simpa using hf 1 f1 rfl, by simpa using hf 2 f2 rfl, by simpa using hf 3 f3 rfl, by simpa using hf 4 f4 rfl, by simpa using hf 5 f5 rfl⟩
end
theorem Try.cellsAct3 : Try.prog.cellsOf 36 = 6 := by kernel_rfl
theorem Try.cellsU8 : Try.prog.cellsOf 5 = 1 := by kernel_rfl
theorem Try.cellsU64 : Try.prog.cellsOf 34 = 1 := by kernel_rfl
theorem Try.cellsStr : Try.prog.cellsOf 9 = 1 := by kernel_rfl
theorem nonneg_u64 {n : Int} (h : (Lit.int .u64 n).wf = true) : 0 ≤ n := by
  have h2 : IntKind.u64.min ≤ n := by
    simp [Lit.wf] at h
    exact h.1
  have h3 : IntKind.u64.min = 0 := by decide
  omega

set_option maxRecDepth 100000 in
theorem acts3_open {H : Type} {enc : TypeId × Value → H} {w : World} {fuel : Nat} {v : Value} {x : DataW H × List MemPlace} {a : Option Addr} {len cap : Nat} (hv : v = .slice a len cap)
    (h : DataW.trod enc Try.prog w 0 (fun _ => true) true fuel 22 v.cells.toList = some x) : ∃ acts : List Act3, acts.length = len ∧ len ≤ 9223372036854775807 ∧ Acts3At w a acts := by
  subst hv
  rcases open_slice Try.underlying22 h with ⟨h1, _⟩ | ⟨ad, len', cap', m, n, D, Pl, h1, _, hl, hm, hmm, _, hi⟩
  · simp [Value.cells] at h1
    exact ⟨[], by simp [h1.2.1], by omega, .inl rfl⟩
  · simp [Value.cells] at h1
    obtain ⟨rfl, rfl, rfl⟩ := h1
    unfold maxLen at hm
    have hlm : len ≤ m := by rw [hmm]; simp; omega
    have key : ∀ i, i < len → ∃ act : Act3, act.ok ∧ w.cell? (ad.add (i * 6)) = some (.int .u8 act.d) ∧ w.cell? (ad.add (i * 6 + 1)) = some (.int .i64 act.a) ∧ w.cell? (ad.add (i * 6 + 2)) = some (.int .i64 act.fr) ∧ w.cell? (ad.add (i * 6 + 3)) = some (.int .i64 act.n) ∧ w.cell? (ad.add (i * 6 + 4)) = some (.int .u64 act.x) ∧ w.cell? (ad.add (i * 6 + 5)) = some (.string act.s) := by
      intro i hilt
      obtain ⟨cs', hc, ht⟩ := hi i (by omega)
      rw [Try.cellsAct3] at hc
      obtain ⟨_, hcl, hat⟩ := World.cells?_some hc
      obtain ⟨y0, y1, y2, y3, y4, y5, k, _, e0, e1, e2, e3, e4, e5⟩ := trod_struct6 Try.underlying36 ht
      match cs', hcl with
      | [c0, c1, c2, c3, c4, c5], _ =>
        simp only [Try.cellsU8, Try.cellsInt, Try.cellsU64, Try.cellsStr, List.drop_zero, List.drop_succ_cons, List.take_succ_cons, List.take_zero] at e0 e1 e2 e3 e4 e5
        obtain ⟨q0, h0, _, w0⟩ := DataW.trod_int Try.underlying5 e0
        obtain ⟨q1, h1, _, w1⟩ := DataW.trod_int Try.underlying3 e1
        obtain ⟨q2, h2, _, w2⟩ := DataW.trod_int Try.underlying3 e2
        obtain ⟨q3, h3, _, w3⟩ := DataW.trod_int Try.underlying3 e3
        obtain ⟨q4, h4, _, w4⟩ := DataW.trod_int Try.underlying34 e4
        obtain ⟨q5, h5, _, w5⟩ := DataW.trod_string Try.underlying9 e5
        simp only [List.cons.injEq, and_true] at h0 h1 h2 h3 h4 h5
        subst h0 h1 h2 h3 h4 h5
        unfold maxLen at w5
        have b1 := bounds_i64 w1; have b2 := bounds_i64 w2; have b3 := bounds_i64 w3
        have a0 := hat 0 (by omega); have a1 := hat 1 (by omega); have a2 := hat 2 (by omega); have a3 := hat 3 (by omega); have a4 := hat 4 (by omega); have a5 := hat 5 (by omega)
        rw [add_add] at a0 a1 a2 a3 a4 a5
        exact ⟨⟨q0, q1, q2, q3, q4, q5⟩, ⟨bounds_u8 w0, b1.2, b2.2, nonneg_u64 w4, w5, b1.1, b3, (by have := bounds_u64 w4; show q4 < _; omega), b2.1⟩, by simpa using a0, by simpa using a1, by simpa using a2, by simpa using a3, by simpa using a4, by simpa using a5⟩
    refine ⟨(List.range len).attach.map fun i => Classical.choose (key i.1 (List.mem_range.1 i.2)), by simp, by omega, ?_⟩
    by_cases h0 : len = 0
    · subst h0; exact .inl rfl
    · have k0 := (Classical.choose_spec (key 0 (by omega))).2.1
      obtain ⟨b, off, spot⟩ := ad
      have hspot : spot = none := by simpa [Addr.add] using World.cell?_spot k0
      subst hspot
      refine .inr ⟨b, off, rfl, World.block_lt_of_cell? _ _ (by simpa [Addr.add] using k0), fun i hil => ?_⟩
      have hil' : i < len := by simpa using hil
      have ks := Classical.choose_spec (key i hil')
      have eA : ∀ j, (⟨b, off, none⟩ : Addr).add j = ⟨b, off + j, none⟩ := fun j => by
        simp only [Addr.add]; split <;> simp_all
      simp only [List.getElem_map, List.getElem_attach, List.getElem_range]
      exact ⟨⟨(congrArg w.cell? (eA _).symm).trans ks.2.1, (congrArg w.cell? (eA (i * 6 + 1)).symm).trans ks.2.2.1, (congrArg w.cell? (eA (i * 6 + 2)).symm).trans ks.2.2.2.1, (congrArg w.cell? (eA (i * 6 + 3)).symm).trans ks.2.2.2.2.1, (congrArg w.cell? (eA (i * 6 + 4)).symm).trans ks.2.2.2.2.2.1, (congrArg w.cell? (eA (i * 6 + 5)).symm).trans ks.2.2.2.2.2.2⟩, ks.1⟩

/-- are acts gone through? -/
def lightB (acts : List Act3) : Bool := decide (acts.length ≤ 50) && acts.all fun a => decide (a.s.size ≤ 6000)
def LightRel (acts : List Act3) (w : World) (i : Value) (wr : World) : Prop := ∃ k : Nat, k ≤ acts.length ∧ i = .int .i64 k ∧ k ≤ 50 ∧ (∀ j (hj : j < acts.length), j < k → acts[j].s.size ≤ 6000) ∧ Below w.heap.size w wr
theorem light_any (p : Option Addr) (c : Nat) (acts : List Act3) (hlen : acts.length ≤ 9223372036854775807) (w : World) (h : Acts3At w p acts) :
    Calls Try.prog 9 #[.slice p acts.length c] w fun e w' => e = .returned (.bool (lightB acts)) ∧ Below w.heap.size w w' := by
  go_enter Try.func9, Try.ntmps9
  go_wp2_with fail
  go_loopw [7] (fun i wr => LightRel acts w i wr) (fun i _ => acts.length - (intOf i).toNat)
  case atStart => exact ⟨0, Nat.zero_le _, rfl, Nat.zero_le _, fun _ _ h => absurd h (Nat.not_lt_zero _), Below.refl _ _⟩
  case round =>
    obtain ⟨k, hk, rfl, hk50, hsz, hB⟩ := hrel
    have HSZ := Lib.hid hsz
    clear hsz
    by_cases hlt : k < acts.length
    · have HA := h.below hB
      rcases HA with h' | ⟨b, off, rfl, hbl, hc⟩
      · omega
      · obtain ⟨⟨e0, e1, e2, e3, e4, e5⟩, hok⟩ := hc k hlt
        obtain ⟨act, hact⟩ : ∃ act, acts[k] = act := ⟨_, rfl⟩
        rw [hact] at e0 e1 e2 e3 e4 e5 hok
        obtain ⟨d, a, fr, n, x, s⟩ := act
        simp only at e0 e1 e2 e3 e4 e5
        have hs9 := hok.2.2.2.2.1
        simp only at hs9
        have HACT := Lib.hid hact
        have BA : Below w.heap.size w (wr.alloc (.cells #[.int .u8 d, .int .i64 a, .int .i64 fr, .int .i64 n, .int .u64 x, .string s] 36)) := hB.alloc hB.size _
        clear hc hact hok h
        by_cases c50 : 50 ≤ k
        · have HL : Hid (lightB acts = false) := Lib.hid (by unfold lightB; rw [decide_eq_false (by omega)]; rfl)
          have d50 : decide (50 ≤ (k : Int)) = true := by simp; omega
          go_wp2_with fail
          go_ret
          exact ⟨by rw [HL.out]; rfl, BA⟩
        · have d50 : decide (50 ≤ (k : Int)) = false := by simp; omega
          by_cases c6 : 6000 < s.size
          · have HL : Hid (lightB acts = false) := Lib.hid (by
              unfold lightB
              rw [Bool.and_eq_false_iff]; right
              rw [List.all_eq_false]
              exact ⟨acts[k], List.getElem_mem _, by rw [HACT.out]; simp; omega⟩)
            have d6 : decide (6000 < (s.size : Int)) = true := by simp; omega
            go_wp2_with fail
            go_ret
            exact ⟨by rw [HL.out]; rfl, BA⟩
          · have d6 : decide (6000 < (s.size : Int)) = false := by simp; omega
            go_wp2_with fail
            go_roundw
            case rel => exact ⟨k + 1, by omega, by go_num, by omega, fun j hj hjk => by
              by_cases e : j = k
              · subst e; rw [HACT.out]; show s.size ≤ 6000; omega
              · exact HSZ.out j hj (by omega), BA⟩
            case measure => simp [intOf]; omega
    · have hke : k = acts.length := by omega
      have HL : Hid (lightB acts = true) := Lib.hid (by
        unfold lightB
        rw [decide_eq_true (by omega), Bool.true_and, List.all_eq_true]
        intro a ha
        obtain ⟨j, hj, rfl⟩ := List.getElem_of_mem ha
        simp only [decide_eq_true_iff]
        exact HSZ.out j hj (by omega))
      clear hke
      go_wp2_with fail
      go_ret
      exact ⟨by rw [HL.out]; rfl, hB⟩
end Go.Proofs.Ytdmaendhkenmgaa.Bt
