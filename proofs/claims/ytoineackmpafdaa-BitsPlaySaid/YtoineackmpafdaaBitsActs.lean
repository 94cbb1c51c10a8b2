/- A slice of acts that came in, opened to its cells: its acts, each of them a bool and two integers. -/
import Derived.Test.YtoineackmpafdaaBitsLay
import Derived.Deep.Slices
import Derived.Deep.Strs
import Derived.ChangeSame
import Derived.OpenShut
namespace Go.Proofs.Ytoineackmpafdaa.Bt
open Go Go.RowKit Go.ChangeShapes Go.WideShapes Go.Deep

structure ActL where
  inn : Bool
  fr : Int
  n : Int
def ActL.ok (a : ActL) : Prop := -9223372036854775808 ≤ a.fr ∧ a.fr ≤ 9223372036854775807 ∧ -9223372036854775808 ≤ a.n ∧ a.n ≤ 9223372036854775807
def ActCells (w : World) (b off : Nat) (a : ActL) : Prop :=
  w.cell? ⟨b, off, none⟩ = some (.bool a.inn) ∧ w.cell? ⟨b, off + 1, none⟩ = some (.int .i64 a.fr) ∧ w.cell? ⟨b, off + 2, none⟩ = some (.int .i64 a.n)
def ActsAt (w : World) (p : Option Addr) (acts : List ActL) : Prop :=
  (acts = []) ∨ ∃ b off, p = some ⟨b, off, none⟩ ∧ b < w.heap.size ∧ ∀ i (h : i < acts.length), ActCells w b (off + i * 3) acts[i] ∧ acts[i].ok
theorem ActsAt.below {w w' : World} {p : Option Addr} {acts : List ActL} (h : ActsAt w p acts) (hb : Below w.heap.size w w') : ActsAt w' p acts := by
  rcases h with h | ⟨b, off, rfl, hlt, hc⟩
  · exact .inl h
  · refine .inr ⟨b, off, rfl, Nat.lt_of_lt_of_le hlt hb.size, fun i h => ⟨?_, (hc i h).2⟩⟩
    obtain ⟨h1, h2, h3⟩ := (hc i h).1
    exact ⟨(hb.cell (p := ⟨b, off + i * 3, none⟩) hlt).trans h1, (hb.cell (p := ⟨b, off + i * 3 + 1, none⟩) hlt).trans h2, (hb.cell (p := ⟨b, off + i * 3 + 2, none⟩) hlt).trans h3⟩

theorem Try.cellsAct : Try.prog.cellsOf 113 = 3 := by kernel_rfl

set_option maxRecDepth 100000 in
theorem acts_open {H : Type} {enc : TypeId × Value → H} {w : World} {fuel : Nat} {v : Value} {x : DataW H × List MemPlace} {a : Option Addr} {len cap : Nat} (hv : v = .slice a len cap)
    (h : DataW.trod enc Try.prog w 0 (fun _ => true) true fuel 105 v.cells.toList = some x) : ∃ acts : List ActL, acts.length = len ∧ len ≤ 9223372036854775807 ∧ ActsAt w a acts := by
  subst hv
  rcases open_slice Try.underlying105 h with ⟨h1, _⟩ | ⟨ad, len', cap', m, n, D, Pl, h1, _, hl, hm, hmm, _, hi⟩
  · simp [Value.cells] at h1
    exact ⟨[], by simp [h1.2.1], by omega, .inl rfl⟩
  · simp [Value.cells] at h1
    obtain ⟨rfl, rfl, rfl⟩ := h1
    unfold maxLen at hm
    have hlm : len ≤ m := by rw [hmm]; simp; omega
    have key : ∀ i, i < len → ∃ act : ActL, act.ok ∧ w.cell? (ad.add (i * 3)) = some (.bool act.inn) ∧ w.cell? (ad.add (i * 3 + 1)) = some (.int .i64 act.fr) ∧ w.cell? (ad.add (i * 3 + 2)) = some (.int .i64 act.n) := by
      intro i hilt
      obtain ⟨cs', hc, ht⟩ := hi i (by omega)
      rw [Try.cellsAct] at hc
      obtain ⟨_, hcl, hat⟩ := World.cells?_some hc
      obtain ⟨y0, y1, y2, k, _, _, e0, e1, e2⟩ := trod_struct3 Try.underlying113 ht
      match cs', hcl with
      | [c0, c1, c2], _ =>
        simp only [Try.cellsBool, Try.cellsInt, List.drop_zero, List.drop_succ_cons, List.take_succ_cons, List.take_zero] at e0 e1 e2
        obtain ⟨bb, hb, _⟩ := DataW.trod_bool Try.underlying4 e0
        obtain ⟨f, hf, _, wf⟩ := DataW.trod_int Try.underlying3 e1
        obtain ⟨g, hg, _, wg⟩ := DataW.trod_int Try.underlying3 e2
        simp only [List.cons.injEq, and_true] at hb hf hg
        subst hb hf hg
        have b1 := bounds_i64 wf
        have b2 := bounds_i64 wg
        have a0 := hat 0 (by omega)
        have a1 := hat 1 (by omega)
        have a2 := hat 2 (by omega)
        rw [add_add] at a0 a1 a2
        exact ⟨⟨bb, f, g⟩, ⟨b1.1, b1.2, b2.1, b2.2⟩, by simpa using a0, by simpa using a1, by simpa using a2⟩
    refine ⟨(List.range len).attach.map fun i => Classical.choose (key i.1 (List.mem_range.1 i.2)), by simp, by omega, ?_⟩
    by_cases h0 : len = 0
    · subst h0; exact .inl rfl
    · have k0 := (Classical.choose_spec (key 0 (by omega))).2.1
      obtain ⟨b, off, spot⟩ := ad
      have hspot : spot = none := by simpa [Addr.add] using World.cell?_spot k0
      subst hspot
      refine .inr ⟨b, off, rfl, World.block_lt_of_cell? _ _ (by simpa [Addr.add] using k0), fun i hil => ?_⟩
      have hil' : i < len := by simpa using hil
      have ks := Classical.choose_spec (key i hil')
      have eA : ∀ j, (⟨b, off, none⟩ : Addr).add j = ⟨b, off + j, none⟩ := fun j => by
        simp only [Addr.add]; split <;> simp_all
      simp only [List.getElem_map, List.getElem_attach, List.getElem_range]
      exact ⟨⟨(congrArg w.cell? (eA _).symm).trans ks.2.1, (congrArg w.cell? (eA (i * 3 + 1)).symm).trans ks.2.2.1, (congrArg w.cell? (eA (i * 3 + 2)).symm).trans ks.2.2.2⟩, ks.1⟩
end Go.Proofs.Ytoineackmpafdaa.Bt
