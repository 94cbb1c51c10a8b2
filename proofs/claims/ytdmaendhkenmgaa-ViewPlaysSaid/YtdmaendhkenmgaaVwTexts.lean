/- Texts that came in; Join; the Texts of a view. -/
import Derived.Test.YtdmaendhkenmgaaVwAny
import Derived.Deep.Slices
import Derived.Deep.Strs
import Derived.ChangeSame
import Derived.OpenShut
import Derived.Test.YtdmaendhkenmgaaShJoin
namespace Go.Proofs.Ytdmaendhkenmgaa.Bt
open Go Go.RowKit Go.Shelf Go.ChangeShapes Go.WideShapes Go.Deep
set_option linter.unusedVariables false

def StrsAt (w : World) (p : Option Addr) (xs : List ByteArray) : Prop :=
  xs.length = 0 ∨ ∃ b off, p = some ⟨b, off, none⟩ ∧ b < w.heap.size ∧ ∀ i (hi : i < xs.length), w.cell? ⟨b, off + i, none⟩ = some (.string xs[i])
theorem StrsAt.below {w w' : World} {p : Option Addr} {xs : List ByteArray} (h : StrsAt w p xs) (hb : Below w.heap.size w w') : StrsAt w' p xs := by
  rcases h with h | ⟨b, off, rfl, hlt, hc⟩
  · exact .inl h
  · exact .inr ⟨b, off, rfl, Nat.lt_of_lt_of_le hlt hb.size, fun i hi => (hb.cell (p := ⟨b, off + i, none⟩) hlt).trans (hc i hi)⟩
theorem Try.cellsString : Try.prog.cellsOf 9 = 1 := by kernel_rfl
set_option maxRecDepth 100000 in
theorem strs_open {H : Type} {enc : TypeId × Value → H} {w : World} {fuel : Nat} {v : Value} {x : DataW H × List MemPlace} {a : Option Addr} {len cap : Nat} (hv : v = .slice a len cap)
    (h : DataW.trod enc Try.prog w 0 (fun _ => true) true fuel 28 v.cells.toList = some x) : ∃ xs : List ByteArray, xs.length = len ∧ len ≤ 9223372036854775807 ∧ len ≤ cap ∧ StrsAt w a xs ∧ ∀ x ∈ xs, x.size ≤ 9223372036854775807 := by
  subst hv
  rcases open_slice Try.underlying28 h with ⟨h1, _⟩ | ⟨ad, len', cap', m, n, D, Pl, h1, _, hl, hm, hmm, _, hi⟩
  · simp [Value.cells] at h1
    exact ⟨[], by simp [h1.2.1], by omega, by omega, .inl rfl, fun x hx => by simp at hx⟩
  · simp [Value.cells] at h1
    obtain ⟨rfl, rfl, rfl⟩ := h1
    unfold maxLen at hm
    have hlm : len ≤ m := by rw [hmm]; simp; omega
    have key : ∀ i, i < len → ∃ s : ByteArray, s.size ≤ 9223372036854775807 ∧ w.cell? (ad.add i) = some (.string s) := by
      intro i hilt
      obtain ⟨cs', hc, ht⟩ := hi i (by omega)
      rw [Try.cellsString, Nat.mul_one] at hc
      obtain ⟨_, hcl, hat⟩ := World.cells?_some hc
      match cs', hcl with
      | [c0], _ =>
        obtain ⟨q0, h0, _, w0⟩ := DataW.trod_string Try.underlying9 ht
        simp only [List.cons.injEq, and_true] at h0
        subst h0
        unfold maxLen at w0
        have a0 := hat 0 (by omega)
        exact ⟨q0, w0, by rw [add_add] at a0; simpa using a0⟩
    refine ⟨(List.range len).attach.map fun i => Classical.choose (key i.1 (List.mem_range.1 i.2)), by simp, by omega, hl, ?_, fun x hx => ?_⟩
    · by_cases h0 : len = 0
      · subst h0; exact .inl rfl
      · have k0 := (Classical.choose_spec (key 0 (by omega))).2
        obtain ⟨b, off, spot⟩ := ad
        have hspot : spot = none := by simpa [Addr.add] using World.cell?_spot k0
        subst hspot
        refine .inr ⟨b, off, rfl, World.block_lt_of_cell? _ _ (by simpa [Addr.add] using k0), fun i hil => ?_⟩
        have hil' : i < len := by simpa using hil
        have ks := Classical.choose_spec (key i hil')
        have eA : ∀ j, (⟨b, off, none⟩ : Addr).add j = ⟨b, off + j, none⟩ := fun j => by
          simp only [Addr.add]; split <;> simp_all
        simp only [List.getElem_map, List.getElem_attach, List.getElem_range]
        exact (congrArg w.cell? (eA _).symm).trans ks.2
    · obtain ⟨i, _, rfl⟩ := List.mem_map.1 hx
      exact (Classical.choose_spec (key i.1 (List.mem_range.1 i.2))).1

/-- all texts, one behind the other -/
def joinB (xs : List ByteArray) : ByteArray := ⟨(Lib.join (xs.map (·.data.toList)) []).toArray⟩
theorem lens_le (xs : List ByteArray) (n : Nat) (h : ∀ x ∈ xs, x.size ≤ n) : Lib.lens (xs.map (·.data.toList)) ≤ xs.length * n := by
  induction xs with
  | nil => simp [Lib.lens]
  | cons x r ih =>
    have h1 := h x (by simp)
    have h2 := ih fun y hy => h y (by simp [hy])
    have e : x.data.toList.length = x.size := by rw [Array.length_toList]; rfl
    simp only [Lib.lens, List.map_cons, List.length_cons, List.sum_cons, List.map_map] at h2 ⊢
    rw [e, Nat.succ_mul]
    omega
theorem join_le (xs : List ByteArray) (n : Nat) (h : ∀ x ∈ xs, x.size ≤ n) : (Lib.join (xs.map (·.data.toList)) []).length ≤ xs.length * n := by
  cases xs with
  | nil => simp [Lib.join_nil]
  | cons x r =>
    have := lens_le (x :: r) n h
    rw [List.map_cons, Lib.join_length]
    rw [List.map_cons] at this
    simp only [List.length_nil, Nat.zero_mul, Nat.zero_add]
    exact this
theorem joinB_size (xs : List ByteArray) : (joinB xs).size = (Lib.join (xs.map (·.data.toList)) []).length := by
  show (Lib.join (xs.map (·.data.toList)) []).toArray.size = _
  rw [List.size_toArray]
theorem join_any (p : Option Addr) (c : Nat) (xs : List ByteArray) (w : World) (h : StrsAt w p xs) (hN : xs.length ≤ 140737488355328) (hcap : xs.length ≤ c) (hj : (joinB xs).size ≤ 140737488355328) :
    Calls Try.prog 109 #[.slice p xs.length c, .string ⟨#[]⟩] w fun e w' => e = .returned (.string (joinB xs)) ∧ Below w.heap.size w w' := by
  rcases h with h | ⟨b, off, rfl, hlt, hc⟩
  · have hx : xs = [] := List.eq_nil_of_length_eq_zero h
    subst hx
    exact (Try.strings_Join_none p c ⟨#[]⟩ w).mono fun e w' ⟨he, hw⟩ => ⟨he, hw ▸ Below.refl _ _⟩
  · exact Try.strings_Join b off c xs ⟨#[]⟩ w (fun j x hx => by
      obtain ⟨hj, rfl⟩ := List.getElem?_eq_some_iff.1 hx
      exact hc j hj) hlt hN hcap (by rw [joinB_size] at hj; exact hj)
section
set_option maxHeartbeats 1000000
theorem vtexts_gen (pa : Option Addr) (va vs : Nat) (q : Option Addr) (c : Nat) (xs : List ByteArray) (w : World) (hs : StrsAt w q xs) (hN : xs.length ≤ 140737488355328) (hcap : xs.length ≤ c) (hj : (joinB xs).size ≤ 140737488355328) (er : Int) (Q : World → World → Prop)
    (HC : ∀ X, Below w.heap.size w X → Calls Try.prog 78 #[.agg #[.pointer pa, .int .i64 (va : Int), .int .i64 (vs : Int)], .int .i64 0, .string (joinB xs)] X fun e X' => e = .returned (.int .i64 er) ∧ Q X X')
    (HK : KeepsV w Q) :
    Calls Try.prog 84 #[.agg #[.pointer pa, .int .i64 (va : Int), .int .i64 (vs : Int)], .slice q xs.length c] w (Thru er Q w) := by
  have HC' := Lib.hid HC; have HK' := Lib.hid HK; clear HC HK
  go_enter Try.func84, Try.ntmps84
  go_wp2_with fail
  have HH : VC w.heap.size pa va vs (w.alloc (.cells #[.pointer pa, .int .i64 (va : Int), .int .i64 (vs : Int)] 55)) := heap_new _ _
  have HB := (Below.refl w.heap.size w).alloc (Nat.le_refl _) (.cells #[.pointer pa, .int .i64 (va : Int), .int .i64 (vs : Int)] 55)
  obtain ⟨w1, hw1⟩ : ∃ w1, w.alloc (.cells #[.pointer pa, .int .i64 (va : Int), .int .i64 (vs : Int)] 55) = w1 := ⟨_, rfl⟩
  rw [hw1] at HH HB ⊢
  clear hw1
  have HS := Lib.hid (hs.below HB)
  obtain ⟨B, hB⟩ : ∃ B, w.heap.size = B := ⟨_, rfl⟩
  have HBh := Lib.hid HB
  clear HB hs
  rw [hB] at HH ⊢
  clear hB
  go_region_held3 (fun x => x.cell? ⟨B, 0, none⟩ = some (.pointer pa) ∧ x.cell? ⟨B, 1, none⟩ = some (.int .i64 (va : Int)) ∧ x.cell? ⟨B, 2, none⟩ = some (.int .i64 (vs : Int)) ∧ VC B pa va vs x)
    (first | exact (HH.below (Below.refl _ _).drew).all | assumption)
    (first | (go_at_call 109; refine (join_any q c xs _ (HS.out.below (Below.refl _ _).drew) hN hcap hj).mono ?_; rintro e w' ⟨rfl, hbb⟩; have hnx := ((HH.below (Below.refl _ _).drew).below hbb).all; have hbw := (HBh.out.drew).trans (hbb.mono HBh.out.size))
           | (go_at_call 78; refine (HC'.out _ hbw).mono ?_; rintro e w'' ⟨rfl, hq⟩; have hny := VC.all (B := B) (pa := pa) (va := va) (vs := vs) (x := w'') ((HK'.out _ _ _ _ hbw hq hnx.2.2.2).trans hnx.2.2.2)))
  have HF := Lib.hid (And.intro hbw hq)
  clear HH hnx hny hbw hq
  go_wp2_with fail
  go_ret
  exact ⟨rfl, _, HF.out.1, HF.out.2⟩
end
section
variable {A P n cap : Nat} {s : ASt} {ps : List (Option Nat)} {p : Option Addr} {w : World}
theorem vtexts_any (h : ArX A s P ps p n cap w) (va vs : Nat) (h1 : va ≤ 4294967296) (h2 : vs ≤ 4294967296) (q : Option Addr) (c : Nat) (xs : List ByteArray) (hs : StrsAt w q xs) (hN : xs.length ≤ 140737488355328) (hcap : xs.length ≤ c) (hj : (joinB xs).size ≤ 140737488355328) :
    Calls Try.prog 84 #[.agg #[.pointer (some ⟨A, 0, none⟩), .int .i64 (va : Int), .int .i64 (vs : Int)], .slice q xs.length c] w (PutPost A P s ps p (addrV va vs 0 (joinB xs).size) (joinB xs).data.toList w) :=
  (vtexts_gen _ va vs q c xs w hs hN hcap hj _ _ (fun X hX => vput_any (h.below hX) va vs h1 h2 0 (by omega) (joinB xs) (by omega)) (keepsV_ar h _)).mono fun e w' ht => thru_turned ht
theorem vtexts_none (q : Option Addr) (c : Nat) (xs : List ByteArray) (hs : StrsAt w q xs) (hN : xs.length ≤ 140737488355328) (hcap : xs.length ≤ c) (hj : (joinB xs).size ≤ 140737488355328) :
    Calls Try.prog 84 #[.agg #[.pointer none, .int .i64 0, .int .i64 0], .slice q xs.length c] w fun e w' => e = .returned (.int .i64 1) ∧ Below w.heap.size w w' :=
  (vtexts_gen none 0 0 q c xs w hs hN hcap hj 1 _ (fun X hX => vput_nil 0 (by omega) (joinB xs) (by omega) X) (keepsV_below w)).mono fun e w' ht => thru_below ht
end
end Go.Proofs.Ytdmaendhkenmgaa.Bt
