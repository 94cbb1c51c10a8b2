/- Several texts in one: ShJoin; VwTexts; FdT; DkA; CeB; RwR. -/
import Derived.Shelf.Strings.OnBuilder
import Derived.Test.YtmnhpmgffhpoeaaGreatProg
import Derived.Test.YtmnhpmgffhpoeaaGreatVwAny
import Derived.Deep.Slices
import Derived.Deep.Strs
import Derived.ChangeSame
import Derived.OpenShut
import Derived.Test.YtmnhpmgffhpoeaaGreatDuB
import Derived.Test.YtmnhpmgffhpoeaaGreatDuC
import Derived.Deep.MidRow
import Derived.Laws.AppendOwn
/- Contracts of the shelf at this seat (made by gen_shelf.sh: the numbers are this seat's). -/
namespace Go.Proofs.YtmnhpmgffhpoeaaGreat.Bt
open Go.Shelf
def Tryz.lays156_ren : Go.Shelf.Ren := ⟨fun | 156 => 81 | 165 => 91 | 166 => 92 | 169 => 93 | 240 => 98 | 241 => 99 | 276 => 102 | 277 => 103 | n => n, fun | 31 => 106 | 9 => 9 | 3 => 3 | 4 => 4 | 0 => 0 | 20 => 20 | 72 => 142 | 76 => 146 | 70 => 140 | 37 => 118 | 75 => 145 | 127 => 150 | 164 => 151 | 5 => 5 | 80 => 148 | n => n, fun | n => n⟩
theorem Tryz.lays156 : Go.Proofs.Lays.n156 Tryz.prog Tryz.lays156_ren := {
  mixed := by kernel_rfl
  f156 := Tryz.func81.trans (congrArg some (by kernel_rfl))
  f165 := Tryz.func91.trans (congrArg some (by kernel_rfl))
  f166 := Tryz.func92.trans (congrArg some (by kernel_rfl))
  f169 := Tryz.func93.trans (congrArg some (by kernel_rfl))
  f240 := Tryz.func98.trans (congrArg some (by kernel_rfl))
  f241 := Tryz.func99.trans (congrArg some (by kernel_rfl))
  f276 := Tryz.func102.trans (congrArg some (by kernel_rfl))
  f277 := Tryz.func103.trans (congrArg some (by kernel_rfl))
  t0 := Tryz.underlying0
  a0 := Tryz.isAgg0
  z0 := Tryz.sizeOf0
  v0 := Tryz.zeroValue0
  t3 := Tryz.underlying3
  a3 := Tryz.isAgg3
  z3 := Tryz.sizeOf3
  v3 := Tryz.zeroValue3
  t4 := Tryz.underlying4
  a4 := Tryz.isAgg4
  z4 := Tryz.sizeOf4
  v4 := Tryz.zeroValue4
  t9 := Tryz.underlying9
  a9 := Tryz.isAgg9
  z9 := Tryz.sizeOf9
  v9 := Tryz.zeroValue9
  t20 := Tryz.underlying20
  a20 := Tryz.isAgg20
  z20 := Tryz.sizeOf20
  v20 := Tryz.zeroValue20
  t31 := Tryz.underlying106
  a31 := Tryz.isAgg106
  z31 := Tryz.sizeOf106
  v31 := Tryz.zeroValue106
  t37 := Tryz.underlying118
  a37 := Tryz.isAgg118
  z37 := Tryz.sizeOf118
  v37 := Tryz.zeroValue118
  t70 := Tryz.underlying140
  a70 := Tryz.isAgg140
  z70 := Tryz.sizeOf140
  v70 := Tryz.zeroValue140
  t72 := Tryz.underlying142
  a72 := Tryz.isAgg142
  z72 := Tryz.sizeOf142
  v72 := Tryz.zeroValue142
  t75 := Tryz.underlying145
  a75 := Tryz.isAgg145
  z75 := Tryz.sizeOf145
  v75 := Tryz.zeroValue145
  t76 := Tryz.underlying146
  a76 := Tryz.isAgg146
  z76 := Tryz.sizeOf146
  v76 := Tryz.zeroValue146
  t127 := Tryz.underlying150
  a127 := Tryz.isAgg150
  z127 := Tryz.sizeOf150
  v127 := Tryz.zeroValue150
  t164 := Tryz.underlying151
  a164 := Tryz.isAgg151
  z164 := Tryz.sizeOf151
  v164 := Tryz.zeroValue151 }
theorem Tryz.Builder_Extra_156 : Builder.Extra Tryz.prog Tryz.lays156_ren := {
  sizeBuilder := by kernel_rfl
  liesBuilder := by kernel_rfl
  t5 := Tryz.underlying5
  a5 := Tryz.isAgg5
  z5 := Tryz.sizeOf5
  v5 := Tryz.zeroValue5
  infoByte := by kernel_rfl
  cellsByte := by kernel_rfl
  sizeByte := by kernel_rfl
  neB5 := by decide }
open Go.RowKit in
theorem Tryz.strings_Join_none (a : Option Addr) (c : Nat) (sep : ByteArray) (w : World) :
    Calls Tryz.prog 81 #[.slice a 0 c, .string sep] w fun e w' => e = .returned (.string ⟨#[]⟩) ∧ w' = w := Any.strings_Join_none Tryz.lays156 Tryz.Builder_Extra_156 a c sep w
open Go.RowKit in
theorem Tryz.strings_Join (bk o c : Nat) (xs : List ByteArray) (sep : ByteArray) (w : World) (hcells : ∀ (j : Nat) x, xs[j]? = some x → w.cell? ⟨bk, o + j, none⟩ = some (.string x)) (hbk : bk < w.heap.size) (hN : xs.length ≤ 140737488355328) (hcap : xs.length ≤ c) (hlen : (Lib.join (xs.map (·.data.toList)) sep.data.toList).length ≤ 140737488355328) :
    Calls Tryz.prog 81 #[.slice (some ⟨bk, o, none⟩) xs.length c, .string sep] w fun e w' => e = .returned (.string ⟨(Lib.join (xs.map (·.data.toList)) sep.data.toList).toArray⟩) ∧ Below w.heap.size w w' := Any.strings_Join Tryz.lays156 Tryz.Builder_Extra_156 bk o c xs sep w hcells hbk hN hcap hlen
end Go.Proofs.YtmnhpmgffhpoeaaGreat.Bt
/- Texts that came in; Join; the Texts of a view. -/
namespace Go.Proofs.YtmnhpmgffhpoeaaGreat.Bt
open Go Go.RowKit Go.Shelf Go.ChangeShapes Go.WideShapes Go.Deep
set_option linter.unusedVariables false

def StrsAt (w : World) (p : Option Addr) (xs : List ByteArray) : Prop :=
  xs.length = 0 ∨ ∃ b off, p = some ⟨b, off, none⟩ ∧ b < w.heap.size ∧ ∀ i (hi : i < xs.length), w.cell? ⟨b, off + i, none⟩ = some (.string xs[i])
theorem StrsAt.below {w w' : World} {p : Option Addr} {xs : List ByteArray} (h : StrsAt w p xs) (hb : Below w.heap.size w w') : StrsAt w' p xs := by
  rcases h with h | ⟨b, off, rfl, hlt, hc⟩
  · exact .inl h
  · exact .inr ⟨b, off, rfl, Nat.lt_of_lt_of_le hlt hb.size, fun i hi => (hb.cell (p := ⟨b, off + i, none⟩) hlt).trans (hc i hi)⟩
theorem Tryz.cellsString : Tryz.prog.cellsOf 9 = 1 := by kernel_rfl
set_option maxRecDepth 100000 in
theorem strs_open {H : Type} {enc : TypeId × Value → H} {w : World} {fuel : Nat} {v : Value} {x : DataW H × List MemPlace} {a : Option Addr} {len cap : Nat} (hv : v = .slice a len cap)
    (h : DataW.trod enc Tryz.prog w 0 (fun _ => true) true fuel 106 v.cells.toList = some x) : ∃ xs : List ByteArray, xs.length = len ∧ len ≤ 9223372036854775807 ∧ len ≤ cap ∧ StrsAt w a xs ∧ ∀ x ∈ xs, x.size ≤ 9223372036854775807 := by
  subst hv
  rcases open_slice Tryz.underlying106 h with ⟨h1, _⟩ | ⟨ad, len', cap', m, n, D, Pl, h1, _, hl, hm, hmm, _, hi⟩
  · simp [Value.cells] at h1
    exact ⟨[], by simp [h1.2.1], by omega, by omega, .inl rfl, fun x hx => by simp at hx⟩
  · simp [Value.cells] at h1
    obtain ⟨rfl, rfl, rfl⟩ := h1
    unfold maxLen at hm
    have hlm : len ≤ m := by rw [hmm]; simp; omega
    have key : ∀ i, i < len → ∃ s : ByteArray, s.size ≤ 9223372036854775807 ∧ w.cell? (ad.add i) = some (.string s) := by
      intro i hilt
      obtain ⟨cs', hc, ht⟩ := hi i (by omega)
      rw [Tryz.cellsString, Nat.mul_one] at hc
      obtain ⟨_, hcl, hat⟩ := World.cells?_some hc
      match cs', hcl with
      | [c0], _ =>
        obtain ⟨q0, h0, _, w0⟩ := DataW.trod_string Tryz.underlying9 ht
        simp only [List.cons.injEq, and_true] at h0
        subst h0
        unfold maxLen at w0
        have a0 := hat 0 (by omega)
        exact ⟨q0, w0, by rw [add_add] at a0; simpa using a0⟩
    refine ⟨(List.range len).attach.map fun i => Classical.choose (key i.1 (List.mem_range.1 i.2)), by simp, by omega, hl, ?_, fun x hx => ?_⟩
    · by_cases h0 : len = 0
      · subst h0; exact .inl rfl
      · have k0 := (Classical.choose_spec (key 0 (by omega))).2
        obtain ⟨b, off, spot⟩ := ad
        have hspot : spot = none := by simpa [Addr.add] using World.cell?_spot k0
        subst hspot
        refine .inr ⟨b, off, rfl, World.block_lt_of_cell? _ _ (by simpa [Addr.add] using k0), fun i hil => ?_⟩
        have hil' : i < len := by simpa using hil
        have ks := Classical.choose_spec (key i hil')
        have eA : ∀ j, (⟨b, off, none⟩ : Addr).add j = ⟨b, off + j, none⟩ := fun j => by
          simp only [Addr.add]; split <;> simp_all
        simp only [List.getElem_map, List.getElem_attach, List.getElem_range]
        exact (congrArg w.cell? (eA _).symm).trans ks.2
    · obtain ⟨i, _, rfl⟩ := List.mem_map.1 hx
      exact (Classical.choose_spec (key i.1 (List.mem_range.1 i.2))).1

/-- all texts, one behind the other -/
def joinB (xs : List ByteArray) : ByteArray := ⟨(Lib.join (xs.map (·.data.toList)) []).toArray⟩
theorem lens_le (xs : List ByteArray) (n : Nat) (h : ∀ x ∈ xs, x.size ≤ n) : Lib.lens (xs.map (·.data.toList)) ≤ xs.length * n := by
  induction xs with
  | nil => simp [Lib.lens]
  | cons x r ih =>
    have h1 := h x (by simp)
    have h2 := ih fun y hy => h y (by simp [hy])
    have e : x.data.toList.length = x.size := by rw [Array.length_toList]; rfl
    simp only [Lib.lens, List.map_cons, List.length_cons, List.sum_cons, List.map_map] at h2 ⊢
    rw [e, Nat.succ_mul]
    omega
theorem join_le (xs : List ByteArray) (n : Nat) (h : ∀ x ∈ xs, x.size ≤ n) : (Lib.join (xs.map (·.data.toList)) []).length ≤ xs.length * n := by
  cases xs with
  | nil => simp [Lib.join_nil]
  | cons x r =>
    have := lens_le (x :: r) n h
    rw [List.map_cons, Lib.join_length]
    rw [List.map_cons] at this
    simp only [List.length_nil, Nat.zero_mul, Nat.zero_add]
    exact this
theorem joinB_size (xs : List ByteArray) : (joinB xs).size = (Lib.join (xs.map (·.data.toList)) []).length := by
  show (Lib.join (xs.map (·.data.toList)) []).toArray.size = _
  rw [List.size_toArray]
theorem join_any (p : Option Addr) (c : Nat) (xs : List ByteArray) (w : World) (h : StrsAt w p xs) (hN : xs.length ≤ 140737488355328) (hcap : xs.length ≤ c) (hj : (joinB xs).size ≤ 140737488355328) :
    Calls Tryz.prog 81 #[.slice p xs.length c, .string ⟨#[]⟩] w fun e w' => e = .returned (.string (joinB xs)) ∧ Below w.heap.size w w' := by
  rcases h with h | ⟨b, off, rfl, hlt, hc⟩
  · have hx : xs = [] := List.eq_nil_of_length_eq_zero h
    subst hx
    exact (Tryz.strings_Join_none p c ⟨#[]⟩ w).mono fun e w' ⟨he, hw⟩ => ⟨he, hw ▸ Below.refl _ _⟩
  · exact Tryz.strings_Join b off c xs ⟨#[]⟩ w (fun j x hx => by
      obtain ⟨hj, rfl⟩ := List.getElem?_eq_some_iff.1 hx
      exact hc j hj) hlt hN hcap (by rw [joinB_size] at hj; exact hj)
section
set_option maxHeartbeats 1000000
theorem vtexts_gen (pa : Option Addr) (va vs : Nat) (q : Option Addr) (c : Nat) (xs : List ByteArray) (w : World) (hs : StrsAt w q xs) (hN : xs.length ≤ 140737488355328) (hcap : xs.length ≤ c) (hj : (joinB xs).size ≤ 140737488355328) (er : Int) (Q : World → World → Prop)
    (HC : ∀ X, Below w.heap.size w X → Calls Tryz.prog 80 #[.agg #[.pointer pa, .int .i64 (va : Int), .int .i64 (vs : Int)], .int .i64 0, .string (joinB xs)] X fun e X' => e = .returned (.int .i64 er) ∧ Q X X')
    (HK : KeepsV w Q) :
    Calls Tryz.prog 64 #[.agg #[.pointer pa, .int .i64 (va : Int), .int .i64 (vs : Int)], .slice q xs.length c] w (Thru er Q w) := by
  have HC' := Lib.hid HC; have HK' := Lib.hid HK; clear HC HK
  go_enter Tryz.func64, Tryz.ntmps64
  go_wp2_with fail
  have HH : VC w.heap.size pa va vs (w.alloc (.cells #[.pointer pa, .int .i64 (va : Int), .int .i64 (vs : Int)] 28)) := heap_new _ _
  have HB := (Below.refl w.heap.size w).alloc (Nat.le_refl _) (.cells #[.pointer pa, .int .i64 (va : Int), .int .i64 (vs : Int)] 28)
  obtain ⟨w1, hw1⟩ : ∃ w1, w.alloc (.cells #[.pointer pa, .int .i64 (va : Int), .int .i64 (vs : Int)] 28) = w1 := ⟨_, rfl⟩
  rw [hw1] at HH HB ⊢
  clear hw1
  have HS := Lib.hid (hs.below HB)
  obtain ⟨B, hB⟩ : ∃ B, w.heap.size = B := ⟨_, rfl⟩
  have HBh := Lib.hid HB
  clear HB hs
  rw [hB] at HH ⊢
  clear hB
  go_region_held3 (fun x => x.cell? ⟨B, 0, none⟩ = some (.pointer pa) ∧ x.cell? ⟨B, 1, none⟩ = some (.int .i64 (va : Int)) ∧ x.cell? ⟨B, 2, none⟩ = some (.int .i64 (vs : Int)) ∧ VC B pa va vs x)
    (first | exact (HH.below (Below.refl _ _).drew).all | assumption)
    (first | (go_at_call 81; refine (join_any q c xs _ (HS.out.below (Below.refl _ _).drew) hN hcap hj).mono ?_; rintro e w' ⟨rfl, hbb⟩; have hnx := ((HH.below (Below.refl _ _).drew).below hbb).all; have hbw := (HBh.out.drew).trans (hbb.mono HBh.out.size))
           | (go_at_call 80; refine (HC'.out _ hbw).mono ?_; rintro e w'' ⟨rfl, hq⟩; have hny := VC.all (B := B) (pa := pa) (va := va) (vs := vs) (x := w'') ((HK'.out _ _ _ _ hbw hq hnx.2.2.2).trans hnx.2.2.2)))
  have HF := Lib.hid (And.intro hbw hq)
  clear HH hnx hny hbw hq
  go_wp2_with fail
  go_ret
  exact ⟨rfl, _, HF.out.1, HF.out.2⟩
end
section
variable {A P n cap : Nat} {s : ASt} {ps : List (Option Nat)} {p : Option Addr} {w : World}
theorem vtexts_any (h : ArX A s P ps p n cap w) (va vs : Nat) (h1 : va ≤ 4294967296) (h2 : vs ≤ 4294967296) (q : Option Addr) (c : Nat) (xs : List ByteArray) (hs : StrsAt w q xs) (hN : xs.length ≤ 140737488355328) (hcap : xs.length ≤ c) (hj : (joinB xs).size ≤ 140737488355328) :
    Calls Tryz.prog 64 #[.agg #[.pointer (some ⟨A, 0, none⟩), .int .i64 (va : Int), .int .i64 (vs : Int)], .slice q xs.length c] w (PutPost A P s ps p (addrV va vs 0 (joinB xs).size) (joinB xs).data.toList w) :=
  (vtexts_gen _ va vs q c xs w hs hN hcap hj _ _ (fun X hX => vput_any (h.below hX) va vs h1 h2 0 (by omega) (joinB xs) (by omega)) (keepsV_ar h _)).mono fun e w' ht => thru_turned ht
theorem vtexts_none (q : Option Addr) (c : Nat) (xs : List ByteArray) (hs : StrsAt w q xs) (hN : xs.length ≤ 140737488355328) (hcap : xs.length ≤ c) (hj : (joinB xs).size ≤ 140737488355328) :
    Calls Tryz.prog 64 #[.agg #[.pointer none, .int .i64 0, .int .i64 0], .slice q xs.length c] w fun e w' => e = .returned (.int .i64 1) ∧ Below w.heap.size w w' :=
  (vtexts_gen none 0 0 q c xs w hs hN hcap hj 1 _ (fun X hX => vput_nil 0 (by omega) (joinB xs) (by omega) X) (keepsV_below w)).mono fun e w' ht => thru_below ht
end
end Go.Proofs.YtmnhpmgffhpoeaaGreat.Bt
/- The contracts of PutText and Text. -/
namespace Go.Proofs.YtmnhpmgffhpoeaaGreat.Bt
open Go Go.RowKit Go.Shelf
set_option linter.unusedVariables false
set_option linter.unusedSimpArgs false

section
variable {A : Nat} {s : ASt} {w : World}
theorem on_texts (h : On A s w) (va vs : Nat) (h1 : va ≤ 4294967296) (h2 : vs ≤ 4294967296) (q : Option Addr) (c : Nat) (xs : List ByteArray) (hs : StrsAt w q xs) (hN : xs.length ≤ 140737488355328) (hcap : xs.length ≤ c) (hj : (joinB xs).size ≤ 140737488355328) :
    Calls Tryz.prog 64 #[vwV A va vs, .slice q xs.length c] w (Ret A (putS s (addrV va vs 0 (joinB xs).size) (joinB xs).data.toList) (.int .i64 (thereE s.L s.es (addrV va vs 0 (joinB xs).size) (joinB xs).data.toList.length)) w) := by
  obtain ⟨P, ps, p, n, cap, h⟩ := h; exact (vtexts_any h va vs h1 h2 q c xs hs hN hcap hj).mono fun e w' k => On.ret h k
def mostB (m : Int) : Bool := decide (0 ≤ m ∧ m ≤ 255)
theorem fmost_any (m : Int) (w : World) : Calls Tryz.prog 63 #[.int .i64 m] w fun e w' => e = .returned (.bool (mostB m)) ∧ w = w' := by
  by_cases h0 : 0 ≤ m
  · by_cases h1 : m ≤ 255
    · have HB : Hid (mostB m = true) := Lib.hid (decide_eq_true ⟨h0, h1⟩)
      go_enter Tryz.func63, Tryz.ntmps63
      go_wp2_with fail
      go_ret
      exact ⟨by rw [HB.out]; rfl, rfl⟩
    · have HB : Hid (mostB m = false) := Lib.hid (decide_eq_false fun h => h1 h.2)
      go_enter Tryz.func63, Tryz.ntmps63
      go_wp2_with fail
      go_ret
      exact ⟨by rw [HB.out]; rfl, rfl⟩
  · have HB : Hid (mostB m = false) := Lib.hid (decide_eq_false fun h => h0 h.1)
    go_enter Tryz.func63, Tryz.ntmps63
    go_wp2_with fail
    go_ret
    exact ⟨by rw [HB.out]; rfl, rfl⟩
theorem fput_arg (va vs : Nat) (a m : Int) (x : ByteArray) (hx : x.size ≤ 9223372036854775807) (hb : mostB m = false) :
    Calls Tryz.prog 45 #[vwV A va vs, .int .i64 a, .int .i64 m, .string x] w (Gives (.int .i64 2) w) := by
  have HB := Lib.hid hb
  clear hb
  go_enter Tryz.func45, Tryz.ntmps45
  go_wp2_with fail
  refine (fmost_any m _).mono ?_
  rintro e w1 ⟨rfl, rfl⟩
  rw [HB.out]
  go_wp2_with fail
  go_ret
  exact ⟨rfl, bel1 _ _⟩
theorem fput_long (va vs : Nat) (a m : Int) (x : ByteArray) (hx : x.size ≤ 9223372036854775807) (hb : mostB m = true) (hl : m < x.size) :
    Calls Tryz.prog 45 #[vwV A va vs, .int .i64 a, .int .i64 m, .string x] w (Gives (.int .i64 16) w) := by
  have HB := Lib.hid hb
  clear hb
  go_enter Tryz.func45, Tryz.ntmps45
  go_wp2_with fail
  refine (fmost_any m _).mono ?_
  rintro e w1 ⟨rfl, rfl⟩
  rw [HB.out]
  go_wp2_with fail
  go_ret
  exact ⟨rfl, bel1 _ _⟩
theorem fput_no (h : On A s w) (va vs : Nat) (h1 : va ≤ 4294967296) (h2 : vs ≤ 4294967296) (a m : Int) (ha : a ≤ 9223372036854775807) (x : ByteArray) (hx : x.size ≤ 9223372036854775807) (hb : mostB m = true) (hl : (x.size : Int) ≤ m) (he : thereE s.L s.es (addrV va vs a (m + 1)) (m + 1) = 3) :
    Calls Tryz.prog 45 #[vwV A va vs, .int .i64 a, .int .i64 m, .string x] w (Gives (.int .i64 3) w) := by
  have HB := Lib.hid hb; have HE := Lib.hid he; have HO := Lib.hid h
  have hm : 0 ≤ m ∧ m ≤ 255 := of_decide_eq_true hb
  obtain ⟨m0, m1⟩ := hm
  have HV : Hid (∀ pu a k, ofV pu a k 3 = .agg #[.pointer none, .int .i64 0, .int .i64 0]) := Lib.hid fun pu a k => by unfold ofV; rw [if_neg (by decide)]
  clear hb he h
  go_enter Tryz.func45, Tryz.ntmps45
  go_wp2_with fail
  refine (fmost_any m _).mono ?_
  rintro e w1 ⟨rfl, rfl⟩
  rw [HB.out]
  go_wp2_with fail
  refine (on_part (HO.out.below (bel1 _ _)) va vs h1 h2 a (m + 1) ha).mono ?_
  rintro e w2 ⟨rfl, hb⟩
  rw [HE.out, HV.out]
  have B2 := Lib.hid ((bel1 w (.cells #[.pointer (some ⟨A, 0, none⟩), .int .i64 (va : Int), .int .i64 (vs : Int)] 28)).trans (hb.mono (by simp)))
  clear hb
  go_wp2_with fail
  go_ret
  exact ⟨rfl, B2.out.alloc B2.out.size _⟩
theorem conv_one (X : World) (B k : Nat) (hk : k ≤ 255) (hB : X.heap[B]? = some (.cells #[.int .u8 (k : Int)] 5 (0, 0))) :
    (convert 118 9 (.slice (some ⟨B, 0, none⟩) 1 1)).run Tryz.prog X = .ok (.string ⟨#[UInt8.ofNat k]⟩) X := by
  have h := run_convert_bytes_arg (P := Tryz.prog) X 118 5 Tryz.underlying118 Tryz.underlying5 B 0 1 1 [(k : Int)] rfl (fun i hi => by
    have hi0 : i = 0 := by simp at hi; omega
    subst hi0
    exact (cell_blk hB 0).1) 9 Tryz.underlying9
  have e2 : strOfNums [(k : Int)] = ⟨#[UInt8.ofNat k]⟩ := by simp [strOfNums]
  rw [e2] at h
  exact h
def txtS (s : ASt) (an : Nat) (x : ByteArray) : ASt := { s with mm := putM s.mm an (UInt8.ofNat x.size :: x.data.toList) }
theorem join_two (c : UInt8) (x : ByteArray) : (joinB [⟨#[c]⟩, x]).data.toList = c :: x.data.toList := by
  simp [joinB, Lib.join]
theorem join_two_size (c : UInt8) (x : ByteArray) : (joinB [⟨#[c]⟩, x]).size = x.size + 1 := by
  have := congrArg List.length (join_two c x)
  rw [List.length_cons] at this
  exact this
set_option maxHeartbeats 1000000 in
theorem fput_yes (h : On A s w) (va vs : Nat) (h1 : va ≤ 4294967296) (h2 : vs ≤ 4294967296) (a m : Int) (ha : a ≤ 9223372036854775807) (x : ByteArray) (hb : mostB m = true) (hl : (x.size : Int) ≤ m) (an : Nat) (han : addrV va vs a (m + 1) = an) (he : thereE s.L s.es (addrV va vs a (m + 1)) (m + 1) = 0) :
    Calls Tryz.prog 45 #[vwV A va vs, .int .i64 a, .int .i64 m, .string x] w (Ret A (txtS s an x) (.int .i64 0) w) := by
  have HB := Lib.hid hb; have HO := Lib.hid h
  have hm : 0 ≤ m ∧ m ≤ 255 := of_decide_eq_true hb
  obtain ⟨m0, m1⟩ := hm
  obtain ⟨mn, rfl⟩ : ∃ k : Nat, m = k := ⟨m.toNat, by omega⟩
  have hx : x.size ≤ 9223372036854775807 := by omega
  rw [han] at he
  have h3 : an ≤ 4294967296 := by
    have hh := (there_iff h.good an ((mn : Int) + 1)).1 (by unfold thereE at he; cases hq : thereB s.L s.es an ((mn : Int) + 1) with
      | true => rfl
      | false => rw [hq] at he; cases he)
    have := h.good.small
    omega
  have hadr : addrV an (mn + 1) 0 (joinB [⟨#[UInt8.ofNat x.size]⟩, x]).size = (an : Int) := by
    rw [join_two_size]; unfold addrV; rw [if_pos (by omega)]; omega
  have hth : thereE s.L s.es (an : Int) (joinB [⟨#[UInt8.ofNat x.size]⟩, x]).data.toList.length = 0 := by
    rw [join_two]
    exact there_part h.good he (by omega) (by omega) (by rw [List.length_cons, bytes_len]; omega)
  have hpS : putS s (an : Int) (joinB [⟨#[UInt8.ofNat x.size]⟩, x]).data.toList = txtS s an x := by
    unfold putS; rw [if_pos hth, join_two]; rfl
  have HE := Lib.hid he; have HA := Lib.hid han; have HAD := Lib.hid hadr; have HTH := Lib.hid hth; have HPS := Lib.hid hpS
  have HV : Hid (∀ pu a k, ofV pu a k 0 = .agg #[.pointer pu, .int .i64 a, .int .i64 k]) := Lib.hid fun pu a k => by unfold ofV; rw [if_pos rfl]
  have HJ : Hid ((joinB [⟨#[UInt8.ofNat x.size]⟩, x]).size ≤ 140737488355328) := Lib.hid (by rw [join_two_size]; omega)
  have HXS := Lib.hid (show x.size ≤ 255 by omega)
  clear hb h he han hadr hth hpS
  go_enter Tryz.func45, Tryz.ntmps45
  go_wp2_with fail
  refine (fmost_any (mn : Int) _).mono ?_
  rintro e w1 ⟨rfl, rfl⟩
  rw [HB.out]
  go_wp2_with fail
  refine (on_part (HO.out.below (bel1 _ _)) va vs h1 h2 a ((mn : Int) + 1) ha).mono ?_
  rintro e w2 ⟨rfl, hb⟩
  rw [HA.out, HE.out, HV.out]
  have B2 := Lib.hid ((bel1 w (.cells #[.pointer (some ⟨A, 0, none⟩), .int .i64 (va : Int), .int .i64 (vs : Int)] 28)).trans (hb.mono (by simp)))
  clear hb
  go_upto_region 8 with fail
  rw [show ((mn : Int) + 1) = ((mn + 1 : Nat) : Int) from by omega]
  have hv := heap_new w2 (.cells #[.pointer (some ⟨A, 0, none⟩), .int .i64 (an : Int), .int .i64 ((mn + 1 : Nat) : Int)] 28)
  have B3 := Lib.hid (B2.out.alloc B2.out.size (.cells #[.pointer (some ⟨A, 0, none⟩), .int .i64 (an : Int), .int .i64 ((mn + 1 : Nat) : Int)] 28))
  obtain ⟨w3, hw3⟩ : ∃ x, w2.alloc (.cells #[.pointer (some ⟨A, 0, none⟩), .int .i64 (an : Int), .int .i64 ((mn + 1 : Nat) : Int)] 28) = x := ⟨_, rfl⟩
  obtain ⟨V, hV⟩ : ∃ x, w2.heap.size = x := ⟨_, rfl⟩
  rw [hw3] at hv B3 ⊢
  rw [hV] at hv ⊢
  have c0 := (cell_blk hv 0).1; have c1 := (cell_blk hv 1).1; have c2 := (cell_blk hv 2).1
  clear hw3 hV hv B2
  have HCV := conv_one (w3.alloc (.cells #[.int .u8 (x.size : Int)] 5)) w3.heap.size x.size HXS.out (heap_new _ _)
  have hxs := HXS.out
  have B5 := Lib.hid (B3.out.trans ((below2 w3 (.cells #[.int .u8 (x.size : Int)] 5) (.cells #[.string ⟨#[UInt8.ofNat x.size]⟩, .string x] 9)).mono B3.out.size))
  have HSA : Hid (StrsAt ((w3.alloc (.cells #[.int .u8 (x.size : Int)] 5)).alloc (.cells #[.string ⟨#[UInt8.ofNat x.size]⟩, .string x] 9)) (some ⟨w3.heap.size + 1, 0, none⟩) [⟨#[UInt8.ofNat x.size]⟩, x]) := Lib.hid (by
    refine .inr ⟨_, 0, rfl, by simp, fun i hi => ?_⟩
    have hb := heap_old2 w3 (.cells #[.int .u8 (x.size : Int)] 5) (.cells #[.string ⟨#[UInt8.ofNat x.size]⟩, .string x] 9)
    rw [(cell_blk hb _).1, Nat.zero_add]
    have : i = 0 ∨ i = 1 := by simp at hi; omega
    rcases this with rfl | rfl <;> rfl)
  go_wp2_with fail
  refine (on_texts (HO.out.below B5.out) an (mn + 1) h3 (by omega) _ 2 [⟨#[UInt8.ofNat x.size]⟩, x] HSA.out (by simp) (by simp) HJ.out).mono ?_
  rintro e w6 ⟨rfl, hx6, hg⟩
  rw [HAD.out] at hx6 ⊢
  rw [HPS.out] at hx6
  rw [HTH.out]
  have HF := Lib.hid (And.intro hx6 ((Went.of_below HO.out B5.out).trans hg))
  clear hx6 hg c0 c1 c2 HCV
  go_wp2_with fail
  go_ret
  exact ⟨rfl, HF.out.1, HF.out.2⟩
theorem ldV_one (s : ASt) (an : Nat) (h : numE s.L s.es (an : Int) 1 = 0) : ldV s (an : Int) 1 = ((s.mm an).toNat : Int) := by
  unfold ldV
  rw [if_pos h, Int.toNat_natCast]
  show ((numV s.mm an 0 + (s.mm (an + 0)).toNat * 2 ^ (8 * 0) : Nat) : Int) = _
  simp [numV]
set_option maxHeartbeats 1000000 in
theorem ftext_yes (h : On A s w) (va vs : Nat) (h1 : va ≤ 4294967296) (h2 : vs ≤ 4294967296) (a m : Int) (ha : a ≤ 9223372036854775807) (hb : mostB m = true) (an k : Nat) (han : addrV va vs a (m + 1) = an) (he : thereE s.L s.es (addrV va vs a (m + 1)) (m + 1) = 0)
    (hk : (s.mm an).toNat = k) (hkm : (k : Int) ≤ m) :
    Calls Tryz.prog 51 #[vwV A va vs, .int .i64 a, .int .i64 m] w (Gives (.tuple #[.string (strL (getM s.mm (an + 1) k)), .int .i64 0]) w) := by
  have HB := Lib.hid hb; have HO := Lib.hid h
  have hm : 0 ≤ m ∧ m ≤ 255 := of_decide_eq_true hb
  obtain ⟨m0, m1⟩ := hm
  obtain ⟨mn, rfl⟩ : ∃ k : Nat, m = k := ⟨m.toNat, by omega⟩
  rw [han] at he
  have h3 : an ≤ 4294967296 := by
    have hh := (there_iff h.good an ((mn : Int) + 1)).1 (by unfold thereE at he; cases hq : thereB s.L s.es an ((mn : Int) + 1) with
      | true => rfl
      | false => rw [hq] at he; cases he)
    have := h.good.small
    omega
  have hA1 : addrV an (mn + 1) 0 1 = (an : Int) := by unfold addrV; rw [if_pos (by omega)]; omega
  have hA2 : addrV an (mn + 1) 1 k = ((an + 1 : Nat) : Int) := by unfold addrV; rw [if_pos (by omega)]; omega
  have hn1 : numE s.L s.es (an : Int) 1 = 0 := by
    unfold numE; rw [show wholeB 1 = true from rfl, if_pos rfl]; exact there_part h.good he (by omega) (by omega) (by omega)
  have hl : ldV s (an : Int) 1 = (k : Int) := by rw [ldV_one s an hn1, hk]
  have ht2 : thereE s.L s.es ((an + 1 : Nat) : Int) k = 0 := there_part h.good he (by omega) (by omega) (by omega)
  have hby : byV s ((an + 1 : Nat) : Int) k = strL (getM s.mm (an + 1) k) := by unfold byV; rw [if_pos ht2, Int.toNat_natCast, Int.toNat_natCast]
  have HE := Lib.hid he; have HA := Lib.hid han; have HA1 := Lib.hid hA1; have HA2 := Lib.hid hA2; have HN1 := Lib.hid hn1; have HL := Lib.hid hl; have HT2 := Lib.hid ht2; have HBY := Lib.hid hby
  have HV : Hid (∀ pu a k, ofV pu a k 0 = .agg #[.pointer pu, .int .i64 a, .int .i64 k]) := Lib.hid fun pu a k => by unfold ofV; rw [if_pos rfl]
  clear hb h he han hA1 hA2 hn1 hl ht2 hby hk
  generalize strL (getM s.mm (an + 1) k) = tx at *
  have k1 : (k : Int) ≤ 255 := by omega
  go_enter Tryz.func51, Tryz.ntmps51
  go_wp2_with fail
  refine (fmost_any (mn : Int) _).mono ?_
  rintro e w1 ⟨rfl, rfl⟩
  rw [HB.out]
  go_wp2_with fail
  refine (on_part (HO.out.below (bel1 _ _)) va vs h1 h2 a ((mn : Int) + 1) ha).mono ?_
  rintro e w2 ⟨rfl, hb⟩
  rw [HA.out, HE.out, HV.out]
  have B2 := Lib.hid ((bel1 w (.cells #[.pointer (some ⟨A, 0, none⟩), .int .i64 (va : Int), .int .i64 (vs : Int)] 28)).trans (hb.mono (by simp)))
  clear hb
  go_upto_region 6 with fail
  rw [show ((mn : Int) + 1) = ((mn + 1 : Nat) : Int) from by omega]
  have hv : VC w2.heap.size (some ⟨A, 0, none⟩) an (mn + 1) _ := heap_new w2 (.cells #[.pointer (some ⟨A, 0, none⟩), .int .i64 (an : Int), .int .i64 ((mn + 1 : Nat) : Int)] 28)
  have B3 := Lib.hid (B2.out.alloc B2.out.size (.cells #[.pointer (some ⟨A, 0, none⟩), .int .i64 (an : Int), .int .i64 ((mn + 1 : Nat) : Int)] 28))
  obtain ⟨w3, hw3⟩ : ∃ x, w2.alloc (.cells #[.pointer (some ⟨A, 0, none⟩), .int .i64 (an : Int), .int .i64 ((mn + 1 : Nat) : Int)] 28) = x := ⟨_, rfl⟩
  obtain ⟨V, hV⟩ : ∃ x, w2.heap.size = x := ⟨_, rfl⟩
  rw [hw3] at hv B3 ⊢
  rw [hV] at hv ⊢
  have HVC := Lib.hid hv
  have c0 := (cell_blk hv 0).1; have c1 := (cell_blk hv 1).1; have c2 := (cell_blk hv 2).1
  clear hw3 hV hv B2
  go_wp2_with fail
  refine (on_load (HO.out.below B3.out) an (mn + 1) h3 (by omega) 0 1 (by omega)).mono ?_
  rintro e w4 ⟨rfl, hb⟩
  rw [HA1.out, HL.out, HN1.out]
  have B4 := Lib.hid (B3.out.trans (hb.mono B3.out.size))
  have HVC4 := Lib.hid (HVC.out.below hb)
  clear hb c0 c1 c2 HVC
  have c0 := (cell_blk HVC4.out 0).1; have c1 := (cell_blk HVC4.out 1).1; have c2 := (cell_blk HVC4.out 2).1
  go_wp2_with fail
  refine (on_bytes (HO.out.below B4.out) an (mn + 1) h3 (by omega) 1 k (by omega)).mono ?_
  rintro e w5 ⟨rfl, hb⟩
  rw [HA2.out, HBY.out, HT2.out]
  have B5 := Lib.hid (B4.out.trans (hb.mono B4.out.size))
  clear hb c0 c1 c2 HVC4
  go_wp2_with fail
  go_ret2
  exact ⟨rfl, B5.out⟩
end
end Go.Proofs.YtmnhpmgffhpoeaaGreat.Bt
/- Keys: how many slots, and where each stands; an item told, and laid. (Written by gen_dka.py.) -/
namespace Go.Proofs.YtmnhpmgffhpoeaaGreat.Bt
open Go Go.RowKit Go.Shelf
set_option linter.unusedVariables false
set_option linter.unusedSimpArgs false
set_option maxRecDepth 100000
section
variable {A vs : Nat} {m : Nat → UInt8} {w : World}
theorem kslots1 (h : On A (cS m) w) (hv : vs ≤ 400) (F : Nat) (hF : w.heap[F]? = some (.cells (vwC A 40 vs) 30 (0, 0))) (i : Nat) (hi : i < vs / 32) :
    Calls Tryz.prog 42 (#[.int .i64 (i : Int)] ++ #[.pointer (some ⟨F, 0, none⟩)]) w (Gives (.bool false) w) := by
  have hp : Hid (∀ X, On A (cS m) X → Calls Tryz.prog 43 #[vwV A 40 vs, .int .i64 0, .int .i64 (((i : Int) + 1) * 32)] X (Gives (.tuple #[.agg #[.pointer (some ⟨A, 0, none⟩), .int .i64 40, .int .i64 (((i : Int) + 1) * 32)], .int .i64 0]) X)) := Lib.hid fun X hX => by
    have := on_part hX 40 vs (by omega) (by omega) 0 (((i : Int) + 1) * 32) (by omega)
    rw [addr_in (by omega), cS_there (by omega) (by omega) (by omega), ofV_ok] at this
    exact this
  have c0 := (cell_blk hF 0).1; have c1 := (cell_blk hF 1).1; have c2 := (cell_blk hF 2).1
  have hi2 : (i : Int) ≤ 17 := by omega
  have HO := Lib.hid h
  clear hi hF h
  go_enter Tryz.func42, Tryz.ntmps42
  go_wp2_with fail
  refine (hp.out _ HO.out).mono ?_
  rintro e w1 ⟨rfl, hb⟩
  have HB := Lib.hid hb
  clear hb c0 c1 c2
  go_wp2_with fail
  go_ret
  exact ⟨rfl, HB.out.alloc HB.out.size _⟩
set_option maxHeartbeats 1000000 in
/-- how many slots -/
theorem kslots (h : On A (cS m) w) (hv : vs ≤ 400) : Calls Tryz.prog 25 #[vwV A 40 vs] w (Gives (.int .i64 ((vs / 32 : Nat) : Int)) w) := by
  have eg : ∀ args w, (callFunc 42 args).run Tryz.prog w = .ok (.enter 42 args) w := enters_of Tryz.func42 (by kernel_rfl) rfl
  have q1 : IntKind.i64.wrap ((vs : Int).tdiv 32) = ((vs / 32 : Nat) : Int) := by rw [Int.tdiv_eq_ediv_of_nonneg (by omega), IntWalk.i64_in _ (by omega)]; omega
  have q2 : (vs : Int).tdiv 32 = ((vs / 32 : Nat) : Int) := by rw [Int.tdiv_eq_ediv_of_nonneg (by omega)]; omega
  have q5 : (vs : Int) / 32 = ((vs / 32 : Nat) : Int) := by omega
  obtain ⟨d, hd⟩ : ∃ d, vs / 32 = d := ⟨_, rfl⟩
  have hd17 : d ≤ 17 := by omega
  have HS := Lib.hid fun (X : World) (F : Nat) (hX : On A (cS m) X) (hF : X.heap[F]? = some (.cells (vwC A 40 vs) 30 (0, 0))) =>
    searchN 42 #[.pointer (some ⟨F, 0, none⟩)] eg d (by omega) X fun Y i hY hi => kslots1 (hX.below hY) hv F ((hY.block _ (Array.getElem?_eq_some_iff.1 hF).1).trans hF) i (by omega)
  rw [hd] at q1 q2 q5
  rw [hd]
  have q4 : wrap64 (d : Int) = (d : Int) := IntWalk.wrap64_in _ ⟨by omega, by omega⟩
  have HQ := Lib.hid (And.intro q1 (And.intro q2 (And.intro q4 q5)))
  clear q1 q2 q4 q5 hd hd17 eg
  have HF := Lib.hid (And.intro (heap_new w (.cells (vwC A 40 vs) 30)) (And.intro (h.below (bel1 w (.cells (vwC A 40 vs) 30))) (bel1 w (.cells (vwC A 40 vs) 30))))
  clear h
  go_enter Tryz.func25, Tryz.ntmps25
  go_upto_region 1 with fail
  change Code.wp _ _ _ _ (w.alloc (.cells (vwC A 40 vs) 30))
  obtain ⟨y, hy⟩ : ∃ y, w.alloc (.cells (vwC A 40 vs) 30) = y := ⟨_, rfl⟩
  obtain ⟨F, hFF⟩ : ∃ F, w.heap.size = F := ⟨_, rfl⟩
  have hf := HF.out
  rw [hy, hFF] at hf
  rw [hy, hFF]
  have HWF := Lib.hid hFF
  have HG := Lib.hid hf
  clear hy hFF hf HF
  have c0 := (cell_blk HG.out.1 0).1; have c1 := (cell_blk HG.out.1 1).1; have c2 := (cell_blk HG.out.1 2).1
  go_wp2_with fail
  refine (vsize_any (some ⟨A, 0, none⟩) 40 vs _).mono ?_
  rintro e w1 ⟨rfl, hb⟩
  have HG1 : Hid (w1.heap[F]? = some (.cells (vwC A 40 vs) 30 (0, 0)) ∧ On A (cS m) w1 ∧ Below w.heap.size w w1) := Lib.hid ⟨blk_at hb HG.out.1, HG.out.2.1.below hb, (HWF.out ▸ HG.out.2.2).trans (hb.mono (by have := HG.out.2.2.size; omega))⟩
  clear hb c0 c1 c2 HG
  obtain ⟨q1, q2, q4, q5⟩ := HQ.out
  go_wp2_with fail
  refine (HS.out _ _ HG1.out.2.1 HG1.out.1).mono ?_
  rintro e w2 ⟨rfl, hb⟩
  have HB2 := Lib.hid (HG1.out.2.2.trans (hb.mono HG1.out.2.2.size))
  clear hb
  go_wp2_with fail
  go_ret
  exact ⟨rfl, HB2.out⟩
theorem kslots_nil (w : World) : Calls Tryz.prog 25 #[zvV] w (Gives (.int .i64 0) w) := by
  have eg : ∀ args w, (callFunc 42 args).run Tryz.prog w = .ok (.enter 42 args) w := enters_of Tryz.func42 (by kernel_rfl) rfl
  have HS := Lib.hid fun (X : World) (F : Nat) =>
    searchN 42 #[.pointer (some ⟨F, 0, none⟩)] eg 0 (by omega) X fun Y i hY hi => absurd hi (by omega)
  have HF := Lib.hid (And.intro (heap_new w (.cells zvC 30)) (bel1 w (.cells zvC 30)))
  clear eg
  go_enter Tryz.func25, Tryz.ntmps25
  go_upto_region 1 with fail
  change Code.wp _ _ _ _ (w.alloc (.cells zvC 30))
  obtain ⟨y, hy⟩ : ∃ y, w.alloc (.cells zvC 30) = y := ⟨_, rfl⟩
  obtain ⟨F, hFF⟩ : ∃ F, w.heap.size = F := ⟨_, rfl⟩
  have hf := HF.out
  rw [hy, hFF] at hf
  rw [hy, hFF]
  have HWF := Lib.hid hFF
  have HG := Lib.hid hf
  clear hy hFF hf HF
  have c0 := (cell_blk HG.out.1 0).1; have c1 := (cell_blk HG.out.1 1).1; have c2 := (cell_blk HG.out.1 2).1
  go_wp2_with fail
  refine (vsize_any none 0 0 _).mono ?_
  rintro e w1 ⟨rfl, hb⟩
  have HB1 : Hid (Below w.heap.size w w1) := Lib.hid ((HWF.out ▸ HG.out.2).trans (hb.mono (by have := HG.out.2.size; omega)))
  clear hb c0 c1 c2 HG
  go_wp2_with fail
  refine (HS.out _ _).mono ?_
  rintro e w2 ⟨rfl, hb⟩
  have HB2 := Lib.hid (HB1.out.trans (hb.mono HB1.out.size))
  clear hb
  go_wp2_with fail
  go_ret
  exact ⟨rfl, HB2.out⟩
/-- where a slot stands -/
theorem kslot (h : On A (cS m) w) (hv : vs ≤ 400) (i : Nat) (hi : i < vs / 32) : Calls Tryz.prog 44 #[vwV A 40 vs, .int .i64 (i : Int)] w (Gives (vwV A (40 + 32 * i) 32) w) := by
  have e : addrV 40 vs ((i : Int) * 32) 32 = ((40 + 32 * i : Nat) : Int) := by rw [addr_in (by omega)]; push_cast; omega
  have hp : Hid (∀ X, On A (cS m) X → Calls Tryz.prog 43 #[vwV A 40 vs, .int .i64 ((i : Int) * 32), .int .i64 32] X (Gives (.tuple #[vwV A (40 + 32 * i) 32, .int .i64 0]) X)) := Lib.hid fun X hX => by
    have := on_part hX 40 vs (by omega) (by omega) ((i : Int) * 32) 32 (by omega)
    rw [e, cS_there (by omega) (by omega) (by omega), ofV_ok] at this
    exact this
  have hi2 : (i : Int) ≤ 17 := by omega
  clear hi e
  have HF := Lib.hid (((Fb.start w).new (vwC A 40 vs) 30).new zvC 28)
  have HO := Lib.hid h
  clear h
  go_enter Tryz.func44, Tryz.ntmps44
  go_upto_region 1 with fail
  change Code.wp _ _ _ _ ((w.alloc (.cells (vwC A 40 vs) 30)).alloc (.cells zvC 28))
  obtain ⟨y, hy⟩ : ∃ y, (w.alloc (.cells (vwC A 40 vs) 30)).alloc (.cells zvC 28) = y := ⟨_, rfl⟩
  obtain ⟨C, hC⟩ : ∃ C, w.heap.size = C := ⟨_, rfl⟩
  obtain ⟨O, hO⟩ : ∃ O, (w.alloc (.cells (vwC A 40 vs) 30)).heap.size = O := ⟨_, rfl⟩
  have hO2 : w.heap.size + 1 = O := by rw [← hO]; simp
  have hf := HF.out
  rw [hy, hO, hC] at hf
  rw [hy, hO2, hC]
  have HG := Lib.hid hf
  clear hy hC hO hO2 hf HF
  have c0 := HG.out.cell1 0 rfl; have c1 := HG.out.cell1 1 rfl; have c2 := HG.out.cell1 2 rfl
  go_wp2_with fail
  refine (hp.out _ (HO.out.below HG.out.be)).mono ?_
  rintro e w1 ⟨rfl, hb⟩
  have HG1 := Lib.hid (HG.out.below hb)
  clear hb HG c0 c1 c2
  go_upto_region 2 with fail
  have HG2 := Lib.hid (HG1.out.new (vwC A (40 + 32 * i) 32) 28)
  change Code.wp _ _ _ _ (w1.alloc (.cells (vwC A (40 + 32 * i) 32) 28))
  obtain ⟨w2, hw2⟩ : ∃ y, w1.alloc (.cells (vwC A (40 + 32 * i) 32) 28) = y := ⟨_, rfl⟩
  obtain ⟨V, hV⟩ : ∃ F, w1.heap.size = F := ⟨_, rfl⟩
  rw [hw2, hV] at HG2
  rw [hw2, hV]
  clear hw2 hV HG1
  have v0 := HG2.out.cell0 0 rfl; have v1 := HG2.out.cell0 1 rfl; have v2 := HG2.out.cell0 2 rfl
  have r0 := HG2.out.cell1 0 rfl; have r1 := HG2.out.cell1 1 rfl; have r2 := HG2.out.cell1 2 rfl
  have f0 := HG2.out.free1 0; have f1 := HG2.out.free1 1; have f2 := HG2.out.free1 2
  go_wp2_with fail
  change bodyPost _ _ _ _ _ (stR w2 O [.pointer (some ⟨A, 0, none⟩), .int .i64 ((40 + 32 * i : Nat) : Int), .int .i64 ((32 : Nat) : Int)] 0)
  have hz := HG2.out.stores1 [.pointer (some ⟨A, 0, none⟩), .int .i64 ((40 + 32 * i : Nat) : Int), .int .i64 ((32 : Nat) : Int)] 0
  obtain ⟨z, hzz⟩ : ∃ z, stR w2 O [.pointer (some ⟨A, 0, none⟩), .int .i64 ((40 + 32 * i : Nat) : Int), .int .i64 ((32 : Nat) : Int)] 0 = z := ⟨_, rfl⟩
  rw [hzz] at hz ⊢
  have hz : Fb w [⟨V, vwC A (40 + 32 * i) 32, 28⟩, ⟨O, vwC A (40 + 32 * i) 32, 28⟩, ⟨C, vwC A 40 vs, 30⟩] z := hz
  have g0 := hz.cell1 0 rfl; have g1 := hz.cell1 1 rfl; have g2 := hz.cell1 2 rfl
  exact bodyPost_ret (v := vwV A (40 + 32 * i) 32) (by simp [results, Tryz.results44, go_sem, g0, g1, g2]) rfl ⟨rfl, hz.be⟩

abbrev iV (t : Itm) : Value := .agg #[.string t.k, .int .u64 (t.x : Int)]
theorem strL_key (k : ByteArray) : strL k.data.toList = k := by unfold strL; rfl
/-- what a slot tells -/
def rdT (m : Nat → UInt8) (a : Nat) : Itm := ⟨strL (getM m (a + 1) (m a).toNat), numV m (a + 24) 8⟩
theorem ItAt.tell {m : Nat → UInt8} {a : Nat} {t : Itm} (h : ItAt m a t) : rdT m a = t := by
  unfold rdT
  rw [h.n, h.b, h.x, strL_key]
set_option maxHeartbeats 4000000 in
/-- the item in a slot -/
theorem kload (h : On A (cS m) w) (hv : vs ≤ 400) (i : Nat) (hi : i < vs / 32) (hk : (m (40 + 32 * i)).toNat ≤ 16) : Calls Tryz.prog 31 #[vwV A 40 vs, .int .i64 (i : Int)] w (Gives (iV (rdT m (40 + 32 * i))) w) := by
  have HSL := Lib.hid fun X (hX : On A (cS m) X) => kslot hX hv i hi
  have han : 40 + 32 * i + 32 ≤ 4096 := by omega
  have HTX : Hid (∀ X, On A (cS m) X → Calls Tryz.prog 51 #[vwV A (40 + 32 * i) 32, .int .i64 0, .int .i64 16] X (Gives (.tuple #[.string (strL (getM m (40 + 32 * i + 1) (m (40 + 32 * i)).toNat)), .int .i64 0]) X)) := Lib.hid fun X hX => by
    have ea : addrV (40 + 32 * i) 32 0 (16 + 1) = ((40 + 32 * i : Nat) : Int) := by rw [addr_in (by omega)]; omega
    exact ftext_yes hX (40 + 32 * i) 32 (by omega) (by omega) 0 16 (by omega) (by decide) (40 + 32 * i) _ ea (by rw [ea]; exact cS_there (by omega) (by omega) (by omega)) rfl (by show ((m (40 + 32 * i)).toNat : Int) ≤ 16; omega)
  have HLD : Hid (∀ X, On A (cS m) X → Calls Tryz.prog 52 #[vwV A (40 + 32 * i) 32, .int .i64 24, .int .i64 8] X (Gives (.tuple #[.int .u64 ((numV m (40 + 32 * i + 24) 8 : Nat) : Int), .int .i64 0]) X)) := Lib.hid fun X hX => by
    have ea : addrV (40 + 32 * i) 32 24 8 = ((40 + 32 * i + 24 : Nat) : Int) := by rw [addr_in (by omega)]; push_cast; rfl
    have hn : numE (cS m).L (cS m).es ((40 + 32 * i + 24 : Nat) : Int) 8 = 0 := by exact cS_there (by omega) (by omega) (by omega)
    have := on_load hX (40 + 32 * i) 32 (by omega) (by omega) 24 8 (by omega)
    rw [ea, hn, show ldV (cS m) ((40 + 32 * i + 24 : Nat) : Int) 8 = ((numV m (40 + 32 * i + 24) 8 : Nat) : Int) from by unfold ldV; rw [if_pos hn, Int.toNat_natCast]; rfl] at this
    exact this
  unfold rdT
  obtain ⟨a, ha⟩ : ∃ a, 40 + 32 * i = a := ⟨_, rfl⟩
  rw [ha] at HSL HTX HLD
  rw [ha]
  obtain ⟨K, hK⟩ : ∃ K, strL (getM m (a + 1) (m a).toNat) = K := ⟨_, rfl⟩
  obtain ⟨x, hx⟩ : ∃ x, numV m (a + 24) 8 = x := ⟨_, rfl⟩
  rw [hK] at HTX
  rw [hx] at HLD
  rw [hK, hx]
  have HO := Lib.hid h
  clear h hi han ha hK hx hk
  have HF0 := Lib.hid (((Fb.start w).new (vwC A 40 vs) 30).new #[.string ⟨#[]⟩, .int .u64 0] 39)
  go_enter Tryz.func31, Tryz.ntmps31
  go_upto_region 1 with fail
  change Code.wp _ _ _ _ ((w.alloc (.cells (vwC A 40 vs) 30)).alloc (.cells #[.string ⟨#[]⟩, .int .u64 0] 39))
  obtain ⟨y, hy⟩ : ∃ y, ((w.alloc (.cells (vwC A 40 vs) 30)).alloc (.cells #[.string ⟨#[]⟩, .int .u64 0] 39)) = y := ⟨_, rfl⟩
  obtain ⟨B0, hB0⟩ : ∃ B, w.heap.size = B := ⟨_, rfl⟩
  obtain ⟨B1, hB1⟩ : ∃ B, (w.alloc (.cells (vwC A 40 vs) 30)).heap.size = B := ⟨_, rfl⟩
  have hC1 : w.heap.size + 1 = B1 := by rw [← hB1]; simp
  have hf := HF0.out
  rw [hy, hB1, hB0] at hf
  rw [hy, hC1, hB0]
  have HF := Lib.hid hf
  clear hf HF0 hy hB0 hB1 hC1
  have c0 := HF.out.cell1 0 rfl; have c1 := HF.out.cell1 1 rfl; have c2 := HF.out.cell1 2 rfl
  go_wp2_with fail
  refine (HSL.out _ (HO.out.below HF.out.be)).mono ?_
  rintro e w1 ⟨rfl, hb⟩
  have HF1 := Lib.hid ((HF.out.below hb).new (vwC A a 32) 28)
  clear hb HF c0 c1 c2 HSL
  go_upto_region 2 with fail
  change Code.wp _ _ _ _ (w1.alloc (.cells (vwC A a 32) 28))
  obtain ⟨y1, hy⟩ : ∃ z, w1.alloc (.cells (vwC A a 32) 28) = z := ⟨_, rfl⟩
  obtain ⟨V, hV⟩ : ∃ V, w1.heap.size = V := ⟨_, rfl⟩
  rw [hy, hV] at HF1
  rw [hy, hV]
  clear hy hV
  have c0 := HF1.out.cell0 0 rfl; have c1 := HF1.out.cell0 1 rfl; have c2 := HF1.out.cell0 2 rfl
  go_wp2_with fail
  refine (HTX.out _ (HO.out.below HF1.out.be)).mono ?_
  rintro e w2 ⟨rfl, hb⟩
  have HF2 := Lib.hid (HF1.out.below hb)
  clear hb HF1 c0 c1 c2 HTX
  have c0 := HF2.out.cell0 0 rfl; have c1 := HF2.out.cell0 1 rfl; have c2 := HF2.out.cell0 2 rfl
  go_wp2_with fail
  refine (HLD.out _ (HO.out.below HF2.out.be)).mono ?_
  rintro e w3 ⟨rfl, hb⟩
  have HF3 := Lib.hid (HF2.out.below hb)
  clear hb HF2 c0 c1 c2 HLD
  have o0 := HF3.out.cell1 0 rfl; have o1 := HF3.out.cell1 1 rfl
  have f0 := HF3.out.free1 0; have f1 := HF3.out.free1 1
  go_wp2_with fail
  have hst : Fb w [⟨V, vwC A a 32, 28⟩, ⟨B1, #[.string K, .int .u64 (x : Int)], 39⟩, ⟨B0, vwC A 40 vs, 30⟩] (stR w3 B1 [.string K, .int .u64 (x : Int)] 0) := HF3.out.stores1 [.string K, .int .u64 (x : Int)] 0
  change bodyPost _ _ _ _ _ (stR w3 B1 [.string K, .int .u64 (x : Int)] 0)
  obtain ⟨z, hzz⟩ : ∃ z, stR w3 B1 [.string K, .int .u64 (x : Int)] 0 = z := ⟨_, rfl⟩
  rw [hzz] at hst ⊢
  have g0 := hst.cell1 0 rfl; have g1 := hst.cell1 1 rfl
  have HST := Lib.hid hst
  clear hst
  exact bodyPost_ret (v := .agg #[.string K, .int .u64 (x : Int)]) (by simp [results, Tryz.results31, go_sem, g0, g1]) rfl ⟨rfl, HST.out.be⟩
set_option maxHeartbeats 4000000 in
/-- an item is laid in a slot -/
theorem kstore (h : On A (cS m) w) (hv : vs ≤ 400) (i : Nat) (hi : i < vs / 32) (t : Itm) (ht : t.ok) : Calls Tryz.prog 27 #[vwV A 40 vs, .int .i64 (i : Int), iV t] w (Ret A (cS (stT m (40 + 32 * i) t)) (.tuple #[]) w) := by
  have HSL := Lib.hid fun X (hX : On A (cS m) X) => kslot hX hv i hi
  have hsz := ht.2.1
  have hx8 := ht.2.2
  obtain ⟨m1, hm1⟩ : ∃ m1, putM m (40 + 32 * i) (UInt8.ofNat t.k.size :: t.k.data.toList) = m1 := ⟨_, rfl⟩
  have HTX : Hid (∀ X, On A (cS m) X → Calls Tryz.prog 45 #[vwV A (40 + 32 * i) 32, .int .i64 0, .int .i64 16, .string t.k] X (Ret A (cS m1) (.int .i64 0) X)) := Lib.hid fun X hX => by
    have ea : addrV (40 + 32 * i) 32 0 (16 + 1) = ((40 + 32 * i : Nat) : Int) := by rw [addr_in (by omega)]; omega
    have := fput_yes hX (40 + 32 * i) 32 (by omega) (by omega) 0 16 (by omega) t.k (by decide) (by omega) (40 + 32 * i) ea (by rw [ea]; exact cS_there (by omega) (by omega) (by omega))
    unfold txtS at this
    rw [show ({ cS m with mm := putM (cS m).mm (40 + 32 * i) (UInt8.ofNat t.k.size :: t.k.data.toList) } : ASt) = cS m1 from by rw [← hm1]; rfl] at this
    exact this
  have HLD : Hid (∀ X, On A (cS m1) X → Calls Tryz.prog 46 #[vwV A (40 + 32 * i) 32, .int .i64 24, .int .i64 8, .int .u64 (t.x : Int)] X (Ret A (cS (stT m (40 + 32 * i) t)) (.int .i64 0) X)) := Lib.hid fun X hX => by
    have ea : addrV (40 + 32 * i) 32 24 8 = ((40 + 32 * i + 24 : Nat) : Int) := by rw [addr_in (by omega)]; push_cast; rfl
    have hn : numE (cS m1).L (cS m1).es ((40 + 32 * i + 24 : Nat) : Int) 8 = 0 := by exact cS_there (by omega) (by omega) (by omega)
    have := on_store hX (40 + 32 * i) 32 (by omega) (by omega) 24 8 (t.x : Int) (by omega) (by omega)
    rw [ea, hn, show storeS (cS m1) ((40 + 32 * i + 24 : Nat) : Int) 8 (t.x : Int) = cS (stT m (40 + 32 * i) t) from by unfold storeS; rw [if_pos hn]; unfold stT put8; rw [hm1]; rfl] at this
    exact this
  obtain ⟨sW, hsW⟩ : ∃ s, cS (stT m (40 + 32 * i) t) = s := ⟨_, rfl⟩
  obtain ⟨a, ha⟩ : ∃ a, 40 + 32 * i = a := ⟨_, rfl⟩
  rw [hsW, ha] at HLD
  rw [ha] at HSL HTX
  rw [hsW]
  have hl9 : t.k.size ≤ 9223372036854775807 := by omega
  clear hi ha hm1 hsW ht hx8
  have f0_ := Fr.start A w
  have f1_ := f0_.new h (vwC A 40 vs) 30 (by unfold NotAr; decide)
  have h1_ := h.below (bel1 _ (.cells (vwC A 40 vs) 30))
  have f2_ := f1_.new h1_ #[.string t.k, .int .u64 (t.x : Int)] 39 (by unfold NotAr; decide)
  have h2_ := h1_.below (bel1 _ (.cells #[.string t.k, .int .u64 (t.x : Int)] 39))
  have HF0 := Lib.hid (And.intro f2_ h2_)
  clear f0_ f1_ f2_ h1_ h2_ h
  go_enter Tryz.func27, Tryz.ntmps27
  go_upto_region 1 with fail
  change Code.wp _ _ _ _ ((w.alloc (.cells (vwC A 40 vs) 30)).alloc (.cells #[.string t.k, .int .u64 (t.x : Int)] 39))
  obtain ⟨y, hy⟩ : ∃ y, ((w.alloc (.cells (vwC A 40 vs) 30)).alloc (.cells #[.string t.k, .int .u64 (t.x : Int)] 39)) = y := ⟨_, rfl⟩
  obtain ⟨B0, hB0⟩ : ∃ B, w.heap.size = B := ⟨_, rfl⟩
  obtain ⟨B1, hB1⟩ : ∃ B, (w.alloc (.cells (vwC A 40 vs) 30)).heap.size = B := ⟨_, rfl⟩
  have hC1 : w.heap.size + 1 = B1 := by rw [← hB1]; simp
  have hf := HF0.out
  rw [hy, hB1, hB0] at hf
  rw [hy, hC1, hB0]
  have HF := Lib.hid hf
  clear hf HF0 hy hB0 hB1 hC1
  have c0 := HF.out.1.cell1 0 rfl; have c1 := HF.out.1.cell1 1 rfl; have c2 := HF.out.1.cell1 2 rfl
  go_wp2_with fail
  refine (HSL.out _ HF.out.2).mono ?_
  rintro e w1 ⟨rfl, hb⟩
  have HF1 := Lib.hid (And.intro ((HF.out.1.below HF.out.2 hb).new (HF.out.2.below hb) (vwC A a 32) 28 (by unfold NotAr; decide)) ((HF.out.2.below hb).below (bel1 w1 (.cells (vwC A a 32) 28))))
  clear hb HF c0 c1 c2 HSL
  go_upto_region 2 with fail
  change Code.wp _ _ _ _ (w1.alloc (.cells (vwC A a 32) 28))
  obtain ⟨y1, hy⟩ : ∃ z, w1.alloc (.cells (vwC A a 32) 28) = z := ⟨_, rfl⟩
  obtain ⟨V, hV⟩ : ∃ V, w1.heap.size = V := ⟨_, rfl⟩
  rw [hy, hV] at HF1
  rw [hy, hV]
  clear hy hV
  have c0 := HF1.out.1.cell0 0 rfl; have c1 := HF1.out.1.cell0 1 rfl; have c2 := HF1.out.1.cell0 2 rfl
  have e0 := HF1.out.1.cell1 0 rfl; have e1 := HF1.out.1.cell1 1 rfl
  go_wp2_with fail
  refine (HTX.out _ HF1.out.2).mono ?_
  rintro e w2 ⟨rfl, ho, hg⟩
  have HF2 := Lib.hid (And.intro (HF1.out.1.went HF1.out.2 hg) ho)
  clear ho hg HF1 c0 c1 c2 e0 e1 HTX
  have c0 := HF2.out.1.cell0 0 rfl; have c1 := HF2.out.1.cell0 1 rfl; have c2 := HF2.out.1.cell0 2 rfl
  have e0 := HF2.out.1.cell1 0 rfl; have e1 := HF2.out.1.cell1 1 rfl
  go_wp2_with fail
  refine (HLD.out _ HF2.out.2).mono ?_
  rintro e w3 ⟨rfl, ho, hg⟩
  have HF3 := Lib.hid (And.intro (HF2.out.1.went HF2.out.2 hg) ho)
  clear ho hg HF2 c0 c1 c2 e0 e1 HLD
  go_wp2_with fail
  exact bodyPost_ret (v := .tuple #[]) (by simp [results, Tryz.results27, go_sem]) rfl ⟨rfl, HF3.out.2, HF3.out.1.wt⟩
end
end Go.Proofs.YtmnhpmgffhpoeaaGreat.Bt
/- A list of cleanups: its layout, and the entry in a slot. (Written by gen_ceb.py.) -/
namespace Go.Proofs.YtmnhpmgffhpoeaaGreat.Bt
open Go Go.RowKit Go.Shelf
set_option linter.unusedVariables false
set_option linter.unusedSimpArgs false
set_option maxRecDepth 100000
theorem Fb.plus {w0 x y : World} {L : List Blk} {N : Nat} {c : Array Value} {T : TypeId} (h : Fb w0 L x) (hb : Below x.heap.size x y) (hN : y.heap[N]? = some (.cells c T (0, 0))) (hl : x.heap.size ≤ N) : Fb w0 (⟨N, c, T⟩ :: L) y := by
  have h2 := h.below hb
  refine ⟨fun z hz => ?_, List.pairwise_cons.2 ⟨fun z hz => ?_, h2.nd⟩, h2.be⟩
  · rcases List.mem_cons.1 hz with rfl | hz
    · exact ⟨hN, Nat.le_trans h.be.size hl⟩
    · exact h2.bs z hz
  · have := (Array.getElem?_eq_some_iff.1 (h.bs z hz).1).1
    show N ≠ z.r
    omega
section
variable {A vs : Nat} {m : Nat → UInt8} {w : World}
theorem addr_sl (an : Nat) : addrV an 24 0 (F3 4 : Nat) = an := by rw [F3_at.2.2.2.2, addr_in (by omega)]; omega
theorem nums_e (m : Nat → UInt8) (an : Nat) : numC 4 (allV (cS m) an F3) 4 = #[.int .u64 ((rdE m an).i : Int), .int .u64 ((rdE m an).k : Int), .int .u64 ((rdE m an).l : Int), .int .u64 ((rdE m an).x : Int)] := rfl
end
end Go.Proofs.YtmnhpmgffhpoeaaGreat.Bt
/- Rows of elements of k cells each, of any type: read, and grown by append. -/
namespace Go.Proofs.YtmnhpmgffhpoeaaGreat.Bt
open Go Go.RowKit Go.Shelf
set_option linter.unusedVariables false
set_option linter.unusedSimpArgs false
section
variable {α : Type}
def flG (enc : α → List Value) : List α → List Value
  | [] => []
  | y :: l => enc y ++ flG enc l
theorem flG_append (enc : α → List Value) (l l' : List α) : flG enc (l ++ l') = flG enc l ++ flG enc l' := by
  induction l with
  | nil => rfl
  | cons c l ih => show enc c ++ flG enc (l ++ l') = (enc c ++ flG enc l) ++ flG enc l'; rw [ih, List.append_assoc]
theorem flG_one (enc : α → List Value) (l : List α) (y : α) : flG enc (l ++ [y]) = flG enc l ++ enc y := by rw [flG_append]; simp [flG]
theorem flG_length {enc : α → List Value} {k : Nat} (hk : ∀ y, (enc y).length = k) (l : List α) : (flG enc l).length = l.length * k := by
  induction l with
  | nil => simp [flG]
  | cons c l ih => show (enc c ++ flG enc l).length = _; rw [List.length_append, ih, hk, List.length_cons, Nat.succ_mul]; omega
theorem flG_get {enc : α → List Value} {k : Nat} (hk : ∀ y, (enc y).length = k) (l : List α) (j : Nat) (y : α) (h : l[j]? = some y) (i : Nat) (hi : i < k) : (flG enc l)[j * k + i]? = (enc y)[i]? := by
  induction l generalizing j with
  | nil => simp at h
  | cons c l ih =>
    show (enc c ++ flG enc l)[j * k + i]? = _
    rcases j with _ | j
    · simp at h
      subst h
      rw [List.getElem?_append_left (by rw [hk]; omega)]; simp
    · rw [List.getElem?_append_right (by rw [hk, Nat.succ_mul]; omega)]
      have e : (j + 1) * k + i - (enc c).length = j * k + i := by rw [hk, Nat.succ_mul]; omega
      rw [e]
      exact ih j (by simpa using h)
/-- a row in memory -/
def RowG (T : TypeId) (enc : α → List Value) (k : Nat) (p : Option Addr) (L : List α) (w : World) : Prop :=
  L = [] ∨ ∃ g cur, p = some ⟨g, 0, none⟩ ∧ w.heap[g]? = some (.cells cur T (0, 0)) ∧ ∀ j y, L[j]? = some y → ∀ i v, (enc y)[i]? = some v → cur[j * k + i]? = some v
theorem RowG.nil (T : TypeId) (enc : α → List Value) (k : Nat) (p : Option Addr) (w : World) : RowG T enc k p [] w := .inl rfl
theorem RowG.below {T : TypeId} {enc : α → List Value} {k : Nat} {p : Option Addr} {L : List α} {x y : World} (h : RowG T enc k p L x) (hb : Below x.heap.size x y) : RowG T enc k p L y := by
  rcases h with h | ⟨g, cur, hp, hg, hc⟩
  · exact .inl h
  · exact .inr ⟨g, cur, hp, blk_at hb hg, hc⟩
theorem RowG.went {T : TypeId} {enc : α → List Value} {k : Nat} {p : Option Addr} {L : List α} {A : Nat} {s : ASt} {x y : World} (h : RowG T enc k p L x) (hT : NotAr T) (ho : On A s x) (hg : Went A x y) : RowG T enc k p L y := by
  rcases h with h | ⟨g, cur, hp, hgg, hc⟩
  · exact .inl h
  · exact .inr ⟨g, cur, hp, hg.keep ho hgg hT.1 hT.2.1 hT.2.2, hc⟩
theorem RowG.cell {T : TypeId} {enc : α → List Value} {k : Nat} {p : Option Addr} {L : List α} {w : World} (h : RowG T enc k p L w) {j : Nat} {y : α} (hj : L[j]? = some y) :
    ∃ g, p = some ⟨g, 0, none⟩ ∧ g < w.heap.size ∧ ∀ i v, (enc y)[i]? = some v → w.cell? ⟨g, j * k + i, none⟩ = some v := by
  rcases h with rfl | ⟨g, cur, hp, hg, hc⟩
  · simp at hj
  · exact ⟨g, hp, (Array.getElem?_eq_some_iff.1 hg).1, fun i v hi => (cell_blk hg _).1.trans (hc j y hj i v hi)⟩
theorem RowG.take {T : TypeId} {enc : α → List Value} {k : Nat} {p : Option Addr} {L : List α} {w : World} (h : RowG T enc k p L w) (n : Nat) : RowG T enc k p (L.take n) w := by
  rcases h with rfl | ⟨g, cur, hp, hg, hc⟩
  · exact .inl (by simp)
  · exact .inr ⟨g, cur, hp, hg, fun j y hj => hc j y (by
      rw [List.getElem?_take] at hj
      split at hj
      · exact hj
      · cases hj)⟩
/-- grown by append -/
structure RwG (T : TypeId) (enc : α → List Value) (k b0 : Nat) (L : List α) (v : Value) (x y : World) : Prop where
  ow : y.ownsRow b0 T k v L.length (flG enc L)
  bl : Below b0 x y
  sz : b0 ≤ y.heap.size
theorem RwG.start (T : TypeId) (enc : α → List Value) (k : Nat) {b0 : Nat} (x : World) (h : x.heap.size = b0) : RwG T enc k b0 [] (.slice none 0 0) x x :=
  ⟨World.ownsRow_nil _ _ _ _, Below.refl _ _, by omega⟩
theorem RwG.below {T : TypeId} {enc : α → List Value} {k b0 : Nat} {L : List α} {v : Value} {x y y' : World} (h : RwG T enc k b0 L v x y) (hb : Below y.heap.size y y') : RwG T enc k b0 L v x y' :=
  ⟨h.ow.kept (show y.grownBy y' none from ⟨hb.os, hb.tape, hb.output, hb.size, fun k hk _ => hb.block k hk⟩) (by cases e : v.ownBlock with
    | none => exact .inl rfl
    | some g => exact .inr (by simp)), h.bl.trans (hb.mono h.sz), Nat.le_trans h.sz hb.size⟩
theorem rowG_grow {W w1 w : World} {base n k : Nat} {e : TypeId} {v : Value} {xs : List Value} (hrow : W.ownsRow base e k v n xs) (hgrow : W.grownBy w1 v.ownBlock) (hs : base ≤ W.heap.size) (hb : Below base w W) : Below base w w1 :=
  hb.grown hgrow (by omega) fun j ej => by
    rcases hrow.2 with ⟨rfl, _⟩ | ⟨g, cap, cur, rfl, h, _⟩
    · simp [Value.ownBlock] at ej
    · obtain rfl : g = j := by simpa [Value.ownBlock] using ej
      exact h
/-- behind an append of one element -/
theorem RwG.app {T : TypeId} {enc : α → List Value} {k b0 : Nat} {L : List α} {v v' : Value} {x y y' : World} (h : RwG T enc k b0 L v x y) (u : α) (hg : y.grownBy y' v.ownBlock)
    (ho : y'.ownsRow b0 T k v' (L.length + 1) (flG enc L ++ enc u)) : RwG T enc k b0 (L ++ [u]) v' x y' := by
  have hz := h.sz
  have hs := hg.size
  exact ⟨by rw [List.length_append, flG_one]; exact ho, rowG_grow h.ow hg h.sz h.bl, by omega⟩
/-- behind an append of some -/
theorem RwG.apps {T : TypeId} {enc : α → List Value} {k b0 : Nat} {L : List α} {v v' : Value} {x y y' : World} (h : RwG T enc k b0 L v x y) (M : List α) (hg : y.grownBy y' v.ownBlock)
    (ho : y'.ownsRow b0 T k v' (L.length + M.length) (flG enc L ++ flG enc M)) : RwG T enc k b0 (L ++ M) v' x y' := by
  have hz := h.sz
  have hs := hg.size
  exact ⟨by rw [List.length_append, flG_append]; exact ho, rowG_grow h.ow hg h.sz h.bl, by omega⟩
theorem RowG.src {T : TypeId} {enc : α → List Value} {k : Nat} (hk : ∀ y, (enc y).length = k) {ad : Addr} {L : List α} {w : World} (h : RowG T enc k (some ad) L w) : ∀ j u, (flG enc L)[j]? = some u → w.cell? (ad.add j) = some u := by
  intro j u hj
  have hjl := (List.getElem?_eq_some_iff.1 hj).1
  rw [flG_length hk] at hjl
  have hk0 : 0 < k := by
    rcases Nat.eq_zero_or_pos k with e | e
    · subst e; simp at hjl
    · exact e
  have hq : j / k < L.length := (Nat.div_lt_iff_lt_mul hk0).2 hjl
  have hy := List.getElem?_eq_getElem hq
  have hdm : j / k * k + j % k = j := by rw [Nat.mul_comm]; exact Nat.div_add_mod j k
  have h2 := flG_get hk L (j / k) _ hy (j % k) (Nat.mod_lt _ hk0)
  rw [hdm, hj] at h2
  obtain ⟨g, hp, _, hc⟩ := h.cell hy
  cases hp
  have e : (⟨g, 0, none⟩ : Addr).add j = ⟨g, j, none⟩ := by simp only [Addr.add]; split <;> simp_all
  rw [e]
  have h3 := hc (j % k) u h2.symm
  rw [hdm] at h3
  exact h3
theorem flG_ones {enc : α → List Value} (h1 : ∀ y, ∀ u ∈ enc y, u.oneCell' = true) (L : List α) : ∀ u ∈ flG enc L, u.oneCell' = true := by
  induction L with
  | nil => intro u hu; simp [flG] at hu
  | cons c l ih =>
    intro u hu
    rcases List.mem_append.1 (show u ∈ enc c ++ flG enc l from hu) with hu | hu
    · exact h1 c u hu
    · exact ih u hu
/-- a row that is whole -/
theorem RwG.row {T : TypeId} {enc : α → List Value} {k b0 : Nat} {L : List α} {v : Value} {x y : World} (hk : ∀ y, (enc y).length = k) (h : RwG T enc k b0 L v x y) : ∃ p cap, v = .slice p L.length cap ∧ L.length ≤ cap ∧ RowG T enc k p L y := by
  rcases h.ow.2 with ⟨rfl, h0⟩ | ⟨g, cap, cur, rfl, _, hg, hnc, _, hcs, htk⟩
  · exact ⟨none, 0, by rw [h0], by omega, .inl (List.eq_nil_of_length_eq_zero h0)⟩
  · refine ⟨_, cap, rfl, by omega, .inr ⟨g, cur, rfl, hg, fun j y hj i v hi => ?_⟩⟩
    have hjl := (List.getElem?_eq_some_iff.1 hj).1
    have hik : i < k := by rw [← hk y]; exact (List.getElem?_eq_some_iff.1 hi).1
    have h2 := flG_get hk L j y hj i hik
    have hlt : j * k + i < L.length * k := by
      have : (j + 1) * k ≤ L.length * k := Nat.mul_le_mul_right _ hjl
      rw [Nat.succ_mul] at this
      omega
    rw [hi, ← htk, List.getElem?_take, if_pos hlt] at h2
    simpa using h2
theorem RwG.row2 {T : TypeId} {enc : α → List Value} {k b0 : Nat} {L : List α} {v : Value} {x y : World} (hk : ∀ y, (enc y).length = k) (h : RwG T enc k b0 L v x y) : ∃ p cap, v = .slice p L.length cap ∧ L.length ≤ cap ∧ (p = none → cap = 0) ∧ RowG T enc k p L y := by
  obtain ⟨p, cap, rfl, h1, h2⟩ := h.row hk
  refine ⟨p, cap, rfl, h1, fun e => ?_, h2⟩
  subst e
  rcases h.ow.2 with ⟨e, h0⟩ | ⟨g, cap', cur, e, _⟩
  · exact ((Value.slice.injEq _ _ _ _ _ _).mp e).2.2
  · have := ((Value.slice.injEq _ _ _ _ _ _).mp e).1
    cases this
theorem RwG.ge {T : TypeId} {enc : α → List Value} {k b0 : Nat} {L : List α} {v : Value} {x y : World} (h : RwG T enc k b0 L v x y) (g n c : Nat) (e : v = .slice (some ⟨g, 0, none⟩) n c) : b0 ≤ g := by
  subst e
  rcases h.ow.2 with ⟨e, _⟩ | ⟨g', cap', cur, e, hb, _⟩
  · have := ((Value.slice.injEq _ _ _ _ _ _).mp e).1
    cases this
  · have := ((Value.slice.injEq _ _ _ _ _ _).mp e).1
    cases this
    exact hb
/-- the cells of an element in a block of its own -/
theorem encG_new {w : World} {c : Array Value} (T : TypeId) (l : List Value) (hl : c = l.toArray) {g : Nat} (hg : w.heap.size = g) : ∀ j u, l[j]? = some u → (w.alloc (.cells c T)).cell? ((⟨g, 0, none⟩ : Addr).add j) = some u := fun j u h => by
  subst hg
  have e : (⟨w.heap.size, 0, none⟩ : Addr).add j = ⟨w.heap.size, j, none⟩ := by simp only [Addr.add]; split <;> simp_all
  rw [e, (cell_blk (heap_new w _) _).1, ← h, hl]
  simp
end
end Go.Proofs.YtmnhpmgffhpoeaaGreat.Bt
