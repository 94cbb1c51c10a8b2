/- Several texts in one: FdE; FdH; FdI; FdJ; FdK. -/
import Derived.Test.YtcbbhefgdonabaaDtA
/- The example of layer 5. -/
namespace Go.Proofs.Ytcbbhefgdonabaa.Bt
open Go Go.RowKit Go.Shelf
set_option linter.unusedVariables false
set_option linter.unusedSimpArgs false

theorem wpList_load_row_if {P : Program} {ops : Array Oper} {rest : List Oper} {o : Oper} {a : Act} {w : World} {Q : Exit → Act → World → Prop} (hw : Region.wanted o (yielded ops a.tmps) = true) (ty : TypeId) (x : Operand) (ho : o.op = .load ty x)
    (g : Nat) (hx : a.eval x = .pointer (some ⟨g, 0, none⟩)) (t : TypeId) (cs : Array Value) (fr : Nat × Nat) (d : TypeDesc) (hg : w.heap[g]? = some (.cells cs t fr))
    (hu : P.underlying ty = some d) (hd : (match d with | .struct _ | .array _ _ => true | _ => false) = true) (hi : (P.info? ty).map (·.size) = some cs.size)
    (h : wpList P ops Q rest (a.put o.dst (.agg cs)) w) : wpList P ops Q (o :: rest) a w :=
  wpList_step fun K hK => by rw [if_pos hw]; exact wp_load_row ty x ho g hx t cs fr d hg hu hd hi (hK _ _ h)
def exF : Nat → Nat := fP [1, 2, 8] 3
theorem ex_ok : okV [1, 2, 8] = .tuple #[.agg (recC 3 exF), .int .i64 0] := rfl
set_option maxRecDepth 100000 in
set_option maxHeartbeats 4000000 in
theorem awake5_calls (w : World) : Calls Try.prog 50 #[] w (Gives (.bool true) w) := by
  have HSZ : Hid (∀ f, (Try.prog.info? 88).map (·.size) = some (recC 3 f).size) := Lib.hid (fun f => by rw [recC_size]; exact Try.infoRec)
  have F1 : Hid (exF 1 = 1 ∧ exF 2 = 3 ∧ atF 3 exF 2 = 3) := Lib.hid (by decide)
  have HX := Lib.hid ex_ok
  go_enter Try.func50, Try.ntmps50
  go_wp2_with fail
  have hws : WsAt (w.alloc (.cells #[.int .i64 1, .int .i64 2, .int .i64 8] 3)) (some ⟨w.heap.size, 0, none⟩) [1, 2, 8] := by
    refine .inr ⟨w.heap.size, 0, rfl, by simp, fun i hi => ?_⟩
    rw [(cell_blk (heap_new w _) _).1, Nat.zero_add]
    have : i = 0 ∨ i = 1 ∨ i = 2 := by simp at hi; omega
    rcases this with rfl | rfl | rfl <;> rfl
  refine (of_in _ 3 3 [1, 2, 8] rfl (by omega) (by omega) _ hws).mono ?_
  rintro e w1 ⟨rfl, hb⟩
  rw [HX.out]
  have B1 := Lib.hid ((bel1 w (.cells #[.int .i64 1, .int .i64 2, .int .i64 8] 3)).trans (hb.mono (by simp)))
  clear hws hb
  go_upto_region 2 with (refine wpList_store_row rfl 88 (.tmp 1) (.tmp 11) rfl w1.heap.size (recC 3 exF) rfl rfl 88 rec0 (heap_new _ _) (HSZ.out _) (by rw [rec0_size, recC_size]) (rec_one _ _) ?_; simp only [Act.put, List.setIfInBounds_toArray, List.set_cons_zero, List.set_cons_succ])
  obtain ⟨y, hy⟩ : ∃ y, (w1.alloc (.cells rec0 88)).setRow w1.heap.size (recC 3 exF) = y := ⟨_, rfl⟩
  obtain ⟨R1, hR1⟩ : ∃ B, w1.heap.size = B := ⟨_, rfl⟩
  have hv : VR R1 3 exF y := by unfold VR; rw [← hy, ← hR1]; exact setRow_ad (heap_new _ _) _
  have by_ : Below w.heap.size w y := by rw [← hy]; exact below_setRow (B1.out.alloc B1.out.size _) B1.out.size _
  change Code.wp _ _ _ _ ((w1.alloc (.cells rec0 88)).setRow w1.heap.size (recC 3 exF))
  rw [hy, hR1]
  have HV := Lib.hid hv; have BY := Lib.hid by_
  clear hv by_ hy hR1 B1
  go_wp2_with fail
  refine (page_any 20 (by omega) _).mono ?_
  rintro e w2 ⟨A, b, rfl, ho⟩
  have HO2 : Hid (OB A (fullS 1 (fun _ => 0)) w w2) := Lib.hid ⟨ho.o, ho.b.rebase BY.out⟩
  have HV2 := Lib.hid (VR.below HV.out ho.b.bel)
  clear ho HV BY
  go_upto_region 3 with fail
  obtain ⟨q1, q2, q3⟩ := three_new w2 #[.pointer (some ⟨A, 0, none⟩), .int .i64 10, .int .i64 20] #[.slice (some ⟨b, 0, none⟩) 1 1, .int .i64 (-1)] #[.int .i64 10, .int .i64 20] 27 141 143
  have hb3 := (three_blocks w2 #[.pointer (some ⟨A, 0, none⟩), .int .i64 10, .int .i64 20] #[.slice (some ⟨b, 0, none⟩) 1 1, .int .i64 (-1)] #[.int .i64 10, .int .i64 20] 27 141 143).2
  have hrv : RV R1 w2.heap.size 3 exF A 10 20 _ := ⟨HV2.out.below hb3, q1⟩
  have HOx := Lib.hid (HO2.out.below hb3)
  obtain ⟨x, hx⟩ : ∃ x, (((w2.alloc (.cells #[.pointer (some ⟨A, 0, none⟩), .int .i64 10, .int .i64 20] 27)).alloc (.cells #[.slice (some ⟨b, 0, none⟩) 1 1, .int .i64 (-1)] 141)).alloc (.cells #[.int .i64 10, .int .i64 20] 143)) = x := ⟨_, rfl⟩
  obtain ⟨V, hV⟩ : ∃ V, w2.heap.size = V := ⟨_, rfl⟩
  rw [hx] at hrv HOx ⊢
  rw [hV] at hrv ⊢
  have HR := Lib.hid hrv
  clear hx hV q1 q2 q3 hb3 hrv HV2 HO2
  go_wp2_with fail
  refine (awake4 _).mono ?_
  rintro e w3 ⟨rfl, hb⟩
  have HR3 := Lib.hid (HR.out.below hb)
  have HO3 := Lib.hid (HOx.out.below hb)
  clear hb HR HOx
  go_wp2_with (refine wpList_load_row_if rfl 88 (.tmp 1) rfl R1 rfl 88 (recC 3 exF) (0, 0) _ HR3.out.1 Try.underlying88 rfl (HSZ.out _) ?_)
  refine (fat_any 3 exF (by omega) 2 _).mono ?_
  rintro e w4 ⟨rfl, hb⟩
  rw [F1.out.2.2]
  have HR4 := Lib.hid (HR3.out.below hb)
  have HO4 := Lib.hid (HO3.out.below hb)
  clear hb HR3 HO3
  have c0 := (cell_blk HR4.out.2 0).1; have c1 := (cell_blk HR4.out.2 1).1; have c2 := (cell_blk HR4.out.2 2).1
  go_wp2_with (refine wpList_load_row_if rfl 88 (.tmp 1) rfl R1 rfl 88 (recC 3 exF) (0, 0) _ HR4.out.1 Try.underlying88 rfl (HSZ.out _) ?_)
  refine (fset_long 3 exF 10 20 (by omega) 1 (by omega) (by decide) (by decide) (by decide) 65536 (by omega) (by omega) (by decide)).mono ?_
  rintro e w5 ⟨rfl, hb⟩
  have HR5 := Lib.hid (HR4.out.below hb)
  have HO5 := Lib.hid (HO4.out.below hb)
  clear hb HR4 HO4 c0 c1 c2
  have c0 := (cell_blk HR5.out.2 0).1; have c1 := (cell_blk HR5.out.2 1).1; have c2 := (cell_blk HR5.out.2 2).1
  go_wp2_with (refine wpList_load_row_if rfl 88 (.tmp 1) rfl R1 rfl 88 (recC 3 exF) (0, 0) _ HR5.out.1 Try.underlying88 rfl (HSZ.out _) ?_)
  refine (fset_on HO5.out.o 3 exF 10 20 (by omega) (by omega) (by omega) 1 (by omega) (by decide) (by decide) (by decide) 65535 (by omega) (by omega) (by decide)).mono ?_
  rintro e w6 ⟨rfl, hx, hg⟩
  have HF := Lib.hid (HO5.out.b.went hg)
  have hz : numE (fullS 1 (fun _ => 0)).L (fullS 1 (fun _ => 0)).es (addrV 10 20 (exF 1 : Nat) (exF (1 + 1) - exF 1 : Nat)) (exF (1 + 1) - exF 1 : Nat) = 0 := by decide +kernel
  rw [hz]
  clear hx hg c0 c1 c2 HR5 HO5 hz
  go_wp2_with fail
  go_ret
  exact ⟨rfl, HF.out.bel⟩
theorem awake5 (w : World) : Calls Try.prog 50 #[] w (TrueAt w) := awake5_calls w
end Go.Proofs.Ytcbbhefgdonabaa.Bt
/- The contract of a record's Get. -/
namespace Go.Proofs.Ytcbbhefgdonabaa.Bt
open Go Go.RowKit Go.Shelf
set_option linter.unusedVariables false
set_option linter.unusedSimpArgs false

section
variable {A : Nat} {s : ASt} {w : World}
set_option maxHeartbeats 1000000 in
theorem fget_on (h : On A s w) (n : Nat) (f : Nat → Nat) (va vs : Nat) (h1 : va ≤ 4294967296) (h2 : vs ≤ 4294967296) (hn : n ≤ 32) (k : Nat) (hk : k < n) (hm : f k ≤ f (k + 1)) (hs : f (k + 1) ≤ 1000) :
    Calls Try.prog 88 #[.agg (recC n f), vwV A va vs, .int .i64 (k : Int)] w
      (Gives (.tuple #[.int .u64 (ldV s (addrV va vs (f k : Nat) (f (k + 1) - f k : Nat)) (f (k + 1) - f k : Nat)), .int .i64 (numE s.L s.es (addrV va vs (f k : Nat) (f (k + 1) - f k : Nat)) (f (k + 1) - f k : Nat))]) w) := by
  have HO := Lib.hid h
  have HH : Hid (hasF n k = true) := Lib.hid (decide_eq_true ⟨by omega, by omega⟩)
  have HV := Lib.hid (rv_new n f A va vs w)
  have HZ : Hid ((Try.prog.info? 88).map (·.size) = some (recC n f).size) := Lib.hid (by rw [recC_size]; exact Try.infoRec)
  clear h
  go_enter Try.func88, Try.ntmps88
  go_wp2_with (refine wpList_load_row rfl 88 (.tmp 3) rfl w.heap.size rfl 88 (recC n f) (0, 0) _ HV.out.1 Try.underlying88 rfl HZ.out ?_)
  refine (fhas_any n f k _).mono ?_
  rintro e w1 ⟨rfl, hb⟩
  rw [HH.out]
  have B2 := Lib.hid ((below2 w (.cells (recC n f) 88) (.cells #[.pointer (some ⟨A, 0, none⟩), .int .i64 (va : Int), .int .i64 (vs : Int)] 27)).trans (hb.mono (by simp; omega)))
  have HV2 := HV.out.below hb
  clear hb HV
  go_wp2_with fail
  obtain ⟨B, hB⟩ : ∃ B, w.heap.size = B := ⟨_, rfl⟩
  obtain ⟨V, hVV⟩ : ∃ V, B + 1 = V := ⟨_, rfl⟩
  rw [hB] at HV2 ⊢
  rw [hVV] at HV2 ⊢
  clear hB hVV
  have hu := Try.underlying88
  have hi : (Try.prog.info? 88).map (·.size) = some (recC n f).toList.length := by rw [Array.length_toList]; exact HZ.out
  have i0 : 0 ≤ (k : Int) := by omega
  have i1 : (k : Int) < 33 := by omega
  refine wp_region_held_drew (S := (fun x => x.cell? ⟨V, 0, none⟩ = some (.pointer (some ⟨A, 0, none⟩)) ∧ x.cell? ⟨V, 1, none⟩ = some (.int .i64 (va : Int)) ∧ x.cell? ⟨V, 2, none⟩ = some (.int .i64 (vs : Int)) ∧ x.cell? ⟨B, 1 + k, none⟩ = some (.int .i64 ((f k : Nat) : Int)) ∧ x.rangeAt B 0 (recC n f).toList ∧ RV B V n f A va vs x)) (by kernel_rfl) ((HV2.below (Below.refl _ _).drew).all k (by omega)) (fun hHeld => ?_)
  refine wpAnyH_take (i := 0) (v := .agg #[.pointer (some ⟨A, 0, none⟩), .int .i64 (va : Int), .int .i64 (vs : Int)]) rfl (by kernel_rfl) (by kernel_rfl) (by kernel_rfl) (fun _ _ _ h => h) (Or.inl ⟨by rfl, fun X hS => ?_⟩) hHeld ?_
  · obtain ⟨s1, s2, s3, s4, _, _⟩ := hS
    go_simp
  try simp only [Act.put, List.getElem_toArray, List.getElem_cons_zero, List.getElem_cons_succ, List.setIfInBounds_toArray, List.set_cons_zero, List.set_cons_succ]
  refine wpAnyH_take (i := 1) (v := .int .i64 (k : Int)) rfl (by kernel_rfl) (by kernel_rfl) (by kernel_rfl) (fun _ _ _ h => h) (Or.inl ⟨by rfl, fun X hS => ?_⟩) hHeld ?_
  · obtain ⟨s1, s2, s3, s4, _, _⟩ := hS
    go_simp
  try simp only [Act.put, List.getElem_toArray, List.getElem_cons_zero, List.getElem_cons_succ, List.setIfInBounds_toArray, List.set_cons_zero, List.set_cons_succ]
  refine wpAnyH_take (i := 2) (v := .pointer (some ⟨B, 1, none⟩)) rfl (by kernel_rfl) (by kernel_rfl) (by kernel_rfl) (fun _ _ _ h => h) (Or.inl ⟨by rfl, fun X hS => ?_⟩) hHeld ?_
  · obtain ⟨s1, s2, s3, s4, _, _⟩ := hS
    go_simp
  try simp only [Act.put, List.getElem_toArray, List.getElem_cons_zero, List.getElem_cons_succ, List.setIfInBounds_toArray, List.set_cons_zero, List.set_cons_succ]
  refine wpAnyH_take (i := 3) (v := .pointer (some ⟨B, 1 + k, none⟩)) rfl (by kernel_rfl) (by kernel_rfl) (by kernel_rfl) (fun _ _ _ h => h) (Or.inl ⟨by rfl, fun X hS => ?_⟩) hHeld ?_
  · obtain ⟨s1, s2, s3, s4, _, _⟩ := hS
    go_simp
  try simp only [Act.put, List.getElem_toArray, List.getElem_cons_zero, List.getElem_cons_succ, List.setIfInBounds_toArray, List.set_cons_zero, List.set_cons_succ]
  refine wpAnyH_take (i := 4) (v := .int .i64 ((f k : Nat) : Int)) rfl (by kernel_rfl) (by kernel_rfl) (by kernel_rfl) (fun _ _ _ h => h) (Or.inl ⟨by rfl, fun X hS => ?_⟩) hHeld ?_
  · obtain ⟨s1, s2, s3, s4, _, _⟩ := hS
    go_simp
  try simp only [Act.put, List.getElem_toArray, List.getElem_cons_zero, List.getElem_cons_succ, List.setIfInBounds_toArray, List.set_cons_zero, List.set_cons_succ]
  refine wpAnyH_take (i := 5) (v := .agg (recC n f)) rfl (by kernel_rfl) (by kernel_rfl) (by kernel_rfl) (fun _ _ _ h => h) (yieldsIf_load_mid (by rfl) 88 (.tmp 3) rfl B 0 rfl (recC n f).toList _ (fun X hS => hS.2.2.2.2.1) hu rfl hi) hHeld ?_
  try simp only [Act.put, List.getElem_toArray, List.getElem_cons_zero, List.getElem_cons_succ, List.setIfInBounds_toArray, List.set_cons_zero, List.set_cons_succ]
  refine wpAnyH_take (i := 6) (v := .int .i64 (k : Int)) rfl (by kernel_rfl) (by kernel_rfl) (by kernel_rfl) (fun _ _ _ h => h) (Or.inl ⟨by rfl, fun X hS => ?_⟩) hHeld ?_
  · obtain ⟨s1, s2, s3, s4, _, _⟩ := hS
    go_simp
  try simp only [Act.put, List.getElem_toArray, List.getElem_cons_zero, List.getElem_cons_succ, List.setIfInBounds_toArray, List.set_cons_zero, List.set_cons_succ]
  refine wpAnyH_ready (rs := [7]) (by kernel_rfl) (by simp) ?_
  refine AllReadyH.cons rfl (fun K hK => ?_) AllReadyH.nil
  go_simp
  refine (fwidth_any n f hn k hk hm hs _).mono ?_
  rintro e x1 ⟨rfl, hb1⟩
  have b1 := (B2.out.trans ((Below.refl _ _).drew.mono B2.out.size)).trans (hb1.mono (B2.out.trans ((Below.refl _ _).drew.mono B2.out.size)).size)
  have k1 := ((HV2.below (Below.refl _ _).drew).below hb1).all k (by omega)
  refine hK.out _ _ k1 (fun hHeld => ?_)
  clear hK
  try simp only [Act.put, List.getElem_toArray, List.getElem_cons_zero, List.getElem_cons_succ, List.setIfInBounds_toArray, List.set_cons_zero, List.set_cons_succ]
  refine wpAnyH_ready (rs := [8]) (by kernel_rfl) (by simp) ?_
  refine AllReadyH.cons rfl (fun K hK => ?_) AllReadyH.nil
  go_simp
  refine (on_load (HO.out.below b1) va vs h1 h2 (f k : Nat) (f (k + 1) - f k : Nat) (by omega)).mono ?_
  rintro e x2 ⟨rfl, hb2⟩
  have b2 := b1.trans (hb2.mono b1.size)
  have k2 := (k1.2.2.2.2.2.below hb2).all k (by omega)
  refine hK.out _ _ k2 (fun hHeld => ?_)
  clear hK
  generalize ldV s (addrV va vs (f k : Nat) (f (k + 1) - f k : Nat)) (f (k + 1) - f k : Nat) = LVV at *
  generalize numE s.L s.es (addrV va vs (f k : Nat) (f (k + 1) - f k : Nat)) (f (k + 1) - f k : Nat) = NEE at *
  try simp only [Act.put, List.getElem_toArray, List.getElem_cons_zero, List.getElem_cons_succ, List.setIfInBounds_toArray, List.set_cons_zero, List.set_cons_succ]
  refine wpAnyH_take (i := 9) (v := .int .u64 LVV) rfl (by kernel_rfl) (by kernel_rfl) (by kernel_rfl) (fun _ _ _ h => h) (Or.inl ⟨by rfl, fun X hS => ?_⟩) hHeld ?_
  · obtain ⟨s1, s2, s3, s4, _, _⟩ := hS
    go_simp
  try simp only [Act.put, List.getElem_toArray, List.getElem_cons_zero, List.getElem_cons_succ, List.setIfInBounds_toArray, List.set_cons_zero, List.set_cons_succ]
  refine wpAnyH_take (i := 10) (v := .int .i64 NEE) rfl (by kernel_rfl) (by kernel_rfl) (by kernel_rfl) (fun _ _ _ h => h) (Or.inl ⟨by rfl, fun X hS => ?_⟩) hHeld ?_
  · obtain ⟨s1, s2, s3, s4, _, _⟩ := hS
    go_simp
  try simp only [Act.put, List.getElem_toArray, List.getElem_cons_zero, List.getElem_cons_succ, List.setIfInBounds_toArray, List.set_cons_zero, List.set_cons_succ]
  refine wpAnyH_take (i := 11) (v := .int .u64 LVV) rfl (by kernel_rfl) (by kernel_rfl) (by kernel_rfl) (fun _ _ _ h => h) (Or.inl ⟨by rfl, fun X hS => ?_⟩) hHeld ?_
  · obtain ⟨s1, s2, s3, s4, _, _⟩ := hS
    go_simp
  try simp only [Act.put, List.getElem_toArray, List.getElem_cons_zero, List.getElem_cons_succ, List.setIfInBounds_toArray, List.set_cons_zero, List.set_cons_succ]
  refine wpAnyH_take (i := 12) (v := .int .i64 NEE) rfl (by kernel_rfl) (by kernel_rfl) (by kernel_rfl) (fun _ _ _ h => h) (Or.inl ⟨by rfl, fun X hS => ?_⟩) hHeld ?_
  · obtain ⟨s1, s2, s3, s4, _, _⟩ := hS
    go_simp
  try simp only [Act.put, List.getElem_toArray, List.getElem_cons_zero, List.getElem_cons_succ, List.setIfInBounds_toArray, List.set_cons_zero, List.set_cons_succ]
  refine wpAnyH_done (by kernel_rfl) ?_ _
  have HF := Lib.hid b2
  clear HV2 k1 k2 b1 b2
  go_wp2_with fail
  go_ret2
  exact ⟨rfl, HF.out⟩
end
end Go.Proofs.Ytcbbhefgdonabaa.Bt
/- The contract of a record's Put. -/
namespace Go.Proofs.Ytcbbhefgdonabaa.Bt
open Go Go.RowKit Go.Shelf
set_option linter.unusedVariables false
set_option linter.unusedSimpArgs false

/-- a slice of numbers of 64 bits -/
def NsAt (w : World) (p : Option Addr) (xs : List Int) : Prop :=
  xs.length = 0 ∨ ∃ b off, p = some ⟨b, off, none⟩ ∧ b < w.heap.size ∧ ∀ i, i < xs.length → w.cell? ⟨b, off + i, none⟩ = some (.int .u64 (xs.getD i 0))
theorem NsAt.below {w w' : World} {p : Option Addr} {ws : List Int} (h : NsAt w p ws) (hb : Below w.heap.size w w') : NsAt w' p ws := by
  rcases h with h | ⟨b, off, rfl, hlt, hc⟩
  · exact .inl h
  · exact .inr ⟨b, off, rfl, Nat.lt_of_lt_of_le hlt hb.size, fun i hi => (hb.cell (p := ⟨b, off + i, none⟩) hlt).trans (hc i hi)⟩
/-- a record as it is told: its fields' places -/
structure Rec (n : Nat) (f : Nat → Nat) : Prop where
  n32 : n ≤ 32
  f0 : f 0 = 0
  mono : ∀ k, k < n → f k ≤ f (k + 1)
  wide : ∀ k, k < n → f (k + 1) - f k ≤ 8
  whole : ∀ k, k < n → wholeB ((f (k + 1) - f k : Nat) : Int) = true
theorem Rec.le {n : Nat} {f : Nat → Nat} (h : Rec n f) {j k : Nat} (hjk : j ≤ k) (hk : k ≤ n) : f j ≤ f k := by
  induction k with
  | zero => obtain rfl : j = 0 := by omega
            exact Nat.le_refl _
  | succ k ih =>
    by_cases e : j = k + 1
    · subst e; exact Nat.le_refl _
    · exact Nat.le_trans (ih (by omega) (by omega)) (h.mono k (by omega))
theorem Rec.small {n : Nat} {f : Nat → Nat} (h : Rec n f) {k : Nat} (hk : k ≤ n) : f k ≤ 8 * k := by
  induction k with
  | zero => rw [h.f0]; omega
  | succ k ih => have := ih (by omega); have := h.wide k (by omega); have := h.mono k (by omega); omega
/-- all numbers laid, one behind the other, from the first one on -/
def putR (m : Nat → UInt8) (an : Nat) (f : Nat → Nat) (xs : List Int) : Nat → (Nat → UInt8)
  | 0 => m
  | j + 1 => putM (putR m an f xs j) (an + f j) (numB (xs.getD j 0) (f (j + 1) - f j))
section
variable {A : Nat} {s : ASt} {w : World}
theorem fputn_arg (n : Nat) (f : Nat → Nat) (va vs : Nat) (p : Option Addr) (len c : Nat) (hl : len ≤ 9223372036854775807) (hn : n ≤ 32) (hne : len ≠ n) :
    Calls Try.prog 37 #[.agg (recC n f), vwV A va vs, .slice p len c] w (Gives (.int .i64 2) w) := by
  have HV := rv_new n f A va vs w
  have c0 := HV.1.n
  have d1 : ((len : Int) != (n : Int)) = true := by simp; omega
  clear HV hne
  go_enter Try.func37, Try.ntmps37
  go_wp2_with fail
  go_ret
  exact ⟨rfl, below2 _ _ _⟩
/-- the first number that has more bytes than its field -/
def allShort (f : Nat → Nat) (xs : List Int) (j : Nat) : Prop := ∀ k, k < j → longB (xs.getD k 0) (f (k + 1) - f k) = false
set_option maxRecDepth 100000 in
set_option maxHeartbeats 2000000 in
theorem fputn_long (n : Nat) (f : Nat → Nat) (hr : Rec n f) (va vs : Nat) (p : Option Addr) (c : Nat) (xs : List Int) (hx : xs.length = n) (hxs : NsAt w p xs) (hb : ∀ k, k < n → 0 ≤ xs.getD k 0 ∧ xs.getD k 0 < 18446744073709551616) (hne : ¬ allShort f xs n) :
    Calls Try.prog 37 #[.agg (recC n f), vwV A va vs, .slice p n c] w (Gives (.int .i64 16) w) := by
  have HV := Lib.hid (rv_new n f A va vs w)
  have c0 := HV.out.1.n
  have d1 : ((n : Int) != (n : Int)) = false := by simp
  have hn32 := hr.n32
  have HZ : Hid ((Try.prog.info? 88).map (·.size) = some (recC n f).size) := Lib.hid (by rw [recC_size]; exact Try.infoRec)
  have HR := Lib.hid hr; have HX := Lib.hid hx; have HXS := Lib.hid hxs; have HB := Lib.hid hb; have HNE := Lib.hid hne
  have HW := Lib.hid (below2 w (.cells (recC n f) 88) (.cells #[.pointer (some ⟨A, 0, none⟩), .int .i64 (va : Int), .int .i64 (vs : Int)] 27))
  clear hr hx hxs hb hne
  go_enter Try.func37, Try.ntmps37
  go_wp2_with fail
  obtain ⟨y, hy⟩ : ∃ y, (w.alloc (.cells (recC n f) 88)).alloc (.cells #[.pointer (some ⟨A, 0, none⟩), .int .i64 (va : Int), .int .i64 (vs : Int)] 27) = y := ⟨_, rfl⟩
  obtain ⟨B, hB⟩ : ∃ B, w.heap.size = B := ⟨_, rfl⟩
  rw [hy] at HV HW c0 ⊢
  rw [hB] at HV c0 ⊢
  clear hy hB c0
  go_loopw [21] (fun v wr => ∃ j : Nat, j ≤ n ∧ v = .int .i64 (j : Int) ∧ allShort f xs j ∧ VR B n f wr ∧ Below w.heap.size w wr) (fun v _ => n - (intOf v).toNat)
  case atStart => exact ⟨0, Nat.zero_le _, rfl, fun k hk => by omega, HV.out.1, HW.out⟩
  case round =>
    obtain ⟨j, hj, rfl, ha, hv, hbw⟩ := hrel
    have HA := Lib.hid ha; have HVJ := Lib.hid hv; have HBJ := Lib.hid hbw
    clear ha hv hbw HV HW
    by_cases hlt : j < n
    · obtain ⟨b, off, rfl, hlt0, hc⟩ : ∃ b off, p = some ⟨b, off, none⟩ ∧ b < w.heap.size ∧ ∀ i, i < xs.length → w.cell? ⟨b, off + i, none⟩ = some (.int .u64 (xs.getD i 0)) := by
        rcases HXS.out with h | h
        · have := HX.out; omega
        · exact h
      have hcj : wr.cell? ⟨b, off + j, none⟩ = some (.int .u64 (xs.getD j 0)) := (HBJ.out.cell (p := ⟨b, off + j, none⟩) hlt0).trans (hc j (by have := HX.out; omega))
      have hbd := HB.out j hlt
      obtain ⟨hb0, hb1⟩ := hbd
      have HAJ : Hid (longB (xs.getD j 0) (f (j + 1) - f j) = false → allShort f xs (j + 1)) := Lib.hid fun h k hk => by
        by_cases e : k = j
        · subst e; exact h
        · exact HA.out k (by omega)
      generalize xs.getD j 0 = g at *
      clear hc
      go_wp2_with (refine wpList_load_row rfl 88 (.tmp 3) rfl B rfl 88 (recC n f) (0, 0) _ HVJ.out Try.underlying88 rfl HZ.out ?_)
      refine (flong_any n f hn32 j hlt (HR.out.mono j hlt) (by have := HR.out.small (k := j + 1) (by omega); omega) (HR.out.wide j hlt) g hb0 hb1 _).mono ?_
      rintro e w2 ⟨rfl, hb⟩
      have HV2 := Lib.hid (HVJ.out.below hb)
      have HB2 := Lib.hid (HBJ.out.trans (hb.mono HBJ.out.size))
      clear hb hcj
      cases hlg : longB g (f (j + 1) - f j) with
      | true =>
        clear hlg HAJ
        go_wp2_with fail
        go_ret
        exact ⟨rfl, HB2.out⟩
      | false =>
        have HS := Lib.hid (HAJ.out hlg)
        clear hlg HAJ
        go_wp2_with fail
        go_roundw
        case rel => exact ⟨j + 1, by omega, by go_num, HS.out, HV2.out, HB2.out⟩
        case measure => simp [intOf]; omega
    · exfalso
      obtain rfl : j = n := by omega
      exact HNE.out HA.out
end
end Go.Proofs.Ytcbbhefgdonabaa.Bt
/- The contract of a record's Put where it lays. -/
namespace Go.Proofs.Ytcbbhefgdonabaa.Bt
open Go Go.RowKit Go.Shelf
set_option linter.unusedVariables false
set_option linter.unusedSimpArgs false

/-- what a region of a record and a view holds -/
def RVS (B V n : Nat) (f : Nat → Nat) (A va vs : Nat) (w x : World) : Prop :=
  x.cell? ⟨V, 0, none⟩ = some (.pointer (some ⟨A, 0, none⟩)) ∧ x.cell? ⟨V, 1, none⟩ = some (.int .i64 (va : Int)) ∧ x.cell? ⟨V, 2, none⟩ = some (.int .i64 (vs : Int)) ∧ x.rangeAt B 0 (recC n f).toList ∧ RV B V n f A va vs x ∧ Below w.heap.size w x
theorem rvs_mk {B V n : Nat} {f : Nat → Nat} {A va vs : Nat} {w x : World} (h : RV B V n f A va vs x) (hb : Below w.heap.size w x) : RVS B V n f A va vs w x :=
  ⟨(cell_blk h.2 0).1, (cell_blk h.2 1).1, (cell_blk h.2 2).1, h.1.range, h, hb⟩
theorem rvs_below {B V n : Nat} {f : Nat → Nat} {A va vs : Nat} {w x y : World} (h : RVS B V n f A va vs w x) (hb : Below x.heap.size x y) : RVS B V n f A va vs w y :=
  rvs_mk (h.2.2.2.2.1.below hb) (h.2.2.2.2.2.trans (hb.mono h.2.2.2.2.2.size))
theorem rvs_ne {B V n : Nat} {f : Nat → Nat} {A va vs : Nat} {w x : World} (h : RVS B V n f A va vs w x) : B ≠ x.heap.size ∧ V ≠ x.heap.size := by
  have h1 := (Array.getElem?_eq_some_iff.1 h.2.2.2.2.1.1).1
  have h2 := (Array.getElem?_eq_some_iff.1 h.2.2.2.2.1.2).1
  omega
theorem rvs_far {B V n : Nat} {f : Nat → Nat} {A va vs : Nat} {w x : World} (h : RVS B V n f A va vs w x) {R : Nat} (hne : B ≠ R ∧ V ≠ R) (u v z : Value) (hR : w.heap.size ≤ R) : RVS B V n f A va vs w (((x.setCell ⟨R, 0, none⟩ u).setCell ⟨R, 1, none⟩ v).setCell ⟨R, 2, none⟩ z) :=
  rvs_mk ⟨(heap_far3 hne.1 u v z).trans h.2.2.2.2.1.1, (heap_far3 hne.2 u v z).trans h.2.2.2.2.1.2⟩ (((h.2.2.2.2.2.setCell (p := ⟨R, 0, none⟩) hR u).setCell (p := ⟨R, 1, none⟩) hR v).setCell (p := ⟨R, 2, none⟩) hR z)
section
variable {A : Nat} {s : ASt} {w : World}
set_option maxRecDepth 100000 in
set_option maxHeartbeats 8000000 in
theorem fputn_yes (h : On A s w) (n : Nat) (f : Nat → Nat) (hr : Rec n f) (va vs : Nat) (h1_ : va ≤ 4294967296) (h2_ : vs ≤ 4294967296) (p : Option Addr) (c : Nat) (xs : List Int) (hx : xs.length = n) (hxs : NsAt w p xs) (hb : ∀ k, k < n → 0 ≤ xs.getD k 0 ∧ xs.getD k 0 < 18446744073709551616) (hsh : allShort f xs n)
    (hown : ∀ b off, p = some ⟨b, off, none⟩ → ¬ OwnW A w b) (an : Nat) (han : addrV va vs 0 (f n : Nat) = an) (he : thereE s.L s.es (addrV va vs 0 (f n : Nat)) (f n : Nat) = 0) :
    Calls Try.prog 37 #[.agg (recC n f), vwV A va vs, .slice p n c] w (Ret A { s with mm := putR s.mm an f xs n } (.int .i64 0) w) := by
  have HV := Lib.hid (rv_new n f A va vs w)
  have c0 := HV.out.1.n
  have d1 : ((n : Int) != (n : Int)) = false := by simp
  have hn32 := hr.n32
  have HO := Lib.hid h
  rw [han] at he
  have han32 : an ≤ 4294967296 := by
    have hh := (there_iff h.good an (f n : Nat)).1 (by unfold thereE at he; cases hq : thereB s.L s.es an (f n : Nat) with
      | true => rfl
      | false => rw [hq] at he; cases he)
    have := h.good.small
    omega
  have HOW := Lib.hid hown
  have HST : Hid (∀ j, j < n → storeS { s with mm := putR s.mm an f xs j } (addrV an (f n) (f j : Nat) (f (j + 1) - f j : Nat)) (f (j + 1) - f j : Nat) (xs.getD j 0) = { s with mm := putR s.mm an f xs (j + 1) } ∧ numE s.L s.es (addrV an (f n) (f j : Nat) (f (j + 1) - f j : Nat)) (f (j + 1) - f j : Nat) = 0) := Lib.hid (fun j hj => by
    have hle := hr.le (show j + 1 ≤ n by omega) (Nat.le_refl n)
    have hmo := hr.mono j hj
    have ha : addrV an (f n) (f j : Nat) (f (j + 1) - f j : Nat) = ((an + f j : Nat) : Int) := by unfold addrV; rw [if_pos (by omega)]; omega
    have hnu : numE s.L s.es ((an + f j : Nat) : Int) (f (j + 1) - f j : Nat) = 0 := by
      unfold numE; rw [hr.whole j hj, if_pos rfl]; exact there_part h.good he (by omega) (by omega) (by omega)
    rw [ha]
    refine ⟨?_, hnu⟩
    unfold storeS
    rw [show numE ({ s with mm := putR s.mm an f xs j } : ASt).L ({ s with mm := putR s.mm an f xs j } : ASt).es ((an + f j : Nat) : Int) (f (j + 1) - f j : Nat) = 0 from hnu, if_pos rfl, Int.toNat_natCast, Int.toNat_natCast]
    rfl)
  have HA := Lib.hid han; have HE := Lib.hid he
  have HVO : Hid (∀ pu a k, ofV pu a k 0 = .agg #[.pointer pu, .int .i64 a, .int .i64 k]) := Lib.hid fun pu a k => by unfold ofV; rw [if_pos rfl]
  have HZ : Hid ((Try.prog.info? 88).map (·.size) = some (recC n f).size) := Lib.hid (by rw [recC_size]; exact Try.infoRec)
  have hu := Try.underlying88
  have hi : (Try.prog.info? 88).map (·.size) = some (recC n f).toList.length := by rw [Array.length_toList]; exact HZ.out
  have HR := Lib.hid hr; have HX := Lib.hid hx; have HXS := Lib.hid hxs; have HB := Lib.hid hb; have HSH := Lib.hid hsh
  have HW := Lib.hid (below2 w (.cells (recC n f) 88) (.cells #[.pointer (some ⟨A, 0, none⟩), .int .i64 (va : Int), .int .i64 (vs : Int)] 27))
  clear hr hx hxs hb hsh h han he hown
  go_enter Try.func37, Try.ntmps37
  go_wp2_with fail
  obtain ⟨y, hy⟩ : ∃ y, (w.alloc (.cells (recC n f) 88)).alloc (.cells #[.pointer (some ⟨A, 0, none⟩), .int .i64 (va : Int), .int .i64 (vs : Int)] 27) = y := ⟨_, rfl⟩
  obtain ⟨B, hB⟩ : ∃ B, w.heap.size = B := ⟨_, rfl⟩
  obtain ⟨V, hVV⟩ : ∃ V, B + 1 = V := ⟨_, rfl⟩
  rw [hy] at HV HW c0 ⊢
  rw [hB] at HV c0 ⊢
  rw [hVV] at HV ⊢
  clear hy hB c0 hVV
  go_loopw [21] (fun v wr => ∃ j : Nat, j ≤ n ∧ v = .int .i64 (j : Int) ∧ RV B V n f A va vs wr ∧ Below w.heap.size w wr) (fun v _ => n - (intOf v).toNat)
  case atStart => exact ⟨0, Nat.zero_le _, rfl, HV.out, HW.out⟩
  case round =>
    obtain ⟨j, hj, rfl, hv, hbw⟩ := hrel
    have HVJ := Lib.hid hv; have HBJ := Lib.hid hbw
    clear hv hbw HV HW
    by_cases hlt : j < n
    · obtain ⟨b, off, rfl, hlt0, hc⟩ : ∃ b off, p = some ⟨b, off, none⟩ ∧ b < w.heap.size ∧ ∀ i, i < xs.length → w.cell? ⟨b, off + i, none⟩ = some (.int .u64 (xs.getD i 0)) := by
        rcases HXS.out with h | h
        · have := HX.out; omega
        · exact h
      have hcj : wr.cell? ⟨b, off + j, none⟩ = some (.int .u64 (xs.getD j 0)) := (HBJ.out.cell (p := ⟨b, off + j, none⟩) hlt0).trans (hc j (by have := HX.out; omega))
      have hbd := HB.out j hlt
      obtain ⟨hb0, hb1⟩ := hbd
      have HAJ := Lib.hid (HSH.out j hlt)
      generalize xs.getD j 0 = g at *
      clear hc
      go_wp2_with (refine wpList_load_row rfl 88 (.tmp 3) rfl B rfl 88 (recC n f) (0, 0) _ HVJ.out.1 Try.underlying88 rfl HZ.out ?_)
      refine (flong_any n f hn32 j hlt (HR.out.mono j hlt) (by have := HR.out.small (k := j + 1) (by omega); omega) (HR.out.wide j hlt) g hb0 hb1 _).mono ?_
      rintro e w2 ⟨rfl, hb⟩
      rw [HAJ.out]
      have HV2 := Lib.hid (HVJ.out.below hb)
      have HB2 := Lib.hid (HBJ.out.trans (hb.mono HBJ.out.size))
      clear hb hcj HAJ
      go_wp2_with fail
      go_roundw
      case rel => exact ⟨j + 1, by omega, by go_num, HV2.out, HB2.out⟩
      case measure => simp [intOf]; omega
    · clear hj
      go_wp2_with fail
      refine wp_region_held_drew (S := RVS B V n f A va vs w) (by kernel_rfl) (rvs_mk (RV.below HVJ.out (Below.refl _ _).drew) HBJ.out.drew) (fun hHeld => ?_)
      refine wpAnyH_take (i := 0) (v := .agg #[.pointer (some ⟨A, 0, none⟩), .int .i64 (va : Int), .int .i64 (vs : Int)]) rfl (by kernel_rfl) (by kernel_rfl) (by kernel_rfl) (fun _ _ _ h => h) (Or.inl ⟨by rfl, fun X hS => ?_⟩) hHeld ?_
      · obtain ⟨s1, s2, s3, _, _, _⟩ := hS
        go_simp
      try simp only [Act.put, List.getElem_toArray, List.getElem_cons_zero, List.getElem_cons_succ, List.setIfInBounds_toArray, List.set_cons_zero, List.set_cons_succ]
      refine wpAnyH_take (i := 1) (v := .agg (recC n f)) rfl (by kernel_rfl) (by kernel_rfl) (by kernel_rfl) (fun _ _ _ h => h) (yieldsIf_load_mid (by rfl) 88 (.tmp 3) rfl B 0 rfl (recC n f).toList _ (fun X hS => hS.2.2.2.1) hu rfl hi) hHeld ?_
      try simp only [Act.put, List.getElem_toArray, List.getElem_cons_zero, List.getElem_cons_succ, List.setIfInBounds_toArray, List.set_cons_zero, List.set_cons_succ]
      refine wpAnyH_ready (rs := [2, 7]) (by kernel_rfl) (by simp) ?_
      refine (AllReadyH.cons rfl (fun K hK => ?_) (AllReadyH.cons rfl (fun K hK => ?_) AllReadyH.nil))
      · go_simp
        refine (fsize_any n f hn32 _).mono ?_
        rintro e x1 ⟨rfl, hb1⟩
        have h1 := rvs_below hHeld hb1
        clear hHeld
        refine hK.out _ _ h1 (fun hHeld => ?_)
        clear hK h1
        try simp only [Act.put, List.getElem_toArray, List.getElem_cons_zero, List.getElem_cons_succ, List.setIfInBounds_toArray, List.set_cons_zero, List.set_cons_succ]
        refine wpAnyH_ready (rs := [3, 7]) (by kernel_rfl) (by simp) ?_
        refine (AllReadyH.cons rfl (fun K hK => ?_) (AllReadyH.cons rfl (fun K hK => ?_) AllReadyH.nil))
        · go_simp
          refine (on_part (HO.out.below hHeld.2.2.2.2.2) va vs h1_ h2_ 0 ((f n : Nat) : Int) (by omega)).mono ?_
          rintro e x2 ⟨rfl, hb2⟩
          rw [HA.out, HE.out, HVO.out]
          have h1 := rvs_below hHeld hb2
          refine hK.out _ _ h1 (fun hHeld2 => ?_)
          clear hK h1
          try simp only [Act.put, List.getElem_toArray, List.getElem_cons_zero, List.getElem_cons_succ, List.setIfInBounds_toArray, List.set_cons_zero, List.set_cons_succ]
          have hHeld3 := hHeld2
          clear hHeld
          have hHeld := hHeld3
          clear hHeld2 hHeld3
          refine wpAnyH_take (i := 4) (v := .tuple #[.agg #[.pointer (some ⟨A, 0, none⟩), .int .i64 (an : Int), .int .i64 ((f n : Nat) : Int)], .int .i64 0]) rfl (by kernel_rfl) (by kernel_rfl) (by kernel_rfl) (fun _ _ _ h => h) (Or.inl ⟨by rfl, fun X hS => ?_⟩) hHeld ?_
          · obtain ⟨s1, s2, s3, _, _, _⟩ := hS
            go_simp
          try simp only [Act.put, List.getElem_toArray, List.getElem_cons_zero, List.getElem_cons_succ, List.setIfInBounds_toArray, List.set_cons_zero, List.set_cons_succ]
          refine wpAnyH_take (i := 5) (v := .agg #[.pointer (some ⟨A, 0, none⟩), .int .i64 (an : Int), .int .i64 ((f n : Nat) : Int)]) rfl (by kernel_rfl) (by kernel_rfl) (by kernel_rfl) (fun _ _ _ h => h) (Or.inl ⟨by rfl, fun X hS => ?_⟩) hHeld ?_
          · obtain ⟨s1, s2, s3, _, _, _⟩ := hS
            go_simp
          try simp only [Act.put, List.getElem_toArray, List.getElem_cons_zero, List.getElem_cons_succ, List.setIfInBounds_toArray, List.set_cons_zero, List.set_cons_succ]
          refine wpAnyH_take (i := 6) (v := .int .i64 0) rfl (by kernel_rfl) (by kernel_rfl) (by kernel_rfl) (fun _ _ _ h => h) (Or.inl ⟨by rfl, fun X hS => ?_⟩) hHeld ?_
          · obtain ⟨s1, s2, s3, _, _, _⟩ := hS
            go_simp
          try simp only [Act.put, List.getElem_toArray, List.getElem_cons_zero, List.getElem_cons_succ, List.setIfInBounds_toArray, List.set_cons_zero, List.set_cons_succ]
          refine wpAnyH_ready (rs := [7]) (by kernel_rfl) (by simp) ?_
          refine (AllReadyH.cons rfl (fun K hK => ?_) AllReadyH.nil)
          go_simp
          refine hK.out _ _ (rvs_below hHeld (bel1 _ _)) (fun hHeld2 => ?_)
          clear hK
          try simp only [Act.put, List.getElem_toArray, List.getElem_cons_zero, List.getElem_cons_succ, List.setIfInBounds_toArray, List.set_cons_zero, List.set_cons_succ]
          refine wpAnyH_ready (rs := [8]) (by kernel_rfl) (by simp) ?_
          refine (AllReadyH.cons rfl (fun K hK => ?_) AllReadyH.nil)
          go_simp
          have hF := rvs_below hHeld (bel1 x2 (.cells #[.pointer (some ⟨A, 0, none⟩), .int .i64 (an : Int), .int .i64 ((f n : Nat) : Int)] 27))
          refine hK.out _ _ hF (fun hHeld3 => ?_)
          clear hK hHeld2
          try simp only [Act.put, List.getElem_toArray, List.getElem_cons_zero, List.getElem_cons_succ, List.setIfInBounds_toArray, List.set_cons_zero, List.set_cons_succ]
          have VC9 : VC x2.heap.size (some ⟨A, 0, none⟩) an (f n) (x2.alloc (.cells #[.pointer (some ⟨A, 0, none⟩), .int .i64 (an : Int), .int .i64 ((f n : Nat) : Int)] 27)) := heap_new _ _
          clear hHeld
          have hHeld := hHeld3
          clear hHeld3 hF
          refine wpAnyH_take (i := 9) (v := .int .i64 0) rfl (by kernel_rfl) (by kernel_rfl) (by kernel_rfl) (fun _ _ _ h => h) (Or.inl ⟨by rfl, fun X hS => ?_⟩) hHeld ?_
          · obtain ⟨s1, s2, s3, _, _, _⟩ := hS
            go_simp
          try simp only [Act.put, List.getElem_toArray, List.getElem_cons_zero, List.getElem_cons_succ, List.setIfInBounds_toArray, List.set_cons_zero, List.set_cons_succ]
          refine wpAnyH_done (by kernel_rfl) ?_ _
          obtain ⟨wF, hwF⟩ : ∃ x, x2.alloc (.cells #[.pointer (some ⟨A, 0, none⟩), .int .i64 (an : Int), .int .i64 ((f n : Nat) : Int)] 27) = x := ⟨_, rfl⟩
          obtain ⟨R, hRR⟩ : ∃ x, x2.heap.size = x := ⟨_, rfl⟩
          rw [hwF] at VC9 hHeld ⊢
          rw [hRR] at VC9 ⊢
          clear hwF hRR
          have HRV := Lib.hid hHeld.2.2.2.2.1; have HVC := Lib.hid VC9; have HBF := Lib.hid hHeld.2.2.2.2.2
          clear hHeld VC9
          have HON := Lib.hid (HO.out.below HBF.out); have HWN := Lib.hid (Went.of_below HO.out HBF.out)
          go_wp2_with fail
          go_loopw [43] (fun v wr2 => ∃ j : Nat, j ≤ n ∧ v = .int .i64 (j : Int) ∧ On A { s with mm := putR s.mm an f xs j } wr2 ∧ RV B V n f A va vs wr2 ∧ VC R (some ⟨A, 0, none⟩) an (f n) wr2 ∧ Went A w wr2) (fun v _ => n - (intOf v).toNat)
          case atStart => exact ⟨0, Nat.zero_le _, rfl, HON.out, HRV.out, HVC.out, HWN.out⟩
          case round =>
            obtain ⟨j, hj, rfl, ho, hv, hvc, hg⟩ := hrel
            have HOJ := Lib.hid ho; have HV2 := Lib.hid hv; have HC2 := Lib.hid hvc; have HG2 := Lib.hid hg
            clear ho hv hvc hg HON HRV HVC HBF HWN
            by_cases hlt : j < n
            · obtain ⟨b, off, rfl, hlt0, hc⟩ : ∃ b off, p = some ⟨b, off, none⟩ ∧ b < w.heap.size ∧ ∀ i, i < xs.length → w.cell? ⟨b, off + i, none⟩ = some (.int .u64 (xs.getD i 0)) := by
                rcases HXS.out with h | h
                · have := HX.out; omega
                · exact h
              have hcj : wr.cell? ⟨b, off + j, none⟩ = some (.int .u64 (xs.getD j 0)) := by
                have h2 := hc j (by have := HX.out; omega)
                unfold World.cell? at h2 ⊢
                rw [HG2.out.block b hlt0 (HOW.out b off rfl)]; exact h2
              have hbd := HB.out j hlt
              obtain ⟨hb0, hb1⟩ := hbd
              have HSJ := Lib.hid (HST.out j hlt)
              have HAJ := Lib.hid (HSH.out j hlt)
              generalize xs.getD j 0 = g at *
              clear hc
              have c0 := (cell_blk HC2.out 0).1; have c1 := (cell_blk HC2.out 1).1; have c2 := (cell_blk HC2.out 2).1
              go_wp2_with (refine wpList_load_row rfl 88 (.tmp 3) rfl B rfl 88 (recC n f) (0, 0) _ HV2.out.1 Try.underlying88 rfl HZ.out ?_)
              refine (fset_on HOJ.out n f an (f n) han32 (by have := HR.out.small (k := n) (Nat.le_refl _); omega) hn32 j hlt (HR.out.mono j hlt) (by have := HR.out.small (k := j + 1) (by omega); omega) (HR.out.wide j hlt) g hb0 hb1 HAJ.out).mono ?_
              rintro e w3 ⟨rfl, hx3, hg3⟩
              rw [HSJ.out.1] at hx3
              rw [HSJ.out.2]
              have HX3 := Lib.hid hx3
              have HV3 := Lib.hid (HV2.out.went HOJ.out hg3)
              have HC3 := Lib.hid (hg3.keep HOJ.out HC2.out (by decide) (by decide) (by decide))
              have HG3 := Lib.hid (HG2.out.trans hg3)
              clear hx3 hg3 c0 c1 c2 hcj
              go_wp2_with fail
              go_roundw
              case rel => exact ⟨j + 1, by omega, by go_num, HX3.out, HV3.out, HC3.out, HG3.out⟩
              case measure => simp [intOf]; omega
            · obtain rfl : j = n := by omega
              go_wp2_with fail
              go_ret
              exact ⟨rfl, HOJ.out, HG2.out⟩
        · go_simp
          have hR := heap_new x1 (.cells #[.pointer none, .int .i64 0, .int .i64 0] 27)
          have hne : B ≠ x1.heap.size ∧ V ≠ x1.heap.size := rvs_ne hHeld
          have hRw : w.heap.size ≤ x1.heap.size := hHeld.2.2.2.2.2.size
          have h1 := rvs_below hHeld (bel1 x1 (.cells #[.pointer none, .int .i64 0, .int .i64 0] 27))
          clear hHeld
          refine hK.out _ _ h1 (fun hHeld => ?_)
          clear hK h1
          try simp only [Act.put, List.getElem_toArray, List.getElem_cons_zero, List.getElem_cons_succ, List.setIfInBounds_toArray, List.set_cons_zero, List.set_cons_succ]
          refine wpAnyH_ready (rs := [3]) (by kernel_rfl) (by simp) ?_
          refine (AllReadyH.cons rfl (fun K hK => ?_) AllReadyH.nil)
          go_simp
          refine (on_part (HO.out.below hHeld.2.2.2.2.2) va vs h1_ h2_ 0 ((f n : Nat) : Int) (by omega)).mono ?_
          rintro e x2 ⟨rfl, hb2⟩
          rw [HA.out, HE.out, HVO.out]
          have h1 := rvs_below hHeld hb2
          refine hK.out _ _ h1 (fun hHeld2 => ?_)
          clear hK h1
          try simp only [Act.put, List.getElem_toArray, List.getElem_cons_zero, List.getElem_cons_succ, List.setIfInBounds_toArray, List.set_cons_zero, List.set_cons_succ]
          have hR2 := (hb2.block _ (Array.getElem?_eq_some_iff.1 hR).1).trans hR
          clear hR
          obtain ⟨R, hRR⟩ : ∃ x, x1.heap.size = x := ⟨_, rfl⟩
          rw [hRR] at hR2 hne hRw ⊢
          clear hRR
          have hHeld3 := hHeld2
          clear hHeld
          have hHeld := hHeld3
          clear hHeld2 hHeld3
          refine wpAnyH_take (i := 4) (v := .tuple #[.agg #[.pointer (some ⟨A, 0, none⟩), .int .i64 (an : Int), .int .i64 ((f n : Nat) : Int)], .int .i64 0]) rfl (by kernel_rfl) (by kernel_rfl) (by kernel_rfl) (fun _ _ _ h => h) (Or.inl ⟨by rfl, fun X hS => ?_⟩) hHeld ?_
          · obtain ⟨s1, s2, s3, _, _, _⟩ := hS
            go_simp
          try simp only [Act.put, List.getElem_toArray, List.getElem_cons_zero, List.getElem_cons_succ, List.setIfInBounds_toArray, List.set_cons_zero, List.set_cons_succ]
          refine wpAnyH_take (i := 5) (v := .agg #[.pointer (some ⟨A, 0, none⟩), .int .i64 (an : Int), .int .i64 ((f n : Nat) : Int)]) rfl (by kernel_rfl) (by kernel_rfl) (by kernel_rfl) (fun _ _ _ h => h) (Or.inl ⟨by rfl, fun X hS => ?_⟩) hHeld ?_
          · obtain ⟨s1, s2, s3, _, _, _⟩ := hS
            go_simp
          try simp only [Act.put, List.getElem_toArray, List.getElem_cons_zero, List.getElem_cons_succ, List.setIfInBounds_toArray, List.set_cons_zero, List.set_cons_succ]
          refine wpAnyH_take (i := 6) (v := .int .i64 0) rfl (by kernel_rfl) (by kernel_rfl) (by kernel_rfl) (fun _ _ _ h => h) (Or.inl ⟨by rfl, fun X hS => ?_⟩) hHeld ?_
          · obtain ⟨s1, s2, s3, _, _, _⟩ := hS
            go_simp
          try simp only [Act.put, List.getElem_toArray, List.getElem_cons_zero, List.getElem_cons_succ, List.setIfInBounds_toArray, List.set_cons_zero, List.set_cons_succ]
          refine wpAnyH_ready (rs := [8]) (by kernel_rfl) (by simp) ?_
          refine (AllReadyH.cons rfl (fun K hK => ?_) AllReadyH.nil)
          have r0 := (cell_blk hR2 0).1; have r1 := (cell_blk hR2 1).1; have r2 := (cell_blk hR2 2).1; have f0 := (cell_blk hR2 0).2; have f1 := (cell_blk hR2 1).2; have f2 := (cell_blk hR2 2).2
          have HR2 := Lib.hid hR2
          clear hR2
          go_simp
          have hF := rvs_far hHeld hne (.pointer (some ⟨A, 0, none⟩)) (.int .i64 (an : Int)) (.int .i64 ((f n : Nat) : Int)) hRw
          refine hK.out _ _ hF (fun hHeld3 => ?_)
          clear hK r0 r1 r2 f0 f1 f2
          try simp only [Act.put, List.getElem_toArray, List.getElem_cons_zero, List.getElem_cons_succ, List.setIfInBounds_toArray, List.set_cons_zero, List.set_cons_succ]
          have VC9 : VC R (some ⟨A, 0, none⟩) an (f n) _ := three_set HR2.out rfl (.pointer (some ⟨A, 0, none⟩)) (.int .i64 (an : Int)) (.int .i64 ((f n : Nat) : Int))
          clear hHeld
          have hHeld := hHeld3
          clear hHeld3 hF
          refine wpAnyH_take (i := 9) (v := .int .i64 0) rfl (by kernel_rfl) (by kernel_rfl) (by kernel_rfl) (fun _ _ _ h => h) (Or.inl ⟨by rfl, fun X hS => ?_⟩) hHeld ?_
          · obtain ⟨s1, s2, s3, _, _, _⟩ := hS
            go_simp
          try simp only [Act.put, List.getElem_toArray, List.getElem_cons_zero, List.getElem_cons_succ, List.setIfInBounds_toArray, List.set_cons_zero, List.set_cons_succ]
          refine wpAnyH_done (by kernel_rfl) ?_ _
          obtain ⟨wF, hwF⟩ : ∃ x, (((x2.setCell ⟨R, 0, none⟩ (.pointer (some ⟨A, 0, none⟩))).setCell ⟨R, 1, none⟩ (.int .i64 (an : Int))).setCell ⟨R, 2, none⟩ (.int .i64 ((f n : Nat) : Int))) = x := ⟨_, rfl⟩
          rw [hwF] at VC9 hHeld ⊢
          clear hwF
          have HRV := Lib.hid hHeld.2.2.2.2.1; have HVC := Lib.hid VC9; have HBF := Lib.hid hHeld.2.2.2.2.2
          clear hHeld VC9
          have HON := Lib.hid (HO.out.below HBF.out); have HWN := Lib.hid (Went.of_below HO.out HBF.out)
          go_wp2_with fail
          go_loopw [43] (fun v wr2 => ∃ j : Nat, j ≤ n ∧ v = .int .i64 (j : Int) ∧ On A { s with mm := putR s.mm an f xs j } wr2 ∧ RV B V n f A va vs wr2 ∧ VC R (some ⟨A, 0, none⟩) an (f n) wr2 ∧ Went A w wr2) (fun v _ => n - (intOf v).toNat)
          case atStart => exact ⟨0, Nat.zero_le _, rfl, HON.out, HRV.out, HVC.out, HWN.out⟩
          case round =>
            obtain ⟨j, hj, rfl, ho, hv, hvc, hg⟩ := hrel
            have HOJ := Lib.hid ho; have HV2 := Lib.hid hv; have HC2 := Lib.hid hvc; have HG2 := Lib.hid hg
            clear ho hv hvc hg HON HRV HVC HBF HWN
            by_cases hlt : j < n
            · obtain ⟨b, off, rfl, hlt0, hc⟩ : ∃ b off, p = some ⟨b, off, none⟩ ∧ b < w.heap.size ∧ ∀ i, i < xs.length → w.cell? ⟨b, off + i, none⟩ = some (.int .u64 (xs.getD i 0)) := by
                rcases HXS.out with h | h
                · have := HX.out; omega
                · exact h
              have hcj : wr.cell? ⟨b, off + j, none⟩ = some (.int .u64 (xs.getD j 0)) := by
                have h2 := hc j (by have := HX.out; omega)
                unfold World.cell? at h2 ⊢
                rw [HG2.out.block b hlt0 (HOW.out b off rfl)]; exact h2
              have hbd := HB.out j hlt
              obtain ⟨hb0, hb1⟩ := hbd
              have HSJ := Lib.hid (HST.out j hlt)
              have HAJ := Lib.hid (HSH.out j hlt)
              generalize xs.getD j 0 = g at *
              clear hc
              have c0 := (cell_blk HC2.out 0).1; have c1 := (cell_blk HC2.out 1).1; have c2 := (cell_blk HC2.out 2).1
              go_wp2_with (refine wpList_load_row rfl 88 (.tmp 3) rfl B rfl 88 (recC n f) (0, 0) _ HV2.out.1 Try.underlying88 rfl HZ.out ?_)
              refine (fset_on HOJ.out n f an (f n) han32 (by have := HR.out.small (k := n) (Nat.le_refl _); omega) hn32 j hlt (HR.out.mono j hlt) (by have := HR.out.small (k := j + 1) (by omega); omega) (HR.out.wide j hlt) g hb0 hb1 HAJ.out).mono ?_
              rintro e w3 ⟨rfl, hx3, hg3⟩
              rw [HSJ.out.1] at hx3
              rw [HSJ.out.2]
              have HX3 := Lib.hid hx3
              have HV3 := Lib.hid (HV2.out.went HOJ.out hg3)
              have HC3 := Lib.hid (hg3.keep HOJ.out HC2.out (by decide) (by decide) (by decide))
              have HG3 := Lib.hid (HG2.out.trans hg3)
              clear hx3 hg3 c0 c1 c2 hcj
              go_wp2_with fail
              go_roundw
              case rel => exact ⟨j + 1, by omega, by go_num, HX3.out, HV3.out, HC3.out, HG3.out⟩
              case measure => simp [intOf]; omega
            · obtain rfl : j = n := by omega
              go_wp2_with fail
              go_ret
              exact ⟨rfl, HOJ.out, HG2.out⟩
      · go_simp
        have hR := heap_new wr (.cells #[.pointer none, .int .i64 0, .int .i64 0] 27)
        have hne : B ≠ wr.heap.size ∧ V ≠ wr.heap.size := rvs_ne (rvs_mk HVJ.out HBJ.out)
        have hRw : w.heap.size ≤ wr.heap.size := HBJ.out.size
        have h1 := rvs_below (rvs_mk HVJ.out HBJ.out) ((bel1 wr (.cells #[.pointer none, .int .i64 0, .int .i64 0] 27)).drew)
        clear hHeld
        refine hK.out _ _ h1 (fun hHeld => ?_)
        clear hK h1
        try simp only [Act.put, List.getElem_toArray, List.getElem_cons_zero, List.getElem_cons_succ, List.setIfInBounds_toArray, List.set_cons_zero, List.set_cons_succ]
        refine wpAnyH_ready (rs := [2]) (by kernel_rfl) (by simp) ?_
        refine (AllReadyH.cons rfl (fun K hK => ?_) AllReadyH.nil)
        go_simp
        refine (fsize_any n f hn32 _).mono ?_
        rintro e x1 ⟨rfl, hb1⟩
        have h1 := rvs_below hHeld hb1
        clear hHeld
        refine hK.out _ _ h1 (fun hHeld => ?_)
        clear hK h1
        try simp only [Act.put, List.getElem_toArray, List.getElem_cons_zero, List.getElem_cons_succ, List.setIfInBounds_toArray, List.set_cons_zero, List.set_cons_succ]
        have hR1 := (hb1.block wr.heap.size (by simp)).trans hR
        clear hR
        refine wpAnyH_ready (rs := [3]) (by kernel_rfl) (by simp) ?_
        refine (AllReadyH.cons rfl (fun K hK => ?_) AllReadyH.nil)
        go_simp
        refine (on_part (HO.out.below hHeld.2.2.2.2.2) va vs h1_ h2_ 0 ((f n : Nat) : Int) (by omega)).mono ?_
        rintro e x2 ⟨rfl, hb2⟩
        rw [HA.out, HE.out, HVO.out]
        have h1 := rvs_below hHeld hb2
        refine hK.out _ _ h1 (fun hHeld2 => ?_)
        clear hK h1
        try simp only [Act.put, List.getElem_toArray, List.getElem_cons_zero, List.getElem_cons_succ, List.setIfInBounds_toArray, List.set_cons_zero, List.set_cons_succ]
        have hR2 := (hb2.block _ (Array.getElem?_eq_some_iff.1 hR1).1).trans hR1
        clear hR1
        obtain ⟨R, hRR⟩ : ∃ x, wr.heap.size = x := ⟨_, rfl⟩
        rw [hRR] at hR2 hne hRw ⊢
        clear hRR
        have hHeld3 := hHeld2
        clear hHeld
        have hHeld := hHeld3
        clear hHeld2 hHeld3
        refine wpAnyH_take (i := 4) (v := .tuple #[.agg #[.pointer (some ⟨A, 0, none⟩), .int .i64 (an : Int), .int .i64 ((f n : Nat) : Int)], .int .i64 0]) rfl (by kernel_rfl) (by kernel_rfl) (by kernel_rfl) (fun _ _ _ h => h) (Or.inl ⟨by rfl, fun X hS => ?_⟩) hHeld ?_
        · obtain ⟨s1, s2, s3, _, _, _⟩ := hS
          go_simp
        try simp only [Act.put, List.getElem_toArray, List.getElem_cons_zero, List.getElem_cons_succ, List.setIfInBounds_toArray, List.set_cons_zero, List.set_cons_succ]
        refine wpAnyH_take (i := 5) (v := .agg #[.pointer (some ⟨A, 0, none⟩), .int .i64 (an : Int), .int .i64 ((f n : Nat) : Int)]) rfl (by kernel_rfl) (by kernel_rfl) (by kernel_rfl) (fun _ _ _ h => h) (Or.inl ⟨by rfl, fun X hS => ?_⟩) hHeld ?_
        · obtain ⟨s1, s2, s3, _, _, _⟩ := hS
          go_simp
        try simp only [Act.put, List.getElem_toArray, List.getElem_cons_zero, List.getElem_cons_succ, List.setIfInBounds_toArray, List.set_cons_zero, List.set_cons_succ]
        refine wpAnyH_take (i := 6) (v := .int .i64 0) rfl (by kernel_rfl) (by kernel_rfl) (by kernel_rfl) (fun _ _ _ h => h) (Or.inl ⟨by rfl, fun X hS => ?_⟩) hHeld ?_
        · obtain ⟨s1, s2, s3, _, _, _⟩ := hS
          go_simp
        try simp only [Act.put, List.getElem_toArray, List.getElem_cons_zero, List.getElem_cons_succ, List.setIfInBounds_toArray, List.set_cons_zero, List.set_cons_succ]
        refine wpAnyH_ready (rs := [8]) (by kernel_rfl) (by simp) ?_
        refine (AllReadyH.cons rfl (fun K hK => ?_) AllReadyH.nil)
        have r0 := (cell_blk hR2 0).1; have r1 := (cell_blk hR2 1).1; have r2 := (cell_blk hR2 2).1; have f0 := (cell_blk hR2 0).2; have f1 := (cell_blk hR2 1).2; have f2 := (cell_blk hR2 2).2
        have HR2 := Lib.hid hR2
        clear hR2
        go_simp
        have hF := rvs_far hHeld hne (.pointer (some ⟨A, 0, none⟩)) (.int .i64 (an : Int)) (.int .i64 ((f n : Nat) : Int)) hRw
        refine hK.out _ _ hF (fun hHeld3 => ?_)
        clear hK r0 r1 r2 f0 f1 f2
        try simp only [Act.put, List.getElem_toArray, List.getElem_cons_zero, List.getElem_cons_succ, List.setIfInBounds_toArray, List.set_cons_zero, List.set_cons_succ]
        have VC9 : VC R (some ⟨A, 0, none⟩) an (f n) _ := three_set HR2.out rfl (.pointer (some ⟨A, 0, none⟩)) (.int .i64 (an : Int)) (.int .i64 ((f n : Nat) : Int))
        clear hHeld
        have hHeld := hHeld3
        clear hHeld3 hF
        refine wpAnyH_take (i := 9) (v := .int .i64 0) rfl (by kernel_rfl) (by kernel_rfl) (by kernel_rfl) (fun _ _ _ h => h) (Or.inl ⟨by rfl, fun X hS => ?_⟩) hHeld ?_
        · obtain ⟨s1, s2, s3, _, _, _⟩ := hS
          go_simp
        try simp only [Act.put, List.getElem_toArray, List.getElem_cons_zero, List.getElem_cons_succ, List.setIfInBounds_toArray, List.set_cons_zero, List.set_cons_succ]
        refine wpAnyH_done (by kernel_rfl) ?_ _
        obtain ⟨wF, hwF⟩ : ∃ x, (((x2.setCell ⟨R, 0, none⟩ (.pointer (some ⟨A, 0, none⟩))).setCell ⟨R, 1, none⟩ (.int .i64 (an : Int))).setCell ⟨R, 2, none⟩ (.int .i64 ((f n : Nat) : Int))) = x := ⟨_, rfl⟩
        rw [hwF] at VC9 hHeld ⊢
        clear hwF
        have HRV := Lib.hid hHeld.2.2.2.2.1; have HVC := Lib.hid VC9; have HBF := Lib.hid hHeld.2.2.2.2.2
        clear hHeld VC9
        have HON := Lib.hid (HO.out.below HBF.out); have HWN := Lib.hid (Went.of_below HO.out HBF.out)
        go_wp2_with fail
        go_loopw [43] (fun v wr2 => ∃ j : Nat, j ≤ n ∧ v = .int .i64 (j : Int) ∧ On A { s with mm := putR s.mm an f xs j } wr2 ∧ RV B V n f A va vs wr2 ∧ VC R (some ⟨A, 0, none⟩) an (f n) wr2 ∧ Went A w wr2) (fun v _ => n - (intOf v).toNat)
        case atStart => exact ⟨0, Nat.zero_le _, rfl, HON.out, HRV.out, HVC.out, HWN.out⟩
        case round =>
          obtain ⟨j, hj, rfl, ho, hv, hvc, hg⟩ := hrel
          have HOJ := Lib.hid ho; have HV2 := Lib.hid hv; have HC2 := Lib.hid hvc; have HG2 := Lib.hid hg
          clear ho hv hvc hg HON HRV HVC HBF HWN
          by_cases hlt : j < n
          · obtain ⟨b, off, rfl, hlt0, hc⟩ : ∃ b off, p = some ⟨b, off, none⟩ ∧ b < w.heap.size ∧ ∀ i, i < xs.length → w.cell? ⟨b, off + i, none⟩ = some (.int .u64 (xs.getD i 0)) := by
              rcases HXS.out with h | h
              · have := HX.out; omega
              · exact h
            have hcj : wr.cell? ⟨b, off + j, none⟩ = some (.int .u64 (xs.getD j 0)) := by
              have h2 := hc j (by have := HX.out; omega)
              unfold World.cell? at h2 ⊢
              rw [HG2.out.block b hlt0 (HOW.out b off rfl)]; exact h2
            have hbd := HB.out j hlt
            obtain ⟨hb0, hb1⟩ := hbd
            have HSJ := Lib.hid (HST.out j hlt)
            have HAJ := Lib.hid (HSH.out j hlt)
            generalize xs.getD j 0 = g at *
            clear hc
            have c0 := (cell_blk HC2.out 0).1; have c1 := (cell_blk HC2.out 1).1; have c2 := (cell_blk HC2.out 2).1
            go_wp2_with (refine wpList_load_row rfl 88 (.tmp 3) rfl B rfl 88 (recC n f) (0, 0) _ HV2.out.1 Try.underlying88 rfl HZ.out ?_)
            refine (fset_on HOJ.out n f an (f n) han32 (by have := HR.out.small (k := n) (Nat.le_refl _); omega) hn32 j hlt (HR.out.mono j hlt) (by have := HR.out.small (k := j + 1) (by omega); omega) (HR.out.wide j hlt) g hb0 hb1 HAJ.out).mono ?_
            rintro e w3 ⟨rfl, hx3, hg3⟩
            rw [HSJ.out.1] at hx3
            rw [HSJ.out.2]
            have HX3 := Lib.hid hx3
            have HV3 := Lib.hid (HV2.out.went HOJ.out hg3)
            have HC3 := Lib.hid (hg3.keep HOJ.out HC2.out (by decide) (by decide) (by decide))
            have HG3 := Lib.hid (HG2.out.trans hg3)
            clear hx3 hg3 c0 c1 c2 hcj
            go_wp2_with fail
            go_roundw
            case rel => exact ⟨j + 1, by omega, by go_num, HX3.out, HV3.out, HC3.out, HG3.out⟩
            case measure => simp [intOf]; omega
          · obtain rfl : j = n := by omega
            go_wp2_with fail
            go_ret
            exact ⟨rfl, HOJ.out, HG2.out⟩
end
end Go.Proofs.Ytcbbhefgdonabaa.Bt
/- The contract of a record's All. -/
namespace Go.Proofs.Ytcbbhefgdonabaa.Bt
open Go Go.RowKit Go.Shelf
set_option linter.unusedVariables false
set_option linter.unusedSimpArgs false

/-- a row of numbers, of which the first j are told -/
def numC (n : Nat) (vf : Nat → Int) (j : Nat) : Array Value := ((List.range n).map fun k => Value.int .u64 (if k < j then vf k else 0)).toArray
theorem numC_size (n : Nat) (vf : Nat → Int) (j : Nat) : (numC n vf j).size = n := by simp [numC]
theorem numC_get (n : Nat) (vf : Nat → Int) (j k : Nat) (hk : k < n) : (numC n vf j)[k]? = some (.int .u64 (if k < j then vf k else 0)) := by simp [numC, hk]
theorem numC_at (n : Nat) (vf : Nat → Int) (j k : Nat) (hk : k < n) (h : j ≤ k) : (numC n vf j)[k]? = some (.int .u64 0) := by rw [numC_get _ _ _ _ hk, if_neg (by omega)]
theorem numC_step (n : Nat) (vf : Nat → Int) (j : Nat) (hj : j < n) : (numC n vf j).setIfInBounds j (.int .u64 (vf j)) = numC n vf (j + 1) := by
  apply Array.ext_getElem?
  intro k
  by_cases hk : k < n
  · rw [numC_get _ _ _ _ hk, Array.getElem?_setIfInBounds]
    by_cases e : j = k
    · subst e; rw [if_pos rfl, numC_size, if_pos hj, if_pos (by omega)]
    · rw [if_neg e, numC_get _ _ _ _ hk]
      by_cases h : k < j
      · rw [if_pos h, if_pos (by omega)]
      · rw [if_neg h, if_neg (by omega)]
  · rw [Array.getElem?_eq_none (by rw [Array.size_setIfInBounds, numC_size]; omega), Array.getElem?_eq_none (by rw [numC_size]; omega)]
theorem Try.infoU64 : (Try.prog.info? 33).map (fun i => (i.zero, i.size, i.bytes)) = some (some (.int .u64 0), 1, 8) := by kernel_rfl
theorem made_num (n : Nat) (vf : Nat → Int) : madeCells (Value.int .u64 0).cells (n * 1) = numC n vf 0 := by
  apply Array.ext_getElem?
  intro j
  by_cases hj : j < n
  · rw [numC_get _ _ _ _ hj]; simp [madeCells, hj, Value.cells, Nat.mod_one]
  · rw [Array.getElem?_eq_none (by rw [size_madeCells]; omega), Array.getElem?_eq_none (by rw [numC_size]; omega)]
theorem run_nums (n : Nat) (vf : Nat → Int) (hn : n ≤ 1000) (w : World) :
    (Instr.makeSlice 122 (.int .i64 (n : Int)) (.int .i64 (n : Int))).run Try.prog w = .ok (.slice (some ⟨w.heap.size, 0, none⟩) n n) (w.alloc (.cells (numC n vf 0) 33)) := by
  obtain ⟨i0, hi, hz0, hz1, hz2⟩ := info_parts Try.infoU64
  have h := run_make (P := Try.prog) w 122 33 i0 (.int .u64 0) Try.underlying122 hi hz0 .i64 .i64 (n : Int) n (by omega) (Int.le_refl _) (by rw [hz2]; omega) (by omega)
  rw [Int.toNat_natCast, hz1, made_num n vf] at h
  exact h
def allV (s : ASt) (an : Nat) (f : Nat → Nat) (k : Nat) : Int := (numV s.mm (an + f k) (f (k + 1) - f k) : Nat)
def AllPf (n : Nat) (vf : Nat → Int) (w : World) (e : Ending) (w' : World) : Prop :=
  ∃ N, e = .returned (.tuple #[.slice (some ⟨N, 0, none⟩) n n, .int .i64 0]) ∧ w'.heap[N]? = some (.cells (numC n vf n) 33 (0, 0)) ∧ w.heap.size ≤ N ∧ Below w.heap.size w w'
section
variable {A : Nat} {s : ASt} {w : World}
set_option maxRecDepth 100000 in
set_option maxHeartbeats 8000000 in
theorem fall_on (h : On A s w) (n : Nat) (f : Nat → Nat) (hr : Rec n f) (va vs : Nat) (h1_ : va ≤ 4294967296) (h2_ : vs ≤ 4294967296)
    (an : Nat) (han : addrV va vs 0 (f n : Nat) = an) (he : thereE s.L s.es (addrV va vs 0 (f n : Nat)) (f n : Nat) = 0) :
    Calls Try.prog 66 #[.agg (recC n f), vwV A va vs] w (AllPf n (allV s an f) w) := by
  have HV := Lib.hid (rv_new n f A va vs w)
  have hn32 := hr.n32
  have HO := Lib.hid h
  rw [han] at he
  have han32 : an ≤ 4294967296 := by
    have hh := (there_iff h.good an (f n : Nat)).1 (by unfold thereE at he; cases hq : thereB s.L s.es an (f n : Nat) with
      | true => rfl
      | false => rw [hq] at he; cases he)
    have := h.good.small
    omega
  have HST : Hid (∀ j, j < n → ldV s (addrV an (f n) (f j : Nat) (f (j + 1) - f j : Nat)) (f (j + 1) - f j : Nat) = allV s an f j ∧ numE s.L s.es (addrV an (f n) (f j : Nat) (f (j + 1) - f j : Nat)) (f (j + 1) - f j : Nat) = 0) := Lib.hid (fun j hj => by
    have hle := hr.le (show j + 1 ≤ n by omega) (Nat.le_refl n)
    have hmo := hr.mono j hj
    have ha : addrV an (f n) (f j : Nat) (f (j + 1) - f j : Nat) = ((an + f j : Nat) : Int) := by unfold addrV; rw [if_pos (by omega)]; omega
    have hnu : numE s.L s.es ((an + f j : Nat) : Int) (f (j + 1) - f j : Nat) = 0 := by
      unfold numE; rw [hr.whole j hj, if_pos rfl]; exact there_part h.good he (by omega) (by omega) (by omega)
    rw [ha]
    refine ⟨?_, hnu⟩
    unfold ldV
    rw [if_pos hnu, Int.toNat_natCast, Int.toNat_natCast]
    rfl)
  have HA := Lib.hid han; have HE := Lib.hid he
  have HVO : Hid (∀ pu a k, ofV pu a k 0 = .agg #[.pointer pu, .int .i64 a, .int .i64 k]) := Lib.hid fun pu a k => by unfold ofV; rw [if_pos rfl]
  have HZ : Hid ((Try.prog.info? 88).map (·.size) = some (recC n f).size) := Lib.hid (by rw [recC_size]; exact Try.infoRec)
  have hu := Try.underlying88
  have hi : (Try.prog.info? 88).map (·.size) = some (recC n f).toList.length := by rw [Array.length_toList]; exact HZ.out
  have HR := Lib.hid hr
  obtain ⟨vf, hvf⟩ : ∃ vf, allV s an f = vf := ⟨_, rfl⟩
  rw [hvf] at HST ⊢
  have HMK := run_nums n vf (by omega)
  have HW := Lib.hid (below2 w (.cells (recC n f) 88) (.cells #[.pointer (some ⟨A, 0, none⟩), .int .i64 (va : Int), .int .i64 (vs : Int)] 27))
  clear hr h han he hvf
  go_enter Try.func66, Try.ntmps66
  go_wp2_with fail
  obtain ⟨wr, hy⟩ : ∃ y, (w.alloc (.cells (recC n f) 88)).alloc (.cells #[.pointer (some ⟨A, 0, none⟩), .int .i64 (va : Int), .int .i64 (vs : Int)] 27) = y := ⟨_, rfl⟩
  obtain ⟨B, hB⟩ : ∃ B, w.heap.size = B := ⟨_, rfl⟩
  obtain ⟨V, hVV⟩ : ∃ V, B + 1 = V := ⟨_, rfl⟩
  rw [hy] at HV HW ⊢
  rw [hB] at HV ⊢
  rw [hVV] at HV ⊢
  clear hy hB hVV
  have HVJ := HV; have HBJ := HW
  clear HV HW
  refine wp_region_held_drew (S := RVS B V n f A va vs w) (by kernel_rfl) (rvs_mk (RV.below HVJ.out (Below.refl _ _).drew) HBJ.out.drew) (fun hHeld => ?_)
  refine wpAnyH_take (i := 0) (v := .agg #[.pointer (some ⟨A, 0, none⟩), .int .i64 (va : Int), .int .i64 (vs : Int)]) rfl (by kernel_rfl) (by kernel_rfl) (by kernel_rfl) (fun _ _ _ h => h) (Or.inl ⟨by rfl, fun X hS => ?_⟩) hHeld ?_
  · obtain ⟨s1, s2, s3, _, _, _⟩ := hS
    go_simp
  try simp only [Act.put, List.getElem_toArray, List.getElem_cons_zero, List.getElem_cons_succ, List.setIfInBounds_toArray, List.set_cons_zero, List.set_cons_succ]
  refine wpAnyH_take (i := 1) (v := .agg (recC n f)) rfl (by kernel_rfl) (by kernel_rfl) (by kernel_rfl) (fun _ _ _ h => h) (yieldsIf_load_mid (by rfl) 88 (.tmp 2) rfl B 0 rfl (recC n f).toList _ (fun X hS => hS.2.2.2.1) hu rfl hi) hHeld ?_
  try simp only [Act.put, List.getElem_toArray, List.getElem_cons_zero, List.getElem_cons_succ, List.setIfInBounds_toArray, List.set_cons_zero, List.set_cons_succ]
  refine wpAnyH_ready (rs := [2, 7]) (by kernel_rfl) (by simp) ?_
  refine (AllReadyH.cons rfl (fun K hK => ?_) (AllReadyH.cons rfl (fun K hK => ?_) AllReadyH.nil))
  · go_simp
    refine (fsize_any n f hn32 _).mono ?_
    rintro e x1 ⟨rfl, hb1⟩
    have h1 := rvs_below hHeld hb1
    clear hHeld
    refine hK.out _ _ h1 (fun hHeld => ?_)
    clear hK h1
    try simp only [Act.put, List.getElem_toArray, List.getElem_cons_zero, List.getElem_cons_succ, List.setIfInBounds_toArray, List.set_cons_zero, List.set_cons_succ]
    refine wpAnyH_ready (rs := [3, 7]) (by kernel_rfl) (by simp) ?_
    refine (AllReadyH.cons rfl (fun K hK => ?_) (AllReadyH.cons rfl (fun K hK => ?_) AllReadyH.nil))
    · go_simp
      refine (on_part (HO.out.below hHeld.2.2.2.2.2) va vs h1_ h2_ 0 ((f n : Nat) : Int) (by omega)).mono ?_
      rintro e x2 ⟨rfl, hb2⟩
      rw [HA.out, HE.out, HVO.out]
      have h1 := rvs_below hHeld hb2
      refine hK.out _ _ h1 (fun hHeld2 => ?_)
      clear hK h1
      try simp only [Act.put, List.getElem_toArray, List.getElem_cons_zero, List.getElem_cons_succ, List.setIfInBounds_toArray, List.set_cons_zero, List.set_cons_succ]
      have hHeld3 := hHeld2
      clear hHeld
      have hHeld := hHeld3
      clear hHeld2 hHeld3
      refine wpAnyH_take (i := 4) (v := .tuple #[.agg #[.pointer (some ⟨A, 0, none⟩), .int .i64 (an : Int), .int .i64 ((f n : Nat) : Int)], .int .i64 0]) rfl (by kernel_rfl) (by kernel_rfl) (by kernel_rfl) (fun _ _ _ h => h) (Or.inl ⟨by rfl, fun X hS => ?_⟩) hHeld ?_
      · obtain ⟨s1, s2, s3, _, _, _⟩ := hS
        go_simp
      try simp only [Act.put, List.getElem_toArray, List.getElem_cons_zero, List.getElem_cons_succ, List.setIfInBounds_toArray, List.set_cons_zero, List.set_cons_succ]
      refine wpAnyH_take (i := 5) (v := .agg #[.pointer (some ⟨A, 0, none⟩), .int .i64 (an : Int), .int .i64 ((f n : Nat) : Int)]) rfl (by kernel_rfl) (by kernel_rfl) (by kernel_rfl) (fun _ _ _ h => h) (Or.inl ⟨by rfl, fun X hS => ?_⟩) hHeld ?_
      · obtain ⟨s1, s2, s3, _, _, _⟩ := hS
        go_simp
      try simp only [Act.put, List.getElem_toArray, List.getElem_cons_zero, List.getElem_cons_succ, List.setIfInBounds_toArray, List.set_cons_zero, List.set_cons_succ]
      refine wpAnyH_take (i := 6) (v := .int .i64 0) rfl (by kernel_rfl) (by kernel_rfl) (by kernel_rfl) (fun _ _ _ h => h) (Or.inl ⟨by rfl, fun X hS => ?_⟩) hHeld ?_
      · obtain ⟨s1, s2, s3, _, _, _⟩ := hS
        go_simp
      try simp only [Act.put, List.getElem_toArray, List.getElem_cons_zero, List.getElem_cons_succ, List.setIfInBounds_toArray, List.set_cons_zero, List.set_cons_succ]
      refine wpAnyH_ready (rs := [7]) (by kernel_rfl) (by simp) ?_
      refine (AllReadyH.cons rfl (fun K hK => ?_) AllReadyH.nil)
      go_simp
      refine hK.out _ _ (rvs_below hHeld (bel1 _ _)) (fun hHeld2 => ?_)
      clear hK
      try simp only [Act.put, List.getElem_toArray, List.getElem_cons_zero, List.getElem_cons_succ, List.setIfInBounds_toArray, List.set_cons_zero, List.set_cons_succ]
      refine wpAnyH_ready (rs := [8]) (by kernel_rfl) (by simp) ?_
      refine (AllReadyH.cons rfl (fun K hK => ?_) AllReadyH.nil)
      go_simp
      have hF := rvs_below hHeld (bel1 x2 (.cells #[.pointer (some ⟨A, 0, none⟩), .int .i64 (an : Int), .int .i64 ((f n : Nat) : Int)] 27))
      refine hK.out _ _ hF (fun hHeld3 => ?_)
      clear hK hHeld2
      try simp only [Act.put, List.getElem_toArray, List.getElem_cons_zero, List.getElem_cons_succ, List.setIfInBounds_toArray, List.set_cons_zero, List.set_cons_succ]
      have VC9 : VC x2.heap.size (some ⟨A, 0, none⟩) an (f n) (x2.alloc (.cells #[.pointer (some ⟨A, 0, none⟩), .int .i64 (an : Int), .int .i64 ((f n : Nat) : Int)] 27)) := heap_new _ _
      clear hHeld
      have hHeld := hHeld3
      clear hHeld3 hF
      refine wpAnyH_take (i := 9) (v := .int .i64 0) rfl (by kernel_rfl) (by kernel_rfl) (by kernel_rfl) (fun _ _ _ h => h) (Or.inl ⟨by rfl, fun X hS => ?_⟩) hHeld ?_
      · obtain ⟨s1, s2, s3, _, _, _⟩ := hS
        go_simp
      try simp only [Act.put, List.getElem_toArray, List.getElem_cons_zero, List.getElem_cons_succ, List.setIfInBounds_toArray, List.set_cons_zero, List.set_cons_succ]
      refine wpAnyH_done (by kernel_rfl) ?_ _
      obtain ⟨wF, hwF⟩ : ∃ x, x2.alloc (.cells #[.pointer (some ⟨A, 0, none⟩), .int .i64 (an : Int), .int .i64 ((f n : Nat) : Int)] 27) = x := ⟨_, rfl⟩
      obtain ⟨R, hRR⟩ : ∃ x, x2.heap.size = x := ⟨_, rfl⟩
      rw [hwF] at VC9 hHeld ⊢
      rw [hRR] at VC9 ⊢
      clear hwF hRR
      have HRV := Lib.hid hHeld.2.2.2.2.1; have HVC := Lib.hid VC9; have HBF := Lib.hid hHeld.2.2.2.2.2
      have c0 := HRV.out.1.n
      clear hHeld VC9
      go_wp2_with fail
      have HNB := Lib.hid (heap_new wF (.cells (numC n vf 0) 33))
      have HRV1 := Lib.hid (HRV.out.below (bel1 wF (.cells (numC n vf 0) 33))); have HVC1 := Lib.hid (HVC.out.below (bel1 wF (.cells (numC n vf 0) 33))); have HBF1 := Lib.hid (HBF.out.alloc HBF.out.size (.cells (numC n vf 0) 33))
      have HNE : Hid (B ≠ wF.heap.size ∧ V ≠ wF.heap.size ∧ R ≠ wF.heap.size ∧ w.heap.size ≤ wF.heap.size) := Lib.hid (by
        have h1 := (Array.getElem?_eq_some_iff.1 HRV.out.1).1
        have h2 := (Array.getElem?_eq_some_iff.1 HRV.out.2).1
        have h3 := (Array.getElem?_eq_some_iff.1 HVC.out).1
        have h4 := HBF.out.size
        omega)
      obtain ⟨N, hNN⟩ : ∃ x, wF.heap.size = x := ⟨_, rfl⟩
      obtain ⟨wN, hwN⟩ : ∃ x, wF.alloc (.cells (numC n vf 0) 33) = x := ⟨_, rfl⟩
      rw [hwN] at HNB HRV1 HVC1 HBF1 ⊢
      rw [hNN] at HNB HNE ⊢
      clear hNN hwN HRV HVC HBF c0
      go_loopw [25] (fun v wr2 => ∃ j : Nat, j ≤ n ∧ v = .int .i64 (j : Int) ∧ wr2.heap[N]? = some (.cells (numC n vf j) 33 (0, 0)) ∧ RV B V n f A va vs wr2 ∧ VC R (some ⟨A, 0, none⟩) an (f n) wr2 ∧ Below w.heap.size w wr2) (fun v _ => n - (intOf v).toNat)
      case atStart => exact ⟨0, Nat.zero_le _, rfl, HNB.out, HRV1.out, HVC1.out, HBF1.out⟩
      case round =>
        obtain ⟨j, hj, rfl, ho, hv, hvc, hg⟩ := hrel
        have HN2 := Lib.hid ho; have HV2 := Lib.hid hv; have HC2 := Lib.hid hvc; have HG2 := Lib.hid hg
        clear ho hv hvc hg HNB HRV1 HVC1 HBF1
        by_cases hlt : j < n
        · have HSJ := Lib.hid (HST.out j hlt)
          have c0 := (cell_blk HC2.out 0).1; have c1 := (cell_blk HC2.out 1).1; have c2 := (cell_blk HC2.out 2).1
          go_wp2_with (refine wpList_load_row rfl 88 (.tmp 2) rfl B rfl 88 (recC n f) (0, 0) _ HV2.out.1 Try.underlying88 rfl HZ.out ?_)
          refine (fget_on (HO.out.below HG2.out) n f an (f n) han32 (by have := HR.out.small (k := n) (Nat.le_refl _); omega) hn32 j hlt (HR.out.mono j hlt) (by have := HR.out.small (k := j + 1) (by omega); omega)).mono ?_
          rintro e w3 ⟨rfl, hb3⟩
          rw [HSJ.out.1, HSJ.out.2]
          have HN3 := Lib.hid (blk_at hb3 HN2.out)
          have HV3 := Lib.hid (HV2.out.below hb3)
          have HC3 := Lib.hid (HC2.out.below hb3)
          have HG3 := Lib.hid (HG2.out.trans (hb3.mono HG2.out.size))
          clear hb3 c0 c1 c2
          have e0 : w3.cell? ⟨N, j, none⟩ = some (.int .u64 0) := (cell_blk HN3.out j).1.trans (numC_at n vf j j hlt (Nat.le_refl _))
          have e1 := (cell_blk HN3.out j).2
          go_wp2_with fail
          go_roundw
          case rel =>
            refine ⟨j + 1, by omega, by go_num, ?_, ⟨(set_other _ HNE.out.1).trans HV3.out.1, (set_other _ HNE.out.2.1).trans HV3.out.2⟩, (set_other _ HNE.out.2.2.1).trans HC3.out, HG3.out.setCell (p := ⟨N, j, none⟩) HNE.out.2.2.2 _⟩
            rw [heap_set HN3.out, numC_step n vf j hlt]
          case measure => simp [intOf]; omega
        · obtain rfl : j = n := by omega
          go_wp2_with fail
          go_ret2
          exact ⟨N, rfl, HN2.out, HNE.out.2.2.2, HG2.out⟩
    · go_simp
      have hR := heap_new x1 (.cells #[.pointer none, .int .i64 0, .int .i64 0] 27)
      have hne : B ≠ x1.heap.size ∧ V ≠ x1.heap.size := rvs_ne hHeld
      have hRw : w.heap.size ≤ x1.heap.size := hHeld.2.2.2.2.2.size
      have h1 := rvs_below hHeld (bel1 x1 (.cells #[.pointer none, .int .i64 0, .int .i64 0] 27))
      clear hHeld
      refine hK.out _ _ h1 (fun hHeld => ?_)
      clear hK h1
      try simp only [Act.put, List.getElem_toArray, List.getElem_cons_zero, List.getElem_cons_succ, List.setIfInBounds_toArray, List.set_cons_zero, List.set_cons_succ]
      refine wpAnyH_ready (rs := [3]) (by kernel_rfl) (by simp) ?_
      refine (AllReadyH.cons rfl (fun K hK => ?_) AllReadyH.nil)
      go_simp
      refine (on_part (HO.out.below hHeld.2.2.2.2.2) va vs h1_ h2_ 0 ((f n : Nat) : Int) (by omega)).mono ?_
      rintro e x2 ⟨rfl, hb2⟩
      rw [HA.out, HE.out, HVO.out]
      have h1 := rvs_below hHeld hb2
      refine hK.out _ _ h1 (fun hHeld2 => ?_)
      clear hK h1
      try simp only [Act.put, List.getElem_toArray, List.getElem_cons_zero, List.getElem_cons_succ, List.setIfInBounds_toArray, List.set_cons_zero, List.set_cons_succ]
      have hR2 := (hb2.block _ (Array.getElem?_eq_some_iff.1 hR).1).trans hR
      clear hR
      obtain ⟨R, hRR⟩ : ∃ x, x1.heap.size = x := ⟨_, rfl⟩
      rw [hRR] at hR2 hne hRw ⊢
      clear hRR
      have hHeld3 := hHeld2
      clear hHeld
      have hHeld := hHeld3
      clear hHeld2 hHeld3
      refine wpAnyH_take (i := 4) (v := .tuple #[.agg #[.pointer (some ⟨A, 0, none⟩), .int .i64 (an : Int), .int .i64 ((f n : Nat) : Int)], .int .i64 0]) rfl (by kernel_rfl) (by kernel_rfl) (by kernel_rfl) (fun _ _ _ h => h) (Or.inl ⟨by rfl, fun X hS => ?_⟩) hHeld ?_
      · obtain ⟨s1, s2, s3, _, _, _⟩ := hS
        go_simp
      try simp only [Act.put, List.getElem_toArray, List.getElem_cons_zero, List.getElem_cons_succ, List.setIfInBounds_toArray, List.set_cons_zero, List.set_cons_succ]
      refine wpAnyH_take (i := 5) (v := .agg #[.pointer (some ⟨A, 0, none⟩), .int .i64 (an : Int), .int .i64 ((f n : Nat) : Int)]) rfl (by kernel_rfl) (by kernel_rfl) (by kernel_rfl) (fun _ _ _ h => h) (Or.inl ⟨by rfl, fun X hS => ?_⟩) hHeld ?_
      · obtain ⟨s1, s2, s3, _, _, _⟩ := hS
        go_simp
      try simp only [Act.put, List.getElem_toArray, List.getElem_cons_zero, List.getElem_cons_succ, List.setIfInBounds_toArray, List.set_cons_zero, List.set_cons_succ]
      refine wpAnyH_take (i := 6) (v := .int .i64 0) rfl (by kernel_rfl) (by kernel_rfl) (by kernel_rfl) (fun _ _ _ h => h) (Or.inl ⟨by rfl, fun X hS => ?_⟩) hHeld ?_
      · obtain ⟨s1, s2, s3, _, _, _⟩ := hS
        go_simp
      try simp only [Act.put, List.getElem_toArray, List.getElem_cons_zero, List.getElem_cons_succ, List.setIfInBounds_toArray, List.set_cons_zero, List.set_cons_succ]
      refine wpAnyH_ready (rs := [8]) (by kernel_rfl) (by simp) ?_
      refine (AllReadyH.cons rfl (fun K hK => ?_) AllReadyH.nil)
      have r0 := (cell_blk hR2 0).1; have r1 := (cell_blk hR2 1).1; have r2 := (cell_blk hR2 2).1; have f0 := (cell_blk hR2 0).2; have f1 := (cell_blk hR2 1).2; have f2 := (cell_blk hR2 2).2
      have HR2 := Lib.hid hR2
      clear hR2
      go_simp
      have hF := rvs_far hHeld hne (.pointer (some ⟨A, 0, none⟩)) (.int .i64 (an : Int)) (.int .i64 ((f n : Nat) : Int)) hRw
      refine hK.out _ _ hF (fun hHeld3 => ?_)
      clear hK r0 r1 r2 f0 f1 f2
      try simp only [Act.put, List.getElem_toArray, List.getElem_cons_zero, List.getElem_cons_succ, List.setIfInBounds_toArray, List.set_cons_zero, List.set_cons_succ]
      have VC9 : VC R (some ⟨A, 0, none⟩) an (f n) _ := three_set HR2.out rfl (.pointer (some ⟨A, 0, none⟩)) (.int .i64 (an : Int)) (.int .i64 ((f n : Nat) : Int))
      clear hHeld
      have hHeld := hHeld3
      clear hHeld3 hF
      refine wpAnyH_take (i := 9) (v := .int .i64 0) rfl (by kernel_rfl) (by kernel_rfl) (by kernel_rfl) (fun _ _ _ h => h) (Or.inl ⟨by rfl, fun X hS => ?_⟩) hHeld ?_
      · obtain ⟨s1, s2, s3, _, _, _⟩ := hS
        go_simp
      try simp only [Act.put, List.getElem_toArray, List.getElem_cons_zero, List.getElem_cons_succ, List.setIfInBounds_toArray, List.set_cons_zero, List.set_cons_succ]
      refine wpAnyH_done (by kernel_rfl) ?_ _
      obtain ⟨wF, hwF⟩ : ∃ x, (((x2.setCell ⟨R, 0, none⟩ (.pointer (some ⟨A, 0, none⟩))).setCell ⟨R, 1, none⟩ (.int .i64 (an : Int))).setCell ⟨R, 2, none⟩ (.int .i64 ((f n : Nat) : Int))) = x := ⟨_, rfl⟩
      rw [hwF] at VC9 hHeld ⊢
      clear hwF
      have HRV := Lib.hid hHeld.2.2.2.2.1; have HVC := Lib.hid VC9; have HBF := Lib.hid hHeld.2.2.2.2.2
      have c0 := HRV.out.1.n
      clear hHeld VC9
      go_wp2_with fail
      have HNB := Lib.hid (heap_new wF (.cells (numC n vf 0) 33))
      have HRV1 := Lib.hid (HRV.out.below (bel1 wF (.cells (numC n vf 0) 33))); have HVC1 := Lib.hid (HVC.out.below (bel1 wF (.cells (numC n vf 0) 33))); have HBF1 := Lib.hid (HBF.out.alloc HBF.out.size (.cells (numC n vf 0) 33))
      have HNE : Hid (B ≠ wF.heap.size ∧ V ≠ wF.heap.size ∧ R ≠ wF.heap.size ∧ w.heap.size ≤ wF.heap.size) := Lib.hid (by
        have h1 := (Array.getElem?_eq_some_iff.1 HRV.out.1).1
        have h2 := (Array.getElem?_eq_some_iff.1 HRV.out.2).1
        have h3 := (Array.getElem?_eq_some_iff.1 HVC.out).1
        have h4 := HBF.out.size
        omega)
      obtain ⟨N, hNN⟩ : ∃ x, wF.heap.size = x := ⟨_, rfl⟩
      obtain ⟨wN, hwN⟩ : ∃ x, wF.alloc (.cells (numC n vf 0) 33) = x := ⟨_, rfl⟩
      rw [hwN] at HNB HRV1 HVC1 HBF1 ⊢
      rw [hNN] at HNB HNE ⊢
      clear hNN hwN HRV HVC HBF c0
      go_loopw [25] (fun v wr2 => ∃ j : Nat, j ≤ n ∧ v = .int .i64 (j : Int) ∧ wr2.heap[N]? = some (.cells (numC n vf j) 33 (0, 0)) ∧ RV B V n f A va vs wr2 ∧ VC R (some ⟨A, 0, none⟩) an (f n) wr2 ∧ Below w.heap.size w wr2) (fun v _ => n - (intOf v).toNat)
      case atStart => exact ⟨0, Nat.zero_le _, rfl, HNB.out, HRV1.out, HVC1.out, HBF1.out⟩
      case round =>
        obtain ⟨j, hj, rfl, ho, hv, hvc, hg⟩ := hrel
        have HN2 := Lib.hid ho; have HV2 := Lib.hid hv; have HC2 := Lib.hid hvc; have HG2 := Lib.hid hg
        clear ho hv hvc hg HNB HRV1 HVC1 HBF1
        by_cases hlt : j < n
        · have HSJ := Lib.hid (HST.out j hlt)
          have c0 := (cell_blk HC2.out 0).1; have c1 := (cell_blk HC2.out 1).1; have c2 := (cell_blk HC2.out 2).1
          go_wp2_with (refine wpList_load_row rfl 88 (.tmp 2) rfl B rfl 88 (recC n f) (0, 0) _ HV2.out.1 Try.underlying88 rfl HZ.out ?_)
          refine (fget_on (HO.out.below HG2.out) n f an (f n) han32 (by have := HR.out.small (k := n) (Nat.le_refl _); omega) hn32 j hlt (HR.out.mono j hlt) (by have := HR.out.small (k := j + 1) (by omega); omega)).mono ?_
          rintro e w3 ⟨rfl, hb3⟩
          rw [HSJ.out.1, HSJ.out.2]
          have HN3 := Lib.hid (blk_at hb3 HN2.out)
          have HV3 := Lib.hid (HV2.out.below hb3)
          have HC3 := Lib.hid (HC2.out.below hb3)
          have HG3 := Lib.hid (HG2.out.trans (hb3.mono HG2.out.size))
          clear hb3 c0 c1 c2
          have e0 : w3.cell? ⟨N, j, none⟩ = some (.int .u64 0) := (cell_blk HN3.out j).1.trans (numC_at n vf j j hlt (Nat.le_refl _))
          have e1 := (cell_blk HN3.out j).2
          go_wp2_with fail
          go_roundw
          case rel =>
            refine ⟨j + 1, by omega, by go_num, ?_, ⟨(set_other _ HNE.out.1).trans HV3.out.1, (set_other _ HNE.out.2.1).trans HV3.out.2⟩, (set_other _ HNE.out.2.2.1).trans HC3.out, HG3.out.setCell (p := ⟨N, j, none⟩) HNE.out.2.2.2 _⟩
            rw [heap_set HN3.out, numC_step n vf j hlt]
          case measure => simp [intOf]; omega
        · obtain rfl : j = n := by omega
          go_wp2_with fail
          go_ret2
          exact ⟨N, rfl, HN2.out, HNE.out.2.2.2, HG2.out⟩
  · go_simp
    have hR := heap_new wr (.cells #[.pointer none, .int .i64 0, .int .i64 0] 27)
    have hne : B ≠ wr.heap.size ∧ V ≠ wr.heap.size := rvs_ne (rvs_mk HVJ.out HBJ.out)
    have hRw : w.heap.size ≤ wr.heap.size := HBJ.out.size
    have h1 := rvs_below (rvs_mk HVJ.out HBJ.out) ((bel1 wr (.cells #[.pointer none, .int .i64 0, .int .i64 0] 27)).drew)
    clear hHeld
    refine hK.out _ _ h1 (fun hHeld => ?_)
    clear hK h1
    try simp only [Act.put, List.getElem_toArray, List.getElem_cons_zero, List.getElem_cons_succ, List.setIfInBounds_toArray, List.set_cons_zero, List.set_cons_succ]
    refine wpAnyH_ready (rs := [2]) (by kernel_rfl) (by simp) ?_
    refine (AllReadyH.cons rfl (fun K hK => ?_) AllReadyH.nil)
    go_simp
    refine (fsize_any n f hn32 _).mono ?_
    rintro e x1 ⟨rfl, hb1⟩
    have h1 := rvs_below hHeld hb1
    clear hHeld
    refine hK.out _ _ h1 (fun hHeld => ?_)
    clear hK h1
    try simp only [Act.put, List.getElem_toArray, List.getElem_cons_zero, List.getElem_cons_succ, List.setIfInBounds_toArray, List.set_cons_zero, List.set_cons_succ]
    have hR1 := (hb1.block wr.heap.size (by simp)).trans hR
    clear hR
    refine wpAnyH_ready (rs := [3]) (by kernel_rfl) (by simp) ?_
    refine (AllReadyH.cons rfl (fun K hK => ?_) AllReadyH.nil)
    go_simp
    refine (on_part (HO.out.below hHeld.2.2.2.2.2) va vs h1_ h2_ 0 ((f n : Nat) : Int) (by omega)).mono ?_
    rintro e x2 ⟨rfl, hb2⟩
    rw [HA.out, HE.out, HVO.out]
    have h1 := rvs_below hHeld hb2
    refine hK.out _ _ h1 (fun hHeld2 => ?_)
    clear hK h1
    try simp only [Act.put, List.getElem_toArray, List.getElem_cons_zero, List.getElem_cons_succ, List.setIfInBounds_toArray, List.set_cons_zero, List.set_cons_succ]
    have hR2 := (hb2.block _ (Array.getElem?_eq_some_iff.1 hR1).1).trans hR1
    clear hR1
    obtain ⟨R, hRR⟩ : ∃ x, wr.heap.size = x := ⟨_, rfl⟩
    rw [hRR] at hR2 hne hRw ⊢
    clear hRR
    have hHeld3 := hHeld2
    clear hHeld
    have hHeld := hHeld3
    clear hHeld2 hHeld3
    refine wpAnyH_take (i := 4) (v := .tuple #[.agg #[.pointer (some ⟨A, 0, none⟩), .int .i64 (an : Int), .int .i64 ((f n : Nat) : Int)], .int .i64 0]) rfl (by kernel_rfl) (by kernel_rfl) (by kernel_rfl) (fun _ _ _ h => h) (Or.inl ⟨by rfl, fun X hS => ?_⟩) hHeld ?_
    · obtain ⟨s1, s2, s3, _, _, _⟩ := hS
      go_simp
    try simp only [Act.put, List.getElem_toArray, List.getElem_cons_zero, List.getElem_cons_succ, List.setIfInBounds_toArray, List.set_cons_zero, List.set_cons_succ]
    refine wpAnyH_take (i := 5) (v := .agg #[.pointer (some ⟨A, 0, none⟩), .int .i64 (an : Int), .int .i64 ((f n : Nat) : Int)]) rfl (by kernel_rfl) (by kernel_rfl) (by kernel_rfl) (fun _ _ _ h => h) (Or.inl ⟨by rfl, fun X hS => ?_⟩) hHeld ?_
    · obtain ⟨s1, s2, s3, _, _, _⟩ := hS
      go_simp
    try simp only [Act.put, List.getElem_toArray, List.getElem_cons_zero, List.getElem_cons_succ, List.setIfInBounds_toArray, List.set_cons_zero, List.set_cons_succ]
    refine wpAnyH_take (i := 6) (v := .int .i64 0) rfl (by kernel_rfl) (by kernel_rfl) (by kernel_rfl) (fun _ _ _ h => h) (Or.inl ⟨by rfl, fun X hS => ?_⟩) hHeld ?_
    · obtain ⟨s1, s2, s3, _, _, _⟩ := hS
      go_simp
    try simp only [Act.put, List.getElem_toArray, List.getElem_cons_zero, List.getElem_cons_succ, List.setIfInBounds_toArray, List.set_cons_zero, List.set_cons_succ]
    refine wpAnyH_ready (rs := [8]) (by kernel_rfl) (by simp) ?_
    refine (AllReadyH.cons rfl (fun K hK => ?_) AllReadyH.nil)
    have r0 := (cell_blk hR2 0).1; have r1 := (cell_blk hR2 1).1; have r2 := (cell_blk hR2 2).1; have f0 := (cell_blk hR2 0).2; have f1 := (cell_blk hR2 1).2; have f2 := (cell_blk hR2 2).2
    have HR2 := Lib.hid hR2
    clear hR2
    go_simp
    have hF := rvs_far hHeld hne (.pointer (some ⟨A, 0, none⟩)) (.int .i64 (an : Int)) (.int .i64 ((f n : Nat) : Int)) hRw
    refine hK.out _ _ hF (fun hHeld3 => ?_)
    clear hK r0 r1 r2 f0 f1 f2
    try simp only [Act.put, List.getElem_toArray, List.getElem_cons_zero, List.getElem_cons_succ, List.setIfInBounds_toArray, List.set_cons_zero, List.set_cons_succ]
    have VC9 : VC R (some ⟨A, 0, none⟩) an (f n) _ := three_set HR2.out rfl (.pointer (some ⟨A, 0, none⟩)) (.int .i64 (an : Int)) (.int .i64 ((f n : Nat) : Int))
    clear hHeld
    have hHeld := hHeld3
    clear hHeld3 hF
    refine wpAnyH_take (i := 9) (v := .int .i64 0) rfl (by kernel_rfl) (by kernel_rfl) (by kernel_rfl) (fun _ _ _ h => h) (Or.inl ⟨by rfl, fun X hS => ?_⟩) hHeld ?_
    · obtain ⟨s1, s2, s3, _, _, _⟩ := hS
      go_simp
    try simp only [Act.put, List.getElem_toArray, List.getElem_cons_zero, List.getElem_cons_succ, List.setIfInBounds_toArray, List.set_cons_zero, List.set_cons_succ]
    refine wpAnyH_done (by kernel_rfl) ?_ _
    obtain ⟨wF, hwF⟩ : ∃ x, (((x2.setCell ⟨R, 0, none⟩ (.pointer (some ⟨A, 0, none⟩))).setCell ⟨R, 1, none⟩ (.int .i64 (an : Int))).setCell ⟨R, 2, none⟩ (.int .i64 ((f n : Nat) : Int))) = x := ⟨_, rfl⟩
    rw [hwF] at VC9 hHeld ⊢
    clear hwF
    have HRV := Lib.hid hHeld.2.2.2.2.1; have HVC := Lib.hid VC9; have HBF := Lib.hid hHeld.2.2.2.2.2
    have c0 := HRV.out.1.n
    clear hHeld VC9
    go_wp2_with fail
    have HNB := Lib.hid (heap_new wF (.cells (numC n vf 0) 33))
    have HRV1 := Lib.hid (HRV.out.below (bel1 wF (.cells (numC n vf 0) 33))); have HVC1 := Lib.hid (HVC.out.below (bel1 wF (.cells (numC n vf 0) 33))); have HBF1 := Lib.hid (HBF.out.alloc HBF.out.size (.cells (numC n vf 0) 33))
    have HNE : Hid (B ≠ wF.heap.size ∧ V ≠ wF.heap.size ∧ R ≠ wF.heap.size ∧ w.heap.size ≤ wF.heap.size) := Lib.hid (by
      have h1 := (Array.getElem?_eq_some_iff.1 HRV.out.1).1
      have h2 := (Array.getElem?_eq_some_iff.1 HRV.out.2).1
      have h3 := (Array.getElem?_eq_some_iff.1 HVC.out).1
      have h4 := HBF.out.size
      omega)
    obtain ⟨N, hNN⟩ : ∃ x, wF.heap.size = x := ⟨_, rfl⟩
    obtain ⟨wN, hwN⟩ : ∃ x, wF.alloc (.cells (numC n vf 0) 33) = x := ⟨_, rfl⟩
    rw [hwN] at HNB HRV1 HVC1 HBF1 ⊢
    rw [hNN] at HNB HNE ⊢
    clear hNN hwN HRV HVC HBF c0
    go_loopw [25] (fun v wr2 => ∃ j : Nat, j ≤ n ∧ v = .int .i64 (j : Int) ∧ wr2.heap[N]? = some (.cells (numC n vf j) 33 (0, 0)) ∧ RV B V n f A va vs wr2 ∧ VC R (some ⟨A, 0, none⟩) an (f n) wr2 ∧ Below w.heap.size w wr2) (fun v _ => n - (intOf v).toNat)
    case atStart => exact ⟨0, Nat.zero_le _, rfl, HNB.out, HRV1.out, HVC1.out, HBF1.out⟩
    case round =>
      obtain ⟨j, hj, rfl, ho, hv, hvc, hg⟩ := hrel
      have HN2 := Lib.hid ho; have HV2 := Lib.hid hv; have HC2 := Lib.hid hvc; have HG2 := Lib.hid hg
      clear ho hv hvc hg HNB HRV1 HVC1 HBF1
      by_cases hlt : j < n
      · have HSJ := Lib.hid (HST.out j hlt)
        have c0 := (cell_blk HC2.out 0).1; have c1 := (cell_blk HC2.out 1).1; have c2 := (cell_blk HC2.out 2).1
        go_wp2_with (refine wpList_load_row rfl 88 (.tmp 2) rfl B rfl 88 (recC n f) (0, 0) _ HV2.out.1 Try.underlying88 rfl HZ.out ?_)
        refine (fget_on (HO.out.below HG2.out) n f an (f n) han32 (by have := HR.out.small (k := n) (Nat.le_refl _); omega) hn32 j hlt (HR.out.mono j hlt) (by have := HR.out.small (k := j + 1) (by omega); omega)).mono ?_
        rintro e w3 ⟨rfl, hb3⟩
        rw [HSJ.out.1, HSJ.out.2]
        have HN3 := Lib.hid (blk_at hb3 HN2.out)
        have HV3 := Lib.hid (HV2.out.below hb3)
        have HC3 := Lib.hid (HC2.out.below hb3)
        have HG3 := Lib.hid (HG2.out.trans (hb3.mono HG2.out.size))
        clear hb3 c0 c1 c2
        have e0 : w3.cell? ⟨N, j, none⟩ = some (.int .u64 0) := (cell_blk HN3.out j).1.trans (numC_at n vf j j hlt (Nat.le_refl _))
        have e1 := (cell_blk HN3.out j).2
        go_wp2_with fail
        go_roundw
        case rel =>
          refine ⟨j + 1, by omega, by go_num, ?_, ⟨(set_other _ HNE.out.1).trans HV3.out.1, (set_other _ HNE.out.2.1).trans HV3.out.2⟩, (set_other _ HNE.out.2.2.1).trans HC3.out, HG3.out.setCell (p := ⟨N, j, none⟩) HNE.out.2.2.2 _⟩
          rw [heap_set HN3.out, numC_step n vf j hlt]
        case measure => simp [intOf]; omega
      · obtain rfl : j = n := by omega
        go_wp2_with fail
        go_ret2
        exact ⟨N, rfl, HN2.out, HNE.out.2.2.2, HG2.out⟩
end
end Go.Proofs.Ytcbbhefgdonabaa.Bt
