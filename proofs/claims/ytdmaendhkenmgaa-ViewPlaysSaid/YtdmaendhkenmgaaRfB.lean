/- Several texts in one: RfA; RfB. -/
import Derived.Test.YtdmaendhkenmgaaOnB
import Derived.Test.YtdmaendhkenmgaaArKeepM
import Derived.Deep.DeepCutAuto
import Derived.RegionTactic
import Derived.Laws.CopyRow
import Derived.Laws.AppendOwn
/- The document's arena of one page, made and committed, as the statements of layer 5 make it. -/
namespace Go.Proofs.Ytdmaendhkenmgaa.Bt
open Go Go.RowKit Go.Shelf
set_option linter.unusedVariables false

abbrev docV (p : Option Addr) (n cap : Nat) (r : Int) : Value := .agg #[.slice p n cap, .int .i64 r]
theorem Try.infoString : (Try.prog.info? 9).map (fun i => (i.zero, i.size, i.bytes)) = some (some (.string ⟨#[]⟩), 1, 16) := by kernel_rfl
def strC (l : List ByteArray) : Array Value := (l.map Value.string).toArray
theorem strC_get (l : List ByteArray) (i : Nat) (h : i < l.length) : (strC l)[i]? = some (.string l[i]) := by simp [strC, h]
theorem strC_size (l : List ByteArray) : (strC l).size = l.length := by simp [strC]
theorem made_strs (n : Nat) : madeCells (Value.string ⟨#[]⟩).cells (n * 1) = strC (List.replicate n ⟨#[]⟩) := by
  apply Array.ext_getElem?
  intro j
  by_cases hj : j < n
  · rw [strC_get _ _ (by simpa using hj)]; simp [madeCells, hj, Value.cells, Nat.mod_one]
  · rw [Array.getElem?_eq_none (by rw [size_madeCells]; omega), Array.getElem?_eq_none (by simp [strC]; omega)]
theorem run_strs (n : Nat) (hn : n ≤ 1048576) (w : World) :
    (Instr.makeSlice 28 (.int .i64 (n : Int)) (.int .i64 (n : Int))).run Try.prog w = .ok (.slice (some ⟨w.heap.size, 0, none⟩) n n) (w.alloc (.cells (strC (List.replicate n ⟨#[]⟩)) 9)) := by
  obtain ⟨i0, hi, hz0, hz1, hz2⟩ := info_parts Try.infoString
  have h := run_make (P := Try.prog) w 28 9 i0 (.string ⟨#[]⟩) Try.underlying28 hi hz0 .i64 .i64 (n : Int) n (by omega) (Int.le_refl _) (by rw [hz2]; omega) (by omega)
  rw [Int.toNat_natCast, hz1, made_strs] at h
  exact h
def DocNew (w : World) (e : Ending) (w' : World) : Prop := ∃ b, e = .returned (docV (some ⟨b, 0, none⟩) 1 1 (-1)) ∧ w'.heap[b]? = some (.cells #[.string ⟨#[]⟩] 9 (0, 0)) ∧ Below w.heap.size w w'
theorem rnew_one (w : World) : Calls Try.prog 11 #[.int .i64 1] w (DocNew w) := by
  have HMK : ∀ w : World, (Instr.makeSlice 28 (.int .i64 1) (.int .i64 1)).run Try.prog w = .ok (.slice (some ⟨w.heap.size, 0, none⟩) 1 1) (w.alloc (.cells #[.string ⟨#[]⟩] 9)) := fun w => run_strs 1 (by omega) w
  go_enter Try.func11, Try.ntmps11
  go_wp2_with fail
  exact bodyPost_ret (v := docV (some ⟨w.heap.size + 1, 0, none⟩) 1 1 (-1)) (by simp [results, Try.results11, go_sem]) rfl ⟨_, rfl, heap_old2 _ _ _, below2 _ _ _⟩
theorem rhas_one (b : Nat) (r : Int) (w : World) (hb : w.heap[b]? = some (.cells #[.string ⟨#[]⟩] 9 (0, 0))) :
    Calls Try.prog 107 #[docV (some ⟨b, 0, none⟩) 1 1 r, .int .i64 0] w (Gives (.bool false) w) := by
  have h2 := (bel1 w (.cells #[.slice (some ⟨b, 0, none⟩) 1 1, .int .i64 r] 30)).block b (Array.getElem?_eq_some_iff.1 hb).1
  have c0 := (cell_blk (h2.trans hb) 0).1
  clear hb h2
  go_enter Try.func107, Try.ntmps107
  go_wp2_with fail
  go_ret
  exact ⟨rfl, bel1 _ _⟩
set_option maxHeartbeats 1000000 in
theorem rwrong_one (b : Nat) (r : Int) (w : World) (hb : w.heap[b]? = some (.cells #[.string ⟨#[]⟩] 9 (0, 0))) :
    Calls Try.prog 69 #[docV (some ⟨b, 0, none⟩) 1 1 r, .int .i64 0, .int .i64 1, .bool false, .int .i64 9] w (Gives (.int .i64 0) w) := by
  have HB := Lib.hid hb
  have hbl := Lib.hid (bel1 w (.cells #[.slice (some ⟨b, 0, none⟩) 1 1, .int .i64 r] 30))
  have hv := Lib.hid (heap_new w (.cells #[.slice (some ⟨b, 0, none⟩) 1 1, .int .i64 r] 30))
  clear hb
  go_enter Try.func69, Try.ntmps69
  go_wp2_with fail
  obtain ⟨V, hV⟩ : ∃ V, w.heap.size = V := ⟨_, rfl⟩
  obtain ⟨w1, hw1⟩ : ∃ x, w.alloc (.cells #[.slice (some ⟨b, 0, none⟩) 1 1, .int .i64 r] 30) = x := ⟨_, rfl⟩
  rw [hw1] at hv hbl ⊢
  rw [hV] at hv ⊢
  have HVV := Lib.hid hV
  clear hw1 hV
  go_loopw [11] (fun v wr => ∃ k : Nat, k ≤ 1 ∧ v = .int .i64 (k : Int) ∧ wr.heap[V]? = some (.cells #[.slice (some ⟨b, 0, none⟩) 1 1, .int .i64 r] 30 (0, 0)) ∧ wr.heap[b]? = some (.cells #[.string ⟨#[]⟩] 9 (0, 0)) ∧ Below w.heap.size w wr) (fun v _ => 1 - (intOf v).toNat)
  case atStart => exact ⟨0, by omega, rfl, hv.out, (hbl.out.block b (Array.getElem?_eq_some_iff.1 HB.out).1).trans HB.out, hbl.out⟩
  case round =>
    obtain ⟨k, hk, rfl, h1, h2, h3⟩ := hrel
    have c0 := (cell_blk h1 0).1; have c1 := (cell_blk h1 1).1
    have H1 := Lib.hid h1; have H2 := Lib.hid h2; have H3 := Lib.hid h3
    clear h1 h2 h3 hv
    by_cases hlt : k < 1
    · obtain rfl : k = 0 := by omega
      go_wp2_with fail
      refine (rhas_one b r _ H2.out).mono ?_
      rintro e w2 ⟨rfl, hb⟩
      have H4 := Lib.hid ((hb.block V (Array.getElem?_eq_some_iff.1 H1.out).1).trans H1.out)
      have H5 := Lib.hid ((hb.block b (Array.getElem?_eq_some_iff.1 H2.out).1).trans H2.out)
      have H6 := Lib.hid (H3.out.trans (hb.mono H3.out.size))
      clear hb c0 c1 hlt hk
      go_wp2_with fail
      go_roundw
      case rel => exact ⟨1, by omega, by go_num, H4.out, H5.out, H6.out⟩
      case measure => simp [intOf]
    · go_wp2_with fail
      go_ret
      exact ⟨rfl, H3.out⟩
theorem copy_one (x : World) (O b : Nat) (sc : Nat) (u v : ByteArray) (hO : x.heap[O]? = some (.cells #[.string u] 9 (0, 0))) (hb : x.cell? ⟨b, 0, none⟩ = some (.string v)) (ty : TypeId) :
    (Builtin.copy_ #[28, 28] ty #[.slice (some ⟨O, 0, none⟩) 1 1, .slice (some ⟨b, 0, none⟩) 1 sc]).run Try.prog x = .ok (goInt 1) (x.setRow O #[.string v]) := by
  obtain ⟨i0, hi, hz0, hz1, hz2⟩ := info_parts Try.infoString
  have h := run_copy_row Try.prog x 28 28 ty 9 O 0 1 1 ⟨b, 0, none⟩ 1 sc #[.string u] 9 [.string v] Try.underlying28 (by rw [hi]; simp [hz1]) hO rfl
    (fun j v' hj => by
      have hjl : j < 1 := (List.getElem?_eq_some_iff.1 hj).1
      obtain rfl : j = 0 := by omega
      simp at hj
      rw [addr_add, hb, hj]) (by simp) (fun v hv => by simp at hv; subst hv; rfl)
  exact h
theorem setRow_at {x : World} {O : Nat} {c : Array Value} {T : TypeId} (h : x.heap[O]? = some (.cells c T (0, 0))) (d : Array Value) : (x.setRow O d).heap[O]? = some (.cells d T (0, 0)) := setRow_heap _ _ _ _ _ _ h
theorem heap_far_one {x : World} {B R o : Nat} (hne : B ≠ R) (u : Value) : (x.setCell ⟨R, o, none⟩ u).heap[B]? = x.heap[B]? := Below.heap_setCell _ ⟨R, o, none⟩ _ _ hne
def DocOne (w : World) (s : ByteArray) (r : Int) (e : Ending) (w' : World) : Prop := ∃ b, e = .returned (docV (some ⟨b, 0, none⟩) 1 1 r) ∧ w'.heap[b]? = some (.cells #[.string s] 9 (0, 0)) ∧ Below w.heap.size w w'
set_option maxHeartbeats 1000000 in
theorem rwith_one (b q : Nat) (qc : Nat) (r : Int) (s : ByteArray) (w : World) (hb : w.heap[b]? = some (.cells #[.string ⟨#[]⟩] 9 (0, 0))) (hq : w.cell? ⟨q, 0, none⟩ = some (.string s)) :
    Calls Try.prog 71 #[docV (some ⟨b, 0, none⟩) 1 1 r, .int .i64 0, .slice (some ⟨q, 0, none⟩) 1 qc] w (DocOne w s r) := by
  have HMK : ∀ w : World, (Instr.makeSlice 28 (.int .i64 1) (.int .i64 1)).run Try.prog w = .ok (.slice (some ⟨w.heap.size, 0, none⟩) 1 1) (w.alloc (.cells #[.string ⟨#[]⟩] 9)) := fun w => run_strs 1 (by omega) w
  have HB := Lib.hid hb; have HQ := Lib.hid hq
  clear hb hq
  go_enter Try.func71, Try.ntmps71
  go_upto_region 2 with fail
  have hsz : ((((w.alloc (.cells #[.slice (some ⟨b, 0, none⟩) 1 1, .int .i64 r] 30)).alloc (.cells #[.slice none 0 0, .int .i64 0] 30)).alloc (.cells #[.string ⟨#[]⟩] 9))).heap.size = w.heap.size + 3 := by simp
  have BL : Below w.heap.size w ((((w.alloc (.cells #[.slice (some ⟨b, 0, none⟩) 1 1, .int .i64 r] 30)).alloc (.cells #[.slice none 0 0, .int .i64 0] 30)).alloc (.cells #[.string ⟨#[]⟩] 9))) := (below2 w _ _).alloc (by simp; omega) _
  obtain ⟨h4a, h4b, h4c⟩ := three_new w #[.slice (some ⟨b, 0, none⟩) 1 1, .int .i64 r] #[.slice none 0 0, .int .i64 0] #[.string ⟨#[]⟩] 30 30 9
  obtain ⟨x, hx⟩ : ∃ x, ((((w.alloc (.cells #[.slice (some ⟨b, 0, none⟩) 1 1, .int .i64 r] 30)).alloc (.cells #[.slice none 0 0, .int .i64 0] 30)).alloc (.cells #[.string ⟨#[]⟩] 9))) = x := ⟨_, rfl⟩
  rw [hx] at BL h4a h4b h4c hsz ⊢
  clear hx
  have hxb := (BL.block b (Array.getElem?_eq_some_iff.1 HB.out).1).trans HB.out
  have hlb := (Array.getElem?_eq_some_iff.1 HB.out).1
  have hxq : x.cell? ⟨q, 0, none⟩ = some (.string s) := by
    rw [BL.cell (p := ⟨q, 0, none⟩) (World.block_lt_of_cell? _ _ HQ.out)]; exact HQ.out
  have hlq := World.block_lt_of_cell? _ _ HQ.out
  obtain ⟨V, hV⟩ : ∃ V, w.heap.size = V := ⟨_, rfl⟩
  rw [hV] at h4a h4b h4c hsz hlb hlq ⊢
  have HCP1 : ∀ ty, (Builtin.copy_ #[28, 28] ty #[.slice (some ⟨V + 1 + 1, 0, none⟩) 1 1, .slice (some ⟨b, 0, none⟩) 1 1]).run Try.prog x = .ok (goInt 1) (x.setRow (V + 1 + 1) #[.string ⟨#[]⟩]) := fun ty => copy_one x _ _ _ _ _ h4c ((cell_blk hxb 0).1) ty
  have h5 := setRow_at h4c #[.string ⟨#[]⟩]
  have hq5 : (x.setRow (V + 1 + 1) #[.string ⟨#[]⟩]).cell? ⟨q, 0, none⟩ = some (.string s) := by
    rw [← hxq]; unfold World.cell?; rw [setRow_other _ _ _ _ (by show q ≠ V + 1 + 1; have : q < V := hlq; omega)]
  have HCP2 : ∀ ty, (Builtin.copy_ #[28, 28] ty #[.slice (some ⟨V + 1 + 1, 0, none⟩) 1 1, .slice (some ⟨q, 0, none⟩) 1 qc]).run Try.prog (x.setRow (V + 1 + 1) #[.string ⟨#[]⟩]) = .ok (goInt 1) ((x.setRow (V + 1 + 1) #[.string ⟨#[]⟩]).setRow (V + 1 + 1) #[.string s]) := fun ty => copy_one _ _ _ _ _ _ h5 hq5 ty
  have hA6 : ((x.setRow (V + 1 + 1) #[.string ⟨#[]⟩]).setRow (V + 1 + 1) #[.string s]).heap[V]? = some (.cells #[.slice (some ⟨b, 0, none⟩) 1 1, .int .i64 r] 30 (0, 0)) := by
    rw [setRow_other _ _ _ _ (by omega), setRow_other _ _ _ _ (by omega)]; exact h4a
  have c0 := (cell_blk h4a 0).1; have c1 := (cell_blk h4a 1).1
  have HV := Lib.hid hV
  have HX := Lib.hid (And.intro BL (And.intro h4b (And.intro h4c (And.intro h5 hA6))))
  clear hV BL h4a h4b h4c h5 hxb hlb hxq hlq hq5 hsz hA6
  go_upto_region 4 with fail
  obtain ⟨y, hy⟩ : ∃ y, (x.setRow (V + 1 + 1) #[.string ⟨#[]⟩]).setRow (V + 1 + 1) #[.string s] = y := ⟨_, rfl⟩
  obtain ⟨BL, h4b, h4c, h5, hA6⟩ := HX.out
  have hB6 : y.heap[V + 1]? = some (.cells #[.slice none 0 0, .int .i64 0] 30 (0, 0)) := by
    rw [← hy, setRow_other _ _ _ _ (by omega), setRow_other _ _ _ _ (by omega)]; exact h4b
  have hC6 : y.heap[V + 1 + 1]? = some (.cells #[.string s] 9 (0, 0)) := by rw [← hy]; exact setRow_at h5 _
  have BY : Below w.heap.size w y := by
    rw [← hy]; exact below_setRow (below_setRow BL (by have := HV.out; omega) _) (by have := HV.out; omega) _
  rw [hy] at hA6 ⊢
  have a0 := (cell_blk hA6 0).1; have a1 := (cell_blk hA6 1).1
  have e0 := (cell_blk hB6 0).1; have e1 := (cell_blk hB6 1).1
  have f0 := (cell_blk hA6 0).2; have f1 := (cell_blk hB6 0).2; have f2 := (cell_blk hB6 1).2
  have HY := Lib.hid (And.intro BY (And.intro hA6 (And.intro hB6 hC6)))
  clear hy c0 c1 HCP1 HCP2 HX BL h4b h4c h5 hA6 hB6 hC6 BY HMK
  go_wp2_with fail
  have hz := pair_set ((heap_far_one (x := y) (R := V) (o := 0) (show V + 1 ≠ V by omega) (.slice (some ⟨V + 1 + 1, 0, none⟩) 1 1)).trans HY.out.2.2.1) rfl (.slice (some ⟨V + 1 + 1, 0, none⟩) 1 1) (.int .i64 r)
  have g0 := (cell_blk hz 0).1; have g1 := (cell_blk hz 1).1
  have hV := HV.out
  refine bodyPost_ret (v := docV (some ⟨V + 1 + 1, 0, none⟩) 1 1 r) (by simp [results, Try.results71, go_sem, g0, g1]) rfl ⟨V + 1 + 1, rfl, ?_, ?_⟩
  · rw [heap_far2 (by omega), heap_far_one (by omega)]; exact HY.out.2.2.2
  · exact ((HY.out.1.setCell (p := ⟨V, 0, none⟩) (by show _ ≤ V; omega) _).setCell (p := ⟨V + 1, 0, none⟩) (by show _ ≤ V + 1; omega) _).setCell (p := ⟨V + 1, 1, none⟩) (by show _ ≤ V + 1; omega) _
end Go.Proofs.Ytdmaendhkenmgaa.Bt
/- The document's arena of one page: Commit; the view of layer 5's statements. -/
namespace Go.Proofs.Ytdmaendhkenmgaa.Bt
open Go Go.RowKit Go.Shelf
set_option linter.unusedVariables false

def CmList (k : Nat) (s : ByteArray) (v : Value) (x : World) : Prop := (k = 0 ∧ v = .slice none 0 0) ∨ (k = 1 ∧ ∃ g cap, v = .slice (some ⟨g, 0, none⟩) 1 cap ∧ x.cell? ⟨g, 0, none⟩ = some (.string s))
/-- the call's own blocks: what came in, what goes out, the page's row -/
structure CmAt (V b : Nat) (r : Int) (w x : World) : Prop where
  v : x.heap[V]? = some (.cells #[.slice (some ⟨b, 0, none⟩) 1 1, .int .i64 r] 30 (0, 0))
  o : x.heap[V + 1]? = some (.cells #[.slice none 0 0, .int .i64 0] 30 (0, 0))
  b : x.heap[b]? = some (.cells #[.string ⟨#[]⟩] 9 (0, 0))
  bel : Below w.heap.size w x
theorem CmAt.below {V b : Nat} {r : Int} {w x y : World} (h : CmAt V b r w x) (hb : Below x.heap.size x y) : CmAt V b r w y :=
  ⟨pair_at hb h.v, pair_at hb h.o, (hb.block b (Array.getElem?_eq_some_iff.1 h.b).1).trans h.b, h.bel.trans (hb.mono h.bel.size)⟩
def CommitOne (w : World) (e : Ending) (w' : World) : Prop := ∃ b, e = .returned (.tuple #[docV (some ⟨b, 0, none⟩) 1 1 (-1), .int .i64 0]) ∧ Below w.heap.size w w'
set_option maxRecDepth 100000 in
set_option maxHeartbeats 2000000 in
theorem rcommit_one (b : Nat) (w : World) (hb : w.heap[b]? = some (.cells #[.string ⟨#[]⟩] 9 (0, 0))) :
    Calls Try.prog 23 #[docV (some ⟨b, 0, none⟩) 1 1 (-1), .int .i64 0, .int .i64 1] w (CommitOne w) := by
  obtain ⟨i0, hi, hz0, hz1, hz2⟩ := info_parts Try.infoString
  have HI := Lib.hid hi; have HZ0 := Lib.hid hz0; have HZ1 := Lib.hid hz1; have HZ2 := Lib.hid hz2
  clear hi hz0 hz1 hz2
  have HNS := Lib.hid fun x => noughts_any 4096 (by omega) x
  generalize strL (List.replicate 4096 0) = s at *
  obtain ⟨q1, q2⟩ := pairs_new w #[.slice (some ⟨b, 0, none⟩) 1 1, .int .i64 (-1)] #[.slice none 0 0, .int .i64 0] 30 30
  have HC0 : Hid (CmAt w.heap.size b (-1) w _) := Lib.hid ⟨q1, q2, ((below2 w _ _).block b (Array.getElem?_eq_some_iff.1 hb).1).trans hb, below2 w _ _⟩
  clear hb q1 q2
  go_enter Try.func23, Try.ntmps23
  go_wp2_with fail
  refine (rwrong_one b (-1) _ HC0.out.b).mono ?_
  rintro e w1 ⟨rfl, hb⟩
  have HC1 := Lib.hid (HC0.out.below hb)
  obtain ⟨V, hV⟩ : ∃ V, w.heap.size = V := ⟨_, rfl⟩
  rw [hV] at HC1 ⊢
  have HV := Lib.hid hV
  clear HC0 hb hV
  have c0 := (cell_blk HC1.out.v 0).1; have c1 := (cell_blk HC1.out.v 1).1
  go_wp2_with fail
  go_loopw [9, 10] (fun l v wr => ∃ k : Nat, k ≤ 1 ∧ v = .int .i64 (k : Int) ∧ CmList k s l wr ∧ CmAt V b (-1) w wr) (fun _ v _ => 1 - (intOf v).toNat)
  case atStart => exact ⟨0, by omega, rfl, .inl ⟨rfl, rfl⟩, HC1.out⟩
  case round =>
    obtain ⟨k, hk, rfl, hl, hc⟩ := hrel
    have HL := Lib.hid hl; have HC := Lib.hid hc
    clear hl hc HC1 c0 c1
    by_cases hlt : k < 1
    · obtain rfl : k = 0 := by omega
      obtain rfl : u9 = .slice none 0 0 := by
        rcases HL.out with ⟨_, h⟩ | ⟨h, _⟩
        · exact h
        · cases h
      clear HL
      go_wp2_with fail
      refine (HNS.out _).mono ?_
      rintro e w2 ⟨rfl, hb⟩
      have HC2 := Lib.hid (HC.out.below hb)
      clear HC hb
      go_wp2_with fail
      go_roundw
      case rel =>
        refine ⟨1, by omega, rfl, .inr ⟨rfl, _, _, rfl, ?_⟩, HC2.out.below ((below2 w2 _ _).drew)⟩
        have := (cell_blk (heap_old2 w2 (.cells #[.string s] 9) (.cells (#[.string s] ++ Builtin.zeroCells #[.string ⟨#[]⟩] ((Question.appendCap 1 0 9).cut (w2.tape w2.drawn (Question.appendCap 1 0 9)) - 1)) 9)) 0).1
        refine Eq.trans this ?_
        rw [Array.getElem?_append_left (show 0 < 1 by omega)]
        rfl
      case measure => exact (show (0 : Nat) < 1 by omega)
    · have hk1 : k = 1 := by omega
      obtain ⟨g, cap, rfl, hcell⟩ : ∃ g cap, u9 = .slice (some ⟨g, 0, none⟩) 1 cap ∧ wr.cell? ⟨g, 0, none⟩ = some (.string s) := by
        rcases HL.out with ⟨h, _⟩ | ⟨_, h⟩
        · omega
        · exact h
      have HCL := Lib.hid hcell
      have c0 := (cell_blk HC.out.v 0).1; have c1 := (cell_blk HC.out.v 1).1
      have e0 := (cell_blk HC.out.o 0).1; have e1 := (cell_blk HC.out.o 1).1
      clear HL hcell
      go_wp2_with fail
      refine (rwith_one b g cap (-1) s _ HC.out.b HCL.out).mono ?_
      rintro e w2 ⟨b2, rfl, hb2, hb⟩
      have HC2 := Lib.hid (HC.out.below hb)
      clear hb hb2 HCL HC c0 c1 e0 e1
      have f1 := (cell_blk HC2.out.o 0).2; have f2 := (cell_blk HC2.out.o 1).2
      have e0 := (cell_blk HC2.out.o 0).1; have e1 := (cell_blk HC2.out.o 1).1
      go_wp2_with fail
      have hz := pair_set HC2.out.o rfl (.slice (some ⟨b2, 0, none⟩) 1 1) (.int .i64 (-1))
      have g0 := (cell_blk hz 0).1; have g1 := (cell_blk hz 1).1
      have hV := HV.out
      exact bodyPost_ret (v := .tuple #[docV (some ⟨b2, 0, none⟩) 1 1 (-1), .int .i64 0]) (by simp [results, Try.results23, go_sem, g0, g1]) rfl ⟨b2, rfl, (HC2.out.bel.setCell (p := ⟨V + 1, 0, none⟩) (by show _ ≤ V + 1; omega) _).setCell (p := ⟨V + 1, 1, none⟩) (by show _ ≤ V + 1; omega) _⟩
end Go.Proofs.Ytdmaendhkenmgaa.Bt
