/- The page and the view of layer 5's statements. -/
import Derived.Test.YtdmaendhkenmgaaRfB
namespace Go.Proofs.Ytdmaendhkenmgaa.Bt
open Go Go.RowKit Go.Shelf
set_option linter.unusedVariables false

/-- an arena, and what lay ahead of a world w0 -/
structure OB (A : Nat) (s : ASt) (w0 x : World) : Prop where
  o : On A s x
  b : Base A w0 x
theorem OB.below {A : Nat} {s : ASt} {w0 x y : World} (h : OB A s w0 x) (hb : Below x.heap.size x y) : OB A s w0 y := ⟨h.o.below hb, h.b.below h.o hb⟩
theorem OB.went {A : Nat} {s s' : ASt} {w0 x y : World} (h : OB A s w0 x) (ho : On A s' y) (hg : Went A x y) : OB A s' w0 y := ⟨ho, h.b.went hg⟩
theorem OB.set {A R : Nat} {s : ASt} {w0 x : World} (h : OB A s w0 x) (hm : Mine A R x) (hR : w0.heap.size ≤ R) (o : Nat) (v : Value) : OB A s w0 (x.setCell ⟨R, o, none⟩ v) := ⟨h.o.set hm o v, h.b.set h.o hm hR o v⟩
theorem ob_sets {A : Nat} {s : ASt} {w0 : World} (l : List (Nat × Nat × Value)) : ∀ x, OB A s w0 x → (∀ e ∈ l, Mine A e.1 x ∧ w0.heap.size ≤ e.1) → OB A s w0 (l.foldl (fun x e => x.setCell ⟨e.1, e.2.1, none⟩ e.2.2) x) := by
  induction l with
  | nil => intro x h _; exact h
  | cons a l ih =>
    intro x h hm
    have ha := hm a (List.mem_cons_self ..)
    exact ih _ (h.set ha.1 ha.2 _ _) fun e he => ⟨Mine.set h.o ha.1 (hm e (List.mem_cons_of_mem _ he)).1 _ _, (hm e (List.mem_cons_of_mem _ he)).2⟩
abbrev dvV (n : Nat) : Value := .agg #[.int .i64 10, .int .i64 (n : Int)]
def PageP (n : Nat) (w : World) (e : Ending) (w' : World) : Prop :=
  ∃ A b, e = .returned (.tuple #[.pointer (some ⟨A, 0, none⟩), vwV A 10 n, docV (some ⟨b, 0, none⟩) 1 1 (-1), dvV n, .bool true]) ∧ OB A (fullS 1 (fun _ => 0)) w w'
theorem three_blocks (w : World) (a b c : Array Value) (ta tb tc : TypeId) : ((((w.alloc (.cells a ta)).alloc (.cells b tb)).alloc (.cells c tc)).heap.size = w.heap.size + 3) ∧ Below w.heap.size w (((w.alloc (.cells a ta)).alloc (.cells b tb)).alloc (.cells c tc)) :=
  ⟨by simp, (below2 w _ _).alloc (by simp; omega) _⟩
/-- the blocks of what goes out -/
structure Outs (R : Nat) (x : World) : Prop where
  a : x.heap[R]? = some (.cells #[.pointer none, .int .i64 0, .int .i64 0] 55 (0, 0))
  b : x.heap[R + 1]? = some (.cells #[.slice none 0 0, .int .i64 0] 30 (0, 0))
  c : x.heap[R + 1 + 1]? = some (.cells #[.int .i64 0, .int .i64 0] 61 (0, 0))
theorem blk_at {x y : World} {B : Nat} {o : Obj} (hb : Below x.heap.size x y) (h : x.heap[B]? = some o) : y.heap[B]? = some o := (hb.block B (Array.getElem?_eq_some_iff.1 h).1).trans h
theorem Outs.below {R : Nat} {x y : World} (h : Outs R x) (hb : Below x.heap.size x y) : Outs R y := ⟨blk_at hb h.a, blk_at hb h.b, blk_at hb h.c⟩
theorem heap_far3 {x : World} {B R : Nat} (hne : B ≠ R) (u v z : Value) : (((x.setCell ⟨R, 0, none⟩ u).setCell ⟨R, 1, none⟩ v).setCell ⟨R, 2, none⟩ z).heap[B]? = x.heap[B]? :=
  (Below.heap_setCell _ ⟨R, 2, none⟩ _ _ hne).trans (heap_far2 hne u v)
/-- all that the statement's page holds on its way: the three blocks that go out, the document's arena's variable -/
structure Pg (A R D : Nat) (p : Option Addr) (s : ASt) (w x : World) : Prop where
  o : OB A s w x
  u : Outs R x
  m0 : Mine A R x
  m1 : Mine A (R + 1) x
  m2 : Mine A (R + 1 + 1) x
  d : x.heap[D]? = some (.cells #[.slice p 1 1, .int .i64 (-1)] 30 (0, 0))
  md : Mine A D x
  rd : R + 1 + 1 < D
  wr : w.heap.size ≤ R
theorem Pg.went {A R D : Nat} {p : Option Addr} {s s' : ASt} {w x y : World} (h : Pg A R D p s w x) (ho : On A s' y) (hg : Went A x y) : Pg A R D p s' w y :=
  { h with o := h.o.went ho hg, u := ⟨h.m0.at hg h.u.a, h.m1.at hg h.u.b, h.m2.at hg h.u.c⟩, m0 := h.m0.went hg, m1 := h.m1.went hg, m2 := h.m2.went hg, d := h.md.at hg h.d, md := h.md.went hg }
theorem Pg.below {A R D : Nat} {p : Option Addr} {s : ASt} {w x y : World} (h : Pg A R D p s w x) (hb : Below x.heap.size x y) : Pg A R D p s w y := h.went (h.o.o.below hb) (Went.of_below h.o.o hb)
theorem Pg.setD {A R D : Nat} {p q : Option Addr} {s : ASt} {w x : World} (h : Pg A R D p s w x) : Pg A R D q s w ((x.setCell ⟨D, 0, none⟩ (.slice q 1 1)).setCell ⟨D, 1, none⟩ (.int .i64 (-1))) := by
  have hr := h.rd; have hw := h.wr
  have o1 := h.o.set h.md (by omega) 0 (.slice q 1 1)
  have md1 := Mine.set h.o.o h.md h.md 0 (.slice q 1 1)
  exact { h with
    o := o1.set md1 (by omega) 1 _
    u := ⟨(heap_far2 (by omega) _ _).trans h.u.a, (heap_far2 (by omega) _ _).trans h.u.b, (heap_far2 (by omega) _ _).trans h.u.c⟩
    m0 := Mine.set o1.o md1 (Mine.set h.o.o h.md h.m0 _ _) _ _
    m1 := Mine.set o1.o md1 (Mine.set h.o.o h.md h.m1 _ _) _ _
    m2 := Mine.set o1.o md1 (Mine.set h.o.o h.md h.m2 _ _) _ _
    d := pair_set h.d rfl _ _
    md := Mine.set o1.o md1 md1 _ _ }
set_option maxRecDepth 100000 in
set_option maxHeartbeats 4000000 in
theorem page_any (n : Nat) (hn : n ≤ 4000) (w : World) : Calls Try.prog 141 #[.int .i64 (n : Int)] w (PageP n w) := by
  have L1 : Hid (lenN 1 = 1) := Lib.hid (by decide)
  have E1 : Hid (commitE (newS 1) 0 1 = 0) := Lib.hid (by decide)
  have S1 : Hid (commitS (newS 1) 0 1 = fullS 1 (fun _ => 0)) := Lib.hid (full_new 1 1 (by decide) (by decide) (by decide))
  have T1 : Hid (thereE (fullS 1 fun _ => 0).L (fullS 1 fun _ => 0).es 10 n = 0) := Lib.hid (by
    show thereE 1 [0, 1] 10 n = 0
    rw [thereE_full (by omega) (by omega), if_pos (by omega)])
  have HV : Hid (∀ pu a k, ofV pu a k 0 = .agg #[.pointer pu, .int .i64 a, .int .i64 k]) := Lib.hid fun pu a k => by unfold ofV; rw [if_pos rfl]
  obtain ⟨hsz, hbl⟩ := three_blocks w #[.pointer none, .int .i64 0, .int .i64 0] #[.slice none 0 0, .int .i64 0] #[.int .i64 0, .int .i64 0] 55 30 61
  obtain ⟨q1, q2, q3⟩ := three_new w #[.pointer none, .int .i64 0, .int .i64 0] #[.slice none 0 0, .int .i64 0] #[.int .i64 0, .int .i64 0] 55 30 61
  have HO0 : Hid (Outs w.heap.size _) := Lib.hid ⟨q1, q2, q3⟩
  have HB0 := Lib.hid hbl
  have HS0 := Lib.hid hsz
  clear q1 q2 q3 hsz hbl
  go_enter Try.func141, Try.ntmps141
  go_wp2_with fail
  refine (on_new 1 _).mono ?_
  rintro e w1 ⟨A, rfl, hA, hx, hb, hm⟩
  rw [L1.out] at hx
  have HX1 : Hid (OB A (newS 1) w w1) := Lib.hid ⟨hx, hb.rebase HB0.out⟩
  have HM1 : Hid (∀ j, j < 3 → Mine A (w.heap.size + j) w1) := Lib.hid fun j hj => hm _ (by rw [HS0.out]; omega)
  have HO1 := Lib.hid (HO0.out.below hb.bel)
  clear hx hb hm HO0 HB0 hA
  go_wp2_with fail
  refine (rnew_one _).mono ?_
  rintro e w2 ⟨b, rfl, hb2, hb⟩
  have HX2 := Lib.hid (HX1.out.below hb)
  have HM2 : Hid (∀ j, j < 3 → Mine A (w.heap.size + j) w2) := Lib.hid fun j hj => (HM1.out j hj).went (Went.of_below HX1.out.o hb)
  have HO2 := Lib.hid (HO1.out.below hb)
  have HB2 := Lib.hid hb2
  clear hb hb2 HX1 HM1 HO1
  go_wp2_with fail
  have hD := heap_new w2 (.cells #[.slice (some ⟨b, 0, none⟩) 1 1, .int .i64 (-1)] 30)
  have hmD := Mine.new HX2.out.o (.cells #[.slice (some ⟨b, 0, none⟩) 1 1, .int .i64 (-1)] 30)
  have bD := bel1 w2 (.cells #[.slice (some ⟨b, 0, none⟩) 1 1, .int .i64 (-1)] 30)
  have gD := Went.of_below HX2.out.o bD
  have HP2 : Hid (Pg A w.heap.size w2.heap.size (some ⟨b, 0, none⟩) (newS 1) w _) := Lib.hid
    { o := HX2.out.below bD, u := HO2.out.below bD, m0 := (HM2.out 0 (by omega)).went gD, m1 := (HM2.out 1 (by omega)).went gD, m2 := (HM2.out 2 (by omega)).went gD, d := hD, md := hmD, rd := (HM2.out 2 (by omega)).lt, wr := Nat.le_refl _ }
  have HB3 := Lib.hid (blk_at bD HB2.out)
  clear hD hmD bD gD HX2 HM2 HO2 HB2
  refine (on_commit HP2.out.o.o 0 1 (by omega)).mono ?_
  rintro e w3 ⟨rfl, hx, hg⟩
  rw [E1.out]; rw [S1.out] at hx
  have HP3 := Lib.hid (HP2.out.went hx hg)
  have HB4 := Lib.hid (hg.keep HP2.out.o.o HB3.out (by decide) (by decide) (by decide))
  clear hx hg HP2 HB3
  have c0 := (cell_blk HP3.out.d 0).1; have c1 := (cell_blk HP3.out.d 1).1
  go_wp2_with fail
  refine (rcommit_one b _ HB4.out).mono ?_
  rintro e w4 ⟨b2, rfl, hb⟩
  have HP4 := Lib.hid (HP3.out.below hb)
  clear hb c0 c1 HP3 HB4
  have c0 := (cell_blk HP4.out.d 0).1; have c1 := (cell_blk HP4.out.d 1).1; have f0 := (cell_blk HP4.out.d 0).2; have f1 := (cell_blk HP4.out.d 1).2
  go_wp2_with fail
  have HP5 := Lib.hid (HP4.out.setD (q := some ⟨b2, 0, none⟩))
  clear c0 c1 f0 f1 HP4
  refine (on_of HP5.out.o.o 10 n (by omega)).mono ?_
  rintro e w5 ⟨rfl, hb⟩
  rw [T1.out, HV.out]
  have HP6 := Lib.hid (HP5.out.below hb)
  clear hb HP5
  go_upto_region 5 with fail
  have hV := heap_new w5 (.cells #[.pointer (some ⟨A, 0, none⟩), .int .i64 10, .int .i64 (n : Int)] 55)
  have hDV : w2.heap.size < w5.heap.size := HP6.out.md.lt
  have HP7 := Lib.hid (HP6.out.below (bel1 w5 (.cells #[.pointer (some ⟨A, 0, none⟩), .int .i64 10, .int .i64 (n : Int)] 55)))
  obtain ⟨x, hx⟩ : ∃ x, w5.alloc (.cells #[.pointer (some ⟨A, 0, none⟩), .int .i64 10, .int .i64 (n : Int)] 55) = x := ⟨_, rfl⟩
  obtain ⟨V, hVV⟩ : ∃ V, w5.heap.size = V := ⟨_, rfl⟩
  obtain ⟨D, hDD⟩ : ∃ V, w2.heap.size = V := ⟨_, rfl⟩
  obtain ⟨R, hRR⟩ : ∃ V, w.heap.size = V := ⟨_, rfl⟩
  rw [hx] at HP7 hV ⊢
  rw [hVV] at hV hDV ⊢
  rw [hDD] at HP7 hDV ⊢
  rw [hRR] at HP7 ⊢
  have HR := Lib.hid hRR
  clear hx hVV hDD hRR HP6
  have u0 := (cell_blk hV 0).1; have u1 := (cell_blk hV 1).1; have u2 := (cell_blk hV 2).1
  have d0 := (cell_blk HP7.out.d 0).1; have d1 := (cell_blk HP7.out.d 1).1
  have a0 := (cell_blk HP7.out.u.a 0).1; have a1 := (cell_blk HP7.out.u.a 1).1; have a2 := (cell_blk HP7.out.u.a 2).1
  have b0 := (cell_blk HP7.out.u.b 0).1; have b1 := (cell_blk HP7.out.u.b 1).1
  have c0 := (cell_blk HP7.out.u.c 0).1; have c1 := (cell_blk HP7.out.u.c 1).1
  have fa0 := (cell_blk HP7.out.u.a 0).2; have fa1 := (cell_blk HP7.out.u.a 1).2; have fa2 := (cell_blk HP7.out.u.a 2).2
  have fb0 := (cell_blk HP7.out.u.b 0).2; have fb1 := (cell_blk HP7.out.u.b 1).2
  have fc0 := (cell_blk HP7.out.u.c 0).2; have fc1 := (cell_blk HP7.out.u.c 1).2
  have hrd := HP7.out.rd
  have n1 : ¬ D = R := by omega
  have n2 : ¬ D = R + 1 := by omega
  have n3 : ¬ D = R + 1 + 1 := by omega
  have n4 : ¬ V = R := by omega
  have n5 : ¬ V = R + 1 := by omega
  have n6 : ¬ V = R + 1 + 1 := by omega
  clear hrd hDV hV
  go_region
  have hR := HR.out
  have hob := ob_sets [(R, 0, .pointer (some ⟨A, 0, none⟩)), (R, 1, .int .i64 10), (R, 2, .int .i64 (n : Int)), (R + 1, 0, .slice (some ⟨b2, 0, none⟩) 1 1), (R + 1, 1, .int .i64 (-1)), (R + 1 + 1, 0, .int .i64 10), (R + 1 + 1, 1, .int .i64 (n : Int))] x HP7.out.o (by
    intro e he
    simp only [List.mem_cons, List.not_mem_nil, or_false] at he
    rcases he with rfl | rfl | rfl | rfl | rfl | rfl | rfl
    · exact ⟨HP7.out.m0, by show _ ≤ R; omega⟩
    · exact ⟨HP7.out.m0, by show _ ≤ R; omega⟩
    · exact ⟨HP7.out.m0, by show _ ≤ R; omega⟩
    · exact ⟨HP7.out.m1, by show _ ≤ R + 1; omega⟩
    · exact ⟨HP7.out.m1, by show _ ≤ R + 1; omega⟩
    · exact ⟨HP7.out.m2, by show _ ≤ R + 1 + 1; omega⟩
    · exact ⟨HP7.out.m2, by show _ ≤ R + 1 + 1; omega⟩)
  have HOB := Lib.hid (hob.below (Below.refl _ _).drew)
  have y1 := three_set HP7.out.u.a rfl (.pointer (some ⟨A, 0, none⟩)) (.int .i64 10) (.int .i64 (n : Int))
  have y2 := (heap_far3 (x := x) (B := R + 1) (R := R) (by omega) (.pointer (some ⟨A, 0, none⟩)) (.int .i64 10) (.int .i64 (n : Int))).trans HP7.out.u.b
  have y3 := (heap_far3 (x := x) (B := R + 1 + 1) (R := R) (by omega) (.pointer (some ⟨A, 0, none⟩)) (.int .i64 10) (.int .i64 (n : Int))).trans HP7.out.u.c
  obtain ⟨x1, hx1⟩ : ∃ x1, ((x.setCell ⟨R, 0, none⟩ (.pointer (some ⟨A, 0, none⟩))).setCell ⟨R, 1, none⟩ (.int .i64 10)).setCell ⟨R, 2, none⟩ (.int .i64 (n : Int)) = x1 := ⟨_, rfl⟩
  rw [hx1] at y1 y2 y3
  have z1 := (heap_far2 (x := x1) (B := R) (R := R + 1) (by omega) (.slice (some ⟨b2, 0, none⟩) 1 1) (.int .i64 (-1))).trans y1
  have z2 := pair_set y2 rfl (.slice (some ⟨b2, 0, none⟩) 1 1) (.int .i64 (-1))
  have z3 := (heap_far2 (x := x1) (B := R + 1 + 1) (R := R + 1) (by omega) (.slice (some ⟨b2, 0, none⟩) 1 1) (.int .i64 (-1))).trans y3
  obtain ⟨x2, hx2⟩ : ∃ x2, (x1.setCell ⟨R + 1, 0, none⟩ (.slice (some ⟨b2, 0, none⟩) 1 1)).setCell ⟨R + 1, 1, none⟩ (.int .i64 (-1)) = x2 := ⟨_, rfl⟩
  rw [hx2] at z1 z2 z3
  have v1 := (heap_far2 (x := x2) (B := R) (R := R + 1 + 1) (by omega) (.int .i64 10) (.int .i64 (n : Int))).trans z1
  have v2 := (heap_far2 (x := x2) (B := R + 1) (R := R + 1 + 1) (by omega) (.int .i64 10) (.int .i64 (n : Int))).trans z2
  have v3 := pair_set z3 rfl (.int .i64 10) (.int .i64 (n : Int))
  have HX12 := Lib.hid (And.intro hx1 hx2)
  have g0 := (cell_blk v1 0).1; have g1 := (cell_blk v1 1).1; have g2 := (cell_blk v1 2).1; have g3 := (cell_blk v2 0).1; have g4 := (cell_blk v2 1).1; have g5 := (cell_blk v3 0).1; have g6 := (cell_blk v3 1).1
  clear u0 u1 u2 d0 d1 a0 a1 a2 b0 b1 c0 c1 fa0 fa1 fa2 fb0 fb1 fc0 fc1 hob y1 y2 y3 z1 z2 z3 v1 v2 v3
  rw [hx1, hx2]
  clear hx1 hx2
  go_wp2_with fail
  exact bodyPost_ret (v := .tuple #[.pointer (some ⟨A, 0, none⟩), vwV A 10 n, docV (some ⟨b2, 0, none⟩) 1 1 (-1), dvV n, .bool true]) (by simp [results, Try.results141, go_sem, g0, g1, g2, g3, g4, g5, g6]) rfl ⟨A, b2, rfl, by have := HOB.out; rw [← HX12.out.2, ← HX12.out.1]; exact this⟩
end Go.Proofs.Ytdmaendhkenmgaa.Bt
