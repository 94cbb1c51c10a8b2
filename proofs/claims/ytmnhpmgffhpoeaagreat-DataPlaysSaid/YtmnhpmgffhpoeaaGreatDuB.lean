/- Several texts in one: RfB; FdA; FdE; FdH; FdI; FdJ; FdK; FdFm; FdM; CeM; LsM. -/
import Derived.Test.YtmnhpmgffhpoeaaGreatDuA
import Derived.Laws.AppendOwn
/- The document's arena of one page: Commit; the view of layer 5's statements. -/
namespace Go.Proofs.YtmnhpmgffhpoeaaGreat.Bt
open Go Go.RowKit Go.Shelf
set_option linter.unusedVariables false

def CmList (k : Nat) (s : ByteArray) (v : Value) (x : World) : Prop := (k = 0 ∧ v = .slice none 0 0) ∨ (k = 1 ∧ ∃ g cap, v = .slice (some ⟨g, 0, none⟩) 1 cap ∧ x.cell? ⟨g, 0, none⟩ = some (.string s))
/-- the call's own blocks: what came in, what goes out, the page's row -/
structure CmAt (V b : Nat) (r : Int) (w x : World) : Prop where
  v : x.heap[V]? = some (.cells #[.slice (some ⟨b, 0, none⟩) 1 1, .int .i64 r] 108 (0, 0))
  o : x.heap[V + 1]? = some (.cells #[.slice none 0 0, .int .i64 0] 108 (0, 0))
  b : x.heap[b]? = some (.cells #[.string ⟨#[]⟩] 9 (0, 0))
  bel : Below w.heap.size w x
theorem CmAt.below {V b : Nat} {r : Int} {w x y : World} (h : CmAt V b r w x) (hb : Below x.heap.size x y) : CmAt V b r w y :=
  ⟨pair_at hb h.v, pair_at hb h.o, (hb.block b (Array.getElem?_eq_some_iff.1 h.b).1).trans h.b, h.bel.trans (hb.mono h.bel.size)⟩
def CommitOne (w : World) (e : Ending) (w' : World) : Prop := ∃ b, e = .returned (.tuple #[docV (some ⟨b, 0, none⟩) 1 1 (-1), .int .i64 0]) ∧ Below w.heap.size w w'
set_option maxRecDepth 100000 in
set_option maxHeartbeats 2000000 in
theorem rcommit_one (b : Nat) (w : World) (hb : w.heap[b]? = some (.cells #[.string ⟨#[]⟩] 9 (0, 0))) :
    Calls Tryz.prog 71 #[docV (some ⟨b, 0, none⟩) 1 1 (-1), .int .i64 0, .int .i64 1] w (CommitOne w) := by
  obtain ⟨i0, hi, hz0, hz1, hz2⟩ := info_parts Tryz.infoString
  have HI := Lib.hid hi; have HZ0 := Lib.hid hz0; have HZ1 := Lib.hid hz1; have HZ2 := Lib.hid hz2
  clear hi hz0 hz1 hz2
  have HNS := Lib.hid fun x => noughts_any 4096 (by omega) x
  generalize strL (List.replicate 4096 0) = s at *
  obtain ⟨q1, q2⟩ := pairs_new w #[.slice (some ⟨b, 0, none⟩) 1 1, .int .i64 (-1)] #[.slice none 0 0, .int .i64 0] 108 108
  have HC0 : Hid (CmAt w.heap.size b (-1) w _) := Lib.hid ⟨q1, q2, ((below2 w _ _).block b (Array.getElem?_eq_some_iff.1 hb).1).trans hb, below2 w _ _⟩
  clear hb q1 q2
  go_enter Tryz.func71, Tryz.ntmps71
  go_wp2_with fail
  refine (rwrong_one b (-1) _ HC0.out.b).mono ?_
  rintro e w1 ⟨rfl, hb⟩
  have HC1 := Lib.hid (HC0.out.below hb)
  obtain ⟨V, hV⟩ : ∃ V, w.heap.size = V := ⟨_, rfl⟩
  rw [hV] at HC1 ⊢
  have HV := Lib.hid hV
  clear HC0 hb hV
  have c0 := (cell_blk HC1.out.v 0).1; have c1 := (cell_blk HC1.out.v 1).1
  go_wp2_with fail
  go_loopw [9, 10] (fun l v wr => ∃ k : Nat, k ≤ 1 ∧ v = .int .i64 (k : Int) ∧ CmList k s l wr ∧ CmAt V b (-1) w wr) (fun _ v _ => 1 - (intOf v).toNat)
  case atStart => exact ⟨0, by omega, rfl, .inl ⟨rfl, rfl⟩, HC1.out⟩
  case round =>
    obtain ⟨k, hk, rfl, hl, hc⟩ := hrel
    have HL := Lib.hid hl; have HC := Lib.hid hc
    clear hl hc HC1 c0 c1
    by_cases hlt : k < 1
    · obtain rfl : k = 0 := by omega
      obtain rfl : u9 = .slice none 0 0 := by
        rcases HL.out with ⟨_, h⟩ | ⟨h, _⟩
        · exact h
        · cases h
      clear HL
      go_wp2_with fail
      refine (HNS.out _).mono ?_
      rintro e w2 ⟨rfl, hb⟩
      have HC2 := Lib.hid (HC.out.below hb)
      clear HC hb
      go_wp2_with fail
      go_roundw
      case rel =>
        refine ⟨1, by omega, rfl, .inr ⟨rfl, _, _, rfl, ?_⟩, HC2.out.below ((below2 w2 _ _).drew)⟩
        have := (cell_blk (heap_old2 w2 (.cells #[.string s] 9) (.cells (#[.string s] ++ Builtin.zeroCells #[.string ⟨#[]⟩] ((Question.appendCap 1 0 9).cut (w2.tape w2.drawn (Question.appendCap 1 0 9)) - 1)) 9)) 0).1
        refine Eq.trans this ?_
        rw [Array.getElem?_append_left (show 0 < 1 by omega)]
        rfl
      case measure => exact (show (0 : Nat) < 1 by omega)
    · have hk1 : k = 1 := by omega
      obtain ⟨g, cap, rfl, hcell⟩ : ∃ g cap, u9 = .slice (some ⟨g, 0, none⟩) 1 cap ∧ wr.cell? ⟨g, 0, none⟩ = some (.string s) := by
        rcases HL.out with ⟨h, _⟩ | ⟨_, h⟩
        · omega
        · exact h
      have HCL := Lib.hid hcell
      have c0 := (cell_blk HC.out.v 0).1; have c1 := (cell_blk HC.out.v 1).1
      have e0 := (cell_blk HC.out.o 0).1; have e1 := (cell_blk HC.out.o 1).1
      clear HL hcell
      go_wp2_with fail
      refine (rwith_one b g cap (-1) s _ HC.out.b HCL.out).mono ?_
      rintro e w2 ⟨b2, rfl, hb2, hb⟩
      have HC2 := Lib.hid (HC.out.below hb)
      clear hb hb2 HCL HC c0 c1 e0 e1
      have f1 := (cell_blk HC2.out.o 0).2; have f2 := (cell_blk HC2.out.o 1).2
      have e0 := (cell_blk HC2.out.o 0).1; have e1 := (cell_blk HC2.out.o 1).1
      go_wp2_with fail
      have hz := pair_set HC2.out.o rfl (.slice (some ⟨b2, 0, none⟩) 1 1) (.int .i64 (-1))
      have g0 := (cell_blk hz 0).1; have g1 := (cell_blk hz 1).1
      have hV := HV.out
      exact bodyPost_ret (v := .tuple #[docV (some ⟨b2, 0, none⟩) 1 1 (-1), .int .i64 0]) (by simp [results, Tryz.results71, go_sem, g0, g1]) rfl ⟨b2, rfl, (HC2.out.bel.setCell (p := ⟨V + 1, 0, none⟩) (by show _ ≤ V + 1; omega) _).setCell (p := ⟨V + 1, 1, none⟩) (by show _ ≤ V + 1; omega) _⟩
end Go.Proofs.YtmnhpmgffhpoeaaGreat.Bt
/- The page and the view of layer 5's statements. -/
namespace Go.Proofs.YtmnhpmgffhpoeaaGreat.Bt
open Go Go.RowKit Go.Shelf
set_option linter.unusedVariables false

/-- an arena, and what lay ahead of a world w0 -/
structure OB (A : Nat) (s : ASt) (w0 x : World) : Prop where
  o : On A s x
  b : Base A w0 x
theorem OB.below {A : Nat} {s : ASt} {w0 x y : World} (h : OB A s w0 x) (hb : Below x.heap.size x y) : OB A s w0 y := ⟨h.o.below hb, h.b.below h.o hb⟩
theorem OB.went {A : Nat} {s s' : ASt} {w0 x y : World} (h : OB A s w0 x) (ho : On A s' y) (hg : Went A x y) : OB A s' w0 y := ⟨ho, h.b.went hg⟩
theorem OB.set {A R : Nat} {s : ASt} {w0 x : World} (h : OB A s w0 x) (hm : Mine A R x) (hR : w0.heap.size ≤ R) (o : Nat) (v : Value) : OB A s w0 (x.setCell ⟨R, o, none⟩ v) := ⟨h.o.set hm o v, h.b.set h.o hm hR o v⟩
theorem ob_sets {A : Nat} {s : ASt} {w0 : World} (l : List (Nat × Nat × Value)) : ∀ x, OB A s w0 x → (∀ e ∈ l, Mine A e.1 x ∧ w0.heap.size ≤ e.1) → OB A s w0 (l.foldl (fun x e => x.setCell ⟨e.1, e.2.1, none⟩ e.2.2) x) := by
  induction l with
  | nil => intro x h _; exact h
  | cons a l ih =>
    intro x h hm
    have ha := hm a (List.mem_cons_self ..)
    exact ih _ (h.set ha.1 ha.2 _ _) fun e he => ⟨Mine.set h.o ha.1 (hm e (List.mem_cons_of_mem _ he)).1 _ _, (hm e (List.mem_cons_of_mem _ he)).2⟩
abbrev dvV (n : Nat) : Value := .agg #[.int .i64 10, .int .i64 (n : Int)]
def PageP (n : Nat) (w : World) (e : Ending) (w' : World) : Prop :=
  ∃ A b, e = .returned (.tuple #[.pointer (some ⟨A, 0, none⟩), vwV A 10 n, docV (some ⟨b, 0, none⟩) 1 1 (-1), dvV n, .bool true]) ∧ OB A (fullS 1 (fun _ => 0)) w w'
theorem three_blocks (w : World) (a b c : Array Value) (ta tb tc : TypeId) : ((((w.alloc (.cells a ta)).alloc (.cells b tb)).alloc (.cells c tc)).heap.size = w.heap.size + 3) ∧ Below w.heap.size w (((w.alloc (.cells a ta)).alloc (.cells b tb)).alloc (.cells c tc)) :=
  ⟨by simp, (below2 w _ _).alloc (by simp; omega) _⟩
/-- the blocks of what goes out -/
structure Outs (R : Nat) (x : World) : Prop where
  a : x.heap[R]? = some (.cells #[.pointer none, .int .i64 0, .int .i64 0] 28 (0, 0))
  b : x.heap[R + 1]? = some (.cells #[.slice none 0 0, .int .i64 0] 108 (0, 0))
  c : x.heap[R + 1 + 1]? = some (.cells #[.int .i64 0, .int .i64 0] 110 (0, 0))
theorem blk_at {x y : World} {B : Nat} {o : Obj} (hb : Below x.heap.size x y) (h : x.heap[B]? = some o) : y.heap[B]? = some o := (hb.block B (Array.getElem?_eq_some_iff.1 h).1).trans h
theorem Outs.below {R : Nat} {x y : World} (h : Outs R x) (hb : Below x.heap.size x y) : Outs R y := ⟨blk_at hb h.a, blk_at hb h.b, blk_at hb h.c⟩
theorem heap_far3 {x : World} {B R : Nat} (hne : B ≠ R) (u v z : Value) : (((x.setCell ⟨R, 0, none⟩ u).setCell ⟨R, 1, none⟩ v).setCell ⟨R, 2, none⟩ z).heap[B]? = x.heap[B]? :=
  (Below.heap_setCell _ ⟨R, 2, none⟩ _ _ hne).trans (heap_far2 hne u v)
/-- all that the statement's page holds on its way: the three blocks that go out, the document's arena's variable -/
structure Pg (A R D : Nat) (p : Option Addr) (s : ASt) (w x : World) : Prop where
  o : OB A s w x
  u : Outs R x
  m0 : Mine A R x
  m1 : Mine A (R + 1) x
  m2 : Mine A (R + 1 + 1) x
  d : x.heap[D]? = some (.cells #[.slice p 1 1, .int .i64 (-1)] 108 (0, 0))
  md : Mine A D x
  rd : R + 1 + 1 < D
  wr : w.heap.size ≤ R
theorem Pg.went {A R D : Nat} {p : Option Addr} {s s' : ASt} {w x y : World} (h : Pg A R D p s w x) (ho : On A s' y) (hg : Went A x y) : Pg A R D p s' w y :=
  { h with o := h.o.went ho hg, u := ⟨h.m0.at hg h.u.a, h.m1.at hg h.u.b, h.m2.at hg h.u.c⟩, m0 := h.m0.went hg, m1 := h.m1.went hg, m2 := h.m2.went hg, d := h.md.at hg h.d, md := h.md.went hg }
theorem Pg.below {A R D : Nat} {p : Option Addr} {s : ASt} {w x y : World} (h : Pg A R D p s w x) (hb : Below x.heap.size x y) : Pg A R D p s w y := h.went (h.o.o.below hb) (Went.of_below h.o.o hb)
theorem Pg.setD {A R D : Nat} {p q : Option Addr} {s : ASt} {w x : World} (h : Pg A R D p s w x) : Pg A R D q s w ((x.setCell ⟨D, 0, none⟩ (.slice q 1 1)).setCell ⟨D, 1, none⟩ (.int .i64 (-1))) := by
  have hr := h.rd; have hw := h.wr
  have o1 := h.o.set h.md (by omega) 0 (.slice q 1 1)
  have md1 := Mine.set h.o.o h.md h.md 0 (.slice q 1 1)
  exact { h with
    o := o1.set md1 (by omega) 1 _
    u := ⟨(heap_far2 (by omega) _ _).trans h.u.a, (heap_far2 (by omega) _ _).trans h.u.b, (heap_far2 (by omega) _ _).trans h.u.c⟩
    m0 := Mine.set o1.o md1 (Mine.set h.o.o h.md h.m0 _ _) _ _
    m1 := Mine.set o1.o md1 (Mine.set h.o.o h.md h.m1 _ _) _ _
    m2 := Mine.set o1.o md1 (Mine.set h.o.o h.md h.m2 _ _) _ _
    d := pair_set h.d rfl _ _
    md := Mine.set o1.o md1 md1 _ _ }
set_option maxRecDepth 100000 in
set_option maxHeartbeats 4000000 in
theorem page_any (n : Nat) (hn : n ≤ 4000) (w : World) : Calls Tryz.prog 57 #[.int .i64 (n : Int)] w (PageP n w) := by
  have L1 : Hid (lenN 1 = 1) := Lib.hid (by decide)
  have E1 : Hid (commitE (newS 1) 0 1 = 0) := Lib.hid (by decide)
  have S1 : Hid (commitS (newS 1) 0 1 = fullS 1 (fun _ => 0)) := Lib.hid (full_new 1 1 (by decide) (by decide) (by decide))
  have T1 : Hid (thereE (fullS 1 fun _ => 0).L (fullS 1 fun _ => 0).es 10 n = 0) := Lib.hid (by
    show thereE 1 [0, 1] 10 n = 0
    rw [thereE_full (by omega) (by omega), if_pos (by omega)])
  have HV : Hid (∀ pu a k, ofV pu a k 0 = .agg #[.pointer pu, .int .i64 a, .int .i64 k]) := Lib.hid fun pu a k => by unfold ofV; rw [if_pos rfl]
  obtain ⟨hsz, hbl⟩ := three_blocks w #[.pointer none, .int .i64 0, .int .i64 0] #[.slice none 0 0, .int .i64 0] #[.int .i64 0, .int .i64 0] 28 108 110
  obtain ⟨q1, q2, q3⟩ := three_new w #[.pointer none, .int .i64 0, .int .i64 0] #[.slice none 0 0, .int .i64 0] #[.int .i64 0, .int .i64 0] 28 108 110
  have HO0 : Hid (Outs w.heap.size _) := Lib.hid ⟨q1, q2, q3⟩
  have HB0 := Lib.hid hbl
  have HS0 := Lib.hid hsz
  clear q1 q2 q3 hsz hbl
  go_enter Tryz.func57, Tryz.ntmps57
  go_wp2_with fail
  refine (on_new 1 _).mono ?_
  rintro e w1 ⟨A, rfl, hA, hx, hb, hm⟩
  rw [L1.out] at hx
  have HX1 : Hid (OB A (newS 1) w w1) := Lib.hid ⟨hx, hb.rebase HB0.out⟩
  have HM1 : Hid (∀ j, j < 3 → Mine A (w.heap.size + j) w1) := Lib.hid fun j hj => hm _ (by rw [HS0.out]; omega)
  have HO1 := Lib.hid (HO0.out.below hb.bel)
  clear hx hb hm HO0 HB0 hA
  go_wp2_with fail
  refine (rnew_one _).mono ?_
  rintro e w2 ⟨b, rfl, hb2, hb⟩
  have HX2 := Lib.hid (HX1.out.below hb)
  have HM2 : Hid (∀ j, j < 3 → Mine A (w.heap.size + j) w2) := Lib.hid fun j hj => (HM1.out j hj).went (Went.of_below HX1.out.o hb)
  have HO2 := Lib.hid (HO1.out.below hb)
  have HB2 := Lib.hid hb2
  clear hb hb2 HX1 HM1 HO1
  go_wp2_with fail
  have hD := heap_new w2 (.cells #[.slice (some ⟨b, 0, none⟩) 1 1, .int .i64 (-1)] 108)
  have hmD := Mine.new HX2.out.o (.cells #[.slice (some ⟨b, 0, none⟩) 1 1, .int .i64 (-1)] 108)
  have bD := bel1 w2 (.cells #[.slice (some ⟨b, 0, none⟩) 1 1, .int .i64 (-1)] 108)
  have gD := Went.of_below HX2.out.o bD
  have HP2 : Hid (Pg A w.heap.size w2.heap.size (some ⟨b, 0, none⟩) (newS 1) w _) := Lib.hid
    { o := HX2.out.below bD, u := HO2.out.below bD, m0 := (HM2.out 0 (by omega)).went gD, m1 := (HM2.out 1 (by omega)).went gD, m2 := (HM2.out 2 (by omega)).went gD, d := hD, md := hmD, rd := (HM2.out 2 (by omega)).lt, wr := Nat.le_refl _ }
  have HB3 := Lib.hid (blk_at bD HB2.out)
  clear hD hmD bD gD HX2 HM2 HO2 HB2
  refine (on_commit HP2.out.o.o 0 1 (by omega)).mono ?_
  rintro e w3 ⟨rfl, hx, hg⟩
  rw [E1.out]; rw [S1.out] at hx
  have HP3 := Lib.hid (HP2.out.went hx hg)
  have HB4 := Lib.hid (hg.keep HP2.out.o.o HB3.out (by decide) (by decide) (by decide))
  clear hx hg HP2 HB3
  have c0 := (cell_blk HP3.out.d 0).1; have c1 := (cell_blk HP3.out.d 1).1
  go_wp2_with fail
  refine (rcommit_one b _ HB4.out).mono ?_
  rintro e w4 ⟨b2, rfl, hb⟩
  have HP4 := Lib.hid (HP3.out.below hb)
  clear hb c0 c1 HP3 HB4
  have c0 := (cell_blk HP4.out.d 0).1; have c1 := (cell_blk HP4.out.d 1).1; have f0 := (cell_blk HP4.out.d 0).2; have f1 := (cell_blk HP4.out.d 1).2
  go_wp2_with fail
  have HP5 := Lib.hid (HP4.out.setD (q := some ⟨b2, 0, none⟩))
  clear c0 c1 f0 f1 HP4
  refine (on_of HP5.out.o.o 10 n (by omega)).mono ?_
  rintro e w5 ⟨rfl, hb⟩
  rw [T1.out, HV.out]
  have HP6 := Lib.hid (HP5.out.below hb)
  clear hb HP5
  go_upto_region 5 with fail
  have hV := heap_new w5 (.cells #[.pointer (some ⟨A, 0, none⟩), .int .i64 10, .int .i64 (n : Int)] 28)
  have hDV : w2.heap.size < w5.heap.size := HP6.out.md.lt
  have HP7 := Lib.hid (HP6.out.below (bel1 w5 (.cells #[.pointer (some ⟨A, 0, none⟩), .int .i64 10, .int .i64 (n : Int)] 28)))
  obtain ⟨x, hx⟩ : ∃ x, w5.alloc (.cells #[.pointer (some ⟨A, 0, none⟩), .int .i64 10, .int .i64 (n : Int)] 28) = x := ⟨_, rfl⟩
  obtain ⟨V, hVV⟩ : ∃ V, w5.heap.size = V := ⟨_, rfl⟩
  obtain ⟨D, hDD⟩ : ∃ V, w2.heap.size = V := ⟨_, rfl⟩
  obtain ⟨R, hRR⟩ : ∃ V, w.heap.size = V := ⟨_, rfl⟩
  rw [hx] at HP7 hV ⊢
  rw [hVV] at hV hDV ⊢
  rw [hDD] at HP7 hDV ⊢
  rw [hRR] at HP7 ⊢
  have HR := Lib.hid hRR
  clear hx hVV hDD hRR HP6
  have u0 := (cell_blk hV 0).1; have u1 := (cell_blk hV 1).1; have u2 := (cell_blk hV 2).1
  have d0 := (cell_blk HP7.out.d 0).1; have d1 := (cell_blk HP7.out.d 1).1
  have a0 := (cell_blk HP7.out.u.a 0).1; have a1 := (cell_blk HP7.out.u.a 1).1; have a2 := (cell_blk HP7.out.u.a 2).1
  have b0 := (cell_blk HP7.out.u.b 0).1; have b1 := (cell_blk HP7.out.u.b 1).1
  have c0 := (cell_blk HP7.out.u.c 0).1; have c1 := (cell_blk HP7.out.u.c 1).1
  have fa0 := (cell_blk HP7.out.u.a 0).2; have fa1 := (cell_blk HP7.out.u.a 1).2; have fa2 := (cell_blk HP7.out.u.a 2).2
  have fb0 := (cell_blk HP7.out.u.b 0).2; have fb1 := (cell_blk HP7.out.u.b 1).2
  have fc0 := (cell_blk HP7.out.u.c 0).2; have fc1 := (cell_blk HP7.out.u.c 1).2
  have hrd := HP7.out.rd
  have n1 : ¬ D = R := by omega
  have n2 : ¬ D = R + 1 := by omega
  have n3 : ¬ D = R + 1 + 1 := by omega
  have n4 : ¬ V = R := by omega
  have n5 : ¬ V = R + 1 := by omega
  have n6 : ¬ V = R + 1 + 1 := by omega
  clear hrd hDV hV
  go_region
  have hR := HR.out
  have hob := ob_sets [(R, 0, .pointer (some ⟨A, 0, none⟩)), (R, 1, .int .i64 10), (R, 2, .int .i64 (n : Int)), (R + 1, 0, .slice (some ⟨b2, 0, none⟩) 1 1), (R + 1, 1, .int .i64 (-1)), (R + 1 + 1, 0, .int .i64 10), (R + 1 + 1, 1, .int .i64 (n : Int))] x HP7.out.o (by
    intro e he
    simp only [List.mem_cons, List.not_mem_nil, or_false] at he
    rcases he with rfl | rfl | rfl | rfl | rfl | rfl | rfl
    · exact ⟨HP7.out.m0, by show _ ≤ R; omega⟩
    · exact ⟨HP7.out.m0, by show _ ≤ R; omega⟩
    · exact ⟨HP7.out.m0, by show _ ≤ R; omega⟩
    · exact ⟨HP7.out.m1, by show _ ≤ R + 1; omega⟩
    · exact ⟨HP7.out.m1, by show _ ≤ R + 1; omega⟩
    · exact ⟨HP7.out.m2, by show _ ≤ R + 1 + 1; omega⟩
    · exact ⟨HP7.out.m2, by show _ ≤ R + 1 + 1; omega⟩)
  have HOB := Lib.hid (hob.below (Below.refl _ _).drew)
  have y1 := three_set HP7.out.u.a rfl (.pointer (some ⟨A, 0, none⟩)) (.int .i64 10) (.int .i64 (n : Int))
  have y2 := (heap_far3 (x := x) (B := R + 1) (R := R) (by omega) (.pointer (some ⟨A, 0, none⟩)) (.int .i64 10) (.int .i64 (n : Int))).trans HP7.out.u.b
  have y3 := (heap_far3 (x := x) (B := R + 1 + 1) (R := R) (by omega) (.pointer (some ⟨A, 0, none⟩)) (.int .i64 10) (.int .i64 (n : Int))).trans HP7.out.u.c
  obtain ⟨x1, hx1⟩ : ∃ x1, ((x.setCell ⟨R, 0, none⟩ (.pointer (some ⟨A, 0, none⟩))).setCell ⟨R, 1, none⟩ (.int .i64 10)).setCell ⟨R, 2, none⟩ (.int .i64 (n : Int)) = x1 := ⟨_, rfl⟩
  rw [hx1] at y1 y2 y3
  have z1 := (heap_far2 (x := x1) (B := R) (R := R + 1) (by omega) (.slice (some ⟨b2, 0, none⟩) 1 1) (.int .i64 (-1))).trans y1
  have z2 := pair_set y2 rfl (.slice (some ⟨b2, 0, none⟩) 1 1) (.int .i64 (-1))
  have z3 := (heap_far2 (x := x1) (B := R + 1 + 1) (R := R + 1) (by omega) (.slice (some ⟨b2, 0, none⟩) 1 1) (.int .i64 (-1))).trans y3
  obtain ⟨x2, hx2⟩ : ∃ x2, (x1.setCell ⟨R + 1, 0, none⟩ (.slice (some ⟨b2, 0, none⟩) 1 1)).setCell ⟨R + 1, 1, none⟩ (.int .i64 (-1)) = x2 := ⟨_, rfl⟩
  rw [hx2] at z1 z2 z3
  have v1 := (heap_far2 (x := x2) (B := R) (R := R + 1 + 1) (by omega) (.int .i64 10) (.int .i64 (n : Int))).trans z1
  have v2 := (heap_far2 (x := x2) (B := R + 1) (R := R + 1 + 1) (by omega) (.int .i64 10) (.int .i64 (n : Int))).trans z2
  have v3 := pair_set z3 rfl (.int .i64 10) (.int .i64 (n : Int))
  have HX12 := Lib.hid (And.intro hx1 hx2)
  have g0 := (cell_blk v1 0).1; have g1 := (cell_blk v1 1).1; have g2 := (cell_blk v1 2).1; have g3 := (cell_blk v2 0).1; have g4 := (cell_blk v2 1).1; have g5 := (cell_blk v3 0).1; have g6 := (cell_blk v3 1).1
  clear u0 u1 u2 d0 d1 a0 a1 a2 b0 b1 c0 c1 fa0 fa1 fa2 fb0 fb1 fc0 fc1 hob y1 y2 y3 z1 z2 z3 v1 v2 v3
  rw [hx1, hx2]
  clear hx1 hx2
  go_wp2_with fail
  exact bodyPost_ret (v := .tuple #[.pointer (some ⟨A, 0, none⟩), vwV A 10 n, docV (some ⟨b2, 0, none⟩) 1 1 (-1), dvV n, .bool true]) (by simp [results, Tryz.results57, go_sem, g0, g1, g2, g3, g4, g5, g6]) rfl ⟨A, b2, rfl, by have := HOB.out; rw [← HX12.out.2, ← HX12.out.1]; exact this⟩
end Go.Proofs.YtmnhpmgffhpoeaaGreat.Bt
/- The example of layer 5. -/
namespace Go.Proofs.YtmnhpmgffhpoeaaGreat.Bt
open Go Go.RowKit Go.Shelf
set_option linter.unusedVariables false
set_option linter.unusedSimpArgs false

theorem wpList_load_row_if {P : Program} {ops : Array Oper} {rest : List Oper} {o : Oper} {a : Act} {w : World} {Q : Exit → Act → World → Prop} (hw : Region.wanted o (yielded ops a.tmps) = true) (ty : TypeId) (x : Operand) (ho : o.op = .load ty x)
    (g : Nat) (hx : a.eval x = .pointer (some ⟨g, 0, none⟩)) (t : TypeId) (cs : Array Value) (fr : Nat × Nat) (d : TypeDesc) (hg : w.heap[g]? = some (.cells cs t fr))
    (hu : P.underlying ty = some d) (hd : (match d with | .struct _ | .array _ _ => true | _ => false) = true) (hi : (P.info? ty).map (·.size) = some cs.size)
    (h : wpList P ops Q rest (a.put o.dst (.agg cs)) w) : wpList P ops Q (o :: rest) a w :=
  wpList_step fun K hK => by rw [if_pos hw]; exact wp_load_row ty x ho g hx t cs fr d hg hu hd hi (hK _ _ h)
def exF : Nat → Nat := fP [1, 2, 8] 3
theorem ex_ok : okV [1, 2, 8] = .tuple #[.agg (recC 3 exF), .int .i64 0] := rfl
set_option maxRecDepth 100000 in
set_option maxHeartbeats 4000000 in
theorem awake5_calls (w : World) : Calls Tryz.prog 34 #[] w (Gives (.bool true) w) := by
  have HSZ : Hid (∀ f, (Tryz.prog.info? 103).map (·.size) = some (recC 3 f).size) := Lib.hid (fun f => by rw [recC_size]; exact Tryz.infoRec)
  have F1 : Hid (exF 1 = 1 ∧ exF 2 = 3 ∧ atF 3 exF 2 = 3) := Lib.hid (by decide)
  have HX := Lib.hid ex_ok
  go_enter Tryz.func34, Tryz.ntmps34
  go_wp2_with fail
  have hws : WsAt (w.alloc (.cells #[.int .i64 1, .int .i64 2, .int .i64 8] 3)) (some ⟨w.heap.size, 0, none⟩) [1, 2, 8] := by
    refine .inr ⟨w.heap.size, 0, rfl, by simp, fun i hi => ?_⟩
    rw [(cell_blk (heap_new w _) _).1, Nat.zero_add]
    have : i = 0 ∨ i = 1 ∨ i = 2 := by simp at hi; omega
    rcases this with rfl | rfl | rfl <;> rfl
  refine (of_in _ 3 3 [1, 2, 8] rfl (by omega) (by omega) _ hws).mono ?_
  rintro e w1 ⟨rfl, hb⟩
  rw [HX.out]
  have B1 := Lib.hid ((bel1 w (.cells #[.int .i64 1, .int .i64 2, .int .i64 8] 3)).trans (hb.mono (by simp)))
  clear hws hb
  go_upto_region 2 with (refine wpList_store_row rfl 103 (.tmp 1) (.tmp 11) rfl w1.heap.size (recC 3 exF) rfl rfl 103 rec0 (heap_new _ _) (HSZ.out _) (by rw [rec0_size, recC_size]) (rec_one _ _) ?_; simp only [Act.put, List.setIfInBounds_toArray, List.set_cons_zero, List.set_cons_succ])
  obtain ⟨y, hy⟩ : ∃ y, (w1.alloc (.cells rec0 103)).setRow w1.heap.size (recC 3 exF) = y := ⟨_, rfl⟩
  obtain ⟨R1, hR1⟩ : ∃ B, w1.heap.size = B := ⟨_, rfl⟩
  have hv : VR R1 3 exF y := by unfold VR; rw [← hy, ← hR1]; exact setRow_ad (heap_new _ _) _
  have by_ : Below w.heap.size w y := by rw [← hy]; exact below_setRow (B1.out.alloc B1.out.size _) B1.out.size _
  change Code.wp _ _ _ _ ((w1.alloc (.cells rec0 103)).setRow w1.heap.size (recC 3 exF))
  rw [hy, hR1]
  have HV := Lib.hid hv; have BY := Lib.hid by_
  clear hv by_ hy hR1 B1
  go_wp2_with fail
  refine (page_any 20 (by omega) _).mono ?_
  rintro e w2 ⟨A, b, rfl, ho⟩
  have HO2 : Hid (OB A (fullS 1 (fun _ => 0)) w w2) := Lib.hid ⟨ho.o, ho.b.rebase BY.out⟩
  have HV2 := Lib.hid (VR.below HV.out ho.b.bel)
  clear ho HV BY
  go_upto_region 3 with fail
  obtain ⟨q1, q2, q3⟩ := three_new w2 #[.pointer (some ⟨A, 0, none⟩), .int .i64 10, .int .i64 20] #[.slice (some ⟨b, 0, none⟩) 1 1, .int .i64 (-1)] #[.int .i64 10, .int .i64 20] 28 108 110
  have hb3 := (three_blocks w2 #[.pointer (some ⟨A, 0, none⟩), .int .i64 10, .int .i64 20] #[.slice (some ⟨b, 0, none⟩) 1 1, .int .i64 (-1)] #[.int .i64 10, .int .i64 20] 28 108 110).2
  have hrv : RV R1 w2.heap.size 3 exF A 10 20 _ := ⟨HV2.out.below hb3, q1⟩
  have HOx := Lib.hid (HO2.out.below hb3)
  obtain ⟨x, hx⟩ : ∃ x, (((w2.alloc (.cells #[.pointer (some ⟨A, 0, none⟩), .int .i64 10, .int .i64 20] 28)).alloc (.cells #[.slice (some ⟨b, 0, none⟩) 1 1, .int .i64 (-1)] 108)).alloc (.cells #[.int .i64 10, .int .i64 20] 110)) = x := ⟨_, rfl⟩
  obtain ⟨V, hV⟩ : ∃ V, w2.heap.size = V := ⟨_, rfl⟩
  rw [hx] at hrv HOx ⊢
  rw [hV] at hrv ⊢
  have HR := Lib.hid hrv
  clear hx hV q1 q2 q3 hb3 hrv HV2 HO2
  go_wp2_with fail
  refine (awake4 _).mono ?_
  rintro e w3 ⟨rfl, hb⟩
  have HR3 := Lib.hid (HR.out.below hb)
  have HO3 := Lib.hid (HOx.out.below hb)
  clear hb HR HOx
  go_wp2_with (refine wpList_load_row_if rfl 103 (.tmp 1) rfl R1 rfl 103 (recC 3 exF) (0, 0) _ HR3.out.1 Tryz.underlying103 rfl (HSZ.out _) ?_)
  refine (fat_any 3 exF (by omega) 2 _).mono ?_
  rintro e w4 ⟨rfl, hb⟩
  rw [F1.out.2.2]
  have HR4 := Lib.hid (HR3.out.below hb)
  have HO4 := Lib.hid (HO3.out.below hb)
  clear hb HR3 HO3
  have c0 := (cell_blk HR4.out.2 0).1; have c1 := (cell_blk HR4.out.2 1).1; have c2 := (cell_blk HR4.out.2 2).1
  go_wp2_with (refine wpList_load_row_if rfl 103 (.tmp 1) rfl R1 rfl 103 (recC 3 exF) (0, 0) _ HR4.out.1 Tryz.underlying103 rfl (HSZ.out _) ?_)
  refine (fset_long 3 exF 10 20 (by omega) 1 (by omega) (by decide) (by decide) (by decide) 65536 (by omega) (by omega) (by decide)).mono ?_
  rintro e w5 ⟨rfl, hb⟩
  have HR5 := Lib.hid (HR4.out.below hb)
  have HO5 := Lib.hid (HO4.out.below hb)
  clear hb HR4 HO4 c0 c1 c2
  have c0 := (cell_blk HR5.out.2 0).1; have c1 := (cell_blk HR5.out.2 1).1; have c2 := (cell_blk HR5.out.2 2).1
  go_wp2_with (refine wpList_load_row_if rfl 103 (.tmp 1) rfl R1 rfl 103 (recC 3 exF) (0, 0) _ HR5.out.1 Tryz.underlying103 rfl (HSZ.out _) ?_)
  refine (fset_on HO5.out.o 3 exF 10 20 (by omega) (by omega) (by omega) 1 (by omega) (by decide) (by decide) (by decide) 65535 (by omega) (by omega) (by decide)).mono ?_
  rintro e w6 ⟨rfl, hx, hg⟩
  have HF := Lib.hid (HO5.out.b.went hg)
  have hz : numE (fullS 1 (fun _ => 0)).L (fullS 1 (fun _ => 0)).es (addrV 10 20 (exF 1 : Nat) (exF (1 + 1) - exF 1 : Nat)) (exF (1 + 1) - exF 1 : Nat) = 0 := by decide +kernel
  rw [hz]
  clear hx hg c0 c1 c2 HR5 HO5 hz
  go_wp2_with fail
  go_ret
  exact ⟨rfl, HF.out.bel⟩
theorem awake5 (w : World) : Calls Tryz.prog 34 #[] w (TrueAt w) := awake5_calls w
end Go.Proofs.YtmnhpmgffhpoeaaGreat.Bt
/- The contract of a record's Get. -/
namespace Go.Proofs.YtmnhpmgffhpoeaaGreat.Bt
open Go Go.RowKit Go.Shelf
set_option linter.unusedVariables false
set_option linter.unusedSimpArgs false

section
variable {A : Nat} {s : ASt} {w : World}
end
end Go.Proofs.YtmnhpmgffhpoeaaGreat.Bt
/- The contract of a record's Put. -/
namespace Go.Proofs.YtmnhpmgffhpoeaaGreat.Bt
open Go Go.RowKit Go.Shelf
set_option linter.unusedVariables false
set_option linter.unusedSimpArgs false

/-- a slice of numbers of 64 bits -/
def NsAt (w : World) (p : Option Addr) (xs : List Int) : Prop :=
  xs.length = 0 ∨ ∃ b off, p = some ⟨b, off, none⟩ ∧ b < w.heap.size ∧ ∀ i, i < xs.length → w.cell? ⟨b, off + i, none⟩ = some (.int .u64 (xs.getD i 0))
theorem NsAt.below {w w' : World} {p : Option Addr} {ws : List Int} (h : NsAt w p ws) (hb : Below w.heap.size w w') : NsAt w' p ws := by
  rcases h with h | ⟨b, off, rfl, hlt, hc⟩
  · exact .inl h
  · exact .inr ⟨b, off, rfl, Nat.lt_of_lt_of_le hlt hb.size, fun i hi => (hb.cell (p := ⟨b, off + i, none⟩) hlt).trans (hc i hi)⟩
/-- a record as it is told: its fields' places -/
structure Rec (n : Nat) (f : Nat → Nat) : Prop where
  n32 : n ≤ 32
  f0 : f 0 = 0
  mono : ∀ k, k < n → f k ≤ f (k + 1)
  wide : ∀ k, k < n → f (k + 1) - f k ≤ 8
  whole : ∀ k, k < n → wholeB ((f (k + 1) - f k : Nat) : Int) = true
theorem Rec.le {n : Nat} {f : Nat → Nat} (h : Rec n f) {j k : Nat} (hjk : j ≤ k) (hk : k ≤ n) : f j ≤ f k := by
  induction k with
  | zero => obtain rfl : j = 0 := by omega
            exact Nat.le_refl _
  | succ k ih =>
    by_cases e : j = k + 1
    · subst e; exact Nat.le_refl _
    · exact Nat.le_trans (ih (by omega) (by omega)) (h.mono k (by omega))
theorem Rec.small {n : Nat} {f : Nat → Nat} (h : Rec n f) {k : Nat} (hk : k ≤ n) : f k ≤ 8 * k := by
  induction k with
  | zero => rw [h.f0]; omega
  | succ k ih => have := ih (by omega); have := h.wide k (by omega); have := h.mono k (by omega); omega
/-- all numbers laid, one behind the other, from the first one on -/
def putR (m : Nat → UInt8) (an : Nat) (f : Nat → Nat) (xs : List Int) : Nat → (Nat → UInt8)
  | 0 => m
  | j + 1 => putM (putR m an f xs j) (an + f j) (numB (xs.getD j 0) (f (j + 1) - f j))
section
variable {A : Nat} {s : ASt} {w : World}
/-- the first number that has more bytes than its field -/
def allShort (f : Nat → Nat) (xs : List Int) (j : Nat) : Prop := ∀ k, k < j → longB (xs.getD k 0) (f (k + 1) - f k) = false
end
end Go.Proofs.YtmnhpmgffhpoeaaGreat.Bt
/- The contract of a record's Put where it lays. -/
namespace Go.Proofs.YtmnhpmgffhpoeaaGreat.Bt
open Go Go.RowKit Go.Shelf
set_option linter.unusedVariables false
set_option linter.unusedSimpArgs false

/-- what a region of a record and a view holds -/
def RVS (B V n : Nat) (f : Nat → Nat) (A va vs : Nat) (w x : World) : Prop :=
  x.cell? ⟨V, 0, none⟩ = some (.pointer (some ⟨A, 0, none⟩)) ∧ x.cell? ⟨V, 1, none⟩ = some (.int .i64 (va : Int)) ∧ x.cell? ⟨V, 2, none⟩ = some (.int .i64 (vs : Int)) ∧ x.rangeAt B 0 (recC n f).toList ∧ RV B V n f A va vs x ∧ Below w.heap.size w x
theorem rvs_mk {B V n : Nat} {f : Nat → Nat} {A va vs : Nat} {w x : World} (h : RV B V n f A va vs x) (hb : Below w.heap.size w x) : RVS B V n f A va vs w x :=
  ⟨(cell_blk h.2 0).1, (cell_blk h.2 1).1, (cell_blk h.2 2).1, h.1.range, h, hb⟩
theorem rvs_below {B V n : Nat} {f : Nat → Nat} {A va vs : Nat} {w x y : World} (h : RVS B V n f A va vs w x) (hb : Below x.heap.size x y) : RVS B V n f A va vs w y :=
  rvs_mk (h.2.2.2.2.1.below hb) (h.2.2.2.2.2.trans (hb.mono h.2.2.2.2.2.size))
theorem rvs_ne {B V n : Nat} {f : Nat → Nat} {A va vs : Nat} {w x : World} (h : RVS B V n f A va vs w x) : B ≠ x.heap.size ∧ V ≠ x.heap.size := by
  have h1 := (Array.getElem?_eq_some_iff.1 h.2.2.2.2.1.1).1
  have h2 := (Array.getElem?_eq_some_iff.1 h.2.2.2.2.1.2).1
  omega
theorem rvs_far {B V n : Nat} {f : Nat → Nat} {A va vs : Nat} {w x : World} (h : RVS B V n f A va vs w x) {R : Nat} (hne : B ≠ R ∧ V ≠ R) (u v z : Value) (hR : w.heap.size ≤ R) : RVS B V n f A va vs w (((x.setCell ⟨R, 0, none⟩ u).setCell ⟨R, 1, none⟩ v).setCell ⟨R, 2, none⟩ z) :=
  rvs_mk ⟨(heap_far3 hne.1 u v z).trans h.2.2.2.2.1.1, (heap_far3 hne.2 u v z).trans h.2.2.2.2.1.2⟩ (((h.2.2.2.2.2.setCell (p := ⟨R, 0, none⟩) hR u).setCell (p := ⟨R, 1, none⟩) hR v).setCell (p := ⟨R, 2, none⟩) hR z)
section
variable {A : Nat} {s : ASt} {w : World}
end
end Go.Proofs.YtmnhpmgffhpoeaaGreat.Bt
/- The contract of a record's All. -/
namespace Go.Proofs.YtmnhpmgffhpoeaaGreat.Bt
open Go Go.RowKit Go.Shelf
set_option linter.unusedVariables false
set_option linter.unusedSimpArgs false

/-- a row of numbers, of which the first j are told -/
def numC (n : Nat) (vf : Nat → Int) (j : Nat) : Array Value := ((List.range n).map fun k => Value.int .u64 (if k < j then vf k else 0)).toArray
theorem numC_size (n : Nat) (vf : Nat → Int) (j : Nat) : (numC n vf j).size = n := by simp [numC]
theorem numC_get (n : Nat) (vf : Nat → Int) (j k : Nat) (hk : k < n) : (numC n vf j)[k]? = some (.int .u64 (if k < j then vf k else 0)) := by simp [numC, hk]
theorem numC_at (n : Nat) (vf : Nat → Int) (j k : Nat) (hk : k < n) (h : j ≤ k) : (numC n vf j)[k]? = some (.int .u64 0) := by rw [numC_get _ _ _ _ hk, if_neg (by omega)]
theorem numC_step (n : Nat) (vf : Nat → Int) (j : Nat) (hj : j < n) : (numC n vf j).setIfInBounds j (.int .u64 (vf j)) = numC n vf (j + 1) := by
  apply Array.ext_getElem?
  intro k
  by_cases hk : k < n
  · rw [numC_get _ _ _ _ hk, Array.getElem?_setIfInBounds]
    by_cases e : j = k
    · subst e; rw [if_pos rfl, numC_size, if_pos hj, if_pos (by omega)]
    · rw [if_neg e, numC_get _ _ _ _ hk]
      by_cases h : k < j
      · rw [if_pos h, if_pos (by omega)]
      · rw [if_neg h, if_neg (by omega)]
  · rw [Array.getElem?_eq_none (by rw [Array.size_setIfInBounds, numC_size]; omega), Array.getElem?_eq_none (by rw [numC_size]; omega)]
theorem Tryz.infoU64 : (Tryz.prog.info? 37).map (fun i => (i.zero, i.size, i.bytes)) = some (some (.int .u64 0), 1, 8) := by kernel_rfl
theorem made_num (n : Nat) (vf : Nat → Int) : madeCells (Value.int .u64 0).cells (n * 1) = numC n vf 0 := by
  apply Array.ext_getElem?
  intro j
  by_cases hj : j < n
  · rw [numC_get _ _ _ _ hj]; simp [madeCells, hj, Value.cells, Nat.mod_one]
  · rw [Array.getElem?_eq_none (by rw [size_madeCells]; omega), Array.getElem?_eq_none (by rw [numC_size]; omega)]
def allV (s : ASt) (an : Nat) (f : Nat → Nat) (k : Nat) : Int := (numV s.mm (an + f k) (f (k + 1) - f k) : Nat)
def AllPf (n : Nat) (vf : Nat → Int) (w : World) (e : Ending) (w' : World) : Prop :=
  ∃ N, e = .returned (.tuple #[.slice (some ⟨N, 0, none⟩) n n, .int .i64 0]) ∧ w'.heap[N]? = some (.cells (numC n vf n) 37 (0, 0)) ∧ w.heap.size ≤ N ∧ Below w.heap.size w w'
section
variable {A : Nat} {s : ASt} {w : World}
end
end Go.Proofs.YtmnhpmgffhpoeaaGreat.Bt
/- The document's answers on widths. -/
namespace Go.Proofs.YtmnhpmgffhpoeaaGreat.Bt
open Go Go.RowKit Go.Shelf
set_option linter.unusedVariables false
set_option linter.unusedSimpArgs false

def chkV (ws : List Int) : Int := if ws.length = 0 then 17 else if 32 < ws.length then 15 else if ws.all wOk then 0 else 2
theorem all_not {ws : List Int} {j : Nat} (hj : j < ws.length) (h : wOk (ws.getD j 0) = false) : ws.all wOk = false := by
  rw [Bool.eq_false_iff]
  intro hall
  rw [List.all_eq_true] at hall
  have := hall (ws.getD j 0) (by rw [List.getD_eq_getElem?_getD, List.getElem?_eq_getElem hj]; exact List.getElem_mem hj)
  rw [h] at this; cases this
theorem w_bound {ws : List Int} (ha : ws.all wOk = true) {j : Nat} (hj : j < ws.length) : 1 ≤ ws.getD j 0 ∧ ws.getD j 0 ≤ 8 := by
  rw [List.all_eq_true] at ha
  have h2 := ha (ws.getD j 0) (by rw [List.getD_eq_getElem?_getD, List.getElem?_eq_getElem hj]; exact List.getElem_mem hj)
  have h4 : ws.getD j 0 = 1 ∨ ws.getD j 0 = 2 ∨ ws.getD j 0 = 4 ∨ ws.getD j 0 = 8 := by unfold wOk at h2; simpa using h2
  omega
theorem take_all {ws : List Int} (ha : ws.all wOk = true) (j : Nat) : (ws.take j).all wOk = true := by
  rw [List.all_eq_true] at ha ⊢
  exact fun x hx => ha x (List.take_subset _ _ hx)
theorem sum_step {ws : List Int} (ha : ws.all wOk = true) {j : Nat} (hj : j < ws.length) : ((sumW ws (j + 1) : Nat) : Int) = (sumW ws j : Nat) + ws.getD j 0 := by
  have := w_bound ha hj
  rw [sumW_succ ws j hj]; omega
end Go.Proofs.YtmnhpmgffhpoeaaGreat.Bt
/- What is put is told. -/
namespace Go.Proofs.YtmnhpmgffhpoeaaGreat.Bt
open Go Go.RowKit Go.Shelf
set_option linter.unusedVariables false

theorem short_val {x : Int} {W : Nat} (h0 : 0 ≤ x) (h : longB x W = false) : ((x.toNat % 2 ^ (8 * W) : Nat) : Int) = x := by
  unfold longB at h
  have h1 : x / 2 ^ (8 * W) = 0 := by simpa using h
  obtain ⟨n, rfl⟩ : ∃ n : Nat, x = n := ⟨x.toNat, by omega⟩
  rw [Int.toNat_natCast]
  have hp : 0 < 2 ^ (8 * W) := Nat.two_pow_pos _
  have h2 : n / 2 ^ (8 * W) = 0 := by
    have : ((n / 2 ^ (8 * W) : Nat) : Int) = 0 := by rw [← h1]; simp
    omega
  rw [Nat.mod_eq_of_lt ((Nat.div_eq_zero_iff_lt hp).1 h2)]
theorem put_val {n : Nat} {f : Nat → Nat} (hr : Rec n f) (m : Nat → UInt8) (an : Nat) (xs : List Int) : ∀ j, j ≤ n → ∀ k, k < j → numV (putR m an f xs j) (an + f k) (f (k + 1) - f k) = (xs.getD k 0).toNat % 2 ^ (8 * (f (k + 1) - f k)) := by
  intro j
  induction j with
  | zero => intro _ k hk; omega
  | succ j ih =>
    intro hj k hk
    by_cases e : k = j
    · subst e; exact numV_store _ _ _ _
    · rw [← ih (by omega) k (by omega)]
      apply numV_congr
      intro i hi
      show putM (putR m an f xs j) (an + f j) _ _ = _
      have h1 := hr.le (show k + 1 ≤ j by omega) (by omega)
      have h2 := hr.mono k (by omega)
      exact putM_out _ _ _ (.inl (by omega))
theorem rec_fP {ws : List Int} {n : Nat} (hn : n = ws.length) (hl : n ≤ 32) (ha : ws.all wOk = true) : Rec n (fP ws n) := by
  have hf : ∀ k, k ≤ n → fP ws n k = sumW ws k := fun k hk => by unfold fP; rw [if_pos hk]
  have hst : ∀ k, k < n → sumW ws (k + 1) = sumW ws k + (ws.getD k 0).toNat ∧ (ws.getD k 0 = 1 ∨ ws.getD k 0 = 2 ∨ ws.getD k 0 = 4 ∨ ws.getD k 0 = 8) := fun k hk => by
    refine ⟨sumW_succ ws k (by omega), ?_⟩
    rw [List.all_eq_true] at ha
    have h2 := ha (ws.getD k 0) (by rw [List.getD_eq_getElem?_getD, List.getElem?_eq_getElem (by omega)]; exact List.getElem_mem (by omega))
    unfold wOk at h2; simpa using h2
  refine ⟨hl, by rw [hf 0 (by omega)]; rfl, fun k hk => ?_, fun k hk => ?_, fun k hk => ?_⟩
  · rw [hf k (by omega), hf (k + 1) (by omega), (hst k hk).1]; omega
  · rw [hf k (by omega), hf (k + 1) (by omega), (hst k hk).1]; have := (hst k hk).2; omega
  · rw [hf k (by omega), hf (k + 1) (by omega), (hst k hk).1]
    rcases (hst k hk).2 with h | h | h | h <;> rw [h, Nat.add_sub_cancel_left] <;> rfl
end Go.Proofs.YtmnhpmgffhpoeaaGreat.Bt
/- A list of cleanups: the mathematics. -/
namespace Go.Proofs.YtmnhpmgffhpoeaaGreat.Bt
open Go Go.RowKit Go.Shelf
set_option linter.unusedVariables false
set_option linter.unusedSimpArgs false
def F3 : Nat → Nat := fP [8, 1, 1, 8] 4
theorem F3_at : F3 0 = 0 ∧ F3 1 = 8 ∧ F3 2 = 9 ∧ F3 3 = 10 ∧ F3 4 = 18 := by decide
theorem rec3 : Rec 4 F3 := rec_fP rfl (by decide) (by decide)
theorem ok3 : okV [8, 1, 1, 8] = .tuple #[.agg (recC 4 F3), .int .i64 0] := rfl
/-- an entry -/
structure Ent where
  i : Nat
  k : Nat
  l : Nat
  x : Nat
deriving DecidableEq
def Ent.ok (e : Ent) : Prop := e.i < 18446744073709551616 ∧ e.k < 256 ∧ e.l < 256 ∧ e.x < 18446744073709551616
def eZ : Ent := ⟨0, 0, 0, 0⟩
theorem eZ_ok : eZ.ok := by unfold Ent.ok eZ; exact ⟨by decide, by decide, by decide, by decide⟩
def eC (e : Ent) : Array Value := #[.int .u64 (e.i : Int), .int .u8 (e.k : Int), .int .u8 (e.l : Int), .int .u64 (e.x : Int)]
abbrev eV (e : Ent) : Value := .agg #[.int .u64 (e.i : Int), .int .u8 (e.k : Int), .int .u8 (e.l : Int), .int .u64 (e.x : Int)]
def eX (e : Ent) : List Int := [(e.i : Int), (e.k : Int), (e.l : Int), (e.x : Int)]
def rdE (m : Nat → UInt8) (a : Nat) : Ent := ⟨numV m a 8, numV m (a + 8) 1, numV m (a + 9) 1, numV m (a + 10) 8⟩
def laE (m : Nat → UInt8) (a : Nat) (e : Ent) : Nat → UInt8 := putR m a F3 (eX e) 4
theorem rdE_ok (m : Nat → UInt8) (a : Nat) : (rdE m a).ok := by
  have h1 := numV_lt m a 8
  have h2 := numV_lt m (a + 8) 1
  have h3 := numV_lt m (a + 9) 1
  have h4 := numV_lt m (a + 10) 8
  unfold Ent.ok rdE
  exact ⟨by simpa using h1, by simpa using h2, by simpa using h3, by simpa using h4⟩
theorem rdE_congr {m m' : Nat → UInt8} {a : Nat} (h : ∀ j, j < 18 → m (a + j) = m' (a + j)) : rdE m a = rdE m' a := by
  unfold rdE
  rw [numV_congr (m' := m') (a := a) (k := 8) (fun j hj => h j (by omega)), numV_congr (m' := m') (a := a + 8) (k := 1) (fun j hj => by rw [Nat.add_assoc]; exact h _ (by omega)),
    numV_congr (m' := m') (a := a + 9) (k := 1) (fun j hj => by rw [Nat.add_assoc]; exact h _ (by omega)), numV_congr (m' := m') (a := a + 10) (k := 8) (fun j hj => by rw [Nat.add_assoc]; exact h _ (by omega))]
theorem numV_shift {m m' : Nat → UInt8} {a b : Nat} : ∀ k, (∀ j, j < k → m (a + j) = m' (b + j)) → numV m a k = numV m' b k := by
  intro k
  induction k with
  | zero => intro _; rfl
  | succ k ih => intro h; unfold numV; rw [ih (fun j hj => h j (by omega)), h k (by omega)]
theorem rdE_shift {m m' : Nat → UInt8} {a b : Nat} (h : ∀ j, j < 18 → m (a + j) = m' (b + j)) : rdE m a = rdE m' b := by
  unfold rdE
  rw [numV_shift (m' := m') (a := a) (b := b) 8 (fun j hj => h j (by omega)), numV_shift (m' := m') (a := a + 8) (b := b + 8) 1 (fun j hj => by rw [Nat.add_assoc, Nat.add_assoc]; exact h _ (by omega)),
    numV_shift (m' := m') (a := a + 9) (b := b + 9) 1 (fun j hj => by rw [Nat.add_assoc, Nat.add_assoc]; exact h _ (by omega)), numV_shift (m' := m') (a := a + 10) (b := b + 10) 8 (fun j hj => by rw [Nat.add_assoc, Nat.add_assoc]; exact h _ (by omega))]
theorem laE_out (m : Nat → UInt8) (a : Nat) (e : Ent) (i : Nat) (h : i < a ∨ a + 18 ≤ i) : laE m a e i = m i := by
  have hF := F3_at
  unfold laE
  have key : ∀ j, j ≤ 4 → putR m a F3 (eX e) j i = m i := by
    intro j
    induction j with
    | zero => intro _; rfl
    | succ j ih =>
      intro hj
      show putM (putR m a F3 (eX e) j) (a + F3 j) (numB ((eX e).getD j 0) (F3 (j + 1) - F3 j)) i = m i
      have : j = 0 ∨ j = 1 ∨ j = 2 ∨ j = 3 := by omega
      rw [putM_out _ _ _ (by rw [numB_length]; rcases this with rfl | rfl | rfl | rfl <;> simp only [hF.1, hF.2.1, hF.2.2.1, hF.2.2.2.1, hF.2.2.2.2, Nat.zero_add] <;> omega)]
      exact ih (by omega)
  exact key 4 (Nat.le_refl _)
theorem rd_la (m : Nat → UInt8) (a : Nat) (e : Ent) (he : e.ok) : rdE (laE m a e) a = e := by
  obtain ⟨h0, h1, h2, h3, h4⟩ := F3_at
  have g := fun k hk => put_val rec3 m a (eX e) 4 (Nat.le_refl _) k hk
  have g0 := g 0 (by omega); have g1 := g 1 (by omega); have g2 := g 2 (by omega); have g3 := g 3 (by omega)
  simp only [h0, h1, h2, h3, h4, Nat.reduceAdd, Nat.reduceSub, Nat.add_zero] at g0 g1 g2 g3
  obtain ⟨b0, b1, b2, b3⟩ := he
  obtain ⟨i, k, l, x⟩ := e
  unfold rdE laE
  rw [g0, g1, g2, g3]
  simp only [eX, List.getD_cons_zero, List.getD_cons_succ, Int.toNat_natCast, Nat.reduceMul, Nat.reducePow]
  rw [Nat.mod_eq_of_lt b0, Nat.mod_eq_of_lt b1, Nat.mod_eq_of_lt b2, Nat.mod_eq_of_lt b3]
/-- the entries of a list of n slots, from 40 on -/
structure Ls (m : Nat → UInt8) (n : Nat) (L : List Ent) : Prop where
  len : L.length ≤ n
  rd : ∀ j e, L[j]? = some e → rdE m (40 + 24 * j) = e ∧ 0 < e.i
  fin : ∀ j, L.length ≤ j → j < n → rdE m (40 + 24 * j) = eZ
theorem Ls.ok {m : Nat → UInt8} {n : Nat} {L : List Ent} (h : Ls m n L) {j : Nat} {e : Ent} (he : L[j]? = some e) : e.ok := by
  rw [← (h.rd j e he).1]; exact rdE_ok _ _
theorem rdE_zero {m : Nat → UInt8} {a : Nat} (h : ∀ j, j < 18 → m (a + j) = 0) : rdE m a = eZ := by
  rw [rdE_congr (m' := fun _ => 0) h]
  have z : ∀ a k, numV (fun _ => 0) a k = 0 := fun a k => by
    induction k with
    | zero => rfl
    | succ k ih => unfold numV; rw [ih]; simp
  unfold rdE; rw [z, z, z, z]; rfl
theorem Ls.new (n : Nat) : Ls (fun _ => 0) n [] := ⟨Nat.zero_le _, fun j e h => by simp at h, fun j _ _ => rdE_zero fun _ _ => rfl⟩
theorem Ls.add {m : Nat → UInt8} {n : Nat} {L : List Ent} (h : Ls m n L) (hl : L.length < n) (e : Ent) (he : e.ok) (hp : 0 < e.i) : Ls (laE m (40 + 24 * L.length) e) n (L ++ [e]) := by
  refine ⟨by simp; omega, fun j x hj => ?_, fun j h1 h2 => ?_⟩
  · by_cases c : j < L.length
    · rw [List.getElem?_append_left c] at hj
      rw [rdE_congr (m' := m) (fun k hk => laE_out _ _ _ _ (.inl (by omega)))]
      exact h.rd j x hj
    · rw [List.getElem?_append_right (by omega)] at hj
      have : j - L.length = 0 := by
        by_cases z : j - L.length = 0
        · exact z
        · rw [List.getElem?_eq_none (by simp; omega)] at hj; cases hj
      rw [this] at hj
      have hx : e = x := by simpa using hj
      obtain rfl : j = L.length := by omega
      rw [← hx]
      exact ⟨rd_la _ _ _ he, hp⟩
  · simp at h1
    rw [rdE_congr (m' := m) (fun k hk => laE_out _ _ _ _ (.inr (by omega)))]
    exact h.fin j (by omega) h2
/-- one of len entries goes -/
def mvE (m : Nat → UInt8) (i len : Nat) : Nat → UInt8 := putM m (40 + 24 * i) (getM m (40 + 24 * (i + 1)) (24 * (len - 1 - i)))
def rmE (m : Nat → UInt8) (i len : Nat) : Nat → UInt8 := putM (mvE m i len) (40 + 24 * (len - 1)) (List.replicate 24 0)
theorem rmE_low (m : Nat → UInt8) (i len b : Nat) (hi : i < len) (h : b < 40 + 24 * i) : rmE m i len b = m b := by
  unfold rmE mvE
  rw [putM_out _ _ _ (by simp; omega), putM_out _ _ _ (by rw [getM_length]; omega)]
theorem rmE_high (m : Nat → UInt8) (i len b : Nat) (hi : i < len) (h : 40 + 24 * len ≤ b) : rmE m i len b = m b := by
  unfold rmE mvE
  rw [putM_out _ _ _ (by simp; omega), putM_out _ _ _ (by rw [getM_length]; omega)]
theorem rmE_mid (m : Nat → UInt8) (i len b : Nat) (hi : i < len) (h : 40 + 24 * i ≤ b) (h2 : b < 40 + 24 * (len - 1)) : rmE m i len b = m (b + 24) := by
  unfold rmE mvE
  rw [putM_out _ _ _ (by simp; omega)]
  obtain ⟨c, rfl⟩ : ∃ c, b = 40 + 24 * i + c := ⟨b - (40 + 24 * i), by omega⟩
  rw [putM_in _ _ _ (by rw [getM_length]; omega), getM_get _ _ _ _ (by omega)]
  congr 1; omega
theorem rmE_last (m : Nat → UInt8) (i len b : Nat) (hi : i < len) (h : 40 + 24 * (len - 1) ≤ b) (h2 : b < 40 + 24 * len) : rmE m i len b = 0 := by
  unfold rmE
  obtain ⟨c, rfl⟩ : ∃ c, b = 40 + 24 * (len - 1) + c := ⟨b - (40 + 24 * (len - 1)), by omega⟩
  rw [putM_in _ _ _ (by simp; omega), List.getD_eq_getElem?_getD, List.getElem?_replicate, if_pos (by omega)]; rfl
theorem Ls.remove {m : Nat → UInt8} {n : Nat} {L : List Ent} (h : Ls m n L) (i : Nat) (hi : i < L.length) : Ls (rmE m i L.length) n (L.eraseIdx i) := by
  have hle := h.len
  have hel : (L.eraseIdx i).length = L.length - 1 := by rw [List.length_eraseIdx, if_pos hi]
  refine ⟨by omega, fun j x hj => ?_, fun j h1 h2 => ?_⟩
  · have hjl := (List.getElem?_eq_some_iff.1 hj).1
    rw [List.getElem?_eraseIdx] at hj
    by_cases c : j < i
    · rw [if_pos c] at hj
      rw [rdE_congr (m' := m) (fun k hk => rmE_low _ _ _ _ hi (by omega))]
      exact h.rd j x hj
    · rw [if_neg c] at hj
      rw [rdE_shift (m' := m) (b := 40 + 24 * (j + 1)) (fun k hk => by rw [rmE_mid _ _ _ _ hi (by omega) (by omega)]; congr 1; omega)]
      exact h.rd (j + 1) x hj
  · by_cases c : j = L.length - 1
    · exact rdE_zero fun k hk => rmE_last _ _ _ _ hi (by omega) (by omega)
    · rw [rdE_congr (m' := m) (fun k hk => rmE_high _ _ _ _ hi (by omega))]
      exact h.fin j (by omega) h2
/-- where an ID is -/
def ixE (L : List Ent) (id : Nat) : Nat := L.findIdx fun e => e.i == id
theorem ixE_le (L : List Ent) (id : Nat) : ixE L id ≤ L.length := List.findIdx_le_length
theorem ixE_at {L : List Ent} {id k : Nat} {e : Ent} (hk : L[k]? = some e) (hle : k ≤ ixE L id) (h : e.i = id) : ixE L id = k := by
  have hlt := (List.getElem?_eq_some_iff.1 hk).1
  have he := (List.getElem?_eq_some_iff.1 hk).2
  rcases Nat.lt_or_ge k (ixE L id) with c | c
  · have := List.not_of_lt_findIdx c
    simp at this
    rw [he] at this
    exact absurd h this
  · omega
theorem ixE_get {L : List Ent} {id : Nat} (h : ixE L id < L.length) : (L[ixE L id]'h).i = id := by
  have h2 := List.findIdx_getElem (p := fun e : Ent => e.i == id) (xs := L) (w := h)
  exact beq_iff_eq.1 h2
theorem ixE_next {L : List Ent} {id k : Nat} {e : Ent} (hk : L[k]? = some e) (hle : k ≤ ixE L id) (h : e.i ≠ id) : k + 1 ≤ ixE L id := by
  rcases Nat.lt_or_ge k (ixE L id) with c | c
  · exact c
  · have he : ixE L id = k := by omega
    have hlt := (List.getElem?_eq_some_iff.1 hk).1
    have h2 := ixE_get (L := L) (id := id) (by omega)
    simp only [he] at h2
    rw [(List.getElem?_eq_some_iff.1 hk).2] at h2
    exact absurd h2 h
def ixV (L : List Ent) (id : Nat) : Int := if ixE L id < L.length then (ixE L id : Int) else -1
/-- no ID twice -/
def Uq (L : List Ent) : Prop := (L.map Ent.i).Nodup
theorem Uq.at {L : List Ent} (h : Uq L) {j : Nat} {e : Ent} (hj : L[j]? = some e) : ixE L e.i = j := by
  have hlt := (List.getElem?_eq_some_iff.1 hj).1
  have he := (List.getElem?_eq_some_iff.1 hj).2
  have h1 : ixE L e.i < L.length := by
    unfold ixE
    rw [List.findIdx_lt_length]
    exact ⟨e, List.mem_of_getElem? hj, by simp⟩
  have h2 := ixE_get h1
  unfold Uq at h
  unfold List.Nodup at h
  rw [List.pairwise_iff_getElem] at h
  rcases Nat.lt_trichotomy (ixE L e.i) j with c | c | c
  · exact absurd (show (L.map Ent.i)[ixE L e.i]'(by simpa using h1) = (L.map Ent.i)[j]'(by simpa using hlt) by simp [h2, he]) (h (ixE L e.i) j (by simpa using h1) (by simpa using hlt) c)
  · exact c
  · exact absurd (show (L.map Ent.i)[j]'(by simpa using hlt) = (L.map Ent.i)[ixE L e.i]'(by simpa using h1) by simp [h2, he]) (h j (ixE L e.i) (by simpa using hlt) (by simpa using h1) c)
theorem Uq.erase {L : List Ent} (h : Uq L) (i : Nat) : Uq (L.eraseIdx i) := by
  unfold Uq at *
  exact h.sublist ((List.eraseIdx_sublist L i).map _)
theorem Uq.add {L : List Ent} (h : Uq L) (e : Ent) (he : ixE L e.i = L.length) : Uq (L ++ [e]) := by
  unfold Uq at *
  rw [List.map_append, List.nodup_append]
  refine ⟨h, by simp, fun a ha b hb => ?_⟩
  simp at hb
  subst hb
  intro e1
  obtain ⟨y, hy, rfl⟩ := List.mem_map.1 ha
  have : ixE L e.i < L.length := by
    unfold ixE
    rw [List.findIdx_lt_length]
    exact ⟨y, hy, by simp [e1]⟩
  omega
end Go.Proofs.YtmnhpmgffhpoeaaGreat.Bt
/- The plain mathematics of a list in memory: its links, what is found, members more and less. -/
namespace Go.Proofs.YtmnhpmgffhpoeaaGreat.Bt
open Go Go.RowKit Go.Shelf
set_option linter.unusedVariables false

/-- a number of 8 bytes laid -/
def put8 (m : Nat → UInt8) (a : Nat) (v : Nat) : Nat → UInt8 := putM m a (numB (v : Int) 8)
theorem put8_same (m : Nat → UInt8) (a v : Nat) (hv : v < 18446744073709551616) : numV (put8 m a v) a 8 = v := by
  unfold put8
  rw [numV_store, Int.toNat_natCast]
  exact Nat.mod_eq_of_lt (by rw [show 8 * 8 = 64 from rfl]; exact hv)
theorem put8_far (m : Nat → UInt8) {a c : Nat} (v : Nat) (h : a + 8 ≤ c ∨ c + 8 ≤ a) : numV (put8 m a v) c 8 = numV m c 8 :=
  numV_congr fun j hj => putM_out _ _ _ (by rw [numB_length]; omega)
/-- the members behind a link -/
def Ch (L : Nat) (es : List Nat) (mm : Nat → UInt8) : Nat → Nat → List Nat → Prop
  | h, _, [] => thereE L es h 8 = 0 ∧ numV mm h 8 = 0
  | h, b, m :: t => thereE L es h 8 = 0 ∧ numV mm h 8 = m ∧ b < m ∧ thereE L es m 16 = 0 ∧ Ch L es mm m m t
/-- no two of them lie over one another -/
def Apart (l : List Nat) : Prop := l.Pairwise fun a b => a + 8 ≤ b ∨ b + 8 ≤ a
/-- the links, and where each leads to -/
def prs : Nat → Nat → List Nat → List (Nat × Nat × Nat)
  | h, z, [] => [(h, z, 0)]
  | h, z, m :: t => (h, z, m) :: prs m 16 t
def fnd : Nat → Nat → List Nat → Int → Nat × Nat × Nat
  | h, z, [], _ => (h, z, 0)
  | h, z, m :: t, f => if f ≤ m then (h, z, m) else fnd m 16 t f
def ins (x : Nat) : List Nat → List Nat
  | [] => [x]
  | m :: t => if x ≤ m then x :: m :: t else m :: ins x t
theorem there_is {L : Nat} {es : List Nat} {a k : Int} (h : thereE L es a k = 0) : thereB L es a k = true := by
  unfold thereE at h; cases hq : thereB L es a k with
  | true => rfl
  | false => rw [hq] at h; cases h
theorem there_lt {L : Nat} {es : List Nat} (g : Good L es) {a : Nat} {k : Int} (h : thereE L es a k = 0) : (a : Int) + k ≤ 4294967296 := by
  have h1 := (there_iff g a k).1 (there_is h)
  have := g.small
  omega
theorem there_sub {L : Nat} {es : List Nat} (g : Good L es) {a : Nat} {k j : Int} (h : thereE L es a k = 0) (h0 : 0 ≤ j) (hj : j ≤ k) : thereE L es a j = 0 := by
  have h1 := (there_iff g a k).1 (there_is h)
  unfold thereE
  rw [if_pos]
  exact (there_iff g a j).2 ⟨h1.1, by omega, by omega, fun i h2 h3 => h1.2.2.2 i h2 (by omega)⟩
section
variable {L : Nat} {es : List Nat} {mm mm' : Nat → UInt8}
theorem Ch.there : ∀ {h b : Nat} {ms : List Nat}, Ch L es mm h b ms → thereE L es h 8 = 0
  | _, _, [], k => k.1
  | _, _, _ :: _, k => k.1
theorem Ch.far (e : ∀ c, c ∈ ([] : List Nat) → True) : ∀ {h b : Nat} {ms : List Nat}, Ch L es mm h b ms → (∀ c ∈ h :: ms, numV mm' c 8 = numV mm c 8) → Ch L es mm' h b ms
  | h, b, [], k, f => ⟨k.1, (f h (by simp)).trans k.2⟩
  | h, b, m :: t, k, f => ⟨k.1, (f h (by simp)).trans k.2.1, k.2.2.1, k.2.2.2.1, Ch.far e k.2.2.2.2 fun c hc => f c (List.mem_cons_of_mem _ hc)⟩
theorem Ch.keep {h b : Nat} {ms : List Nat} (k : Ch L es mm h b ms) (f : ∀ c ∈ h :: ms, numV mm' c 8 = numV mm c 8) : Ch L es mm' h b ms := Ch.far (fun _ h => by cases h) k f
theorem Ch.gt : ∀ {h b : Nat} {ms : List Nat}, Ch L es mm h b ms → ∀ c ∈ ms, b < c
  | _, _, [], _, c, hc => by cases hc
  | _, _, m :: t, k, c, hc => by
    rcases List.mem_cons.1 hc with rfl | hc
    · exact k.2.2.1
    · exact Nat.lt_trans k.2.2.1 (Ch.gt k.2.2.2.2 c hc)
theorem Ch.mems : ∀ {h b : Nat} {ms : List Nat}, Ch L es mm h b ms → ∀ c ∈ ms, thereE L es c 16 = 0
  | _, _, [], _, c, hc => by cases hc
  | _, _, m :: t, k, c, hc => by
    rcases List.mem_cons.1 hc with rfl | hc
    · exact k.2.2.2.1
    · exact Ch.mems k.2.2.2.2 c hc
theorem Ch.sorted : ∀ {h b : Nat} {ms : List Nat}, Ch L es mm h b ms → ms.Pairwise (· < ·)
  | _, _, [], _ => .nil
  | _, _, m :: t, k => .cons (Ch.gt k.2.2.2.2) (Ch.sorted k.2.2.2.2)
theorem Ch.lt (g : Good L es) {h b : Nat} {ms : List Nat} (k : Ch L es mm h b ms) : ∀ c ∈ ms, c + 16 ≤ 4294967296 := fun c hc => by have := there_lt g (k.mems c hc); omega
/-- the list and the memory fix the members -/
theorem Ch.unique : ∀ {h b : Nat} {ms ns : List Nat}, Ch L es mm h b ms → Ch L es mm h b ns → ms = ns
  | _, _, [], [], _, _ => rfl
  | _, _, [], n :: _, k, j => by have := k.2.symm.trans j.2.1; have := j.2.2.1; omega
  | _, _, m :: _, [], k, j => by have := j.2.symm.trans k.2.1; have := k.2.2.1; omega
  | _, _, m :: t, n :: u, k, j => by
    obtain rfl : m = n := k.2.1.symm.trans j.2.1
    rw [Ch.unique k.2.2.2.2 j.2.2.2.2]
theorem fnd_mem : ∀ (h z : Nat) (ms : List Nat) (f : Int), (fnd h z ms f).1 ∈ h :: ms
  | h, z, [], f => by simp [fnd]
  | h, z, m :: t, f => by
    unfold fnd
    split
    · simp
    · exact List.mem_cons_of_mem _ (fnd_mem m 16 t f)
theorem fnd_size : ∀ (h z : Nat) (ms : List Nat) (f : Int), (fnd h z ms f).2.1 = z ∨ (fnd h z ms f).2.1 = 16
  | h, z, [], f => by simp [fnd]
  | h, z, m :: t, f => by
    unfold fnd
    split
    · exact .inl rfl
    · exact .inr ((fnd_size m 16 t f).elim id id)
theorem fnd_there (g : Good L es) : ∀ {h b : Nat} {ms : List Nat}, Ch L es mm h b ms → ∀ (z : Nat) (f : Int), thereE L es (fnd h z ms f).1 8 = 0 := fun {h b ms} k z f => by
  rcases List.mem_cons.1 (fnd_mem h z ms f) with e | e
  · rw [e]; exact k.there
  · exact there_sub g (k.mems _ e) (by omega) (by omega)
/-- what is found: 0, or a member not below -/
theorem fnd_val : ∀ (h z : Nat) (ms : List Nat) (f : Int), (fnd h z ms f).2.2 = 0 ∧ (∀ c ∈ ms, (c : Int) < f) ∨ ((fnd h z ms f).2.2 ∈ ms ∧ f ≤ ((fnd h z ms f).2.2 : Int))
  | h, z, [], f => by simp [fnd]
  | h, z, m :: t, f => by
    unfold fnd
    split
    · rename_i hf; exact .inr ⟨by simp, hf⟩
    · rename_i hf
      rcases fnd_val m 16 t f with ⟨e, k⟩ | ⟨e, k⟩
      · refine .inl ⟨e, fun c hc => ?_⟩
        rcases List.mem_cons.1 hc with rfl | hc
        · omega
        · exact k c hc
      · exact .inr ⟨List.mem_cons_of_mem _ e, k⟩
/-- a member's number is found just if it is one -/
theorem fnd_is {h b : Nat} {ms : List Nat} (k : Ch L es mm h b ms) (z : Nat) (x : Nat) (hx : 0 < x) : (fnd h z ms x).2.2 = x ↔ x ∈ ms := by
  constructor
  · intro e
    rcases fnd_val h z ms x with ⟨e2, _⟩ | ⟨e2, _⟩
    · omega
    · rw [e] at e2; exact e2
  · clear hx
    induction ms generalizing h b z with
    | nil => intro h; cases h
    | cons m t ih =>
      intro hm
      unfold fnd
      rcases List.mem_cons.1 hm with rfl | hm
      · rw [if_pos (Int.le_refl _)]
      · have := Ch.gt k.2.2.2.2 x hm
        rw [if_neg (by omega)]
        exact ih k.2.2.2.2 16 hm
theorem add_ch (g : Good L es) {x : Nat} (hx : thereE L es x 16 = 0) : ∀ {h b : Nat} {ms : List Nat} (z : Nat), Ch L es mm h b ms → b < x → x ∉ ms → Apart (h :: ms) → (∀ c ∈ h :: ms, x + 8 ≤ c ∨ c + 8 ≤ x) →
    Ch L es (put8 (put8 mm x (fnd h z ms x).2.2) (fnd h z ms x).1 x) h b (ins x ms)
  | h, b, [], z, k, hb, hn, ha, hf => by
    have hlt := there_lt g hx
    have h1 := hf h (by simp)
    show Ch L es (put8 (put8 mm x 0) h x) h b [x]
    refine ⟨k.1, put8_same _ _ _ (by omega), hb, hx, there_sub g hx (by omega) (by omega), ?_⟩
    rw [put8_far _ _ (by omega)]
    exact put8_same _ _ _ (by omega)
  | h, b, m :: t, z, k, hb, hn, ha, hf => by
    have hlt := there_lt g hx
    have h1 := hf h (by simp)
    have h2 := hf m (by simp)
    have hlm := there_lt g k.2.2.2.1
    have hc := List.pairwise_cons.1 ha
    have hne : x ≠ m := fun e => hn (by simp [e])
    unfold fnd ins
    by_cases hxm : x ≤ m
    · rw [if_pos (by omega), if_pos hxm]
      refine ⟨k.1, put8_same _ _ _ (by omega), hb, hx, there_sub g hx (by omega) (by omega), ?_, by omega, k.2.2.2.1, ?_⟩
      · rw [put8_far _ _ (show h + 8 ≤ x ∨ x + 8 ≤ h by omega)]; exact put8_same _ _ _ (show m < _ by omega)
      · refine k.2.2.2.2.keep fun c hcm => ?_
        have h3 := hc.1 c hcm
        have h4 := hf c (List.mem_cons_of_mem _ hcm)
        rw [put8_far _ _ (by omega), put8_far _ _ (by omega)]
    · rw [if_neg (by omega), if_neg hxm]
      have ih := add_ch g hx 16 k.2.2.2.2 (by omega) (fun e => hn (List.mem_cons_of_mem _ e)) hc.2 (fun c hcm => hf c (List.mem_cons_of_mem _ hcm))
      have h3 := hc.1 _ (fnd_mem m 16 t x)
      refine ⟨k.1, ?_, k.2.2.1, k.2.2.2.1, ih⟩
      rw [put8_far _ _ (by omega), put8_far _ _ (by omega)]
      exact k.2.1
/-- where a link leads to -/
def nxt (mm : Nat → UInt8) (a : Nat) : Nat := numV mm a 8
theorem del_ch (g : Good L es) {x : Nat} : ∀ {h b : Nat} {ms : List Nat} (z : Nat), Ch L es mm h b ms → x ∈ ms → Apart (h :: ms) →
    Ch L es (put8 mm (fnd h z ms x).1 (nxt mm x)) h b (ms.erase x)
  | h, b, [], z, k, hm, ha => by cases hm
  | h, b, m :: t, z, k, hm, ha => by
    have hc := List.pairwise_cons.1 ha
    have hlm := there_lt g k.2.2.2.1
    unfold fnd
    by_cases hxm : x ≤ m
    · have e : x = m := by
        rcases List.mem_cons.1 hm with e | e
        · exact e
        · have := Ch.gt k.2.2.2.2 x e; omega
      subst e
      rw [if_pos (by omega), List.erase_cons_head]
      cases t with
      | nil =>
        refine ⟨k.1, ?_⟩
        unfold nxt
        rw [k.2.2.2.2.2]; exact put8_same _ _ _ (by omega)
      | cons m2 t2 =>
        have k2 := k.2.2.2.2
        have hl2 := there_lt g k2.2.2.2.1
        refine ⟨k.1, ?_, ?_, k2.2.2.2.1, k2.2.2.2.2.keep fun c hcm => ?_⟩
        · unfold nxt
          rw [k2.2.1]; exact put8_same _ _ _ (by omega)
        · have := k.2.2.1; have := k2.2.2.1; omega
        · have h3 := hc.1 c (List.mem_cons_of_mem _ hcm)
          rw [put8_far _ _ (by omega)]
    · have hne : x ≠ m := by omega
      have hmt : x ∈ t := by
        rcases List.mem_cons.1 hm with e | e
        · exact absurd e hne
        · exact e
      rw [if_neg (by omega), List.erase_cons_tail (by simpa using fun e => hne e.symm)]
      have h3 := hc.1 _ (fnd_mem m 16 t x)
      refine ⟨k.1, ?_, k.2.2.1, k.2.2.2.1, del_ch g 16 k.2.2.2.2 hmt hc.2⟩
      rw [put8_far _ _ (by omega)]
      exact k.2.1
theorem ins_mem (x c : Nat) : ∀ ms : List Nat, c ∈ ins x ms ↔ c = x ∨ c ∈ ms
  | [] => by simp [ins]
  | m :: t => by
    unfold ins
    split
    · simp
    · rw [List.mem_cons, ins_mem x c t, List.mem_cons]
      constructor
      · rintro (h | h | h)
        · exact .inr (.inl h)
        · exact .inl h
        · exact .inr (.inr h)
      · rintro (h | h | h)
        · exact .inr (.inl h)
        · exact .inl h
        · exact .inr (.inr h)
theorem ins_length (x : Nat) : ∀ ms : List Nat, (ins x ms).length = ms.length + 1
  | [] => rfl
  | m :: t => by
    unfold ins
    split
    · rfl
    · rw [List.length_cons, ins_length x t, List.length_cons]
end
end Go.Proofs.YtmnhpmgffhpoeaaGreat.Bt
