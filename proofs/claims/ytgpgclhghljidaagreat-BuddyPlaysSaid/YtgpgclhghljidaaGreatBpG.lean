/- Several texts in one: BsD; BsE; BsF; BwO; LsH. -/
import Derived.Test.YtgpgclhghljidaaGreatBpF
import Derived.Test.YtgpgclhghljidaaGreatBpE
import Derived.Deep.DeepCutAuto
import Derived.Test.YtgpgclhghljidaaGreatBpD
/- The document's Shrink of a buddy. -/
namespace Go.Proofs.YtgpgclhghljidaaGreat.Bt
open Go Go.RowKit Go.Shelf
set_option linter.unusedVariables false
set_option linter.unusedSimpArgs false
theorem tkT_same {R R1 : Runs} {g g1 x y : Nat} (h : Til g R x) (h1 : Til g1 R1 y) (t : TkSame R R1) : tkT R1 g1 = tkT R g := by
  unfold tkT
  rw [tkL_same (S := R) (f := g) fun i k => ⟨fun q => ⟨h.lt ((t i k).1 q.2), (t i k).1 q.2⟩, fun q => ⟨h1.lt ((t i k).2 q.2), (t i k).2 q.2⟩⟩]
def muD (D : Nat) (x : World) : Nat := match x.cell? ⟨D, 2, none⟩ with
  | some (.int _ v) => v.toNat
  | _ => 0
abbrev bqA (o q g r : Int) (T : Value) : Array Value := #[.int .i64 o, .int .i64 q, .int .i64 g, .int .i64 r, T]
def BqAt (D : Nat) (o q g r : Int) (T : Value) (x : World) : Prop := x.heap[D]? = some (.cells (bqA o q g r T) 33 (0, 0))
theorem BqAt.below {D : Nat} {o q g r : Int} {T : Value} {x y : World} (h : BqAt D o q g r T x) (hb : Below x.heap.size x y) : BqAt D o q g r T y := (hb.block _ (Array.getElem?_eq_some_iff.1 h).1).trans h
theorem BqAt.lt {D : Nat} {o q g r : Int} {T : Value} {x : World} (h : BqAt D o q g r T x) : D < x.heap.size := (Array.getElem?_eq_some_iff.1 h).1
theorem BqAt.all {D : Nat} {o q g r : Int} {T : Value} {x : World} (h : BqAt D o q g r T x) :
    x.cell? ⟨D, 0, none⟩ = some (.int .i64 o) ∧ x.cell? ⟨D, 1, none⟩ = some (.int .i64 q) ∧ x.cell? ⟨D, 2, none⟩ = some (.int .i64 g) ∧ x.cell? ⟨D, 3, none⟩ = some (.int .i64 r) ∧ x.cell? ⟨D, 4, none⟩ = some T := by
  refine ⟨?_, ?_, ?_, ?_, ?_⟩ <;> (rw [(cell_blk h _).1]; rfl)
theorem BqAt.free {D : Nat} {o q g r : Int} {T : Value} {x : World} (h : BqAt D o q g r T x) :
    x.frozen? ⟨D, 0, none⟩ = false ∧ x.frozen? ⟨D, 1, none⟩ = false ∧ x.frozen? ⟨D, 2, none⟩ = false ∧ x.frozen? ⟨D, 3, none⟩ = false ∧ x.frozen? ⟨D, 4, none⟩ = false :=
  ⟨(cell_blk h 0).2, (cell_blk h 1).2, (cell_blk h 2).2, (cell_blk h 3).2, (cell_blk h 4).2⟩
theorem BqAt.grow {D : Nat} {o q g r : Int} {T : Value} {x : World} (h : BqAt D o q g r T x) (e : Int) : BqAt D o q e r T (x.setCell ⟨D, 2, none⟩ (.int .i64 e)) := heap_set (o := 2) h (.int .i64 e)
theorem BqAt.far {D E : Nat} {o q g r : Int} {T : Value} {x : World} (h : BqAt D o q g r T x) (hne : D ≠ E) (k : Nat) (v : Value) : BqAt D o q g r T (x.setCell ⟨E, k, none⟩ v) := (Below.heap_setCell _ ⟨E, k, none⟩ _ _ hne).trans h
theorem RnAt.set1 {x : World} {u : Option Addr} {L : List (Nat × Nat × Bool)} (h : RnAt x u L) {E : Nat} (hne : ∀ j, u = some ⟨j, 0, none⟩ → j ≠ E) (k : Nat) (v : Value) : RnAt (x.setCell ⟨E, k, none⟩ v) u L :=
  h.far (by simp [World.setCell]) fun g hg => Below.heap_setCell _ ⟨E, k, none⟩ _ _ (hne g hg)
/-- a loop's state -/
structure SK (D E : Nat) (o q r : Int) (p : Option Addr) (m tc : Nat) (R0 : Runs) (g0 : Nat) (w : World) (e1 : Nat) (R : Runs) (v : Value) (x : World) : Prop where
  d : BqAt D o q (e1 : Int) r (.slice p m tc) x
  e : BqAt E 0 0 0 0 (.slice none 0 0) x
  r : RnAt x p (tkT R0 g0)
  ti : Til e1 R e1
  tk : TkSame R0 R
  le : e1 ≤ g0
  be : Below w.heap.size w x
  v : ∃ u cap, v = .slice u (runL R e1).length cap ∧ RnAt x u (runL R e1) ∧ (∀ j, u = some ⟨j, 0, none⟩ → E < j)
set_option maxHeartbeats 16000000 in
set_option maxRecDepth 100000 in
theorem bshr_any (o q r : Int) (g : Nat) (hg : g ≤ 80) (p : Option Addr) (tc : Nat) (R : Runs) (hR : Til g R g) (w : World) (h : RnAt w p (tkT R g)) :
    Calls Tryz.prog 59 #[bqV o q (g : Int) r (.slice p (tkT R g).length tc)] w fun e w' => ∃ e1 : Nat, EndT R e1 ∧ e1 ≤ g ∧ e = .returned (.tuple #[bqV o q (e1 : Int) r (.slice p (tkT R g).length tc), .int .i64 ((g : Int) - (e1 : Int))]) ∧ Below w.heap.size w w' := by
  have HRU : Hid (∀ (e1 : Nat) (R1 : Runs) (X : World), e1 ≤ g → Til e1 R1 e1 → TkSame R R1 → RnAt X p (tkT R g) → Calls Tryz.prog 20 #[bqV o q (e1 : Int) r (.slice p (tkT R g).length tc)] X (RunsP (runL R1 e1) X)) := Lib.hid fun e1 R1 X h1 h2 h3 h4 => by
    have e := tkT_same hR h2 h3
    have := bruns_any o q r e1 (by omega) p tc R1 h2 X (by rw [e]; exact h4)
    rw [e] at this
    exact this
  obtain ⟨m, hm⟩ : ∃ m, (tkT R g).length = m := ⟨_, rfl⟩
  rw [hm] at HRU ⊢
  have hb0 := ((Below.refl w.heap.size w).alloc (Nat.le_refl _) (.cells (bqA o q (g : Int) r (.slice p m tc)) 33)).alloc (by simp) (.cells (bqA 0 0 0 0 (.slice none 0 0)) 33)
  have hd0 : BqAt w.heap.size o q (g : Int) r (.slice p m tc) ((w.alloc (.cells (bqA o q (g : Int) r (.slice p m tc)) 33)).alloc (.cells (bqA 0 0 0 0 (.slice none 0 0)) 33)) := (pairs_new w _ _ _ _).1
  have he0 : BqAt (w.heap.size + 1) 0 0 0 0 (.slice none 0 0) ((w.alloc (.cells (bqA o q (g : Int) r (.slice p m tc)) 33)).alloc (.cells (bqA 0 0 0 0 (.slice none 0 0)) 33)) := (pairs_new w _ _ _ _).2
  have HB0 := Lib.hid hb0; have HD0 := Lib.hid hd0; have HE0 := Lib.hid he0
  have HT := Lib.hid hR
  have H := Lib.hid (h.below hb0)
  obtain ⟨D, hD⟩ : ∃ D, w.heap.size = D := ⟨_, rfl⟩
  obtain ⟨E, hE⟩ : ∃ E, w.heap.size + 1 = E := ⟨_, rfl⟩
  have HDE : Hid (D ≠ E ∧ w.heap.size ≤ D ∧ w.heap.size ≤ E) := Lib.hid (by omega)
  have HEE : Hid (E < ((w.alloc (.cells (bqA o q (g : Int) r (.slice p m tc)) 33)).alloc (.cells (bqA 0 0 0 0 (.slice none 0 0)) 33)).heap.size) := Lib.hid (by simp; omega)
  have HPW : Hid (∀ j, p = some ⟨j, 0, none⟩ → (tkT R g) = [] ∨ j < w.heap.size) := Lib.hid fun j hj => by
    rcases h with e | ⟨gb, e, hl, _⟩
    · exact .inl e
    · rw [hj] at e; simp at e; exact .inr (by omega)
  rw [hD] at HD0; rw [hE] at HE0
  clear h hR hm hb0 hd0 he0
  go_enter Tryz.func59, Tryz.ntmps59
  go_upto_region 1 with fail
  obtain ⟨y, hy⟩ : ∃ y, (w.alloc (.cells (bqA o q (g : Int) r (.slice p m tc)) 33)).alloc (.cells (bqA 0 0 0 0 (.slice none 0 0)) 33) = y := ⟨_, rfl⟩
  rw [hy] at HB0 HD0 HE0 H HEE ⊢
  try rw [hE]
  try rw [hD]
  try rw [show D + 1 = E from by omega]
  obtain ⟨d0, d1, d2, d3, d4⟩ := HD0.out.all
  clear hy hE hD
  go_wp2_with fail
  refine (HRU.out g R y (Nat.le_refl _) HT.out (TkSame.refl _) H.out).mono ?_
  rintro e w1 ⟨u, cap, rfl, hru, huf, hb⟩
  have HK : Hid (SK D E o q r p m tc R g w g R (.slice u (runL R g).length cap) w1) := Lib.hid ⟨HD0.out.below hb, HE0.out.below hb, H.out.below hb, HT.out, TkSame.refl _, Nat.le_refl _, HB0.out.trans (hb.mono HB0.out.size), u, cap, rfl, hru, fun j hj => Nat.lt_of_lt_of_le HEE.out (huf j hj)⟩
  clear hru huf hb d0 d1 d2 d3 d4 HB0 HD0 HE0 H
  go_wp2_with fail
  go_loopw [5] (fun v x => ∃ (e1 : Nat) (R1 : Runs), Hid (SK D E o q r p m tc R g w e1 R1 v x)) (fun _ x => muD D x)
  case atStart => exact ⟨g, R, HK⟩
  case round =>
    clear HK
    obtain ⟨e1, R1, HK⟩ := hrel
    obtain ⟨u, cap, hv, hru, huf⟩ := HK.out.v
    subst hv
    have HRU1 := Lib.hid hru
    have HUF := Lib.hid huf
    obtain ⟨d0, d1, d2, d3, d4⟩ := HK.out.d.all
    obtain ⟨k0, k1, k2, k3, k4⟩ := HK.out.d.free
    have HMU : Hid (muD D wr = e1) := Lib.hid (by unfold muD; rw [d2]; simp)
    have hle := HK.out.le
    have hsub : IntKind.i64.wrap ((g : Int) - (e1 : Int)) = (g : Int) - (e1 : Int) := by rw [IntKind.wrap_i64]; omega
    have HSUB := Lib.hid hsub
    clear hru huf hsub
    by_cases h0 : e1 = 0
    · subst h0
      have HE : Hid (EndT R 0) := Lib.hid (EndT.same ⟨fun i k q => by have := (HK.out.ti.al _ _ _ q).2.2; omega, .inl rfl⟩ HK.out.tk)
      rw [show (runL R1 0).length = 0 from rfl]
      obtain ⟨e0, e1', e2, e3, e4⟩ := HK.out.e.all
      obtain ⟨f0, f1, f2, f3, f4⟩ := HK.out.e.free
      have hDE := HDE.out.1
      have hsub := HSUB.out
      go_wp2_with fail
      go_region
      go_wp2_with fail
      change bodyPost _ _ _ _ _ (set5 wr E (.int .i64 o) (.int .i64 q) (.int .i64 0) (.int .i64 r) (.slice p m tc)).drew
      have hz : BqAt E o q 0 r (.slice p m tc) (set5 wr E (.int .i64 o) (.int .i64 q) (.int .i64 0) (.int .i64 r) (.slice p m tc)).drew := set5_at HK.out.e (.int .i64 o) (.int .i64 q) (.int .i64 0) (.int .i64 r) (.slice p m tc)
      have HZB := Lib.hid (set5_below HK.out.be HDE.out.2.2 (.int .i64 o) (.int .i64 q) (.int .i64 0) (.int .i64 r) (.slice p m tc)).drew
      obtain ⟨z, hzz⟩ : ∃ z, (set5 wr E (.int .i64 o) (.int .i64 q) (.int .i64 0) (.int .i64 r) (.slice p m tc)).drew = z := ⟨_, rfl⟩
      rw [hzz] at hz HZB ⊢
      clear hzz
      obtain ⟨g0, g1, g2, g3, g4⟩ := hz.all
      exact bodyPost_ret (v := .tuple #[bqV o q 0 r (.slice p m tc), .int .i64 (g : Int)]) (by simp [results, Tryz.results59, go_sem, g0, g1, g2, g3, g4]) rfl ⟨_, HE.out, by omega, by simp, HZB.out⟩
    · obtain ⟨x, k, t, hx, hxg, hxl⟩ := HK.out.ti.toTile.last (by omega)
      have hst := runL_step HK.out.ti.toTile hx
      rw [hxg] at hst
      obtain ⟨nx, hnx⟩ : ∃ nx, (runL R1 x).length = nx := ⟨_, rfl⟩
      have hlen : (runL R1 e1).length = nx + 1 := by rw [hst, List.length_append, hnx]; rfl
      have hget : (runL R1 e1).getD nx r0 = (x, k, t) := by rw [hst, List.getD_eq_getElem?_getD, List.getElem?_append_right (by omega), hnx]; simp
      rcases HRU1.out with e | ⟨ub, rfl, hub, hcc⟩
      · rw [e] at hlen; simp at hlen
      obtain ⟨q0, q1, q2⟩ := hcc nx (by omega)
      rw [hget] at q0 q1 q2
      simp only at q0 q1 q2
      have hn80 : nx + 1 ≤ 80 := by have := runL_len R1 e1; omega
      obtain ⟨nl, hnl⟩ : ∃ nl, nx + 1 = nl := ⟨_, rfl⟩
      rw [hlen, hnl]
      have hs : IntKind.i64.wrap ((nl : Int) - 1) = (nx : Int) := by rw [IntKind.wrap_i64]; omega
      have hpos : (0 : Int) < (nl : Int) := by omega
      have hlt : (nx : Int) < (nl : Int) := by omega
      have HX := Lib.hid (And.intro hx (And.intro hxg hxl))
      clear hst hlen hget hcc hnl hn80 hnx hx hxg h0
      cases t with
      | true =>
        have HE : Hid (EndT R e1) := Lib.hid (EndT.same ⟨fun i k q => by have := (HK.out.ti.al _ _ _ q).2.2; omega, .inr ⟨x, k, HX.out.1, HX.out.2.1⟩⟩ HK.out.tk)
        obtain ⟨e0, e1', e2, e3, e4⟩ := HK.out.e.all
        obtain ⟨f0, f1, f2, f3, f4⟩ := HK.out.e.free
        have hDE := HDE.out.1
        have hsub := HSUB.out
        go_wp2_with fail
        go_region
        go_wp2_with fail
        change bodyPost _ _ _ _ _ (set5 wr E (.int .i64 o) (.int .i64 q) (.int .i64 (e1 : Int)) (.int .i64 r) (.slice p m tc)).drew
        have hz : BqAt E o q (e1 : Int) r (.slice p m tc) (set5 wr E (.int .i64 o) (.int .i64 q) (.int .i64 (e1 : Int)) (.int .i64 r) (.slice p m tc)).drew := set5_at HK.out.e (.int .i64 o) (.int .i64 q) (.int .i64 (e1 : Int)) (.int .i64 r) (.slice p m tc)
        have HZB := Lib.hid (set5_below HK.out.be HDE.out.2.2 (.int .i64 o) (.int .i64 q) (.int .i64 (e1 : Int)) (.int .i64 r) (.slice p m tc)).drew
        obtain ⟨z, hzz⟩ : ∃ z, (set5 wr E (.int .i64 o) (.int .i64 q) (.int .i64 (e1 : Int)) (.int .i64 r) (.slice p m tc)).drew = z := ⟨_, rfl⟩
        rw [hzz] at hz HZB ⊢
        clear hzz
        obtain ⟨g0, g1, g2, g3, g4⟩ := hz.all
        exact bodyPost_ret (v := .tuple #[bqV o q (e1 : Int) r (.slice p m tc), .int .i64 ((g : Int) - (e1 : Int))]) (by simp [results, Tryz.results59, go_sem, g0, g1, g2, g3, g4]) rfl ⟨_, HE.out, by omega, by simp, HZB.out⟩
      | false =>
        have HTX := Lib.hid (HK.out.ti.less HX.out.1 HX.out.2.1)
        have HTK := Lib.hid (HK.out.tk.trans (less_taken (g := e1) HX.out.1))
        have hxl := HX.out.2.2
        have hpD : ∀ j, p = some ⟨j, 0, none⟩ → (tkT R g) = [] ∨ j ≠ D := fun j hj => by
          rcases HPW.out j hj with c | c
          · exact .inl c
          · have := HDE.out.2.1; exact .inr (by omega)
        have hrD : RnAt (wr.setCell ⟨D, 2, none⟩ (.int .i64 (x : Int))) p (tkT R g) := by
          rcases HK.out.r with c | ⟨gb, e, hgl, hcc⟩
          · exact .inl c
          · rcases hpD gb e with c | c
            · exact .inl c
            · exact RnAt.set1 (.inr ⟨gb, e, hgl, hcc⟩) (fun j hj => by rw [e] at hj; simp at hj; omega) 2 _
        have HRD := Lib.hid hrD
        have HDD := Lib.hid (HK.out.d.grow (x : Int))
        have HED := Lib.hid (HK.out.e.far (fun c => HDE.out.1 c.symm) 2 (.int .i64 (x : Int)))
        have HBD := Lib.hid (HK.out.be.setCell (p := ⟨D, 2, none⟩) HDE.out.2.1 (.int .i64 (x : Int)))
        clear hpD hrD
        go_wp2_with fail
        refine (HRU.out x (lessR R1 x) _ (by omega) HTX.out HTK.out HRD.out).mono ?_
        rintro e w5 ⟨u', cap', rfl, hru, huf, hb⟩
        have hEl : E < (wr.setCell ⟨D, 2, none⟩ (.int .i64 (x : Int))).heap.size := HED.out.lt
        have hd5 := HDD.out.below hb
        have HMU2 : Hid (muD D w5 = x) := Lib.hid (by unfold muD; rw [hd5.all.2.2.1]; simp)
        have HKN : Hid (SK D E o q r p m tc R g w x (lessR R1 x) (.slice u' (runL (lessR R1 x) x).length cap') w5) := Lib.hid ⟨hd5, HED.out.below hb, HRD.out.below hb, HTX.out, HTK.out, by omega, HBD.out.trans (hb.mono HBD.out.size), u', cap', rfl, hru, fun j hj => Nat.lt_of_lt_of_le hEl (huf j hj)⟩
        clear hru huf hb hd5 hEl
        go_wp2_with fail
        refine ⟨⟨x, lessR R1 x, HKN⟩, ?_⟩
        rw [HMU2.out, HMU.out]
        exact hxl
end Go.Proofs.YtgpgclhghljidaaGreat.Bt
/- The document's Alloc of a buddy: rows. -/
namespace Go.Proofs.YtgpgclhghljidaaGreat.Bt
open Go Go.RowKit Go.Shelf
set_option linter.unusedVariables false
set_option linter.unusedSimpArgs false
theorem Least.one {R : Runs} {g o : Nat} {y z : Option (Nat × Nat)} (h : Least R g o y) (k : Least R g o z) : y = z := by
  rcases y with _ | ⟨x, l⟩ <;> rcases z with _ | ⟨x', l'⟩
  · rfl
  · have := h x' l' k.1; have := k.2.1; omega
  · have := k x l h.1; have := h.2.1; omega
  · have h1 := h.2.2 x' l' k.1 k.2.1
    have h2 := k.2.2 x l h.1 h.2.1
    have e1 : l = l' := by omega
    have e2 : x = x' := by omega
    rw [e1, e2]
def ltF (L : List (Nat × Nat × Bool)) (x : Nat) : List (Nat × Nat × Bool) := L.filter fun y => decide (y.1 < x)
def gtF (L : List (Nat × Nat × Bool)) (x : Nat) : List (Nat × Nat × Bool) := L.filter fun y => decide (x < y.1)
theorem ltF_len (L : List (Nat × Nat × Bool)) (x : Nat) : (ltF L x).length ≤ L.length := List.length_filter_le _ _
theorem gtF_len (L : List (Nat × Nat × Bool)) (x : Nat) : (gtF L x).length ≤ L.length := List.length_filter_le _ _
theorem ltF_next {L : List (Nat × Nat × Bool)} {x j : Nat} (h : j < L.length) : ltF (L.take (j + 1)) x = if (L.getD j r0).1 < x then ltF (L.take j) x ++ [L.getD j r0] else ltF (L.take j) x := by
  rw [take_snoc h]
  generalize L.getD j r0 = c
  unfold ltF
  rw [List.filter_append]
  by_cases e : c.1 < x
  · rw [if_pos e]; simp [e]
  · rw [if_neg e]; simp [e]
theorem gtF_next {L : List (Nat × Nat × Bool)} {x j : Nat} (h : j < L.length) : gtF (L.take (j + 1)) x = if x < (L.getD j r0).1 then gtF (L.take j) x ++ [L.getD j r0] else gtF (L.take j) x := by
  rw [take_snoc h]
  generalize L.getD j r0 = c
  unfold gtF
  rw [List.filter_append]
  by_cases e : x < c.1
  · rw [if_pos e]; simp [e]
  · rw [if_neg e]; simp [e]
/-- the taken runs with one more -/
def outL (L : List (Nat × Nat × Bool)) (x k : Nat) : List (Nat × Nat × Bool) := ltF L x ++ [(x, k, true)] ++ gtF L x
theorem outL_is {R R' : Runs} {g g1 x k l a b c : Nat} (h : Til g R a) (h1 : Til g1 R' b) (t : TkMore R R' x k) (hx : ∀ l, R x ≠ some (l, true)) : tkT R' g1 = outL (tkT R g) x k := by
  unfold tkT outL ltF gtF
  rw [tkL_more (R := R) (g := g) (x := x) (o := k) (fun k c => hx k c.2) fun i l => ⟨fun q => ((t i l).1 q.2).imp id fun c => ⟨h.lt c, c⟩, fun q => ?_⟩]
  · rw [List.map_append, List.map_cons, List.filter_map, List.filter_map]
    simp [Function.comp_def]
  · have e : R' i = some (l, true) := (t i l).2 (q.imp id fun c => c.2)
    exact ⟨h1.lt e, e⟩
/-- the run that the document takes, and what its buddy has grown to, and how many Commits are OK yet -/
def Sc (pg g k : Nat) (r : Int) (R : Runs) (g1 x l : Nat) (r1 : Int) (R1 : Runs) : Prop :=
  Til g1 R1 g1 ∧ TkSame R R1 ∧ Least R1 g1 k (some (x, l)) ∧ ((g1 = g ∧ R1 = R ∧ r1 = r) ∨ (Least R g k none ∧ growQ pg g r k (upN g (2 ^ k)) = ((g1 : Int), r1, 0)))
def AllP (o : Int) (pg g1 : Nat) (r1 : Int) (L : List (Nat × Nat × Bool)) (x k : Nat) (w : World) (e : Ending) (w' : World) : Prop :=
  ∃ u cap, e = .returned (.tuple #[bqV o (pg : Int) (g1 : Int) r1 (.slice u (outL L x k).length cap), .int .i64 (x : Int), .int .i64 0]) ∧ RnAt w' u (outL L x k) ∧ Below w.heap.size w w'
end Go.Proofs.YtgpgclhghljidaaGreat.Bt
/- The document's Alloc of a buddy. -/
namespace Go.Proofs.YtgpgclhghljidaaGreat.Bt
open Go Go.RowKit Go.Shelf
set_option linter.unusedVariables false
set_option linter.unusedSimpArgs false
/-- ahead of the taking -/
def AC (D E : Nat) (o : Int) (pg g1 : Nat) (r1 : Int) (p : Option Addr) (m tc : Nat) (L : List (Nat × Nat × Bool)) (w wx : World) : Prop :=
  BqAt D o (pg : Int) (g1 : Int) r1 (.slice p m tc) wx ∧ BqAt E 0 0 0 0 (.slice none 0 0) wx ∧ RnAt wx p L ∧ Below w.heap.size w wx
structure LpA (b0 : Nat) (w1 : World) (l : List (Nat × Nat × Bool)) (v : Value) (x : World) : Prop where
  ow : x.ownsRow b0 51 3 v l.length (rnL l)
  be : Below b0 w1 x
  sz : b0 ≤ x.heap.size
set_option maxHeartbeats 16000000 in
set_option maxRecDepth 100000 in
theorem ball_ok (o r : Int) (hr : r ≤ 9223372036854775807) (pg g : Nat) (hpg : pg ≤ 80) (hg : g ≤ 80) (p : Option Addr) (tc : Nat) (R : Runs) (hR : Til g R g) (k : Nat) (hk : k ≤ 10) (w : World) (h : RnAt w p (tkT R g))
    (g1 x l : Nat) (r1 : Int) (R1 : Runs) (hs : Sc pg g k r R g1 x l r1 R1) (hg1 : g1 ≤ 80) :
    Calls Tryz.prog 60 #[bqV o (pg : Int) (g : Int) r (.slice p (tkT R g).length tc), .int .i64 (k : Int)] w (AllP o pg g1 r1 (tkT R g) x k w) := by
  obtain ⟨i0, hi0, hz0, hz1, hz2⟩ := info_parts Tryz.infoRn
  have HI := Lib.hid hi0; have HZ0 := Lib.hid hz0; have HZ1 := Lib.hid hz1; have HZ2 := Lib.hid hz2
  clear hi0 hz0 hz1 hz2
  have HF0 := Lib.hid fun X (hX : RnAt X p (tkT R g)) => bfind_any o (pg : Int) r g hg p tc R hR k hk X hX
  have HF1 : Hid (∀ X, RnAt X p (tkT R g) → Calls Tryz.prog 104 #[bqV o (pg : Int) (g1 : Int) r1 (.slice p (tkT R g).length tc), .int .i64 (k : Int)] X fun e w' => e = .returned (.int .i64 (x : Int)) ∧ Below X.heap.size X w') := Lib.hid fun X hX => by
    have e := tkT_same hR hs.1 hs.2.1
    have := bfind_any o (pg : Int) r1 g1 hg1 p tc R1 hs.1 k hk X (by rw [e]; exact hX)
    rw [e] at this
    refine this.mono ?_
    rintro e' w' ⟨y, rfl, hy, hb⟩
    rw [hy.one hs.2.2.1]
    exact ⟨rfl, hb⟩
  have HGR := Lib.hid fun X => bgrow_on o r pg g k hr (by omega) (by omega) hk p (tkT R g).length tc X
  have HLN : Hid ((tkT R g).length ≤ 80) := Lib.hid (Nat.le_trans (tkT_len R g) hg)
  have HSC := Lib.hid hs
  obtain ⟨L, hLL⟩ : ∃ L, tkT R g = L := ⟨_, rfl⟩
  rw [hLL] at h HF0 HF1 HGR HLN ⊢
  obtain ⟨m, hm⟩ : ∃ m, L.length = m := ⟨_, rfl⟩
  have HM := Lib.hid hm
  rw [hm] at HF0 HF1 HGR ⊢
  have hm80 : m ≤ 80 := by have := HLN.out; omega
  have hb0 := ((Below.refl w.heap.size w).alloc (Nat.le_refl _) (.cells (bqA o (pg : Int) (g : Int) r (.slice p m tc)) 33)).alloc (by simp) (.cells (bqA 0 0 0 0 (.slice none 0 0)) 33)
  have hd0 : BqAt w.heap.size o (pg : Int) (g : Int) r (.slice p m tc) ((w.alloc (.cells (bqA o (pg : Int) (g : Int) r (.slice p m tc)) 33)).alloc (.cells (bqA 0 0 0 0 (.slice none 0 0)) 33)) := (pairs_new w _ _ _ _).1
  have he0 : BqAt (w.heap.size + 1) 0 0 0 0 (.slice none 0 0) ((w.alloc (.cells (bqA o (pg : Int) (g : Int) r (.slice p m tc)) 33)).alloc (.cells (bqA 0 0 0 0 (.slice none 0 0)) 33)) := (pairs_new w _ _ _ _).2
  have hr0 := h.below hb0
  have HPW : Hid (∀ j, p = some ⟨j, 0, none⟩ → L = [] ∨ j < w.heap.size) := Lib.hid fun j hj => by
    rcases h with e | ⟨gb, e, hl, _⟩
    · exact .inl e
    · rw [hj] at e; simp at e; exact .inr (by omega)
  have HA0 : Hid (AC w.heap.size (w.heap.size + 1) o pg g r p m tc L w ((w.alloc (.cells (bqA o (pg : Int) (g : Int) r (.slice p m tc)) 33)).alloc (.cells (bqA 0 0 0 0 (.slice none 0 0)) 33))) := Lib.hid ⟨hd0, he0, hr0, hb0⟩
  obtain ⟨D, hD⟩ : ∃ D, w.heap.size = D := ⟨_, rfl⟩
  obtain ⟨E, hE⟩ : ∃ E, w.heap.size + 1 = E := ⟨_, rfl⟩
  have HDE : Hid (D ≠ E ∧ w.heap.size ≤ D ∧ w.heap.size ≤ E) := Lib.hid (by omega)
  have hk0 : ¬ ((k : Int) < 0) := by omega
  have hk1 : ¬ (10 < (k : Int)) := by omega
  rw [hE, hD] at HA0
  have HK := Lib.hid hk
  clear h hR hs hLL hm hb0 hd0 he0 hr0 hk hr
  go_enter Tryz.func60, Tryz.ntmps60
  go_upto_region 1 with fail
  obtain ⟨y, hy⟩ : ∃ y, (w.alloc (.cells (bqA o (pg : Int) (g : Int) r (.slice p m tc)) 33)).alloc (.cells (bqA 0 0 0 0 (.slice none 0 0)) 33) = y := ⟨_, rfl⟩
  rw [hy] at HA0 ⊢
  try rw [hE]
  try rw [hD]
  try rw [show D + 1 = E from by omega]
  obtain ⟨d0, d1, d2, d3, d4⟩ := HA0.out.1.all
  clear hy hE hD
  go_wp2_with fail
  refine (HF0.out _ HA0.out.2.2.1).mono ?_
  rintro e w1 ⟨yf, rfl, hyf, hb⟩
  have HA1 : Hid (AC D E o pg g r p m tc L w w1) := Lib.hid ⟨HA0.out.1.below hb, HA0.out.2.1.below hb, HA0.out.2.2.1.below hb, HA0.out.2.2.2.trans (hb.mono HA0.out.2.2.2.size)⟩
  have HYF := Lib.hid hyf
  clear hb hyf d0 d1 d2 d3 d4 HA0 HF0
  go_upto_if 25 with fail
  go_cut [5] (fun s5 wx => s5 = .int .i64 0 ∧ Hid (AC D E o pg g1 r1 p m tc L w wx))
  case first =>
    as_aux_lemma =>
    rcases HSC.out.2.2.2 with ⟨rfl, rfl, rfl⟩ | ⟨hn, hq⟩
    · have hyx := HYF.out.one HSC.out.2.2.1
      subst hyx
      have HV : Hid (findV (some (x, l)) = (x : Int)) := Lib.hid rfl
      rw [HV.out]
      have hx0 : ¬ ((x : Int) < 0) := by omega
      go_wp2_with fail
      go_meet
      exact ⟨rfl, HA1⟩
    · have hyx := HYF.out.one hn
      subst hyx
      have HV : Hid (findV none = -1) := Lib.hid rfl
      rw [HV.out]
      have hgr := HGR.out
      rw [hq] at hgr
      have HGR2 := Lib.hid hgr
      obtain ⟨d0, d1, d2, d3, d4⟩ := HA1.out.1.all
      clear hgr HGR hq hn
      go_wp2_with fail
      refine (HGR2.out _).mono ?_
      rintro e w2 ⟨rfl, hb⟩
      have hb2 := hb.alloc hb.size (.cells (bqA o (pg : Int) (g1 : Int) r1 (.slice p m tc)) 33)
      have HD2 := Lib.hid (HA1.out.1.below hb2)
      have HE2 := Lib.hid (HA1.out.2.1.below hb2)
      have HR2 := Lib.hid (HA1.out.2.2.1.below hb2)
      have HB2 := Lib.hid (HA1.out.2.2.2.trans (hb2.mono HA1.out.2.2.2.size))
      have HG2 : Hid (BqAt w2.heap.size o (pg : Int) (g1 : Int) r1 (.slice p m tc) (w2.alloc (.cells (bqA o (pg : Int) (g1 : Int) r1 (.slice p m tc)) 33))) := Lib.hid (heap_new w2 _)
      clear hb hb2 d0 d1 d2 d3 d4 HGR2
      go_upto_region 5 with fail
      obtain ⟨z, hz⟩ : ∃ z, w2.alloc (.cells (bqA o (pg : Int) (g1 : Int) r1 (.slice p m tc)) 33) = z := ⟨_, rfl⟩
      obtain ⟨G7, hG7⟩ : ∃ G7, w2.heap.size = G7 := ⟨_, rfl⟩
      rw [hz] at HD2 HE2 HR2 HB2 HG2 ⊢
      rw [hG7] at HG2 ⊢
      clear hz hG7
      obtain ⟨g0, g1', g2, g3, g4⟩ := HG2.out.all
      obtain ⟨d0, d1, d2, d3, d4⟩ := HD2.out.all
      obtain ⟨f0, f1, f2, f3, f4⟩ := HD2.out.free
      have HAN : Hid (AC D E o pg g1 r1 p m tc L w (set5 z D (.int .i64 o) (.int .i64 (pg : Int)) (.int .i64 (g1 : Int)) (.int .i64 r1) (.slice p m tc))) := Lib.hid ⟨set5_at HD2.out _ _ _ _ _, (set5_far (fun c => HDE.out.1 c.symm) _ _ _ _ _).trans HE2.out, (by
        rcases HR2.out with c | ⟨gb, e, hgl, hcc⟩
        · exact .inl c
        · rcases HPW.out gb e with c | c
          · exact .inl c
          · exact RnAt.far (.inr ⟨gb, e, hgl, hcc⟩) (by simp [set5, World.setCell]) fun j hj => set5_far (by rw [e] at hj; simp at hj; have := HDE.out.2.1; omega) _ _ _ _ _), set5_below HB2.out HDE.out.2.1 _ _ _ _ _⟩
      go_wp2_with fail
      go_meet
      exact ⟨rfl, HAN⟩
  case rest =>
    obtain ⟨rfl, HA⟩ := hcut
    obtain ⟨d0, d1, d2, d3, d4⟩ := HA.out.1.all
    go_wp2_with fail
    refine (HF1.out _ HA.out.2.2.1).mono ?_
    rintro e w2 ⟨rfl, hb⟩
    have HA2 : Hid (AC D E o pg g1 r1 p m tc L w w2) := Lib.hid ⟨HA.out.1.below hb, HA.out.2.1.below hb, HA.out.2.2.1.below hb, HA.out.2.2.2.trans (hb.mono HA.out.2.2.2.size)⟩
    clear hb d0 d1 d2 d3 d4 HA HF1 HGR HYF HA1
    obtain ⟨d0, d1, d2, d3, d4⟩ := HA2.out.1.all
    obtain ⟨b0, hb0⟩ : ∃ b0, w2.heap.size = b0 := ⟨_, rfl⟩
    have HBW : Hid (w.heap.size ≤ b0 ∧ b0 = w2.heap.size ∧ D < b0 ∧ E < b0) := Lib.hid ⟨by rw [← hb0]; exact HA2.out.2.2.2.size, hb0.symm, by rw [← hb0]; exact HA2.out.1.lt, by rw [← hb0]; exact HA2.out.2.1.lt⟩
    have HL0 : Hid (LpA b0 w2 (ltF (L.take 0) x) (.slice none 0 0) w2) := Lib.hid ⟨World.ownsRow_nil _ _ _ _, by rw [← hb0]; exact Below.refl _ _, by omega⟩
    clear hb0
    go_wp2_with fail
    go_loopw [10, 43] (fun v s43 wr => ∃ j : Nat, j ≤ m ∧ s43 = .int .i64 (j : Int) ∧ Hid (LpA b0 w2 (ltF (L.take j) x) v wr)) (fun _ s43 _ => m - (intOf s43).toNat)
    case atStart => exact ⟨0, Nat.zero_le _, rfl, HL0⟩
    case round =>
      clear HL0 d0 d1 d2 d3 d4
      obtain ⟨j, hj, rfl, HLP⟩ := hrel
      have HWr : Hid (Below w2.heap.size w2 wr) := Lib.hid (by rw [← HBW.out.2.1]; exact HLP.out.be)
      by_cases hjm : j < m
      · have hjm2 : (j : Int) < (m : Int) := by omega
        have hjL : j < L.length := by rw [HM.out]; exact hjm
        rcases HA2.out.2.2.1.below HWr.out with e | ⟨gb, rfl, hgl, hcc⟩
        · rw [e] at hjL; simp at hjL
        obtain ⟨q0, q1, q2⟩ := hcc j hjL
        have HWN := Lib.hid (ltF_next (x := x) hjL)
        obtain ⟨c, hcc2⟩ : ∃ c, L.getD j r0 = c := ⟨_, rfl⟩
        rw [hcc2] at q0 q1 q2 HWN
        have HLL : Hid ((ltF (L.take j) x).length ≤ 2000) := Lib.hid (Nat.le_trans (ltF_len _ _) (by rw [List.length_take]; omega))
        obtain ⟨ol, hol⟩ : ∃ ol, ltF (L.take j) x = ol := ⟨_, rfl⟩
        rw [hol] at HWN HLL HLP
        clear hcc hjL hcc2 hol hgl
        by_cases hca : c.1 < x
        · have hW1 := HWN.out
          rw [if_pos hca] at hW1
          have HW1 := Lib.hid hW1
          have hcd : (c.1 : Int) < (x : Int) := by omega
          have HB2 := Lib.hid ((HLP.out.be.alloc HLP.out.sz (.cells (rnA c) 51)).alloc (by have := HLP.out.sz; simp; omega) (.cells (rnA c) 51))
          have hrow2 := (HLP.out.ow.alloc (.cells (rnA c) 51)).alloc (.cells (rnA c) 51)
          have HR2 := Lib.hid hrow2
          have hln := HLL.out
          have hsz2 := HLP.out.sz
          clear hW1 hca
          go_wp2_with (at_builtin; refine wpList_append_own _ rfl _ _ 31 rfl b0 51 i0 (.agg #[.int .i64 0, .int .i64 0, .bool false]) 3 24 Tryz.underlying31 HI.out HZ0.out HZ1.out HZ2.out rfl (by decide) _ _ _ rfl hrow2 ⟨_, 0, none⟩ 1 1 (rnC c) rfl rfl (rn_new c _ (by simp)) (by simp [rnC, Value.oneCell']) (by unfold maxLen; omega) (by omega) (by simp; omega) ?_; intro v' w3 hown' hgrow _; have hhgrow := hgrow.size; simp at hhgrow)
          have HNX : Hid (LpA b0 w2 (ol ++ [c]) v' w3) := Lib.hid ⟨by rw [rnL_append, List.length_append]; simpa [rnL] using hown', rn_grow HR2.out hgrow (by simp; omega) HB2.out, by omega⟩
          clear hrow2 hown' hgrow hhgrow
          go_wp2_with fail
          go_roundw
          case rel => exact ⟨j + 1, by omega, by go_num, by rw [HW1.out]; exact HNX⟩
          case measure => simp [intOf]; omega
        · have hW1 := HWN.out
          rw [if_neg hca] at hW1
          have HW1 := Lib.hid hW1
          have hcd : ¬ (c.1 : Int) < (x : Int) := by omega
          have HNX : Hid (LpA b0 w2 ol _ (wr.alloc (.cells (rnA c) 51))) := Lib.hid ⟨HLP.out.ow.alloc (.cells (rnA c) 51), HLP.out.be.alloc HLP.out.sz (.cells (rnA c) 51), by have := HLP.out.sz; simp; omega⟩
          clear hW1 hca
          go_wp2_with fail
          go_roundw
          case rel => exact ⟨j + 1, by omega, by go_num, by rw [HW1.out]; exact HNX⟩
          case measure => simp [intOf]; omega
      · obtain rfl : j = m := by omega
        have HLP2 : Hid (LpA b0 w2 (ltF L x) _ wr) := Lib.hid (by have := HLP.out; rw [List.take_of_length_le (by rw [HM.out]; exact Nat.le_refl _)] at this; exact this)
        obtain ⟨d0, d1, d2, d3, d4⟩ := (HA2.out.1.below HWr.out).all
        have hrow2 := HLP2.out.ow.alloc (.cells (rnA (x, k, true)) 51)
        have HR2 := Lib.hid hrow2
        have HB2 := Lib.hid (HLP2.out.be.alloc HLP2.out.sz (.cells (rnA (x, k, true)) 51))
        have hln : (ltF L x).length ≤ 2000 := Nat.le_trans (ltF_len _ _) (by have := HM.out; omega)
        have hsz2 := HLP2.out.sz
        clear d0 d1 d2 d3 d4
        go_wp2_with (at_builtin; refine wpList_append_own _ rfl _ _ 31 rfl b0 51 i0 (.agg #[.int .i64 0, .int .i64 0, .bool false]) 3 24 Tryz.underlying31 HI.out HZ0.out HZ1.out HZ2.out rfl (by decide) _ _ _ rfl hrow2 ⟨_, 0, none⟩ 1 1 (rnC (x, k, true)) rfl rfl (rn_new (x, k, true) _ (by simp)) (by simp [rnC, Value.oneCell']) (by unfold maxLen; omega) (by omega) (by simp; omega) ?_; intro v' w3 hown' hgrow _; have hhgrow := hgrow.size; simp at hhgrow; have hbw3 := rn_grow HR2.out hgrow (by simp; omega) HB2.out; have hd3 : BqAt D o (pg : Int) (g1 : Int) r1 (.slice p j tc) w3 := (hbw3.block D HBW.out.2.2.1).trans HA2.out.1; obtain ⟨d0, d1, d2, d3, d4⟩ := hd3.all)
        have HL1 : Hid (LpA b0 w2 (ltF L x ++ [(x, k, true)] ++ gtF (L.take 0) x) v' w3) := Lib.hid ⟨by
          rw [show gtF (L.take 0) x = [] from rfl, List.append_nil, rnL_append, List.length_append]; simpa [rnL] using hown', hbw3, by omega⟩
        clear hrow2 hown' hgrow hhgrow hbw3 hd3 hln hsz2 HLP2 HLP
        obtain ⟨m, hmj⟩ : ∃ m, j = m := ⟨_, rfl⟩
        subst hmj
        go_loopw [10, 65] (fun v s65 wr => ∃ i : Nat, i ≤ j ∧ s65 = .int .i64 (i : Int) ∧ Hid (LpA b0 w2 (ltF L x ++ [(x, k, true)] ++ gtF (L.take i) x) v wr)) (fun _ s65 _ => j - (intOf s65).toNat)
        case atStart => exact ⟨0, Nat.zero_le _, rfl, HL1⟩
        case round =>
          clear HL1 d0 d1 d2 d3 d4
          obtain ⟨i, hi, rfl, HLP⟩ := hrel
          have HWr2 : Hid (Below w2.heap.size w2 wr) := Lib.hid (by rw [← HBW.out.2.1]; exact HLP.out.be)
          by_cases hjm : i < j
          · have hjm2 : (i : Int) < (j : Int) := by omega
            have hjL : i < L.length := by rw [HM.out]; exact hjm
            rcases HA2.out.2.2.1.below HWr2.out with e | ⟨gb, rfl, hgl, hcc⟩
            · rw [e] at hjL; simp at hjL
            obtain ⟨q0, q1, q2⟩ := hcc i hjL
            have HWN := Lib.hid (gtF_next (x := x) hjL)
            obtain ⟨c, hcc2⟩ : ∃ c, L.getD i r0 = c := ⟨_, rfl⟩
            rw [hcc2] at q0 q1 q2 HWN
            have HLL : Hid ((ltF L x ++ [(x, k, true)] ++ gtF (L.take i) x).length ≤ 2000) := Lib.hid (by
              have h1 := ltF_len L x
              have h2 := gtF_len (L.take i) x
              rw [List.length_take] at h2
              have := HM.out
              simp only [List.length_append, List.length_cons, List.length_nil]
              omega)
            have HSN : Hid (∀ t : List (Nat × Nat × Bool), ltF L x ++ [(x, k, true)] ++ (t ++ [c]) = (ltF L x ++ [(x, k, true)] ++ t) ++ [c]) := Lib.hid fun t => by simp
            clear hcc hjL hcc2 hgl
            by_cases hca : x < c.1
            · have hW1 := HWN.out
              rw [if_pos hca] at hW1
              have HW1 := Lib.hid hW1
              have hcd : (x : Int) < (c.1 : Int) := by omega
              have HB2 := Lib.hid ((HLP.out.be.alloc HLP.out.sz (.cells (rnA c) 51)).alloc (by have := HLP.out.sz; simp; omega) (.cells (rnA c) 51))
              obtain ⟨ol, hol⟩ : ∃ ol, ltF L x ++ [(x, k, true)] ++ gtF (L.take i) x = ol := ⟨_, rfl⟩
              have HOL := Lib.hid hol
              rw [hol] at HLL HLP
              clear hol
              have hrow2 := (HLP.out.ow.alloc (.cells (rnA c) 51)).alloc (.cells (rnA c) 51)
              have HR2 := Lib.hid hrow2
              have hln := HLL.out
              have hsz2 := HLP.out.sz
              clear hW1 hca
              go_wp2_with (at_builtin; refine wpList_append_own _ rfl _ _ 31 rfl b0 51 i0 (.agg #[.int .i64 0, .int .i64 0, .bool false]) 3 24 Tryz.underlying31 HI.out HZ0.out HZ1.out HZ2.out rfl (by decide) _ _ _ rfl hrow2 ⟨_, 0, none⟩ 1 1 (rnC c) rfl rfl (rn_new c _ (by simp)) (by simp [rnC, Value.oneCell']) (by unfold maxLen; omega) (by omega) (by simp; omega) ?_; intro v' w3 hown' hgrow _; have hhgrow := hgrow.size; simp at hhgrow)
              have HNX : Hid (LpA b0 w2 (ol ++ [c]) v' w3) := Lib.hid ⟨by rw [rnL_append, List.length_append]; simpa [rnL] using hown', rn_grow HR2.out hgrow (by simp; omega) HB2.out, by omega⟩
              clear hrow2 hown' hgrow hhgrow
              go_wp2_with fail
              go_roundw
              case rel => exact ⟨i + 1, by omega, by go_num, by rw [HW1.out, HSN.out, HOL.out]; exact HNX⟩
              case measure => simp [intOf]; omega
            · have hW1 := HWN.out
              rw [if_neg hca] at hW1
              have HW1 := Lib.hid hW1
              have hcd : ¬ (x : Int) < (c.1 : Int) := by omega
              have HNX : Hid (LpA b0 w2 (ltF L x ++ [(x, k, true)] ++ gtF (L.take i) x) _ (wr.alloc (.cells (rnA c) 51))) := Lib.hid ⟨HLP.out.ow.alloc (.cells (rnA c) 51), HLP.out.be.alloc HLP.out.sz (.cells (rnA c) 51), by have := HLP.out.sz; simp; omega⟩
              clear hW1 hca
              go_wp2_with fail
              go_roundw
              case rel => exact ⟨i + 1, by omega, by go_num, by rw [HW1.out]; exact HNX⟩
              case measure => simp [intOf]; omega
          · obtain rfl : i = j := by omega
            have HLE : Hid (LpA b0 w2 (outL L x k) _ wr) := Lib.hid (by have := HLP.out; rw [List.take_of_length_le (by rw [HM.out]; exact Nat.le_refl _)] at this; exact this)
            obtain ⟨u, cap, hv, hru, huf⟩ := own_rnT HLE.out.ow
            subst hv
            have hbr := HWr2.out
            have HDr := Lib.hid (HA2.out.1.below hbr)
            have HEr := Lib.hid (HA2.out.2.1.below hbr)
            have HBr := Lib.hid (HA2.out.2.2.2.trans (hbr.mono HA2.out.2.2.2.size))
            have HRU := Lib.hid hru; have HUF := Lib.hid huf
            obtain ⟨nl, hnl⟩ : ∃ nl, (outL L x k).length = nl := ⟨_, rfl⟩
            have HNL := Lib.hid hnl
            rw [hnl]
            clear hru huf hbr hnl HLE HLP
            obtain ⟨d0, d1, d2, d3, d4⟩ := HDr.out.all
            obtain ⟨k0, k1, k2, k3, k4⟩ := HDr.out.free
            obtain ⟨e0, e1, e2, e3, e4⟩ := HEr.out.all
            obtain ⟨f0, f1, f2, f3, f4⟩ := HEr.out.free
            have hDE : ¬ E = D := fun c => HDE.out.1 c.symm
            have hDE2 := HDE.out.1
            go_wp2_with fail
            change bodyPost _ _ _ _ _ (set5 (wr.setCell ⟨D, 4, none⟩ (.slice u nl cap)) E (.int .i64 o) (.int .i64 (pg : Int)) (.int .i64 (g1 : Int)) (.int .i64 r1) (.slice u nl cap))
            have hz : BqAt E o (pg : Int) (g1 : Int) r1 (.slice u nl cap) (set5 (wr.setCell ⟨D, 4, none⟩ (.slice u nl cap)) E (.int .i64 o) (.int .i64 (pg : Int)) (.int .i64 (g1 : Int)) (.int .i64 r1) (.slice u nl cap)) := set5_at (HEr.out.far hDE 4 (.slice u nl cap)) _ _ _ _ _
            have HZB := Lib.hid (set5_below (HBr.out.setCell (p := ⟨D, 4, none⟩) HDE.out.2.1 (.slice u nl cap)) HDE.out.2.2 (.int .i64 o) (.int .i64 (pg : Int)) (.int .i64 (g1 : Int)) (.int .i64 r1) (.slice u nl cap))
            have HZR := Lib.hid ((HRU.out.set1 (E := D) (fun j hj => by have := HUF.out j hj; have := HBW.out.2.2.1; omega) 4 (.slice u nl cap)).far (w' := set5 (wr.setCell ⟨D, 4, none⟩ (.slice u nl cap)) E (.int .i64 o) (.int .i64 (pg : Int)) (.int .i64 (g1 : Int)) (.int .i64 r1) (.slice u nl cap)) (by simp [set5, World.setCell]) fun j hj => set5_far (by have := HUF.out j hj; have := HBW.out.2.2.2; omega) _ _ _ _ _)
            obtain ⟨z, hzz⟩ : ∃ z, set5 (wr.setCell ⟨D, 4, none⟩ (.slice u nl cap)) E (.int .i64 o) (.int .i64 (pg : Int)) (.int .i64 (g1 : Int)) (.int .i64 r1) (.slice u nl cap) = z := ⟨_, rfl⟩
            rw [hzz] at hz HZB HZR ⊢
            clear hzz d0 d1 d2 d3 d4 e0 e1 e2 e3 e4
            obtain ⟨g0, g1', g2, g3, g4⟩ := hz.all
            exact bodyPost_ret (v := .tuple #[bqV o (pg : Int) (g1 : Int) r1 (.slice u nl cap), .int .i64 (x : Int), .int .i64 0]) (by simp [results, Tryz.results60, go_sem, g0, g1', g2, g3, g4]) rfl ⟨u, cap, by rw [HNL.out], HZR.out, HZB.out⟩
set_option maxHeartbeats 16000000 in
set_option maxRecDepth 100000 in
theorem ball_no (o r : Int) (hr : r ≤ 9223372036854775807) (pg g : Nat) (hpg : pg ≤ 80) (hg : g ≤ 80) (p : Option Addr) (tc : Nat) (R : Runs) (hR : Til g R g) (k : Nat) (hk : k ≤ 10) (w : World) (h : RnAt w p (tkT R g))
    (r1 er : Int) (hn : Least R g k none) (hq : growQ pg g r k (upN g (2 ^ k)) = ((g : Int), r1, er)) (her : er ≠ 0) :
    Calls Tryz.prog 60 #[bqV o (pg : Int) (g : Int) r (.slice p (tkT R g).length tc), .int .i64 (k : Int)] w fun e w' => e = .returned (.tuple #[bqV o (pg : Int) (g : Int) r1 (.slice p (tkT R g).length tc), .int .i64 0, .int .i64 er]) ∧ Below w.heap.size w w' := by
  have HF0 := Lib.hid fun X (hX : RnAt X p (tkT R g)) => bfind_any o (pg : Int) r g hg p tc R hR k hk X hX
  have hgr := fun X => bgrow_on o r pg g k hr (by omega) (by omega) hk p (tkT R g).length tc X
  rw [hq] at hgr
  have HGR := Lib.hid hgr
  have HNN := Lib.hid hn
  obtain ⟨L, hLL⟩ : ∃ L, tkT R g = L := ⟨_, rfl⟩
  rw [hLL] at h HF0 HGR ⊢
  obtain ⟨m, hm⟩ : ∃ m, L.length = m := ⟨_, rfl⟩
  rw [hm] at HF0 HGR ⊢
  have hb0 := ((Below.refl w.heap.size w).alloc (Nat.le_refl _) (.cells (bqA o (pg : Int) (g : Int) r (.slice p m tc)) 33)).alloc (by simp) (.cells (bqA 0 0 0 0 (.slice none 0 0)) 33)
  have hd0 : BqAt w.heap.size o (pg : Int) (g : Int) r (.slice p m tc) ((w.alloc (.cells (bqA o (pg : Int) (g : Int) r (.slice p m tc)) 33)).alloc (.cells (bqA 0 0 0 0 (.slice none 0 0)) 33)) := (pairs_new w _ _ _ _).1
  have he0 : BqAt (w.heap.size + 1) 0 0 0 0 (.slice none 0 0) ((w.alloc (.cells (bqA o (pg : Int) (g : Int) r (.slice p m tc)) 33)).alloc (.cells (bqA 0 0 0 0 (.slice none 0 0)) 33)) := (pairs_new w _ _ _ _).2
  have HA0 : Hid (AC w.heap.size (w.heap.size + 1) o pg g r p m tc L w ((w.alloc (.cells (bqA o (pg : Int) (g : Int) r (.slice p m tc)) 33)).alloc (.cells (bqA 0 0 0 0 (.slice none 0 0)) 33))) := Lib.hid ⟨hd0, he0, h.below hb0, hb0⟩
  obtain ⟨D, hD⟩ : ∃ D, w.heap.size = D := ⟨_, rfl⟩
  obtain ⟨E, hE⟩ : ∃ E, w.heap.size + 1 = E := ⟨_, rfl⟩
  have HDE : Hid (D ≠ E ∧ w.heap.size ≤ D ∧ w.heap.size ≤ E) := Lib.hid (by omega)
  have hk0 : ¬ ((k : Int) < 0) := by omega
  have hk1 : ¬ (10 < (k : Int)) := by omega
  have hee : (er != 0) = true := by simpa using her
  rw [hE, hD] at HA0
  clear h hR hLL hm hb0 hd0 he0 hr hn hq hgr her
  go_enter Tryz.func60, Tryz.ntmps60
  go_upto_region 1 with fail
  obtain ⟨y, hy⟩ : ∃ y, (w.alloc (.cells (bqA o (pg : Int) (g : Int) r (.slice p m tc)) 33)).alloc (.cells (bqA 0 0 0 0 (.slice none 0 0)) 33) = y := ⟨_, rfl⟩
  rw [hy] at HA0 ⊢
  try rw [hE]
  try rw [hD]
  try rw [show D + 1 = E from by omega]
  obtain ⟨d0, d1, d2, d3, d4⟩ := HA0.out.1.all
  clear hy hE hD hk
  go_wp2_with fail
  refine (HF0.out _ HA0.out.2.2.1).mono ?_
  rintro e w1 ⟨yf, rfl, hyf, hb⟩
  have HA1 : Hid (AC D E o pg g r p m tc L w w1) := Lib.hid ⟨HA0.out.1.below hb, HA0.out.2.1.below hb, HA0.out.2.2.1.below hb, HA0.out.2.2.2.trans (hb.mono HA0.out.2.2.2.size)⟩
  have hyx := hyf.one HNN.out
  subst hyx
  have HV : Hid (findV none = -1) := Lib.hid rfl
  rw [HV.out]
  clear hb hyf d0 d1 d2 d3 d4 HA0 HF0
  obtain ⟨d0, d1, d2, d3, d4⟩ := HA1.out.1.all
  go_wp2_with fail
  refine (HGR.out _).mono ?_
  rintro e w2 ⟨rfl, hb⟩
  have hb2 := hb.alloc hb.size (.cells (bqA o (pg : Int) (g : Int) r1 (.slice p m tc)) 33)
  have HD2 := Lib.hid (HA1.out.1.below hb2)
  have HE2 := Lib.hid (HA1.out.2.1.below hb2)
  have HB2 := Lib.hid (HA1.out.2.2.2.trans (hb2.mono HA1.out.2.2.2.size))
  have HG2 : Hid (BqAt w2.heap.size o (pg : Int) (g : Int) r1 (.slice p m tc) (w2.alloc (.cells (bqA o (pg : Int) (g : Int) r1 (.slice p m tc)) 33))) := Lib.hid (heap_new w2 _)
  clear hb hb2 d0 d1 d2 d3 d4
  go_upto_region 5 with fail
  obtain ⟨z, hz⟩ : ∃ z, w2.alloc (.cells (bqA o (pg : Int) (g : Int) r1 (.slice p m tc)) 33) = z := ⟨_, rfl⟩
  obtain ⟨G7, hG7⟩ : ∃ G7, w2.heap.size = G7 := ⟨_, rfl⟩
  rw [hz] at HD2 HE2 HB2 HG2 ⊢
  rw [hG7] at HG2 ⊢
  clear hz hG7
  obtain ⟨g0, g1', g2, g3, g4⟩ := HG2.out.all
  obtain ⟨d0, d1, d2, d3, d4⟩ := HD2.out.all
  obtain ⟨f0, f1, f2, f3, f4⟩ := HD2.out.free
  go_upto_region 6 with fail
  change Code.wp _ _ _ _ (set5 z D (.int .i64 o) (.int .i64 (pg : Int)) (.int .i64 (g : Int)) (.int .i64 r1) (.slice p m tc))
  have HD3 : Hid (BqAt D o (pg : Int) (g : Int) r1 (.slice p m tc) (set5 z D (.int .i64 o) (.int .i64 (pg : Int)) (.int .i64 (g : Int)) (.int .i64 r1) (.slice p m tc))) := Lib.hid (set5_at HD2.out _ _ _ _ _)
  have HE3 : Hid (BqAt E 0 0 0 0 (.slice none 0 0) (set5 z D (.int .i64 o) (.int .i64 (pg : Int)) (.int .i64 (g : Int)) (.int .i64 r1) (.slice p m tc))) := Lib.hid ((set5_far (fun c => HDE.out.1 c.symm) _ _ _ _ _).trans HE2.out)
  have HB3 := Lib.hid (set5_below HB2.out HDE.out.2.1 (.int .i64 o) (.int .i64 (pg : Int)) (.int .i64 (g : Int)) (.int .i64 r1) (.slice p m tc))
  obtain ⟨z3, hz3⟩ : ∃ z3, set5 z D (.int .i64 o) (.int .i64 (pg : Int)) (.int .i64 (g : Int)) (.int .i64 r1) (.slice p m tc) = z3 := ⟨_, rfl⟩
  rw [hz3] at HD3 HE3 HB3 ⊢
  clear hz3 d0 d1 d2 d3 d4 f0 f1 f2 f3 f4 g0 g1' g2 g3 g4
  obtain ⟨d0, d1, d2, d3, d4⟩ := HD3.out.all
  obtain ⟨e0, e1, e2, e3, e4⟩ := HE3.out.all
  obtain ⟨f0, f1, f2, f3, f4⟩ := HE3.out.free
  go_wp2_with fail
  change bodyPost _ _ _ _ _ (set5 z3 E (.int .i64 o) (.int .i64 (pg : Int)) (.int .i64 (g : Int)) (.int .i64 r1) (.slice p m tc))
  have hz : BqAt E o (pg : Int) (g : Int) r1 (.slice p m tc) (set5 z3 E (.int .i64 o) (.int .i64 (pg : Int)) (.int .i64 (g : Int)) (.int .i64 r1) (.slice p m tc)) := set5_at HE3.out _ _ _ _ _
  have HZB := Lib.hid (set5_below HB3.out HDE.out.2.2 (.int .i64 o) (.int .i64 (pg : Int)) (.int .i64 (g : Int)) (.int .i64 r1) (.slice p m tc))
  obtain ⟨z4, hz4⟩ : ∃ z4, set5 z3 E (.int .i64 o) (.int .i64 (pg : Int)) (.int .i64 (g : Int)) (.int .i64 r1) (.slice p m tc) = z4 := ⟨_, rfl⟩
  rw [hz4] at hz HZB ⊢
  clear hz4 d0 d1 d2 d3 d4 e0 e1 e2 e3 e4
  obtain ⟨g0, g1', g2, g3, g4⟩ := hz.all
  exact bodyPost_ret (v := .tuple #[bqV o (pg : Int) (g : Int) r1 (.slice p m tc), .int .i64 0, .int .i64 er]) (by simp [results, Tryz.results60, go_sem, g0, g1', g2, g3, g4]) rfl ⟨rfl, HZB.out⟩
set_option maxHeartbeats 16000000 in
set_option maxRecDepth 100000 in
theorem ball_arg (o q g r : Int) (p : Option Addr) (tn tc : Nat) (k : Int) (hk : k < 0 ∨ 10 < k) (w : World) :
    Calls Tryz.prog 60 #[bqV o q g r (.slice p tn tc), .int .i64 k] w fun e w' => e = .returned (.tuple #[bqV o q g r (.slice p tn tc), .int .i64 0, .int .i64 2]) ∧ Below w.heap.size w w' := by
  have hd' : k < 0 ∨ (¬ k < 0 ∧ 10 < k) := by omega
  clear hk
  have hb0 := ((Below.refl w.heap.size w).alloc (Nat.le_refl _) (.cells (bqA o q g r (.slice p tn tc)) 33)).alloc (by simp) (.cells (bqA 0 0 0 0 (.slice none 0 0)) 33)
  have hd0 : BqAt w.heap.size o q g r (.slice p tn tc) ((w.alloc (.cells (bqA o q g r (.slice p tn tc)) 33)).alloc (.cells (bqA 0 0 0 0 (.slice none 0 0)) 33)) := (pairs_new w _ _ _ _).1
  have he0 : BqAt (w.heap.size + 1) 0 0 0 0 (.slice none 0 0) ((w.alloc (.cells (bqA o q g r (.slice p tn tc)) 33)).alloc (.cells (bqA 0 0 0 0 (.slice none 0 0)) 33)) := (pairs_new w _ _ _ _).2
  have HB0 := Lib.hid hb0; have HD0 := Lib.hid hd0; have HE0 := Lib.hid he0
  clear hb0 hd0 he0
  obtain ⟨D, hD⟩ : ∃ D, w.heap.size = D := ⟨_, rfl⟩
  obtain ⟨E, hE⟩ : ∃ E, w.heap.size + 1 = E := ⟨_, rfl⟩
  have HDE : Hid (D ≠ E ∧ w.heap.size ≤ D ∧ w.heap.size ≤ E) := Lib.hid (by omega)
  rw [hD] at HD0; rw [hE] at HE0
  rcases hd' with c1 | ⟨c1, c2⟩
  all_goals
    go_enter Tryz.func60, Tryz.ntmps60
    go_upto_region 1 with fail
    obtain ⟨y, hy⟩ : ∃ y, (w.alloc (.cells (bqA o q g r (.slice p tn tc)) 33)).alloc (.cells (bqA 0 0 0 0 (.slice none 0 0)) 33) = y := ⟨_, rfl⟩
    rw [hy] at HB0 HD0 HE0 ⊢
    try rw [hE]
    try rw [hD]
    try rw [show D + 1 = E from by omega]
    clear hy hE hD
    obtain ⟨d0, d1, d2, d3, d4⟩ := HD0.out.all
    obtain ⟨e0, e1, e2, e3, e4⟩ := HE0.out.all
    obtain ⟨f0, f1, f2, f3, f4⟩ := HE0.out.free
    go_wp2_with fail
    change bodyPost _ _ _ _ _ (set5 y E (.int .i64 o) (.int .i64 q) (.int .i64 g) (.int .i64 r) (.slice p tn tc))
    have hz : BqAt E o q g r (.slice p tn tc) (set5 y E (.int .i64 o) (.int .i64 q) (.int .i64 g) (.int .i64 r) (.slice p tn tc)) := set5_at HE0.out _ _ _ _ _
    have HZB := Lib.hid (set5_below HB0.out HDE.out.2.2 (.int .i64 o) (.int .i64 q) (.int .i64 g) (.int .i64 r) (.slice p tn tc))
    obtain ⟨z4, hz4⟩ : ∃ z4, set5 y E (.int .i64 o) (.int .i64 q) (.int .i64 g) (.int .i64 r) (.slice p tn tc) = z4 := ⟨_, rfl⟩
    rw [hz4] at hz HZB ⊢
    clear hz4 d0 d1 d2 d3 d4 e0 e1 e2 e3 e4
    obtain ⟨g0, g1', g2, g3, g4⟩ := hz.all
    exact bodyPost_ret (v := .tuple #[bqV o q g r (.slice p tn tc), .int .i64 0, .int .i64 2]) (by simp [results, Tryz.results60, go_sem, g0, g1', g2, g3, g4]) rfl ⟨rfl, HZB.out⟩
end Go.Proofs.YtgpgclhghljidaaGreat.Bt
/- A buddy's ownOf, over. -/
namespace Go.Proofs.YtgpgclhghljidaaGreat.Bt
open Go Go.RowKit Go.Shelf
set_option linter.unusedVariables false
set_option linter.unusedSimpArgs false
section
variable {A : Nat} {s : ASt} {w : World}
theorem sum_two (L : Nat) (hL : L ≤ 2000) : Sz.sumV [256, (L : Int)] = 256 + L ∧ Sz.sumB [256, (L : Int)] = true := by
  have h1 : Sz.isSz 256 = true := by decide
  have h2 : Sz.isSz (L : Int) = true := by unfold Sz.isSz; rw [decide_eq_true_iff]; omega
  have h3 : Sz.isSz (256 + (L : Int)) = true := by unfold Sz.isSz; rw [decide_eq_true_iff]; omega
  simp [Sz.sumV, Sz.sumB, Sz.sumF, h1, h2, h3]
set_option maxHeartbeats 2000000 in
theorem bownof (h : On A s w) (hL : s.L ≤ 80) : Calls Tryz.prog 43 #[.pointer (some ⟨A, 0, none⟩)] w (Gives (.tuple #[.int .i64 ((256 + s.L : Nat) : Int), .int .i64 1]) w) := by
  obtain ⟨L, hLL⟩ : ∃ L, s.L = L := ⟨_, rfl⟩
  have HC := Lib.hid (on_cap8 h)
  rw [hLL] at hL HC ⊢
  obtain ⟨s1, s2⟩ := sum_two L (by omega)
  have HS := Lib.hid (Sz.sum_calls w.heap.size 0 2 [256, (L : Int)] (w.alloc (.cells #[.int .i64 256, .int .i64 (L : Int)] 3)) (by simp) (fun k hk => by
    have hk2 : k = 0 ∨ k = 1 := by simp at hk; omega
    rw [(cell_blk (heap_new w _) _).1]
    rcases hk2 with rfl | rfl <;> rfl))
  rw [s1, s2] at HS
  obtain ⟨m, hm⟩ : ∃ m, 256 + L = m := ⟨_, rfl⟩
  have e1 : (256 : Int) + (L : Int) = (m : Int) := by omega
  have HP := Lib.hid fun X => Sz.pages_calls (m : Int) X
  have hp : Sz.pgV (m : Int) = 1 := by unfold Sz.pgV; rw [if_pos (by unfold Sz.isSz; rw [decide_eq_true_iff]; omega)]; omega
  rw [hp] at HP
  rw [e1] at HS
  rw [hm]
  have HB := Lib.hid (bel1 w (.cells #[.int .i64 256, .int .i64 (L : Int)] 3))
  simp only [List.length_cons, List.length_nil, Nat.zero_add, Nat.reduceAdd] at HS
  clear h hLL s1 s2 hm hp e1
  go_enter Tryz.func43, Tryz.ntmps43
  go_wp2_with fail
  refine HC.out.mono ?_
  rintro e w' ⟨rfl, rfl⟩
  go_wp2_with fail
  refine HS.out.mono ?_
  rintro e w' ⟨rfl, rfl⟩
  go_wp2_with fail
  refine (HP.out _).mono ?_
  rintro e w' ⟨rfl, rfl⟩
  go_wp2_with fail
  go_ret2
  exact ⟨rfl, HB.out⟩
/-- a view's variable -/
def VwV (T A va vs : Nat) (w : World) : Prop := w.heap[T]? = some (.cells #[.pointer (some ⟨A, 0, none⟩), .int .i64 (va : Int), .int .i64 (vs : Int)] 40 (0, 0))
theorem VwV.below {T A va vs : Nat} {x y : World} (h : VwV T A va vs x) (hb : Below x.heap.size x y) : VwV T A va vs y := (hb.block _ (Array.getElem?_eq_some_iff.1 h).1).trans h
theorem VwV.all {T A va vs : Nat} {x : World} (h : VwV T A va vs x) : x.cell? ⟨T, 0, none⟩ = some (.pointer (some ⟨A, 0, none⟩)) ∧ x.cell? ⟨T, 1, none⟩ = some (.int .i64 (va : Int)) ∧ x.cell? ⟨T, 2, none⟩ = some (.int .i64 (vs : Int)) := by
  refine ⟨?_, ?_, ?_⟩ <;> (rw [(cell_blk h _).1]; rfl)
theorem VwV.lt {T A va vs : Nat} {x : World} (h : VwV T A va vs x) : T < x.heap.size := (Array.getElem?_eq_some_iff.1 h).1
theorem VwV.far {T A va vs R : Nat} {x : World} (h : VwV T A va vs x) (hne : T ≠ R) (u v z : Value) : VwV T A va vs (((x.setCell ⟨R, 0, none⟩ u).setCell ⟨R, 1, none⟩ v).setCell ⟨R, 2, none⟩ z) :=
  (Below.heap_setCell _ ⟨R, 2, none⟩ _ _ hne).trans ((Below.heap_setCell _ ⟨R, 1, none⟩ _ _ hne).trans ((Below.heap_setCell _ ⟨R, 0, none⟩ _ _ hne).trans h))
theorem VwV.new (A va vs : Nat) (w : World) : VwV w.heap.size A va vs (w.alloc (.cells #[.pointer (some ⟨A, 0, none⟩), .int .i64 (va : Int), .int .i64 (vs : Int)] 40)) := heap_new _ _
set_option maxRecDepth 100000 in
set_option maxHeartbeats 4000000 in
/-- where its own pages aren't there -/
theorem bover_no (h : On A s w) (hL : s.L ≤ 80) (er : Int) (hn : thereE s.L s.es 0 ((256 + s.L : Nat) : Int) = er) (her : er ≠ 0) : Calls Tryz.prog 45 #[.pointer (some ⟨A, 0, none⟩)] w (Gives (.tuple #[.pointer none, .int .i64 er]) w) := by
  have HO := Lib.hid (bownof h hL)
  obtain ⟨m, hm⟩ : ∃ m, 256 + s.L = m := ⟨_, rfl⟩
  rw [hm] at hn HO
  have HF := Lib.hid fun X (hX : On A s X) => on_of hX 0 (m : Int) (by omega)
  rw [hn, show ofV (some ⟨A, 0, none⟩) 0 (m : Int) er = .agg #[.pointer none, .int .i64 0, .int .i64 0] from by unfold ofV; rw [if_neg her]] at HF
  have H := Lib.hid h
  have he : (er != 0) = true := by simpa using her
  clear h hm hn her hL
  go_enter Tryz.func45, Tryz.ntmps45
  go_wp2_with fail
  refine HO.out.mono ?_
  rintro e w1 ⟨rfl, hb⟩
  have H1 := Lib.hid (H.out.below hb)
  have HB1 := Lib.hid hb
  clear hb HO
  go_wp2_with fail
  refine (HF.out _ H1.out).mono ?_
  rintro e w2 ⟨rfl, hb⟩
  have HB2 := Lib.hid ((HB1.out.trans (hb.mono HB1.out.size)).alloc (HB1.out.trans (hb.mono HB1.out.size)).size (.cells #[.pointer none, .int .i64 0, .int .i64 0] 40))
  clear hb HF
  go_wp2_with fail
  go_ret2
  exact ⟨rfl, HB2.out⟩
def OverP (A n : Nat) (w : World) (e : Ending) (w' : World) : Prop := ∃ B, e = .returned (.tuple #[bdyP B, .int .i64 0]) ∧ BdyAt B A n w' ∧ w.heap.size ≤ B ∧ Below w.heap.size w w'
def Tb11 (A n O F K : Nat) (w : World) (s10 s7 : Value) (wx : World) : Prop := ∃ T, s10 = .pointer (some ⟨T, 0, none⟩) ∧ s7 = .int .i64 0 ∧ VwV T A 256 n wx ∧ VwV F A 0 256 wx ∧ VwV K A 16 88 wx ∧ Below w.heap.size w wx
set_option maxRecDepth 100000 in
set_option maxHeartbeats 8000000 in
theorem bover_yes (n : Nat) (h : On A s w) (hL : s.L = n + 1) (hn : n < 80) (ht : thereE s.L s.es 0 ((256 + s.L : Nat) : Int) = 0) : Calls Tryz.prog 45 #[.pointer (some ⟨A, 0, none⟩)] w (OverP A n w) := by
  have HO := Lib.hid (bownof h (by omega))
  have HC := Lib.hid fun X (hX : On A s X) => on_cap8 hX
  rw [hL] at HC HO
  have hf : ∀ (a k : Int), ofV (some ⟨A, 0, none⟩) a k 0 = .agg #[.pointer (some ⟨A, 0, none⟩), .int .i64 a, .int .i64 k] := fun a k => by unfold ofV; rw [if_pos rfl]
  have g := h.good
  have t1 : thereE s.L s.es 0 256 = 0 := there_part g ht (by omega) (by omega) (by omega)
  have t2 : thereE s.L s.es 16 88 = 0 := there_part g ht (by omega) (by omega) (by omega)
  have t3 : thereE s.L s.es 256 (n : Int) = 0 := there_part g ht (by omega) (by omega) (by omega)
  rw [hL] at ht t1 t2 t3
  obtain ⟨m, hm⟩ : ∃ m, 256 + (n + 1) = m := ⟨_, rfl⟩
  rw [hm] at ht HO
  have hmb : m ≤ 400 ∧ 256 + n ≤ m := by omega
  have HF := Lib.hid fun X (hX : On A s X) => on_of hX 0 (m : Int) (by omega)
  rw [hL, ht, hf] at HF
  have HP1 := Lib.hid fun X (hX : On A s X) => on_part hX 0 m (by omega) (by omega) 0 256 (by omega)
  rw [show addrV 0 m 0 256 = 0 from by unfold addrV; rw [if_pos (by omega)]; omega, hL, t1, hf] at HP1
  have HP2 := Lib.hid fun X (hX : On A s X) => on_part hX 0 256 (by omega) (by omega) 16 88 (by omega)
  rw [show addrV 0 256 16 88 = 16 from by decide, hL, t2, hf] at HP2
  have HP3 := Lib.hid fun X (hX : On A s X) => on_part hX 0 m (by omega) (by omega) 256 (n : Int) (by omega)
  rw [show addrV 0 m 256 n = 256 from by unfold addrV; rw [if_pos (by omega)]; omega, hL, t3, hf] at HP3
  have H := Lib.hid h
  have hsub : IntKind.i64.wrap (((n + 1 : Nat) : Int) - 1) = (n : Int) := by rw [IntKind.wrap_i64]; omega
  have HSUB := Lib.hid hsub
  obtain ⟨L, hLL⟩ : ∃ L, n + 1 = L := ⟨_, rfl⟩
  rw [hLL] at HC HSUB
  clear h hm ht hL t1 t2 t3 hf g hsub hLL
  go_enter Tryz.func45, Tryz.ntmps45
  go_wp2_with fail
  refine HO.out.mono ?_
  rintro e w1 ⟨rfl, hb⟩
  have H1 := Lib.hid (H.out.below hb)
  have HB1 := Lib.hid hb
  clear hb HO
  go_wp2_with fail
  refine (HF.out _ H1.out).mono ?_
  rintro e w2 ⟨rfl, hb⟩
  have H2 := Lib.hid ((H1.out.below hb).below (bel1 w2 (.cells #[.pointer (some ⟨A, 0, none⟩), .int .i64 0, .int .i64 (m : Int)] 40)))
  have HB2 := Lib.hid ((HB1.out.trans (hb.mono HB1.out.size)).alloc (HB1.out.trans (hb.mono HB1.out.size)).size (.cells #[.pointer (some ⟨A, 0, none⟩), .int .i64 0, .int .i64 (m : Int)] 40))
  have HO2 : Hid (VwV w2.heap.size A 0 m _) := Lib.hid (VwV.new A 0 m w2)
  clear hb HF
  go_upto_region 5 with fail
  obtain ⟨y2, hy2⟩ : ∃ y, w2.alloc (.cells #[.pointer (some ⟨A, 0, none⟩), .int .i64 0, .int .i64 (m : Int)] 40) = y := ⟨_, rfl⟩
  obtain ⟨O, hO⟩ : ∃ O, w2.heap.size = O := ⟨_, rfl⟩
  have HO2' : Hid (VwV w2.heap.size A 0 m (w2.alloc (.cells #[.pointer (some ⟨A, 0, none⟩), .int .i64 0, .int .i64 (m : Int)] 40))) := HO2
  rw [hy2] at H2 HB2 HO2' ⊢
  rw [hO] at HO2' ⊢
  clear hy2 hO HO2
  obtain ⟨o0, o1, o2⟩ := HO2'.out.all
  go_wp2_with fail
  refine (HP1.out _ H2.out).mono ?_
  rintro e w3 ⟨rfl, hb⟩
  have H3 := Lib.hid ((H2.out.below hb).below (bel1 w3 (.cells #[.pointer (some ⟨A, 0, none⟩), .int .i64 0, .int .i64 256] 40)))
  have HB3 := Lib.hid ((HB2.out.trans (hb.mono HB2.out.size)).alloc (HB2.out.trans (hb.mono HB2.out.size)).size (.cells #[.pointer (some ⟨A, 0, none⟩), .int .i64 0, .int .i64 256] 40))
  have HF3 : Hid (VwV w3.heap.size A 0 256 (w3.alloc (.cells #[.pointer (some ⟨A, 0, none⟩), .int .i64 0, .int .i64 256] 40))) := Lib.hid (VwV.new A 0 256 w3)
  have HO3 := Lib.hid ((HO2'.out.below hb).below (bel1 w3 (.cells #[.pointer (some ⟨A, 0, none⟩), .int .i64 0, .int .i64 256] 40)))
  clear hb o0 o1 o2 HP1 HO2' H2 HB2
  go_upto_region 8 with fail
  obtain ⟨y3, hy3⟩ : ∃ y, w3.alloc (.cells #[.pointer (some ⟨A, 0, none⟩), .int .i64 0, .int .i64 256] 40) = y := ⟨_, rfl⟩
  obtain ⟨F, hF⟩ : ∃ F, w3.heap.size = F := ⟨_, rfl⟩
  rw [hy3] at H3 HB3 HF3 HO3 ⊢
  rw [hF] at HF3 ⊢
  clear hy3 hF
  obtain ⟨f0, f1, f2⟩ := HF3.out.all
  go_wp2_with fail
  refine (HP2.out _ H3.out).mono ?_
  rintro e w4 ⟨rfl, hb⟩
  have H4 := Lib.hid ((H3.out.below hb).below (bel1 w4 (.cells #[.pointer (some ⟨A, 0, none⟩), .int .i64 16, .int .i64 88] 40)))
  have HB4 := Lib.hid ((HB3.out.trans (hb.mono HB3.out.size)).alloc (HB3.out.trans (hb.mono HB3.out.size)).size (.cells #[.pointer (some ⟨A, 0, none⟩), .int .i64 16, .int .i64 88] 40))
  have HK4 : Hid (VwV w4.heap.size A 16 88 (w4.alloc (.cells #[.pointer (some ⟨A, 0, none⟩), .int .i64 16, .int .i64 88] 40))) := Lib.hid (VwV.new A 16 88 w4)
  have HO4 := Lib.hid ((HO3.out.below hb).below (bel1 w4 (.cells #[.pointer (some ⟨A, 0, none⟩), .int .i64 16, .int .i64 88] 40)))
  have HF4 := Lib.hid ((HF3.out.below hb).below (bel1 w4 (.cells #[.pointer (some ⟨A, 0, none⟩), .int .i64 16, .int .i64 88] 40)))
  clear hb f0 f1 f2 HP2 HO3 HF3 H3 HB3
  go_upto_region 11 with fail
  obtain ⟨y4, hy4⟩ : ∃ y, w4.alloc (.cells #[.pointer (some ⟨A, 0, none⟩), .int .i64 16, .int .i64 88] 40) = y := ⟨_, rfl⟩
  obtain ⟨K, hK⟩ : ∃ K, w4.heap.size = K := ⟨_, rfl⟩
  rw [hy4] at H4 HB4 HK4 HO4 HF4 ⊢
  rw [hK] at HK4 ⊢
  clear hy4 hK
  go_cut [10, 7] (fun s10 s7 wx => Tb11 A n O F K w s10 s7 wx)
  case first =>
    as_aux_lemma =>
    have hsub := HSUB.out
    have hw1 : On A s y4.drew := H4.out.below (Below.refl _ _).drew
    have hw2 : On A s (y4.alloc (.cells #[.pointer none, .int .i64 0, .int .i64 0] 40)).drew := H4.out.below ((bel1 y4 (.cells #[.pointer none, .int .i64 0, .int .i64 0] 40)).drew)
    have hw3 : On A s (y4.drew.alloc (.cells #[.pointer none, .int .i64 0, .int .i64 0] 40)) := H4.out.below ((Below.refl y4.heap.size y4).drew.alloc (Nat.le_refl _) (.cells #[.pointer none, .int .i64 0, .int .i64 0] 40))
    have hk1 : VwV O A 0 m y4.drew := HO4.out.below (Below.refl _ _).drew
    have hk2 : VwV O A 0 m (y4.alloc (.cells #[.pointer none, .int .i64 0, .int .i64 0] 40)).drew := HO4.out.below ((bel1 y4 (.cells #[.pointer none, .int .i64 0, .int .i64 0] 40)).drew)
    have hk3 : VwV O A 0 m (y4.drew.alloc (.cells #[.pointer none, .int .i64 0, .int .i64 0] 40)) := HO4.out.below ((Below.refl y4.heap.size y4).drew.alloc (Nat.le_refl _) (.cells #[.pointer none, .int .i64 0, .int .i64 0] 40))
    go_region_held3 (fun x => x.cell? ⟨O, 0, none⟩ = some (.pointer (some ⟨A, 0, none⟩)) ∧ x.cell? ⟨O, 1, none⟩ = some (.int .i64 0) ∧ x.cell? ⟨O, 2, none⟩ = some (.int .i64 (m : Int)))
      (first | assumption | exact hk1.all | exact hk2.all | exact hk3.all
             | exact hov.all | exact hov0.all | exact hov1.all | exact hov2.all)
      (first | (go_at_call 35
                with_reducible refine (HC.out _ hw1).mono ?_
                rintro e w' ⟨rfl, rfl⟩)
             | (go_at_call 35
                with_reducible refine (HC.out _ hw2).mono ?_
                rintro e w' ⟨rfl, rfl⟩)
             | (go_at_call 93
                refine (HP3.out _ hw1).mono ?_
                rintro e w'' ⟨rfl, hbg⟩
                have hbw : Below y4.heap.size y4 w'' := (Below.refl _ _).drew.trans hbg
                have hov := HO4.out.below hbw
                have hov0 := hov.below (bel1 w'' (.cells #[.pointer none, .int .i64 0, .int .i64 0] 40))
                have hov1 := hov.below (bel1 w'' (.cells #[.pointer (some ⟨A, 0, none⟩), .int .i64 256, .int .i64 (n : Int)] 40))
                have kk2 := hov.all)
             | (go_at_call 93
                refine (HP3.out _ hw2).mono ?_
                rintro e w'' ⟨rfl, hbg⟩
                have hT3 : w''.heap[y4.heap.size]? = some (.cells #[.pointer none, .int .i64 0, .int .i64 0] 40 (0, 0)) := (hbg.block y4.heap.size (by show y4.heap.size < (y4.alloc (.cells #[.pointer none, .int .i64 0, .int .i64 0] 40)).heap.size; simp)).trans (heap_new y4 (.cells #[.pointer none, .int .i64 0, .int .i64 0] 40))
                have r0 := (cell_blk hT3 0).1; have r1 := (cell_blk hT3 1).1; have r2 := (cell_blk hT3 2).1; have f0 := (cell_blk hT3 0).2; have f1 := (cell_blk hT3 1).2; have f2 := (cell_blk hT3 2).2
                have hneO : O ≠ y4.heap.size := Nat.ne_of_lt HO4.out.lt
                have hbw : Below y4.heap.size y4 w'' := ((bel1 y4 (.cells #[.pointer none, .int .i64 0, .int .i64 0] 40)).drew).trans (hbg.mono ((bel1 y4 (.cells #[.pointer none, .int .i64 0, .int .i64 0] 40)).drew).size)
                have hov := HO4.out.below hbw
                have HT3 := Lib.hid hT3
                have hov2 := hov.far hneO (.pointer (some ⟨A, 0, none⟩)) (.int .i64 256) (.int .i64 (n : Int))
                have kk2 := hov.all
                clear hT3)
             | (go_at_call 93
                refine (HP3.out _ hw3).mono ?_
                rintro e w'' ⟨rfl, hbg⟩
                have hT3 : w''.heap[y4.drew.heap.size]? = some (.cells #[.pointer none, .int .i64 0, .int .i64 0] 40 (0, 0)) := (hbg.block y4.drew.heap.size (by simp)).trans (heap_new y4.drew (.cells #[.pointer none, .int .i64 0, .int .i64 0] 40))
                have r0 := (cell_blk hT3 0).1; have r1 := (cell_blk hT3 1).1; have r2 := (cell_blk hT3 2).1; have f0 := (cell_blk hT3 0).2; have f1 := (cell_blk hT3 1).2; have f2 := (cell_blk hT3 2).2
                have hneO : O ≠ y4.heap.size := Nat.ne_of_lt HO4.out.lt
                have hbw : Below y4.heap.size y4 w'' := ((Below.refl y4.heap.size y4).drew.alloc (Nat.le_refl _) (.cells #[.pointer none, .int .i64 0, .int .i64 0] 40)).trans (hbg.mono ((Below.refl y4.heap.size y4).drew.alloc (Nat.le_refl _) (.cells #[.pointer none, .int .i64 0, .int .i64 0] 40)).size)
                have hov := HO4.out.below hbw
                have HT3 : Hid (w''.heap[y4.heap.size]? = some (.cells #[.pointer none, .int .i64 0, .int .i64 0] 40 (0, 0))) := Lib.hid hT3
                have hov2 := hov.far hneO (.pointer (some ⟨A, 0, none⟩)) (.int .i64 256) (.int .i64 (n : Int))
                have kk2 := hov.all
                clear hT3))
    all_goals go_wp2_with fail
    all_goals go_meet
    all_goals first
      | exact ⟨_, rfl, rfl, VwV.new A 256 n w'', (HF4.out.below hbw).below (bel1 w'' (.cells #[.pointer (some ⟨A, 0, none⟩), .int .i64 256, .int .i64 (n : Int)] 40)), (HK4.out.below hbw).below (bel1 w'' (.cells #[.pointer (some ⟨A, 0, none⟩), .int .i64 256, .int .i64 (n : Int)] 40)), (HB4.out.trans (hbw.mono HB4.out.size)).alloc (HB4.out.trans (hbw.mono HB4.out.size)).size (.cells #[.pointer (some ⟨A, 0, none⟩), .int .i64 256, .int .i64 (n : Int)] 40)⟩
      | exact ⟨y4.heap.size, rfl, rfl, three_set HT3.out rfl (.pointer (some ⟨A, 0, none⟩)) (.int .i64 256) (.int .i64 (n : Int)), (HF4.out.below hbw).far (Nat.ne_of_lt HF4.out.lt) (.pointer (some ⟨A, 0, none⟩)) (.int .i64 256) (.int .i64 (n : Int)), (HK4.out.below hbw).far (Nat.ne_of_lt HK4.out.lt) (.pointer (some ⟨A, 0, none⟩)) (.int .i64 256) (.int .i64 (n : Int)),
          (((HB4.out.trans (hbw.mono HB4.out.size)).setCell (p := ⟨y4.heap.size, 0, none⟩) HB4.out.size (.pointer (some ⟨A, 0, none⟩))).setCell (p := ⟨y4.heap.size, 1, none⟩) HB4.out.size (.int .i64 256)).setCell (p := ⟨y4.heap.size, 2, none⟩) HB4.out.size (.int .i64 (n : Int))⟩
  case rest =>
    obtain ⟨T, rfl, rfl, ht, hf, hk, hb⟩ := hcut
    obtain ⟨y5, hy5⟩ : ∃ y, wc = y := ⟨_, rfl⟩
    rw [hy5] at ht hf hk hb ⊢
    clear hy5
    have HT := Lib.hid ht; have HF5 := Lib.hid hf; have HK5 := Lib.hid hk; have HB5 := Lib.hid hb
    clear ht hf hk hb HF4 HK4 HB4 HO4 H4 HC HP3
    go_upto_region 14 with fail
    have ht1 := (HT.out.below (Below.refl _ _).drew).all
    have hf1 := (HF5.out.below (Below.refl _ _).drew).all
    have hk1 := (HK5.out.below (Below.refl _ _).drew).all
    go_region_held3 (fun x => x.cell? ⟨F, 0, none⟩ = some (.pointer (some ⟨A, 0, none⟩)) ∧ x.cell? ⟨F, 1, none⟩ = some (.int .i64 0) ∧ x.cell? ⟨F, 2, none⟩ = some (.int .i64 256) ∧ x.cell? ⟨K, 0, none⟩ = some (.pointer (some ⟨A, 0, none⟩)) ∧ x.cell? ⟨K, 1, none⟩ = some (.int .i64 16) ∧ x.cell? ⟨K, 2, none⟩ = some (.int .i64 88) ∧ x.cell? ⟨T, 0, none⟩ = some (.pointer (some ⟨A, 0, none⟩)) ∧ x.cell? ⟨T, 1, none⟩ = some (.int .i64 256) ∧ x.cell? ⟨T, 2, none⟩ = some (.int .i64 (n : Int)))
      (first | assumption | exact ⟨hf1.1, hf1.2.1, hf1.2.2, hk1.1, hk1.2.1, hk1.2.2, ht1.1, ht1.2.1, ht1.2.2⟩ | exact ⟨hf4.1, hf4.2.1, hf4.2.2, hk4.1, hk4.2.1, hk4.2.2, ht4.1, ht4.2.1, ht4.2.2⟩)
      (first | (go_at_call 94
                refine (lopenL (some ⟨A, 0, none⟩) 16 88 _).mono ?_
                rintro e w6 ⟨rfl, hb6⟩
                have hbx : Below y5.heap.size y5 w6 := (Below.refl _ _).drew.trans hb6
                have hf2 := (HF5.out.below hbx).all
                have hk2 := (HK5.out.below hbx).all
                have ht2 := (HT.out.below hbx).all
                have kk : _ ∧ _ ∧ _ ∧ _ ∧ _ ∧ _ ∧ _ ∧ _ ∧ _ := ⟨hf2.1, hf2.2.1, hf2.2.2, hk2.1, hk2.2.1, hk2.2.2, ht2.1, ht2.2.1, ht2.2.2⟩)
             | (go_at_call 95
                refine (topen_any (some ⟨A, 0, none⟩) 256 n _).mono ?_
                rintro e w7 ⟨rfl, hb7⟩
                have hby : Below y5.heap.size y5 w7 := hbx.trans (hb7.mono hbx.size)
                have hbz := hby.alloc hby.size (.cells #[.pointer (some ⟨A, 0, none⟩), .pointer (some ⟨A, 0, none⟩), .int .i64 0, .int .i64 256, .pointer (some ⟨A, 0, none⟩), .int .i64 16, .int .i64 88, .pointer (some ⟨A, 0, none⟩), .int .i64 256, .int .i64 (n : Int)] 45)
                have hf3 := (HF5.out.below hby).all
                have hk3 := (HK5.out.below hby).all
                have ht3 := (HT.out.below hby).all
                have hf4 := (HF5.out.below hbz).all
                have hk4 := (HK5.out.below hbz).all
                have ht4 := (HT.out.below hbz).all
                have kk2 : _ ∧ _ ∧ _ ∧ _ ∧ _ ∧ _ ∧ _ ∧ _ ∧ _ := ⟨hf3.1, hf3.2.1, hf3.2.2, hk3.1, hk3.2.1, hk3.2.2, ht3.1, ht3.2.1, ht3.2.2⟩))
    have HF : Hid (OverP A n w (.returned (.tuple #[bdyP w7.heap.size, .int .i64 0])) (w7.alloc (.cells #[.pointer (some ⟨A, 0, none⟩), .pointer (some ⟨A, 0, none⟩), .int .i64 0, .int .i64 256, .pointer (some ⟨A, 0, none⟩), .int .i64 16, .int .i64 88, .pointer (some ⟨A, 0, none⟩), .int .i64 256, .int .i64 (n : Int)] 45))) := Lib.hid ⟨w7.heap.size, rfl, heap_new w7 (.cells #[.pointer (some ⟨A, 0, none⟩), .pointer (some ⟨A, 0, none⟩), .int .i64 0, .int .i64 256, .pointer (some ⟨A, 0, none⟩), .int .i64 16, .int .i64 88, .pointer (some ⟨A, 0, none⟩), .int .i64 256, .int .i64 (n : Int)] 45), Nat.le_trans HB5.out.size hby.size, HB5.out.trans (hbz.mono HB5.out.size)⟩
    clear hf1 hk1 ht1 hf2 hk2 ht2 hf3 hk3 ht3 hf4 hk4 ht4 kk kk2 hby hbx hb6 hb7
    go_wp2_with fail
    go_ret2
    exact HF.out
end
end Go.Proofs.YtgpgclhghljidaaGreat.Bt
/- An arena of three pages, two of them committed; lists in it; the statements' open and example. -/
namespace Go.Proofs.YtgpgclhghljidaaGreat.Bt
open Go Go.RowKit Go.Shelf
set_option linter.unusedVariables false

def twoS (m : Nat → UInt8) : ASt := ⟨3, [0, 2], m, false, 0⟩
theorem good_two : Good 3 [0, 2] := ⟨by simp [Rising], by simp, (fun e h => by simp at h; omega), by omega⟩
theorem there_two {a k : Int} (h0 : 0 ≤ a) (h1 : 0 ≤ k) (h2 : a + k ≤ 8192) : thereE 3 [0, 2] a k = 0 := by
  unfold thereE
  rw [if_pos]
  exact (there_iff good_two a k).2 ⟨h0, h1, by omega, fun i i1 i2 => by have := mem_full (L := 2) (by omega) (i / 4096); rw [this]; simp; omega⟩
theorem there_two_no {a k : Int} (h : a < 0 ∨ k < 0 ∨ (0 < k ∧ 8192 < a + k)) : thereE 3 [0, 2] a k = 3 := by
  unfold thereE
  rw [if_neg]
  intro e
  obtain ⟨h0, h1, h2, h3⟩ := (there_iff good_two a k).1 e
  rcases h with h | h | ⟨h, h5⟩
  · omega
  · omega
  · have h4 := h3 (a + k - 1) (by omega) (by omega)
    rw [mem_full (L := 2) (by omega)] at h4
    simp at h4; omega
theorem two_new : commitE (newS 3) 0 2 = 0 ∧ commitS (newS 3) 0 2 = twoS (fun _ => 0) := by
  have he : commitE (newS 3) 0 2 = 0 := by decide
  refine ⟨he, ?_⟩
  unfold commitE at he
  unfold commitS
  have hn : ¬ (countE (newS 3).L 0 2 ≠ 0 ∨ 0 < countR (newS 3).L (newS 3).es 0 2) := by decide
  rw [if_neg hn, show refB (newS 3) = false from rfl]
  show ASt.mk _ _ _ _ _ = _
  rw [show laidS (newS 3).L (newS 3).es 0 2 true = [0, 2] from by decide]; rfl
theorem numV_zero (a k : Nat) : numV (fun _ => 0) a k = 0 := by
  induction k with
  | zero => rfl
  | succ k ih => unfold numV; rw [ih]; simp
/-- two links apart -/
abbrev Off (a b : Nat) : Prop := a + 8 ≤ b ∨ b + 8 ≤ a
section
variable {A : Nat} {s : ASt} {w : World}
/-- what a list becomes by a member more; other lists stay -/
def AddP (A : Nat) (s : ASt) (va vs : Nat) (k : Int) (h0 x : Nat) (ms : List Nat) (w : World) (e : Ending) (w' : World) : Prop :=
  ∃ m', e = .returned (.int .i64 0) ∧ On A { s with mm := m' } w' ∧ Went A w w' ∧ LsK { s with mm := m' } va vs k h0 (ins x ms) ∧
    ∀ k' h1 ns, LsK s va vs k' h1 ns → (∀ c ∈ h1 :: ns, Off x c ∧ ∀ d ∈ h0 :: ms, Off d c) → LsK { s with mm := m' } va vs k' h1 ns
theorem ladd_ls (h : On A s w) (va vs : Nat) (h1 : va ≤ 4294967296) (h2 : vs ≤ 4294967296) (k : Int) (h0 x : Nat) (ms : List Nat) (hl : LsK s va vs k h0 ms) (hx : 0 < x) (hm : x ∉ ms) (hT : thereE s.L s.es x 16 = 0)
    (ha : Apart (h0 :: ms)) (hf : ∀ c ∈ h0 :: ms, x + 8 ≤ c ∨ c + 8 ≤ x) :
    Calls Tryz.prog 115 #[lsP (some ⟨A, 0, none⟩) va vs, .int .i64 k, .int .i64 (x : Int)] w (AddP A s va vs k h0 x ms w) :=
  (ladd_yes h va vs h1 h2 k h0 x ms hl hx hm hT).mono fun e w' ⟨he, ho, hg⟩ => by
    refine ⟨_, he, ho, hg, ?_, fun k' g0 ns hn hc => ?_⟩
    · obtain ⟨kn, e1, e2, e3, e4⟩ := hl
      exact ⟨kn, e1, e2, e3, add_ch h.good hT 8 e4 hx hm ha hf⟩
    · obtain ⟨kn, e1, e2, e3, e4⟩ := hn
      refine ⟨kn, e1, e2, e3, e4.keep fun c hcm => ?_⟩
      have h3 := hc c hcm
      have h4 := h3.2 _ (fnd_mem h0 8 ms x)
      show numV (put8 (put8 s.mm x _) _ x) c 8 = _
      rw [put8_far _ _ (by omega), put8_far _ _ (by omega)]
def DelP (A : Nat) (s : ASt) (va vs : Nat) (k : Int) (h0 x : Nat) (ms : List Nat) (w : World) (e : Ending) (w' : World) : Prop :=
  ∃ m', e = .returned (.int .i64 0) ∧ On A { s with mm := m' } w' ∧ Went A w w' ∧ LsK { s with mm := m' } va vs k h0 (ms.erase x) ∧
    ∀ k' h1 ns, LsK s va vs k' h1 ns → (∀ c ∈ h1 :: ns, ∀ d ∈ h0 :: ms, Off d c) → LsK { s with mm := m' } va vs k' h1 ns
theorem lrem_ls (h : On A s w) (va vs : Nat) (h1 : va ≤ 4294967296) (h2 : vs ≤ 4294967296) (k : Int) (h0 x : Nat) (ms : List Nat) (hl : LsK s va vs k h0 ms) (hx : 0 < x) (hm : x ∈ ms) (ha : Apart (h0 :: ms)) :
    Calls Tryz.prog 76 #[lsP (some ⟨A, 0, none⟩) va vs, .int .i64 k, .int .i64 (x : Int)] w (DelP A s va vs k h0 x ms w) :=
  (lrem_yes h va vs h1 h2 k h0 x ms hl hx hm).mono fun e w' ⟨he, ho, hg⟩ => by
    refine ⟨_, he, ho, hg, ?_, fun k' g0 ns hn hc => ?_⟩
    · obtain ⟨kn, e1, e2, e3, e4⟩ := hl
      exact ⟨kn, e1, e2, e3, del_ch h.good 8 e4 hm ha⟩
    · obtain ⟨kn, e1, e2, e3, e4⟩ := hn
      refine ⟨kn, e1, e2, e3, e4.keep fun c hcm => ?_⟩
      have h4 := hc c hcm _ (fnd_mem h0 8 ms x)
      show numV (put8 s.mm _ _) c 8 = _
      rw [put8_far _ _ (by omega)]
end
/-- the lists of a new arena -/
theorem ls_new (vs k : Nat) (hk : k < vs / 8) (hv : vs ≤ 4000) : LsK (twoS fun _ => 0) 64 vs k (64 + 8 * k) [] := ⟨k, rfl, hk, rfl, there_two (by omega) (by omega) (by omega), numV_zero _ _⟩
def OpenQ (n : Nat) (w : World) (e : Ending) (w' : World) : Prop :=
  ∃ A, e = .returned (.tuple #[.pointer (some ⟨A, 0, none⟩), lsP (some ⟨A, 0, none⟩) 64 (8 * n + 3), .bool true]) ∧ On A (twoS (fun _ => 0)) w' ∧ Base A w w'
set_option maxHeartbeats 2000000 in
theorem open7 (n : Nat) (hn : n ≤ 400) (w : World) : Calls Tryz.prog 125 #[.int .i64 (n : Int)] w (OpenQ n w) := by
  have L1 : Hid (lenN 3 = 3) := Lib.hid (by decide)
  have E1 : Hid (commitE (newS 3) 0 2 = 0) := Lib.hid two_new.1
  have S1 : Hid (commitS (newS 3) 0 2 = twoS (fun _ => 0)) := Lib.hid two_new.2
  obtain ⟨vs, hvs⟩ : ∃ vs : Nat, 8 * n + 3 = vs := ⟨_, rfl⟩
  have T1 : Hid (thereE (twoS fun _ => 0).L (twoS fun _ => 0).es 64 vs = 0) := Lib.hid (there_two (by omega) (by omega) (by omega))
  have HV : Hid (∀ pu a k, ofV pu a k 0 = .agg #[.pointer pu, .int .i64 a, .int .i64 k]) := Lib.hid fun pu a k => by unfold ofV; rw [if_pos rfl]
  have q1 : IntKind.i64.wrap (IntKind.i64.wrap (8 * (n : Int)) + 3) = (vs : Int) := by rw [IntWalk.i64_in (8 * (n : Int)) (by omega), IntWalk.i64_in _ (by omega)]; omega
  have q2 : (8 * (n : Int)) + 3 = (vs : Int) := by omega
  have hvl : vs ≤ 4294967296 := by omega
  have HQ := Lib.hid (And.intro q1 q2)
  unfold OpenQ
  rw [hvs]
  clear hvs q1 q2 hn
  go_enter Tryz.func125, Tryz.ntmps125
  go_wp2_with fail
  refine (on_new 3 _).mono ?_
  rintro e w1 ⟨A, rfl, hA, hx, hb, hm⟩
  rw [L1.out] at hx
  have HX1 := Lib.hid hx
  have HB1 := Lib.hid (show Base A w w1 from hb.rebase (bel1 w (.cells #[.pointer none, .int .i64 0, .int .i64 0] 42)))
  have HM1 := Lib.hid (hm w.heap.size (by simp))
  have HR1 := Lib.hid ((hb.bel.block w.heap.size (by simp)).trans (heap_new w (.cells #[.pointer none, .int .i64 0, .int .i64 0] 42)))
  clear hx hb hA hm
  go_wp2_with fail
  refine (on_commit HX1.out 0 2 (by omega)).mono ?_
  rintro e w2 ⟨rfl, hx, hg⟩
  rw [E1.out]; rw [S1.out] at hx
  have HX2 := Lib.hid hx
  have HB2 := Lib.hid (HB1.out.went hg)
  have HR2 := Lib.hid (HM1.out.at hg HR1.out)
  have HM2 := Lib.hid (HM1.out.went hg)
  clear hx hg
  obtain ⟨q1, q2⟩ := HQ.out
  go_wp2_with fail
  refine (on_of HX2.out 64 vs (by omega)).mono ?_
  rintro e w3 ⟨rfl, hb⟩
  rw [T1.out, HV.out]
  have HX3 := Lib.hid (HX2.out.below hb)
  have HB3 := Lib.hid (HB2.out.below HX2.out hb)
  have HR3 := Lib.hid ((hb.block _ (Array.getElem?_eq_some_iff.1 HR2.out).1).trans HR2.out)
  have HM3 := Lib.hid (HM2.out.went (Went.of_below HX2.out hb))
  clear hb q1 q2
  go_wp2_with fail
  have bV := Lib.hid (bel1 w3 (.cells #[.pointer (some ⟨A, 0, none⟩), .int .i64 64, .int .i64 (vs : Int)] 40))
  refine (lopenL (some ⟨A, 0, none⟩) 64 vs _).mono ?_
  rintro e w4 ⟨rfl, hb⟩
  have HX4 := Lib.hid ((HX3.out.below bV.out).below hb)
  have HB4 := Lib.hid ((HB3.out.below HX3.out bV.out).below (HX3.out.below bV.out) hb)
  have hr3 := HR3.out
  have hr4 := (hb.block w.heap.size (Nat.lt_of_lt_of_le (Array.getElem?_eq_some_iff.1 hr3).1 bV.out.size)).trans ((bV.out.block _ (Array.getElem?_eq_some_iff.1 hr3).1).trans hr3)
  have HR4 := Lib.hid hr4
  have HM4 := Lib.hid ((HM3.out.went (Went.of_below HX3.out bV.out)).went (Went.of_below (HX3.out.below bV.out) hb))
  have c0 := (cell_blk hr4 0).1; have c1 := (cell_blk hr4 1).1; have c2 := (cell_blk hr4 2).1
  have f0 := (cell_blk hr4 0).2; have f1 := (cell_blk hr4 1).2; have f2 := (cell_blk hr4 2).2
  clear hr3 hr4 hb
  go_wp2_with fail
  have h3 := three_set HR4.out rfl (.pointer (some ⟨A, 0, none⟩)) (.int .i64 64) (.int .i64 (vs : Int))
  have g0 := (cell_blk h3 0).1; have g1 := (cell_blk h3 1).1; have g2 := (cell_blk h3 2).1
  have hF := set3 (w0 := w) HX4.out HB4.out HM4.out (Nat.le_refl _) (.pointer (some ⟨A, 0, none⟩)) (.int .i64 64) (.int .i64 (vs : Int))
  have HF := Lib.hid hF
  clear hF
  exact bodyPost_ret (v := .tuple #[.pointer (some ⟨A, 0, none⟩), lsP (some ⟨A, 0, none⟩) 64 vs, .bool true]) (by simp [results, Tryz.results125, go_sem, g0, g1, g2]) rfl ⟨A, rfl, HF.out.1, HF.out.2⟩
/-- the statements' variable, the arena, what came in -/
structure LsV (R A vs : Nat) (s : ASt) (w0 x : World) : Prop where
  v : x.heap[R]? = some (.cells #[.pointer (some ⟨A, 0, none⟩), .int .i64 64, .int .i64 (vs : Int)] 42 (0, 0))
  o : On A s x
  b : Base A w0 x
theorem LsV.below {R A vs : Nat} {s : ASt} {w0 x y : World} (h : LsV R A vs s w0 x) (hb : Below x.heap.size x y) : LsV R A vs s w0 y := ⟨blk_on (A := A) hb h.v, h.o.below hb, h.b.below h.o hb⟩
theorem LsV.went {R A vs : Nat} {s s' : ASt} {w0 x y : World} (h : LsV R A vs s w0 x) (ho : On A s' y) (hg : Went A x y) : LsV R A vs s' w0 y := ⟨hg.keep h.o h.v (by decide) (by decide) (by decide), ho, h.b.went hg⟩
theorem LsV.all {R A vs : Nat} {s : ASt} {w0 x : World} (h : LsV R A vs s w0 x) : x.cell? ⟨R, 0, none⟩ = some (.pointer (some ⟨A, 0, none⟩)) ∧ x.cell? ⟨R, 1, none⟩ = some (.int .i64 64) ∧ x.cell? ⟨R, 2, none⟩ = some (.int .i64 (vs : Int)) :=
  ⟨(cell_blk h.v 0).1, (cell_blk h.v 1).1, (cell_blk h.v 2).1⟩
theorem LsV.start {A vs : Nat} {s : ASt} {w0 x : World} (ho : On A s x) (hb : Base A w0 x) : LsV x.heap.size A vs s w0 (x.alloc (.cells #[.pointer (some ⟨A, 0, none⟩), .int .i64 64, .int .i64 (vs : Int)] 42)) :=
  ⟨heap_new _ _, ho.below (bel1 _ _), hb.below ho (bel1 _ _)⟩
theorem apart1 (a : Nat) : Apart [a] := List.pairwise_singleton _ _
theorem apart2 {a b : Nat} (h : Off a b) : Apart [a, b] := List.pairwise_cons.2 ⟨fun c hc => by rw [List.mem_singleton.1 hc]; exact h, apart1 b⟩
set_option maxHeartbeats 4000000 in
set_option maxRecDepth 100000 in
theorem awake7 (w : World) : Calls Tryz.prog 86 #[] w (Gives (.bool true) w) := by
  have N0 := Lib.hid (ls_new 11 0 (by omega) (by omega))
  have TA : Hid (∀ m, thereE (twoS m).L (twoS m).es ((4128 : Nat) : Int) 16 = 0) := Lib.hid fun m => there_two (by omega) (by omega) (by omega)
  have TB : Hid (∀ m, thereE (twoS m).L (twoS m).es ((4096 : Nat) : Int) 16 = 0) := Lib.hid fun m => there_two (by omega) (by omega) (by omega)
  go_enter Tryz.func86, Tryz.ntmps86
  go_wp2_with fail
  refine (open7 1 (by omega) _).mono ?_
  rintro e w1 ⟨A, rfl, hx, hb⟩
  obtain ⟨R, hR⟩ : ∃ R, w1.heap.size = R := ⟨_, rfl⟩
  obtain ⟨w2, hw2⟩ : ∃ w2, w1.alloc (.cells #[.pointer (some ⟨A, 0, none⟩), .int .i64 64, .int .i64 11] 42) = w2 := ⟨_, rfl⟩
  have HV2 : Hid (LsV R A 11 (twoS fun _ => 0) w w2) := Lib.hid (by rw [← hw2, ← hR]; exact LsV.start hx hb)
  have HW2 := Lib.hid hw2
  clear hx hb hw2
  go_wp2_with fail
  rw [HW2.out]
  clear HW2 hR
  refine (ladd_ls HV2.out.o 64 11 (by omega) (by omega) 0 64 4128 [] N0.out (by omega) (by simp) (TA.out _) (apart1 _) (fun c hc => by rw [List.mem_singleton.1 hc]; omega)).mono ?_
  rintro e w3 ⟨m3, rfl, ho, hg, hl, _⟩
  have HV3 := Lib.hid (HV2.out.went ho hg)
  have HL3 : Hid (LsK (twoS m3) 64 11 0 64 [4128]) := Lib.hid hl
  obtain ⟨c0, c1, c2⟩ := HV3.out.all
  clear ho hg hl HV2 N0
  go_wp2_with fail
  refine (ladd_ls HV3.out.o 64 11 (by omega) (by omega) 0 64 4096 [4128] HL3.out (by omega) (by simp) (TB.out _) (apart2 (by omega)) (fun c hc => by simp at hc; omega)).mono ?_
  rintro e w4 ⟨m4, rfl, ho, hg, hl, _⟩
  have HV4 := Lib.hid (HV3.out.went ho hg)
  have HL4 : Hid (LsK (twoS m4) 64 11 0 64 [4096, 4128]) := Lib.hid hl
  clear c0 c1 c2
  obtain ⟨c0, c1, c2⟩ := HV4.out.all
  clear ho hg hl HV3 HL3
  go_wp2_with fail
  refine (lfirst HV4.out.o 64 11 (by omega) (by omega) 0 _ HL4.out.lk).mono ?_
  rintro e w5 ⟨rfl, hb⟩
  have HR : Hid (atV (prs 64 8 [4096, 4128]) 1 = 4096) := Lib.hid (by decide)
  rw [HR.out]
  have HV5 := Lib.hid (HV4.out.below hb)
  clear c0 c1 c2 hb HL4
  go_wp2_with fail
  refine (awake4 _).mono ?_
  rintro e w6 ⟨rfl, hb⟩
  have HV6 := Lib.hid (HV5.out.below hb)
  clear hb
  go_wp2_with fail
  go_ret
  exact ⟨rfl, HV6.out.b.bel⟩
end Go.Proofs.YtgpgclhghljidaaGreat.Bt
