/- The contract of a list's All. -/
import Derived.Test.YtfappdiipflpfaaLsD
import Derived.Test.YtfappdiipflpfaaBitsRows
namespace Go.Proofs.Ytfappdiipflpfaa.Bt
open Go Go.RowKit Go.Shelf
set_option linter.unusedVariables false
attribute [local go_sem] Oper.semAt_some

/-- the arena, all of whose blocks lie ahead of B -/
structure Lw (A : Nat) (s : ASt) (B : Nat) (W : World) : Prop where
  o : On A s W
  low : ∀ k, OwnW A W k ∨ EdgW A W k → k < B
theorem Lw.start {A : Nat} {s : ASt} {w : World} (h : On A s w) : Lw A s w.heap.size w := by
  refine ⟨h, fun k hk => ?_⟩
  obtain ⟨P, ps, p, n, cap, h⟩ := h
  rcases hk with hk | hk
  · rcases (ownW_iff h k).1 hk with rfl | rfl | ⟨i, hi⟩
    · exact h.ltA
    · exact h.ltP
    · exact h.ltG hi
  · obtain ⟨off, hp⟩ := (edgW_iff h k).1 hk
    exact h.ltE hp
theorem Lw.both {A B : Nat} {s : ASt} {W W' : World} {row : Option Nat} (h : Lw A s B W) (hg : W.grownBy W' row) (hr : ∀ r, row = some r → B ≤ r) : On A s W' ∧ (∀ k, OwnW A W' k ↔ OwnW A W k) ∧ ∀ k, EdgW A W' k ↔ EdgW A W k := by
  obtain ⟨⟨P, ps, p, n, cap, hx⟩, hl⟩ := h
  have same : ∀ k, k < W.heap.size → OwnW A W k ∨ EdgW A W k → W'.heap[k]? = W.heap[k]? := fun k hk ho => hg.block k hk fun e => by have := hr k e.symm; have := hl k ho; omega
  have hx' : ArX A s P ps p n cap W' := hx.kept hg.size (same _ hx.ltA (.inl ((ownW_iff hx A).2 (.inl rfl)))) (same _ hx.ltP (.inl ((ownW_iff hx P).2 (.inr (.inl rfl)))))
    (fun i b hb => same _ (hx.ltG hb) (.inl ((ownW_iff hx b).2 (.inr (.inr ⟨i, hb⟩))))) (fun b off e => same _ (hx.ltE e) (.inr ((edgW_iff hx b).2 ⟨off, e⟩)))
  exact ⟨⟨P, ps, p, n, cap, hx'⟩, fun k => (ownW_iff hx' k).trans (ownW_iff hx k).symm, fun k => (edgW_iff hx' k).trans (edgW_iff hx k).symm⟩
theorem Lw.grown {A B : Nat} {s : ASt} {W W' : World} {row : Option Nat} (h : Lw A s B W) (hg : W.grownBy W' row) (hr : ∀ r, row = some r → B ≤ r) : Lw A s B W' := by
  obtain ⟨h1, h2, h3⟩ := h.both hg hr
  exact ⟨h1, fun k hk => h.low k (hk.imp (h2 k).1 (h3 k).1)⟩
theorem Lw.mine {A B k : Nat} {s : ASt} {W : World} (h : Lw A s B W) (hB : B ≤ k) (hk : k < W.heap.size) : Mine A k W :=
  ⟨hk, fun e => by have := h.low k (.inl e); omega, fun e => by have := h.low k (.inr e); omega⟩
theorem KL.low {A B x y : Nat} {s : ASt} {W W' : World} {row : Option Nat} (h : Lw A s B W) (hg : W.grownBy W' row) (hx : x < W.heap.size) (hy : y < W.heap.size)
    (hr : ∀ r, row = some r → B ≤ r ∧ r ≠ x ∧ r ≠ y ∧ ∃ c T fr, W.heap[r]? = some (.cells c T fr) ∧ T ≠ 53) : KL A s x y W W' := by
  obtain ⟨h1, h2, h3⟩ := h.both hg fun r e => (hr r e).1
  refine ⟨⟨hg.block x hx fun e => (hr x e.symm).2.1 rfl, hg.block y hy fun e => (hr y e.symm).2.2.1 rfl⟩, fun _ => ⟨h1, fun k hk => ⟨Nat.lt_of_lt_of_le hk.lt hg.size, fun e => hk.own ((h2 k).1 e), fun e => hk.edg ((h3 k).1 e)⟩⟩, fun k c e => ?_⟩
  refine (hg.block k (Array.getElem?_eq_some_iff.1 e).1 fun e2 => ?_).trans e
  obtain ⟨_, _, _, c', T, fr, e3, hT⟩ := hr k e2.symm
  rw [e] at e3; cases e3; exact hT rfl

/-- where the links lead -/
def toL (l : List Lk) : List Int := (l.filter fun x => decide (0 < x.2.2)).map fun x => (x.2.2 : Int)
theorem toL_snoc (l : List Lk) (x : Lk) : toL (l ++ [x]) = if 0 < x.2.2 then toL l ++ [(x.2.2 : Int)] else toL l := by
  unfold toL
  rw [List.filter_append, List.map_append]
  by_cases h : 0 < x.2.2
  · rw [if_pos h]; simp [List.filter, h]
  · rw [if_neg h]; simp [List.filter, h]
theorem toL_length (l : List Lk) : (toL l).length ≤ l.length := by unfold toL; rw [List.length_map]; exact List.length_filter_le _ _
theorem toL_prs (h z : Nat) (ms : List Nat) (hp : ∀ m ∈ ms, 0 < m) : toL (prs h z ms) = ms.map fun m : Nat => (m : Int) := by
  induction ms generalizing h z with
  | nil => simp [prs, toL]
  | cons m t ih =>
    have hm := hp m (by simp)
    have h1 := ih m 16 fun c hc => hp c (List.mem_cons_of_mem _ hc)
    show toL ((h, z, m) :: prs m 16 t) = _
    unfold toL at h1 ⊢
    rw [List.filter_cons_of_pos (by simpa using hm), List.map_cons, h1, List.map_cons]

def AlI (A B : Nat) (s : ASt) (w : World) (pre : List Lk) (W : World) : Prop :=
  (∃ v, Boxed W (B + 1) 46 v ∧ W.ownsRow (B + 4) 3 1 v (toL pre).length ((toL pre).map (Value.int .i64))) ∧ Lw A s B W ∧ Below B w W ∧ B + 4 ≤ W.heap.size
theorem AlI.grown {A B : Nat} {s : ASt} {w : World} {pre : List Lk} {W W' : World} {row : Option Nat} (h : AlI A B s w pre W) (hg : W.grownBy W' row) (hr : ∀ r, row = some r → B + 4 ≤ r ∧ ∃ o : Obj, W.heap[r]? = some o ∧ (o.isCells = false ∨ OfT 53 o)) : AlI A B s w pre W' := by
  obtain ⟨⟨v, hv, hrw⟩, hl, hb, hs⟩ := h
  refine ⟨⟨v, hv.kept hg (fun e => by have := (hr _ e.symm).1; omega), hrw.kept hg ?_⟩, hl.grown hg (fun r e => by have := (hr r e).1; omega), hb.grown hg (by omega) (fun r e => by have := (hr r e).1; omega), Nat.le_trans hs hg.size⟩
  rcases hrw.2 with ⟨rfl, _⟩ | ⟨gg, cap', cur, rfl, _, hgb, _⟩
  · exact .inl rfl
  · refine .inr fun e => ?_
    obtain ⟨_, o, ho, h⟩ := hr _ e.symm
    rw [hgb] at ho; cases ho
    rcases h with h | ⟨c, fr, h⟩
    · cases h
    · cases h
set_option maxRecDepth 100000 in
set_option maxHeartbeats 4000000 in
theorem lall_in (A : Nat) (s : ASt) (w : World) (h : On A s w) (va vs : Nat) (h1 : va ≤ 4294967296) (h2 : vs ≤ 4294967296) (k : Int) (lp : List Lk) (hl : LkL s va vs k lp) (hlen : lp.length ≤ 4294967297) :
    CallsIn Fence.wide 5 Try.prog 88 #[lsP (some ⟨A, 0, none⟩) va vs, .int .i64 k] w fun e w' => ∃ v, e = .returned v ∧ IntsAt w' v (toL lp) ∧ Below w.heap.size w w' := by
  have HL := Lib.hid hl
  have HW := Lib.hid (Lw.start h)
  obtain ⟨i0, hi, hz0, hz1, hz2⟩ := info_parts Try.info3
  clear hl h
  refine callsIn_of_wp_marks Try.func88 rfl trivial ?_ rfl
  simp only [Try.ntmps88, List.size_toArray, List.length_cons, List.length_nil, Nat.reduceAdd, Nat.reduceSub, Array.replicate_succ, Array.replicate_zero, List.push_toArray, List.append_toArray, List.nil_append, List.cons_append]
  gi_wp2_with fail
  obtain ⟨B, hB⟩ : ∃ B, w.heap.size = B := ⟨_, rfl⟩
  obtain ⟨w2, hw2⟩ : ∃ w2, ((w.alloc (.cells #[.pointer (some ⟨A, 0, none⟩), .int .i64 (va : Int), .int .i64 (vs : Int)] 115)).alloc (.cells #[.slice none 0 0] 46)) = w2 := ⟨_, rfl⟩
  have s2 : w2.heap.size = B + 2 := by rw [← hw2, ← hB]; simp
  have b2 : Below B w w2 := by rw [← hw2, ← hB]; exact below2 _ _ _
  have x2 : w2.heap[B + 1]? = some (.cells #[.slice none 0 0] 46 (0, 0)) := by
    have := heap_old2 w (.cells #[.pointer (some ⟨A, 0, none⟩), .int .i64 (va : Int), .int .i64 (vs : Int)] 115) (.cells #[.slice none 0 0] 46)
    rwa [hw2, hB] at this
  rw [hw2, hB]
  clear hw2
  refine ⟨trivial, (callsIn_wide.2 (links_fn _ va vs k _)).mono ?_⟩
  rintro e w' ⟨rfl, rfl⟩
  obtain ⟨w4, hw4⟩ : ∃ w4, (w2.alloc (.cells #[.pointer (some ⟨A, 0, none⟩), .int .i64 (va : Int), .int .i64 (vs : Int)] 115)).alloc (.cells #[.int .i64 k] 3) = w4 := ⟨_, rfl⟩
  have s4 : w4.heap.size = B + 4 := by rw [← hw4]; simp [s2]
  have b24 : Below w2.heap.size w2 w4 := by rw [← hw4]; exact below2 _ _ _
  have b4 : Below B w w4 := b2.trans (b24.mono (by omega))
  have hl4 : Lw A s B w4 := (hB ▸ HW.out).grown (grown_below (show Below w.heap.size w w4 from hB ▸ b4)) (fun r e => by cases e)
  have i4 : AlI A B s w [] w4 :=
    ⟨⟨.slice none 0 0, (b24.block _ (by omega)).trans x2, World.ownsRow_nil _ _ _ _⟩, hl4, b4, by omega⟩
  have bx4 : LkBox (B + 3) (B + 2) A va vs k w4 := by
    obtain ⟨g1, g2⟩ := pairs_new w2 #[.pointer (some ⟨A, 0, none⟩), .int .i64 (va : Int), .int .i64 (vs : Int)] #[.int .i64 k] 115 3
    rw [hw4, s2] at g1 g2
    exact ⟨g2, g1⟩
  rw [hw4, s2]
  clear hw4 b24 x2 b2
  gi_wp2_with fail
  have hlx : B + 3 < w4.heap.size ∧ B + 2 < w4.heap.size := by omega
  refine range_T (T := 53) rfl (by omega) (gf := 163) (lb := #[.pointer (some ⟨B + 3, 0, none⟩), .pointer (some ⟨B + 2, 0, none⟩)]) rfl trivial (enters_of Try.func163 (by kernel_rfl) rfl)
    (links_stops (5 - 1) (B + 3) (B + 2) A va vs s h1 h2 k lp HL.out w4 hl4.o (hl4.mine (by omega) (by omega)) (hl4.mine (by omega) (by omega)) bx4) KL.trans (KL.put hlx.1 hlx.2) (fun _ => rfl)
    (AlI A B s w)
    (fun _ _ _ => False)
    (fun pre X Y row hs hg hr => hs.grown hg (by rw [← s4]; exact hr))
    (fun c pre X Y row hs hg hr => hs)
    i4
    (fun x a' W => a' = { tmps := #[.agg #[.pointer (some ⟨A, 0, none⟩), .int .i64 (va : Int), .int .i64 (vs : Int)], .int .i64 k, .pointer (some ⟨B, 0, none⟩), undef, .slice none 0 0, .pointer (some ⟨B + 1, 0, none⟩), undef, .int .i64 (x.2.2 : Int), .agg #[.pointer (some ⟨A, 0, none⟩), .int .i64 (va : Int), .int .i64 (vs : Int)], .int .i64 k, .func (.func 163) #[] #[.pointer (some ⟨B + 3, 0, none⟩), .pointer (some ⟨B + 2, 0, none⟩)], .agg #[.pointer (some ⟨A, 0, none⟩), .int .i64 (x.1 : Int), .int .i64 (x.2.1 : Int)], .int .i64 (x.2.2 : Int), undef, undef, undef, undef, undef, undef, undef], defers := [] })
    (fun x a' _ X Y row hs hg hr => hs)
    ?assign ?body ?done ?stop
  case assign =>
    intro l pre x W K hI hK
    simp only [encLk]
    gi_wp2
    exact hK _ _ (KeepsFrom.refl _ _) (KL.refl _) hI rfl
  case body =>
    rintro l pre x a' W hI rfl hlen2
    obtain ⟨xa, xz, xm⟩ := x
    by_cases hm : 0 < xm
    · have hx : 0 < (xm : Int) := by omega
      have HT : Hid (toL (pre ++ [(xa, xz, xm)]) = toL pre ++ [(xm : Int)]) := Lib.hid (by rw [toL_snoc, if_pos hm])
      have htl := toL_length pre
      obtain ⟨⟨v, hv, hrow⟩, hlw, hB4, hW4⟩ := hI
      have hc := hv.cell
      have HLW := Lib.hid hlw
      have HB4 := Lib.hid hB4
      have HRW := Lib.hid hrow
      clear hlw hB4
      gi_wp2_with (gi_at_builtin; refine wpListIn_append_own _ rfl _ _ 46 rfl (B + 4) 3 i0 (.int .i64 0) 1 8 Try.underlying46 hi hz0 hz1 hz2 rfl (by decide) _ _ _ rfl (hrow.alloc _) ⟨W.heap.size, 0, none⟩ 1 1 [.int .i64 (xm : Int)] rfl rfl (cell_one_new _ _ _) (by simp [Value.oneCell']) (by unfold maxLen; omega) (by omega) (by simp; omega) ?_; intro v' w1 hown' hgrow _; obtain ⟨g', cap', rfl⟩ := ownsRow_succ hown'; have hap := hv.appended (by decide) (ownsRow_base hrow (show B + 1 ≤ B + 4 by omega)) (by omega) (Nat.le_refl _) (ownsRow_base hown' (show B + 1 ≤ B + 4 by omega)) hgrow; obtain ⟨hv1, hv2, hr2, hk2, hb2⟩ := hap; have hc1 := hv1.cell; have hf1 := hv1.frozen)
      have g0 : W.grownBy (W.alloc (.cells #[.int .i64 (xm : Int)] 3)) none := World.grownBy_alloc W _ none
      have l1 := HLW.out.grown g0 (fun r e => by cases e)
      have hrg : ∀ r, v.ownBlock = some r → B + 4 ≤ r ∧ ∃ c fr, (W.alloc (.cells #[.int .i64 (xm : Int)] 3)).heap[r]? = some (.cells c 3 fr) := fun r e => by
        rcases (HRW.out.alloc (.cells #[.int .i64 (xm : Int)] 3)).2 with ⟨rfl, _⟩ | ⟨gg, cap', cur, rfl, h5, hgb, _⟩
        · simp [Value.ownBlock] at e
        · obtain rfl : gg = r := by simpa [Value.ownBlock] using e
          exact ⟨h5, _, _, hgb⟩
      have l2 := l1.grown hgrow (fun r e => by have := (hrg r e).1; omega)
      have k1 : KL A s (B + 3) (B + 2) W (W.alloc (.cells #[.int .i64 (xm : Int)] 3)) := KL.below (by omega) (by omega) (bel1 _ _)
      have k2 : KL A s (B + 3) (B + 2) (W.alloc (.cells #[.int .i64 (xm : Int)] 3)) w1 := KL.low l1 hgrow (by simp; omega) (by simp; omega) (fun r e => by
        obtain ⟨h5, c, fr, h6⟩ := hrg r e
        exact ⟨by omega, by omega, by omega, c, _, fr, h6, by decide⟩)
      have hsz1 : B + 4 ≤ w1.heap.size := by have := hgrow.size; simp at this; omega
      have k3 : KL A s (B + 3) (B + 2) w1 (w1.setCell ⟨B + 1, 0, none⟩ (.slice (some ⟨g', 0, none⟩) ((toL pre).length + 1) cap')) := KL.low l2 (grown_set w1 (B + 1) 0 _) (by omega) (by omega) (fun r e => by
        cases e; exact ⟨by omega, by omega, by omega, _, _, _, hv1, by decide⟩)
      refine ⟨hk2.from _, k1.trans (k2.trans k3), ⟨_, hv2, ?_⟩, l2.grown (grown_set w1 (B + 1) 0 _) (fun r e => by cases e; omega), HB4.out.trans (hb2.mono (by omega)), by rw [set_size]; exact hsz1⟩
      rw [HT.out, List.length_append, List.map_append]
      exact hown'.kept (grownBy_setCell' w1 (B + 1) _) (.inr (hv1.not_row (by decide) hown').symm)
    · have hx : (xm : Int) ≤ 0 := by omega
      have HI : Hid (AlI A B s w (pre ++ [(xa, xz, xm)]) W) := Lib.hid (by
        obtain ⟨⟨v, hv, hrow⟩, h⟩ := hI
        refine ⟨⟨v, hv, ?_⟩, h⟩
        rw [toL_snoc, if_neg hm]; exact hrow)
      clear hI
      gi_wp2_with fail
      exact ⟨KeepsFrom.refl _ _, KL.refl _, HI.out⟩
  case done =>
    rintro D ys W hD rfl ⟨⟨v, hv, hrow⟩, hlw, hB4, hW4⟩ hK
    have hc := hv.cell
    clear hlw
    gi_wp2
    refine ⟨by simp, .inl ⟨_, _, rfl, run_takeDeferred hK, ?_⟩⟩
    refine ⟨_, results_tmp rfl _ _ _, v, rfl, own_ints (ownsRow_putObj hrow _ hK rfl), ?_⟩
    rw [hB]
    exact hB4.grown (grownBy_putObj' W D (.deferred none)) (by omega) (fun r e => by cases e; omega)
  case stop =>
    rintro D c pre W _ _ h _
    exact h.elim
theorem lall {A : Nat} {s : ASt} {w : World} (h : On A s w) (va vs : Nat) (h1 : va ≤ 4294967296) (h2 : vs ≤ 4294967296) (k : Int) (lp : List Lk) (hl : LkL s va vs k lp) (hlen : lp.length ≤ 4294967297) :
    Calls Try.prog 88 #[lsP (some ⟨A, 0, none⟩) va vs, .int .i64 k] w fun e w' => ∃ v, e = .returned v ∧ IntsAt w' v (toL lp) ∧ Below w.heap.size w w' := callsIn_wide.1 (lall_in A s w h va vs h1 h2 k lp hl hlen)
end Go.Proofs.Ytfappdiipflpfaa.Bt
