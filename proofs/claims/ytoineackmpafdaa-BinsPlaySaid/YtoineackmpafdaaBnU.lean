/- Several texts in one: ArClone; BnO. -/
import Derived.Test.YtoineackmpafdaaOn
import Derived.Deep.MidRow
import Derived.Deep.DeepCutAuto
import Derived.Deep.RegionHeld3
import Derived.Test.YtoineackmpafdaaBnT
/- The contract of Clone: another arena, alike, of blocks of its own, but for its set's edges. -/
namespace Go.Proofs.Ytoineackmpafdaa.Bt
open Go Go.RowKit Go.Shelf
set_option linter.unusedVariables false

/-- the first i pages' bytes -/
def upTo (m : Nat → UInt8) (i : Nat) : Nat → UInt8 := fun k => if k / 4096 < i then m k else 0
theorem upTo_zero (m : Nat → UInt8) : upTo m 0 = fun _ => 0 := by funext k; simp [upTo]
/-- the twin, so far -/
def Twin (A' P' : Nat) (s : ASt) (p : Option Addr) (n cap i : Nat) (w wr : World) : Prop :=
  ∃ qs, ArX A' { s with mm := upTo s.mm i } P' qs p n cap wr ∧ (∀ j b : Nat, qs[j]? = some (some b) → w.heap.size ≤ b) ∧ Below w.heap.size w wr ∧ w.heap.size ≤ A' ∧ w.heap.size ≤ P'
theorem page_size : (Try.prog.info? 157).map (·.size) = some 4096 := by kernel_rfl
theorem pg_one (m : Nat → UInt8) (i : Nat) : (pgCells m i).all (·.oneCell') = true := by
  rw [Array.all_eq_true_iff_forall_mem]
  intro v hv
  simp only [pgCells, List.mem_toArray, List.mem_map] at hv
  obtain ⟨j, _, rfl⟩ := hv
  rfl
theorem pg_range {x : World} {b : Nat} {m : Nat → UInt8} {i : Nat} (h : x.heap[b]? = some (.cells (pgCells m i) 157 (0, 0))) : x.rangeAt b 0 (pgCells m i).toList := fun j v hv => by
  rw [Nat.zero_add, (cell_blk h j).1, ← Array.getElem?_toList]; exact hv
theorem bel1' (w : World) (o : Obj) : Below w.heap.size w (w.alloc o) := (Below.refl _ _).alloc (Nat.le_refl _) _
theorem pairs_new2 (x : World) (a b : Array Value) (T U : TypeId) : ((x.alloc (.cells a T)).alloc (.cells b U)).heap[x.heap.size]? = some (.cells a T (0, 0)) ∧ ((x.alloc (.cells a T)).alloc (.cells b U)).heap[x.heap.size + 1]? = some (.cells b U (0, 0)) := by
  refine ⟨(Below.heap_alloc _ _ _ (by simp)).trans (heap_new _ _), ?_⟩
  have h := heap_new (x.alloc (.cells a T)) (.cells b U)
  rwa [show (x.alloc (.cells a T)).heap.size = x.heap.size + 1 from by simp] at h
section
variable {A P n cap : Nat} {s : ASt} {ps : List (Option Nat)} {p : Option Addr} {w : World}
def ClonePost (A : Nat) (s : ASt) (w : World) (e : Ending) (w' : World) : Prop :=
  ∃ A', e = .returned (.pointer (some ⟨A', 0, none⟩)) ∧ On A' s w' ∧ Below w.heap.size w w' ∧ w.heap.size ≤ A' ∧ (∀ k, OwnW A' w' k → w.heap.size ≤ k) ∧ ∀ k, EdgW A' w' k → EdgW A w k
theorem twin_start (h : ArX A s P ps p n cap w) (w2 : World) (hw : (w.alloc (.cells (headV s (w.heap.size + 1) p n cap) 137)).alloc (.cells (rowV (List.replicate s.L none)) 155) = w2) :
    Twin w.heap.size (w.heap.size + 1) s p n cap 0 w w2 := by
  have hno : ∀ (i b : Nat), (List.replicate s.L (none : Option Nat))[i]? ≠ some (some b) := fun i b h => by
    rw [List.getElem?_replicate] at h; split at h <;> cases h
  obtain ⟨g1, g2⟩ := pairs_new2 w (headV s (w.heap.size + 1) p n cap) (rowV (List.replicate s.L none)) 137 155
  rw [hw] at g1 g2
  have hb : Below w.heap.size w w2 := by
    rw [← hw]; exact ((Below.refl _ w).alloc (Nat.le_refl _) _).alloc (by simp) _
  refine ⟨List.replicate s.L none, ?_, fun j b h => absurd h (hno j b), hb, Nat.le_refl _, by omega⟩
  exact {
    good := h.good
    len := by simp
    hd := g1
    row := g2
    pg := fun i b h => absurd h (hno i b)
    no := fun i _ j _ => by rw [upTo_zero]
    un := fun i b h => absurd h (hno i b)
    edges := h.edges.keep fun b off e => hb.block b (h.ltE e)
    num := h.num
    room := h.room
    nil := h.nil
    ap := by omega
    apg := fun i b h => absurd h (hno i b)
    one := fun i j b h _ => absurd h (hno i b)
    eap := fun b off e => ⟨by have := h.ltE e; omega, by have := h.ltE e; omega, fun i => hno i b⟩
    lfb := h.lfb }
theorem ArX.congr {A P n cap : Nat} {s : ASt} {ps : List (Option Nat)} {p : Option Addr} {x : World} (h : ArX A s P ps p n cap x) {m' : Nat → UInt8} (e : ∀ k, k < s.L * 4096 → s.mm k = m' k) : ArX A { s with mm := m' } P ps p n cap x := by
  have lt : ∀ {i : Nat} {q : Option Nat}, ps[i]? = some q → i < s.L := fun {i q} hq => by
    have := (List.getElem?_eq_some_iff.1 hq).1; rwa [h.len] at this
  exact { h with
    pg := fun i b hb => by
      have hi := lt hb
      rw [h.pg i b hb, pg_ext fun j hj => e (i * 4096 + j) (by omega)]
    no := fun i hi j hj => by
      have hl := lt hi
      show m' _ = 0
      rw [← e _ (by omega)]; exact h.no i hi j hj }
/-- a page that the arena hasn't laid -/
theorem Twin.skip (h : ArX A s P ps p n cap w) {A' P' i : Nat} {wr : World} (t : Twin A' P' s p n cap i w wr) (hq : ps[i]? = some none) : Twin A' P' s p n cap (i + 1) w wr := by
  obtain ⟨qs, hx, h1, h3⟩ := t
  have e : upTo s.mm (i + 1) = upTo s.mm i := by
    funext k
    unfold upTo
    by_cases e1 : k / 4096 < i
    · rw [if_pos e1, if_pos (by omega)]
    · rw [if_neg e1]
      by_cases e2 : k / 4096 = i
      · rw [if_pos (by omega)]
        have := h.no i hq (k % 4096) (by omega)
        rwa [show i * 4096 + k % 4096 = k by omega] at this
      · rw [if_neg (by omega)]
  exact ⟨qs, by rw [e]; exact hx, h1, h3⟩
/-- a page more is there -/
theorem Twin.more {A' P' i b : Nat} {qs : List (Option Nat)} {x : World} (hx : ArX A' { s with mm := upTo s.mm i } P' qs p n cap x) (hb : qs[i]? = some (some b)) (h1 : ∀ j b : Nat, qs[j]? = some (some b) → w.heap.size ≤ b)
    (h3 : Below w.heap.size w x) (h4 : w.heap.size ≤ A' ∧ w.heap.size ≤ P') : Twin A' P' s p n cap (i + 1) w (x.setRow b (pgCells s.mm i)) := by
  refine ⟨qs, ?_, h1, ⟨h3.os, h3.tape, h3.output, by rw [size_setRow]; exact h3.size, fun k hk => (setRow_other _ _ _ _ (by have := h1 i b hb; omega)).trans (h3.block k hk)⟩, h4⟩
  refine hx.paged (m' := upTo s.mm (i + 1)) hb (by rw [size_setRow]; exact Nat.le_refl _) ?_ (fun k _ hk => setRow_other _ _ _ _ hk) (fun k hk => ?_)
  · rw [setRow_heap _ _ _ _ _ _ (hx.pg i b hb)]
    rw [pg_ext (m := s.mm) (m' := upTo s.mm (i + 1)) fun j hj => by unfold upTo; rw [if_pos (by omega)]]
  · show upTo s.mm (i + 1) k = upTo s.mm i k
    unfold upTo
    by_cases e1 : k / 4096 < i
    · rw [if_pos e1, if_pos (by omega)]
    · rw [if_neg e1, if_neg (by omega)]
set_option maxRecDepth 100000 in
set_option maxHeartbeats 4000000 in
theorem clone_any (h : ArX A s P ps p n cap w) : Calls Try.prog 30 #[.pointer (some ⟨A, 0, none⟩)] w (ClonePost A s w) := by
  have hsm := h.good.small
  have hmk := run_pages s.L hsm
  obtain ⟨c0, c1, c2, c3, c4⟩ := h.head
  have HX := Lib.hid h
  clear h
  have hA := HX.out.ltA
  have d2 : (w.alloc (.cells #[.int .i64 (s.L : Int), .slice p n cap, .slice (some ⟨P, 0, none⟩) s.L s.L, .bool s.rf, .int .i64 (s.lf : Int)] 137)).cell? ⟨A, 2, none⟩ = some (.slice (some ⟨P, 0, none⟩) s.L s.L) :=
    ((bel1' w _).cell (p := ⟨A, 2, none⟩) hA).trans c2
  have d3 : ((w.alloc (.cells #[.int .i64 (s.L : Int), .slice p n cap, .slice (some ⟨w.heap.size + 1, 0, none⟩) s.L s.L, .bool s.rf, .int .i64 (s.lf : Int)] 137)).alloc (.cells (rowV (List.replicate s.L none)) 155)).cell? ⟨A, 2, none⟩ = some (.slice (some ⟨P, 0, none⟩) s.L s.L) :=
    ((((Below.refl _ w).alloc (Nat.le_refl _) _).alloc (by simp) _).cell (p := ⟨A, 2, none⟩) hA).trans c2
  have HST := Lib.hid (twin_start HX.out _ rfl)
  go_enter Try.func30, Try.ntmps30
  go_wp2_with fail
  go_loopw [23] (fun i wr => ∃ k : Nat, k ≤ s.L ∧ i = .int .i64 (k : Int) ∧ Twin w.heap.size (w.heap.size + 1) s p n cap k w wr) (fun i _ => s.L - (intOf i).toNat)
  case atStart => exact ⟨0, Nat.zero_le _, rfl, HST.out⟩
  case round =>
    clear HST d2 d3 c0 c1 c2 c3 c4 hmk
    obtain ⟨k, hk, rfl, ht⟩ := hrel
    by_cases hlt : k < s.L
    · have hkl : k < ps.length := by rw [HX.out.len]; exact hlt
      have hbw := ht.choose_spec.2.2.1
      cases hq : ps[k]? with
      | none => rw [List.getElem?_eq_none_iff] at hq; omega
      | some q =>
        have hsl := (HX.out.below hbw).slot hq
        cases q with
        | none =>
          simp only [ptrV] at hsl
          have HT := Lib.hid (ht.skip HX.out hq)
          clear hq ht hbw
          go_wp2_with fail
          go_roundw
          case rel => exact ⟨k + 1, by omega, by go_num, HT.out⟩
          case measure => simp [intOf]; omega
        | some b =>
          simp only [ptrV] at hsl
          have hpg := (HX.out.below hbw).pg k b hq
          have hbl := HX.out.ltG hq
          have hmem := HX.out.un k b hq
          have HPG := Lib.hid hpg
          have HT := Lib.hid ht
          have HU : Hid ((Try.prog.info? 157).map (·.size) = some (pgCells s.mm k).toList.length) := Lib.hid (by rw [page_size]; simp [pgCells])
          have HQ := Lib.hid (And.intro hq (And.intro hbl hmem))
          clear hq ht hbw hpg hbl hmem
          go_upto_region 9 with fail
          clear hsl
          have hS0 : (fun X : World => X.rangeAt b 0 (pgCells s.mm k).toList ∧ X.heap[b]? = some (.cells (pgCells s.mm k) 157 (0, 0))) wr.drew := ⟨pg_range (x := wr.drew) HPG.out, HPG.out⟩
          refine wp_region_held_drew (S := fun X : World => X.rangeAt b 0 (pgCells s.mm k).toList ∧ X.heap[b]? = some (.cells (pgCells s.mm k) 157 (0, 0))) (by kernel_rfl) hS0 (fun hHeld => ?_)
          clear hS0
          refine wpAnyH_take (i := 0) (v := (.int .i64 (k : Int))) rfl (by kernel_rfl) (by kernel_rfl) (by kernel_rfl) (fun _ _ _ h => h) (Or.inl ⟨by rfl, fun X hS => ?_⟩) hHeld ?_
          · go_simp
          try simp only [Act.put, List.getElem_toArray, List.getElem_cons_zero, List.getElem_cons_succ, List.setIfInBounds_toArray, List.set_cons_zero, List.set_cons_succ]
          refine wpAnyH_take (i := 2) (v := (.pointer (some ⟨b, 0, none⟩))) rfl (by kernel_rfl) (by kernel_rfl) (by kernel_rfl) (fun _ _ _ h => h) (Or.inl ⟨by rfl, fun X hS => ?_⟩) hHeld ?_
          · go_simp
          try simp only [Act.put, List.getElem_toArray, List.getElem_cons_zero, List.getElem_cons_succ, List.setIfInBounds_toArray, List.set_cons_zero, List.set_cons_succ]
          refine wpAnyH_take (i := 3) (v := (.pointer (some ⟨b, 0, none⟩))) rfl (by kernel_rfl) (by kernel_rfl) (by kernel_rfl) (fun _ _ _ h => h) (Or.inl ⟨by rfl, fun X hS => ?_⟩) hHeld ?_
          · go_simp
          try simp only [Act.put, List.getElem_toArray, List.getElem_cons_zero, List.getElem_cons_succ, List.setIfInBounds_toArray, List.set_cons_zero, List.set_cons_succ]
          refine wpAnyH_take (i := 4) (v := .agg (pgCells s.mm k)) rfl (by kernel_rfl) (by kernel_rfl) (by kernel_rfl) (fun _ _ _ h => h) (yieldsIf_load_mid (by rfl) 157 (.tmp 33) rfl b 0 rfl (pgCells s.mm k).toList _ (fun X hS => hS.1) Try.underlying157 rfl HU.out) hHeld ?_
          try simp only [Act.put, List.getElem_toArray, List.getElem_cons_zero, List.getElem_cons_succ, List.setIfInBounds_toArray, List.set_cons_zero, List.set_cons_succ]
          refine wpAnyH_ready (rs := [1]) (by kernel_rfl) (by simp) (AllReadyH.cons rfl (fun K1 hK1 => ?_) AllReadyH.nil)
          go_simp
          obtain ⟨qs, hx, h1q, hbw, hA1, hP1⟩ := HT.out
          have hxd : ArX w.heap.size { s with mm := upTo s.mm k } (w.heap.size + 1) qs p n cap wr.drew := hx.below (Below.refl _ _).drew
          refine (laid_page hxd k hlt HQ.out.2.2).mono ?_
          rintro e x1 ⟨b2, qs2, rfl, hqb, hx1, hst⟩
          have hnb : b ≠ b2 := fun e => by
            rcases hst.news k b2 hqb with h5 | h5
            · have := h1q k b2 h5; have := HQ.out.2.1; omega
            · have := HQ.out.2.1; have h6 : wr.heap.size ≤ b2 := h5; have := hbw.size; omega
          have hno : ¬ Own w.heap.size (w.heap.size + 1) qs b := fun ho => by
            have := HQ.out.2.1
            rcases ho with h5 | h5 | ⟨j, h5⟩
            · omega
            · omega
            · have := h1q j b h5; omega
          have hpg1 := (hst.block b (Nat.lt_of_lt_of_le HQ.out.2.1 hbw.size) hno).trans HPG.out
          have hS1 : (fun X : World => X.rangeAt b 0 (pgCells s.mm k).toList ∧ X.heap[b]? = some (.cells (pgCells s.mm k) 157 (0, 0))) x1 := ⟨pg_range hpg1, hpg1⟩
          have HM : Hid (Twin w.heap.size (w.heap.size + 1) s p n cap (k + 1) w (x1.setRow b2 (pgCells s.mm k))) := Lib.hid (Twin.more hx1 hqb (fun j c hc => by
              rcases hst.news j c hc with h5 | h5
              · exact h1q j c h5
              · exact Nat.le_trans hbw.size h5) (hbw.drew.trans (hst.below hbw.size hA1 hP1 h1q)) ⟨hA1, hP1⟩)
          have HX1 := Lib.hid (hx1.pg k b2 hqb)
          have HS2 : Hid ((fun X : World => X.rangeAt b 0 (pgCells s.mm k).toList ∧ X.heap[b]? = some (.cells (pgCells s.mm k) 157 (0, 0))) (x1.setRow b2 (pgCells s.mm k))) := Lib.hid (by
            have h7 := (setRow_other x1 b2 b (pgCells s.mm k) hnb).trans hpg1
            exact ⟨pg_range h7, h7⟩)
          clear hHeld hx h1q hbw hA1 hP1 hxd hqb hx1 hst hnb hno hpg1
          refine hK1.out _ _ hS1 (fun hHeld => ?_)
          clear hK1 hS1
          try simp only [Act.put, List.getElem_toArray, List.getElem_cons_zero, List.getElem_cons_succ, List.setIfInBounds_toArray, List.set_cons_zero, List.set_cons_succ]
          refine wpAnyH_take (i := 5) (v := .pointer (some ⟨b2, 0, none⟩)) rfl (by kernel_rfl) (by kernel_rfl) (by kernel_rfl) (fun _ _ _ h => h) (Or.inl ⟨by rfl, fun X hS => ?_⟩) hHeld ?_
          · go_simp
          try simp only [Act.put, List.getElem_toArray, List.getElem_cons_zero, List.getElem_cons_succ, List.setIfInBounds_toArray, List.set_cons_zero, List.set_cons_succ]
          refine wpAnyH_ready (rs := [6]) (by kernel_rfl) (by simp) (AllReadyH.cons rfl (fun K2 hK2 => ?_) AllReadyH.nil)
          rw [if_pos (by rfl)]
          refine wp_store_row 157 (.tmp 35) (.tmp 34) rfl b2 (pgCells s.mm k) rfl rfl 157 (pgCells (upTo s.mm k) k) HX1.out (by rw [page_size, pg_size]) (by rw [pg_size, pg_size]) (pg_one _ _) ?_
          refine hK2.out _ _ HS2.out (fun _ => ?_)
          clear hK2 hHeld HX1 HS2 HPG
          try simp only [Act.put, List.getElem_toArray, List.getElem_cons_zero, List.getElem_cons_succ, List.setIfInBounds_toArray, List.set_cons_zero, List.set_cons_succ]
          refine wpAnyH_done (by kernel_rfl) ?_ _
          go_wp2_with fail
          go_roundw
          case rel => exact ⟨k + 1, by omega, by go_num, HM.out⟩
          case measure => simp [intOf]; omega
    · have hk2 : k = s.L := by omega
      subst hk2
      have HT := Lib.hid ht
      clear ht
      go_wp2_with fail
      go_ret
      obtain ⟨qs, hx, h1q, hbw, hA1, hP1⟩ := HT.out
      have hx2 := hx.congr (m' := s.mm) fun i hi => by show upTo s.mm s.L i = s.mm i; unfold upTo; rw [if_pos (by have : i < s.L * 4096 := hi; omega)]
      refine ⟨w.heap.size, rfl, ⟨_, _, _, _, _, hx2⟩, hbw, Nat.le_refl _, fun i ho => ?_, fun i he => ?_⟩
      · rcases (ownW_iff hx2 i).1 ho with h5 | h5 | ⟨j, h5⟩
        · omega
        · omega
        · exact h1q j i h5
      · obtain ⟨off, h5⟩ := (edgW_iff hx2 i).1 he
        exact (edgW_iff HX.out i).2 ⟨off, h5⟩
end
end Go.Proofs.Ytoineackmpafdaa.Bt
/- The walk of BinsPlay. (Written by gen_bno.py.) -/
namespace Go.Proofs.Ytoineackmpafdaa.Bt
open Go Go.RowKit Go.Shelf
set_option linter.unusedVariables false
set_option linter.unusedSimpArgs false

def ActB (E : Nat) (d pg ow K : Int) (x : World) : Prop := x.heap[E]? = some (.cells #[.int .u8 d, .int .u8 pg, .int .u8 ow, .int .i64 K] 56 (0, 0))
theorem ActB.all {E : Nat} {d pg ow K : Int} {x : World} (h : ActB E d pg ow K x) : x.cell? ⟨E, 0, none⟩ = some (.int .u8 d) ∧ x.cell? ⟨E, 1, none⟩ = some (.int .u8 pg) ∧ x.cell? ⟨E, 2, none⟩ = some (.int .u8 ow) ∧ x.cell? ⟨E, 3, none⟩ = some (.int .i64 K) :=
  ⟨(cell_blk h 0).1, (cell_blk h 1).1, (cell_blk h 2).1, (cell_blk h 3).1⟩
theorem PlR.start {A R : Nat} {m : Nat → UInt8} {w x : World} (h : LawB A R (s13 m) w x) : PlR A R x.heap.size m q0P q0N (fun _ => []) w (x.alloc (.cells (qC q0P q0N q0N) 54)) :=
  ⟨h.below (bel1 _ _), heap_new _ _, fun k hk => .inl rfl, fun _ _ => rfl, fun _ => Nat.le_refl _, Mine.new h.o _, fun k hk hz => absurd rfl hz, fun k hk hz => absurd rfl hz, h.b.bel.size, fun k hk p hp => by cases hp⟩
structure PlE (A R Q E : Nat) (m : Nat → UInt8) (P : Nat → Option Addr) (C : Nat → Nat) (q : Nat → List Nat) (d pg ow K : Int) (w x : World) : Prop where
  r : PlR A R Q m P C q w x
  e : ActB E d pg ow K x
  ne : E ≠ Q
section
variable {A R Q E : Nat} {m m' : Nat → UInt8} {P : Nat → Option Addr} {C : Nat → Nat} {q : Nat → List Nat} {d pg ow K : Int} {w x y : World}
theorem PlE.below (h : PlE A R Q E m P C q d pg ow K w x) (hb : Below x.heap.size x y) : PlE A R Q E m P C q d pg ow K w y := ⟨h.r.below hb, blk_at hb h.e, h.ne⟩
theorem PlE.went (h : PlE A R Q E m P C q d pg ow K w x) (ho : On A (s13 m') y) (hg : Went A x y) : PlE A R Q E m' P C q d pg ow K w y := ⟨h.r.went ho hg, hg.keep h.r.lw.o h.e (by decide) (by decide) (by decide), h.ne⟩
theorem PlE.again (h : PlE A R Q E m P C q d pg ow K w x) (hne : R ≠ Q) :
    PlE A R Q E m P C q d pg ow K w (st5 x Q (.slice (P 0) (lnQ q 0) (C 0)) (.slice (P 1) (lnQ q 1) (C 1)) (.slice (P 2) (lnQ q 2) (C 2)) (.slice (P 3) (lnQ q 3) (C 3)) (.slice (P 4) (lnQ q 4) (C 4))) :=
  ⟨h.r.again hne, (st5_far x h.ne _ _ _ _ _).trans h.e, h.ne⟩
theorem PlE.turn (h : PlE A R Q E m P C q d pg ow K w x) (hb : Below x.heap.size x y) (hne : R ≠ Q) {k : Nat} (hk : k < 5) {l : List Nat} {p' : Option Addr} {c' : Nat}
    (hr : IntsRow y p' (adI l)) (hn : p' = none → c' = 0) (hc : l.length ≤ c') (hg : ∀ g off, p' = some ⟨g, off, none⟩ → x.heap.size ≤ g) (hl : ∀ p ∈ l, 1 ≤ p ∧ p ≤ 13) :
    PlE A R Q E m (up P k p') (up C k c') (updQ q k l) d pg ow K w (st5 y Q (.slice (up P k p' 0) (lnQ (updQ q k l) 0) (up C k c' 0)) (.slice (up P k p' 1) (lnQ (updQ q k l) 1) (up C k c' 1)) (.slice (up P k p' 2) (lnQ (updQ q k l) 2) (up C k c' 2)) (.slice (up P k p' 3) (lnQ (updQ q k l) 3) (up C k c' 3)) (.slice (up P k p' 4) (lnQ (updQ q k l) 4) (up C k c' 4))) :=
  ⟨h.r.turn hb hne hk hr hn hc hg hl, (st5_far y h.ne _ _ _ _ _).trans (blk_at hb h.e), h.ne⟩
end
theorem st_order {m : Nat → UInt8} {a : Int} (h : stB m a = true) : 0 ≤ rdO m a.toNat := by
  unfold stB at h
  have h1 : mayB a (rdO m a.toNat) (rdX m a.toNat) = true := by
    cases hq : mayB a (rdO m a.toNat) (rdX m a.toNat) with
    | true => rfl
    | false => rw [hq] at h; cases h
  exact ((mayB_iff _ _ _).1 h1).2.2.1.1
/-- at the end: the variables, the twin arena -/
structure FinS (A R Q A2 D : Nat) (m : Nat → UInt8) (P : Nat → Option Addr) (C : Nat → Nat) (q : Nat → List Nat) (w X : World) : Prop where
  c : (X.cell? ⟨D, 0, none⟩ = some (.pointer (some ⟨A2, 0, none⟩)) ∧ X.cell? ⟨D, 1, none⟩ = some (.int .i64 100) ∧ X.cell? ⟨D, 2, none⟩ = some (.int .i64 44)) ∧
    X.cell? ⟨Q, 0, none⟩ = some (.slice (P 0) (lnQ q 0) (C 0)) ∧ X.cell? ⟨Q, 1, none⟩ = some (.slice (P 1) (lnQ q 1) (C 1)) ∧ X.cell? ⟨Q, 2, none⟩ = some (.slice (P 2) (lnQ q 2) (C 2)) ∧ X.cell? ⟨Q, 3, none⟩ = some (.slice (P 3) (lnQ q 3) (C 3)) ∧ X.cell? ⟨Q, 4, none⟩ = some (.slice (P 4) (lnQ q 4) (C 4))
  r : PlR A R Q m P C q w X
  x : On A2 (s13 m) X
  b : B3 24 D (some ⟨A2, 0, none⟩) 100 44 X
theorem fin_mk {A R Q A2 D : Nat} {m : Nat → UInt8} {P : Nat → Option Addr} {C : Nat → Nat} {q : Nat → List Nat} {w X : World} (h : PlR A R Q m P C q w X) (x : On A2 (s13 m) X) (b : B3 24 D (some ⟨A2, 0, none⟩) 100 44 X) : FinS A R Q A2 D m P C q w X := ⟨⟨b.all.1, h.all.2⟩, h, x, b⟩
theorem FinS.below {A R Q A2 D : Nat} {m : Nat → UInt8} {P : Nat → Option Addr} {C : Nat → Nat} {q : Nat → List Nat} {w X Y : World} (h : FinS A R Q A2 D m P C q w X) (hb : Below X.heap.size X Y) : FinS A R Q A2 D m P C q w Y := fin_mk (h.r.below hb) (h.x.below hb) (h.b.below hb)
theorem fin_drew {A R Q A2 D : Nat} {m : Nat → UInt8} {P : Nat → Option Addr} {C : Nat → Nat} {q : Nat → List Nat} {w X : World} (h : PlR A R Q m P C q w X) (x : On A2 (s13 m) X) (b : B3 24 D (some ⟨A2, 0, none⟩) 100 44 X) (_ : Bn13 m q) : FinS A R Q A2 D m P C q w X.drew := (fin_mk h x b).below (Below.refl _ _).drew
def PlyR (A R Q : Nat) (len : Nat) (w : World) (s34 : Value) (wr : World) : Prop :=
  ∃ (i : Nat) (m : Nat → UInt8) (P : Nat → Option Addr) (C : Nat → Nat) (q : Nat → List Nat), i ≤ len ∧ s34 = .int .i64 (i : Int) ∧ PlR A R Q m P C q w wr ∧ Bn13 m q ∧ ∀ k, (q k).length ≤ i
set_option maxHeartbeats 16000000 in
set_option maxRecDepth 100000 in
theorem play11_all (p0 : Option Addr) (len cap : Nat) (w : World) (hr : ∃ acts : List Act11, acts.length = len ∧ len ≤ 9223372036854775807 ∧ Acts11At w p0 acts) : Calls Try.prog 5 #[.slice p0 len cap] w (TrueAt w) := by
  obtain ⟨acts, hal, hlen, hrow⟩ := hr
  have HR := Lib.hid hrow
  have HAL := Lib.hid hal
  have N0 := Lib.hid bn13_new
  clear hrow hal
  go_enter Try.func5, Try.ntmps5
  go_wp2_with fail
  refine (awake11_calls _).mono ?_
  rintro e w0 ⟨rfl, hb0⟩
  by_cases hl80 : 60 < len
  · have h80 : 60 < (len : Int) := by omega
    have HB0 := Lib.hid hb0
    clear hb0
    go_wp2_with fail
    go_ret
    exact ⟨rfl, HB0.out⟩
  have h80 : (len : Int) ≤ 60 := by omega
  have hlen80 : len ≤ 60 := by omega
  go_wp2_with fail
  refine (open11 _).mono ?_
  rintro e w1 ⟨A, rfl, hx, hb⟩
  obtain ⟨R, hRR⟩ : ∃ R, w1.heap.size = R := ⟨_, rfl⟩
  obtain ⟨w2, hw2⟩ : ∃ w2, w1.alloc (.cells #[.pointer (some ⟨A, 0, none⟩), .int .i64 100, .int .i64 44] 26) = w2 := ⟨_, rfl⟩
  have hl := LawB.start hx (hb.rebase hb0)
  have hsz : R < w2.heap.size := by rw [← hw2, ← hRR]; simp
  rw [hw2, hRR] at hl
  have HW2 := Lib.hid hw2
  obtain ⟨Q, hQ⟩ : ∃ Q, w2.heap.size = Q := ⟨_, rfl⟩
  have HNE : Hid (R ≠ Q) := Lib.hid (by omega)
  have hst := PlR.start hl
  rw [hQ] at hst
  have HST0 := Lib.hid hst
  have HQ2 := Lib.hid hQ
  clear hx hb hw2 hl hb0 hl80 hlen hsz hst hQ
  go_upto_region 6 with fail
  change Code.wp _ _ _ _ (w1.alloc (.cells #[.pointer (some ⟨A, 0, none⟩), .int .i64 100, .int .i64 44] 26))
  rw [HW2.out]
  clear HW2 hRR
  go_upto_region 9 with fail
  change Code.wp _ _ _ _ (w2.alloc (.cells (qC q0P q0N q0N) 54))
  obtain ⟨w3, hw3⟩ : ∃ w3, w2.alloc (.cells (qC q0P q0N q0N) 54) = w3 := ⟨_, rfl⟩
  rw [hw3] at HST0
  rw [hw3, HQ2.out]
  have HST : Hid (PlyR A R Q len w (.int .i64 0) w3) := Lib.hid ⟨0, _, _, _, _, Nat.zero_le _, rfl, HST0.out, N0.out, fun k => Nat.le_refl _⟩
  clear HST0 hw3 HQ2
  go_wp2_with fail
  go_loopw [34] (fun s34 wr => PlyR A R Q len w s34 wr) (fun s34 _ => len - (intOf s34).toNat)
  case atStart => exact HST.out
  case round =>
    clear HST
    obtain ⟨i, m, P, C, q, hi, rfl, hv, hbn, hln⟩ := hrel
    have HV := Lib.hid hv
    have HBN := Lib.hid hbn
    have HLN := Lib.hid hln
    by_cases hlt : i < len
    · have hla : i < acts.length := by rw [HAL.out]; exact hlt
      obtain ⟨b, off, rfl, hbl, d, pg, ow, K, c0, c1, c2, c3, ⟨d0, d1, g0, g1, o0, o1, k0, k1⟩⟩ : ∃ b off, p0 = some ⟨b, off, none⟩ ∧ b < w.heap.size ∧ ∃ d pg ow K, w.cell? ⟨b, off + i * 4, none⟩ = some (.int .u8 d) ∧ w.cell? ⟨b, off + i * 4 + 1, none⟩ = some (.int .u8 pg) ∧ w.cell? ⟨b, off + i * 4 + 2, none⟩ = some (.int .u8 ow) ∧ w.cell? ⟨b, off + i * 4 + 3, none⟩ = some (.int .i64 K) ∧ Act11.ok ⟨d, pg, ow, K⟩ := by
        rcases HR.out with he | ⟨b, off, e, hbl, hc⟩
        · rw [he] at hla; simp at hla
        · obtain ⟨⟨x0, x1, x2, x3⟩, hok⟩ := hc i hla
          exact ⟨b, off, e, hbl, _, _, _, _, x0, x1, x2, x3, hok⟩
      have c0 := (hv.lw.b.bel.cell (p := ⟨b, off + i * 4, none⟩) hbl).trans c0
      have c1 := (hv.lw.b.bel.cell (p := ⟨b, off + i * 4 + 1, none⟩) hbl).trans c1
      have c2 := (hv.lw.b.bel.cell (p := ⟨b, off + i * 4 + 2, none⟩) hbl).trans c2
      have c3 := (hv.lw.b.bel.cell (p := ⟨b, off + i * 4 + 3, none⟩) hbl).trans c3
      simp only at d0 d1 g0 g1 o0 o1 k0 k1
      obtain ⟨r, hr13, hr⟩ : ∃ r : Nat, r < 13 ∧ pg.tmod 13 = (r : Int) := ⟨(pg.tmod 13).toNat, by rw [Int.tmod_eq_emod_of_nonneg g0]; omega, by rw [Int.tmod_eq_emod_of_nonneg g0]; omega⟩
      obtain ⟨dm, hdm, hdm0, hdm4⟩ : ∃ dm : Int, d.tmod 4 = dm ∧ 0 ≤ dm ∧ dm < 4 := ⟨_, rfl, by rw [Int.tmod_eq_emod_of_nonneg d0]; omega, by rw [Int.tmod_eq_emod_of_nonneg d0]; omega⟩
      obtain ⟨um, hum, hum0, hum3⟩ : ∃ um : Int, ow.tmod 3 = um ∧ 0 ≤ um ∧ um < 3 := ⟨_, rfl, by rw [Int.tmod_eq_emod_of_nonneg o0]; omega, by rw [Int.tmod_eq_emod_of_nonneg o0]; omega⟩
      have HQ : Hid ((4096 : Int) * (1 + (r : Int)) = ((4096 * (r + 1) : Nat) : Int)) := Lib.hid (by omega)
      obtain ⟨p, hp⟩ : ∃ p, r + 1 = p := ⟨_, rfl⟩
      have hp1 : 1 ≤ p := by omega
      have hp13 : p ≤ 13 := by omega
      rw [hp] at HQ
      clear hv hbn hln hla hbl
      go_upto_region 12 with fail
      have hb := bel1 wr (.cells #[.int .u8 d, .int .u8 pg, .int .u8 ow, .int .i64 K] 56)
      have hpe : PlE A R Q wr.heap.size m P C q d pg ow K w (wr.alloc (.cells #[.int .u8 d, .int .u8 pg, .int .u8 ow, .int .i64 K] 56)) := ⟨HV.out.below hb, heap_new _ _, by have := HV.out.mq.lt; omega⟩
      obtain ⟨y, hy⟩ : ∃ y, wr.alloc (.cells #[.int .u8 d, .int .u8 pg, .int .u8 ow, .int .i64 K] 56) = y := ⟨_, rfl⟩
      obtain ⟨E, hE⟩ : ∃ E, wr.heap.size = E := ⟨_, rfl⟩
      change Code.wp _ _ _ _ (wr.alloc (.cells #[.int .u8 d, .int .u8 pg, .int .u8 ow, .int .i64 K] 56))
      rw [hy, hE] at hpe
      rw [hy, hE]
      have H := Lib.hid hpe
      clear hb hpe hy hE c0 c1 c2 c3 HV
      obtain ⟨⟨xb0, xb1, xb2⟩, xq0, xq1, xq2, xq3, xq4⟩ := H.out.r.all
      obtain ⟨xe0, xe1, xe2, xe3⟩ := H.out.e.all
      go_upto_region 29 with fail
      rw [HQ.out]
      obtain ⟨a, ha⟩ : ∃ a : Int, ((4096 * p : Nat) : Int) = a := ⟨_, rfl⟩
      have ha0 : 4096 ≤ a := by omega
      have ha13 : a ≤ 53248 := by omega
      rw [ha]
      have HA := Lib.hid ha
      clear HQ hr hr13 hp ha xb0 xb1 xb2 xq0 xq1 xq2 xq3 xq4 xe0 xe1 xe2 xe3
      by_cases h3 : dm = 3
      · subst h3
        have HCS : Hid ((¬ (0 ≤ K ∧ K ≤ 4) ∨ ∃ k : Nat, k < 5 ∧ K = (k : Int) ∧ q k = []) ∨ ∃ (k p1 : Nat) (l : List Nat), k < 5 ∧ K = (k : Int) ∧ q k = p1 :: l) := Lib.hid (by
          by_cases e : 0 ≤ K ∧ K ≤ 4
          · cases hq : q K.toNat with
            | nil => exact .inl (.inr ⟨K.toNat, by omega, by omega, hq⟩)
            | cons p1 l => exact .inr ⟨K.toNat, p1, l, by omega, by omega, hq⟩
          · exact .inl (.inl e))
        rcases HCS.out with hno | ⟨k, p1, l, hk5, hKk, hql⟩
        · -- nothing there
          have HPN : Hid (∀ y, On A (s13 m) y → Calls Try.prog 17 #[.agg #[.pointer (some ⟨A, 0, none⟩), .int .i64 100, .int .i64 44], .int .i64 K] y (Gives (.tuple #[.agg #[.int .i64 0, .int .i64 0, .int .u64 0, .int .i64 0], .bool false]) y)) := Lib.hid (by
            intro y hy
            rcases hno with e | ⟨k, hk5, rfl, hq⟩
            · exact bpop_arg (some ⟨A, 0, none⟩) 100 44 K e
            · exact bpop_empty hy 100 44 k (by omega) (by omega) (by omega) hk5 (there13 (by omega) (by omega) (by omega)) (by show hdC m 100 k = 0; rw [Bn.many HBN.out k hk5, hq]; rfl))
          have HQN : Hid (∀ y, Calls Try.prog 26 #[.agg (qC P (lnQ q) C), .int .i64 K] y (QPopN P (lnQ q) C y)) := Lib.hid (by
            intro y
            rcases hno with e | ⟨k, hk5, rfl, hq⟩
            · exact qpop_out P (lnQ q) C K e y
            · exact qpop_empty P (lnQ q) C k hk5 (by show (q k).length = 0; rw [hq]; rfl) y)
          clear HCS hno
          obtain ⟨⟨xb0, xb1, xb2⟩, xq0, xq1, xq2, xq3, xq4⟩ := H.out.r.all
          obtain ⟨xe0, xe1, xe2, xe3⟩ := H.out.e.all
          go_wp2_with fail
          refine (HPN.out _ H.out.r.lw.o).mono ?_
          rintro e w4 ⟨rfl, hb⟩
          have H4 := Lib.hid (H.out.below hb)
          clear hb H HPN xb0 xb1 xb2 xq0 xq1 xq2 xq3 xq4 xe0 xe1 xe2 xe3
          go_upto_region 31 with fail

          have hb := bel1 w4 (.cells (cC 0 0 0 0) 35)
          have hh := H4.out.below hb
          have hcb := cb_new w4 0 0 0 0
          obtain ⟨z, hy⟩ : ∃ y, w4.alloc (.cells (cC 0 0 0 0) 35) = y := ⟨_, rfl⟩
          obtain ⟨D, hD⟩ : ∃ C, w4.heap.size = C := ⟨_, rfl⟩
          change Code.wp _ _ _ _ (w4.alloc (.cells (cC 0 0 0 0) 35))
          rw [hy] at hh hcb
          rw [hD] at hcb
          rw [hy, hD]
          have H5 := Lib.hid hh
          have HC5 := Lib.hid hcb
          clear hb hh hy hD hcb H4
          obtain ⟨⟨xb0, xb1, xb2⟩, xq0, xq1, xq2, xq3, xq4⟩ := H5.out.r.all
          obtain ⟨xe0, xe1, xe2, xe3⟩ := H5.out.e.all
          go_wp2_with fail
          refine (HQN.out _).mono ?_
          rintro e w5 ⟨rfl, hb⟩
          have H6 := Lib.hid (H5.out.below hb)
          have HC6 := Lib.hid (show CB D 0 0 0 0 w5 from blk_at hb HC5.out)
          clear hb HQN H5 HC5 xb0 xb1 xb2 xq0 xq1 xq2 xq3 xq4 xe0 xe1 xe2 xe3
          unfold qC
          go_upto_region 32 with fail

          have hb := bel1 w5 (.cells (qC P (lnQ q) C) 54)
          have hh := H6.out.below hb
          have hcd := (show CB D 0 0 0 0 (w5.alloc (.cells (qC P (lnQ q) C) 54)) from blk_at hb HC6.out)
          have hqf : QBx w5.heap.size P (lnQ q) C (w5.alloc (.cells (qC P (lnQ q) C) 54)) := heap_new _ _
          have HBB := Lib.hid hb
          obtain ⟨z2, hy⟩ : ∃ y, w5.alloc (.cells (qC P (lnQ q) C) 54) = y := ⟨_, rfl⟩
          obtain ⟨F, hD⟩ : ∃ C, w5.heap.size = C := ⟨_, rfl⟩
          change Code.wp _ _ _ _ (w5.alloc (.cells (qC P (lnQ q) C) 54))
          rw [hy] at hh hcd hqf HBB
          rw [hD] at hqf
          rw [hy, hD]
          have H7 := Lib.hid hh
          have HC7 := Lib.hid hcd
          have HF7 := Lib.hid hqf
          clear hb hh hy hD hcd hqf HC6 H6
          obtain ⟨⟨xb0, xb1, xb2⟩, xq0, xq1, xq2, xq3, xq4⟩ := H7.out.r.all
          obtain ⟨xe0, xe1, xe2, xe3⟩ := H7.out.e.all
          obtain ⟨xd0, xd1, xd2, xd3⟩ := HC7.out.all
          obtain ⟨xf0, xf1, xf2, xf3, xf4⟩ := HF7.out.all.1
          obtain ⟨xz0, xz1, xz2, xz3, xz4⟩ := H7.out.r.fz
          go_upto_region 36 with fail
          change Code.wp _ _ _ _ (st5 z2 Q (.slice (P 0) (lnQ q 0) (C 0)) (.slice (P 1) (lnQ q 1) (C 1)) (.slice (P 2) (lnQ q 2) (C 2)) (.slice (P 3) (lnQ q 3) (C 3)) (.slice (P 4) (lnQ q 4) (C 4)))
          have hh := H7.out.again HNE.out
          generalize st5 z2 Q (.slice (P 0) (lnQ q 0) (C 0)) (.slice (P 1) (lnQ q 1) (C 1)) (.slice (P 2) (lnQ q 2) (C 2)) (.slice (P 3) (lnQ q 3) (C 3)) (.slice (P 4) (lnQ q 4) (C 4)) = z3 at hh ⊢
          have H8 := Lib.hid hh
          clear hh H7 HC7 HF7 xd0 xd1 xd2 xd3 xf0 xf1 xf2 xf3 xf4 xz0 xz1 xz2 xz3 xz4 xb0 xb1 xb2 xq0 xq1 xq2 xq3 xq4 xe0 xe1 xe2 xe3
          obtain ⟨⟨xb0, xb1, xb2⟩, xq0, xq1, xq2, xq3, xq4⟩ := H8.out.r.all
          obtain ⟨xe0, xe1, xe2, xe3⟩ := H8.out.e.all
          have HLT : Hid (∀ j0, (q j0).length ≤ i + 1) := Lib.hid (fun k => by have := HLN.out k; omega)
          have HT := Lib.hid (btold_ok H8.out.r.lw.o P (lnQ q) C q HBN.out H8.out.r.qa (fun _ => rfl) (fun j0 => by have := HLT.out j0; omega) K)
          go_wp2_with fail
          refine HT.out.mono ?_
          rintro e w9 ⟨rfl, hb⟩
          have H9 := Lib.hid (H8.out.below hb)
          clear hb HT xb0 xb1 xb2 xq0 xq1 xq2 xq3 xq4 xe0 xe1 xe2 xe3
          go_wp2_with fail
          go_roundw
          case rel => exact ⟨i + 1, m, P, C, q, by omega, by go_num, H9.out.r, HBN.out, HLT.out⟩
          case measure => simp [intOf]; omega
        · -- the newest
          have hlk : (q k).length ≤ i := HLN.out k
          have hpp := (H.out.r.pg k hk5)
          have hp1b := hpp p1 (by rw [hql]; simp)
          obtain ⟨s1, s2, s3⟩ := Bn.pop HBN.out hk5 hql (by omega) (fun p hp => by have := hpp p hp; omega)
          have hlp : l.length + 1 = (q k).length := by rw [hql]; simp
          have HPN := Lib.hid (fun (y : World) (hy : On A (s13 m) y) => pop13 hy hk5 (HBN.out.at_ k hk5 p1 (by rw [hql]; simp)) (by rw [HBN.out.many k hk5]; omega) (HBN.out.top k hk5 p1 l hql) (by omega))
          have HQN := Lib.hid (fun (y : World) (hy : QAt P q y) => qpop_some P (lnQ q) C q k p1 l hk5 y hy rfl (by omega) (H.out.r.cc k) hql)
          have HL1 : Hid (lnQ q k - 1 = l.length) := Lib.hid (by show (q k).length - 1 = _; omega)
          have HBN2 : Hid (Bn13 (popM m 100 k p1) (updQ q k l)) := Lib.hid s1
          have HLL : Hid (∀ j, (updQ q k l j).length ≤ i + 1) := Lib.hid (updQ_len HLN.out (by omega))
          have HPL : Hid (∀ p ∈ l, 1 ≤ p ∧ p ≤ 13) := Lib.hid fun p hp => hpp p (by rw [hql]; simp [hp])
          have HKI : Hid ((k : Int) = K) := Lib.hid hKk.symm
          obtain ⟨m2, hm2⟩ : ∃ m2, popM m 100 k p1 = m2 := ⟨_, rfl⟩
          rw [hm2] at HPN HBN2
          rw [HKI.out] at HPN HQN
          have HP1 : Hid (((4096 * p1 : Nat) : Int) ≤ 1000000) := Lib.hid (by omega)
          obtain ⟨a2, ha⟩ : ∃ a : Int, ((4096 * p1 : Nat) : Int) = a := ⟨_, rfl⟩
          rw [ha] at HPN HP1
          have HA1 := Lib.hid ha
          have HAC := HP1
          have HKK := HKI
          have HK5 := Lib.hid hk5
          clear HCS hlk hpp hp1b s1 s2 s3 hlp hm2 hKk hql ha hk5
          obtain ⟨⟨xb0, xb1, xb2⟩, xq0, xq1, xq2, xq3, xq4⟩ := H.out.r.all
          obtain ⟨xe0, xe1, xe2, xe3⟩ := H.out.e.all
          go_wp2_with fail
          refine (HPN.out _ H.out.r.lw.o).mono ?_
          rintro e w4 ⟨rfl, hx, hg⟩
          have H4 := Lib.hid (H.out.went hx hg)
          clear hx hg H HPN xb0 xb1 xb2 xq0 xq1 xq2 xq3 xq4 xe0 xe1 xe2 xe3
          go_upto_region 31 with fail

          have hb := bel1 w4 (.cells (cC a2 K 0 0) 35)
          have hh := H4.out.below hb
          have hcb := cb_new w4 a2 K 0 0
          obtain ⟨z, hy⟩ : ∃ y, w4.alloc (.cells (cC a2 K 0 0) 35) = y := ⟨_, rfl⟩
          obtain ⟨D, hD⟩ : ∃ C, w4.heap.size = C := ⟨_, rfl⟩
          change Code.wp _ _ _ _ (w4.alloc (.cells (cC a2 K 0 0) 35))
          rw [hy] at hh hcb
          rw [hD] at hcb
          rw [hy, hD]
          have H5 := Lib.hid hh
          have HC5 := Lib.hid hcb
          clear hb hh hy hD hcb H4
          obtain ⟨⟨xb0, xb1, xb2⟩, xq0, xq1, xq2, xq3, xq4⟩ := H5.out.r.all
          obtain ⟨xe0, xe1, xe2, xe3⟩ := H5.out.e.all
          go_wp2_with fail
          refine (HQN.out _ H5.out.r.qa).mono ?_
          rintro e w5 ⟨p', c', rfl, hrw, hn', hc', hg', hb⟩
          have HRW := Lib.hid (And.intro hrw (And.intro hn' (And.intro hc' hg')))
          have HB5 := Lib.hid hb
          have H6 := Lib.hid (H5.out.below hb)
          have HC6 := Lib.hid (show CB D a2 K 0 0 w5 from blk_at hb HC5.out)
          rw [HA1.out]
          clear hrw hn' hc' hg' hb HQN HC5 xb0 xb1 xb2 xq0 xq1 xq2 xq3 xq4 xe0 xe1 xe2 xe3
          unfold qC
          go_upto_region 32 with fail

          have hb := bel1 w5 (.cells (qC (up P k p') (up (lnQ q) k (lnQ q k - 1)) (up C k c')) 54)
          have hh := H6.out.below hb
          have hcd := (show CB D a2 K 0 0 (w5.alloc (.cells (qC (up P k p') (up (lnQ q) k (lnQ q k - 1)) (up C k c')) 54)) from blk_at hb HC6.out)
          have hqf : QBx w5.heap.size (up P k p') (up (lnQ q) k (lnQ q k - 1)) (up C k c') (w5.alloc (.cells (qC (up P k p') (up (lnQ q) k (lnQ q k - 1)) (up C k c')) 54)) := heap_new _ _
          have HBB := Lib.hid hb
          obtain ⟨z2, hy⟩ : ∃ y, w5.alloc (.cells (qC (up P k p') (up (lnQ q) k (lnQ q k - 1)) (up C k c')) 54) = y := ⟨_, rfl⟩
          obtain ⟨F, hD⟩ : ∃ C, w5.heap.size = C := ⟨_, rfl⟩
          change Code.wp _ _ _ _ (w5.alloc (.cells (qC (up P k p') (up (lnQ q) k (lnQ q k - 1)) (up C k c')) 54))
          rw [hy] at hh hcd hqf HBB
          rw [hD] at hqf
          rw [hy, hD]
          have H7 := Lib.hid hh
          have HC7 := Lib.hid hcd
          have HF7 := Lib.hid hqf
          clear hb hh hy hD hcd hqf HC6
          obtain ⟨⟨xb0, xb1, xb2⟩, xq0, xq1, xq2, xq3, xq4⟩ := H7.out.r.all
          obtain ⟨xe0, xe1, xe2, xe3⟩ := H7.out.e.all
          obtain ⟨xd0, xd1, xd2, xd3⟩ := HC7.out.all
          obtain ⟨xf0, xf1, xf2, xf3, xf4⟩ := HF7.out.all.1
          obtain ⟨xz0, xz1, xz2, xz3, xz4⟩ := H7.out.r.fz
          have hac := HAC.out
          have hkk := HKK.out
          go_upto_region 36 with fail
          change Code.wp _ _ _ _ (st5 z2 Q (.slice (up P k p' 0) (up (lnQ q) k (lnQ q k - 1) 0) (up C k c' 0)) (.slice (up P k p' 1) (up (lnQ q) k (lnQ q k - 1) 1) (up C k c' 1)) (.slice (up P k p' 2) (up (lnQ q) k (lnQ q k - 1) 2) (up C k c' 2)) (.slice (up P k p' 3) (up (lnQ q) k (lnQ q k - 1) 3) (up C k c' 3)) (.slice (up P k p' 4) (up (lnQ q) k (lnQ q k - 1) 4) (up C k c' 4)))
          rw [HL1.out, lnQ_up]
          have hbz := HB5.out.trans (HBB.out.mono HB5.out.size)
          have hh := H5.out.turn hbz HNE.out HK5.out (HRW.out.1.belowB HBB.out) HRW.out.2.1 HRW.out.2.2.1 HRW.out.2.2.2 HPL.out
          generalize st5 z2 Q (.slice (up P k p' 0) (lnQ (updQ q k l) 0) (up C k c' 0)) (.slice (up P k p' 1) (lnQ (updQ q k l) 1) (up C k c' 1)) (.slice (up P k p' 2) (lnQ (updQ q k l) 2) (up C k c' 2)) (.slice (up P k p' 3) (lnQ (updQ q k l) 3) (up C k c' 3)) (.slice (up P k p' 4) (lnQ (updQ q k l) 4) (up C k c' 4)) = z3 at hh ⊢
          have H8 := Lib.hid hh
          clear hh hbz H7 HC7 HF7 xd0 xd1 xd2 xd3 xf0 xf1 xf2 xf3 xf4 xz0 xz1 xz2 xz3 xz4 hac hkk H5 HB5 HBB HRW xb0 xb1 xb2 xq0 xq1 xq2 xq3 xq4 xe0 xe1 xe2 xe3
          obtain ⟨⟨xb0, xb1, xb2⟩, xq0, xq1, xq2, xq3, xq4⟩ := H8.out.r.all
          obtain ⟨xe0, xe1, xe2, xe3⟩ := H8.out.e.all
          have HLT : Hid (∀ j0, ((updQ q k l) j0).length ≤ i + 1) := Lib.hid HLL.out
          have HT := Lib.hid (btold_ok H8.out.r.lw.o (up P k p') (lnQ (updQ q k l)) (up C k c') (updQ q k l) HBN2.out H8.out.r.qa (fun _ => rfl) (fun j0 => by have := HLT.out j0; omega) K)
          go_wp2_with fail
          refine HT.out.mono ?_
          rintro e w9 ⟨rfl, hb⟩
          have H9 := Lib.hid (H8.out.below hb)
          clear hb HT xb0 xb1 xb2 xq0 xq1 xq2 xq3 xq4 xe0 xe1 xe2 xe3
          go_wp2_with fail
          go_roundw
          case rel => exact ⟨i + 1, m2, (up P k p'), (up C k c'), (updQ q k l), by omega, by go_num, H9.out.r, HBN2.out, HLT.out⟩
          case measure => simp [intOf]; omega
      · obtain ⟨⟨xb0, xb1, xb2⟩, xq0, xq1, xq2, xq3, xq4⟩ := H.out.r.all
        obtain ⟨xe0, xe1, xe2, xe3⟩ := H.out.e.all
        go_upto_region 35 with fail
        go_wp2_with fail
        refine (qhas_any P (lnQ q) C q a _ H.out.r.qa (fun _ => rfl) (fun k => by have := HLN.out k; omega)).mono ?_
        rintro e w4 ⟨rfl, hb⟩
        have H3 := Lib.hid (H.out.below hb)
        clear hb H xb0 xb1 xb2 xq0 xq1 xq2 xq3 xq4 xe0 xe1 xe2 xe3
        cases hhq : hasQ q a with
        | true =>
          clear hhq
          go_wp2_with fail
          go_roundw
          case rel => exact ⟨i + 1, m, P, C, q, by omega, by go_num, H3.out.r, HBN.out, fun k => by have := HLN.out k; omega⟩
          case measure => simp [intOf]; omega
        | false =>
          have HNQ : Hid (∀ k, k < 5 → p ∉ q k) := Lib.hid (hasQ_not (by rw [HA.out]; exact hhq))
          clear hhq
          by_cases h2 : dm < 2
          · -- written
            have HWR := Lib.hid (fun (y : World) (hy : On A (s13 m) y) => bwrite_any hy HBN.out hp1 hp13 HNQ.out K um (by omega))
            rw [HA.out] at HWR
            obtain ⟨⟨xb0, xb1, xb2⟩, xq0, xq1, xq2, xq3, xq4⟩ := H3.out.r.all
            obtain ⟨xe0, xe1, xe2, xe3⟩ := H3.out.e.all
            go_upto_region 14 with fail
            go_wp2_with fail
            refine (HWR.out _ H3.out.r.lw.o).mono ?_
            rintro e w5 ⟨rv, m1, rfl, hx, hg, hbn1⟩
            have H4 := Lib.hid (H3.out.went hx hg)
            have HB4 := Lib.hid hbn1
            clear hx hg hbn1 HWR H3 HBN xb0 xb1 xb2 xq0 xq1 xq2 xq3 xq4 xe0 xe1 xe2 xe3
            have HB4R := HB4
            rcases rd_shape (s13 m1) a with ⟨er, her, hrd⟩ | ⟨hrd, hth, hst⟩
            · have HRD := Lib.hid (read_any H4.out.r.lw.o a (by omega))
              rw [hrd] at HRD
              have HPU := Lib.hid (fun (y : World) (hy : On A (s13 m1) y) => bpush_rd hy 100 44 (by omega) (by omega) (by omega) (there13 (by omega) (by omega) (by omega)) a (by omega) er her 0 hrd)
              have HER : Hid (er ≠ 0 ∧ (er == 0) = false) := Lib.hid (by simpa using her)
              clear her hrd
              obtain ⟨⟨xb0, xb1, xb2⟩, xq0, xq1, xq2, xq3, xq4⟩ := H4.out.r.all
              obtain ⟨xe0, xe1, xe2, xe3⟩ := H4.out.e.all
              go_wp2_with fail
              refine HRD.out.mono ?_
              rintro e w5 ⟨rfl, hb⟩
              have H5 := Lib.hid (H4.out.below hb)
              clear hb HRD H4 xb0 xb1 xb2 xq0 xq1 xq2 xq3 xq4 xe0 xe1 xe2 xe3
              go_upto_region 16 with fail

              have hb := bel1 w5 (.cells (cC 0 0 0 0) 35)
              have hh := H5.out.below hb
              have hcb := cb_new w5 0 0 0 0
              obtain ⟨z, hy⟩ : ∃ y, w5.alloc (.cells (cC 0 0 0 0) 35) = y := ⟨_, rfl⟩
              obtain ⟨D, hD⟩ : ∃ C, w5.heap.size = C := ⟨_, rfl⟩
              change Code.wp _ _ _ _ (w5.alloc (.cells (cC 0 0 0 0) 35))
              rw [hy] at hh hcb
              rw [hD] at hcb
              rw [hy, hD]
              have H6 := Lib.hid hh
              have HC6 := Lib.hid hcb
              clear hb hh hy hD hcb H5
              obtain ⟨⟨xb0, xb1, xb2⟩, xq0, xq1, xq2, xq3, xq4⟩ := H6.out.r.all
              obtain ⟨xe0, xe1, xe2, xe3⟩ := H6.out.e.all
              go_wp2_with fail
              refine (HPU.out _ H6.out.r.lw.o).mono ?_
              rintro e w6 ⟨rfl, hb⟩
              have H7 := Lib.hid (H6.out.below hb)
              have HC7 := Lib.hid (show CB D 0 0 0 0 w6 from blk_at hb HC6.out)
              clear hb H6 HC6 HPU xb0 xb1 xb2 xq0 xq1 xq2 xq3 xq4 xe0 xe1 xe2 xe3
              obtain ⟨⟨xb0, xb1, xb2⟩, xq0, xq1, xq2, xq3, xq4⟩ := H7.out.r.all
              obtain ⟨xe0, xe1, xe2, xe3⟩ := H7.out.e.all
              obtain ⟨xd0, xd1, xd2, xd3⟩ := HC7.out.all
              have her1 := HER.out.1
              have her2 := HER.out.2
              go_upto_region 36 with fail
              clear xb0 xb1 xb2 xq0 xq1 xq2 xq3 xq4 xe0 xe1 xe2 xe3

              obtain ⟨⟨xb0, xb1, xb2⟩, xq0, xq1, xq2, xq3, xq4⟩ := H7.out.r.all
              obtain ⟨xe0, xe1, xe2, xe3⟩ := H7.out.e.all
              have HLT : Hid (∀ j0, (q j0).length ≤ i + 1) := Lib.hid (fun k => by have := HLN.out k; omega)
              have HT := Lib.hid (btold_ok H7.out.r.lw.o P (lnQ q) C q HB4.out H7.out.r.qa (fun _ => rfl) (fun j0 => by have := HLT.out j0; omega) K)
              go_wp2_with fail
              refine HT.out.mono ?_
              rintro e w9 ⟨rfl, hb⟩
              have H9 := Lib.hid (H7.out.below hb)
              clear hb HT xb0 xb1 xb2 xq0 xq1 xq2 xq3 xq4 xe0 xe1 xe2 xe3
              go_wp2_with fail
              go_roundw
              case rel => exact ⟨i + 1, m1, P, C, q, by omega, by go_num, H9.out.r, HB4.out, HLT.out⟩
              case measure => simp [intOf]; omega
            · obtain ⟨o1, ho1⟩ : ∃ o, rdO (s13 m1).mm a.toNat = o := ⟨_, rfl⟩
              obtain ⟨u1, hu1⟩ : ∃ o, rdU (s13 m1).mm a.toNat = o := ⟨_, rfl⟩
              obtain ⟨x1, hx1⟩ : ∃ o, rdX (s13 m1).mm a.toNat = o := ⟨_, rfl⟩
              rw [ho1, hu1, hx1] at hrd
              have hoge : 0 ≤ o1 := by rw [← ho1]; exact st_order hst
              have HRD := Lib.hid (read_any H4.out.r.lw.o a (by omega))
              rw [hrd] at HRD
              by_cases ho4 : 4 < o1
              · have HPU := Lib.hid (fun (y : World) (hy : On A (s13 m1) y) => bpush_ord hy 100 44 (by omega) (by omega) (by omega) (there13 (by omega) (by omega) (by omega)) a (by omega) a o1 u1 x1 (by omega) hrd)
                have HER : Hid (4 < o1) := Lib.hid ho4
                clear hrd ho1 hu1 hx1 hth hst hoge ho4
                obtain ⟨⟨xb0, xb1, xb2⟩, xq0, xq1, xq2, xq3, xq4⟩ := H4.out.r.all
                obtain ⟨xe0, xe1, xe2, xe3⟩ := H4.out.e.all
                go_wp2_with fail
                refine HRD.out.mono ?_
                rintro e w5 ⟨rfl, hb⟩
                have H5 := Lib.hid (H4.out.below hb)
                clear hb HRD H4 xb0 xb1 xb2 xq0 xq1 xq2 xq3 xq4 xe0 xe1 xe2 xe3
                go_upto_region 16 with fail

                have hb := bel1 w5 (.cells (cC a o1 u1 x1) 35)
                have hh := H5.out.below hb
                have hcb := cb_new w5 a o1 u1 x1
                obtain ⟨z, hy⟩ : ∃ y, w5.alloc (.cells (cC a o1 u1 x1) 35) = y := ⟨_, rfl⟩
                obtain ⟨D, hD⟩ : ∃ C, w5.heap.size = C := ⟨_, rfl⟩
                change Code.wp _ _ _ _ (w5.alloc (.cells (cC a o1 u1 x1) 35))
                rw [hy] at hh hcb
                rw [hD] at hcb
                rw [hy, hD]
                have H6 := Lib.hid hh
                have HC6 := Lib.hid hcb
                clear hb hh hy hD hcb H5
                obtain ⟨⟨xb0, xb1, xb2⟩, xq0, xq1, xq2, xq3, xq4⟩ := H6.out.r.all
                obtain ⟨xe0, xe1, xe2, xe3⟩ := H6.out.e.all
                go_wp2_with fail
                refine (HPU.out _ H6.out.r.lw.o).mono ?_
                rintro e w6 ⟨rfl, hb⟩
                have H7 := Lib.hid (H6.out.below hb)
                have HC7 := Lib.hid (show CB D a o1 u1 x1 w6 from blk_at hb HC6.out)
                clear hb H6 HC6 HPU xb0 xb1 xb2 xq0 xq1 xq2 xq3 xq4 xe0 xe1 xe2 xe3
                obtain ⟨⟨xb0, xb1, xb2⟩, xq0, xq1, xq2, xq3, xq4⟩ := H7.out.r.all
                obtain ⟨xe0, xe1, xe2, xe3⟩ := H7.out.e.all
                obtain ⟨xd0, xd1, xd2, xd3⟩ := HC7.out.all
                have her1 := HER.out
                go_upto_region 36 with fail
                clear xb0 xb1 xb2 xq0 xq1 xq2 xq3 xq4 xe0 xe1 xe2 xe3

                obtain ⟨⟨xb0, xb1, xb2⟩, xq0, xq1, xq2, xq3, xq4⟩ := H7.out.r.all
                obtain ⟨xe0, xe1, xe2, xe3⟩ := H7.out.e.all
                have HLT : Hid (∀ j0, (q j0).length ≤ i + 1) := Lib.hid (fun k => by have := HLN.out k; omega)
                have HT := Lib.hid (btold_ok H7.out.r.lw.o P (lnQ q) C q HB4.out H7.out.r.qa (fun _ => rfl) (fun j0 => by have := HLT.out j0; omega) K)
                go_wp2_with fail
                refine HT.out.mono ?_
                rintro e w9 ⟨rfl, hb⟩
                have H9 := Lib.hid (H7.out.below hb)
                clear hb HT xb0 xb1 xb2 xq0 xq1 xq2 xq3 xq4 xe0 xe1 xe2 xe3
                go_wp2_with fail
                go_roundw
                case rel => exact ⟨i + 1, m1, P, C, q, by omega, by go_num, H9.out.r, HB4.out, HLT.out⟩
                case measure => simp [intOf]; omega
              · by_cases hu0 : u1 = 0
                · have hth' : thereE 13 [0, 12] a 32 = 0 := hth
                  subst hu0
                  obtain ⟨k, rfl⟩ := Int.eq_ofNat_of_zero_le hoge
                  have hk5 : k < 5 := by omega
                  have haN : a.toNat = 4096 * p := by rw [← HA.out]; exact Int.toNat_natCast _
                  rw [haN] at ho1 hu1 hx1
                  have hch : ChAt 13 [0, 12] m1 p k := ⟨by rw [HA.out]; exact hth, by rw [HA.out]; exact hst, ho1, hu1⟩
                  have hlk : (q k).length ≤ i := HLN.out k
                  have HPU := Lib.hid (fun (y : World) (hy : On A (s13 m1) y) => push13 hy hk5 hch (by rw [HB4.out.many k hk5]; omega) (by omega))
                  have HBN2 : Hid (Bn13 (pushM m1 100 k p) (updQ q k (p :: q k))) := Lib.hid (Bn.push HB4.out hk5 hch (HNQ.out k hk5) (.inl (by omega)) (by omega) (by omega))
                  have HQP := Lib.hid (fun (y : World) (hy : QAt P q y) => qpush_any P (lnQ q) C q k p hk5 y hy rfl (by omega) (H4.out.r.cn k))
                  have HL1 : Hid (lnQ q k + 1 = (p :: q k).length) := Lib.hid (by simp [lnQ])
                  have HLL : Hid (∀ j, (updQ q k (p :: q k) j).length ≤ i + 1) := Lib.hid (updQ_len HLN.out (by simp; omega))
                  have HPL : Hid (∀ p' ∈ p :: q k, 1 ≤ p' ∧ p' ≤ 13) := Lib.hid fun p' h => by
                    rcases List.mem_cons.1 h with rfl | h
                    · exact ⟨hp1, hp13⟩
                    · exact H4.out.r.pg k hk5 p' h
                  obtain ⟨m2, hm2⟩ : ∃ m2, pushM m1 100 k p = m2 := ⟨_, rfl⟩
                  rw [hm2, HA.out] at HPU
                  rw [hm2] at HBN2
                  rw [HA.out] at HQP
                  have HK5 := Lib.hid hk5
                  have hk4 : (k : Int) ≤ 4 := by omega
                  clear hrd ho1 hu1 hx1 hth hst hoge ho4 hth' haN hch hlk hm2 hk5
                  obtain ⟨⟨xb0, xb1, xb2⟩, xq0, xq1, xq2, xq3, xq4⟩ := H4.out.r.all
                  obtain ⟨xe0, xe1, xe2, xe3⟩ := H4.out.e.all
                  go_wp2_with fail
                  refine HRD.out.mono ?_
                  rintro e w5 ⟨rfl, hb⟩
                  have H5 := Lib.hid (H4.out.below hb)
                  clear hb HRD H4 xb0 xb1 xb2 xq0 xq1 xq2 xq3 xq4 xe0 xe1 xe2 xe3
                  go_upto_region 16 with fail

                  have hb := bel1 w5 (.cells (cC a (k : Int) 0 x1) 35)
                  have hh := H5.out.below hb
                  have hcb := cb_new w5 a (k : Int) 0 x1
                  obtain ⟨z, hy⟩ : ∃ y, w5.alloc (.cells (cC a (k : Int) 0 x1) 35) = y := ⟨_, rfl⟩
                  obtain ⟨D, hD⟩ : ∃ C, w5.heap.size = C := ⟨_, rfl⟩
                  change Code.wp _ _ _ _ (w5.alloc (.cells (cC a (k : Int) 0 x1) 35))
                  rw [hy] at hh hcb
                  rw [hD] at hcb
                  rw [hy, hD]
                  have H6 := Lib.hid hh
                  have HC6 := Lib.hid hcb
                  clear hb hh hy hD hcb H5
                  obtain ⟨⟨xb0, xb1, xb2⟩, xq0, xq1, xq2, xq3, xq4⟩ := H6.out.r.all
                  obtain ⟨xe0, xe1, xe2, xe3⟩ := H6.out.e.all
                  go_wp2_with fail
                  refine (HPU.out _ H6.out.r.lw.o).mono ?_
                  rintro e w6 ⟨rfl, hx, hg⟩
                  have H7 := Lib.hid (H6.out.went hx hg)
                  have HC7 := Lib.hid (show CB D a (k : Int) 0 x1 w6 from hg.keep H6.out.r.lw.o HC6.out (by decide) (by decide) (by decide))
                  clear hx hg H6 HC6 HPU xb0 xb1 xb2 xq0 xq1 xq2 xq3 xq4 xe0 xe1 xe2 xe3
                  obtain ⟨⟨xb0, xb1, xb2⟩, xq0, xq1, xq2, xq3, xq4⟩ := H7.out.r.all
                  obtain ⟨xe0, xe1, xe2, xe3⟩ := H7.out.e.all
                  obtain ⟨xd0, xd1, xd2, xd3⟩ := HC7.out.all
                  have hk5 := HK5.out
                  obtain ⟨xz0, xz1, xz2, xz3, xz4⟩ := H7.out.r.fz
                  go_wp2_with fail
                  refine (HQP.out _ H7.out.r.qa).mono ?_
                  rintro e w7 ⟨p', c', rfl, hrw, hc', ⟨hn', hg'⟩, hb⟩
                  have HRW := Lib.hid (And.intro hrw (And.intro hc' (And.intro hn' hg')))
                  have HB7 := Lib.hid hb
                  have H8 := Lib.hid (H7.out.below hb)
                  clear hrw hn' hc' hg' hb HQP xd0 xd1 xd2 xd3 xz0 xz1 xz2 xz3 xz4 hk5 xb0 xb1 xb2 xq0 xq1 xq2 xq3 xq4 xe0 xe1 xe2 xe3
                  obtain ⟨⟨xb0, xb1, xb2⟩, xq0, xq1, xq2, xq3, xq4⟩ := H8.out.r.all
                  obtain ⟨xe0, xe1, xe2, xe3⟩ := H8.out.e.all
                  obtain ⟨xz0, xz1, xz2, xz3, xz4⟩ := H8.out.r.fz
                  unfold qC
                  go_upto_region 36 with fail

                  change Code.wp _ _ _ _ (st5 w7 Q (.slice (up P k p' 0) (up (lnQ q) k (lnQ q k + 1) 0) (up C k c' 0)) (.slice (up P k p' 1) (up (lnQ q) k (lnQ q k + 1) 1) (up C k c' 1)) (.slice (up P k p' 2) (up (lnQ q) k (lnQ q k + 1) 2) (up C k c' 2)) (.slice (up P k p' 3) (up (lnQ q) k (lnQ q k + 1) 3) (up C k c' 3)) (.slice (up P k p' 4) (up (lnQ q) k (lnQ q k + 1) 4) (up C k c' 4)))
                  rw [HL1.out, lnQ_up]
                  have hh := H7.out.turn HB7.out HNE.out HK5.out HRW.out.1 (fun e => absurd e HRW.out.2.2.1) (by rw [← HL1.out]; exact HRW.out.2.1) HRW.out.2.2.2 HPL.out
                  generalize st5 w7 Q (.slice (up P k p' 0) (lnQ (updQ q k (p :: q k)) 0) (up C k c' 0)) (.slice (up P k p' 1) (lnQ (updQ q k (p :: q k)) 1) (up C k c' 1)) (.slice (up P k p' 2) (lnQ (updQ q k (p :: q k)) 2) (up C k c' 2)) (.slice (up P k p' 3) (lnQ (updQ q k (p :: q k)) 3) (up C k c' 3)) (.slice (up P k p' 4) (lnQ (updQ q k (p :: q k)) 4) (up C k c' 4)) = z3 at hh ⊢
                  have H9 := Lib.hid hh
                  clear hh xz0 xz1 xz2 xz3 xz4 H7 HC7 H8 HB7 HRW xb0 xb1 xb2 xq0 xq1 xq2 xq3 xq4 xe0 xe1 xe2 xe3

                  obtain ⟨⟨xb0, xb1, xb2⟩, xq0, xq1, xq2, xq3, xq4⟩ := H9.out.r.all
                  obtain ⟨xe0, xe1, xe2, xe3⟩ := H9.out.e.all
                  have HLT : Hid (∀ j0, ((updQ q k (p :: q k)) j0).length ≤ i + 1) := Lib.hid HLL.out
                  have HT := Lib.hid (btold_ok H9.out.r.lw.o (up P k p') (lnQ (updQ q k (p :: q k))) (up C k c') (updQ q k (p :: q k)) HBN2.out H9.out.r.qa (fun _ => rfl) (fun j0 => by have := HLT.out j0; omega) K)
                  go_wp2_with fail
                  refine HT.out.mono ?_
                  rintro e w9 ⟨rfl, hb⟩
                  have H10 := Lib.hid (H9.out.below hb)
                  clear hb HT xb0 xb1 xb2 xq0 xq1 xq2 xq3 xq4 xe0 xe1 xe2 xe3
                  go_wp2_with fail
                  go_roundw
                  case rel => exact ⟨i + 1, m2, (up P k p'), (up C k c'), (updQ q k (p :: q k)), by omega, by go_num, H10.out.r, HBN2.out, HLT.out⟩
                  case measure => simp [intOf]; omega
                · have HPU := Lib.hid (fun (y : World) (hy : On A (s13 m1) y) => bpush_own hy 100 44 (by omega) (by omega) (by omega) (there13 (by omega) (by omega) (by omega)) a (by omega) a o1 u1 x1 (by omega) (by simpa using hu0) hrd)
                  have HER : Hid (u1 ≠ 0) := Lib.hid hu0
                  have ho5 : o1 ≤ 4 := by omega
                  clear hrd ho1 hu1 hx1 hth hst hoge ho4 hu0
                  obtain ⟨⟨xb0, xb1, xb2⟩, xq0, xq1, xq2, xq3, xq4⟩ := H4.out.r.all
                  obtain ⟨xe0, xe1, xe2, xe3⟩ := H4.out.e.all
                  go_wp2_with fail
                  refine HRD.out.mono ?_
                  rintro e w5 ⟨rfl, hb⟩
                  have H5 := Lib.hid (H4.out.below hb)
                  clear hb HRD H4 xb0 xb1 xb2 xq0 xq1 xq2 xq3 xq4 xe0 xe1 xe2 xe3
                  go_upto_region 16 with fail

                  have hb := bel1 w5 (.cells (cC a o1 u1 x1) 35)
                  have hh := H5.out.below hb
                  have hcb := cb_new w5 a o1 u1 x1
                  obtain ⟨z, hy⟩ : ∃ y, w5.alloc (.cells (cC a o1 u1 x1) 35) = y := ⟨_, rfl⟩
                  obtain ⟨D, hD⟩ : ∃ C, w5.heap.size = C := ⟨_, rfl⟩
                  change Code.wp _ _ _ _ (w5.alloc (.cells (cC a o1 u1 x1) 35))
                  rw [hy] at hh hcb
                  rw [hD] at hcb
                  rw [hy, hD]
                  have H6 := Lib.hid hh
                  have HC6 := Lib.hid hcb
                  clear hb hh hy hD hcb H5
                  obtain ⟨⟨xb0, xb1, xb2⟩, xq0, xq1, xq2, xq3, xq4⟩ := H6.out.r.all
                  obtain ⟨xe0, xe1, xe2, xe3⟩ := H6.out.e.all
                  go_wp2_with fail
                  refine (HPU.out _ H6.out.r.lw.o).mono ?_
                  rintro e w6 ⟨rfl, hb⟩
                  have H7 := Lib.hid (H6.out.below hb)
                  have HC7 := Lib.hid (show CB D a o1 u1 x1 w6 from blk_at hb HC6.out)
                  clear hb H6 HC6 HPU xb0 xb1 xb2 xq0 xq1 xq2 xq3 xq4 xe0 xe1 xe2 xe3
                  obtain ⟨⟨xb0, xb1, xb2⟩, xq0, xq1, xq2, xq3, xq4⟩ := H7.out.r.all
                  obtain ⟨xe0, xe1, xe2, xe3⟩ := H7.out.e.all
                  obtain ⟨xd0, xd1, xd2, xd3⟩ := HC7.out.all
                  have her1 := HER.out
                  go_upto_region 36 with fail
                  clear xb0 xb1 xb2 xq0 xq1 xq2 xq3 xq4 xe0 xe1 xe2 xe3

                  obtain ⟨⟨xb0, xb1, xb2⟩, xq0, xq1, xq2, xq3, xq4⟩ := H7.out.r.all
                  obtain ⟨xe0, xe1, xe2, xe3⟩ := H7.out.e.all
                  have HLT : Hid (∀ j0, (q j0).length ≤ i + 1) := Lib.hid (fun k => by have := HLN.out k; omega)
                  have HT := Lib.hid (btold_ok H7.out.r.lw.o P (lnQ q) C q HB4.out H7.out.r.qa (fun _ => rfl) (fun j0 => by have := HLT.out j0; omega) K)
                  go_wp2_with fail
                  refine HT.out.mono ?_
                  rintro e w9 ⟨rfl, hb⟩
                  have H9 := Lib.hid (H7.out.below hb)
                  clear hb HT xb0 xb1 xb2 xq0 xq1 xq2 xq3 xq4 xe0 xe1 xe2 xe3
                  go_wp2_with fail
                  go_roundw
                  case rel => exact ⟨i + 1, m1, P, C, q, by omega, by go_num, H9.out.r, HB4.out, HLT.out⟩
                  case measure => simp [intOf]; omega
          · obtain ⟨m1, hm1⟩ : ∃ m1, m = m1 := ⟨_, rfl⟩
            subst hm1
            have H4 := H3
            have HB4 := HBN
            clear H3 HBN
            have HB4R := HB4
            rcases rd_shape (s13 m) a with ⟨er, her, hrd⟩ | ⟨hrd, hth, hst⟩
            · have HRD := Lib.hid (read_any H4.out.r.lw.o a (by omega))
              rw [hrd] at HRD
              have HPU := Lib.hid (fun (y : World) (hy : On A (s13 m) y) => bpush_rd hy 100 44 (by omega) (by omega) (by omega) (there13 (by omega) (by omega) (by omega)) a (by omega) er her 0 hrd)
              have HER : Hid (er ≠ 0 ∧ (er == 0) = false) := Lib.hid (by simpa using her)
              clear her hrd
              obtain ⟨⟨xb0, xb1, xb2⟩, xq0, xq1, xq2, xq3, xq4⟩ := H4.out.r.all
              obtain ⟨xe0, xe1, xe2, xe3⟩ := H4.out.e.all
              go_wp2_with fail
              refine HRD.out.mono ?_
              rintro e w5 ⟨rfl, hb⟩
              have H5 := Lib.hid (H4.out.below hb)
              clear hb HRD H4 xb0 xb1 xb2 xq0 xq1 xq2 xq3 xq4 xe0 xe1 xe2 xe3
              go_upto_region 16 with fail

              have hb := bel1 w5 (.cells (cC 0 0 0 0) 35)
              have hh := H5.out.below hb
              have hcb := cb_new w5 0 0 0 0
              obtain ⟨z, hy⟩ : ∃ y, w5.alloc (.cells (cC 0 0 0 0) 35) = y := ⟨_, rfl⟩
              obtain ⟨D, hD⟩ : ∃ C, w5.heap.size = C := ⟨_, rfl⟩
              change Code.wp _ _ _ _ (w5.alloc (.cells (cC 0 0 0 0) 35))
              rw [hy] at hh hcb
              rw [hD] at hcb
              rw [hy, hD]
              have H6 := Lib.hid hh
              have HC6 := Lib.hid hcb
              clear hb hh hy hD hcb H5
              obtain ⟨⟨xb0, xb1, xb2⟩, xq0, xq1, xq2, xq3, xq4⟩ := H6.out.r.all
              obtain ⟨xe0, xe1, xe2, xe3⟩ := H6.out.e.all
              go_wp2_with fail
              refine (HPU.out _ H6.out.r.lw.o).mono ?_
              rintro e w6 ⟨rfl, hb⟩
              have H7 := Lib.hid (H6.out.below hb)
              have HC7 := Lib.hid (show CB D 0 0 0 0 w6 from blk_at hb HC6.out)
              clear hb H6 HC6 HPU xb0 xb1 xb2 xq0 xq1 xq2 xq3 xq4 xe0 xe1 xe2 xe3
              obtain ⟨⟨xb0, xb1, xb2⟩, xq0, xq1, xq2, xq3, xq4⟩ := H7.out.r.all
              obtain ⟨xe0, xe1, xe2, xe3⟩ := H7.out.e.all
              obtain ⟨xd0, xd1, xd2, xd3⟩ := HC7.out.all
              have her1 := HER.out.1
              have her2 := HER.out.2
              go_upto_region 36 with fail
              clear xb0 xb1 xb2 xq0 xq1 xq2 xq3 xq4 xe0 xe1 xe2 xe3

              obtain ⟨⟨xb0, xb1, xb2⟩, xq0, xq1, xq2, xq3, xq4⟩ := H7.out.r.all
              obtain ⟨xe0, xe1, xe2, xe3⟩ := H7.out.e.all
              have HLT : Hid (∀ j0, (q j0).length ≤ i + 1) := Lib.hid (fun k => by have := HLN.out k; omega)
              have HT := Lib.hid (btold_ok H7.out.r.lw.o P (lnQ q) C q HB4.out H7.out.r.qa (fun _ => rfl) (fun j0 => by have := HLT.out j0; omega) K)
              go_wp2_with fail
              refine HT.out.mono ?_
              rintro e w9 ⟨rfl, hb⟩
              have H9 := Lib.hid (H7.out.below hb)
              clear hb HT xb0 xb1 xb2 xq0 xq1 xq2 xq3 xq4 xe0 xe1 xe2 xe3
              go_wp2_with fail
              go_roundw
              case rel => exact ⟨i + 1, m, P, C, q, by omega, by go_num, H9.out.r, HB4.out, HLT.out⟩
              case measure => simp [intOf]; omega
            · obtain ⟨o1, ho1⟩ : ∃ o, rdO (s13 m).mm a.toNat = o := ⟨_, rfl⟩
              obtain ⟨u1, hu1⟩ : ∃ o, rdU (s13 m).mm a.toNat = o := ⟨_, rfl⟩
              obtain ⟨x1, hx1⟩ : ∃ o, rdX (s13 m).mm a.toNat = o := ⟨_, rfl⟩
              rw [ho1, hu1, hx1] at hrd
              have hoge : 0 ≤ o1 := by rw [← ho1]; exact st_order hst
              have HRD := Lib.hid (read_any H4.out.r.lw.o a (by omega))
              rw [hrd] at HRD
              by_cases ho4 : 4 < o1
              · have HPU := Lib.hid (fun (y : World) (hy : On A (s13 m) y) => bpush_ord hy 100 44 (by omega) (by omega) (by omega) (there13 (by omega) (by omega) (by omega)) a (by omega) a o1 u1 x1 (by omega) hrd)
                have HER : Hid (4 < o1) := Lib.hid ho4
                clear hrd ho1 hu1 hx1 hth hst hoge ho4
                obtain ⟨⟨xb0, xb1, xb2⟩, xq0, xq1, xq2, xq3, xq4⟩ := H4.out.r.all
                obtain ⟨xe0, xe1, xe2, xe3⟩ := H4.out.e.all
                go_wp2_with fail
                refine HRD.out.mono ?_
                rintro e w5 ⟨rfl, hb⟩
                have H5 := Lib.hid (H4.out.below hb)
                clear hb HRD H4 xb0 xb1 xb2 xq0 xq1 xq2 xq3 xq4 xe0 xe1 xe2 xe3
                go_upto_region 16 with fail

                have hb := bel1 w5 (.cells (cC a o1 u1 x1) 35)
                have hh := H5.out.below hb
                have hcb := cb_new w5 a o1 u1 x1
                obtain ⟨z, hy⟩ : ∃ y, w5.alloc (.cells (cC a o1 u1 x1) 35) = y := ⟨_, rfl⟩
                obtain ⟨D, hD⟩ : ∃ C, w5.heap.size = C := ⟨_, rfl⟩
                change Code.wp _ _ _ _ (w5.alloc (.cells (cC a o1 u1 x1) 35))
                rw [hy] at hh hcb
                rw [hD] at hcb
                rw [hy, hD]
                have H6 := Lib.hid hh
                have HC6 := Lib.hid hcb
                clear hb hh hy hD hcb H5
                obtain ⟨⟨xb0, xb1, xb2⟩, xq0, xq1, xq2, xq3, xq4⟩ := H6.out.r.all
                obtain ⟨xe0, xe1, xe2, xe3⟩ := H6.out.e.all
                go_wp2_with fail
                refine (HPU.out _ H6.out.r.lw.o).mono ?_
                rintro e w6 ⟨rfl, hb⟩
                have H7 := Lib.hid (H6.out.below hb)
                have HC7 := Lib.hid (show CB D a o1 u1 x1 w6 from blk_at hb HC6.out)
                clear hb H6 HC6 HPU xb0 xb1 xb2 xq0 xq1 xq2 xq3 xq4 xe0 xe1 xe2 xe3
                obtain ⟨⟨xb0, xb1, xb2⟩, xq0, xq1, xq2, xq3, xq4⟩ := H7.out.r.all
                obtain ⟨xe0, xe1, xe2, xe3⟩ := H7.out.e.all
                obtain ⟨xd0, xd1, xd2, xd3⟩ := HC7.out.all
                have her1 := HER.out
                go_upto_region 36 with fail
                clear xb0 xb1 xb2 xq0 xq1 xq2 xq3 xq4 xe0 xe1 xe2 xe3

                obtain ⟨⟨xb0, xb1, xb2⟩, xq0, xq1, xq2, xq3, xq4⟩ := H7.out.r.all
                obtain ⟨xe0, xe1, xe2, xe3⟩ := H7.out.e.all
                have HLT : Hid (∀ j0, (q j0).length ≤ i + 1) := Lib.hid (fun k => by have := HLN.out k; omega)
                have HT := Lib.hid (btold_ok H7.out.r.lw.o P (lnQ q) C q HB4.out H7.out.r.qa (fun _ => rfl) (fun j0 => by have := HLT.out j0; omega) K)
                go_wp2_with fail
                refine HT.out.mono ?_
                rintro e w9 ⟨rfl, hb⟩
                have H9 := Lib.hid (H7.out.below hb)
                clear hb HT xb0 xb1 xb2 xq0 xq1 xq2 xq3 xq4 xe0 xe1 xe2 xe3
                go_wp2_with fail
                go_roundw
                case rel => exact ⟨i + 1, m, P, C, q, by omega, by go_num, H9.out.r, HB4.out, HLT.out⟩
                case measure => simp [intOf]; omega
              · by_cases hu0 : u1 = 0
                · have hth' : thereE 13 [0, 12] a 32 = 0 := hth
                  subst hu0
                  obtain ⟨k, rfl⟩ := Int.eq_ofNat_of_zero_le hoge
                  have hk5 : k < 5 := by omega
                  have haN : a.toNat = 4096 * p := by rw [← HA.out]; exact Int.toNat_natCast _
                  rw [haN] at ho1 hu1 hx1
                  have hch : ChAt 13 [0, 12] m p k := ⟨by rw [HA.out]; exact hth, by rw [HA.out]; exact hst, ho1, hu1⟩
                  have hlk : (q k).length ≤ i := HLN.out k
                  have HPU := Lib.hid (fun (y : World) (hy : On A (s13 m) y) => push13 hy hk5 hch (by rw [HB4.out.many k hk5]; omega) (by omega))
                  have HBN2 : Hid (Bn13 (pushM m 100 k p) (updQ q k (p :: q k))) := Lib.hid (Bn.push HB4.out hk5 hch (HNQ.out k hk5) (.inl (by omega)) (by omega) (by omega))
                  have HQP := Lib.hid (fun (y : World) (hy : QAt P q y) => qpush_any P (lnQ q) C q k p hk5 y hy rfl (by omega) (H4.out.r.cn k))
                  have HL1 : Hid (lnQ q k + 1 = (p :: q k).length) := Lib.hid (by simp [lnQ])
                  have HLL : Hid (∀ j, (updQ q k (p :: q k) j).length ≤ i + 1) := Lib.hid (updQ_len HLN.out (by simp; omega))
                  have HPL : Hid (∀ p' ∈ p :: q k, 1 ≤ p' ∧ p' ≤ 13) := Lib.hid fun p' h => by
                    rcases List.mem_cons.1 h with rfl | h
                    · exact ⟨hp1, hp13⟩
                    · exact H4.out.r.pg k hk5 p' h
                  obtain ⟨m2, hm2⟩ : ∃ m2, pushM m 100 k p = m2 := ⟨_, rfl⟩
                  rw [hm2, HA.out] at HPU
                  rw [hm2] at HBN2
                  rw [HA.out] at HQP
                  have HK5 := Lib.hid hk5
                  have hk4 : (k : Int) ≤ 4 := by omega
                  clear hrd ho1 hu1 hx1 hth hst hoge ho4 hth' haN hch hlk hm2 hk5
                  obtain ⟨⟨xb0, xb1, xb2⟩, xq0, xq1, xq2, xq3, xq4⟩ := H4.out.r.all
                  obtain ⟨xe0, xe1, xe2, xe3⟩ := H4.out.e.all
                  go_wp2_with fail
                  refine HRD.out.mono ?_
                  rintro e w5 ⟨rfl, hb⟩
                  have H5 := Lib.hid (H4.out.below hb)
                  clear hb HRD H4 xb0 xb1 xb2 xq0 xq1 xq2 xq3 xq4 xe0 xe1 xe2 xe3
                  go_upto_region 16 with fail

                  have hb := bel1 w5 (.cells (cC a (k : Int) 0 x1) 35)
                  have hh := H5.out.below hb
                  have hcb := cb_new w5 a (k : Int) 0 x1
                  obtain ⟨z, hy⟩ : ∃ y, w5.alloc (.cells (cC a (k : Int) 0 x1) 35) = y := ⟨_, rfl⟩
                  obtain ⟨D, hD⟩ : ∃ C, w5.heap.size = C := ⟨_, rfl⟩
                  change Code.wp _ _ _ _ (w5.alloc (.cells (cC a (k : Int) 0 x1) 35))
                  rw [hy] at hh hcb
                  rw [hD] at hcb
                  rw [hy, hD]
                  have H6 := Lib.hid hh
                  have HC6 := Lib.hid hcb
                  clear hb hh hy hD hcb H5
                  obtain ⟨⟨xb0, xb1, xb2⟩, xq0, xq1, xq2, xq3, xq4⟩ := H6.out.r.all
                  obtain ⟨xe0, xe1, xe2, xe3⟩ := H6.out.e.all
                  go_wp2_with fail
                  refine (HPU.out _ H6.out.r.lw.o).mono ?_
                  rintro e w6 ⟨rfl, hx, hg⟩
                  have H7 := Lib.hid (H6.out.went hx hg)
                  have HC7 := Lib.hid (show CB D a (k : Int) 0 x1 w6 from hg.keep H6.out.r.lw.o HC6.out (by decide) (by decide) (by decide))
                  clear hx hg H6 HC6 HPU xb0 xb1 xb2 xq0 xq1 xq2 xq3 xq4 xe0 xe1 xe2 xe3
                  obtain ⟨⟨xb0, xb1, xb2⟩, xq0, xq1, xq2, xq3, xq4⟩ := H7.out.r.all
                  obtain ⟨xe0, xe1, xe2, xe3⟩ := H7.out.e.all
                  obtain ⟨xd0, xd1, xd2, xd3⟩ := HC7.out.all
                  have hk5 := HK5.out
                  obtain ⟨xz0, xz1, xz2, xz3, xz4⟩ := H7.out.r.fz
                  go_wp2_with fail
                  refine (HQP.out _ H7.out.r.qa).mono ?_
                  rintro e w7 ⟨p', c', rfl, hrw, hc', ⟨hn', hg'⟩, hb⟩
                  have HRW := Lib.hid (And.intro hrw (And.intro hc' (And.intro hn' hg')))
                  have HB7 := Lib.hid hb
                  have H8 := Lib.hid (H7.out.below hb)
                  clear hrw hn' hc' hg' hb HQP xd0 xd1 xd2 xd3 xz0 xz1 xz2 xz3 xz4 hk5 xb0 xb1 xb2 xq0 xq1 xq2 xq3 xq4 xe0 xe1 xe2 xe3
                  obtain ⟨⟨xb0, xb1, xb2⟩, xq0, xq1, xq2, xq3, xq4⟩ := H8.out.r.all
                  obtain ⟨xe0, xe1, xe2, xe3⟩ := H8.out.e.all
                  obtain ⟨xz0, xz1, xz2, xz3, xz4⟩ := H8.out.r.fz
                  unfold qC
                  go_upto_region 36 with fail

                  change Code.wp _ _ _ _ (st5 w7 Q (.slice (up P k p' 0) (up (lnQ q) k (lnQ q k + 1) 0) (up C k c' 0)) (.slice (up P k p' 1) (up (lnQ q) k (lnQ q k + 1) 1) (up C k c' 1)) (.slice (up P k p' 2) (up (lnQ q) k (lnQ q k + 1) 2) (up C k c' 2)) (.slice (up P k p' 3) (up (lnQ q) k (lnQ q k + 1) 3) (up C k c' 3)) (.slice (up P k p' 4) (up (lnQ q) k (lnQ q k + 1) 4) (up C k c' 4)))
                  rw [HL1.out, lnQ_up]
                  have hh := H7.out.turn HB7.out HNE.out HK5.out HRW.out.1 (fun e => absurd e HRW.out.2.2.1) (by rw [← HL1.out]; exact HRW.out.2.1) HRW.out.2.2.2 HPL.out
                  generalize st5 w7 Q (.slice (up P k p' 0) (lnQ (updQ q k (p :: q k)) 0) (up C k c' 0)) (.slice (up P k p' 1) (lnQ (updQ q k (p :: q k)) 1) (up C k c' 1)) (.slice (up P k p' 2) (lnQ (updQ q k (p :: q k)) 2) (up C k c' 2)) (.slice (up P k p' 3) (lnQ (updQ q k (p :: q k)) 3) (up C k c' 3)) (.slice (up P k p' 4) (lnQ (updQ q k (p :: q k)) 4) (up C k c' 4)) = z3 at hh ⊢
                  have H9 := Lib.hid hh
                  clear hh xz0 xz1 xz2 xz3 xz4 H7 HC7 H8 HB7 HRW xb0 xb1 xb2 xq0 xq1 xq2 xq3 xq4 xe0 xe1 xe2 xe3

                  obtain ⟨⟨xb0, xb1, xb2⟩, xq0, xq1, xq2, xq3, xq4⟩ := H9.out.r.all
                  obtain ⟨xe0, xe1, xe2, xe3⟩ := H9.out.e.all
                  have HLT : Hid (∀ j0, ((updQ q k (p :: q k)) j0).length ≤ i + 1) := Lib.hid HLL.out
                  have HT := Lib.hid (btold_ok H9.out.r.lw.o (up P k p') (lnQ (updQ q k (p :: q k))) (up C k c') (updQ q k (p :: q k)) HBN2.out H9.out.r.qa (fun _ => rfl) (fun j0 => by have := HLT.out j0; omega) K)
                  go_wp2_with fail
                  refine HT.out.mono ?_
                  rintro e w9 ⟨rfl, hb⟩
                  have H10 := Lib.hid (H9.out.below hb)
                  clear hb HT xb0 xb1 xb2 xq0 xq1 xq2 xq3 xq4 xe0 xe1 xe2 xe3
                  go_wp2_with fail
                  go_roundw
                  case rel => exact ⟨i + 1, m2, (up P k p'), (up C k c'), (updQ q k (p :: q k)), by omega, by go_num, H10.out.r, HBN2.out, HLT.out⟩
                  case measure => simp [intOf]; omega
                · have HPU := Lib.hid (fun (y : World) (hy : On A (s13 m) y) => bpush_own hy 100 44 (by omega) (by omega) (by omega) (there13 (by omega) (by omega) (by omega)) a (by omega) a o1 u1 x1 (by omega) (by simpa using hu0) hrd)
                  have HER : Hid (u1 ≠ 0) := Lib.hid hu0
                  have ho5 : o1 ≤ 4 := by omega
                  clear hrd ho1 hu1 hx1 hth hst hoge ho4 hu0
                  obtain ⟨⟨xb0, xb1, xb2⟩, xq0, xq1, xq2, xq3, xq4⟩ := H4.out.r.all
                  obtain ⟨xe0, xe1, xe2, xe3⟩ := H4.out.e.all
                  go_wp2_with fail
                  refine HRD.out.mono ?_
                  rintro e w5 ⟨rfl, hb⟩
                  have H5 := Lib.hid (H4.out.below hb)
                  clear hb HRD H4 xb0 xb1 xb2 xq0 xq1 xq2 xq3 xq4 xe0 xe1 xe2 xe3
                  go_upto_region 16 with fail

                  have hb := bel1 w5 (.cells (cC a o1 u1 x1) 35)
                  have hh := H5.out.below hb
                  have hcb := cb_new w5 a o1 u1 x1
                  obtain ⟨z, hy⟩ : ∃ y, w5.alloc (.cells (cC a o1 u1 x1) 35) = y := ⟨_, rfl⟩
                  obtain ⟨D, hD⟩ : ∃ C, w5.heap.size = C := ⟨_, rfl⟩
                  change Code.wp _ _ _ _ (w5.alloc (.cells (cC a o1 u1 x1) 35))
                  rw [hy] at hh hcb
                  rw [hD] at hcb
                  rw [hy, hD]
                  have H6 := Lib.hid hh
                  have HC6 := Lib.hid hcb
                  clear hb hh hy hD hcb H5
                  obtain ⟨⟨xb0, xb1, xb2⟩, xq0, xq1, xq2, xq3, xq4⟩ := H6.out.r.all
                  obtain ⟨xe0, xe1, xe2, xe3⟩ := H6.out.e.all
                  go_wp2_with fail
                  refine (HPU.out _ H6.out.r.lw.o).mono ?_
                  rintro e w6 ⟨rfl, hb⟩
                  have H7 := Lib.hid (H6.out.below hb)
                  have HC7 := Lib.hid (show CB D a o1 u1 x1 w6 from blk_at hb HC6.out)
                  clear hb H6 HC6 HPU xb0 xb1 xb2 xq0 xq1 xq2 xq3 xq4 xe0 xe1 xe2 xe3
                  obtain ⟨⟨xb0, xb1, xb2⟩, xq0, xq1, xq2, xq3, xq4⟩ := H7.out.r.all
                  obtain ⟨xe0, xe1, xe2, xe3⟩ := H7.out.e.all
                  obtain ⟨xd0, xd1, xd2, xd3⟩ := HC7.out.all
                  have her1 := HER.out
                  go_upto_region 36 with fail
                  clear xb0 xb1 xb2 xq0 xq1 xq2 xq3 xq4 xe0 xe1 xe2 xe3

                  obtain ⟨⟨xb0, xb1, xb2⟩, xq0, xq1, xq2, xq3, xq4⟩ := H7.out.r.all
                  obtain ⟨xe0, xe1, xe2, xe3⟩ := H7.out.e.all
                  have HLT : Hid (∀ j0, (q j0).length ≤ i + 1) := Lib.hid (fun k => by have := HLN.out k; omega)
                  have HT := Lib.hid (btold_ok H7.out.r.lw.o P (lnQ q) C q HB4.out H7.out.r.qa (fun _ => rfl) (fun j0 => by have := HLT.out j0; omega) K)
                  go_wp2_with fail
                  refine HT.out.mono ?_
                  rintro e w9 ⟨rfl, hb⟩
                  have H9 := Lib.hid (H7.out.below hb)
                  clear hb HT xb0 xb1 xb2 xq0 xq1 xq2 xq3 xq4 xe0 xe1 xe2 xe3
                  go_wp2_with fail
                  go_roundw
                  case rel => exact ⟨i + 1, m, P, C, q, by omega, by go_num, H9.out.r, HB4.out, HLT.out⟩
                  case measure => simp [intOf]; omega
    · -- the end
      have hxo := hv.lw.o
      have HNT : Hid (thereE (s13 m).L (s13 m).es 100 44 = 0) := Lib.hid (there13 (by omega) (by omega) (by omega))
      have HVO : Hid (∀ pu a k, ofV pu a k 0 = .agg #[.pointer pu, .int .i64 a, .int .i64 k]) := Lib.hid fun pu a k => by unfold ofV; rw [if_pos rfl]
      have HCL : Hid (Calls Try.prog 30 #[.pointer (some ⟨A, 0, none⟩)] wr (ClonePost A (s13 m) wr)) := Lib.hid (by obtain ⟨Pa, psa, pa, na, capa, hxa⟩ := hxo; exact clone_any hxa)
      clear hv hbn hln hxo
      go_wp2_with fail
      refine HCL.out.mono ?_
      rintro e w4 ⟨A2, rfl, hx, hb, -, -, -⟩
      have HX4 := Lib.hid hx
      have H4 := Lib.hid (HV.out.below hb)
      clear hx hb HCL HV
      go_wp2_with fail
      refine (on_of HX4.out 100 44 (by omega)).mono ?_
      rintro e w5 ⟨rfl, hb⟩
      rw [HNT.out, HVO.out]
      have HX5 := Lib.hid (HX4.out.below hb)
      have H5 := Lib.hid (H4.out.below hb)
      clear hb HX4 H4
      go_upto_region 40 with fail
      have hb := bel1 w5 (.cells #[.pointer (some ⟨A2, 0, none⟩), .int .i64 100, .int .i64 44] 24)
      have hx := HX5.out.below hb
      have hh := H5.out.below hb
      have hv3 := heap_new w5 (.cells #[.pointer (some ⟨A2, 0, none⟩), .int .i64 100, .int .i64 44] 24)
      obtain ⟨y, hy⟩ : ∃ y, w5.alloc (.cells #[.pointer (some ⟨A2, 0, none⟩), .int .i64 100, .int .i64 44] 24) = y := ⟨_, rfl⟩
      obtain ⟨D, hD⟩ : ∃ C, w5.heap.size = C := ⟨_, rfl⟩
      change Code.wp _ _ _ _ (w5.alloc (.cells #[.pointer (some ⟨A2, 0, none⟩), .int .i64 100, .int .i64 44] 24))
      rw [hy] at hx hh hv3
      rw [hD] at hv3
      rw [hy, hD]
      have hS0 := fin_drew (A2 := A2) (D := D) hh hx hv3 HBN.out
      clear hb hx hh hv3 hy hD HX5 H5
      refine wp_region_held_drew (S := FinS A R Q A2 D m P C q w) (by kernel_rfl) hS0 (fun hHeld => ?_)
      clear hS0
      refine wpAnyH_take (i := 0) (v := (.int .i64 0)) rfl (by kernel_rfl) (by kernel_rfl) (by kernel_rfl) (fun _ _ _ h => h) (Or.inl ⟨by rfl, fun X hS => ?_⟩) hHeld ?_
      · obtain ⟨⟨⟨s1, s2, s3⟩, s4, s5, s6, s7, s8⟩, _, _, _⟩ := hS
        go_simp
      try simp only [Act.put, List.getElem_toArray, List.getElem_cons_zero, List.getElem_cons_succ, List.setIfInBounds_toArray, List.set_cons_zero, List.set_cons_succ]
      refine wpAnyH_take (i := 1) (v := (.bool true)) rfl (by kernel_rfl) (by kernel_rfl) (by kernel_rfl) (fun _ _ _ h => h) (Or.inl ⟨by rfl, fun X hS => ?_⟩) hHeld ?_
      · obtain ⟨⟨⟨s1, s2, s3⟩, s4, s5, s6, s7, s8⟩, _, _, _⟩ := hS
        go_simp
      try simp only [Act.put, List.getElem_toArray, List.getElem_cons_zero, List.getElem_cons_succ, List.setIfInBounds_toArray, List.set_cons_zero, List.set_cons_succ]
      refine wpAnyH_take (i := 2) (v := (.bool true)) rfl (by kernel_rfl) (by kernel_rfl) (by kernel_rfl) (fun _ _ _ h => h) (Or.inl ⟨by rfl, fun X hS => ?_⟩) hHeld ?_
      · obtain ⟨⟨⟨s1, s2, s3⟩, s4, s5, s6, s7, s8⟩, _, _, _⟩ := hS
        go_simp
      try simp only [Act.put, List.getElem_toArray, List.getElem_cons_zero, List.getElem_cons_succ, List.setIfInBounds_toArray, List.set_cons_zero, List.set_cons_succ]
      refine wpAnyH_take (i := 3) (v := (.agg #[.pointer (some ⟨A2, 0, none⟩), .int .i64 100, .int .i64 44])) rfl (by kernel_rfl) (by kernel_rfl) (by kernel_rfl) (fun _ _ _ h => h) (Or.inl ⟨by rfl, fun X hS => ?_⟩) hHeld ?_
      · obtain ⟨⟨⟨s1, s2, s3⟩, s4, s5, s6, s7, s8⟩, _, _, _⟩ := hS
        go_simp
      try simp only [Act.put, List.getElem_toArray, List.getElem_cons_zero, List.getElem_cons_succ, List.setIfInBounds_toArray, List.set_cons_zero, List.set_cons_succ]
      refine wpAnyH_take (i := 5) (v := (.agg #[.slice (P 0) (lnQ q 0) (C 0), .slice (P 1) (lnQ q 1) (C 1), .slice (P 2) (lnQ q 2) (C 2), .slice (P 3) (lnQ q 3) (C 3), .slice (P 4) (lnQ q 4) (C 4)])) rfl (by kernel_rfl) (by kernel_rfl) (by kernel_rfl) (fun _ _ _ h => h) (Or.inl ⟨by rfl, fun X hS => ?_⟩) hHeld ?_
      · obtain ⟨⟨⟨s1, s2, s3⟩, s4, s5, s6, s7, s8⟩, _, _, _⟩ := hS
        go_simp
      try simp only [Act.put, List.getElem_toArray, List.getElem_cons_zero, List.getElem_cons_succ, List.setIfInBounds_toArray, List.set_cons_zero, List.set_cons_succ]
      refine wpAnyH_ready (rs := [4]) (by kernel_rfl) (by simp) (AllReadyH.cons rfl (fun K1 hK1 => ?_) AllReadyH.nil)
      go_simp
      refine (bopenL (some ⟨A2, 0, none⟩) 100 44 _).mono ?_
      rintro e x1 ⟨rfl, hb1⟩
      have hS1 := hHeld.below hb1
      clear hb1 hHeld
      refine hK1.out _ _ hS1 (fun hHeld => ?_)
      clear hK1 hS1
      try simp only [Act.put, List.getElem_toArray, List.getElem_cons_zero, List.getElem_cons_succ, List.setIfInBounds_toArray, List.set_cons_zero, List.set_cons_succ]
      refine wpAnyH_ready (rs := [6]) (by kernel_rfl) (by simp) (AllReadyH.cons rfl (fun K1 hK1 => ?_) AllReadyH.nil)
      go_simp
      refine (btold_ok hHeld.x P (lnQ q) C q HBN.out hHeld.r.qa (fun _ => rfl) (fun k => by have := HLN.out k; omega) 0).mono ?_
      rintro e x1 ⟨rfl, hb1⟩
      have hS1 := hHeld.below hb1
      clear hb1 hHeld
      refine hK1.out _ _ hS1 (fun hHeld => ?_)
      clear hK1 hS1
      try simp only [Act.put, List.getElem_toArray, List.getElem_cons_zero, List.getElem_cons_succ, List.setIfInBounds_toArray, List.set_cons_zero, List.set_cons_succ]
      refine wpAnyH_take (i := 7) (v := (.bool true)) rfl (by kernel_rfl) (by kernel_rfl) (by kernel_rfl) (fun _ _ _ h => h) (Or.inl ⟨by rfl, fun X hS => ?_⟩) hHeld ?_
      · obtain ⟨⟨⟨s1, s2, s3⟩, s4, s5, s6, s7, s8⟩, _, _, _⟩ := hS
        go_simp
      try simp only [Act.put, List.getElem_toArray, List.getElem_cons_zero, List.getElem_cons_succ, List.setIfInBounds_toArray, List.set_cons_zero, List.set_cons_succ]
      refine wpAnyH_take (i := 8) (v := (.bool true)) rfl (by kernel_rfl) (by kernel_rfl) (by kernel_rfl) (fun _ _ _ h => h) (Or.inl ⟨by rfl, fun X hS => ?_⟩) hHeld ?_
      · obtain ⟨⟨⟨s1, s2, s3⟩, s4, s5, s6, s7, s8⟩, _, _, _⟩ := hS
        go_simp
      try simp only [Act.put, List.getElem_toArray, List.getElem_cons_zero, List.getElem_cons_succ, List.setIfInBounds_toArray, List.set_cons_zero, List.set_cons_succ]
      refine wpAnyH_done (by kernel_rfl) ?_ _
      have HF := Lib.hid hHeld.r.lw.b.bel
      clear hHeld
      go_wp2_with fail
      go_ret
      exact ⟨rfl, HF.out⟩
end Go.Proofs.Ytoineackmpafdaa.Bt
