/- A range over a function whose iterator keeps a variable of its own in a block of cells, of a type of which the loop's own variables are not: a law of my own beside the library's. -/
import Derived.RangeFuncNested
namespace Go.Proofs.Ytfappdiipflpfaa.Bt
open Go Go.RowKit

/-- an object of cells of type T -/
def OfT (T : TypeId) (o : Obj) : Prop := ∃ c fr, o = .cells c T fr
/-- the loop's invariant: it abides whatever turns objects that are no cells, and those of type T, that came since -/
def OwnT {β : Type} (T : TypeId) (B : Nat) (I : β → World → Prop) : Prop :=
  ∀ s W W' row, I s W → W.grownBy W' row → (∀ r, row = some r → B ≤ r ∧ ∃ o : Obj, W.heap[r]? = some o ∧ (o.isCells = false ∨ OfT T o)) → I s W'
/-- the same of what an iterator turns -/
def WalkT {β : Type} (T : TypeId) (B : Nat) (J : β → World → Prop) : Prop :=
  ∀ s W W' row, J s W → W.grownBy W' row → (∀ r, row = some r → B ≤ r ∧ ∃ o : Obj, W.heap[r]? = some o ∧ (o.isWalk = true ∨ OfT T o)) → J s W'
def SeqT {α : Type} (T : TypeId) (F : Fence) (n : Nat) (P : Program) (g : Nat) (lb : Array Value) (encs : α → Array Value) (Kp : World → World → Prop) (S Sp : List α → Prop) (N : Nat) (w : World) : Prop :=
  ∀ (l : Nat) (J Jx : List α → World → Prop) (W : World), Below w.heap.size w W → WalkT T W.heap.size J → WalkT T W.heap.size Jx →
    (∀ pre x W1, J pre W1 → pre.length < N → YieldAt F (n - 1) P l (encs x) W1 fun e W' =>
      (e = .returned (.bool true) ∧ J (pre ++ [x]) W' ∧ Kp W1 W') ∨ (e = .returned (.bool false) ∧ Jx (pre ++ [x]) W')) →
    J [] W →
    CallsIn F n P g (#[.func (.yield l) #[] #[]] ++ lb) W fun e W' => (∃ v, e = .returned v) ∧ ((∃ xs, S xs ∧ J xs W') ∨ (∃ pre, Sp pre ∧ Jx pre W'))

theorem OwnT.one {β : Type} {T : TypeId} {B : Nat} {I : β → World → Prop} (h : OwnT T B I) {s : β} {W : World} (o : Obj) (hs : I s W) : I s (W.alloc o) :=
  h s W _ none hs (World.grownBy_alloc W o none) (fun r e => by cases e)
theorem OwnT.turn {β : Type} {T : TypeId} {B : Nat} {I : β → World → Prop} (h : OwnT T B I) {s : β} {W : World} {l : Nat} {o : Obj} (o' : Obj) (hs : I s W) (hB : B ≤ l) (hl : W.heap[l]? = some o) (ho : o.isCells = false) : I s (W.putObj l o') :=
  h s W _ (some l) hs (grownBy_putObj' W l o') (fun r e => by cases e; exact ⟨hB, o, hl, .inl ho⟩)
theorem OwnT.and {β : Type} {T : TypeId} {B : Nat} {I I' : β → World → Prop} (h : OwnT T B I) (h' : OwnT T B I') : OwnT T B (fun s W => I s W ∧ I' s W) :=
  fun s W W' row hs hg hr => ⟨h s W W' row hs.1 hg hr, h' s W W' row hs.2 hg hr⟩
/-- a block that is no walk's, and not of type T, lies as it lay -/
theorem stays {T : TypeId} {B : Nat} {W W' : World} {row : Option Nat} (hg : W.grownBy W' row) (hr : ∀ r, row = some r → B ≤ r ∧ ∃ o : Obj, W.heap[r]? = some o ∧ (o.isWalk = true ∨ OfT T o))
    {k : Nat} {o : Obj} (hk : W.heap[k]? = some o) (hw : o.isWalk = false) (ht : ¬ OfT T o) : W'.heap[k]? = some o := by
  refine (hg.block k (Array.getElem?_eq_some_iff.1 hk).1 fun e => ?_).trans hk
  obtain ⟨_, o', ho', h⟩ := hr k e.symm
  rw [hk] at ho'; cases ho'
  rcases h with h | h
  · rw [hw] at h; cases h
  · exact ht h
/-- a block of cells of another type lies as it lay -/
theorem stays_cells {T U : TypeId} {B : Nat} {W W' : World} {row : Option Nat} (hg : W.grownBy W' row) (hr : ∀ r, row = some r → B ≤ r ∧ ∃ o : Obj, W.heap[r]? = some o ∧ (o.isCells = false ∨ OfT T o))
    {k : Nat} {c : Array Value} {fr : Nat × Nat} (hk : W.heap[k]? = some (.cells c U fr)) (hU : U ≠ T) : W'.heap[k]? = some (.cells c U fr) := by
  refine (hg.block k (Array.getElem?_eq_some_iff.1 hk).1 fun e => ?_).trans hk
  obtain ⟨_, o', ho', h⟩ := hr k e.symm
  rw [hk] at ho'; cases ho'
  rcases h with h | ⟨c', fr', h⟩
  · cases h
  · cases h; exact hU rfl

theorem range_T {α : Type} {T : TypeId} {F : Fence} {n : Nat} {P : Program} {g : Operand} {ps : Array Tmp} {assign body : Code} {Q : Exit → Act → World → Prop} {a : Act} {w : World}
    (hro : F.round = none) (h1 : 1 ≤ n) {gf : Nat} {lb : Array Value} (hg : a.eval g = .func (.func gf) #[] lb) (hFg : F.fn gf) (eg : ∀ args w, (callFunc gf args).run P w = .ok (.enter gf args) w)
    {encs : α → Array Value} {Kp : World → World → Prop} {S Sp : List α → Prop} {N : Nat} (hseq : SeqT T F (n - 1) P gf lb encs Kp S Sp N w)
    (hKt : ∀ {A B C : World}, Kp A B → Kp B C → Kp A C) (hKb : ∀ (W : World) (l : Nat) (o o' : Obj), w.heap.size ≤ l → W.heap[l]? = some o → o.isCells = false → o.isWalk = false → Kp W (W.putObj l o')) (hps : ∀ x, (encs x).size = ps.size)
    (I : List α → World → Prop) (Ix : Code → List α → World → Prop) (hI : OwnT T w.heap.size I) (hIx : ∀ c, OwnT T w.heap.size (Ix c)) (h0 : I [] w)
    (Ax : α → Act → World → Prop) (hAx : ∀ x a', OwnFrom w.heap.size (fun (_ : Unit) W => Ax x a' W))
    (hassign : ∀ (l : Nat) (pre : List α) (x : α) (W : World) (K : Act → World → Prop), I pre W → (∀ a' W', KeepsFrom w.heap.size W W' → Kp W W' → I pre W' → Ax x a' W' → K a' W') →
      assign.wpIn (F.inRound l) (n - 1 - 1) P (Exit.then K (fun _ _ _ => False)) { tmps := (ps.zip (encs x)).foldl (fun t (p, v) => t.setIfInBounds p v) a.tmps, defers := [] } W)
    (hbody : ∀ (l : Nat) (pre : List α) (x : α) (a' : Act) (W : World), I pre W → Ax x a' W → pre.length < N → body.wpIn (F.inRound l) (n - 1 - 1) P (ownPostG w.heap.size Kp I Ix (pre ++ [x]) W) a' W)
    (hdone : ∀ (D : Nat) (xs : List α) (W : World), w.heap.size ≤ D → S xs → I xs W → W.heap[D]? = some (.deferred (some [])) → Q .normal { a with defers := { target := .collected D, args := #[] } :: a.defers } W)
    (hstop : ∀ (D : Nat) (c : Code) (pre : List α) (W : World), w.heap.size ≤ D → Sp pre → Ix c pre W → W.heap[D]? = some (.deferred (some [])) → c.wpIn F n P Q { a with defers := { target := .collected D, args := #[] } :: a.defers } W) :
    (Code.rangeFunc g ps assign body).wpIn F n P Q a w := by
  refine wpIn_rangeFunc fun fn hfn => ?_
  rw [hro]
  -- the two blocks that the loop lays for itself: the deferred calls in block D, its record in the next one
  obtain ⟨D, hD⟩ : ∃ D, w.heap.size = D := ⟨_, rfl⟩
  obtain ⟨mk, hmk⟩ : ∃ mk : LoopState → Option Code → Loop, mk = fun st pe => { state := st, pending := pe, fn := fn, tmps := a.tmps, params := ps, assign := assign, body := body, defers := D } := ⟨_, rfl⟩
  have mks : ∀ st pe, (mk st pe).state = st ∧ (mk st pe).pending = pe ∧ (∀ st' , { mk st pe with state := st' } = mk st' pe) ∧ (∀ st' pe', { mk st pe with state := st', pending := pe' } = mk st' pe') := fun st pe => by rw [hmk]; exact ⟨rfl, rfl, fun _ => rfl, fun _ _ => rfl⟩
  obtain ⟨Bk, hBk⟩ : ∃ Bk : LoopState → Option Code → World → Prop, Bk = fun st pe W => W.heap[D + 1]? = some (.loop (mk st pe)) ∧ W.heap[D]? = some (.deferred (some [])) := ⟨_, rfl⟩
  have put : ∀ {st pe} st' pe' {W : World}, Bk st pe W → Bk st' pe' (W.putObj (D + 1) (.loop (mk st' pe'))) := fun {st pe} st' pe' {W} h => by
    rw [hBk] at h ⊢
    exact ⟨World.putObj_heap_same (Array.getElem?_eq_some_iff.1 h.1).1, (World.putObj_heap_other (by omega)).trans h.2⟩
  have kept : ∀ {st pe} {W W' : World}, KeepsFrom D W W' → Bk st pe W → Bk st pe W' := fun hk h => by
    rw [hBk] at h ⊢
    exact ⟨hk.same _ _ (by omega) h.1 rfl, hk.same _ _ (Nat.le_refl _) h.2 rfl⟩
  have walked : ∀ {st pe} {W W' : World} {row : Option Nat} {B : Nat}, W.grownBy W' row → (∀ r, row = some r → B ≤ r ∧ ∃ o : Obj, W.heap[r]? = some o ∧ (o.isWalk = true ∨ OfT T o)) → Bk st pe W → Bk st pe W' := fun hg' hr h => by
    rw [hBk] at h ⊢
    exact ⟨stays hg' hr h.1 rfl (fun ⟨_, _, e⟩ => by cases e), stays hg' hr h.2 rfl (fun ⟨_, _, e⟩ => by cases e)⟩
  have turnI : ∀ {st pe s} st' pe' {W : World}, Bk st pe W → I s W → I s (W.putObj (D + 1) (.loop (mk st' pe'))) := fun {st pe s} st' pe' {W} h hs => by
    rw [hBk] at h; exact hI.turn _ hs (by omega) h.1 rfl
  have turnX : ∀ {st pe s c} st' pe' {W : World}, Bk st pe W → Ix c s W → Ix c s (W.putObj (D + 1) (.loop (mk st' pe'))) := fun {st pe s c} st' pe' {W} h hs => by
    rw [hBk] at h; exact (hIx _).turn _ hs (by omega) h.1 rfl
  have turnK : ∀ {st pe} st' pe' {W : World}, Bk st pe W → Kp W (W.putObj (D + 1) (.loop (mk st' pe'))) := fun {st pe} st' pe' {W} h => by
    rw [hBk] at h; exact hKb _ _ _ _ (by omega) h.1 rfl rfl
  obtain ⟨W1, hW1⟩ : ∃ W1, (w.alloc (.deferred (some []))).alloc (.loop (mk .ready none)) = W1 := ⟨_, rfl⟩
  have hB1 : Bk .ready none W1 := by
    rw [hBk, ← hW1, ← hD]
    refine ⟨?_, (Below.heap_alloc _ _ _ (by simp)).trans (World.alloc_heap_new w _)⟩
    have := World.alloc_heap_new (w.alloc (.deferred (some []))) (.loop (mk .ready none)); rwa [World.size_alloc] at this
  have hI1 : I [] W1 := by rw [← hW1]; exact hI.one _ (hI.one _ h0)
  have hs1 : D ≤ W1.heap.size := by rw [← hW1, ← hD]; simp; omega
  have hb1 : Below w.heap.size w W1 := by rw [← hW1]; exact ((Below.refl _ w).alloc (Nat.le_refl _) _).alloc (by simp) _
  refine ⟨D + 1, [{ target := .collected D, args := #[] }], W1, { target := .fn (.func gf) lb, args := #[.func (.yield (D + 1)) #[] #[]] }, W1, gf, #[.func (.yield (D + 1)) #[] #[]] ++ lb, W1, ?_, ?_, ?_, ?_, fun _ => h1, ?_⟩
  · rw [← hW1, hmk, ← hD]; exact run_enterLoop_outer _ _ _ _ _
  · simp only [resolve, hg]; simp [go_sem]
  · intro f' hf'; simp [Target.leads] at hf'; subst hf'; exact hFg
  · simp [invoke, go_sem, eg]
  have up : ∀ {A : World} {row : Option Nat}, (∀ r, row = some r → W1.heap.size ≤ r ∧ ∃ o : Obj, A.heap[r]? = some o ∧ (o.isWalk = true ∨ OfT T o)) → (∀ r, row = some r → w.heap.size ≤ r ∧ ∃ o : Obj, A.heap[r]? = some o ∧ (o.isCells = false ∨ OfT T o)) :=
    fun hr r e => by obtain ⟨hB, o, ho, h⟩ := hr r e; exact ⟨by omega, o, ho, h.imp Obj.not_cells_of_walk id⟩
  refine (hseq (D + 1) (fun pre W => I pre W ∧ Bk .ready none W) (fun pre W => ∃ c, Ix c pre W ∧ Bk .done (some c) W) W1 hb1
    (fun s A B row hs hg' hr => ⟨hI s A B row hs.1 hg' (up hr), walked hg' hr hs.2⟩)
    (fun s A B row hs hg' hr => by obtain ⟨c, hc, hk⟩ := hs; exact ⟨c, hIx c s A B row hc hg' (up hr), walked hg' hr hk⟩)
    ?_ ⟨hI1, hB1⟩).mono ?_
  · -- a round
    rintro pre x W ⟨hi, hk⟩ hlen
    have hl : W.heap[D + 1]? = some (.loop (mk .ready none)) := by rw [hBk] at hk; exact hk.1
    have hy := run_yield (P := P) (args := encs x) hl (by rw [hmk]; exact hps x)
    rw [hmk] at hy
    refine ⟨fn, _, assign, body, hy, roundIn_of_wpIn hfn (hassign _ pre x W _ hi ?_)⟩
    clear hy hl
    intro a' Wa hkf hkp hia hax
    have hka := kept (by rw [← hD]; exact hkf) hk
    have hl : Wa.heap[D + 1]? = some (.loop (mk .ready none)) := by rw [hBk] at hka; exact hka.1
    have hbeg := run_beginRound (P := P) hl (mks _ _).1
    rw [(mks _ _).2.2.1] at hbeg
    refine ⟨_, hbeg, ?_⟩
    have hkb := put .busy none hka
    have hkk := turnK .busy none hka
    refine wpIn_mono (hbody _ pre x a' _ (turnI .busy none hka hia) ((hAx x a') () _ _ (some (D + 1)) hax (grownBy_putObj' _ _ _) (fun r e => by cases e; exact ⟨by omega, _, hl, rfl⟩)) hlen) ?_
    have fin : ∀ (jump : Option Code) (W3 : World), KeepsFrom D (Wa.putObj (D + 1) (.loop (mk .busy none))) W3 →
        (Instr.endRound (D + 1) jump).run P W3 = .ok (.bool jump.isNone) (W3.putObj (D + 1) (.loop (mk (if jump.isNone then .ready else .done) jump))) ∧ Bk .busy none W3 := fun jump W3 hk3 => by
      have h3 := kept hk3 hkb
      have hl3 : W3.heap[D + 1]? = some (.loop (mk .busy none)) := by rw [hBk] at h3; exact h3.1
      have := run_endRound (P := P) jump hl3
      rw [(mks _ _).2.2.2] at this
      exact ⟨this, h3⟩
    rintro e a3 W3 hp
    cases e with
    | normal =>
      obtain ⟨hk3, hkp3, hi3⟩ := hp
      obtain ⟨hr, h3⟩ := fin none W3 (by rw [← hD]; rw [← hD] at hk3; exact hk3)
      exact ⟨_, _, hr, .inl ⟨rfl, ⟨turnI _ _ h3 hi3, put _ _ h3⟩, hKt hkp (hKt (hKt hkk hkp3) (turnK _ _ h3))⟩⟩
    | ret =>
      obtain ⟨hk3, hi3⟩ := hp
      obtain ⟨hr, h3⟩ := fin (some .ret) W3 (by rw [← hD]; rw [← hD] at hk3; exact hk3)
      exact ⟨_, _, hr, .inr ⟨rfl, .ret, turnX _ _ h3 hi3, put _ _ h3⟩⟩
    | exit id =>
      obtain ⟨hk3, hi3⟩ := hp
      obtain ⟨hr, h3⟩ := fin (some (.exit id)) W3 (by rw [← hD]; rw [← hD] at hk3; exact hk3)
      exact ⟨_, _, hr, .inr ⟨rfl, .exit id, turnX _ _ h3 hi3, put _ _ h3⟩⟩
    | goto t =>
      obtain ⟨hk3, hi3⟩ := hp
      obtain ⟨hr, h3⟩ := fin (some (.goto t)) W3 (by rw [← hD]; rw [← hD] at hk3; exact hk3)
      exact ⟨_, _, hr, .inr ⟨rfl, .goto t, turnX _ _ h3 hi3, put _ _ h3⟩⟩
    | panic ch => exact hp.elim
    | outgrown => exact hp.elim
  · -- behind the iterator
    have shut : ∀ {st pe} {W : World}, st ≠ .busy → Bk st pe W → (Instr.endLoop (D + 1)).run P W = .ok pe (W.putObj (D + 1) (.loop (mk .exhausted pe))) := fun {st pe W} hst h => by
      have hl : W.heap[D + 1]? = some (.loop (mk st pe)) := by rw [hBk] at h; exact h.1
      have := run_endLoop (P := P) hl (by rw [(mks st pe).1]; exact hst)
      rw [(mks st pe).2.2.1, (mks st pe).2.1] at this
      exact this
    have dfr : ∀ {st pe} {W : World}, Bk st pe W → W.heap[D]? = some (.deferred (some [])) := fun h => by rw [hBk] at h; exact h.2
    rintro e W2 ⟨⟨v, rfl⟩, (⟨xs, hS, hi, hk⟩ | ⟨pre, hSp, c, hi, hk⟩)⟩
    · exact ⟨none, _, shut (by intro e; cases e) hk, hdone _ xs _ (by omega) hS (turnI _ _ hk hi) (dfr (put .exhausted none hk))⟩
    · exact ⟨some c, _, shut (by intro e; cases e) hk, hstop _ c pre _ (by omega) hSp (turnX _ _ hk hi) (dfr (put .exhausted (some c) hk))⟩
end Go.Proofs.Ytfappdiipflpfaa.Bt
