/- A law for the walk inside the wide fence: a region that draws its order, whose first operations only read and whose last ones stand in one forced order (a call of a loop's body among them), may be walked in the order of its text. It rests on the kit's law for the plain walk: what that says of the head is taken as it stands. -/
import Derived.StillTail
import Derived.StillTailTactics
import Derived.OrdersIn
import Derived.TacticsIn
import Derived.ControlIn
import Derived.RangeFuncCalls
import Derived.WalkKit
namespace Go.Proofs.YtmnhpmgffhpoeaaGreat
open Go

section
variable {P : Program} {ops : Array Oper} {w : World} {n : Nat} {Q : Exit → Act → World → Prop}

theorem wide_of_stOp {i : Nat} {K : Act → Prop} {K' : Act → World → Prop} {a : Act} (h : ∀ b, K b → K' b w) (hs : stOp P ops w i K a) : wpOpIn Fence.wide n P ops Q i K' a w := by
  unfold stOp at hs
  unfold wpOpIn
  cases ho : ops[i]? with
  | none => rw [ho] at hs; exact h _ hs
  | some o =>
    rw [ho] at hs
    simp only at hs ⊢
    by_cases hw : Region.wanted o (yielded ops a.tmps) = true
    · rw [if_pos hw] at hs ⊢
      refine ⟨fun _ _ => trivial, ?_⟩
      rw [show Fence.wide.round = none from rfl, Oper.semAt_none]
      unfold Oper.still at hs
      generalize (execOp a.eval o).run P w = r at hs
      match r, hs with
      | .ok (.value v) w', ⟨hx, hk⟩ => subst hx; exact h _ hk
      | .ok .skip w', ⟨hx, hk⟩ => subst hx; exact h _ hk
      | .ok (.enter f args) w', ⟨hx, v, hc, hk⟩ =>
        subst hx
        exact ⟨fun hd => by simp [Fence.wide] at hd, callsIn_wide.2 (hc.mono fun e w2 ⟨he, hw2⟩ => by subst he; subst hw2; exact h _ hk)⟩
    · rw [if_neg hw] at hs ⊢
      exact ⟨fun _ _ => trivial, h _ hs⟩

theorem wide_of_head {m g : Nat} {L : Array Bool → Act → Prop} (hL : ∀ listed b, L listed b → wpAnyIn Fence.wide n P .any ops Q g listed b w) :
    ∀ (f : Nat) (listed : Array Bool) (b : Act), wpAnyL P .any ops w m L f listed b → wpAnyIn Fence.wide n P .any ops Q (g + f) listed b w := by
  intro f
  induction f with
  | zero => intro listed b h; exact hL _ _ h
  | succ f ih =>
    intro listed b h
    refine ⟨fun he => absurd he h.1, fun i hi => ?_⟩
    exact wide_of_stOp (fun c hc => ih _ c hc) (h.2 i hi).2

theorem wide_of_seq : ∀ (t : List Oper) (k : Nat) (listed : Array Bool) (b : Act) (x : World), (∀ j, t[j]? = ops[k + j]?) → Region.seqB .any ops t.length k listed = true →
    wpListIn Fence.wide n P ops Q t b x → wpAnyIn Fence.wide n P .any ops Q t.length listed b x := by
  intro t
  induction t with
  | nil => intro k listed b x _ hB h; exact ⟨by simpa [Region.seqB] using hB, h⟩
  | cons o t ih =>
    intro k listed b x ht hB h
    have hk : ops[k]? = some o := by have := ht 0; simpa using this.symm
    simp only [List.length_cons, Region.seqB, Bool.and_eq_true, decide_eq_true_eq] at hB
    obtain ⟨hB1, hB2⟩ := hB
    refine ⟨fun he => (by rw [hB1] at he; cases he), fun i hi => ?_⟩
    have hik : i = k := by rw [hB1] at hi; simpa using hi
    subst hik
    have hop : wpOpIn Fence.wide n P ops Q i (wpListIn Fence.wide n P ops Q t) b x := by unfold wpOpIn; rw [hk]; exact h
    refine wpOpIn_mono (fun c y hc => ih (i + 1) _ c y (fun j => ?_) hB2 hc) hop
    have := ht (j + 1)
    rw [List.getElem?_cons_succ] at this
    rw [this]; congr 1; omega

/-- the head in the order of the text, then the tail -/
theorem wide_still_tail {id : Nat} {a : Act} {l : List Oper} (m : Nat) (hm : P.follows .mixedOrders = true) (hB : Region.lexTailB .any l.toArray m = true)
    (h : wpStill P l.toArray w.drew (fun b => wpListIn Fence.wide n P l.toArray Q (l.drop m) b w.drew) (l.take m) a) :
    (Code.region id l.toArray true).wpIn Fence.wide n P Q a w := by
  have hB' := hB
  simp only [Region.lexTailB, Bool.and_eq_true, decide_eq_true_eq] at hB'
  obtain ⟨⟨⟨⟨c1, c2⟩, c3⟩, c4⟩, c5⟩ := hB'
  have hlt : m < l.length := by simpa using c2
  have e1 : (l.take m).length = m := by simp; omega
  have e2 : (l.drop m).length = l.toArray.size - m := by simp
  have start : HeadInv .any l.toArray m (Array.replicate l.toArray.size false) :=
    ⟨by simp, fun j oj _ hl => (by rw [getD_replicate_false] at hl; cases hl), fun t _ ht => getD_in (by simpa using ht) (getD_replicate_false _ _)⟩
  have head := wpAnyL_lex (md := .any) (g := l.toArray.size - m) c1 c3 c4 c2 (l.take m) 0 _ a
    (fun j hj => by rw [e1] at hj; simp [hj]) (by simpa using e1) start (by rw [e1]; exact c5) h
  rw [e1] at head
  refine wpIn_region_any hm ?_
  have all := wide_of_head (n := n) (Q := Q) (g := l.toArray.size - m) (fun listed b hb => by
    have := wide_of_seq (n := n) (Q := Q) (l.drop m) m listed b { w with drawn := w.drawn + 1 } (fun j => by simp [List.getElem?_drop]) (by rw [e2]; exact hb.1) hb.2
    rwa [e2] at this) m _ a head
  rwa [show l.toArray.size - m + m = l.toArray.size from by omega] at all
/-! the same inside a round of a loop over an iterator -/
def noDefer (ops : Array Oper) : Bool := ops.toList.all fun o => match o.op with | .defer _ => false | _ => true
theorem noDefer_at {ops : Array Oper} (h : noDefer ops = true) {i : Nat} {o : Oper} (ho : ops[i]? = some o) : ∀ c, o.op ≠ .defer c := by
  intro c hc
  have hm : o ∈ ops.toList := by
    obtain ⟨h1, h2⟩ := Array.getElem?_eq_some_iff.1 ho
    rw [← h2]; simp
  have := List.all_eq_true.1 h o hm
  rw [hc] at this
  cases this
theorem round_of_stOp {l i : Nat} (hnd : noDefer ops = true) {K : Act → Prop} {K' : Act → World → Prop} {a : Act} (h : ∀ b, K b → K' b w) (hs : stOp P ops w i K a) : wpOpIn (Fence.wide.inRound l) n P ops Q i K' a w := by
  unfold stOp at hs
  unfold wpOpIn
  cases ho : ops[i]? with
  | none => rw [ho] at hs; exact h _ hs
  | some o =>
    rw [ho] at hs
    simp only at hs ⊢
    by_cases hw : Region.wanted o (yielded ops a.tmps) = true
    · rw [if_pos hw] at hs ⊢
      refine ⟨fun _ _ => trivial, ?_⟩
      rw [show (Fence.wide.inRound l).round = some l from rfl, Oper.semAt_some _ _ _ (noDefer_at hnd ho)]
      unfold Oper.still at hs
      generalize (execOp a.eval o).run P w = r at hs
      match r, hs with
      | .ok (.value v) w', ⟨hx, hk⟩ => subst hx; exact h _ hk
      | .ok .skip w', ⟨hx, hk⟩ => subst hx; exact h _ hk
      | .ok (.enter f args) w', ⟨hx, v, hc, hk⟩ =>
        subst hx
        exact ⟨fun hd => by simp [Fence.inRound, Fence.wide] at hd, CallsIn.inRound l (callsIn_wide.2 (hc.mono fun e w2 ⟨he, hw2⟩ => by subst he; subst hw2; exact h _ hk))⟩
    · rw [if_neg hw] at hs ⊢
      exact ⟨fun _ _ => trivial, h _ hs⟩
theorem round_of_head {l m g : Nat} (hnd : noDefer ops = true) {L : Array Bool → Act → Prop} (hL : ∀ listed b, L listed b → wpAnyIn (Fence.wide.inRound l) n P .any ops Q g listed b w) :
    ∀ (f : Nat) (listed : Array Bool) (b : Act), wpAnyL P .any ops w m L f listed b → wpAnyIn (Fence.wide.inRound l) n P .any ops Q (g + f) listed b w := by
  intro f
  induction f with
  | zero => intro listed b h; exact hL _ _ h
  | succ f ih =>
    intro listed b h
    exact ⟨fun he => absurd he h.1, fun i hi => round_of_stOp hnd (fun c hc => ih _ c hc) (h.2 i hi).2⟩
theorem round_of_seq {l : Nat} : ∀ (t : List Oper) (k : Nat) (listed : Array Bool) (b : Act) (x : World), (∀ j, t[j]? = ops[k + j]?) → Region.seqB .any ops t.length k listed = true →
    wpListIn (Fence.wide.inRound l) n P ops Q t b x → wpAnyIn (Fence.wide.inRound l) n P .any ops Q t.length listed b x := by
  intro t
  induction t with
  | nil => intro k listed b x _ hB h; exact ⟨by simpa [Region.seqB] using hB, h⟩
  | cons o t ih =>
    intro k listed b x ht hB h
    have hk : ops[k]? = some o := by have := ht 0; simpa using this.symm
    simp only [List.length_cons, Region.seqB, Bool.and_eq_true, decide_eq_true_eq] at hB
    obtain ⟨hB1, hB2⟩ := hB
    refine ⟨fun he => (by rw [hB1] at he; cases he), fun i hi => ?_⟩
    have hik : i = k := by rw [hB1] at hi; simpa using hi
    subst hik
    have hop : wpOpIn (Fence.wide.inRound l) n P ops Q i (wpListIn (Fence.wide.inRound l) n P ops Q t) b x := by unfold wpOpIn; rw [hk]; exact h
    refine wpOpIn_mono (fun c y hc => ih (i + 1) _ c y (fun j => ?_) hB2 hc) hop
    have := ht (j + 1)
    rw [List.getElem?_cons_succ] at this
    rw [this]; congr 1; omega
theorem round_still_tail {id r : Nat} {a : Act} {l : List Oper} (m : Nat) (hm : P.follows .mixedOrders = true) (hB : Region.lexTailB .any l.toArray m = true) (hnd : noDefer l.toArray = true)
    (h : wpStill P l.toArray w.drew (fun b => wpListIn (Fence.wide.inRound r) n P l.toArray Q (l.drop m) b w.drew) (l.take m) a) :
    (Code.region id l.toArray true).wpIn (Fence.wide.inRound r) n P Q a w := by
  have hB' := hB
  simp only [Region.lexTailB, Bool.and_eq_true, decide_eq_true_eq] at hB'
  obtain ⟨⟨⟨⟨c1, c2⟩, c3⟩, c4⟩, c5⟩ := hB'
  have hlt : m < l.length := by simpa using c2
  have e1 : (l.take m).length = m := by simp; omega
  have e2 : (l.drop m).length = l.toArray.size - m := by simp
  have start : HeadInv .any l.toArray m (Array.replicate l.toArray.size false) :=
    ⟨by simp, fun j oj _ hl => (by rw [getD_replicate_false] at hl; cases hl), fun t _ ht => getD_in (by simpa using ht) (getD_replicate_false _ _)⟩
  have head := wpAnyL_lex (md := .any) (g := l.toArray.size - m) c1 c3 c4 c2 (l.take m) 0 _ a
    (fun j hj => by rw [e1] at hj; simp [hj]) (by simpa using e1) start (by rw [e1]; exact c5) h
  rw [e1] at head
  refine wpIn_region_any hm ?_
  have all := round_of_head (n := n) (Q := Q) (l := r) (g := l.toArray.size - m) hnd (fun listed b hb => by
    have := round_of_seq (n := n) (Q := Q) (l := r) (l.drop m) m listed b { w with drawn := w.drawn + 1 } (fun j => by simp [List.getElem?_drop]) (by rw [e2]; exact hb.1) hb.2
    rwa [e2] at this) m _ a head
  rwa [show l.toArray.size - m + m = l.toArray.size from by omega] at all
end
end Go.Proofs.YtmnhpmgffhpoeaaGreat
