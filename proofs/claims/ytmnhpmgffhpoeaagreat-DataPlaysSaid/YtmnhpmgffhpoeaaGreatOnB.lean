/- Small laws on blocks of one's own, and on an arena beside them. -/
import Derived.Test.YtmnhpmgffhpoeaaGreatOn
import Derived.Test.YtmnhpmgffhpoeaaGreatVwNil
namespace Go.Proofs.YtmnhpmgffhpoeaaGreat.Bt
open Go Go.RowKit Go.Shelf
set_option linter.unusedVariables false

theorem below2 (w : World) (o o' : Obj) : Below w.heap.size w ((w.alloc o).alloc o') := ((Below.refl _ _).alloc (Nat.le_refl _) _).alloc (by simp) _
theorem pair_set {x : World} {B : Nat} {c : Array Value} {T : TypeId} (h : x.heap[B]? = some (.cells c T (0, 0))) (hc : c.size = 2) (u v : Value) :
    ((x.setCell ⟨B, 0, none⟩ u).setCell ⟨B, 1, none⟩ v).heap[B]? = some (.cells #[u, v] T (0, 0)) := by
  rw [heap_set (heap_set h u) v]
  match c, hc with
  | ⟨[_, _]⟩, _ => rfl
theorem heap_old2 (w : World) (o o' : Obj) : ((w.alloc o).alloc o').heap[w.heap.size + 1]? = some o' := by
  have h := heap_new (w.alloc o) o'
  rwa [show (w.alloc o).heap.size = w.heap.size + 1 from by simp] at h
/-- a block of two cells, kept by what comes -/
theorem pair_at {w w1 : World} {B : Nat} {u v : Value} {T : TypeId} (hb : Below w.heap.size w w1) (h : w.heap[B]? = some (.cells #[u, v] T (0, 0))) :
    w1.heap[B]? = some (.cells #[u, v] T (0, 0)) := (hb.block B (Array.getElem?_eq_some_iff.1 h).1).trans h
theorem bel1 (w : World) (o : Obj) : Below w.heap.size w (w.alloc o) := (Below.refl _ _).alloc (Nat.le_refl _) _
theorem pairs_new (x : World) (a b : Array Value) (T U : TypeId) : ((x.alloc (.cells a T)).alloc (.cells b U)).heap[x.heap.size]? = some (.cells a T (0, 0)) ∧ ((x.alloc (.cells a T)).alloc (.cells b U)).heap[x.heap.size + 1]? = some (.cells b U (0, 0)) :=
  ⟨(Below.heap_alloc _ _ _ (by simp)).trans (heap_new _ _), heap_old2 _ _ _⟩
/-- of bytes that are there, some -/
theorem there_part {L : Nat} {es : List Nat} (g : Good L es) {a n b k : Int} (h : thereE L es a n = 0) (h1 : a ≤ b) (h2 : 0 ≤ k) (h3 : b + k ≤ a + n) : thereE L es b k = 0 := by
  have hb : thereB L es a n = true := by unfold thereE at h; cases hq : thereB L es a n with
    | true => rfl
    | false => rw [hq] at h; cases h
  obtain ⟨t0, t1, t2, t3⟩ := (there_iff g a n).1 hb
  have : thereB L es b k = true := (there_iff g b k).2 ⟨by omega, h2, by omega, fun i i1 i2 => t3 i (by omega) (by omega)⟩
  unfold thereE; rw [this]; rfl
theorem heap_far2 {x : World} {B R : Nat} (hne : B ≠ R) (u v : Value) : ((x.setCell ⟨R, 0, none⟩ u).setCell ⟨R, 1, none⟩ v).heap[B]? = x.heap[B]? :=
  (Below.heap_setCell _ ⟨R, 1, none⟩ _ _ hne).trans (Below.heap_setCell _ ⟨R, 0, none⟩ _ _ hne)
theorem set3 {A R : Nat} {s : ASt} {w0 x : World} (h : On A s x) (hb : Base A w0 x) (hm : Mine A R x) (hR : w0.heap.size ≤ R) (u v z : Value) :
    On A s (((x.setCell ⟨R, 0, none⟩ u).setCell ⟨R, 1, none⟩ v).setCell ⟨R, 2, none⟩ z) ∧ Base A w0 (((x.setCell ⟨R, 0, none⟩ u).setCell ⟨R, 1, none⟩ v).setCell ⟨R, 2, none⟩ z) := by
  have h1 := h.set hm 0 u
  have b1 := hb.set h hm hR 0 u
  have m1 := Mine.set h hm hm 0 u
  have h2 := h1.set m1 1 v
  have b2 := b1.set h1 m1 hR 1 v
  have m2 := Mine.set h1 m1 m1 1 v
  exact ⟨h2.set m2 2 z, b2.set h2 m2 hR 2 z⟩
theorem awake4 (w : World) : Calls Tryz.prog 58 #[] w fun e w' => e = .returned (.bool true) ∧ Below w.heap.size w w' := by
  go_enter Tryz.func58, Tryz.ntmps58
  go_wp2_with fail
  refine (awake4_calls _).mono ?_
  rintro e w1 ⟨rfl, hb⟩
  go_wp2_with fail
  go_ret
  exact ⟨rfl, hb⟩
end Go.Proofs.YtmnhpmgffhpoeaaGreat.Bt
