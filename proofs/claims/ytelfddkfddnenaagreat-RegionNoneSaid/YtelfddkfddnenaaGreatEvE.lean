/- Values, blocks: what they stand for. -/
import Derived.Test.YtelfddkfddnenaaGreatEvD
namespace Ev
open Go Go.RowKit
set_option linter.unusedVariables false
set_option linter.unusedSimpArgs false
/-! how a reckoning that ends well went on -/
section
variable {v : V} {w : V} {h : HP} {c : Nat}
theorem asB_fin {q : Bool → R} (H : asB v q = .fin w h c) : ∃ x, v = .b x ∧ q x = .fin w h c := by cases v <;> first | exact ⟨_, rfl, H⟩ | cases H
theorem asS_fin {q : List Nat → R} (H : asS v q = .fin w h c) : ∃ x, v = .s x ∧ q x = .fin w h c := by cases v <;> first | exact ⟨_, rfl, H⟩ | cases H
theorem asP_fin {q : Nat → Nat → R} (H : asP v q = .fin w h c) : ∃ a o, v = .p a o ∧ q a o = .fin w h c := by cases v <;> first | exact ⟨_, _, rfl, H⟩ | cases H
theorem asA_fin {q : List V → R} (H : asA v q = .fin w h c) : ∃ x, v = .ag x ∧ q x = .fin w h c := by cases v <;> first | exact ⟨_, rfl, H⟩ | cases H
theorem asT_fin {q : List V → R} (H : asT v q = .fin w h c) : ∃ x, v = .tu x ∧ q x = .fin w h c := by cases v <;> first | exact ⟨_, rfl, H⟩ | cases H
theorem asN_fin {q : Nat → Nat → R} (H : asN v q = .fin w h c) : ∃ k m, v = .i k m ∧ q k m = .fin w h c := by cases v <;> first | exact ⟨_, _, rfl, H⟩ | cases H
/-- an integer -/
def int : V → Option (Nat × Int)
  | .i k m => some (k, .ofNat m)
  | .j k m => some (k, .negSucc m)
  | _ => none
theorem asI_fin {q : Nat → Int → R} (H : asI v q = .fin w h c) : ∃ k n, int v = some (k, n) ∧ q k n = .fin w h c := by cases v <;> first | exact ⟨_, _, rfl, H⟩ | cases H
theorem asL_fin {z : R} {q : Nat → Nat → Nat → Nat → Bool → R} (H : asL v z q = .fin w h c) : (v = .ns ∧ z = .fin w h c) ∨ ∃ a o n e s, v = .sl a o n e s ∧ q a o n e s = .fin w h c := by
  cases v <;> first | exact .inl ⟨rfl, H⟩ | exact .inr ⟨_, _, _, _, _, rfl, H⟩ | cases H
theorem asQ_fin {z : R} {q : Nat → Nat → R} (H : asQ v z q = .fin w h c) : (v = .np ∧ z = .fin w h c) ∨ ∃ a o, v = .p a o ∧ q a o = .fin w h c := by
  cases v <;> first | exact .inl ⟨rfl, H⟩ | exact .inr ⟨_, _, rfl, H⟩ | cases H
theorem asW_fin {z : R} {q : Bool → R} (H : asW v z q = .fin w h c) : (∃ x, v = .b x ∧ q x = .fin w h c) ∨ ((∀ x, v ≠ .b x) ∧ z = .fin w h c) := by
  cases v <;> first | exact .inl ⟨_, rfl, H⟩ | exact Or.inr (And.intro (fun _ e => V.noConfusion e) H)
theorem fV_eq {q : V → R} : fV v q = q v := by unfold fV ifT; cases isV v <;> rfl
theorem fN_eq {β : Type} {m : Nat} {q : Nat → β} : fN m q = q m := by cases m <;> rfl
theorem fB_eq {b : Bool} {q : Bool → R} : fB b q = q b := by cases b <;> rfl
theorem fL_eq {β : Type} : ∀ {l : List Nat} {q : List Nat → β}, fL l q = q l
  | [], _ => rfl
  | m :: l, q => by
    show fN m (fun m => fL l fun l => q (m :: l)) = _
    rw [fN_eq, fL_eq]
theorem ifT_fin {b : Bool} {x : R} {n : Nat} (H : ifT b x (.bad n) = .fin w h c) : b = true ∧ x = .fin w h c := by
  cases b
  · cases H
  · exact ⟨rfl, H⟩
theorem ifT_true {β : Type} {b : Bool} {x y : β} (h : b = true) : ifT b x y = x := by subst h; rfl
theorem ifT_false {β : Type} {b : Bool} {x y : β} (h : b = false) : ifT b x y = y := by subst h; rfl
theorem vI_eq {k : Nat} {n : Int} {q : V → R} : vI k n q = q (match n with | .ofNat m => .i k m | .negSucc m => .j k m) := by
  cases n with
  | ofNat m => exact fN_eq
  | negSucc m => exact fN_eq
end
theorem len_eq {α : Type} : ∀ l : List α, len l = l.length
  | [] => rfl
  | _ :: l => by show Nat.add (len l) 1 = _; rw [len_eq l]; rfl
theorem app_eq {α : Type} : ∀ a b : List α, app a b = a ++ b
  | [], _ => rfl
  | x :: a, b => by show x :: app a b = _; rw [app_eq a b]; rfl
theorem nth_eq : ∀ (l : List V) (i : Nat), nth l i = l.getD i .u
  | [], _ => by simp [nth]
  | v :: l, 0 => rfl
  | v :: l, i + 1 => by show nth l i = _; rw [nth_eq l i]; simp
theorem drop_eq {α : Type} : ∀ (o : Nat) (l : List α), drop o l = l.drop o
  | 0, _ => rfl
  | o + 1, [] => rfl
  | o + 1, _ :: l => by show drop o l = _; rw [drop_eq o l]; rfl
theorem take_eq {α : Type} : ∀ (o : Nat) (l : List α), take o l = l.take o
  | 0, _ => by show [] = _; simp
  | o + 1, [] => rfl
  | o + 1, v :: l => by show v :: take o l = _; rw [take_eq o l]; rfl
/-! what a value stands for -/
abbrev Rho := Nat → Option (Nat × Nat)
def str (l : List Nat) : ByteArray := ⟨(l.map UInt8.ofNat).toArray⟩
mutual
def den (ρ : Rho) : V → Option Value
  | .u => some undef
  | .np => some (.pointer none)
  | .ns => some (.slice none 0 0)
  | .nf => some .nilFunc
  | .y l => (ρ l).map fun p => .func (.yield p.1) #[] #[]
  | .gp g o => some (.pointer (some ⟨g, o, none⟩))
  | .mp a => (ρ a).map fun p => .map (some p.1)
  | .f g x y => (denL ρ x).bind fun x => (denL ρ y).map fun y => .func (.func g) x.toArray y.toArray
  | .tu l => (denL ρ l).map fun l => .tuple l.toArray
  | .ag l => (denL ρ l).map fun l => .agg l.toArray
  | .s l => some (.string (str l))
  | .sl a o n c q => (ρ a).map fun p => .slice (some ⟨p.1, o, none⟩) n (if q then p.2 - c else c)
  | .j k m => some (.int (kd k) (.negSucc m))
  | .b x => some (.bool x)
  | .p a o => (ρ a).map fun p => .pointer (some ⟨p.1, o, none⟩)
  | .i k m => some (.int (kd k) (.ofNat m))
def denL (ρ : Rho) : List V → Option (List Value)
  | [] => some []
  | v :: l => (den ρ v).bind fun x => (denL ρ l).map fun l => x :: l
end
def Le (ρ ρ' : Rho) : Prop := ∀ k p, ρ k = some p → ρ' k = some p
theorem Le.refl (ρ : Rho) : Le ρ ρ := fun _ _ h => h
theorem Le.trans {a b c : Rho} (h : Le a b) (k : Le b c) : Le a c := fun _ _ e => k _ _ (h _ _ e)
theorem denL_nil (ρ : Rho) : denL ρ [] = some [] := by simp [denL]
theorem denL_cons {ρ : Rho} {v : V} {l : List V} {r : List Value} : denL ρ (v :: l) = some r ↔ ∃ x xs, r = x :: xs ∧ den ρ v = some x ∧ denL ρ l = some xs := by
  simp only [denL, Option.bind_eq_some_iff, Option.map_eq_some_iff]
  constructor
  · rintro ⟨x, h1, xs, h2, rfl⟩; exact ⟨x, xs, rfl, h1, h2⟩
  · rintro ⟨x, xs, rfl, h1, h2⟩; exact ⟨x, h1, xs, h2, rfl⟩
mutual
theorem den_mono {ρ ρ' : Rho} (h : Le ρ ρ') : ∀ (v : V) {x : Value}, den ρ v = some x → den ρ' v = some x
  | .u, _, e => by simpa [den] using e
  | .np, _, e => by simpa [den] using e
  | .ns, _, e => by simpa [den] using e
  | .nf, _, e => by simpa [den] using e
  | .gp _ _, _, e => by simpa [den] using e
  | .s _, _, e => by simpa [den] using e
  | .j _ _, _, e => by simpa [den] using e
  | .b _, _, e => by simpa [den] using e
  | .i _ _, _, e => by simpa [den] using e
  | .y l, x, e => by
    simp only [den, Option.map_eq_some_iff] at *
    obtain ⟨p, hp, rfl⟩ := e; exact ⟨p, h _ _ hp, rfl⟩
  | .p a o, x, e => by
    simp only [den, Option.map_eq_some_iff] at *
    obtain ⟨p, hp, rfl⟩ := e; exact ⟨p, h _ _ hp, rfl⟩
  | .mp a, x, e => by
    simp only [den, Option.map_eq_some_iff] at *
    obtain ⟨p, hp, rfl⟩ := e; exact ⟨p, h _ _ hp, rfl⟩
  | .sl a o n c q, x, e => by
    simp only [den, Option.map_eq_some_iff] at *
    obtain ⟨p, hp, rfl⟩ := e; exact ⟨p, h _ _ hp, rfl⟩
  | .f g a b, x, e => by
    simp only [den, Option.bind_eq_some_iff, Option.map_eq_some_iff] at *
    obtain ⟨xs, h1, ys, h2, rfl⟩ := e; exact ⟨xs, denL_mono h a h1, ys, denL_mono h b h2, rfl⟩
  | .tu l, x, e => by
    simp only [den, Option.map_eq_some_iff] at *
    obtain ⟨xs, h1, rfl⟩ := e; exact ⟨xs, denL_mono h l h1, rfl⟩
  | .ag l, x, e => by
    simp only [den, Option.map_eq_some_iff] at *
    obtain ⟨xs, h1, rfl⟩ := e; exact ⟨xs, denL_mono h l h1, rfl⟩
theorem denL_mono {ρ ρ' : Rho} (h : Le ρ ρ') : ∀ (l : List V) {x : List Value}, denL ρ l = some x → denL ρ' l = some x
  | [], _, e => by simpa [denL] using e
  | v :: l, r, e => by
    obtain ⟨x, xs, rfl, h1, h2⟩ := denL_cons.1 e
    exact denL_cons.2 ⟨x, xs, rfl, den_mono h v h1, denL_mono h l h2⟩
end
theorem denL_length {ρ : Rho} : ∀ {l : List V} {r : List Value}, denL ρ l = some r → r.length = l.length
  | [], _, e => by simp [denL] at e; subst e; rfl
  | v :: l, r, e => by
    obtain ⟨x, xs, rfl, h1, h2⟩ := denL_cons.1 e
    simp [denL_length h2]
theorem denL_get {ρ : Rho} : ∀ {l : List V} {r : List Value} {i : Nat} {v : V}, denL ρ l = some r → l[i]? = some v → ∃ x, r[i]? = some x ∧ den ρ v = some x
  | [], _, i, v, e, h => by simp at h
  | w :: l, r, 0, v, e, h => by
    obtain ⟨x, xs, rfl, h1, h2⟩ := denL_cons.1 e
    simp at h; subst h; exact ⟨x, rfl, h1⟩
  | w :: l, r, i + 1, v, e, h => by
    obtain ⟨x, xs, rfl, h1, h2⟩ := denL_cons.1 e
    simp at h; simpa using denL_get h2 h
theorem denL_append {ρ : Rho} : ∀ {a b : List V} {x y : List Value}, denL ρ a = some x → denL ρ b = some y → denL ρ (a ++ b) = some (x ++ y)
  | [], b, x, y, h, k => by simp [denL] at h; subst h; simpa using k
  | v :: a, b, r, y, h, k => by
    obtain ⟨x, xs, rfl, h1, h2⟩ := denL_cons.1 h
    exact denL_cons.2 ⟨x, xs ++ y, rfl, h1, denL_append h2 k⟩
theorem denL_take {ρ : Rho} : ∀ (n : Nat) {a : List V} {x : List Value}, denL ρ a = some x → denL ρ (a.take n) = some (x.take n)
  | 0, _, _, _ => by simp [denL]
  | n + 1, [], _, h => by simp [denL] at h; subst h; simp [denL]
  | n + 1, v :: a, r, h => by
    obtain ⟨x, xs, rfl, h1, h2⟩ := denL_cons.1 h
    exact denL_cons.2 ⟨x, xs.take n, rfl, h1, denL_take n h2⟩
theorem denL_drop {ρ : Rho} : ∀ (n : Nat) {a : List V} {x : List Value}, denL ρ a = some x → denL ρ (a.drop n) = some (x.drop n)
  | 0, _, _, h => by simpa using h
  | n + 1, [], _, h => by simp [denL] at h; subst h; simp [denL]
  | n + 1, v :: a, r, h => by
    obtain ⟨x, xs, rfl, h1, h2⟩ := denL_cons.1 h
    simpa using denL_drop n h2
/-- a value of one cell stands for one -/
theorem den_one {ρ : Rho} {v : V} {x : Value} (h : is1 v = true) (e : den ρ v = some x) : x.oneCell' = true := by
  cases v <;> first
    | exact Bool.noConfusion h
    | (simp only [den, Option.map_eq_some_iff, Option.bind_eq_some_iff, Option.some.injEq] at e
       first
         | (subst e; rfl)
         | (obtain ⟨_, _, rfl⟩ := e; rfl)
         | (obtain ⟨_, _, _, _, rfl⟩ := e; rfl))
theorem cl_den {ρ : Rho} {v : V} {x : Value} (e : den ρ v = some x) : denL ρ (cl v) = some x.cells.toList := by
  cases v with
  | ag l =>
    simp only [den, Option.map_eq_some_iff] at e
    obtain ⟨r, hr, rfl⟩ := e
    exact (by simpa [Value.cells] using hr : denL ρ l = some (Value.agg r.toArray).cells.toList)
  | _ =>
    have h1 : x.cells = #[x] := by
      simp only [den, Option.map_eq_some_iff, Option.bind_eq_some_iff, Option.some.injEq] at e
      first
        | (subst e; rfl)
        | (obtain ⟨_, _, rfl⟩ := e; rfl)
        | (obtain ⟨_, _, _, _, rfl⟩ := e; rfl)
    rw [h1]
    exact denL_cons.2 ⟨x, [], rfl, e, denL_nil ρ⟩
end Ev
