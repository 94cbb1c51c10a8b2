/- A machine for closed computations: what a Go function does is reckoned by the kernel, on a memory of its own. -/
import Derived.RangeFuncLeaves
import Derived.OrdersIn
import Derived.Below
namespace Ev
open Go
set_option linter.unusedVariables false
inductive T (α : Type) where
  | e
  | n (l : T α) (v : α) (r : T α)
inductive I6 where
  | x0 | x1 | x2 | x3 | x4 | x5 | x6 | x7 | x8 | x9 | x10 | x11 | x12 | x13 | x14 | x15
inductive A6 (α : Type) where
  | mk (a0 a1 a2 a3 a4 a5 a6 a7 a8 a9 a10 a11 a12 a13 a14 a15 : α)
inductive Bx (α : Type) where
  | no | mk (a : α)
inductive V where
  | u | np | ns | nf | y (l : Nat) | gp (g o : Nat) | mp (a : Nat) | f (g : Nat) (x y : List V) | tu (l : List V) | ag (l : List V)
  | s (l : List Nat) | sl (a o n c : Nat) (q : Bool) | j (k m : Nat) | b (x : Bool) | p (a o : Nat) | i (k m : Nat)
inductive Z where
  | c (v : V) | l (l : List V) (q : Nat)
inductive Ex where
  | nx | ex (i : Nat) | rt
mutual
inductive Q where
  | i | b | s | p | st (l : QL)
inductive QL where
  | e | c (o n : Nat) (q : Q) (l : QL)
end
inductive Ce where
  | b (t : A6 (A6 (A6 V))) | s (t : A6 V)
abbrev TM := A6 (A6 V)
inductive AS where
  | mk (n : Nat) (es : List Nat) (m : Nat) (r : Bool) (f : Nat)
inductive Me where
  | mk (x : Int) (y : Bool)
inductive Blk where
  | x | df | sp (a : AS)
  | lp (st : Nat) (pe : Ex) (g : Nat) (t : TM)
  | c (ty n q : Nat) (z : Z) (t : Ce)
  | mp (kt et n : Nat) (l : List Me)
abbrev HP := A6 (A6 (A6 (A6 Blk)))
inductive R where
  | bad (n : Nat) | fin (v : V) (h : HP) (x : Nat)
abbrev K := TM → HP → Nat → List Nat → R
abbrev KE := Ex → TM → HP → Nat → List Nat → R
abbrev KV := V → HP → Nat → R
abbrev CAL := V → List V → HP → Nat → KV → R
abbrev OP := TM → V
abbrev DS := V → TM → (TM → R) → R
abbrev OC := CAL → TM → HP → Nat → List Nat → K → R
abbrev CC := CAL → TM → HP → Nat → List Nat → K → KE → R
inductive RL where
  | no | mk (ps : List DS) (a b : CC)
inductive CF where
  | no | jn | kn (v : V) | fn (rs : TM → HP → (V → R) → R) (b : CC) (l : RL)

noncomputable section
section
variable {α β : Type}
def T.get (d : α) (t : T α) : Nat → α :=
  T.rec (motive := fun _ => Nat → α) (fun _ => d)
    (fun _ v _ gl gr k => Nat.rec (motive := fun _ => α) v
      (fun k _ => Bool.rec (motive := fun _ => α) (gr (Nat.div k 2)) (gl (Nat.div k 2)) (Nat.beq (Nat.mod k 2) 0)) k) t
def T.oneK (d x : α) (f : Nat) : Nat → (T α → T α) → T α :=
  Nat.rec (motive := fun _ => Nat → (T α → T α) → T α) (fun _ k => k .e)
    (fun _ ih i k => Nat.rec (motive := fun _ => T α) (k (.n .e x .e))
      (fun i _ => Bool.rec (motive := fun _ => T α) (ih (Nat.div i 2) fun r => k (.n .e d r)) (ih (Nat.div i 2) fun l => k (.n l d .e)) (Nat.beq (Nat.mod i 2) 0)) i) f
def T.setK (d x : α) (t : T α) : Nat → (T α → T α) → T α :=
  T.rec (motive := fun _ => Nat → (T α → T α) → T α) (fun i k => T.oneK d x (Nat.succ i) i k)
    (fun l v r sl sr i k => Nat.rec (motive := fun _ => T α) (k (.n l x r))
      (fun i _ => Bool.rec (motive := fun _ => T α) (sr (Nat.div i 2) fun r => k (.n l v r)) (sl (Nat.div i 2) fun l => k (.n l v r)) (Nat.beq (Nat.mod i 2) 0)) i) t
end
section
variable {α : Type}
def sel0 (t : A6 α) : α := A6.rec (motive := fun _ => α) (fun a0 a1 a2 a3 a4 a5 a6 a7 a8 a9 a10 a11 a12 a13 a14 a15 => a0) t
def sel1 (t : A6 α) : α := A6.rec (motive := fun _ => α) (fun a0 a1 a2 a3 a4 a5 a6 a7 a8 a9 a10 a11 a12 a13 a14 a15 => a1) t
def sel2 (t : A6 α) : α := A6.rec (motive := fun _ => α) (fun a0 a1 a2 a3 a4 a5 a6 a7 a8 a9 a10 a11 a12 a13 a14 a15 => a2) t
def sel3 (t : A6 α) : α := A6.rec (motive := fun _ => α) (fun a0 a1 a2 a3 a4 a5 a6 a7 a8 a9 a10 a11 a12 a13 a14 a15 => a3) t
def sel4 (t : A6 α) : α := A6.rec (motive := fun _ => α) (fun a0 a1 a2 a3 a4 a5 a6 a7 a8 a9 a10 a11 a12 a13 a14 a15 => a4) t
def sel5 (t : A6 α) : α := A6.rec (motive := fun _ => α) (fun a0 a1 a2 a3 a4 a5 a6 a7 a8 a9 a10 a11 a12 a13 a14 a15 => a5) t
def sel6 (t : A6 α) : α := A6.rec (motive := fun _ => α) (fun a0 a1 a2 a3 a4 a5 a6 a7 a8 a9 a10 a11 a12 a13 a14 a15 => a6) t
def sel7 (t : A6 α) : α := A6.rec (motive := fun _ => α) (fun a0 a1 a2 a3 a4 a5 a6 a7 a8 a9 a10 a11 a12 a13 a14 a15 => a7) t
def sel8 (t : A6 α) : α := A6.rec (motive := fun _ => α) (fun a0 a1 a2 a3 a4 a5 a6 a7 a8 a9 a10 a11 a12 a13 a14 a15 => a8) t
def sel9 (t : A6 α) : α := A6.rec (motive := fun _ => α) (fun a0 a1 a2 a3 a4 a5 a6 a7 a8 a9 a10 a11 a12 a13 a14 a15 => a9) t
def sel10 (t : A6 α) : α := A6.rec (motive := fun _ => α) (fun a0 a1 a2 a3 a4 a5 a6 a7 a8 a9 a10 a11 a12 a13 a14 a15 => a10) t
def sel11 (t : A6 α) : α := A6.rec (motive := fun _ => α) (fun a0 a1 a2 a3 a4 a5 a6 a7 a8 a9 a10 a11 a12 a13 a14 a15 => a11) t
def sel12 (t : A6 α) : α := A6.rec (motive := fun _ => α) (fun a0 a1 a2 a3 a4 a5 a6 a7 a8 a9 a10 a11 a12 a13 a14 a15 => a12) t
def sel13 (t : A6 α) : α := A6.rec (motive := fun _ => α) (fun a0 a1 a2 a3 a4 a5 a6 a7 a8 a9 a10 a11 a12 a13 a14 a15 => a13) t
def sel14 (t : A6 α) : α := A6.rec (motive := fun _ => α) (fun a0 a1 a2 a3 a4 a5 a6 a7 a8 a9 a10 a11 a12 a13 a14 a15 => a14) t
def sel15 (t : A6 α) : α := A6.rec (motive := fun _ => α) (fun a0 a1 a2 a3 a4 a5 a6 a7 a8 a9 a10 a11 a12 a13 a14 a15 => a15) t
def selB (i : I6) : Bx (A6 α → α) := I6.rec (motive := fun _ => Bx (A6 α → α)) (.mk sel0) (.mk sel1) (.mk sel2) (.mk sel3) (.mk sel4) (.mk sel5) (.mk sel6) (.mk sel7) (.mk sel8) (.mk sel9) (.mk sel10) (.mk sel11) (.mk sel12) (.mk sel13) (.mk sel14) (.mk sel15) i
def upd0 (v : α) (t : A6 α) (k : A6 α → R) : R := A6.rec (motive := fun _ => α → (A6 α → R) → R) (fun a0 a1 a2 a3 a4 a5 a6 a7 a8 a9 a10 a11 a12 a13 a14 a15 v k => k (.mk v a1 a2 a3 a4 a5 a6 a7 a8 a9 a10 a11 a12 a13 a14 a15)) t v k
def upd1 (v : α) (t : A6 α) (k : A6 α → R) : R := A6.rec (motive := fun _ => α → (A6 α → R) → R) (fun a0 a1 a2 a3 a4 a5 a6 a7 a8 a9 a10 a11 a12 a13 a14 a15 v k => k (.mk a0 v a2 a3 a4 a5 a6 a7 a8 a9 a10 a11 a12 a13 a14 a15)) t v k
def upd2 (v : α) (t : A6 α) (k : A6 α → R) : R := A6.rec (motive := fun _ => α → (A6 α → R) → R) (fun a0 a1 a2 a3 a4 a5 a6 a7 a8 a9 a10 a11 a12 a13 a14 a15 v k => k (.mk a0 a1 v a3 a4 a5 a6 a7 a8 a9 a10 a11 a12 a13 a14 a15)) t v k
def upd3 (v : α) (t : A6 α) (k : A6 α → R) : R := A6.rec (motive := fun _ => α → (A6 α → R) → R) (fun a0 a1 a2 a3 a4 a5 a6 a7 a8 a9 a10 a11 a12 a13 a14 a15 v k => k (.mk a0 a1 a2 v a4 a5 a6 a7 a8 a9 a10 a11 a12 a13 a14 a15)) t v k
def upd4 (v : α) (t : A6 α) (k : A6 α → R) : R := A6.rec (motive := fun _ => α → (A6 α → R) → R) (fun a0 a1 a2 a3 a4 a5 a6 a7 a8 a9 a10 a11 a12 a13 a14 a15 v k => k (.mk a0 a1 a2 a3 v a5 a6 a7 a8 a9 a10 a11 a12 a13 a14 a15)) t v k
def upd5 (v : α) (t : A6 α) (k : A6 α → R) : R := A6.rec (motive := fun _ => α → (A6 α → R) → R) (fun a0 a1 a2 a3 a4 a5 a6 a7 a8 a9 a10 a11 a12 a13 a14 a15 v k => k (.mk a0 a1 a2 a3 a4 v a6 a7 a8 a9 a10 a11 a12 a13 a14 a15)) t v k
def upd6 (v : α) (t : A6 α) (k : A6 α → R) : R := A6.rec (motive := fun _ => α → (A6 α → R) → R) (fun a0 a1 a2 a3 a4 a5 a6 a7 a8 a9 a10 a11 a12 a13 a14 a15 v k => k (.mk a0 a1 a2 a3 a4 a5 v a7 a8 a9 a10 a11 a12 a13 a14 a15)) t v k
def upd7 (v : α) (t : A6 α) (k : A6 α → R) : R := A6.rec (motive := fun _ => α → (A6 α → R) → R) (fun a0 a1 a2 a3 a4 a5 a6 a7 a8 a9 a10 a11 a12 a13 a14 a15 v k => k (.mk a0 a1 a2 a3 a4 a5 a6 v a8 a9 a10 a11 a12 a13 a14 a15)) t v k
def upd8 (v : α) (t : A6 α) (k : A6 α → R) : R := A6.rec (motive := fun _ => α → (A6 α → R) → R) (fun a0 a1 a2 a3 a4 a5 a6 a7 a8 a9 a10 a11 a12 a13 a14 a15 v k => k (.mk a0 a1 a2 a3 a4 a5 a6 a7 v a9 a10 a11 a12 a13 a14 a15)) t v k
def upd9 (v : α) (t : A6 α) (k : A6 α → R) : R := A6.rec (motive := fun _ => α → (A6 α → R) → R) (fun a0 a1 a2 a3 a4 a5 a6 a7 a8 a9 a10 a11 a12 a13 a14 a15 v k => k (.mk a0 a1 a2 a3 a4 a5 a6 a7 a8 v a10 a11 a12 a13 a14 a15)) t v k
def upd10 (v : α) (t : A6 α) (k : A6 α → R) : R := A6.rec (motive := fun _ => α → (A6 α → R) → R) (fun a0 a1 a2 a3 a4 a5 a6 a7 a8 a9 a10 a11 a12 a13 a14 a15 v k => k (.mk a0 a1 a2 a3 a4 a5 a6 a7 a8 a9 v a11 a12 a13 a14 a15)) t v k
def upd11 (v : α) (t : A6 α) (k : A6 α → R) : R := A6.rec (motive := fun _ => α → (A6 α → R) → R) (fun a0 a1 a2 a3 a4 a5 a6 a7 a8 a9 a10 a11 a12 a13 a14 a15 v k => k (.mk a0 a1 a2 a3 a4 a5 a6 a7 a8 a9 a10 v a12 a13 a14 a15)) t v k
def upd12 (v : α) (t : A6 α) (k : A6 α → R) : R := A6.rec (motive := fun _ => α → (A6 α → R) → R) (fun a0 a1 a2 a3 a4 a5 a6 a7 a8 a9 a10 a11 a12 a13 a14 a15 v k => k (.mk a0 a1 a2 a3 a4 a5 a6 a7 a8 a9 a10 a11 v a13 a14 a15)) t v k
def upd13 (v : α) (t : A6 α) (k : A6 α → R) : R := A6.rec (motive := fun _ => α → (A6 α → R) → R) (fun a0 a1 a2 a3 a4 a5 a6 a7 a8 a9 a10 a11 a12 a13 a14 a15 v k => k (.mk a0 a1 a2 a3 a4 a5 a6 a7 a8 a9 a10 a11 a12 v a14 a15)) t v k
def upd14 (v : α) (t : A6 α) (k : A6 α → R) : R := A6.rec (motive := fun _ => α → (A6 α → R) → R) (fun a0 a1 a2 a3 a4 a5 a6 a7 a8 a9 a10 a11 a12 a13 a14 a15 v k => k (.mk a0 a1 a2 a3 a4 a5 a6 a7 a8 a9 a10 a11 a12 a13 v a15)) t v k
def upd15 (v : α) (t : A6 α) (k : A6 α → R) : R := A6.rec (motive := fun _ => α → (A6 α → R) → R) (fun a0 a1 a2 a3 a4 a5 a6 a7 a8 a9 a10 a11 a12 a13 a14 a15 v k => k (.mk a0 a1 a2 a3 a4 a5 a6 a7 a8 a9 a10 a11 a12 a13 a14 v)) t v k
def updB (i : I6) : Bx (α → A6 α → (A6 α → R) → R) := I6.rec (motive := fun _ => Bx (α → A6 α → (A6 α → R) → R)) (.mk upd0) (.mk upd1) (.mk upd2) (.mk upd3) (.mk upd4) (.mk upd5) (.mk upd6) (.mk upd7) (.mk upd8) (.mk upd9) (.mk upd10) (.mk upd11) (.mk upd12) (.mk upd13) (.mk upd14) (.mk upd15) i
def mod0 (f : α → (α → R) → R) (t : A6 α) (k : A6 α → R) : R := A6.rec (motive := fun _ => (α → (α → R) → R) → (A6 α → R) → R) (fun a0 a1 a2 a3 a4 a5 a6 a7 a8 a9 a10 a11 a12 a13 a14 a15 f k => f a0 fun v => k (.mk v a1 a2 a3 a4 a5 a6 a7 a8 a9 a10 a11 a12 a13 a14 a15)) t f k
def mod1 (f : α → (α → R) → R) (t : A6 α) (k : A6 α → R) : R := A6.rec (motive := fun _ => (α → (α → R) → R) → (A6 α → R) → R) (fun a0 a1 a2 a3 a4 a5 a6 a7 a8 a9 a10 a11 a12 a13 a14 a15 f k => f a1 fun v => k (.mk a0 v a2 a3 a4 a5 a6 a7 a8 a9 a10 a11 a12 a13 a14 a15)) t f k
def mod2 (f : α → (α → R) → R) (t : A6 α) (k : A6 α → R) : R := A6.rec (motive := fun _ => (α → (α → R) → R) → (A6 α → R) → R) (fun a0 a1 a2 a3 a4 a5 a6 a7 a8 a9 a10 a11 a12 a13 a14 a15 f k => f a2 fun v => k (.mk a0 a1 v a3 a4 a5 a6 a7 a8 a9 a10 a11 a12 a13 a14 a15)) t f k
def mod3 (f : α → (α → R) → R) (t : A6 α) (k : A6 α → R) : R := A6.rec (motive := fun _ => (α → (α → R) → R) → (A6 α → R) → R) (fun a0 a1 a2 a3 a4 a5 a6 a7 a8 a9 a10 a11 a12 a13 a14 a15 f k => f a3 fun v => k (.mk a0 a1 a2 v a4 a5 a6 a7 a8 a9 a10 a11 a12 a13 a14 a15)) t f k
def mod4 (f : α → (α → R) → R) (t : A6 α) (k : A6 α → R) : R := A6.rec (motive := fun _ => (α → (α → R) → R) → (A6 α → R) → R) (fun a0 a1 a2 a3 a4 a5 a6 a7 a8 a9 a10 a11 a12 a13 a14 a15 f k => f a4 fun v => k (.mk a0 a1 a2 a3 v a5 a6 a7 a8 a9 a10 a11 a12 a13 a14 a15)) t f k
def mod5 (f : α → (α → R) → R) (t : A6 α) (k : A6 α → R) : R := A6.rec (motive := fun _ => (α → (α → R) → R) → (A6 α → R) → R) (fun a0 a1 a2 a3 a4 a5 a6 a7 a8 a9 a10 a11 a12 a13 a14 a15 f k => f a5 fun v => k (.mk a0 a1 a2 a3 a4 v a6 a7 a8 a9 a10 a11 a12 a13 a14 a15)) t f k
def mod6 (f : α → (α → R) → R) (t : A6 α) (k : A6 α → R) : R := A6.rec (motive := fun _ => (α → (α → R) → R) → (A6 α → R) → R) (fun a0 a1 a2 a3 a4 a5 a6 a7 a8 a9 a10 a11 a12 a13 a14 a15 f k => f a6 fun v => k (.mk a0 a1 a2 a3 a4 a5 v a7 a8 a9 a10 a11 a12 a13 a14 a15)) t f k
def mod7 (f : α → (α → R) → R) (t : A6 α) (k : A6 α → R) : R := A6.rec (motive := fun _ => (α → (α → R) → R) → (A6 α → R) → R) (fun a0 a1 a2 a3 a4 a5 a6 a7 a8 a9 a10 a11 a12 a13 a14 a15 f k => f a7 fun v => k (.mk a0 a1 a2 a3 a4 a5 a6 v a8 a9 a10 a11 a12 a13 a14 a15)) t f k
def mod8 (f : α → (α → R) → R) (t : A6 α) (k : A6 α → R) : R := A6.rec (motive := fun _ => (α → (α → R) → R) → (A6 α → R) → R) (fun a0 a1 a2 a3 a4 a5 a6 a7 a8 a9 a10 a11 a12 a13 a14 a15 f k => f a8 fun v => k (.mk a0 a1 a2 a3 a4 a5 a6 a7 v a9 a10 a11 a12 a13 a14 a15)) t f k
def mod9 (f : α → (α → R) → R) (t : A6 α) (k : A6 α → R) : R := A6.rec (motive := fun _ => (α → (α → R) → R) → (A6 α → R) → R) (fun a0 a1 a2 a3 a4 a5 a6 a7 a8 a9 a10 a11 a12 a13 a14 a15 f k => f a9 fun v => k (.mk a0 a1 a2 a3 a4 a5 a6 a7 a8 v a10 a11 a12 a13 a14 a15)) t f k
def mod10 (f : α → (α → R) → R) (t : A6 α) (k : A6 α → R) : R := A6.rec (motive := fun _ => (α → (α → R) → R) → (A6 α → R) → R) (fun a0 a1 a2 a3 a4 a5 a6 a7 a8 a9 a10 a11 a12 a13 a14 a15 f k => f a10 fun v => k (.mk a0 a1 a2 a3 a4 a5 a6 a7 a8 a9 v a11 a12 a13 a14 a15)) t f k
def mod11 (f : α → (α → R) → R) (t : A6 α) (k : A6 α → R) : R := A6.rec (motive := fun _ => (α → (α → R) → R) → (A6 α → R) → R) (fun a0 a1 a2 a3 a4 a5 a6 a7 a8 a9 a10 a11 a12 a13 a14 a15 f k => f a11 fun v => k (.mk a0 a1 a2 a3 a4 a5 a6 a7 a8 a9 a10 v a12 a13 a14 a15)) t f k
def mod12 (f : α → (α → R) → R) (t : A6 α) (k : A6 α → R) : R := A6.rec (motive := fun _ => (α → (α → R) → R) → (A6 α → R) → R) (fun a0 a1 a2 a3 a4 a5 a6 a7 a8 a9 a10 a11 a12 a13 a14 a15 f k => f a12 fun v => k (.mk a0 a1 a2 a3 a4 a5 a6 a7 a8 a9 a10 a11 v a13 a14 a15)) t f k
def mod13 (f : α → (α → R) → R) (t : A6 α) (k : A6 α → R) : R := A6.rec (motive := fun _ => (α → (α → R) → R) → (A6 α → R) → R) (fun a0 a1 a2 a3 a4 a5 a6 a7 a8 a9 a10 a11 a12 a13 a14 a15 f k => f a13 fun v => k (.mk a0 a1 a2 a3 a4 a5 a6 a7 a8 a9 a10 a11 a12 v a14 a15)) t f k
def mod14 (f : α → (α → R) → R) (t : A6 α) (k : A6 α → R) : R := A6.rec (motive := fun _ => (α → (α → R) → R) → (A6 α → R) → R) (fun a0 a1 a2 a3 a4 a5 a6 a7 a8 a9 a10 a11 a12 a13 a14 a15 f k => f a14 fun v => k (.mk a0 a1 a2 a3 a4 a5 a6 a7 a8 a9 a10 a11 a12 a13 v a15)) t f k
def mod15 (f : α → (α → R) → R) (t : A6 α) (k : A6 α → R) : R := A6.rec (motive := fun _ => (α → (α → R) → R) → (A6 α → R) → R) (fun a0 a1 a2 a3 a4 a5 a6 a7 a8 a9 a10 a11 a12 a13 a14 a15 f k => f a15 fun v => k (.mk a0 a1 a2 a3 a4 a5 a6 a7 a8 a9 a10 a11 a12 a13 a14 v)) t f k
def modB (i : I6) : Bx ((α → (α → R) → R) → A6 α → (A6 α → R) → R) := I6.rec (motive := fun _ => Bx ((α → (α → R) → R) → A6 α → (A6 α → R) → R)) (.mk mod0) (.mk mod1) (.mk mod2) (.mk mod3) (.mk mod4) (.mk mod5) (.mk mod6) (.mk mod7) (.mk mod8) (.mk mod9) (.mk mod10) (.mk mod11) (.mk mod12) (.mk mod13) (.mk mod14) (.mk mod15) i
def seN15d (n : Nat) : A6 α → α := sel15
def seN14d (n : Nat) : A6 α → α := Nat.rec (motive := fun _ => A6 α → α) sel14 (fun n _ => seN15d n) n
def seN13d (n : Nat) : A6 α → α := Nat.rec (motive := fun _ => A6 α → α) sel13 (fun n _ => seN14d n) n
def seN12d (n : Nat) : A6 α → α := Nat.rec (motive := fun _ => A6 α → α) sel12 (fun n _ => seN13d n) n
def seN11d (n : Nat) : A6 α → α := Nat.rec (motive := fun _ => A6 α → α) sel11 (fun n _ => seN12d n) n
def seN10d (n : Nat) : A6 α → α := Nat.rec (motive := fun _ => A6 α → α) sel10 (fun n _ => seN11d n) n
def seN9d (n : Nat) : A6 α → α := Nat.rec (motive := fun _ => A6 α → α) sel9 (fun n _ => seN10d n) n
def seN8d (n : Nat) : A6 α → α := Nat.rec (motive := fun _ => A6 α → α) sel8 (fun n _ => seN9d n) n
def seN7d (n : Nat) : A6 α → α := Nat.rec (motive := fun _ => A6 α → α) sel7 (fun n _ => seN8d n) n
def seN6d (n : Nat) : A6 α → α := Nat.rec (motive := fun _ => A6 α → α) sel6 (fun n _ => seN7d n) n
def seN5d (n : Nat) : A6 α → α := Nat.rec (motive := fun _ => A6 α → α) sel5 (fun n _ => seN6d n) n
def seN4d (n : Nat) : A6 α → α := Nat.rec (motive := fun _ => A6 α → α) sel4 (fun n _ => seN5d n) n
def seN3d (n : Nat) : A6 α → α := Nat.rec (motive := fun _ => A6 α → α) sel3 (fun n _ => seN4d n) n
def seN2d (n : Nat) : A6 α → α := Nat.rec (motive := fun _ => A6 α → α) sel2 (fun n _ => seN3d n) n
def seN1d (n : Nat) : A6 α → α := Nat.rec (motive := fun _ => A6 α → α) sel1 (fun n _ => seN2d n) n
def seN (n : Nat) : A6 α → α := Nat.rec (motive := fun _ => A6 α → α) sel0 (fun n _ => seN1d n) n
def upN15d (n : Nat) : α → A6 α → (A6 α → R) → R := upd15
def upN14d (n : Nat) : α → A6 α → (A6 α → R) → R := Nat.rec (motive := fun _ => α → A6 α → (A6 α → R) → R) upd14 (fun n _ => upN15d n) n
def upN13d (n : Nat) : α → A6 α → (A6 α → R) → R := Nat.rec (motive := fun _ => α → A6 α → (A6 α → R) → R) upd13 (fun n _ => upN14d n) n
def upN12d (n : Nat) : α → A6 α → (A6 α → R) → R := Nat.rec (motive := fun _ => α → A6 α → (A6 α → R) → R) upd12 (fun n _ => upN13d n) n
def upN11d (n : Nat) : α → A6 α → (A6 α → R) → R := Nat.rec (motive := fun _ => α → A6 α → (A6 α → R) → R) upd11 (fun n _ => upN12d n) n
def upN10d (n : Nat) : α → A6 α → (A6 α → R) → R := Nat.rec (motive := fun _ => α → A6 α → (A6 α → R) → R) upd10 (fun n _ => upN11d n) n
def upN9d (n : Nat) : α → A6 α → (A6 α → R) → R := Nat.rec (motive := fun _ => α → A6 α → (A6 α → R) → R) upd9 (fun n _ => upN10d n) n
def upN8d (n : Nat) : α → A6 α → (A6 α → R) → R := Nat.rec (motive := fun _ => α → A6 α → (A6 α → R) → R) upd8 (fun n _ => upN9d n) n
def upN7d (n : Nat) : α → A6 α → (A6 α → R) → R := Nat.rec (motive := fun _ => α → A6 α → (A6 α → R) → R) upd7 (fun n _ => upN8d n) n
def upN6d (n : Nat) : α → A6 α → (A6 α → R) → R := Nat.rec (motive := fun _ => α → A6 α → (A6 α → R) → R) upd6 (fun n _ => upN7d n) n
def upN5d (n : Nat) : α → A6 α → (A6 α → R) → R := Nat.rec (motive := fun _ => α → A6 α → (A6 α → R) → R) upd5 (fun n _ => upN6d n) n
def upN4d (n : Nat) : α → A6 α → (A6 α → R) → R := Nat.rec (motive := fun _ => α → A6 α → (A6 α → R) → R) upd4 (fun n _ => upN5d n) n
def upN3d (n : Nat) : α → A6 α → (A6 α → R) → R := Nat.rec (motive := fun _ => α → A6 α → (A6 α → R) → R) upd3 (fun n _ => upN4d n) n
def upN2d (n : Nat) : α → A6 α → (A6 α → R) → R := Nat.rec (motive := fun _ => α → A6 α → (A6 α → R) → R) upd2 (fun n _ => upN3d n) n
def upN1d (n : Nat) : α → A6 α → (A6 α → R) → R := Nat.rec (motive := fun _ => α → A6 α → (A6 α → R) → R) upd1 (fun n _ => upN2d n) n
def upN (n : Nat) : α → A6 α → (A6 α → R) → R := Nat.rec (motive := fun _ => α → A6 α → (A6 α → R) → R) upd0 (fun n _ => upN1d n) n
def moN15d (n : Nat) : (α → (α → R) → R) → A6 α → (A6 α → R) → R := mod15
def moN14d (n : Nat) : (α → (α → R) → R) → A6 α → (A6 α → R) → R := Nat.rec (motive := fun _ => (α → (α → R) → R) → A6 α → (A6 α → R) → R) mod14 (fun n _ => moN15d n) n
def moN13d (n : Nat) : (α → (α → R) → R) → A6 α → (A6 α → R) → R := Nat.rec (motive := fun _ => (α → (α → R) → R) → A6 α → (A6 α → R) → R) mod13 (fun n _ => moN14d n) n
def moN12d (n : Nat) : (α → (α → R) → R) → A6 α → (A6 α → R) → R := Nat.rec (motive := fun _ => (α → (α → R) → R) → A6 α → (A6 α → R) → R) mod12 (fun n _ => moN13d n) n
def moN11d (n : Nat) : (α → (α → R) → R) → A6 α → (A6 α → R) → R := Nat.rec (motive := fun _ => (α → (α → R) → R) → A6 α → (A6 α → R) → R) mod11 (fun n _ => moN12d n) n
def moN10d (n : Nat) : (α → (α → R) → R) → A6 α → (A6 α → R) → R := Nat.rec (motive := fun _ => (α → (α → R) → R) → A6 α → (A6 α → R) → R) mod10 (fun n _ => moN11d n) n
def moN9d (n : Nat) : (α → (α → R) → R) → A6 α → (A6 α → R) → R := Nat.rec (motive := fun _ => (α → (α → R) → R) → A6 α → (A6 α → R) → R) mod9 (fun n _ => moN10d n) n
def moN8d (n : Nat) : (α → (α → R) → R) → A6 α → (A6 α → R) → R := Nat.rec (motive := fun _ => (α → (α → R) → R) → A6 α → (A6 α → R) → R) mod8 (fun n _ => moN9d n) n
def moN7d (n : Nat) : (α → (α → R) → R) → A6 α → (A6 α → R) → R := Nat.rec (motive := fun _ => (α → (α → R) → R) → A6 α → (A6 α → R) → R) mod7 (fun n _ => moN8d n) n
def moN6d (n : Nat) : (α → (α → R) → R) → A6 α → (A6 α → R) → R := Nat.rec (motive := fun _ => (α → (α → R) → R) → A6 α → (A6 α → R) → R) mod6 (fun n _ => moN7d n) n
def moN5d (n : Nat) : (α → (α → R) → R) → A6 α → (A6 α → R) → R := Nat.rec (motive := fun _ => (α → (α → R) → R) → A6 α → (A6 α → R) → R) mod5 (fun n _ => moN6d n) n
def moN4d (n : Nat) : (α → (α → R) → R) → A6 α → (A6 α → R) → R := Nat.rec (motive := fun _ => (α → (α → R) → R) → A6 α → (A6 α → R) → R) mod4 (fun n _ => moN5d n) n
def moN3d (n : Nat) : (α → (α → R) → R) → A6 α → (A6 α → R) → R := Nat.rec (motive := fun _ => (α → (α → R) → R) → A6 α → (A6 α → R) → R) mod3 (fun n _ => moN4d n) n
def moN2d (n : Nat) : (α → (α → R) → R) → A6 α → (A6 α → R) → R := Nat.rec (motive := fun _ => (α → (α → R) → R) → A6 α → (A6 α → R) → R) mod2 (fun n _ => moN3d n) n
def moN1d (n : Nat) : (α → (α → R) → R) → A6 α → (A6 α → R) → R := Nat.rec (motive := fun _ => (α → (α → R) → R) → A6 α → (A6 α → R) → R) mod1 (fun n _ => moN2d n) n
def moN (n : Nat) : (α → (α → R) → R) → A6 α → (A6 α → R) → R := Nat.rec (motive := fun _ => (α → (α → R) → R) → A6 α → (A6 α → R) → R) mod0 (fun n _ => moN1d n) n
def i6N15d (n : Nat) : I6 := .x15
def i6N14d (n : Nat) : I6 := Nat.rec (motive := fun _ => I6) .x14 (fun n _ => i6N15d n) n
def i6N13d (n : Nat) : I6 := Nat.rec (motive := fun _ => I6) .x13 (fun n _ => i6N14d n) n
def i6N12d (n : Nat) : I6 := Nat.rec (motive := fun _ => I6) .x12 (fun n _ => i6N13d n) n
def i6N11d (n : Nat) : I6 := Nat.rec (motive := fun _ => I6) .x11 (fun n _ => i6N12d n) n
def i6N10d (n : Nat) : I6 := Nat.rec (motive := fun _ => I6) .x10 (fun n _ => i6N11d n) n
def i6N9d (n : Nat) : I6 := Nat.rec (motive := fun _ => I6) .x9 (fun n _ => i6N10d n) n
def i6N8d (n : Nat) : I6 := Nat.rec (motive := fun _ => I6) .x8 (fun n _ => i6N9d n) n
def i6N7d (n : Nat) : I6 := Nat.rec (motive := fun _ => I6) .x7 (fun n _ => i6N8d n) n
def i6N6d (n : Nat) : I6 := Nat.rec (motive := fun _ => I6) .x6 (fun n _ => i6N7d n) n
def i6N5d (n : Nat) : I6 := Nat.rec (motive := fun _ => I6) .x5 (fun n _ => i6N6d n) n
def i6N4d (n : Nat) : I6 := Nat.rec (motive := fun _ => I6) .x4 (fun n _ => i6N5d n) n
def i6N3d (n : Nat) : I6 := Nat.rec (motive := fun _ => I6) .x3 (fun n _ => i6N4d n) n
def i6N2d (n : Nat) : I6 := Nat.rec (motive := fun _ => I6) .x2 (fun n _ => i6N3d n) n
def i6N1d (n : Nat) : I6 := Nat.rec (motive := fun _ => I6) .x1 (fun n _ => i6N2d n) n
def i6N (n : Nat) : I6 := Nat.rec (motive := fun _ => I6) .x0 (fun n _ => i6N1d n) n
def all6 (v : α) : A6 α := .mk v v v v v v v v v v v v v v v v
end
def fN {β : Type} (m : Nat) (k : Nat → β) : β := Nat.rec (motive := fun _ => (Nat → β) → β) (fun k => k (nat_lit 0)) (fun m _ k => k (Nat.succ m)) m k
def fB (b : Bool) (k : Bool → R) : R := Bool.rec (motive := fun _ => (Bool → R) → R) (fun k => k false) (fun k => k true) b k
def fL {β : Type} (l : List Nat) : (List Nat → β) → β := List.rec (motive := fun _ => (List Nat → β) → β) (fun k => k []) (fun m _ ih k => fN m fun m => ih fun l => k (m :: l)) l
def ifT {β : Type} (b : Bool) (x y : β) : β := Bool.rec (motive := fun _ => β) y x b
def m16 (n : Nat) : Nat := Nat.mod n (nat_lit 16)
def hget (h : HP) (a : Nat) : Blk := seN (m16 a) (seN (m16 (Nat.div a (nat_lit 16))) (seN (m16 (Nat.div a (nat_lit 256))) (seN (m16 (Nat.div a (nat_lit 4096))) h)))
def hset (b : Blk) (h : HP) (a : Nat) (k : HP → R) : R := moN (m16 (Nat.div a (nat_lit 4096))) (moN (m16 (Nat.div a (nat_lit 256))) (moN (m16 (Nat.div a (nat_lit 16))) (upN (m16 a) b))) h k
def c3get (t : A6 (A6 (A6 V))) (o : Nat) : V := seN (m16 o) (seN (m16 (Nat.div o (nat_lit 16))) (seN (m16 (Nat.div o (nat_lit 256))) t))
def c3set (v : V) (t : A6 (A6 (A6 V))) (o : Nat) (k : A6 (A6 (A6 V)) → R) : R := moN (m16 (Nat.div o (nat_lit 256))) (moN (m16 (Nat.div o (nat_lit 16))) (upN (m16 o) v)) t k
def cget (c : Ce) (o : Nat) : V := Ce.rec (motive := fun _ => Nat → V) c3get (fun t o => seN o t) c o
def cset (v : V) (c : Ce) (o : Nat) (k : Ce → R) : R := Ce.rec (motive := fun _ => V → Nat → (Ce → R) → R) (fun t v o k => c3set v t o fun t => k (.b t)) (fun t v o k => upN o v t fun t => k (.s t)) c v o k
def t0 : TM := all6 (all6 .u)
def h0 : HP := all6 (all6 (all6 (all6 .x)))
def cs0 : A6 V := all6 .u
def cb0 : A6 (A6 (A6 V)) := all6 (all6 (all6 .u))
/-- cells for n of them: up to 16, up to 4096 -/
def ce0 (n : Nat) : Ce := ifT (Nat.ble n (nat_lit 16)) (.s cs0) (.b cb0)
/-- may cells be at the numbers below n? -/
def ceB (n : Nat) (c : Ce) : Bool := Ce.rec (motive := fun _ => Nat → Bool) (fun _ n => Nat.ble n (nat_lit 4096)) (fun _ n => Nat.ble n (nat_lit 16)) c n
def nth (l : List V) : Nat → V := List.rec (motive := fun _ => Nat → V) (fun _ => .u) (fun v _ ih i => Nat.rec (motive := fun _ => V) v (fun i _ => ih i) i) l
def len {α : Type} (l : List α) : Nat := List.rec (motive := fun _ => Nat) (nat_lit 0) (fun _ _ n => Nat.add n (nat_lit 1)) l
def app {α : Type} (a b : List α) : List α := List.rec (motive := fun _ => List α) b (fun x _ ih => x :: ih) a
def drop {α : Type} (o : Nat) : List α → List α := Nat.rec (motive := fun _ => List α → List α) (fun l => l) (fun _ ih l => List.rec (motive := fun _ => List α) [] (fun _ l _ => ih l) l) o
def take {α : Type} (n : Nat) : List α → List α := Nat.rec (motive := fun _ => List α → List α) (fun _ => []) (fun _ ih l => List.rec (motive := fun _ => List α) [] (fun v l _ => v :: ih l) l) n
def isU (v : V) : Bool := V.rec (motive_1 := fun _ => Bool) (motive_2 := fun _ => Unit) true false false false (fun _ => false) (fun _ _ => false) (fun _ => false) (fun _ _ _ _ _ => false) (fun _ _ => false) (fun _ _ => false) (fun _ => false) (fun _ _ _ _ _ => false) (fun _ _ => false) (fun _ => false) (fun _ _ => false) (fun _ _ => false) () (fun _ _ _ _ => ()) v 
def is1 (v : V) : Bool := V.rec (motive_1 := fun _ => Bool) (motive_2 := fun _ => Unit) false true true true (fun _ => true) (fun _ _ => true) (fun _ => true) (fun _ _ _ _ _ => true) (fun l _ => false) (fun l _ => false) (fun _ => true) (fun _ _ _ _ _ => true) (fun _ _ => true) (fun _ => true) (fun _ _ => true) (fun _ _ => true) () (fun _ _ _ _ => ()) v 
def isV (v : V) : Bool := V.rec (motive_1 := fun _ => Bool) (motive_2 := fun _ => Unit) true true true true (fun _ => true) (fun _ _ => true) (fun _ => true) (fun _ _ _ _ _ => true) (fun _ _ => true) (fun _ _ => true) (fun _ => true) (fun _ _ _ _ _ => true) (fun _ _ => true) (fun _ => true) (fun _ _ => true) (fun _ _ => true) () (fun _ _ _ _ => ()) v 
def asB (v : V) (q : Bool → R) : R := V.rec (motive_1 := fun _ => (Bool → R) → R) (motive_2 := fun _ => Unit) (fun _ => .bad 2) (fun _ => .bad 2) (fun _ => .bad 2) (fun _ => .bad 2) (fun _ _ => .bad 2) (fun _ _ _ => .bad 2) (fun _ _ => .bad 2) (fun _ _ _ _ _ _ => .bad 2) (fun _ _ _ => .bad 2) (fun _ _ _ => .bad 2) (fun _ _ => .bad 2) (fun _ _ _ _ _ _ => .bad 2) (fun _ _ _ => .bad 2) (fun x q => q x) (fun _ _ _ => .bad 2) (fun _ _ _ => .bad 2) () (fun _ _ _ _ => ()) v q
def asS (v : V) (q : List Nat → R) : R := V.rec (motive_1 := fun _ => (List Nat → R) → R) (motive_2 := fun _ => Unit) (fun _ => .bad 3) (fun _ => .bad 3) (fun _ => .bad 3) (fun _ => .bad 3) (fun _ _ => .bad 3) (fun _ _ _ => .bad 3) (fun _ _ => .bad 3) (fun _ _ _ _ _ _ => .bad 3) (fun _ _ _ => .bad 3) (fun _ _ _ => .bad 3) (fun l q => q l) (fun _ _ _ _ _ _ => .bad 3) (fun _ _ _ => .bad 3) (fun _ _ => .bad 3) (fun _ _ _ => .bad 3) (fun _ _ _ => .bad 3) () (fun _ _ _ _ => ()) v q
def asP (v : V) (q : Nat → Nat → R) : R := V.rec (motive_1 := fun _ => (Nat → Nat → R) → R) (motive_2 := fun _ => Unit) (fun _ => .bad 4) (fun _ => .bad 4) (fun _ => .bad 4) (fun _ => .bad 4) (fun _ _ => .bad 4) (fun _ _ _ => .bad 4) (fun _ _ => .bad 4) (fun _ _ _ _ _ _ => .bad 4) (fun _ _ _ => .bad 4) (fun _ _ _ => .bad 4) (fun _ _ => .bad 4) (fun _ _ _ _ _ _ => .bad 4) (fun _ _ _ => .bad 4) (fun _ _ => .bad 4) (fun a o q => q a o) (fun _ _ _ => .bad 4) () (fun _ _ _ _ => ()) v q
def asA (v : V) (q : List V → R) : R := V.rec (motive_1 := fun _ => (List V → R) → R) (motive_2 := fun _ => Unit) (fun _ => .bad 5) (fun _ => .bad 5) (fun _ => .bad 5) (fun _ => .bad 5) (fun _ _ => .bad 5) (fun _ _ _ => .bad 5) (fun _ _ => .bad 5) (fun _ _ _ _ _ _ => .bad 5) (fun _ _ _ => .bad 5) (fun l _ q => q l) (fun _ _ => .bad 5) (fun _ _ _ _ _ _ => .bad 5) (fun _ _ _ => .bad 5) (fun _ _ => .bad 5) (fun _ _ _ => .bad 5) (fun _ _ _ => .bad 5) () (fun _ _ _ _ => ()) v q
def asT (v : V) (q : List V → R) : R := V.rec (motive_1 := fun _ => (List V → R) → R) (motive_2 := fun _ => Unit) (fun _ => .bad 6) (fun _ => .bad 6) (fun _ => .bad 6) (fun _ => .bad 6) (fun _ _ => .bad 6) (fun _ _ _ => .bad 6) (fun _ _ => .bad 6) (fun _ _ _ _ _ _ => .bad 6) (fun l _ q => q l) (fun _ _ _ => .bad 6) (fun _ _ => .bad 6) (fun _ _ _ _ _ _ => .bad 6) (fun _ _ _ => .bad 6) (fun _ _ => .bad 6) (fun _ _ _ => .bad 6) (fun _ _ _ => .bad 6) () (fun _ _ _ _ => ()) v q
def asN (v : V) (q : Nat → Nat → R) : R := V.rec (motive_1 := fun _ => (Nat → Nat → R) → R) (motive_2 := fun _ => Unit) (fun _ => .bad 8) (fun _ => .bad 8) (fun _ => .bad 8) (fun _ => .bad 8) (fun _ _ => .bad 8) (fun _ _ _ => .bad 8) (fun _ _ => .bad 8) (fun _ _ _ _ _ _ => .bad 8) (fun _ _ _ => .bad 8) (fun _ _ _ => .bad 8) (fun _ _ => .bad 8) (fun _ _ _ _ _ _ => .bad 8) (fun _ _ _ => .bad 8) (fun _ _ => .bad 8) (fun _ _ _ => .bad 8) (fun k m q => q k m) () (fun _ _ _ _ => ()) v q
def asI (v : V) (q : Nat → Int → R) : R := V.rec (motive_1 := fun _ => (Nat → Int → R) → R) (motive_2 := fun _ => Unit) (fun _ => .bad 1) (fun _ => .bad 1) (fun _ => .bad 1) (fun _ => .bad 1) (fun _ _ => .bad 1) (fun _ _ _ => .bad 1) (fun _ _ => .bad 1) (fun _ _ _ _ _ _ => .bad 1) (fun _ _ _ => .bad 1) (fun _ _ _ => .bad 1) (fun _ _ => .bad 1) (fun _ _ _ _ _ _ => .bad 1) (fun k m q => q k (.negSucc m)) (fun _ _ => .bad 1) (fun _ _ _ => .bad 1) (fun k m q => q k (.ofNat m)) () (fun _ _ _ _ => ()) v q
def asL (v : V) (z : R) (q : Nat → Nat → Nat → Nat → Bool → R) : R := V.rec (motive_1 := fun _ => R → (Nat → Nat → Nat → Nat → Bool → R) → R) (motive_2 := fun _ => Unit) (fun _ _ => .bad 7) (fun _ _ => .bad 7) (fun z0 q0 => z0) (fun _ _ => .bad 7) (fun _ _ _ => .bad 7) (fun _ _ _ _ => .bad 7) (fun _ _ _ => .bad 7) (fun _ _ _ _ _ _ _ => .bad 7) (fun _ _ _ _ => .bad 7) (fun _ _ _ _ => .bad 7) (fun _ _ _ => .bad 7) (fun a o n c q z0 q0 => q0 a o n c q) (fun _ _ _ _ => .bad 7) (fun _ _ _ => .bad 7) (fun _ _ _ _ => .bad 7) (fun _ _ _ _ => .bad 7) () (fun _ _ _ _ => ()) v z q
def asF (v : V) (q : R) : R := V.rec (motive_1 := fun _ => R → R) (motive_2 := fun _ => Unit) (fun _ => .bad 32) (fun _ => .bad 32) (fun _ => .bad 32) (fun _ => .bad 32) (fun _ _ => .bad 32) (fun _ _ _ => .bad 32) (fun _ _ => .bad 32) (fun g x y _ _ q => q) (fun _ _ _ => .bad 32) (fun _ _ _ => .bad 32) (fun _ _ => .bad 32) (fun _ _ _ _ _ _ => .bad 32) (fun _ _ _ => .bad 32) (fun _ _ => .bad 32) (fun _ _ _ => .bad 32) (fun _ _ _ => .bad 32) () (fun _ _ _ _ => ()) v q
def asQ (v : V) (z : R) (q : Nat → Nat → R) : R := V.rec (motive_1 := fun _ => R → (Nat → Nat → R) → R) (motive_2 := fun _ => Unit) (fun _ _ => .bad 31) (fun z q => z) (fun _ _ => .bad 31) (fun _ _ => .bad 31) (fun _ _ _ => .bad 31) (fun _ _ _ _ => .bad 31) (fun _ _ _ => .bad 31) (fun _ _ _ _ _ _ _ => .bad 31) (fun _ _ _ _ => .bad 31) (fun _ _ _ _ => .bad 31) (fun _ _ _ => .bad 31) (fun _ _ _ _ _ _ _ => .bad 31) (fun _ _ _ _ => .bad 31) (fun _ _ _ => .bad 31) (fun a o z q => q a o) (fun _ _ _ _ => .bad 31) () (fun _ _ _ _ => ()) v z q
def asW (v : V) (z : R) (q : Bool → R) : R := V.rec (motive_1 := fun _ => R → (Bool → R) → R) (motive_2 := fun _ => Unit) (fun z q => z) (fun z q => z) (fun z q => z) (fun z q => z) (fun _ z q => z) (fun _ _ z q => z) (fun _ z q => z) (fun _ _ _ _ _ z q => z) (fun _ _ z q => z) (fun _ _ z q => z) (fun _ z q => z) (fun _ _ _ _ _ z q => z) (fun _ _ z q => z) (fun x z q => q x) (fun _ _ z q => z) (fun _ _ z q => z) () (fun _ _ _ _ => ()) v z q
def clA (v w : V) : List V := V.rec (motive_1 := fun _ => V → List V) (motive_2 := fun _ => Unit) (fun w => [w]) (fun w => [w]) (fun w => [w]) (fun w => [w]) (fun _ w => [w]) (fun _ _ w => [w]) (fun _ w => [w]) (fun _ _ _ _ _ w => [w]) (fun _ _ w => [w]) (fun l _ w => l) (fun _ w => [w]) (fun _ _ _ _ _ w => [w]) (fun _ _ w => [w]) (fun _ w => [w]) (fun _ _ w => [w]) (fun _ _ w => [w]) () (fun _ _ _ _ => ()) v w
/-- the cells of a value -/
def cl (v : V) : List V := clA v v
def fV (v : V) (k : V → R) : R := ifT (isV v) (k v) (k v)
def dfl (z : Z) (o : Nat) : V := Z.rec (motive := fun _ => Nat → V) (fun v _ => v) (fun l q o => nth l (Nat.mod o q)) z o
def orD (v : V) (z : Z) (o : Nat) : V := ifT (isU v) (dfl z o) v
def cell (z : Z) (t : Ce) (o : Nat) : V := orD (cget t o) z o
def blk (h : HP) (a : Nat) (k : Nat → Nat → Nat → Z → Ce → R) : R := Blk.rec (motive := fun _ => (Nat → Nat → Nat → Z → Ce → R) → R) (fun _ => .bad 10) (fun _ => .bad 10) (fun _ _ => .bad 10) (fun _ _ _ _ _ => .bad 10) (fun ty n q z t k => k ty n q z t) (fun _ _ _ _ _ => .bad 10) (hget h a) k
/-- n cells of a block from o on -/
def cellsK (z : Z) (t : Ce) (n : Nat) : Nat → (List V → R) → R :=
  Nat.rec (motive := fun _ => Nat → (List V → R) → R) (fun _ k => k []) (fun _ ih o k => fV (cell z t o) fun v => fN (Nat.add o (nat_lit 1)) fun o => ih o fun l => k (v :: l)) n
def ldK (h : HP) (a o n : Nat) (k : List V → R) : R := blk h a fun _ m _ z t => ifT (Nat.ble (Nat.add o n) m) (cellsK z t n o k) (.bad 11)
def stK (l : List V) : Ce → Nat → (Ce → R) → R :=
  List.rec (motive := fun _ => Ce → Nat → (Ce → R) → R) (fun t _ k => k t) (fun v _ ih t o k => ifT (is1 v) (cset v t o fun t => fN (Nat.add o (nat_lit 1)) fun o => ih t o k) (.bad 12)) l
def psK (m : Nat) (t0 : TM) (ps : List (Nat × Nat × OP)) : Ce → (Ce → R) → R :=
  List.rec (motive := fun _ => Ce → (Ce → R) → R) (fun t k => k t) (fun p _ ih t k => ifT (Nat.beq (len (cl (p.2.2 t0))) p.2.1) (ifT (Nat.ble (Nat.add p.1 p.2.1) m) (stK (cl (p.2.2 t0)) t p.1 fun t => ih t k) (.bad 14)) (.bad 15)) ps
/-- a new block -/
def newK (b : Blk) (h : HP) (x : Nat) (k : HP → Nat → R) : R := ifT (Nat.ble x (nat_lit 65535)) (hset b h x fun h => fN (Nat.add x (nat_lit 1)) fun x => k h x) (.bad 16)
def newC (ty n q : Nat) (z : Z) (t : Ce) (h : HP) (x : Nat) (k : HP → Nat → R) : R := ifT (ceB n t) (newK (.c ty n q z t) h x k) (.bad 17)
/-- the kinds of integers, by number -/
def kN (k : IntKind) : Nat := IntKind.rec (motive := fun _ => Nat) 0 1 2 3 4 5 6 7 k
def kd (n : Nat) : IntKind := Nat.rec (motive := fun _ => IntKind) .i8 (fun n _ => Nat.rec (motive := fun _ => IntKind) .i16 (fun n _ => Nat.rec (motive := fun _ => IntKind) .i32 (fun n _ => Nat.rec (motive := fun _ => IntKind) .i64 (fun n _ => Nat.rec (motive := fun _ => IntKind) .u8 (fun n _ => Nat.rec (motive := fun _ => IntKind) .u16 (fun n _ => Nat.rec (motive := fun _ => IntKind) .u32 (fun _ _ => .u64) n) n) n) n) n) n) n
def hiN (k : IntKind) : Nat := IntKind.rec (motive := fun _ => Nat) (nat_lit 127) (nat_lit 32767) (nat_lit 2147483647) (nat_lit 9223372036854775807) (nat_lit 255) (nat_lit 65535) (nat_lit 4294967295) (nat_lit 18446744073709551615) k
def loN (k : IntKind) : Nat := IntKind.rec (motive := fun _ => Nat) (nat_lit 128) (nat_lit 32768) (nat_lit 2147483648) (nat_lit 9223372036854775808) (nat_lit 0) (nat_lit 0) (nat_lit 0) (nat_lit 0) k
def biN (k : IntKind) : Nat := IntKind.rec (motive := fun _ => Nat) (nat_lit 256) (nat_lit 65536) (nat_lit 4294967296) (nat_lit 18446744073709551616) (nat_lit 256) (nat_lit 65536) (nat_lit 4294967296) (nat_lit 18446744073709551616) k
def vI (k : Nat) (n : Int) (q : V → R) : R := Int.rec (motive := fun _ => Nat → (V → R) → R) (fun m k q => fN m fun m => q (.i k m)) (fun m k q => fN m fun m => q (.j k m)) n k q
/-- what a number comes to in its kind -/
def wr (k : Nat) (n : Int) (q : V → R) : R := vI k ((kd k).wrap n) q
def wrN (k hi m : Nat) (q : V → R) : R := fN m fun m => ifT (Nat.ble m hi) (q (.i k m)) (wr k (.ofNat m) q)
end
end Ev
