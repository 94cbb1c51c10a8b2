/- What each operation does, and whole functions. -/
import Derived.Test.YtelfddkfddnenaaGreatEvA
namespace Ev
open Go
set_option linter.unusedVariables false
noncomputable section
def asM (v : V) (q : Nat → R) : R := V.rec (motive_1 := fun _ => (Nat → R) → R) (motive_2 := fun _ => Unit) (fun _ => .bad 127) (fun _ => .bad 127) (fun _ => .bad 127) (fun _ => .bad 127) (fun _ _ => .bad 127) (fun _ _ _ => .bad 127) (fun a q => q a) (fun _ _ _ _ _ _ => .bad 127) (fun _ _ _ => .bad 127) (fun _ _ _ => .bad 127) (fun _ _ => .bad 127) (fun _ _ _ _ _ _ => .bad 127) (fun _ _ _ => .bad 127) (fun _ _ => .bad 127) (fun _ _ _ => .bad 127) (fun _ _ _ => .bad 127) () (fun _ _ _ _ => ()) v q
def asX (v : V) (q : Nat → Nat → R) (z : R) : R := V.rec (motive_1 := fun _ => (Nat → Nat → R) → R → R) (motive_2 := fun _ => Unit) (fun q z => z) (fun q z => z) (fun q z => z) (fun q z => z) (fun _ q z => z) (fun _ _ q z => z) (fun _ q z => z) (fun _ _ _ _ _ q z => z) (fun _ _ q z => z) (fun _ _ q z => z) (fun _ q z => z) (fun _ _ _ _ _ q z => z) (fun _ _ q z => z) (fun _ q z => z) (fun _ _ q z => z) (fun k m q z => q k m) () (fun _ _ _ _ => ()) v q z
abbrev BF := V → V → (V → R) → R
def ieq (x y : Int) : Bool := Int.rec (motive := fun _ => Bool) (fun m => Int.rec (motive := fun _ => Bool) (fun n => Nat.beq m n) (fun _ => false) y) (fun m => Int.rec (motive := fun _ => Bool) (fun _ => false) (fun n => Nat.beq m n) y) x
def ilt (x y : Int) : Bool := Int.rec (motive := fun _ => Bool) (fun m => Int.rec (motive := fun _ => Bool) (fun n => Nat.ble (Nat.succ m) n) (fun _ => false) y) (fun m => Int.rec (motive := fun _ => Bool) (fun _ => true) (fun n => Nat.ble (Nat.succ n) m) y) x
/-- two integers of the kind k, by what is done to those that aren't below nought, and to others -/
def b2S (k0 : Nat) (s : Int → Int → (V → R) → R) (x y : V) (q : V → R) : R := asI x fun k a => asI y fun k' b => ifT (Nat.beq k k0) (ifT (Nat.beq k' k0) (s a b q) (.bad 27)) (.bad 28)
def b2F (k0 : Nat) (f : Nat → Nat → (V → R) → R) (s : Int → Int → (V → R) → R) (x y : V) (q : V → R) (k m : Nat) : R := asX y (fun k' n => ifT (Nat.beq k k0) (ifT (Nat.beq k' k0) (f m n q) (.bad 27)) (.bad 28)) (b2S k0 s x y q)
def b2 (k0 : Nat) (f : Nat → Nat → (V → R) → R) (s : Int → Int → (V → R) → R) : BF := fun x y q => asX x (b2F k0 f s x y q) (b2S k0 s x y q)
def bol (b : Bool) (q : V → R) : R := Bool.rec (motive := fun _ => (V → R) → R) (fun q => q (.b false)) (fun q => q (.b true)) b q
def nbl (b : Bool) (q : V → R) : R := Bool.rec (motive := fun _ => (V → R) → R) (fun q => q (.b true)) (fun q => q (.b false)) b q
def aAdd (k hi : Nat) : BF := b2 k (fun m n q => wrN k hi (Nat.add m n) q) (fun a b q => wr k (Int.add a b) q)
def aSub (k hi : Nat) : BF := b2 k (fun m n q => ifT (Nat.ble n m) (wrN k hi (Nat.sub m n) q) (wr k (Int.sub (.ofNat m) (.ofNat n)) q)) (fun a b q => wr k (Int.sub a b) q)
def aMul (k hi : Nat) : BF := b2 k (fun m n q => wrN k hi (Nat.mul m n) q) (fun a b q => wr k (Int.mul a b) q)
def aQuo (k hi : Nat) : BF := b2 k (fun m n q => ifT (Nat.beq n (nat_lit 0)) (.bad 20) (wrN k hi (Nat.div m n) q)) (fun a b q => ifT (ieq b (.ofNat (nat_lit 0))) (.bad 20) (wr k (Int.tdiv a b) q))
def aRem (k : Nat) : BF := b2 k (fun m n q => ifT (Nat.beq n (nat_lit 0)) (.bad 21) (fN (Nat.mod m n) fun m => q (.i k m))) (fun a b q => ifT (ieq b (.ofNat (nat_lit 0))) (.bad 21) (vI k (Int.tmod a b) q))
def anN (bi m n : Nat) : Nat := Nat.land m (Nat.sub (Nat.sub bi (nat_lit 1)) n)
def aBit (g : Nat → Nat → Nat) (k hi bi : Nat) : BF := b2 k (fun m n q => wrN k hi (g (Nat.mod m bi) (Nat.mod n bi)) q) (fun _ _ _ => .bad 22)
def aShl (k hi w : Nat) : BF := fun x y q => asN x fun k' m => asN y fun _ n => ifT (Nat.beq k' k) (ifT (Nat.ble n w) (wrN k hi (Nat.shiftLeft m n) q) (.bad 23)) (.bad 24)
def aShr (k w : Nat) : BF := fun x y q => asN x fun k' m => asN y fun _ n => ifT (Nat.beq k' k) (ifT (Nat.ble n w) (fN (Nat.shiftRight m n) fun m => q (.i k m)) (.bad 23)) (.bad 24)
def aEq (k : Nat) : BF := b2 k (fun m n q => bol (Nat.beq m n) q) (fun a b q => bol (ieq a b) q)
def aNe (k : Nat) : BF := b2 k (fun m n q => nbl (Nat.beq m n) q) (fun a b q => nbl (ieq a b) q)
def aLt (k : Nat) : BF := b2 k (fun m n q => nbl (Nat.ble n m) q) (fun a b q => bol (ilt a b) q)
def aLe (k : Nat) : BF := b2 k (fun m n q => bol (Nat.ble m n) q) (fun a b q => nbl (ilt b a) q)
def aGt (k : Nat) : BF := b2 k (fun m n q => nbl (Nat.ble m n) q) (fun a b q => bol (ilt b a) q)
def aGe (k : Nat) : BF := b2 k (fun m n q => bol (Nat.ble n m) q) (fun a b q => nbl (ilt a b) q)
def seq (a : List Nat) : List Nat → Bool := List.rec (motive := fun _ => List Nat → Bool) (fun b => List.rec (motive := fun _ => Bool) true (fun _ _ _ => false) b)
  (fun x _ ih b => List.rec (motive := fun _ => Bool) false (fun y b _ => Bool.rec (motive := fun _ => Bool) false (ih b) (Nat.beq (Nat.mod x (nat_lit 256)) (Nat.mod y (nat_lit 256)))) b) a
def sAdd : BF := fun x y q => asS x fun a => asS y fun b => ifT (Nat.ble (Nat.add (len a) (len b)) (nat_lit 9223372036854775807)) (fL (Ev.app a b) fun l => q (.s l)) (.bad 25)
def sEq : BF := fun x y q => asS x fun a => asS y fun b => bol (seq a b) q
def sNe : BF := fun x y q => asS x fun a => asS y fun b => nbl (seq a b) q
/-- equality, by the type -/
abbrev EF := HP → V → V → (Bool → R) → R
def eI : EF := fun _ x y q => asI x fun k a => asI y fun k' b => ifT (Nat.beq k k') (fB (ieq a b) q) (.bad 30)
def eB : EF := fun _ x y q => asB x fun a => asB y fun b => Bool.rec (motive := fun _ => R) (Bool.rec (motive := fun _ => R) (q true) (q false) b) (Bool.rec (motive := fun _ => R) (q false) (q true) b) a
def eS : EF := fun _ x y q => asS x fun a => asS y fun b => fB (seq a b) q
def eP : EF := fun h x y q => asQ x (asQ y (q true) fun _ _ => q false) fun a o => asQ y (q false) fun c r => ifT (Nat.beq a c) (fB (Nat.beq o r) q) (blk h a fun _ _ _ _ _ => blk h c fun _ _ _ _ _ => q false)
def isSt (q : Q) : Bool := Q.rec (motive_1 := fun _ => Bool) (motive_2 := fun _ => Unit) false false false false (fun _ _ => true) () (fun _ _ _ _ _ _ => ()) q
def partV (q : Q) (o n : Nat) (l : List V) : V := ifT (isSt q) (.ag (take n (drop o l))) (nth l o)
def eQ (q : Q) : EF := Q.rec (motive_1 := fun _ => EF) (motive_2 := fun _ => HP → List V → List V → (Bool → R) → R) eI eB eS eP (fun _ ih h x y k => asA x fun a => asA y fun b => ih h a b k)
  (fun _ _ _ k => k true) (fun o n q _ ih1 ih2 h a b k => ih1 h (partV q o n a) (partV q o n b) fun r => Bool.rec (motive := fun _ => R) (k false) (ih2 h a b k) r) q
/-! operations -/
def fMv (d : DS) (y : OP) : OC := fun _ t h c df k => d (y t) t fun t => k t h c df
def fPick (d : DS) (q a b : OP) : OC := fun _ t h c df k => asB (q t) fun q => d (ifT q (a t) (b t)) t fun t => k t h c df
def fAlloc (d : DS) (ty n : Nat) (z : Z) : OC := fun _ t h c df k => newC ty n (nat_lit 0) z (ce0 n) h c fun h c' => d (.p c (nat_lit 0)) t fun t => k t h c' df
def fBox (d : DS) (ty n : Nat) (y : OP) : OC := fun _ t h c df k => ifT (Nat.beq (len (cl (y t))) n) (stK (cl (y t)) (ce0 n) (nat_lit 0) fun u => newC ty n (nat_lit 0) (.c .u) u h c fun h c' => d (.p c (nat_lit 0)) t fun t => k t h c' df) (.bad 40)
def fBuild (d : DS) (z : List V) (ps : List (Nat × Nat × OP)) : OC := fun _ t h c df k => psK (len z) t ps (ce0 (len z)) fun u => cellsK (.l z (len z)) u (len z) (nat_lit 0) fun l => d (.ag l) t fun t => k t h c df
def fBsl (d : DS) (ty q n : Nat) (z : List V) (ps : List (Nat × Nat × OP)) : OC := fun _ t h c df k => fN (Nat.mul n q) fun m => psK m t ps (ce0 m) fun u => newC ty m (nat_lit 0) (.l z q) u h c fun h c' => d (.sl c (nat_lit 0) n n false) t fun t => k t h c' df
def fLd (d : DS) (y : OP) : OC := fun _ t h c df k => asP (y t) fun a o => blk h a fun _ m _ z u => ifT (Nat.ble (Nat.succ o) m) (fV (cell z u o) fun v => d v t fun t => k t h c df) (.bad 41)
def fLda (d : DS) (n : Nat) (y : OP) : OC := fun _ t h c df k => asP (y t) fun a o => ldK h a o n fun l => d (.ag l) t fun t => k t h c df
def fSt (n : Nat) (a y : OP) : OC := fun _ t h c df k => asP (a t) fun b o => ifT (Nat.beq (len (cl (y t))) n)
  (blk h b fun ty m q z u => ifT (Nat.ble (Nat.add o n) m) (stK (cl (y t)) u o fun u => hset (.c ty m q z u) h b fun h => k t h c df) (.bad 42)) (.bad 43)
def fNck (d : DS) (y : OP) : OC := fun _ t h c df k => asP (y t) fun a o => d (.p a o) t fun t => k t h c df
def fAr (d : DS) (f : BF) (a b : OP) : OC := fun _ t h c df k => f (a t) (b t) fun v => d v t fun t => k t h c df
def fEq (d : DS) (q : Q) (a b : OP) : OC := fun _ t h c df k => eQ q h (a t) (b t) fun r => bol r fun v => d v t fun t => k t h c df
def fNe (d : DS) (q : Q) (a b : OP) : OC := fun _ t h c df k => eQ q h (a t) (b t) fun r => nbl r fun v => d v t fun t => k t h c df
def fNo (d : DS) (y : OP) : OC := fun _ t h c df k => asB (y t) fun b => nbl b fun v => d v t fun t => k t h c df
def fNg (d : DS) (y : OP) : OC := fun _ t h c df k => asI (y t) fun i n => wr i (Int.sub (.ofNat (nat_lit 0)) n) fun v => d v t fun t => k t h c df
/-- integers to the kind i -/
def cvI (i hi : Nat) (v : V) (q : V → R) : R := asX v (fun _ m => wrN i hi m q) (asI v fun _ n => wr i n q)
def fCv (d : DS) (i hi : Nat) (y : OP) : OC := fun _ t h c df k => cvI i hi (y t) fun v => d v t fun t => k t h c df
def fCs (d : DS) (y : OP) : OC := fun _ t h c df k => asS (y t) fun l => d (.s l) t fun t => k t h c df
/-- bytes out of cells -/
def byK (l : List V) : (List Nat → R) → R := List.rec (motive := fun _ => (List Nat → R) → R) (fun k => k []) (fun v _ ih k => asN v fun q m => ifT (Nat.beq q (nat_lit 4)) (ih fun l => k (m :: l)) (.bad 44)) l
def fBs (d : DS) (y : OP) : OC := fun _ t h c df k => asL (y t) (d (.s []) t fun t => k t h c df) fun a o n _ _ => ldK h a o n fun l => byK l fun l => d (.s l) t fun t => k t h c df
def rdL (t : TM) (l : List OP) : (List V → R) → R := List.rec (motive := fun _ => (List V → R) → R) (fun k => k []) (fun o _ ih k => ih fun l => k (o t :: l)) l
def fMkf (d : DS) (g : Nat) (fs cs : List OP) : OC := fun _ t h c df k => rdL t fs fun fs => rdL t cs fun cs => d (.f g fs cs) t fun t => k t h c df
def fMks (d : DS) (ty q w : Nat) (z : Z) (a b : OP) : OC := fun _ t h c df k => asN (a t) fun _ m => asN (b t) fun _ n =>
  ifT (Nat.ble m n) (ifT (Nat.ble n (nat_lit 281474976710656)) (ifT (Nat.ble (Nat.mul w n) (nat_lit 281474976710656)) (fN (Nat.mul n q) fun r => newC ty r (nat_lit 0) z (ce0 r) h c fun h c' => d (.sl c (nat_lit 0) m n false) t fun t => k t h c' df) (.bad 45)) (.bad 46)) (.bad 47)
/-- a bound, or none -/
def bnd (t : TM) (o : Option OP) (n : Nat) (k : Nat → R) : R := Option.rec (motive := fun _ => R) (k n) (fun o => asN (o t) fun _ m => k m) o
def fSli (d : DS) (q : Nat) (y : OP) (lo hi mx : Option OP) : OC := fun _ t h c df k => asL (y t)
  (bnd t lo 0 fun l => bnd t hi 0 fun r => Option.rec (motive := fun _ => R) (ifT (Nat.beq l 0) (ifT (Nat.beq r 0) (d .ns t fun t => k t h c df) (.bad 48)) (.bad 49)) (fun _ => .bad 50) mx)
  fun a o n e s => bnd t lo 0 fun l => bnd t hi n fun r => ifT (Nat.ble l r)
    (Bool.rec (motive := fun _ => R)
      (bnd t mx e fun m => ifT (Nat.ble r m) (ifT (Nat.ble m e) (fN (ifT (Nat.beq m l) o (Nat.add o (Nat.mul l q))) fun o => fN (Nat.sub r l) fun r => fN (Nat.sub m l) fun m => d (.sl a o r m false) t fun t => k t h c df) (.bad 51)) (.bad 52))
      (blk h a fun _ m q' _ _ => ifT (Nat.beq q' q) (ifT (Nat.beq o (Nat.mul e q)) (ifT (Nat.ble (Nat.mul (Nat.add e n) q) m) (ifT (Nat.ble r n) (ifT (Nat.blt 0 q) (Option.rec (motive := fun _ => R)
        (ifT (Nat.beq l 0) (d (.sl a o r e true) t fun t => k t h c df) (ifT (Nat.blt l n) (fN (Nat.add o (Nat.mul l q)) fun o => fN (Nat.sub r l) fun r => fN (Nat.add e l) fun e => d (.sl a o r e true) t fun t => k t h c df) (.bad 53)))
        (fun _ => .bad 54) mx) (.bad 60)) (.bad 55)) (.bad 56)) (.bad 57)) (.bad 58)) s) (.bad 59)
def fSls (d : DS) (y : OP) (lo hi : Option OP) : OC := fun _ t h c df k => asS (y t) fun w => bnd t hi (len w) fun r => bnd t lo 0 fun l => ifT (Nat.ble l r) (ifT (Nat.ble r (len w)) (fL (take (Nat.sub r l) (drop l w)) fun w => d (.s w) t fun t => k t h c df) (.bad 61)) (.bad 62)
def fSlp (d : DS) (q n : Nat) (y : OP) (lo hi mx : Option OP) : OC := fun _ t h c df k => asP (y t) fun a o => bnd t lo 0 fun l => bnd t hi n fun r => bnd t mx n fun m => ifT (Nat.ble l r) (ifT (Nat.ble r m) (ifT (Nat.ble m n)
  (fN (ifT (Nat.beq m l) o (Nat.add o (Nat.mul l q))) fun o => fN (Nat.sub r l) fun r => fN (Nat.sub m l) fun m => d (.sl a o r m false) t fun t => k t h c df) (.bad 63)) (.bad 64)) (.bad 65)
def fFa (d : DS) (f : Nat) (y : OP) : OC := fun _ t h c df k => asP (y t) fun a o => fN (Nat.add o f) fun o => d (.p a o) t fun t => k t h c df
def fFl (d : DS) (o : Nat) (y : OP) : OC := fun _ t h c df k => asA (y t) fun l => ifT (Nat.ble (Nat.succ o) (len l)) (fV (nth l o) fun v => d v t fun t => k t h c df) (.bad 66)
def fFla (d : DS) (o n : Nat) (y : OP) : OC := fun _ t h c df k => asA (y t) fun l => d (.ag (take n (drop o l))) t fun t => k t h c df
def fIa (d : DS) (q : Nat) (y i : OP) : OC := fun _ t h c df k => asL (y t) (.bad 67) fun a o n _ _ => asN (i t) fun _ j => ifT (Nat.ble (Nat.succ j) n) (fN (Nat.add o (Nat.mul j q)) fun o => d (.p a o) t fun t => k t h c df) (.bad 68)
def fIaa (d : DS) (q n : Nat) (y i : OP) : OC := fun _ t h c df k => asP (y t) fun a o => asN (i t) fun _ j => ifT (Nat.ble (Nat.succ j) n) (fN (Nat.add o (Nat.mul j q)) fun o => d (.p a o) t fun t => k t h c df) (.bad 69)
def nthN (l : List Nat) : Nat → Nat := List.rec (motive := fun _ => Nat → Nat) (fun _ => 0) (fun v _ ih i => Nat.rec (motive := fun _ => Nat) v (fun i _ => ih i) i) l
def fIxs (d : DS) (y i : OP) : OC := fun _ t h c df k => asS (y t) fun l => asN (i t) fun _ j => ifT (Nat.blt j (len l)) (fN (Nat.mod (nthN l j) 256) fun m => d (.i (nat_lit 4) m) t fun t => k t h c df) (.bad 70)
def fIx (d : DS) (q n : Nat) (y i : OP) : OC := fun _ t h c df k => asA (y t) fun l => asN (i t) fun _ j => ifT (Nat.ble (Nat.succ j) n) (ifT (Nat.blt (Nat.mul j q) (len l)) (fV (nth l (Nat.mul j q)) fun v => d v t fun t => k t h c df) (.bad 72)) (.bad 73)
def fIxa (d : DS) (q n : Nat) (y i : OP) : OC := fun _ t h c df k => asA (y t) fun l => asN (i t) fun _ j => ifT (Nat.ble (Nat.succ j) n) (d (.ag (take q (drop (Nat.mul j q) l))) t fun t => k t h c df) (.bad 73)
def fEx (d : DS) (y : OP) (i : Nat) : OC := fun _ t h c df k => asT (y t) fun l => ifT (Nat.ble (Nat.succ i) (len l)) (fV (nth l i) fun v => d v t fun t => k t h c df) (.bad 71)
def fCall (d : DS) (g : OP) (xs : List OP) : OC := fun cal t h c df k => rdL t xs fun l => cal (g t) l h c fun v h c => d v t fun t => k t h c df
def intL (l : List Nat) : List V := List.rec (motive := fun _ => List V) [] (fun m _ ih => .i (nat_lit 4) (Nat.mod m 256) :: ih) l
def srcK (h : HP) (q : Nat) (n : Option Nat) (v : V) (k : Nat → List V → R) : R := V.rec (motive_1 := fun _ => HP → Nat → (Option Nat) → (Nat → List V → R) → R) (motive_2 := fun _ => Unit) (fun _ _ _ _ => .bad 94) (fun _ _ _ _ => .bad 94) (fun h q n0 k0 => k0 (nat_lit 0) []) (fun _ _ _ _ => .bad 94) (fun _ _ _ _ _ => .bad 94) (fun _ _ _ _ _ _ => .bad 94) (fun _ _ _ _ _ => .bad 94) (fun _ _ _ _ _ _ _ _ _ => .bad 94) (fun _ _ _ _ _ _ => .bad 94) (fun _ _ _ _ _ _ => .bad 94) (fun l h q n0 k0 => fN (Option.rec (motive := fun _ => Nat) (len l) (fun m => ifT (Nat.ble (len l) m) (len l) m) n0) fun m => k0 m (intL (take m l))) (fun a o n _ _ h q n0 k0 => fN (Option.rec (motive := fun _ => Nat) n (fun m => ifT (Nat.ble n m) n m) n0) fun m => ldK h a o (Nat.mul m q) fun l => k0 m l) (fun _ _ _ _ _ _ => .bad 94) (fun _ _ _ _ _ => .bad 94) (fun _ _ _ _ _ _ => .bad 94) (fun _ _ _ _ _ _ => .bad 94) () (fun _ _ _ _ => ()) v h q n k
/-- a row that is appended to, by which way it has its room -/
def apN (d : DS) (ty q w : Nat) (n : Nat) (l : List V) : OC := fun _ t h c df k => Nat.rec (motive := fun _ => R) (d .ns t fun t => k t h c df) (fun _ _ =>
  ifT (Nat.ble (Nat.mul (Nat.add (Nat.mul (nat_lit 2) n) (nat_lit 1000)) w) (nat_lit 281474976710656)) (stK l (.b cb0) (nat_lit 0) fun u => fN (Nat.mul n q) fun m => newC ty m q (.c .u) u h c fun h c' => d (.sl c (nat_lit 0) n (nat_lit 0) true) t fun t => k t h c' df) (.bad 95)) n
/-- .. in its place, or elsewhere -/
def apK (d : DS) (ty q w : Nat) (n : Nat) (l : List V) (a o m e r : Nat) : OC := fun _ t h c df k => ifT (Nat.ble r e)
  (blk h a fun ty' m' q' z' u => fN (Nat.add o (Nat.mul m q)) fun p => ifT (Nat.ble (Nat.add p (len l)) m') (stK l u p fun u => hset (.c ty' m' q' z' u) h a fun h => d (.sl a o r e false) t fun t => k t h c df) (.bad 96))
  (ldK h a o (Nat.mul m q) fun l' => stK l' (.b cb0) (nat_lit 0) fun u => stK l u (Nat.mul m q) fun u => fN (Nat.mul r q) fun m => newC ty m q (.c .u) u h c fun h c' => d (.sl c (nat_lit 0) r (nat_lit 0) true) t fun t => k t h c' df)
/-- .. nobody knows which: the row that it was is not looked at any more -/
def apU (d : DS) (ty q : Nat) (l : List V) (a o m e r : Nat) : OC := fun _ t h c df k => blk h a fun ty' m' q' z' u => ifT (Nat.beq ty' ty) (ifT (Nat.beq q' q) (ifT (Nat.beq o (nat_lit 0)) (ifT (Nat.beq e (nat_lit 0)) (ifT (Nat.ble (Nat.mul m q) m')
  (stK l u (Nat.mul m q) fun u => fN (Nat.mul r q) fun m => hset .x h a fun h => newC ty m q z' u h c fun h c' => d (.sl c (nat_lit 0) r (nat_lit 0) true) t fun t => k t h c' df) (.bad 97)) (.bad 98)) (.bad 99)) (.bad 100)) (.bad 107)
def fApp (d : DS) (ty q w : Nat) (y v : OP) : OC := fun cal t h c df k => srcK h q none (v t) fun n l => ifT (Nat.beq (len l) (Nat.mul n q)) (asL (y t) (apN d ty q w n l cal t h c df k)
  fun a o m e s => fN (Nat.add m n) fun r => ifT (Nat.ble (Nat.mul (Nat.add (Nat.mul (nat_lit 2) r) (nat_lit 1000)) w) (nat_lit 281474976710656)) (Bool.rec (motive := fun _ => R) (apK d ty q w n l a o m e r cal t h c df k) (apU d ty q l a o m e r cal t h c df k) s) (.bad 101)) (.bad 108)
def fCpy (d : DS) (q : Nat) (y v : OP) : OC := fun _ t h c df k => asL (y t) (srcK h q (some (nat_lit 0)) (v t) fun _ _ => d (.i (nat_lit 3) (nat_lit 0)) t fun t => k t h c df) fun a o m _ _ => srcK h q (some m) (v t) fun n l =>
  blk h a fun ty m q' z u => ifT (Nat.ble (Nat.add o (len l)) m) (stK l u o fun u => hset (.c ty m q' z u) h a fun h => d (.i (nat_lit 3) n) t fun t => k t h c df) (.bad 102)
def fLnS (d : DS) (y : OP) : OC := fun _ t h c df k => asS (y t) fun l => fN (len l) fun n => d (.i (nat_lit 3) n) t fun t => k t h c df
def fLnL (d : DS) (y : OP) : OC := fun _ t h c df k => asL (y t) (d (.i (nat_lit 3) (nat_lit 0)) t fun t => k t h c df) fun _ _ n _ _ => d (.i (nat_lit 3) n) t fun t => k t h c df
def fLna (d : DS) (n : Nat) : OC := fun _ t h c df k => d (.i (nat_lit 3) n) t fun t => k t h c df
def fCp (d : DS) (y : OP) : OC := fun _ t h c df k => asL (y t) (d (.i (nat_lit 3) 0) t fun t => k t h c df) fun _ _ _ e q => ifT q (.bad 104) (d (.i (nat_lit 3) e) t fun t => k t h c df)
def fMx (d : DS) (a b : OP) : OC := fun _ t h c df k => asI (a t) fun i m => asI (b t) fun _ n => vI i (ifT (ilt m n) n m) fun v => d v t fun t => k t h c df
def fMn (d : DS) (a b : OP) : OC := fun _ t h c df k => asI (a t) fun i m => asI (b t) fun _ n => vI i (ifT (ilt n m) n m) fun v => d v t fun t => k t h c df
/-- maps of numbers to bools -/
def mlk (l : List Me) : Int → Bool := List.rec (motive := fun _ => Int → Bool) (fun _ => false) (fun e _ ih n => Me.rec (motive := fun _ => Int → (Int → Bool) → Bool) (fun x y n ih => ifT (ieq x n) y (ih n)) e n ih) l
def wfI (n : Int) : Bool := Int.rec (motive := fun _ => Bool) (fun m => Nat.blt m (nat_lit 9223372036854775808)) (fun m => Nat.blt m (nat_lit 9223372036854775808)) n
def mbk (h : HP) (a : Nat) (k : Nat → Nat → Nat → List Me → R) : R := Blk.rec (motive := fun _ => (Nat → Nat → Nat → List Me → R) → R) (fun _ => .bad 124) (fun _ => .bad 124) (fun _ _ => .bad 124) (fun _ _ _ _ _ => .bad 124) (fun _ _ _ _ _ _ => .bad 124) (fun kt et n l k => k kt et n l) (hget h a) k
def fMm (d : DS) (kt et : Nat) : OC := fun _ t h c df k => newK (.mp kt et (nat_lit 0) []) h c fun h c' => d (.mp c) t fun t => k t h c' df
def fLk (d : DS) (kt et : Nat) (x y : OP) : OC := fun _ t h c df k => asM (x t) fun a => mbk h a fun kt' et' n l => ifT (Nat.beq kt' kt) (ifT (Nat.beq et' et) (asI (y t) fun kd m => ifT (Nat.beq kd (nat_lit 3)) (ifT (wfI m) (fB (mlk l m) fun b => d (.b b) t fun t => k t h c df) (.bad 121)) (.bad 122)) (.bad 125)) (.bad 126)
def fMu (kt et : Nat) (x y z : OP) : OC := fun _ t h c df k => asM (x t) fun a => mbk h a fun kt' et' n l => ifT (Nat.beq kt' kt) (ifT (Nat.beq et' et) (asI (y t) fun kd m => ifT (Nat.beq kd (nat_lit 3)) (ifT (wfI m) (asB (z t) fun b => ifT (Nat.blt n (nat_lit 1000000)) (hset (.mp kt et (Nat.succ n) (.mk m b :: l)) h a fun h => k t h c df) (.bad 123)) (.bad 121)) (.bad 122)) (.bad 125)) (.bad 126)
/-- an operation that is done only if .. -/
def gdO (g : OP) (w : Bool) (d : DS) (f : OC) : OC := fun cal t h c df k => asW (g t) (d .u t fun t => k t h c df) fun b => Bool.rec (motive := fun _ => R) (Bool.rec (motive := fun _ => R) (f cal t h c df k) (d .u t fun t => k t h c df) w) (Bool.rec (motive := fun _ => R) (d .u t fun t => k t h c df) (f cal t h c df k) w) b
def idO : OC := fun _ t h c df k => k t h c df
def sqO (f g : OC) : OC := fun cal t h c df k => f cal t h c df fun t h c df => g cal t h c df k
/-! code -/
def rgC (f : OC) : CC := fun cal t h c df kn _ => f cal t h c df kn
def skC : CC := fun _ t h c df kn _ => kn t h c df
def rtC : CC := fun _ t h c df _ ke => ke .rt t h c df
def exC (i : Nat) : CC := fun _ t h c df _ ke => ke (.ex i) t h c df
def sqC (f g : CC) : CC := fun cal t h c df kn ke => f cal t h c df (fun t h c df => g cal t h c df kn ke) ke
def cdC (o : OP) (f g : CC) : CC := fun cal t h c df kn ke => asB (o t) fun q => Bool.rec (motive := fun _ => R) (g cal t h c df kn ke) (f cal t h c df kn ke) q
def exI (i : Nat) (e : Ex) (a b : R) : R := Ex.rec (motive := fun _ => R) (.bad 82) (fun j => ifT (Nat.beq j i) a b) b e
def bkC (i : Nat) (f : CC) : CC := fun cal t h c df kn ke => f cal t h c df kn fun e t h c df => exI i e (kn t h c df) (ke e t h c df)
def lpC (n : Nat) (f : CC) : CC := fun cal t h c df _ ke => Nat.rec (motive := fun _ => K) (fun _ _ _ _ => .bad 83) (fun _ ih t h c df => f cal t h c df ih ke) n t h c df
/-- a loop's record -/
def lpK (h : HP) (a : Nat) (k : Nat → Ex → Nat → TM → R) : R := Blk.rec (motive := fun _ => (Nat → Ex → Nat → TM → R) → R) (fun _ => .bad 88) (fun _ => .bad 88) (fun _ _ => .bad 88) (fun st pe g t k => k st pe g t) (fun _ _ _ _ _ _ => .bad 88) (fun _ _ _ _ _ => .bad 88) (hget h a) k
def goX (e : Ex) (t : TM) (h : HP) (c : Nat) (df : List Nat) (kn : K) (ke : KE) : R := Ex.rec (motive := fun _ => R) (kn t h c df) (fun i => ke (.ex i) t h c df) (ke .rt t h c df) e
def rfC (g : Nat) (f : OP) : CC := fun cal t h c df kn ke => newK .df h c fun h c1 => newK (.lp 0 .nx g t) h c1 fun h c2 => asF (f t) (cal (f t) [.y c1] h c2 fun _ h c' => lpK h c1 fun st pe g t' => ifT (Nat.beq st 1) (.bad 106) (hset (.lp 3 pe g t') h c1 fun h => goX pe t h c' (c :: df) kn ke))
/-! calls -/
def argT (l : List V) : List DS → TM → (TM → R) → R := List.rec (motive := fun _ => List DS → TM → (TM → R) → R) (fun _ t k => k t) (fun v _ ih is t k => List.rec (motive := fun _ => R) (.bad 79) (fun d is _ => d v t fun t => ih is t k) is) l
def dfK (df : List Nat) : HP → (HP → R) → R := List.rec (motive := fun _ => HP → (HP → R) → R) (fun h k => k h) (fun a _ ih h k => hset .x h a fun h => ih h k) df
def nilK (l : List Nat) (k : R) : R := List.rec (motive := fun _ => R) k (fun _ _ _ => .bad 89) l
def retE (rs : TM → HP → (V → R) → R) (k : KV) : K := fun t h c df => dfK df h fun h => rs t h fun v => k v h c
def exR (e : Ex) (k : R) : R := Ex.rec (motive := fun _ => R) (.bad 84) (fun _ => .bad 85) k e
/-- the slots -/
def gOP (b a : A6 V → V) : Unit := ()
def bodyE (b : CC) (cal : CAL) (rs : TM → HP → (V → R) → R) (t : TM) (h : HP) (c : Nat) (k : KV) : R := b cal t h c [] (retE rs k) fun e t h c df => exR e (retE rs k t h c df)
/-- strings.Join -/
def sts (l : List V) : (List (List Nat) → R) → R := List.rec (motive := fun _ => (List (List Nat) → R) → R) (fun k => k []) (fun v _ ih k => asS v fun s => ih fun l => k (s :: l)) l
def jnT (sep : List Nat) (r : List (List Nat)) : List Nat := List.rec (motive := fun _ => List Nat) [] (fun y _ ih => Ev.app sep (Ev.app y ih)) r
def jnN (l : List (List Nat)) (sep : List Nat) : List Nat := List.rec (motive := fun _ => List Nat) [] (fun x r _ => Ev.app x (jnT sep r)) l
def jnB (v s : V) (h : HP) (c : Nat) (k : KV) : R := asS s fun sep => asL v (k (.s []) h c) fun a o n e q => blk h a fun _ m q' z u => ifT (Nat.ble (Nat.add o n) m) (ifT (ifT q (ifT (Nat.beq q' (nat_lit 1)) (Nat.ble (Nat.add e n) m) false) (Nat.ble n e))
  (ifT (Nat.ble n (nat_lit 140737488355328)) (cellsK z u n o fun l => sts l fun ls => fL (jnN ls sep) fun r => ifT (Nat.ble (len r) (nat_lit 140737488355328)) (k (.s r) h c) (.bad 115)) (.bad 116)) (.bad 117)) (.bad 118)
def jnK (l : List V) (h : HP) (c : Nat) (k : KV) : R := List.rec (motive := fun _ => R) (.bad 119) (fun v l _ => List.rec (motive := fun _ => R) (.bad 119) (fun s l _ => List.rec (motive := fun _ => R) (jnB v s h c k) (fun _ _ _ => .bad 119) l) l) l
def callE (sl : List DS) (ft : T CF) (cal : CAL) (g : Nat) (l : List V) (h : HP) (c : Nat) (k : KV) : R := CF.rec (motive := fun _ => R) (.bad (Nat.add 1000 g)) (jnK l h c k) (fun v => List.rec (motive := fun _ => R) (k v h c) (fun _ _ _ => .bad 86) l)
  (fun rs b _ => argT l sl t0 fun t => bodyE b cal rs t h c k) (T.get CF.no ft g)
def psT (ps : List DS) : List V → TM → (TM → R) → R := List.rec (motive := fun _ => List V → TM → (TM → R) → R) (fun l t k => List.rec (motive := fun _ => R) (k t) (fun _ _ _ => .bad 86) l)
  (fun d _ ih l t k => List.rec (motive := fun _ => R) (.bad 87) (fun v l _ => d v t fun t => ih l t k) l) ps
/-- a round's end -/
def rndE (e : Ex) (l : Nat) (h : HP) (c : Nat) (df : List Nat) (k : KV) : R := nilK df (lpK h l fun _ _ g t => Ex.rec (motive := fun _ => R) (hset (.lp 0 .nx g t) h l fun h => k (.b true) h c) (fun j => hset (.lp 2 (.ex j) g t) h l fun h => k (.b false) h c) (hset (.lp 2 .rt g t) h l fun h => k (.b false) h c) e)
def rndB (cal : CAL) (l : Nat) (b : CC) (t : TM) (h : HP) (c : Nat) (df : List Nat) (k : KV) : R := nilK df (lpK h l fun st pe g t' => ifT (Nat.beq st 0) (hset (.lp 1 pe g t') h l fun h => b cal t h c [] (fun _ h c df => rndE .nx l h c df k) fun e _ h c df => rndE e l h c df k) (.bad 90))
def rlK (f : CF) (k : List DS → CC → CC → R) : R := CF.rec (motive := fun _ => R) (.bad 91) (.bad 91) (fun _ => .bad 91) (fun _ _ r => RL.rec (motive := fun _ => R) (.bad 92) k r) f
def yieldE (ft : T CF) (cal : CAL) (l : Nat) (vs : List V) (h : HP) (c : Nat) (k : KV) : R := lpK h l fun _ _ g t => rlK (T.get CF.no ft g) fun ps a b => psT ps vs t fun t => a cal t h c [] (fun t h c df => rndB cal l b t h c df k) fun _ _ _ _ _ => .bad 93
def goE (sl : List DS) (ft : T CF) (cal : CAL) (g : V) (l : List V) (h : HP) (c : Nat) (k : KV) : R := V.rec (motive_1 := fun _ => (List DS) → (T CF) → CAL → (List V) → HP → Nat → KV → R) (motive_2 := fun _ => Unit) (fun _ _ _ _ _ _ _ => .bad 95) (fun _ _ _ _ _ _ _ => .bad 95) (fun _ _ _ _ _ _ _ => .bad 95) (fun _ _ _ _ _ _ _ => .bad 95) (fun l sl ft cal l0 h c0 k0 => yieldE ft cal l l0 h c0 k0) (fun _ _ _ _ _ _ _ _ _ => .bad 95) (fun _ _ _ _ _ _ _ _ => .bad 95) (fun g x y _ _ sl ft cal l0 h c0 k0 => callE sl ft cal g (Ev.app x (Ev.app l0 y)) h c0 k0) (fun _ _ _ _ _ _ _ _ _ => .bad 95) (fun _ _ _ _ _ _ _ _ _ => .bad 95) (fun _ _ _ _ _ _ _ _ => .bad 95) (fun _ _ _ _ _ _ _ _ _ _ _ _ => .bad 95) (fun _ _ _ _ _ _ _ _ _ => .bad 95) (fun _ _ _ _ _ _ _ _ => .bad 95) (fun _ _ _ _ _ _ _ _ _ => .bad 95) (fun _ _ _ _ _ _ _ _ _ => .bad 95) () (fun _ _ _ _ => ()) g sl ft cal l h c k
def callN (sl : List DS) (ft : T CF) (n : Nat) : CAL := Nat.rec (motive := fun _ => CAL) (fun _ _ _ _ _ => .bad 96) (fun _ ih => goE sl ft ih) n
end
end Ev
