/- A program's functions, made ready. -/
import Derived.Test.YtelfddkfddnenaaGreatEvB
namespace Ev
open Go
set_option linter.unusedVariables false
noncomputable section
/-- the types of a program, in a tree -/
def bld {α : Type} (d : α) (l : List α) : Nat → T α → T α := List.rec (motive := fun _ => Nat → T α → T α) (fun _ t => t) (fun v _ ih i t => ih (Nat.add i 1) (T.setK d v t i fun t => t)) l
abbrev TT := T (Option TypeInfo)
def tyI (tt : TT) (t : Nat) : Option TypeInfo := T.get none tt t
def und (tt : TT) (t : Nat) : Option TypeDesc := match tyI tt t with
  | some i => match i.desc with
    | .named _ u => (tyI tt u).map (·.desc)
    | d => some d
  | none => none
def siz (tt : TT) (t : Nat) : Nat := match tyI tt t with | some i => i.size | none => 0
def byt (tt : TT) (t : Nat) : Nat := match tyI tt t with | some i => i.bytes | none => 0
def agg (tt : TT) (t : Nat) : Bool := match und tt t with | some (.struct _) => true | some (.array _ _) => true | _ => false
/-- a constant -/
def cV : Value → Option V
  | .bool b => some (.b b)
  | .int k (.ofNat m) => some (.i (kN k) m)
  | .int k (.negSucc m) => some (.j (kN k) m)
  | .string s => some (.s (s.data.toList.map (·.toNat)))
  | .pointer none => some .np
  | .slice none 0 0 => some .ns
  | .nilFunc => some .nf
  | .tuple l => match l.toList with | [] => some .u | _ => none
  | _ => none
def cVs : List Value → Option (List V)
  | [] => some []
  | v :: l => match cV v, cVs l with | some x, some y => some (x :: y) | _, _ => none
/-- noughts, all alike: how many -/
def unif (k : IntKind) : List Value → Bool
  | [] => true
  | .int k' n :: l => Nat.beq (kN k) (kN k') && ieq n 0 && unif k l
  | _ => false
/-- the zero cells of a type -/
def zer (l : List Value) : Option Z := match l with
  | .int k (.ofNat 0) :: r => bif unif k r then some (.c (.i (kN k) 0)) else (cVs l).map fun x => .l x l.length
  | _ => (cVs l).map fun x => .l x l.length
def zOf (tt : TT) (t : Nat) : Option (List Value) := match tyI tt t with | some i => i.zero.map fun v => v.cells.toList | none => none
/-- is the zero value false? -/
def zB (tt : TT) (t : Nat) : Bool := match tyI tt t with | some i => (match i.zero with | some (.bool false) => true | _ => false) | none => false
def gt (b : A6 V → V) (a : A6 (A6 V) → A6 V) : OP := fun t => b (a t)
def kv (v : V) : OP := fun _ => v
def ds (b : V → A6 V → (A6 V → R) → R) (a : (A6 V → (A6 V → R) → R) → TM → (TM → R) → R) : DS := fun v t k => a (b v) t k
def dN : DS := fun _ t k => k t
def gOp (i j : I6) : Bx OP := match selB (α := V) j, selB (α := A6 V) i with | .mk b, .mk a => .mk (gt b a) | _, _ => .no
def dOp (i j : I6) : Bx DS := match updB (α := V) j, modB (α := A6 V) i with | .mk b, .mk a => .mk (ds b a) | _, _ => .no
/-- is it a slot? -/
def okT (nt t : Nat) : Bool := Nat.blt t nt && Nat.blt t 256
def cOpd (nt : Nat) (o : Operand) : Bx OP := match o with
  | .tmp t => bif okT nt t then gOp (i6N (t / 16)) (i6N (t % 16)) else .no
  | .const v => match cV v with | some x => .mk (kv x) | none => .no
  | .global g => .mk (kv (.gp g 0))
  | .func f => .mk (kv (.f f [] []))
def cDst (nt : Nat) : Option Nat → Bx DS
  | none => .mk dN
  | some t => bif okT nt t then dOp (i6N (t / 16)) (i6N (t % 16)) else .no
def cOpds (nt : Nat) : List Operand → Bx (List OP)
  | [] => .mk []
  | o :: l => match cOpd nt o, cOpds nt l with | .mk x, .mk y => .mk (x :: y) | _, _ => .no
def cOpt (nt : Nat) : Option Operand → Bx (Option OP)
  | none => .mk none
  | some o => match cOpd nt o with | .mk x => .mk (some x) | .no => .no
/-- how values of a type are the same; none: not reckoned -/
def cQ (P : Program) (tt : TT) : Nat → Nat → Option Q
  | 0, _ => none
  | f + 1, t => match und tt t with
    | some (.int _) => some .i
    | some .bool => some .b
    | some .string => some .s
    | some (.pointer e) => bif Nat.beq (siz tt e) 0 then none else some .p
    | some (.struct fs) => bif P.stoodInHeld t then none else
      (fs.toList.foldr (fun g l => match l, cQ P tt f g.type with
        | some l, some q => bif g.name == "_" then none else some (QL.c g.offset (siz tt g.type) q l)
        | _, _ => none) (some QL.e)).map .st
    | _ => none
def parts (tt : TT) (nt : Nat) (pl : Nat → Option (Nat × Nat)) : List (Nat × Operand) → Bx (List (Nat × Nat × OP))
  | [] => .mk []
  | (i, o) :: l => match pl i, cOpd nt o, parts tt nt pl l with | some (a, b), .mk x, .mk y => .mk ((a, b, x) :: y) | _, _, _ => .no
def badO (n : Nat) : OC := fun _ _ _ _ _ _ => .bad n
def badC (n : Nat) : CC := fun _ _ _ _ _ _ _ => .bad n
/-- is it a type? -/
def okI (tt : TT) (t : Nat) : Bool := (und tt t).isSome
def bx {α : Type} (z : Nat) (b : Bx α) (f : α → Bx OC) : Bx OC := match b with | .mk a => f a | .no => .mk (badO z)
def sh (k : IntKind) : Nat := match k with | .i8 | .u8 => 8 | .i16 | .u16 => 16 | .i32 | .u32 => 32 | _ => 64
def cAr (op : BinOp) (k : IntKind) : Bx BF := match op with
  | .add => .mk (aAdd (kN k) (hiN k)) | .sub => .mk (aSub (kN k) (hiN k)) | .mul => .mk (aMul (kN k) (hiN k)) | .quo => .mk (aQuo (kN k) (hiN k)) | .rem => .mk (aRem (kN k))
  | .and => .mk (aBit Nat.land (kN k) (hiN k) (biN k)) | .or => .mk (aBit Nat.lor (kN k) (hiN k) (biN k)) | .xor => .mk (aBit Nat.xor (kN k) (hiN k) (biN k)) | .andNot => .mk (aBit (anN (biN k)) (kN k) (hiN k) (biN k))
  | .shl => .mk (aShl (kN k) (hiN k) (sh k)) | .shr => .mk (aShr (kN k) (sh k))
  | .eql => .mk (aEq (kN k)) | .neq => .mk (aNe (kN k)) | .lss => .mk (aLt (kN k)) | .leq => .mk (aLe (kN k)) | .gtr => .mk (aGt (kN k)) | .geq => .mk (aGe (kN k))
def cSr (op : BinOp) : Bx BF := match op with | .add => .mk sAdd | .eql => .mk sEq | .neq => .mk sNe | _ => .no
def cOp (P : Program) (tt : TT) (nt : Nat) (o : Oper) : Bx OC := bx 250 (cDst nt o.dst) fun d =>
  match o.op with
  | .move x | .assign x => bx 200 (cOpd nt x) fun x => .mk (fMv d x)
  | .pick c x y => bx 201 (cOpd nt c) fun c => bx 201 (cOpd nt x) fun x => bx 201 (cOpd nt y) fun y => .mk (fPick d c x y)
  | .alloc t => match zOf tt t with | some l => (match zer l with | some z => bif Nat.beq l.length (siz tt t) then .mk (fAlloc d t (siz tt t) z) else .mk (badO 202) | none => .mk (badO 202)) | none => .mk (badO 202)
  | .box t x => bx 203 (cOpd nt x) fun x => .mk (fBox d t (siz tt t) x)
  | .build t ps => match (zOf tt t).bind cVs, und tt t with
    | some z, some (.struct fs) => bif !(fs.all fun f => okI tt f.type) || !ceB (len z) (ce0 (len z)) then .mk (badO 204) else bx 204 (parts tt nt (fun i => (fs[i]?).map fun f => (f.offset, siz tt f.type)) ps.toList) fun ps => .mk (fBuild d z ps)
    | some z, some (.array _ e) => bif !okI tt e || !ceB (len z) (ce0 (len z)) then .mk (badO 205) else bx 205 (parts tt nt (fun i => some (i * siz tt e, siz tt e)) ps.toList) fun ps => .mk (fBuild d z ps)
    | _, _ => .mk (badO 206)
  | .buildSlice t n ps => match und tt t with
    | some (.slice e) => match (zOf tt e).bind cVs with
      | some z => bif Nat.beq z.length (siz tt e) && Nat.blt 0 (siz tt e) && Nat.ble (n * siz tt e) 1000000 then bx 207 (parts tt nt (fun i => some (i * siz tt e, siz tt e)) ps.toList) fun ps => .mk (fBsl d e (siz tt e) n z ps) else .mk (badO 208)
      | none => .mk (badO 209)
    | _ => .mk (badO 210)
  | .load t x => bx 211 (cOpd nt x) fun x => match und tt t with | some _ => (bif agg tt t then .mk (fLda d (siz tt t) x) else .mk (fLd d x)) | _ => .mk (badO 211)
  | .store t x y => bx 212 (cOpd nt x) fun x => bx 212 (cOpd nt y) fun y => match o.dst, und tt t with | none, some _ => .mk (fSt (siz tt t) x y) | _, _ => .mk (badO 212)
  | .nilCheck x => bx 213 (cOpd nt x) fun x => .mk (fNck d x)
  | .binOp op t x y _ => bx 217 (cOpd nt x) fun x => bx 217 (cOpd nt y) fun y =>
      match und tt t with
      | some (.int k) => bx 218 (cAr op k) fun f => .mk (fAr d f x y)
      | some .string => bx 218 (cSr op) fun f => .mk (fAr d f x y)
      | _ => match op with
        | .eql => bif P.eqGuardType P.depth t then .mk (badO 214) else (match cQ P tt 10 t with | some q => .mk (fEq d q x y) | none => .mk (badO 215))
        | .neq => bif P.eqGuardType P.depth t then .mk (badO 214) else (match cQ P tt 10 t with | some q => .mk (fNe d q x y) | none => .mk (badO 215))
        | _ => .mk (badO 216)
  | .unOp op _ x => bx 219 (cOpd nt x) fun x => match op with | .not => .mk (fNo d x) | .neg => .mk (fNg d x) | _ => .mk (badO 218)
  | .convert s t x => bx 221 (cOpd nt x) fun x => match und tt s, und tt t with
    | some (.int _), some (.int k) => .mk (fCv d (kN k) (hiN k) x)
    | some .string, some .string => .mk (fCs d x)
    | some (.slice e), some .string => (match und tt e with | some (.int .u8) => .mk (fBs d x) | _ => .mk (badO 220))
    | _, _ => .mk (badO 221)
  | .makeFunc (.func g) fs cs => bx 222 (cOpds nt fs.toList) fun fs => bx 222 (cOpds nt cs.toList) fun cs => .mk (fMkf d g fs cs)
  | .makeSlice t l c => bx 225 (cOpd nt l) fun l => bx 225 (cOpd nt c) fun c => match und tt t with
    | some (.slice e) => match zOf tt e with
      | some zl => (match zer zl with
        | some z => bif Nat.blt 0 (siz tt e) && Nat.beq zl.length (siz tt e) then .mk (fMks d e (siz tt e) (byt tt e) z l c) else .mk (badO 223)
        | none => .mk (badO 224))
      | none => .mk (badO 224)
    | _ => .mk (badO 225)
  | .slice t x l h m => bx 226 (cOpd nt x) fun x => bx 226 (cOpt nt l) fun l => bx 226 (cOpt nt h) fun h => bx 226 (cOpt nt m) fun m => bif h.isNone && m.isSome then .mk (badO 226) else match und tt t with
    | some .string => (match m with | none => .mk (fSls d x l h) | _ => .mk (badO 226))
    | some (.slice e) => bif okI tt e then .mk (fSli d (siz tt e) x l h m) else .mk (badO 226)
    | some (.array n e) => bif okI tt e then .mk (fSlp d (siz tt e) n x l h m) else .mk (badO 226)
    | _ => .mk (badO 226)
  | .fieldAddr t x f => bx 229 (cOpd nt x) fun x => match und tt t with
    | some (.struct fs) => match fs[f]? with
      | some g => bif Nat.beq (siz tt g.type) 0 then .mk (badO 227) else .mk (fFa d g.offset x)
      | none => .mk (badO 228)
    | _ => .mk (badO 229)
  | .field t x f => bx 231 (cOpd nt x) fun x => match und tt t with
    | some (.struct fs) => match fs[f]? with
      | some g => bif !okI tt g.type then .mk (badO 230) else bif agg tt g.type then .mk (fFla d g.offset (siz tt g.type) x) else .mk (fFl d g.offset x)
      | none => .mk (badO 230)
    | _ => .mk (badO 231)
  | .indexAddr t x i => bx 232 (cOpd nt x) fun x => bx 232 (cOpd nt i) fun i => match und tt t with
    | some (.slice e) => bif okI tt e then .mk (fIa d (siz tt e) x i) else .mk (badO 232)
    | some (.array n e) => bif okI tt e then .mk (fIaa d (siz tt e) n x i) else .mk (badO 232)
    | _ => .mk (badO 232)
  | .index t x i => bx 233 (cOpd nt x) fun x => bx 233 (cOpd nt i) fun i => match und tt t with
    | some .string => .mk (fIxs d x i)
    | some (.array n e) => bif !okI tt e then .mk (badO 233) else bif agg tt e then .mk (fIxa d (siz tt e) n x i) else .mk (fIx d (siz tt e) n x i)
    | _ => .mk (badO 233)
  | .extract x i => bx 234 (cOpd nt x) fun x => .mk (fEx d x i)
  | .call c => match c.callee with
    | .value g => bx 235 (cOpd nt g) fun g => bx 235 (cOpds nt c.args.toList) fun xs => .mk (fCall d g xs)
    | .builtin b => bx 243 (cOpds nt c.args.toList) fun xs => match xs, c.argTypes.toList with
      | [x], [t] => (match b with
        | .len => (match und tt t with
          | some .string => .mk (fLnS d x)
          | some (.slice _) => .mk (fLnL d x)
          | some (.array n _) => .mk (fLna d n)
          | some (.pointer r) => (match und tt r with | some (.array n _) => .mk (fLna d n) | _ => .mk (badO 236))
          | _ => .mk (badO 236))
        | .cap => (match und tt t with | some (.slice _) => .mk (fCp d x) | _ => .mk (badO 237))
        | _ => .mk (badO 238))
      | [x, y], [t, u] => (match b with
        | .append => (match und tt t, und tt u with
          | some (.slice e), some (.slice _) | some (.slice e), some .string => (match zOf tt e with | some l => bif Nat.blt 0 (siz tt e) && Nat.blt 0 (byt tt e) && Nat.beq l.length (siz tt e) then .mk (fApp d e (siz tt e) (byt tt e) x y) else .mk (badO 239) | none => .mk (badO 239))
          | _, _ => .mk (badO 240))
        | .copy => (match und tt t with | some (.slice e) => bif okI tt e then .mk (fCpy d (siz tt e) x y) else .mk (badO 241) | _ => .mk (badO 241))
        | .max => .mk (fMx d x y)
        | .min => .mk (fMn d x y)
        | _ => .mk (badO 242))
      | _, _ => .mk (badO 243)
    | _ => .mk (badO 244)
  | .makeMap t none => (match und tt t with
    | some (.map kt et) => (match und tt kt, und tt et with | some (.int .i64), some .bool => bif zB tt et then .mk (fMm d kt et) else .mk (badO 270) | _, _ => .mk (badO 270))
    | _ => .mk (badO 270))
  | .lookup t x y false => bx 271 (cOpd nt x) fun x => bx 271 (cOpd nt y) fun y => (match und tt t with
    | some (.map kt et) => (match und tt kt, und tt et with | some (.int .i64), some .bool => bif zB tt et then .mk (fLk d kt et x y) else .mk (badO 271) | _, _ => .mk (badO 271))
    | _ => .mk (badO 271))
  | .mapUpdate t x y z => bx 272 (cOpd nt x) fun x => bx 272 (cOpd nt y) fun y => bx 272 (cOpd nt z) fun z => (match o.dst, und tt t with
    | none, some (.map kt et) => (match und tt kt, und tt et with | some (.int .i64), some .bool => .mk (fMu kt et x y z) | _, _ => .mk (badO 272))
    | _, _ => .mk (badO 272))
  | .panic _ => .mk (badO 245)
  | _ => .mk (badO 246)
/-- an operation with its guard -/
def cGO (P : Program) (tt : TT) (nt : Nat) (ops : Array Oper) (o : Oper) : Bx OC := match o.guard with
  | none => cOp P tt nt o
  | some (j, w) => match (ops[j]?).bind (·.dst) with
    | some t => bx 251 (cOpd nt (.tmp t)) fun g => bx 251 (cDst nt o.dst) fun d => bx 251 (cOp P tt nt o) fun f => .mk (gdO g w d f)
    | none => .mk (badO 251)
def cReg (P : Program) (tt : TT) (nt : Nat) (ops : Array Oper) : List Oper → Bx OC
  | [] => .mk idO
  | o :: l => bx 252 (cGO P tt nt ops o) fun f => bx 252 (cReg P tt nt ops l) fun g => .mk (sqO f g)
def bc {α : Type} (z : Nat) (b : Bx α) (f : α → Bx CC) : Bx CC := match b with | .mk a => f a | .no => .mk (badC z)
def neqL : List Nat → List Nat → Bool
  | [], [] => true
  | a :: l, b :: m => Nat.beq a b && neqL l m
  | _, _ => false
def veq0 : V → V → Bool
  | .i k m, .i k' m' => Nat.beq k k' && Nat.beq m m'
  | .j k m, .j k' m' => Nat.beq k k' && Nat.beq m m'
  | .p a o, .p a' o' => Nat.beq a a' && Nat.beq o o'
  | .b x, .b y => bif x then y else !y
  | .np, .np => true
  | .ns, .ns => true
  | .nf, .nf => true
  | .s l, .s m => neqL l m
  | .sl a o n c q, .sl a' o' n' c' q' => Nat.beq a a' && Nat.beq o o' && Nat.beq n n' && Nat.beq c c' && (bif q then q' else !q')
  | _, _ => false
def veqL : List V → List V → Bool
  | [], [] => true
  | a :: l, b :: m => veq0 a b && veqL l m
  | _, _ => false
def veq : V → V → Bool
  | .ag l, .ag m => veqL l m
  | .tu l, .tu m => veqL l m
  | a, b => veq0 a b
/-- operations that turn no memory -/
def isLight : Op → Bool
  | .move _ | .assign _ | .pick .. | .build .. | .load .. | .nilCheck _ | .binOp .. | .unOp .. | .convert .. | .makeFunc .. | .slice .. | .fieldAddr .. | .field .. | .indexAddr .. | .index .. | .extract .. => true
  | .call c => match c.callee with | .builtin .len | .builtin .cap | .builtin .max | .builtin .min => true | _ => false
  | _ => false
/-- what binds an operation, in whatever order -/
def aft (ops : Array Oper) (i : Nat) : List Nat := match ops[i]? with | some o => (o.after.toList.filter fun e => Region.binds .any e).map (·.on) | none => []
def elm (i : Nat) : List Nat → Bool
  | [] => false
  | j :: l => bif Nat.beq i j then true else elm i l
def ins (i : Nat) (l : List Nat) : List Nat := bif elm i l then l else i :: l
def uni (a b : List Nat) : List Nat := a.foldr ins b
/-- all that must have come up ahead of each -/
def pres (ops : Array Oper) : Nat → List (List Nat)
  | 0 => []
  | i + 1 => let p := pres ops i; p ++ [(aft ops i).foldr (fun j s => ins j (uni (p.getD j []) s)) []]
def looks (ops : Array Oper) (o : Oper) : List Nat := (o.op.operands.toList.filterMap fun | .tmp t => some t | _ => none) ++ (match o.guard with | some (g, _) => ((ops[g]?).bind (·.dst)).toList | none => [])
/-- its own temporaries that the region writes ahead of it -/
def own (ops : Array Oper) (i : Nat) (o : Oper) : List Nat := ((aft ops i).filterMap fun j => (ops[j]?).bind (·.dst)).filter fun t => elm t (looks ops o)
def okS : Op → Bool
  | .select .. | .defer _ => false
  | _ => true
/-- operations that make memory, and look at none -/
def isEarly : Op → Bool
  | .alloc _ | .box .. | .buildSlice .. | .makeSlice .. => true
  | _ => false
def lgt (ops : Array Oper) (i : Nat) : Bool := match ops[i]? with | some o => isLight o.op | none => false
def erl (ops : Array Oper) (i : Nat) : Bool := match ops[i]? with | some o => isEarly o.op | none => false
def slot (ops : Array Oper) (i : Nat) : Nat := ((List.range i).filter (erl ops)).length
abbrev SC := TM → Nat → CAL → TM → HP → HP → Nat → List Nat → (TM → HP → HP → Nat → R) → R
def mkT (l : List (OP × DS)) : TM → TM → (TM → R) → R := List.rec (motive := fun _ => TM → TM → (TM → R) → R) (fun t0 _ k => k t0) (fun p _ ih t0 t k => p.2 (p.1 t) t0 fun t0 => ih t0 t k) l
def cLk (nt : Nat) : List Nat → Bx (List (OP × DS))
  | [] => .mk []
  | n :: l => match cOpd nt (.tmp n), cDst nt (some n), cLk nt l with | .mk o, .mk d, .mk l => .mk ((o, d) :: l) | _, _, _ => .no
def fBk (b : Blk) (k : Blk → R) : R := Blk.rec (motive := fun _ => (Blk → R) → R) (fun k => k .x) (fun k => k .df) (fun a k => k (.sp a)) (fun st pe g t k => k (.lp st pe g t)) (fun ty n q z t k => k (.c ty n q z t)) (fun kt et n l k => k (.mp kt et n l)) b k
def ifX (b : Blk) (r : R) : R := Blk.rec (motive := fun _ => R → R) (fun r => r) (fun _ => .bad 112) (fun _ _ => .bad 112) (fun _ _ _ _ _ => .bad 112) (fun _ _ _ _ _ _ => .bad 112) (fun _ _ _ _ _ => .bad 112) b r
def st0 (lk : List (OP × DS)) (f : OC) : SC := fun t0 _ cal t h e c df k => mkT lk t0 t fun t' => f cal t' h c df fun _ h c _ => k t h e c
def st1 (lk : List (OP × DS)) (f : OC) (o : OP) (d : DS) : SC := fun t0 _ cal t h e c df k => mkT lk t0 t fun t' => f cal t' h c df fun t1 h c _ => d (o t1) t fun t => k t h e c
def stR (lk : List (OP × DS)) (f : OC) (o : OP) : SC := fun t0 _ cal t h e c df k => mkT lk t0 t fun t' => f cal t' h c df fun t1 _ _ _ => ifT (veq (o t1) (o t)) (k t h e c) (.bad 111)
def stQ (lk : List (OP × DS)) (f : OC) : SC := fun t0 _ cal t h e c df k => mkT lk t0 t fun t' => f cal t' h c df fun _ _ _ _ => k t h e c
def stN (j : Nat) (lk : List (OP × DS)) (f : OC) (o : OP) (d : DS) : SC := fun t0 c0 cal t h e c df k => fN (Nat.add c0 j) fun id => ifX (hget h id) (mkT lk t0 t fun t' => f cal t' h id df fun t1 h1 _ _ => fBk (hget h1 id) fun b => hset b e id fun e => d (o t1) t fun t => k t h e c)
def stE (j : Nat) : SC := fun _ c0 _ t h e c _ k => ifX (hget h (Nat.add c0 j)) (k t h e c)
def stT (j : Nat) : SC := fun _ c0 _ t h e c _ k => fN (Nat.add c0 j) fun id => ifX (hget h id) (fBk (hget e id) fun b => hset b h id fun h => k t h e c)
def idS : SC := fun _ _ _ t h e c _ k => k t h e c
def sqS (a b : SC) : SC := fun t0 c0 cal t h e c df k => a t0 c0 cal t h e c df fun t h e c => b t0 c0 cal t h e c df k
/-- places kept for later -/
def rsv (n : Nat) : HP → Nat → (HP → Nat → R) → R := Nat.rec (motive := fun _ => HP → Nat → (HP → Nat → R) → R) (fun h c k => k h c) (fun _ ih h c k => newK .x h c fun h c => ih h c k) n
def drC (n : Nat) (s : SC) : CC := fun cal t h c df kn _ => rsv n h c fun h' c' => s t c cal t h' h0 c' df fun t h _ c => kn t h c df
def cSt (P : Program) (tt : TT) (nt : Nat) (ops : Array Oper) (i : Nat) : Bx SC := match ops[i]? with
  | none => .no
  | some o => match okS o.op, cLk nt (own ops i o), cGO P tt nt ops o with
    | true, .mk lk, .mk f => (match o.dst with
      | none => .mk (st0 lk f)
      | some n => match cOpd nt (.tmp n), cDst nt (some n) with | .mk x, .mk d => .mk (st1 lk f x d) | _, _ => .no)
    | _, _, _ => .no
def cRe (P : Program) (tt : TT) (nt : Nat) (ops : Array Oper) (i : Nat) : Bx SC := match ops[i]? with
  | none => .no
  | some o => match cLk nt (own ops i o), cGO P tt nt ops o with
    | .mk lk, .mk f => (match o.dst with
      | none => .mk (stQ lk f)
      | some n => match cOpd nt (.tmp n) with | .mk x => .mk (stR lk f x) | .no => .no)
    | _, _ => .no
def cNw (P : Program) (tt : TT) (nt : Nat) (ops : Array Oper) (i : Nat) : Bx SC := match ops[i]? with
  | none => .no
  | some o => match cLk nt (own ops i o), cOp P tt nt o, o.dst, o.guard with
    | .mk lk, .mk f, some n, none => (match cOpd nt (.tmp n), cDst nt (some n) with | .mk x, .mk d => .mk (stN (slot ops i) lk f x d) | _, _ => .no)
    | _, _, _, _ => .no
def cAll (g : Nat → Bx SC) : List Nat → Bx SC
  | [] => .mk idS
  | i :: l => match g i, cAll g l with | .mk a, .mk b => .mk (sqS a b) | _, _ => .no
def sqB (a b : Bx SC) : Bx SC := match a, b with | .mk a, .mk b => .mk (sqS a b) | _, _ => .no
def ixs (ops : Array Oper) (p : Nat → Bool) : List Nat := (List.range ops.size).filter p
def rdB (pr : List (List Nat)) (l : List Nat) (i : Nat) : Bool := l.all fun a => !elm a (pr.getD i [])
def nonA (ops : Array Oper) (i : Nat) : Bool := lgt ops i || erl ops i
def stp (P : Program) (tt : TT) (nt : Nat) (ops : Array Oper) (i : Nat) : Bx SC := bif lgt ops i then cSt P tt nt ops i else cNw P tt nt ops i
def rec' (P : Program) (tt : TT) (nt : Nat) (ops : Array Oper) (i : Nat) : Bx SC := bif lgt ops i then cRe P tt nt ops i else .mk (stE (slot ops i))
def stA (ops : Array Oper) (i : Nat) : Bx SC := .mk (stT (slot ops i))
/-- what is left from an anchored operation on -/
def segs (P : Program) (tt : TT) (nt : Nat) (ops : Array Oper) (pr : List (List Nat)) : List Nat → List Nat → Bx SC
  | [], ad => cAll (stA ops) (ixs ops fun i => erl ops i && !elm i ad)
  | a :: l, ad => sqB (cAll (stA ops) (ixs ops fun i => erl ops i && elm i (pr.getD a []) && !elm i ad)) (sqB (cSt P tt nt ops a)
      (sqB (cAll (rec' P tt nt ops) (ixs ops fun i => nonA ops i && rdB pr (a :: l) i && !elm i (pr.getD a [])))
      (sqB (cAll (stp P tt nt ops) (ixs ops fun i => nonA ops i && rdB pr l i && !rdB pr (a :: l) i)) (segs P tt nt ops pr l (pr.getD a [])))))
def chain (pr : List (List Nat)) : List Nat → Bool
  | [] => true
  | a :: l => (l.all fun b => elm a (pr.getD b [])) && chain pr l
/-- what must be known of an operation -/
inductive Row where
  | mk (i : Nat) (d l a p : List Nat)
def rowOf (ops : Array Oper) (pr : List (List Nat)) (i : Nat) : Row := match ops[i]? with
  | some o => .mk i o.dst.toList (looks ops o) (aft ops i) (pr.getD i [])
  | none => .mk i [] [] [] []
def fRw {β : Type} (r : Row) (k : Row → β) : β := Row.rec (motive := fun _ => (Row → β) → β) (fun i d l a p k => fN i fun i => fL d fun d => fL l fun l => fL a fun a => fL p fun p => k (.mk i d l a p)) r k
def fRs {β : Type} (l : List Row) : (List Row → β) → β := List.rec (motive := fun _ => (List Row → β) → β) (fun k => k []) (fun r _ ih k => fRw r fun r => ih fun l => k (r :: l)) l
def fLL {β : Type} (l : List (List Nat)) : (List (List Nat) → β) → β := List.rec (motive := fun _ => (List (List Nat) → β) → β) (fun k => k []) (fun r _ ih k => fL r fun r => ih fun l => k (r :: l)) l
/-- what x looks at and y writes is known to x, or y comes behind x -/
def okP : Row → Row → Bool
  | .mk i d l a _, .mk j d' _ _ p' => d'.all fun n => Nat.beq i j || (!elm n d && (!elm n l || elm j a || elm i p'))
def okD : Row → Bool
  | .mk i _ _ a _ => a.all fun j => Nat.blt j i
def chk (rs : List Row) : Bool := rs.all fun x => okD x && rs.all (okP x)
/-- a region whose order is drawn -/
def cDrawn (P : Program) (tt : TT) (nt : Nat) (ops : Array Oper) : Bx CC := fLL (pres ops ops.size) fun pr => fL (ixs ops fun i => !nonA ops i) fun an =>
  bif chain pr an && fRs ((List.range ops.size).map (rowOf ops pr)) chk then (match sqB (cAll (stp P tt nt ops) (ixs ops fun i => nonA ops i && rdB pr an i)) (segs P tt nt ops pr an []) with | .mk s => .mk (drC (slot ops ops.size) s) | .no => .mk (badC 261)) else .mk (badC 260)
def cC (P : Program) (tt : TT) (one : Bool) (g nt : Nat) : Code → Bx CC
  | .skip => .mk skC
  | .region _ ops d => bif d then cDrawn P tt nt ops else bc 253 (cReg P tt nt ops ops.toList) fun f => .mk (rgC f)
  | .seq a b => bc 253 (cC P tt one g nt a) fun a => bc 253 (cC P tt one g nt b) fun b => .mk (sqC a b)
  | .cond c a b => bc 254 (cOpd nt c) fun c => bc 254 (cC P tt one g nt a) fun a => bc 254 (cC P tt one g nt b) fun b => .mk (cdC c a b)
  | .block i c => bc 255 (cC P tt one g nt c) fun c => .mk (bkC i c)
  | .loop c => bc 255 (cC P tt one g nt c) fun c => .mk (lpC 1000000 c)
  | .rangeFunc f ps a b => bif one then (bc 256 (cOpd nt f) fun f => .mk (rfC g f)) else .mk (badC 258)
  | .exit i => .mk (exC i)
  | .ret => .mk rtC
  | _ => .mk (badC 257)
/-- the one range over a function that there is -/
def findR : Code → List (Array Tmp × Code × Code)
  | .rangeFunc _ ps a b => [(ps, a, b)]
  | .seq a b | .cond _ a b => findR a ++ findR b
  | .block _ c | .loop c => findR c
  | _ => []
def cDs (nt : Nat) : List Nat → Bx (List DS)
  | [] => .mk []
  | t :: l => match cDst nt (some t), cDs nt l with | .mk d, .mk l => .mk (d :: l) | _, _ => .no
def cRL (P : Program) (tt : TT) (g nt : Nat) (c : Code) : RL := match findR c with
  | [(ps, a, b)] => (match cDs nt ps.toList, cC P tt false g nt a, cC P tt false g nt b with | .mk ps, .mk a, .mk b => .mk ps a b | _, _, _ => .no)
  | _ => .no
abbrev RS := TM → HP → (V → R) → R
def rsN : RS := fun _ _ k => k (.tu [])
def rs1 (f : RS) : RS := fun t h k => f t h k
def rsT (f : TM → HP → (List V → R) → R) : RS := fun t h k => f t h fun l => k (.tu l)
def rvT (o : OP) : RS := fun t _ k => fV (o t) k
def rvC (o : OP) : RS := fun t h k => asP (o t) fun a r => blk h a fun _ m _ z u => ifT (Nat.blt r m) (fV (cell z u r) k) (.bad 82)
def rvA (n : Nat) (o : OP) : RS := fun t h k => asP (o t) fun a r => ldK h a r n fun l => k (.ag l)
def rl0 : TM → HP → (List V → R) → R := fun _ _ k => k []
def rlC (f : RS) (g : TM → HP → (List V → R) → R) : TM → HP → (List V → R) → R := fun t h k => f t h fun v => g t h fun l => k (v :: l)
def cRV (tt : TT) (nt : Nat) : ResultVar → Bx RS
  | .tmp t => (match cOpd nt (.tmp t) with | .mk o => .mk (rvT o) | .no => .no)
  | .cell a t => (match cOpd nt (.tmp a), und tt t with | .mk o, some _ => (bif agg tt t then .mk (rvA (siz tt t) o) else .mk (rvC o)) | _, _ => .no)
def cRVs (tt : TT) (nt : Nat) : List ResultVar → Bx (TM → HP → (List V → R) → R)
  | [] => .mk rl0
  | o :: l => match cRV tt nt o, cRVs tt nt l with | .mk f, .mk g => .mk (rlC f g) | _, _ => .no
def cRs (tt : TT) (nt : Nat) (l : List ResultVar) : Bx RS := match l with
  | [] => .mk rsN
  | [r] => cRV tt nt r
  | l => match cRVs tt nt l with | .mk f => .mk (rsT f) | .no => .no
def cF (P : Program) (tt : TT) (g : Nat) (fn : Func) : CF := match fn.body with
  | some b => (match cRs tt fn.ntmps fn.results.toList, cC P tt (Nat.beq (findR b).length 1) g fn.ntmps b with
    | .mk rs, .mk f => bif fn.name == "runtime.NumGoroutine" then .no else .fn rs f (cRL P tt g fn.ntmps b)
    | _, _ => .no)
  | none => .no
def mapF (P : Program) (tt : TT) (l : List Func) : Nat → List CF := List.rec (motive := fun _ => Nat → List CF) (fun _ => []) (fun f _ ih i => cF P tt i f :: ih (Nat.add i 1)) l
def types (P : Program) : TT := bld none (P.types.toList.map some) 0 .e
def table (P : Program) : T CF := bld .no (mapF P (types P) P.funcs.toList 0) 0 .e
def slots : List DS := [ds upd0 mod0, ds upd1 mod0, ds upd2 mod0, ds upd3 mod0, ds upd4 mod0, ds upd5 mod0, ds upd6 mod0, ds upd7 mod0, ds upd8 mod0, ds upd9 mod0, ds upd10 mod0, ds upd11 mod0, ds upd12 mod0, ds upd13 mod0, ds upd14 mod0, ds upd15 mod0, ds upd0 mod1, ds upd1 mod1, ds upd2 mod1, ds upd3 mod1, ds upd4 mod1, ds upd5 mod1, ds upd6 mod1, ds upd7 mod1, ds upd8 mod1, ds upd9 mod1, ds upd10 mod1, ds upd11 mod1, ds upd12 mod1, ds upd13 mod1, ds upd14 mod1, ds upd15 mod1, ds upd0 mod2, ds upd1 mod2, ds upd2 mod2, ds upd3 mod2, ds upd4 mod2, ds upd5 mod2, ds upd6 mod2, ds upd7 mod2, ds upd8 mod2, ds upd9 mod2, ds upd10 mod2, ds upd11 mod2, ds upd12 mod2, ds upd13 mod2, ds upd14 mod2, ds upd15 mod2, ds upd0 mod3, ds upd1 mod3, ds upd2 mod3, ds upd3 mod3, ds upd4 mod3, ds upd5 mod3, ds upd6 mod3, ds upd7 mod3, ds upd8 mod3, ds upd9 mod3, ds upd10 mod3, ds upd11 mod3, ds upd12 mod3, ds upd13 mod3, ds upd14 mod3, ds upd15 mod3, ds upd0 mod4, ds upd1 mod4, ds upd2 mod4, ds upd3 mod4, ds upd4 mod4, ds upd5 mod4, ds upd6 mod4, ds upd7 mod4, ds upd8 mod4, ds upd9 mod4, ds upd10 mod4, ds upd11 mod4, ds upd12 mod4, ds upd13 mod4, ds upd14 mod4, ds upd15 mod4, ds upd0 mod5, ds upd1 mod5, ds upd2 mod5, ds upd3 mod5, ds upd4 mod5, ds upd5 mod5, ds upd6 mod5, ds upd7 mod5, ds upd8 mod5, ds upd9 mod5, ds upd10 mod5, ds upd11 mod5, ds upd12 mod5, ds upd13 mod5, ds upd14 mod5, ds upd15 mod5, ds upd0 mod6, ds upd1 mod6, ds upd2 mod6, ds upd3 mod6, ds upd4 mod6, ds upd5 mod6, ds upd6 mod6, ds upd7 mod6, ds upd8 mod6, ds upd9 mod6, ds upd10 mod6, ds upd11 mod6, ds upd12 mod6, ds upd13 mod6, ds upd14 mod6, ds upd15 mod6, ds upd0 mod7, ds upd1 mod7, ds upd2 mod7, ds upd3 mod7, ds upd4 mod7, ds upd5 mod7, ds upd6 mod7, ds upd7 mod7, ds upd8 mod7, ds upd9 mod7, ds upd10 mod7, ds upd11 mod7, ds upd12 mod7, ds upd13 mod7, ds upd14 mod7, ds upd15 mod7, ds upd0 mod8, ds upd1 mod8, ds upd2 mod8, ds upd3 mod8, ds upd4 mod8, ds upd5 mod8, ds upd6 mod8, ds upd7 mod8, ds upd8 mod8, ds upd9 mod8, ds upd10 mod8, ds upd11 mod8, ds upd12 mod8, ds upd13 mod8, ds upd14 mod8, ds upd15 mod8, ds upd0 mod9, ds upd1 mod9, ds upd2 mod9, ds upd3 mod9, ds upd4 mod9, ds upd5 mod9, ds upd6 mod9, ds upd7 mod9, ds upd8 mod9, ds upd9 mod9, ds upd10 mod9, ds upd11 mod9, ds upd12 mod9, ds upd13 mod9, ds upd14 mod9, ds upd15 mod9, ds upd0 mod10, ds upd1 mod10, ds upd2 mod10, ds upd3 mod10, ds upd4 mod10, ds upd5 mod10, ds upd6 mod10, ds upd7 mod10, ds upd8 mod10, ds upd9 mod10, ds upd10 mod10, ds upd11 mod10, ds upd12 mod10, ds upd13 mod10, ds upd14 mod10, ds upd15 mod10, ds upd0 mod11, ds upd1 mod11, ds upd2 mod11, ds upd3 mod11, ds upd4 mod11, ds upd5 mod11, ds upd6 mod11, ds upd7 mod11, ds upd8 mod11, ds upd9 mod11, ds upd10 mod11, ds upd11 mod11, ds upd12 mod11, ds upd13 mod11, ds upd14 mod11, ds upd15 mod11, ds upd0 mod12, ds upd1 mod12, ds upd2 mod12, ds upd3 mod12, ds upd4 mod12, ds upd5 mod12, ds upd6 mod12, ds upd7 mod12, ds upd8 mod12, ds upd9 mod12, ds upd10 mod12, ds upd11 mod12, ds upd12 mod12, ds upd13 mod12, ds upd14 mod12, ds upd15 mod12, ds upd0 mod13, ds upd1 mod13, ds upd2 mod13, ds upd3 mod13, ds upd4 mod13, ds upd5 mod13, ds upd6 mod13, ds upd7 mod13, ds upd8 mod13, ds upd9 mod13, ds upd10 mod13, ds upd11 mod13, ds upd12 mod13, ds upd13 mod13, ds upd14 mod13, ds upd15 mod13, ds upd0 mod14, ds upd1 mod14, ds upd2 mod14, ds upd3 mod14, ds upd4 mod14, ds upd5 mod14, ds upd6 mod14, ds upd7 mod14, ds upd8 mod14, ds upd9 mod14, ds upd10 mod14, ds upd11 mod14, ds upd12 mod14, ds upd13 mod14, ds upd14 mod14, ds upd15 mod14, ds upd0 mod15, ds upd1 mod15, ds upd2 mod15, ds upd3 mod15, ds upd4 mod15, ds upd5 mod15, ds upd6 mod15, ds upd7 mod15, ds upd8 mod15, ds upd9 mod15, ds upd10 mod15, ds upd11 mod15, ds upd12 mod15, ds upd13 mod15, ds upd14 mod15, ds upd15 mod15]
def run (ft : T CF) (n f : Nat) : R := callN slots ft n (.f f [] []) [] h0 0 fun v h c => .fin v h c
def crN (r : R) : Nat := R.rec (motive := fun _ => Nat) (fun n => n) (fun v _ x => V.rec (motive_1 := fun _ => Nat) (motive_2 := fun _ => Unit) 9000 9000 9000 9000 (fun _ => 9000) (fun _ _ => 9000) (fun _ => 9000) (fun _ _ _ _ _ => 9000) (fun _ _ => 9000) (fun _ _ => 9000) (fun _ => 9000) (fun _ _ _ _ _ => 9000) (fun _ _ => 9000) (fun b => Bool.rec (motive := fun _ => Nat) 9001 (Nat.add 10000 x) b) (fun _ _ => 9000) (fun _ _ => 9000) () (fun _ _ _ _ => ()) v ) r
end
end Ev
