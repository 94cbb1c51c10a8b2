/- EvC, EvD, EvE, EvF, EvG, EvH. -/
import Derived.Test.YtpkaehpllldcmaaGreatDoorMeA
import Derived.Laws.CopyRow
import Derived.Maps.Own
import Derived.Maps.OwnSet
import Derived.Laws.Cells
section
namespace Ev
open Go
set_option linter.unusedVariables false
noncomputable section
def bld {α:Type} (d:α) (l:List α):Nat→T α→T α:=List.rec (motive:=fun _=>Nat→T α→T α) (fun _ t=>t) (fun v _ ih i t=>ih (Nat.add i 1) (T.setK d v t i fun t=>t)) l
abbrev TT:=T (Option TypeInfo)
def tyI (tt:TT) (t:Nat):Option TypeInfo:=T.get none tt t
def und (tt:TT) (t:Nat):Option TypeDesc:=match tyI tt t with
 |some i=>match i.desc with
  | .named _ u=>(tyI tt u).map (·.desc)
  |d=>some d
 |none=>none
def siz (tt:TT) (t:Nat):Nat:=match tyI tt t with|some i=>i.size|none=>0
def byt (tt:TT) (t:Nat):Nat:=match tyI tt t with|some i=>i.bytes|none=>0
def agg (tt:TT) (t:Nat):Bool:=match und tt t with|some (.struct _)=>true|some (.array _ _)=>true|_=>false
def cV:Value→Option V
 | .bool b=>some (.b b)
 | .int k (.ofNat m)=>some (.i (kN k) m)
 | .int k (.negSucc m)=>some (.j (kN k) m)
 | .string s=>some (.s (s.data.toList.map (·.toNat)))
 | .pointer none=>some .np
 | .slice none 0 0=>some .ns
 | .nilFunc=>some .nf
 | .tuple l=>match l.toList with|[]=>some .u|_=>none
 |_=>none
def cVs:List Value→Option (List V)
 |[]=>some []
 |v::l=>match cV v,cVs l with|some x,some y=>some (x::y)|_,_=>none
def unif (k:IntKind):List Value→Bool
 |[]=>true
 | .int k' n::l=>Nat.beq (kN k) (kN k')&&ieq n 0&&unif k l
 |_=>false
def zer (l:List Value):Option Z:=match l with
 | .int k (.ofNat 0)::r=>bif unif k r then some (.c (.i (kN k) 0))else(cVs l).map fun x=> .l x l.length
 |_=>(cVs l).map fun x=> .l x l.length
def zOf (tt:TT) (t:Nat):Option (List Value):=match tyI tt t with|some i=>i.zero.map fun v=>v.cells.toList|none=>none
def zB (tt:TT) (t:Nat):Bool:=match tyI tt t with|some i=>(match i.zero with|some (.bool false)=>true|_=>false)|none=>false
def gt (b:A6 V→V) (a:A6 (A6 V)→A6 V):OP:=fun t=>b (a t)
def kv (v:V):OP:=fun _=>v
def ds (b:V→A6 V→(A6 V→R)→R) (a:(A6 V→(A6 V→R)→R)→TM→(TM→R)→R):DS:=fun v t k=>a (b v) t k
def dN:DS:=fun _ t k=>k t
def gOp (i j:I6):Bx OP:=match selB (α:=V) j,selB (α:=A6 V) i with| .mk b,.mk a=> .mk (gt b a)|_,_=> .no
def dOp (i j:I6):Bx DS:=match updB (α:=V) j,modB (α:=A6 V) i with| .mk b,.mk a=> .mk (ds b a)|_,_=> .no
def okT (nt t:Nat):Bool:=Nat.blt t nt&&Nat.blt t 256
def cOpd (nt:Nat) (o:Operand):Bx OP:=match o with
 | .tmp t=>bif okT nt t then gOp (i6N (t/16)) (i6N (t%16))else .no
 | .const v=>match cV v with|some x=> .mk (kv x)|none=> .no
 | .global g=> .mk (kv (.gp g 0))
 | .func f=> .mk (kv (.f f [] []))
def cDst (nt:Nat):Option Nat→Bx DS
 |none=> .mk dN
 |some t=>bif okT nt t then dOp (i6N (t/16)) (i6N (t%16))else .no
def cOpds (nt:Nat):List Operand→Bx (List OP)
 |[]=> .mk []
 |o::l=>match cOpd nt o,cOpds nt l with| .mk x,.mk y=> .mk (x::y)|_,_=> .no
def cOpt (nt:Nat):Option Operand→Bx (Option OP)
 |none=> .mk none
 |some o=>match cOpd nt o with| .mk x=> .mk (some x)| .no=> .no
def cQ (P:Program) (tt:TT):Nat→Nat→Option Q
 |0,_=>none
 |f+1,t=>match und tt t with
  |some (.int _)=>some .i
  |some .bool=>some .b
  |some .string=>some .s
  |some (.pointer e)=>bif Nat.beq (siz tt e) 0 then none else some .p
  |some (.struct fs)=>bif P.stoodInHeld t then none else
   (fs.toList.foldr (fun g l=>match l,cQ P tt f g.type with
    |some l,some q=>bif g.name== "_" then none else some (QL.c g.offset (siz tt g.type) q l)
    |_,_=>none) (some QL.e)).map .st
  |_=>none
def parts (tt:TT) (nt:Nat) (pl:Nat→Option (Nat × Nat)):List (Nat × Operand)→Bx (List (Nat × Nat × OP))
 |[]=> .mk []
 |(i,o)::l=>match pl i,cOpd nt o,parts tt nt pl l with|some (a,b),.mk x,.mk y=> .mk ((a,b,x)::y)|_,_,_=> .no
def badO (n:Nat):OC:=fun _ _ _ _ _ _=> .bad n
def badC (n:Nat):CC:=fun _ _ _ _ _ _ _=> .bad n
def okI (tt:TT) (t:Nat):Bool:=(und tt t).isSome
def bx {α:Type} (z:Nat) (b:Bx α) (f:α→Bx OC):Bx OC:=match b with| .mk a=>f a| .no=> .mk (badO z)
def sh (k:IntKind):Nat:=match k with| .i8| .u8=>8| .i16| .u16=>16| .i32| .u32=>32|_=>64
def cAr (op:BinOp) (k:IntKind):Bx BF:=match op with
 | .add=> .mk (aAdd (kN k) (hiN k))| .sub=> .mk (aSub (kN k) (hiN k))| .mul=> .mk (aMul (kN k) (hiN k))| .quo=> .mk (aQuo (kN k) (hiN k))| .rem=> .mk (aRem (kN k))
 | .and=> .mk (aBit Nat.land (kN k) (hiN k) (biN k))| .or=> .mk (aBit Nat.lor (kN k) (hiN k) (biN k))| .xor=> .mk (aBit Nat.xor (kN k) (hiN k) (biN k))| .andNot=> .mk (aBit (anN (biN k)) (kN k) (hiN k) (biN k))
 | .shl=> .mk (aShl (kN k) (hiN k) (sh k))| .shr=> .mk (aShr (kN k) (sh k))
 | .eql=> .mk (aEq (kN k))| .neq=> .mk (aNe (kN k))| .lss=> .mk (aLt (kN k))| .leq=> .mk (aLe (kN k))| .gtr=> .mk (aGt (kN k))| .geq=> .mk (aGe (kN k))
def cSr (op:BinOp):Bx BF:=match op with| .add=> .mk sAdd| .eql=> .mk sEq| .neq=> .mk sNe|_=> .no
def cOp (P:Program) (tt:TT) (nt:Nat) (o:Oper):Bx OC:=bx 250 (cDst nt o.dst) fun d=>
 match o.op with
 | .move x| .assign x=>bx 200 (cOpd nt x) fun x=> .mk (fMv d x)
 | .pick c x y=>bx 201 (cOpd nt c) fun c=>bx 201 (cOpd nt x) fun x=>bx 201 (cOpd nt y) fun y=> .mk (fPick d c x y)
 | .alloc t=>match zOf tt t with|some l=>(match zer l with|some z=>bif Nat.beq l.length (siz tt t)then .mk (fAlloc d t (siz tt t) z)else .mk (badO 202)|none=> .mk (badO 202))|none=> .mk (badO 202)
 | .box t x=>bx 203 (cOpd nt x) fun x=> .mk (fBox d t (siz tt t) x)
 | .build t ps=>match(zOf tt t).bind cVs,und tt t with
  |some z,some (.struct fs)=>bif !(fs.all fun f=>okI tt f.type)|| !ceB (len z) (ce0 (len z))then .mk (badO 204)else bx 204 (parts tt nt (fun i=>(fs[i]?).map fun f=>(f.offset,siz tt f.type)) ps.toList) fun ps=> .mk (fBuild d z ps)
  |some z,some (.array _ e)=>bif !okI tt e|| !ceB (len z) (ce0 (len z))then .mk (badO 205)else bx 205 (parts tt nt (fun i=>some (i*siz tt e,siz tt e)) ps.toList) fun ps=> .mk (fBuild d z ps)
  |_,_=> .mk (badO 206)
 | .buildSlice t n ps=>match und tt t with
  |some (.slice e)=>match(zOf tt e).bind cVs with
   |some z=>bif Nat.beq z.length (siz tt e)&&Nat.blt 0 (siz tt e)&&Nat.ble (n*siz tt e) 1000000 then bx 207 (parts tt nt (fun i=>some (i*siz tt e,siz tt e)) ps.toList) fun ps=> .mk (fBsl d e (siz tt e) n z ps)else .mk (badO 208)
   |none=> .mk (badO 209)
  |_=> .mk (badO 210)
 | .load t x=>bx 211 (cOpd nt x) fun x=>match und tt t with|some _=>(bif agg tt t then .mk (fLda d (siz tt t) x)else .mk (fLd d x))|_=> .mk (badO 211)
 | .store t x y=>bx 212 (cOpd nt x) fun x=>bx 212 (cOpd nt y) fun y=>match o.dst,und tt t with|none,some _=> .mk (fSt (siz tt t) x y)|_,_=> .mk (badO 212)
 | .nilCheck x=>bx 213 (cOpd nt x) fun x=> .mk (fNck d x)
 | .binOp op t x y _=>bx 217 (cOpd nt x) fun x=>bx 217 (cOpd nt y) fun y=>
  match und tt t with
  |some (.int k)=>bx 218 (cAr op k) fun f=> .mk (fAr d f x y)
  |some .string=>bx 218 (cSr op) fun f=> .mk (fAr d f x y)
  |_=>match op with
   | .eql=>bif P.eqGuardType P.depth t then .mk (badO 214)else(match cQ P tt 10 t with|some q=> .mk (fEq d q x y)|none=> .mk (badO 215))
   | .neq=>bif P.eqGuardType P.depth t then .mk (badO 214)else(match cQ P tt 10 t with|some q=> .mk (fNe d q x y)|none=> .mk (badO 215))
   |_=> .mk (badO 216)
 | .unOp op _ x=>bx 219 (cOpd nt x) fun x=>match op with| .not=> .mk (fNo d x)| .neg=> .mk (fNg d x)|_=> .mk (badO 218)
 | .convert s t x=>bx 221 (cOpd nt x) fun x=>match und tt s,und tt t with
  |some (.int _),some (.int k)=> .mk (fCv d (kN k) (hiN k) x)
  |some .string,some .string=> .mk (fCs d x)
  |some (.slice e),some .string=>(match und tt e with|some (.int .u8)=> .mk (fBs d x)|_=> .mk (badO 220))
  |_,_=> .mk (badO 221)
 | .makeFunc (.func g) fs cs=>bx 222 (cOpds nt fs.toList) fun fs=>bx 222 (cOpds nt cs.toList) fun cs=> .mk (fMkf d g fs cs)
 | .makeSlice t l c=>bx 225 (cOpd nt l) fun l=>bx 225 (cOpd nt c) fun c=>match und tt t with
  |some (.slice e)=>match zOf tt e with
   |some zl=>(match zer zl with
    |some z=>bif Nat.blt 0 (siz tt e)&&Nat.beq zl.length (siz tt e)then .mk (fMks d e (siz tt e) (byt tt e) z l c)else .mk (badO 223)
    |none=> .mk (badO 224))
   |none=> .mk (badO 224)
  |_=> .mk (badO 225)
 | .slice t x l h m=>bx 226 (cOpd nt x) fun x=>bx 226 (cOpt nt l) fun l=>bx 226 (cOpt nt h) fun h=>bx 226 (cOpt nt m) fun m=>bif h.isNone&&m.isSome then .mk (badO 226)else match und tt t with
  |some .string=>(match m with|none=> .mk (fSls d x l h)|_=> .mk (badO 226))
  |some (.slice e)=>bif okI tt e then .mk (fSli d (siz tt e) x l h m)else .mk (badO 226)
  |some (.array n e)=>bif okI tt e then .mk (fSlp d (siz tt e) n x l h m)else .mk (badO 226)
  |_=> .mk (badO 226)
 | .fieldAddr t x f=>bx 229 (cOpd nt x) fun x=>match und tt t with
  |some (.struct fs)=>match fs[f]? with
   |some g=>bif Nat.beq (siz tt g.type) 0 then .mk (badO 227)else .mk (fFa d g.offset x)
   |none=> .mk (badO 228)
  |_=> .mk (badO 229)
 | .field t x f=>bx 231 (cOpd nt x) fun x=>match und tt t with
  |some (.struct fs)=>match fs[f]? with
   |some g=>bif !okI tt g.type then .mk (badO 230)else bif agg tt g.type then .mk (fFla d g.offset (siz tt g.type) x)else .mk (fFl d g.offset x)
   |none=> .mk (badO 230)
  |_=> .mk (badO 231)
 | .indexAddr t x i=>bx 232 (cOpd nt x) fun x=>bx 232 (cOpd nt i) fun i=>match und tt t with
  |some (.slice e)=>bif okI tt e then .mk (fIa d (siz tt e) x i)else .mk (badO 232)
  |some (.array n e)=>bif okI tt e then .mk (fIaa d (siz tt e) n x i)else .mk (badO 232)
  |_=> .mk (badO 232)
 | .index t x i=>bx 233 (cOpd nt x) fun x=>bx 233 (cOpd nt i) fun i=>match und tt t with
  |some .string=> .mk (fIxs d x i)
  |some (.array n e)=>bif !okI tt e then .mk (badO 233)else bif agg tt e then .mk (fIxa d (siz tt e) n x i)else .mk (fIx d (siz tt e) n x i)
  |_=> .mk (badO 233)
 | .extract x i=>bx 234 (cOpd nt x) fun x=> .mk (fEx d x i)
 | .call c=>match c.callee with
  | .value g=>bx 235 (cOpd nt g) fun g=>bx 235 (cOpds nt c.args.toList) fun xs=> .mk (fCall d g xs)
  | .builtin b=>bx 243 (cOpds nt c.args.toList) fun xs=>match xs,c.argTypes.toList with
   |[x],[t]=>(match b with
    | .len=>(match und tt t with
     |some .string=> .mk (fLnS d x)
     |some (.slice _)=> .mk (fLnL d x)
     |some (.array n _)=> .mk (fLna d n)
     |some (.pointer r)=>(match und tt r with|some (.array n _)=> .mk (fLna d n)|_=> .mk (badO 236))
     |_=> .mk (badO 236))
    | .cap=>(match und tt t with|some (.slice _)=> .mk (fCp d x)|_=> .mk (badO 237))
    |_=> .mk (badO 238))
   |[x,y],[t,u]=>(match b with
    | .append=>(match und tt t,und tt u with
     |some (.slice e),some (.slice _)|some (.slice e),some .string=>(match zOf tt e with|some l=>bif Nat.blt 0 (siz tt e)&&Nat.blt 0 (byt tt e)&&Nat.beq l.length (siz tt e)then .mk (fApp d e (siz tt e) (byt tt e) x y)else .mk (badO 239)|none=> .mk (badO 239))
     |_,_=> .mk (badO 240))
    | .copy=>(match und tt t with|some (.slice e)=>bif okI tt e then .mk (fCpy d (siz tt e) x y)else .mk (badO 241)|_=> .mk (badO 241))
    | .max=> .mk (fMx d x y)
    | .min=> .mk (fMn d x y)
    |_=> .mk (badO 242))
   |_,_=> .mk (badO 243)
  |_=> .mk (badO 244)
 | .makeMap t none=>(match und tt t with
  |some (.map kt et)=>(match und tt kt,und tt et with|some (.int .i64),some .bool=>bif zB tt et then .mk (fMm d kt et)else .mk (badO 270)|_,_=> .mk (badO 270))
  |_=> .mk (badO 270))
 | .lookup t x y false=>bx 271 (cOpd nt x) fun x=>bx 271 (cOpd nt y) fun y=>(match und tt t with
  |some (.map kt et)=>(match und tt kt,und tt et with|some (.int .i64),some .bool=>bif zB tt et then .mk (fLk d kt et x y)else .mk (badO 271)|_,_=> .mk (badO 271))
  |_=> .mk (badO 271))
 | .mapUpdate t x y z=>bx 272 (cOpd nt x) fun x=>bx 272 (cOpd nt y) fun y=>bx 272 (cOpd nt z) fun z=>(match o.dst,und tt t with
  |none,some (.map kt et)=>(match und tt kt,und tt et with|some (.int .i64),some .bool=> .mk (fMu kt et x y z)|_,_=> .mk (badO 272))
  |_,_=> .mk (badO 272))
 | .panic _=> .mk (badO 245)
 |_=> .mk (badO 246)
def cGO (P:Program) (tt:TT) (nt:Nat) (ops:Array Oper) (o:Oper):Bx OC:=match o.guard with
 |none=>cOp P tt nt o
 |some (j,w)=>match(ops[j]?).bind (·.dst)with
  |some t=>bx 251 (cOpd nt (.tmp t)) fun g=>bx 251 (cDst nt o.dst) fun d=>bx 251 (cOp P tt nt o) fun f=> .mk (gdO g w d f)
  |none=> .mk (badO 251)
def cReg (P:Program) (tt:TT) (nt:Nat) (ops:Array Oper):List Oper→Bx OC
 |[]=> .mk idO
 |o::l=>bx 252 (cGO P tt nt ops o) fun f=>bx 252 (cReg P tt nt ops l) fun g=> .mk (sqO f g)
def bc {α:Type} (z:Nat) (b:Bx α) (f:α→Bx CC):Bx CC:=match b with| .mk a=>f a| .no=> .mk (badC z)
def neqL:List Nat→List Nat→Bool
 |[],[]=>true
 |a::l,b::m=>Nat.beq a b&&neqL l m
 |_,_=>false
def veq0:V→V→Bool
 | .i k m,.i k' m'=>Nat.beq k k'&&Nat.beq m m'
 | .j k m,.j k' m'=>Nat.beq k k'&&Nat.beq m m'
 | .p a o,.p a' o'=>Nat.beq a a'&&Nat.beq o o'
 | .b x,.b y=>bif x then y else !y
 | .u,.u=>true
 | .gp a o,.gp a' o'=>Nat.beq a a'&&Nat.beq o o'
 | .np,.np=>true
 | .ns,.ns=>true
 | .nf,.nf=>true
 | .s l,.s m=>neqL l m
 | .sl a o n c q,.sl a' o' n' c' q'=>Nat.beq a a'&&Nat.beq o o'&&Nat.beq n n'&&Nat.beq c c'&&(bif q then q' else !q')
 |_,_=>false
def veqL:List V→List V→Bool
 |[],[]=>true
 |a::l,b::m=>veq0 a b&&veqL l m
 |_,_=>false
def veq:V→V→Bool
 | .f g x y,.f g' x' y'=>Nat.beq g g'&&veqL x x'&&veqL y y'
 | .ag l,.ag m=>veqL l m
 | .tu l,.tu m=>veqL l m
 |a,b=>veq0 a b
def isLight:Op→Bool
 | .move _| .assign _| .pick ..| .build ..| .load ..| .nilCheck _| .binOp ..| .unOp ..| .convert ..| .makeFunc ..| .slice ..| .fieldAddr ..| .field ..| .indexAddr ..| .index ..| .extract ..=>true
 | .call c=>match c.callee with| .builtin .len| .builtin .cap| .builtin .max| .builtin .min=>true|_=>false
 |_=>false
def aft (ops:Array Oper) (i:Nat):List Nat:=match ops[i]? with|some o=>(o.after.toList.filter fun e=>Region.binds .any e).map (·.on)|none=>[]
def elm (i:Nat):List Nat→Bool
 |[]=>false
 |j::l=>bif Nat.beq i j then true else elm i l
def ins (i:Nat) (l:List Nat):List Nat:=bif elm i l then l else i::l
def uni (a b:List Nat):List Nat:=a.foldr ins b
def pres (ops:Array Oper):Nat→List (List Nat)
 |0=>[]
 |i+1=>let p:=pres ops i;p++[(aft ops i).foldr (fun j s=>ins j (uni (p.getD j []) s)) []]
def looks (ops:Array Oper) (o:Oper):List Nat:=(o.op.operands.toList.filterMap fun| .tmp t=>some t|_=>none)++(match o.guard with|some (g,_)=>((ops[g]?).bind (·.dst)).toList|none=>[])
def own (ops:Array Oper) (i:Nat) (o:Oper):List Nat:=((aft ops i).filterMap fun j=>(ops[j]?).bind (·.dst)).filter fun t=>elm t (looks ops o)
def okS:Op→Bool
 | .select ..| .defer _=>false
 |_=>true
def isEarly:Op→Bool
 | .alloc _| .box ..| .buildSlice ..| .makeSlice ..=>true
 |_=>false
def lgt (ops:Array Oper) (i:Nat):Bool:=match ops[i]? with|some o=>isLight o.op|none=>false
def erl (ops:Array Oper) (i:Nat):Bool:=match ops[i]? with|some o=>isEarly o.op|none=>false
def slot (ops:Array Oper) (i:Nat):Nat:=((List.range i).filter (erl ops)).length
abbrev SC:=TM→Nat→CAL→TM→HP→HP→Nat→List Nat→(TM→HP→HP→Nat→R)→R
def mkT (l:List (OP × DS)):TM→TM→(TM→R)→R:=List.rec (motive:=fun _=>TM→TM→(TM→R)→R) (fun t0 _ k=>k t0) (fun p _ ih t0 t k=>p.2 (p.1 t) t0 fun t0=>ih t0 t k) l
def cLk (nt:Nat):List Nat→Bx (List (OP × DS))
 |[]=> .mk []
 |n::l=>match cOpd nt (.tmp n),cDst nt (some n),cLk nt l with| .mk o,.mk d,.mk l=> .mk ((o,d)::l)|_,_,_=> .no
def fBk (b:Blk) (k:Blk→R):R:=Blk.rec (motive:=fun _=>(Blk→R)→R) (fun k=>k .x) (fun k=>k .df) (fun a k=>k (.sp a)) (fun st pe g t k=>k (.lp st pe g t)) (fun ty n q z t k=>k (.c ty n q z t)) (fun kt et n l k=>k (.mp kt et n l)) (fun g ty l k=>k (.gv g ty l)) b k
def ifX (b:Blk) (r:R):R:=Blk.rec (motive:=fun _=>R→R) (fun r=>r) (fun _=> .bad 112) (fun _ _=> .bad 112) (fun _ _ _ _ _=> .bad 112) (fun _ _ _ _ _ _=> .bad 112) (fun _ _ _ _ _=> .bad 112) (fun _ _ _ _=> .bad 112) b r
def st0 (lk:List (OP × DS)) (f:OC):SC:=fun t0 _ cal t h e c df k=>mkT lk t0 t fun t'=>f cal t' h c df fun _ h c _=>k t h e c
def st1 (lk:List (OP × DS)) (f:OC) (o:OP) (d:DS):SC:=fun t0 _ cal t h e c df k=>mkT lk t0 t fun t'=>f cal t' h c df fun t1 h c _=>d (o t1) t fun t=>k t h e c
def stR (lk:List (OP × DS)) (f:OC) (o:OP):SC:=fun t0 _ cal t h e c df k=>mkT lk t0 t fun t'=>f cal t' h c df fun t1 _ _ _=>ifT (veq (o t1) (o t)) (k t h e c) (.bad 111)
def stQ (lk:List (OP × DS)) (f:OC):SC:=fun t0 _ cal t h e c df k=>mkT lk t0 t fun t'=>f cal t' h c df fun _ _ _ _=>k t h e c
def gN:TM→R→R:=fun _ r=>r
def gG (g:OP) (w:Bool):TM→R→R:=fun t r=>asW (g t) (.bad 128) fun b=>Bool.rec (motive:=fun _=>R) (Bool.rec (motive:=fun _=>R) r (.bad 128) w) (Bool.rec (motive:=fun _=>R) (.bad 128) r w) b
def gdOf (nt:Nat) (ops:Array Oper) (o:Oper):Bx (TM→R→R):=match o.guard with
 |none=> .mk gN
 |some (j,w)=>match(ops[j]?).bind (·.dst)with
  |some t=>(match cOpd nt (.tmp t)with| .mk g=> .mk (gG g w)| .no=> .no)
  |none=> .no
def stN (gd:TM→R→R) (j:Nat) (lk:List (OP × DS)) (f:OC) (o:OP) (d:DS):SC:=fun t0 c0 cal t h e c df k=>fN (Nat.add c0 j) fun id=>ifX (hget h id) (mkT lk t0 t fun t'=>gd t' (f cal t' h id df fun t1 h1 _ _=>fBk (hget h1 id) fun b=>hset b e id fun e=>d (o t1) t fun t=>k t h e c))
def stE (j:Nat):SC:=fun _ c0 _ t h e c _ k=>ifX (hget h (Nat.add c0 j)) (k t h e c)
def stT (j:Nat):SC:=fun _ c0 _ t h e c _ k=>fN (Nat.add c0 j) fun id=>ifX (hget h id) (fBk (hget e id) fun b=>hset b h id fun h=>k t h e c)
def idS:SC:=fun _ _ _ t h e c _ k=>k t h e c
def sqS (a b:SC):SC:=fun t0 c0 cal t h e c df k=>a t0 c0 cal t h e c df fun t h e c=>b t0 c0 cal t h e c df k
def rsv (n:Nat):HP→Nat→(HP→Nat→R)→R:=Nat.rec (motive:=fun _=>HP→Nat→(HP→Nat→R)→R) (fun h c k=>k h c) (fun _ ih h c k=>newK .x h c fun h c=>ih h c k) n
def drC (n:Nat) (s:SC):CC:=fun cal t h c df kn _=>rsv n h c fun h' c'=>s t c cal t h' h0 c' df fun t h _ c=>kn t h c df
def cSt (P:Program) (tt:TT) (nt:Nat) (ops:Array Oper) (i:Nat):Bx SC:=match ops[i]? with
 |none=> .no
 |some o=>match okS o.op,cLk nt (own ops i o),cGO P tt nt ops o with
  |true,.mk lk,.mk f=>(match o.dst with
   |none=> .mk (st0 lk f)
   |some n=>match cOpd nt (.tmp n),cDst nt (some n)with| .mk x,.mk d=> .mk (st1 lk f x d)|_,_=> .no)
  |_,_,_=> .no
def cRe (P:Program) (tt:TT) (nt:Nat) (ops:Array Oper) (i:Nat):Bx SC:=match ops[i]? with
 |none=> .no
 |some o=>match cLk nt (own ops i o),cGO P tt nt ops o with
  | .mk lk,.mk f=>(match o.dst with
   |none=> .mk (stQ lk f)
   |some n=>match cOpd nt (.tmp n)with| .mk x=> .mk (stR lk f x)| .no=> .no)
  |_,_=> .no
def cNw (P:Program) (tt:TT) (nt:Nat) (ops:Array Oper) (i:Nat):Bx SC:=match ops[i]? with
 |none=> .no
 |some o=>match cLk nt (own ops i o),cOp P tt nt o,o.dst,gdOf nt ops o with
  | .mk lk,.mk f,some n,.mk gd=>(match cOpd nt (.tmp n),cDst nt (some n)with| .mk x,.mk d=> .mk (stN gd (slot ops i) lk f x d)|_,_=> .no)
  |_,_,_,_=> .no
def cAll (g:Nat→Bx SC):List Nat→Bx SC
 |[]=> .mk idS
 |i::l=>match g i,cAll g l with| .mk a,.mk b=> .mk (sqS a b)|_,_=> .no
def sqB (a b:Bx SC):Bx SC:=match a,b with| .mk a,.mk b=> .mk (sqS a b)|_,_=> .no
def ixs (ops:Array Oper) (p:Nat→Bool):List Nat:=(List.range ops.size).filter p
def rdB (pr:List (List Nat)) (l:List Nat) (i:Nat):Bool:=l.all fun a=> !elm a (pr.getD i [])
def nonA (ops:Array Oper) (i:Nat):Bool:=lgt ops i||erl ops i
def stp (P:Program) (tt:TT) (nt:Nat) (ops:Array Oper) (i:Nat):Bx SC:=bif lgt ops i then cSt P tt nt ops i else cNw P tt nt ops i
def rec' (P:Program) (tt:TT) (nt:Nat) (ops:Array Oper) (i:Nat):Bx SC:=bif lgt ops i then cRe P tt nt ops i else .mk (stE (slot ops i))
def stA (ops:Array Oper) (i:Nat):Bx SC:=.mk (stT (slot ops i))
def segs (P:Program) (tt:TT) (nt:Nat) (ops:Array Oper) (pr:List (List Nat)):List Nat→List Nat→Bx SC
 |[],ad=>cAll (stA ops) (ixs ops fun i=>erl ops i&& !elm i ad)
 |a::l,ad=>sqB (cAll (stA ops) (ixs ops fun i=>erl ops i&&elm i (pr.getD a [])&& !elm i ad)) (sqB (cSt P tt nt ops a)
   (sqB (cAll (rec' P tt nt ops) (ixs ops fun i=>nonA ops i&&rdB pr (a::l) i&& !elm i (pr.getD a [])))
   (sqB (cAll (stp P tt nt ops) (ixs ops fun i=>nonA ops i&&rdB pr l i&& !rdB pr (a::l) i)) (segs P tt nt ops pr l (pr.getD a [])))))
def chain (pr:List (List Nat)):List Nat→Bool
 |[]=>true
 |a::l=>(l.all fun b=>elm a (pr.getD b []))&&chain pr l
inductive Row where
 |mk (i:Nat) (d l a p:List Nat)
def rowOf (ops:Array Oper) (pr:List (List Nat)) (i:Nat):Row:=match ops[i]? with
 |some o=> .mk i o.dst.toList (looks ops o) (aft ops i) (pr.getD i [])
 |none=> .mk i [] [] [] []
def fRw {β:Type} (r:Row) (k:Row→β):β:=Row.rec (motive:=fun _=>(Row→β)→β) (fun i d l a p k=>fN i fun i=>fL d fun d=>fL l fun l=>fL a fun a=>fL p fun p=>k (.mk i d l a p)) r k
def fRs {β:Type} (l:List Row):(List Row→β)→β:=List.rec (motive:=fun _=>(List Row→β)→β) (fun k=>k []) (fun r _ ih k=>fRw r fun r=>ih fun l=>k (r::l)) l
def fLL {β:Type} (l:List (List Nat)):(List (List Nat)→β)→β:=List.rec (motive:=fun _=>(List (List Nat)→β)→β) (fun k=>k []) (fun r _ ih k=>fL r fun r=>ih fun l=>k (r::l)) l
def okP:Row→Row→Bool
 | .mk i d l a _,.mk j d' _ _ p'=>d'.all fun n=>Nat.beq i j||(!elm n d&&(!elm n l||elm j a||elm i p'))
def okD:Row→Bool
 | .mk i _ _ a _=>a.all fun j=>Nat.blt j i
def chk (rs:List Row):Bool:=rs.all fun x=>okD x&&rs.all (okP x)
def cDrawn (P:Program) (tt:TT) (nt:Nat) (ops:Array Oper):Bx CC:=fLL (pres ops ops.size) fun pr=>fL (ixs ops fun i=> !nonA ops i) fun an=>
 bif chain pr an&&fRs ((List.range ops.size).map (rowOf ops pr)) chk then(match sqB (cAll (stp P tt nt ops) (ixs ops fun i=>nonA ops i&&rdB pr an i)) (segs P tt nt ops pr an [])with| .mk s=> .mk (drC (slot ops ops.size) s)| .no=> .mk (badC 261))else .mk (badC 260)
def cC (P:Program) (tt:TT) (one:Bool) (g nt:Nat):Code→Bx CC
 | .skip=> .mk skC
 | .region _ ops d=>bif d then cDrawn P tt nt ops else bc 253 (cReg P tt nt ops ops.toList) fun f=> .mk (rgC f)
 | .seq a b=>bc 253 (cC P tt one g nt a) fun a=>bc 253 (cC P tt one g nt b) fun b=> .mk (sqC a b)
 | .cond c a b=>bc 254 (cOpd nt c) fun c=>bc 254 (cC P tt one g nt a) fun a=>bc 254 (cC P tt one g nt b) fun b=> .mk (cdC c a b)
 | .block i c=>bc 255 (cC P tt one g nt c) fun c=> .mk (bkC i c)
 | .loop c=>bc 255 (cC P tt one g nt c) fun c=> .mk (lpC 1000000 c)
 | .rangeFunc f ps a b=>bif one then(bc 256 (cOpd nt f) fun f=> .mk (rfC g f))else .mk (badC 258)
 | .exit i=> .mk (exC i)
 | .ret=> .mk rtC
 |_=> .mk (badC 257)
def findR:Code→List (Array Tmp × Code × Code)
 | .rangeFunc _ ps a b=>[(ps,a,b)]
 | .seq a b| .cond _ a b=>findR a++findR b
 | .block _ c| .loop c=>findR c
 |_=>[]
def cDs (nt:Nat):List Nat→Bx (List DS)
 |[]=> .mk []
 |t::l=>match cDst nt (some t),cDs nt l with| .mk d,.mk l=> .mk (d::l)|_,_=> .no
def cRL (P:Program) (tt:TT) (g nt:Nat) (c:Code):RL:=match findR c with
 |[(ps,a,b)]=>(match cDs nt ps.toList,cC P tt false g nt a,cC P tt false g nt b with| .mk ps,.mk a,.mk b=> .mk ps a b|_,_,_=> .no)
 |_=> .no
abbrev RS:=TM→HP→(V→R)→R
def rsN:RS:=fun _ _ k=>k (.tu [])
def rsT (f:TM→HP→(List V→R)→R):RS:=fun t h k=>f t h fun l=>k (.tu l)
def rvT (o:OP):RS:=fun t _ k=>fV (o t) k
def rvC (o:OP):RS:=fun t h k=>asP (o t) fun a r=>blk h a fun _ m _ z u=>ifT (Nat.blt r m) (fV (cell z u r) k) (.bad 82)
def rvA (n:Nat) (o:OP):RS:=fun t h k=>asP (o t) fun a r=>ldK h a r n fun l=>k (.ag l)
def rl0:TM→HP→(List V→R)→R:=fun _ _ k=>k []
def rlC (f:RS) (g:TM→HP→(List V→R)→R):TM→HP→(List V→R)→R:=fun t h k=>f t h fun v=>g t h fun l=>k (v::l)
def cRV (tt:TT) (nt:Nat):ResultVar→Bx RS
 | .tmp t=>(match cOpd nt (.tmp t)with| .mk o=> .mk (rvT o)| .no=> .no)
 | .cell a t=>(match cOpd nt (.tmp a),und tt t with| .mk o,some _=>(bif agg tt t then .mk (rvA (siz tt t) o)else .mk (rvC o))|_,_=> .no)
def cRVs (tt:TT) (nt:Nat):List ResultVar→Bx (TM→HP→(List V→R)→R)
 |[]=> .mk rl0
 |o::l=>match cRV tt nt o,cRVs tt nt l with| .mk f,.mk g=> .mk (rlC f g)|_,_=> .no
def cRs (tt:TT) (nt:Nat) (l:List ResultVar):Bx RS:=match l with
 |[]=> .mk rsN
 |[r]=>cRV tt nt r
 |l=>match cRVs tt nt l with| .mk f=> .mk (rsT f)| .no=> .no
def cF (P:Program) (tt:TT) (g:Nat) (fn:Func):CF:=match fn.body with
 |some b=>(match cRs tt fn.ntmps fn.results.toList,cC P tt (Nat.beq (findR b).length 1) g fn.ntmps b with
  | .mk rs,.mk f=>bif fn.name== "runtime.NumGoroutine" then .no else .fn rs f (cRL P tt g fn.ntmps b)
  |_,_=> .no)
 |none=> .no
def mapF (P:Program) (tt:TT) (l:List Func):Nat→List CF:=List.rec (motive:=fun _=>Nat→List CF) (fun _=>[]) (fun f _ ih i=>cF P tt i f::ih (Nat.add i 1)) l
def types (P:Program):TT:=bld none (P.types.toList.map some) 0 .e
def table (P:Program):T CF:=bld .no (mapF P (types P) P.funcs.toList 0) 0 .e
def slots:List DS:=[ds upd0 mod0,ds upd1 mod0,ds upd2 mod0,ds upd3 mod0,ds upd4 mod0,ds upd5 mod0,ds upd6 mod0,ds upd7 mod0,ds upd8 mod0,ds upd9 mod0,ds upd10 mod0,ds upd11 mod0,ds upd12 mod0,ds upd13 mod0,ds upd14 mod0,ds upd15 mod0,ds upd0 mod1,ds upd1 mod1,ds upd2 mod1,ds upd3 mod1,ds upd4 mod1,ds upd5 mod1,ds upd6 mod1,ds upd7 mod1,ds upd8 mod1,ds upd9 mod1,ds upd10 mod1,ds upd11 mod1,ds upd12 mod1,ds upd13 mod1,ds upd14 mod1,ds upd15 mod1,ds upd0 mod2,ds upd1 mod2,ds upd2 mod2,ds upd3 mod2,ds upd4 mod2,ds upd5 mod2,ds upd6 mod2,ds upd7 mod2,ds upd8 mod2,ds upd9 mod2,ds upd10 mod2,ds upd11 mod2,ds upd12 mod2,ds upd13 mod2,ds upd14 mod2,ds upd15 mod2,ds upd0 mod3,ds upd1 mod3,ds upd2 mod3,ds upd3 mod3,ds upd4 mod3,ds upd5 mod3,ds upd6 mod3,ds upd7 mod3,ds upd8 mod3,ds upd9 mod3,ds upd10 mod3,ds upd11 mod3,ds upd12 mod3,ds upd13 mod3,ds upd14 mod3,ds upd15 mod3,ds upd0 mod4,ds upd1 mod4,ds upd2 mod4,ds upd3 mod4,ds upd4 mod4,ds upd5 mod4,ds upd6 mod4,ds upd7 mod4,ds upd8 mod4,ds upd9 mod4,ds upd10 mod4,ds upd11 mod4,ds upd12 mod4,ds upd13 mod4,ds upd14 mod4,ds upd15 mod4,ds upd0 mod5,ds upd1 mod5,ds upd2 mod5,ds upd3 mod5,ds upd4 mod5,ds upd5 mod5,ds upd6 mod5,ds upd7 mod5,ds upd8 mod5,ds upd9 mod5,ds upd10 mod5,ds upd11 mod5,ds upd12 mod5,ds upd13 mod5,ds upd14 mod5,ds upd15 mod5,ds upd0 mod6,ds upd1 mod6,ds upd2 mod6,ds upd3 mod6,ds upd4 mod6,ds upd5 mod6,ds upd6 mod6,ds upd7 mod6,ds upd8 mod6,ds upd9 mod6,ds upd10 mod6,ds upd11 mod6,ds upd12 mod6,ds upd13 mod6,ds upd14 mod6,ds upd15 mod6,ds upd0 mod7,ds upd1 mod7,ds upd2 mod7,ds upd3 mod7,ds upd4 mod7,ds upd5 mod7,ds upd6 mod7,ds upd7 mod7,ds upd8 mod7,ds upd9 mod7,ds upd10 mod7,ds upd11 mod7,ds upd12 mod7,ds upd13 mod7,ds upd14 mod7,ds upd15 mod7,ds upd0 mod8,ds upd1 mod8,ds upd2 mod8,ds upd3 mod8,ds upd4 mod8,ds upd5 mod8,ds upd6 mod8,ds upd7 mod8,ds upd8 mod8,ds upd9 mod8,ds upd10 mod8,ds upd11 mod8,ds upd12 mod8,ds upd13 mod8,ds upd14 mod8,ds upd15 mod8,ds upd0 mod9,ds upd1 mod9,ds upd2 mod9,ds upd3 mod9,ds upd4 mod9,ds upd5 mod9,ds upd6 mod9,ds upd7 mod9,ds upd8 mod9,ds upd9 mod9,ds upd10 mod9,ds upd11 mod9,ds upd12 mod9,ds upd13 mod9,ds upd14 mod9,ds upd15 mod9,ds upd0 mod10,ds upd1 mod10,ds upd2 mod10,ds upd3 mod10,ds upd4 mod10,ds upd5 mod10,ds upd6 mod10,ds upd7 mod10,ds upd8 mod10,ds upd9 mod10,ds upd10 mod10,ds upd11 mod10,ds upd12 mod10,ds upd13 mod10,ds upd14 mod10,ds upd15 mod10,ds upd0 mod11,ds upd1 mod11,ds upd2 mod11,ds upd3 mod11,ds upd4 mod11,ds upd5 mod11,ds upd6 mod11,ds upd7 mod11,ds upd8 mod11,ds upd9 mod11,ds upd10 mod11,ds upd11 mod11,ds upd12 mod11,ds upd13 mod11,ds upd14 mod11,ds upd15 mod11,ds upd0 mod12,ds upd1 mod12,ds upd2 mod12,ds upd3 mod12,ds upd4 mod12,ds upd5 mod12,ds upd6 mod12,ds upd7 mod12,ds upd8 mod12,ds upd9 mod12,ds upd10 mod12,ds upd11 mod12,ds upd12 mod12,ds upd13 mod12,ds upd14 mod12,ds upd15 mod12,ds upd0 mod13,ds upd1 mod13,ds upd2 mod13,ds upd3 mod13,ds upd4 mod13,ds upd5 mod13,ds upd6 mod13,ds upd7 mod13,ds upd8 mod13,ds upd9 mod13,ds upd10 mod13,ds upd11 mod13,ds upd12 mod13,ds upd13 mod13,ds upd14 mod13,ds upd15 mod13,ds upd0 mod14,ds upd1 mod14,ds upd2 mod14,ds upd3 mod14,ds upd4 mod14,ds upd5 mod14,ds upd6 mod14,ds upd7 mod14,ds upd8 mod14,ds upd9 mod14,ds upd10 mod14,ds upd11 mod14,ds upd12 mod14,ds upd13 mod14,ds upd14 mod14,ds upd15 mod14,ds upd0 mod15,ds upd1 mod15,ds upd2 mod15,ds upd3 mod15,ds upd4 mod15,ds upd5 mod15,ds upd6 mod15,ds upd7 mod15,ds upd8 mod15,ds upd9 mod15,ds upd10 mod15,ds upd11 mod15,ds upd12 mod15,ds upd13 mod15,ds upd14 mod15,ds upd15 mod15]
def run (ft:T CF) (n f:Nat):R:=callN slots ft n (.f f [] []) [] h0 0 fun v h c=> .fin v h c
end
end Ev
end
section
namespace Ev
open Go Go.RowKit
set_option linter.unusedVariables false
set_option linter.unusedSimpArgs false
section
variable {α:Type}
theorem lt16 {n:Nat} (h:n<16):n=0∨n=1∨n=2∨n=3∨n=4∨n=5∨n=6∨n=7∨n=8∨n=9∨n=10∨n=11∨n=12∨n=13∨n=14∨n=15:=by omega
noncomputable def A6.s (t:A6 α) (n:Nat) (v:α):A6 α:=match t with
 | .mk a0 a1 a2 a3 a4 a5 a6 a7 a8 a9 a10 a11 a12 a13 a14 a15=>match n with
  |0=> .mk v a1 a2 a3 a4 a5 a6 a7 a8 a9 a10 a11 a12 a13 a14 a15
  |1=> .mk a0 v a2 a3 a4 a5 a6 a7 a8 a9 a10 a11 a12 a13 a14 a15
  |2=> .mk a0 a1 v a3 a4 a5 a6 a7 a8 a9 a10 a11 a12 a13 a14 a15
  |3=> .mk a0 a1 a2 v a4 a5 a6 a7 a8 a9 a10 a11 a12 a13 a14 a15
  |4=> .mk a0 a1 a2 a3 v a5 a6 a7 a8 a9 a10 a11 a12 a13 a14 a15
  |5=> .mk a0 a1 a2 a3 a4 v a6 a7 a8 a9 a10 a11 a12 a13 a14 a15
  |6=> .mk a0 a1 a2 a3 a4 a5 v a7 a8 a9 a10 a11 a12 a13 a14 a15
  |7=> .mk a0 a1 a2 a3 a4 a5 a6 v a8 a9 a10 a11 a12 a13 a14 a15
  |8=> .mk a0 a1 a2 a3 a4 a5 a6 a7 v a9 a10 a11 a12 a13 a14 a15
  |9=> .mk a0 a1 a2 a3 a4 a5 a6 a7 a8 v a10 a11 a12 a13 a14 a15
  |10=> .mk a0 a1 a2 a3 a4 a5 a6 a7 a8 a9 v a11 a12 a13 a14 a15
  |11=> .mk a0 a1 a2 a3 a4 a5 a6 a7 a8 a9 a10 v a12 a13 a14 a15
  |12=> .mk a0 a1 a2 a3 a4 a5 a6 a7 a8 a9 a10 a11 v a13 a14 a15
  |13=> .mk a0 a1 a2 a3 a4 a5 a6 a7 a8 a9 a10 a11 a12 v a14 a15
  |14=> .mk a0 a1 a2 a3 a4 a5 a6 a7 a8 a9 a10 a11 a12 a13 v a15
  |_=> .mk a0 a1 a2 a3 a4 a5 a6 a7 a8 a9 a10 a11 a12 a13 a14 v
theorem seN_s (t:A6 α) (v:α) {n m:Nat} (h:n<16) (k:m<16):seN m (t.s n v)=if m=n then v else seN m t:=by
 cases t
 rcases lt16 h with rfl|rfl|rfl|rfl|rfl|rfl|rfl|rfl|rfl|rfl|rfl|rfl|rfl|rfl|rfl|rfl<;>
 rcases lt16 k with rfl|rfl|rfl|rfl|rfl|rfl|rfl|rfl|rfl|rfl|rfl|rfl|rfl|rfl|rfl|rfl<;>rfl
theorem upN_s (t:A6 α) (v:α) (k:A6 α→R) {n:Nat} (h:n<16):upN n v t k=k (t.s n v):=by
 cases t
 rcases lt16 h with rfl|rfl|rfl|rfl|rfl|rfl|rfl|rfl|rfl|rfl|rfl|rfl|rfl|rfl|rfl|rfl<;>rfl
theorem moN_s (t:A6 α) (f:α→(α→R)→R) (k:A6 α→R) {n:Nat} (h:n<16):moN n f t k=f (seN n t) fun v=>k (t.s n v):=by
 cases t
 rcases lt16 h with rfl|rfl|rfl|rfl|rfl|rfl|rfl|rfl|rfl|rfl|rfl|rfl|rfl|rfl|rfl|rfl<;>rfl
theorem seN_all (v:α) {n:Nat} (h:n<16):seN n (all6 v)=v:=by
 rcases lt16 h with rfl|rfl|rfl|rfl|rfl|rfl|rfl|rfl|rfl|rfl|rfl|rfl|rfl|rfl|rfl|rfl<;>rfl
end
theorem m16_lt (n:Nat):m16 n<16:=Nat.mod_lt _ (by decide)
theorem m16_eq (n:Nat):m16 n=n%16:=rfl
noncomputable def hs (h:HP) (a:Nat) (b:Blk):HP:=
 h.s (m16 (a/4096)) ((seN (m16 (a/4096)) h).s (m16 (a/256)) ((seN (m16 (a/256)) (seN (m16 (a/4096)) h)).s (m16 (a/16)) ((seN (m16 (a/16)) (seN (m16 (a/256)) (seN (m16 (a/4096)) h))).s (m16 a) b)))
theorem hset_eq (b:Blk) (h:HP) (a:Nat) (k:HP→R):hset b h a k=k (hs h a b):=by
 unfold hset hs
 rw[moN_s _ _ _ (m16_lt _),moN_s _ _ _ (m16_lt _),moN_s _ _ _ (m16_lt _),upN_s _ _ _ (m16_lt _)]
 rfl
theorem hget_hs (b:Blk) (h:HP) {a c:Nat} (ha:a<65536) (hc:c<65536):hget (hs h a b) c=if c=a then b else hget h c:=by
 have e1:∀n:Nat,Nat.div n 4096=n/4096:=fun _=>rfl
 have e2:∀n:Nat,Nat.div n 256=n/256:=fun _=>rfl
 have e3:∀n:Nat,Nat.div n 16=n/16:=fun _=>rfl
 unfold hget hs
 simp only[e1,e2,e3]
 rw[seN_s _ _ (m16_lt _) (m16_lt _)]
 split
 · rename_i h1
   rw[seN_s _ _ (m16_lt _) (m16_lt _)]
   split
   · rename_i h2
     rw[seN_s _ _ (m16_lt _) (m16_lt _)]
     split
     · rename_i h3
       rw[seN_s _ _ (m16_lt _) (m16_lt _)]
       split
       · rename_i h4
         rw[if_pos (by simp only[m16_eq]at h1 h2 h3 h4;omega)]
       · rename_i h4
         rw[if_neg (by intro e;exact h4 (by rw[e]))]
         rw[h1,h2,h3]
     · rename_i h3
       rw[if_neg (by intro e;exact h3 (by rw[e]))]
       rw[h1,h2]
   · rename_i h2
     rw[if_neg (by intro e;exact h2 (by rw[e]))]
     rw[h1]
 · rename_i h1
   rw[if_neg (by intro e;exact h1 (by rw[e]))]
noncomputable def c3s (t:A6 (A6 (A6 V))) (o:Nat) (v:V):A6 (A6 (A6 V)):=
 t.s (m16 (o/256)) ((seN (m16 (o/256)) t).s (m16 (o/16)) ((seN (m16 (o/16)) (seN (m16 (o/256)) t)).s (m16 o) v))
theorem c3set_eq (v:V) (t:A6 (A6 (A6 V))) (o:Nat) (k:A6 (A6 (A6 V))→R):c3set v t o k=k (c3s t o v):=by
 unfold c3set c3s
 rw[moN_s _ _ _ (m16_lt _),moN_s _ _ _ (m16_lt _),upN_s _ _ _ (m16_lt _)]
 rfl
theorem c3get_c3s (v:V) (t:A6 (A6 (A6 V))) {a c:Nat} (ha:a<4096) (hc:c<4096):c3get (c3s t a v) c=if c=a then v else c3get t c:=by
 have e2:∀n:Nat,Nat.div n 256=n/256:=fun _=>rfl
 have e3:∀n:Nat,Nat.div n 16=n/16:=fun _=>rfl
 unfold c3get c3s
 simp only[e2,e3]
 rw[seN_s _ _ (m16_lt _) (m16_lt _)]
 split
 · rename_i h2
   rw[seN_s _ _ (m16_lt _) (m16_lt _)]
   split
   · rename_i h3
     rw[seN_s _ _ (m16_lt _) (m16_lt _)]
     split
     · rename_i h4
       rw[if_pos (by simp only[m16_eq]at h2 h3 h4;omega)]
     · rename_i h4
       rw[if_neg (by intro e;exact h4 (by rw[e]))]
       rw[h2,h3]
   · rename_i h3
     rw[if_neg (by intro e;exact h3 (by rw[e]))]
     rw[h2]
 · rename_i h2
   rw[if_neg (by intro e;exact h2 (by rw[e]))]
def Ce.cap:Ce→Nat
 | .b _=>4096
 | .s _=>16
noncomputable def Ce.set (c:Ce) (o:Nat) (v:V):Ce:=match c with
 | .b t=> .b (c3s t o v)
 | .s t=> .s (t.s o v)
theorem Ce.cap_set (c:Ce) (o:Nat) (v:V):(c.set o v).cap=c.cap:=by cases c<;>rfl
theorem cset_eq (v:V) (c:Ce) {o:Nat} (k:Ce→R) (h:o<c.cap):cset v c o k=k (c.set o v):=by
 cases c with
 |b t=>exact c3set_eq v t o _
 |s t=>exact upN_s t v _ h
theorem cget_set (v:V) (c:Ce) {a o:Nat} (ha:a<c.cap) (ho:o<c.cap):cget (c.set a v) o=if o=a then v else cget c o:=by
 cases c with
 |b t=>exact c3get_c3s v t ha ho
 |s t=>exact seN_s t v ha ho
theorem ceB_iff (n:Nat) (c:Ce):ceB n c=true↔n≤c.cap:=by
 cases c<;>simp[ceB,Ce.cap]
theorem cget_cb0 (o:Nat):cget (.b cb0) o=.u:=by
 show c3get cb0 o=.u
 unfold c3get cb0;rw[seN_all _ (m16_lt _),seN_all _ (m16_lt _),seN_all _ (m16_lt _)]
theorem cget_ce0 (n o:Nat) (h:o<(ce0 n).cap):cget (ce0 n) o=.u:=by
 unfold ce0 at*
 cases hb:Nat.ble n (nat_lit 16)with
 |true=>rw[hb]at h;exact seN_all _ h
 |false=>exact cget_cb0 o
noncomputable def tg (t:TM) (n:Nat):V:=seN (n%16) (seN (n/16) t)
noncomputable def ts (t:TM) (n:Nat) (v:V):TM:=t.s (n/16) ((seN (n/16) t).s (n%16) v)
theorem tg_ts (t:TM) (v:V) {n m:Nat} (hn:n<256) (hm:m<256):tg (ts t n v) m=if m=n then v else tg t m:=by
 unfold tg ts
 rw[seN_s _ _ (by omega) (by omega)]
 split
 · rename_i h1
   rw[seN_s _ _ (by omega) (by omega)]
   split
   · rename_i h2;rw[if_pos (by omega)]
   · rename_i h2;rw[if_neg (by intro e;exact h2 (by rw[e]))];rw[h1]
 · rename_i h1;rw[if_neg (by intro e;exact h1 (by rw[e]))]
theorem tg_t0 {n:Nat} (h:n<256):tg t0 n=.u:=by
 unfold tg t0;rw[seN_all _ (by omega),seN_all _ (by omega)]
theorem gOp_eq {n:Nat} (h:n<256) {o:OP} (ho:gOp (i6N (n/16)) (i6N (n%16))=.mk o) (t:TM):o t=tg t n:=by
 have h1:n/16<16:=by omega
 have h2:n%16<16:=by omega
 unfold tg
 generalize n/16=i at*;generalize n%16=j at*
 rcases lt16 h1 with rfl|rfl|rfl|rfl|rfl|rfl|rfl|rfl|rfl|rfl|rfl|rfl|rfl|rfl|rfl|rfl<;>
 rcases lt16 h2 with rfl|rfl|rfl|rfl|rfl|rfl|rfl|rfl|rfl|rfl|rfl|rfl|rfl|rfl|rfl|rfl<;>
 (cases ho;rfl)
theorem dOp_eq {n:Nat} (h:n<256) {d:DS} (hd:dOp (i6N (n/16)) (i6N (n%16))=.mk d) (v:V) (t:TM) (k:TM→R):d v t k=k (ts t n v):=by
 have h1:n/16<16:=by omega
 have h2:n%16<16:=by omega
 unfold ts
 generalize n/16=i at*;generalize n%16=j at*
 cases t
 rcases lt16 h1 with rfl|rfl|rfl|rfl|rfl|rfl|rfl|rfl|rfl|rfl|rfl|rfl|rfl|rfl|rfl|rfl<;>
 (rename_i b0 b1 b2 b3 b4 b5 b6 b7 b8 b9 b10 b11 b12 b13 b14 b15
  (first|cases b0|skip);cases b1;cases b2;cases b3;cases b4;cases b5;cases b6;cases b7;cases b8;cases b9;cases b10;cases b11;cases b12;cases b13;cases b14;cases b15
  rcases lt16 h2 with rfl|rfl|rfl|rfl|rfl|rfl|rfl|rfl|rfl|rfl|rfl|rfl|rfl|rfl|rfl|rfl<;>
  (cases hd;rfl))
end Ev
end
section
namespace Ev
open Go Go.RowKit
set_option linter.unusedVariables false
set_option linter.unusedSimpArgs false
section
variable {v:V} {w:V} {h:HP} {c:Nat}
theorem asB_fin {q:Bool→R} (H:asB v q=.fin w h c):∃x,v=.b x∧q x=.fin w h c:=by cases v<;>first|exact⟨_,rfl,H⟩|cases H
theorem asS_fin {q:List Nat→R} (H:asS v q=.fin w h c):∃x,v=.s x∧q x=.fin w h c:=by cases v<;>first|exact⟨_,rfl,H⟩|cases H
theorem asP_fin {q:Nat→Nat→R} (H:asP v q=.fin w h c):∃a o,v=.p a o∧q a o=.fin w h c:=by cases v<;>first|exact⟨_,_,rfl,H⟩|cases H
theorem asPG_fin {q1 q2:Nat→Nat→R} (H:asPG v q1 q2=.fin w h c):(∃a o,v=.p a o∧q1 a o=.fin w h c)∨∃g o,v=.gp g o∧q2 g o=.fin w h c:=by cases v<;>first|exact .inl ⟨_,_,rfl,H⟩|exact .inr ⟨_,_,rfl,H⟩|cases H
theorem asA_fin {q:List V→R} (H:asA v q=.fin w h c):∃x,v=.ag x∧q x=.fin w h c:=by cases v<;>first|exact⟨_,rfl,H⟩|cases H
theorem asT_fin {q:List V→R} (H:asT v q=.fin w h c):∃x,v=.tu x∧q x=.fin w h c:=by cases v<;>first|exact⟨_,rfl,H⟩|cases H
theorem asN_fin {q:Nat→Nat→R} (H:asN v q=.fin w h c):∃k m,v=.i k m∧q k m=.fin w h c:=by cases v<;>first|exact⟨_,_,rfl,H⟩|cases H
def int:V→Option (Nat × Int)
 | .i k m=>some (k,.ofNat m)
 | .j k m=>some (k,.negSucc m)
 |_=>none
theorem asI_fin {q:Nat→Int→R} (H:asI v q=.fin w h c):∃k n,int v=some (k,n)∧q k n=.fin w h c:=by cases v<;>first|exact⟨_,_,rfl,H⟩|cases H
theorem asL_fin {z:R} {q:Nat→Nat→Nat→Nat→Bool→R} (H:asL v z q=.fin w h c):(v=.ns∧z=.fin w h c)∨∃a o n e s,v=.sl a o n e s∧q a o n e s=.fin w h c:=by
 cases v<;>first|exact .inl ⟨rfl,H⟩|exact .inr ⟨_,_,_,_,_,rfl,H⟩|cases H
theorem asQ_fin {z:R} {q:Nat→Nat→R} (H:asQ v z q=.fin w h c):(v=.np∧z=.fin w h c)∨∃a o,v=.p a o∧q a o=.fin w h c:=by
 cases v<;>first|exact .inl ⟨rfl,H⟩|exact .inr ⟨_,_,rfl,H⟩|cases H
theorem asW_fin {z:R} {q:Bool→R} (H:asW v z q=.fin w h c):(∃x,v=.b x∧q x=.fin w h c)∨((∀x,v≠ .b x)∧z=.fin w h c):=by
 cases v<;>first|exact .inl ⟨_,rfl,H⟩|exact Or.inr (And.intro (fun _ e=>V.noConfusion e) H)
theorem fV_eq {q:V→R}:fV v q=q v:=by unfold fV ifT;cases isV v<;>rfl
theorem fN_eq {β:Type} {m:Nat} {q:Nat→β}:fN m q=q m:=by cases m<;>rfl
theorem fB_eq {b:Bool} {q:Bool→R}:fB b q=q b:=by cases b<;>rfl
theorem fL_eq {β:Type}:∀{l:List Nat} {q:List Nat→β},fL l q=q l
 |[],_=>rfl
 |m::l,q=>by
  show fN m (fun m=>fL l fun l=>q (m::l))=_
  rw[fN_eq,fL_eq]
theorem ifT_fin {b:Bool} {x:R} {n:Nat} (H:ifT b x (.bad n)=.fin w h c):b=true∧x=.fin w h c:=by
 cases b
 · cases H
 · exact⟨rfl,H⟩
theorem ifT_true {β:Type} {b:Bool} {x y:β} (h:b=true):ifT b x y=x:=by subst h;rfl
theorem ifT_false {β:Type} {b:Bool} {x y:β} (h:b=false):ifT b x y=y:=by subst h;rfl
theorem vI_eq {k:Nat} {n:Int} {q:V→R}:vI k n q=q (match n with| .ofNat m=> .i k m| .negSucc m=> .j k m):=by
 cases n with
 |ofNat m=>exact fN_eq
 |negSucc m=>exact fN_eq
end
theorem len_eq {α:Type}:∀l:List α,len l=l.length
 |[]=>rfl
 |_::l=>by show Nat.add (len l) 1=_;rw[len_eq l];rfl
theorem app_eq {α:Type}:∀a b:List α,app a b=a++b
 |[],_=>rfl
 |x::a,b=>by show x::app a b=_;rw[app_eq a b];rfl
theorem nth_eq:∀(l:List V) (i:Nat),nth l i=l.getD i .u
 |[],_=>by simp[nth]
 |v::l,0=>rfl
 |v::l,i+1=>by show nth l i=_;rw[nth_eq l i];simp
theorem drop_eq {α:Type}:∀(o:Nat) (l:List α),drop o l=l.drop o
 |0,_=>rfl
 |o+1,[]=>rfl
 |o+1,_::l=>by show drop o l=_;rw[drop_eq o l];rfl
theorem take_eq {α:Type}:∀(o:Nat) (l:List α),take o l=l.take o
 |0,_=>by show[]=_;simp
 |o+1,[]=>rfl
 |o+1,v::l=>by show v::take o l=_;rw[take_eq o l];rfl
abbrev Rho:=Nat→Option (Nat × Nat)
def str (l:List Nat):ByteArray:=⟨(l.map UInt8.ofNat).toArray⟩
mutual
def den (ρ:Rho):V→Option Value
 | .u=>some undef
 | .np=>some (.pointer none)
 | .ns=>some (.slice none 0 0)
 | .nf=>some .nilFunc
 | .y l=>(ρ l).map fun p=> .func (.yield p.1) #[] #[]
 | .gp g o=>some (.pointer (some ⟨g,o,none⟩))
 | .mp a=>(ρ a).map fun p=> .map (some p.1)
 | .f g x y=>(denL ρ x).bind fun x=>(denL ρ y).map fun y=> .func (.func g) x.toArray y.toArray
 | .tu l=>(denL ρ l).map fun l=> .tuple l.toArray
 | .ag l=>(denL ρ l).map fun l=> .agg l.toArray
 | .s l=>some (.string (str l))
 | .sl a o n c q=>(ρ a).map fun p=> .slice (some ⟨p.1,o,none⟩) n (if q then p.2-c else c)
 | .j k m=>some (.int (kd k) (.negSucc m))
 | .b x=>some (.bool x)
 | .p a o=>(ρ a).map fun p=> .pointer (some ⟨p.1,o,none⟩)
 | .i k m=>some (.int (kd k) (.ofNat m))
def denL (ρ:Rho):List V→Option (List Value)
 |[]=>some []
 |v::l=>(den ρ v).bind fun x=>(denL ρ l).map fun l=>x::l
end
def Le (ρ ρ':Rho):Prop:=∀k p,ρ k=some p→ρ' k=some p
theorem Le.refl (ρ:Rho):Le ρ ρ:=fun _ _ h=>h
theorem Le.trans {a b c:Rho} (h:Le a b) (k:Le b c):Le a c:=fun _ _ e=>k _ _ (h _ _ e)
theorem denL_nil (ρ:Rho):denL ρ []=some []:=by simp[denL]
theorem denL_cons {ρ:Rho} {v:V} {l:List V} {r:List Value}:denL ρ (v::l)=some r↔∃x xs,r=x::xs∧den ρ v=some x∧denL ρ l=some xs:=by
 simp only[denL,Option.bind_eq_some_iff,Option.map_eq_some_iff]
 constructor
 · rintro ⟨x,h1,xs,h2,rfl⟩;exact⟨x,xs,rfl,h1,h2⟩
 · rintro ⟨x,xs,rfl,h1,h2⟩;exact⟨x,h1,xs,h2,rfl⟩
mutual
theorem den_mono {ρ ρ':Rho} (h:Le ρ ρ'):∀(v:V) {x:Value},den ρ v=some x→den ρ' v=some x
 | .u,_,e=>by simpa[den]using e
 | .np,_,e=>by simpa[den]using e
 | .ns,_,e=>by simpa[den]using e
 | .nf,_,e=>by simpa[den]using e
 | .gp _ _,_,e=>by simpa[den]using e
 | .s _,_,e=>by simpa[den]using e
 | .j _ _,_,e=>by simpa[den]using e
 | .b _,_,e=>by simpa[den]using e
 | .i _ _,_,e=>by simpa[den]using e
 | .y l,x,e=>by
  simp only[den,Option.map_eq_some_iff]at*
  obtain⟨p,hp,rfl⟩:=e;exact⟨p,h _ _ hp,rfl⟩
 | .p a o,x,e=>by
  simp only[den,Option.map_eq_some_iff]at*
  obtain⟨p,hp,rfl⟩:=e;exact⟨p,h _ _ hp,rfl⟩
 | .mp a,x,e=>by
  simp only[den,Option.map_eq_some_iff]at*
  obtain⟨p,hp,rfl⟩:=e;exact⟨p,h _ _ hp,rfl⟩
 | .sl a o n c q,x,e=>by
  simp only[den,Option.map_eq_some_iff]at*
  obtain⟨p,hp,rfl⟩:=e;exact⟨p,h _ _ hp,rfl⟩
 | .f g a b,x,e=>by
  simp only[den,Option.bind_eq_some_iff,Option.map_eq_some_iff]at*
  obtain⟨xs,h1,ys,h2,rfl⟩:=e;exact⟨xs,denL_mono h a h1,ys,denL_mono h b h2,rfl⟩
 | .tu l,x,e=>by
  simp only[den,Option.map_eq_some_iff]at*
  obtain⟨xs,h1,rfl⟩:=e;exact⟨xs,denL_mono h l h1,rfl⟩
 | .ag l,x,e=>by
  simp only[den,Option.map_eq_some_iff]at*
  obtain⟨xs,h1,rfl⟩:=e;exact⟨xs,denL_mono h l h1,rfl⟩
theorem denL_mono {ρ ρ':Rho} (h:Le ρ ρ'):∀(l:List V) {x:List Value},denL ρ l=some x→denL ρ' l=some x
 |[],_,e=>by simpa[denL]using e
 |v::l,r,e=>by
  obtain⟨x,xs,rfl,h1,h2⟩:=denL_cons.1 e
  exact denL_cons.2 ⟨x,xs,rfl,den_mono h v h1,denL_mono h l h2⟩
end
theorem denL_length {ρ:Rho}:∀{l:List V} {r:List Value},denL ρ l=some r→r.length=l.length
 |[],_,e=>by simp[denL]at e;subst e;rfl
 |v::l,r,e=>by
  obtain⟨x,xs,rfl,h1,h2⟩:=denL_cons.1 e
  simp[denL_length h2]
theorem denL_get {ρ:Rho}:∀{l:List V} {r:List Value} {i:Nat} {v:V},denL ρ l=some r→l[i]?=some v→∃x,r[i]?=some x∧den ρ v=some x
 |[],_,i,v,e,h=>by simp at h
 |w::l,r,0,v,e,h=>by
  obtain⟨x,xs,rfl,h1,h2⟩:=denL_cons.1 e
  simp at h;subst h;exact⟨x,rfl,h1⟩
 |w::l,r,i+1,v,e,h=>by
  obtain⟨x,xs,rfl,h1,h2⟩:=denL_cons.1 e
  simp at h;simpa using denL_get h2 h
theorem denL_append {ρ:Rho}:∀{a b:List V} {x y:List Value},denL ρ a=some x→denL ρ b=some y→denL ρ (a++b)=some (x++y)
 |[],b,x,y,h,k=>by simp[denL]at h;subst h;simpa using k
 |v::a,b,r,y,h,k=>by
  obtain⟨x,xs,rfl,h1,h2⟩:=denL_cons.1 h
  exact denL_cons.2 ⟨x,xs++y,rfl,h1,denL_append h2 k⟩
theorem denL_take {ρ:Rho}:∀(n:Nat) {a:List V} {x:List Value},denL ρ a=some x→denL ρ (a.take n)=some (x.take n)
 |0,_,_,_=>by simp[denL]
 |n+1,[],_,h=>by simp[denL]at h;subst h;simp[denL]
 |n+1,v::a,r,h=>by
  obtain⟨x,xs,rfl,h1,h2⟩:=denL_cons.1 h
  exact denL_cons.2 ⟨x,xs.take n,rfl,h1,denL_take n h2⟩
theorem denL_drop {ρ:Rho}:∀(n:Nat) {a:List V} {x:List Value},denL ρ a=some x→denL ρ (a.drop n)=some (x.drop n)
 |0,_,_,h=>by simpa using h
 |n+1,[],_,h=>by simp[denL]at h;subst h;simp[denL]
 |n+1,v::a,r,h=>by
  obtain⟨x,xs,rfl,h1,h2⟩:=denL_cons.1 h
  simpa using denL_drop n h2
theorem den_one {ρ:Rho} {v:V} {x:Value} (h:is1 v=true) (e:den ρ v=some x):x.oneCell'=true:=by
 cases v<;>first
  |exact Bool.noConfusion h
  |(simp only[den,Option.map_eq_some_iff,Option.bind_eq_some_iff,Option.some.injEq]at e
    first
     |(subst e;rfl)
     |(obtain⟨_,_,rfl⟩:=e;rfl)
     |(obtain⟨_,_,_,_,rfl⟩:=e;rfl))
theorem cl_den {ρ:Rho} {v:V} {x:Value} (e:den ρ v=some x):denL ρ (cl v)=some x.cells.toList:=by
 cases v with
 |ag l=>
  simp only[den,Option.map_eq_some_iff]at e
  obtain⟨r,hr,rfl⟩:=e
  exact(by simpa[Value.cells]using hr:denL ρ l=some (Value.agg r.toArray).cells.toList)
 |_=>
  have h1:x.cells=#[x]:=by
   simp only[den,Option.map_eq_some_iff,Option.bind_eq_some_iff,Option.some.injEq]at e
   first
    |(subst e;rfl)
    |(obtain⟨_,_,rfl⟩:=e;rfl)
    |(obtain⟨_,_,_,_,rfl⟩:=e;rfl)
  rw[h1]
  exact denL_cons.2 ⟨x,[],rfl,e,denL_nil ρ⟩
end Ev
end
section
namespace Ev
open Go Go.RowKit
set_option linter.unusedVariables false
set_option linter.unusedSimpArgs false
structure Spx where
 In:Nat→AS→World→Prop
 Ft:Nat→World→Nat→Prop
 lt:∀{A s w k},In A s w→Ft A w k→k<w.heap.size
 mv:∀{A s w w'},In A s w→(∀k,Ft A w k→w'.heap[k]?=w.heap[k]?)→In A s w'∧∀k,Ft A w' k↔Ft A w k
def TR (ρ:Rho) (nt:Nat) (t:TM) (m:Array Value):Prop:=nt≤m.size∧∀i,i<nt→i<256→∃v,m[i]?=some v∧den ρ (tg t i)=some v
theorem TR.mono {ρ ρ':Rho} {nt:Nat} {t:TM} {m:Array Value} (h:TR ρ nt t m) (k:Le ρ ρ'):TR ρ' nt t m:=
 ⟨h.1,fun i hi hj=>let⟨v,a,b⟩:=h.2 i hi hj;⟨v,a,den_mono k _ b⟩⟩
theorem TR.put {ρ:Rho} {nt:Nat} {t:TM} {m:Array Value} (h:TR ρ nt t m) {n:Nat} (h1:n<nt) (h2:n<256) {v:V} {x:Value} (hv:den ρ v=some x):TR ρ nt (ts t n v) (m.setIfInBounds n x):=by
 refine⟨by simpa using h.1,fun i hi hj=>?_⟩
 rw[tg_ts t v h2 hj]
 by_cases hin:i=n
 · subst hin
   exact⟨x,by have:=h.1;rw[Array.getElem?_setIfInBounds_self_of_lt (by omega)],by simpa using hv⟩
 · obtain⟨y,a,b⟩:=h.2 i hi hj
   exact⟨y,by rw[Array.getElem?_setIfInBounds_ne (Ne.symm hin)];exact a,by rw[if_neg hin];exact b⟩
def stt (n:Nat):LoopState:=match n with|0=> .ready|1=> .busy|2=> .done|_=> .exhausted
def pnd (e:Ex):Option Code:=match e with| .nx=>none| .ex i=>some (.exit i)| .rt=>some .ret
structure Base where
 w:World
 out:Nat→Prop
 lt:∀k,out k→k<w.heap.size
 no:Nat→Prop
structure Bel (b:Base) (w:World):Prop where
 os:w.os=b.w.os
 tape:w.tape=b.w.tape
 output:w.output=b.w.output
 size:b.w.heap.size≤w.heap.size
 block:∀k,b.out k→w.heap[k]?=b.w.heap[k]?
theorem Bel.below {b:Base} {w w':World} (h:Bel b w) (k:Below w.heap.size w w'):Bel b w':=
 ⟨k.os.trans h.os,k.tape.trans h.tape,k.output.trans h.output,Nat.le_trans h.size k.size,fun j hj=>(k.block j (Nat.lt_of_lt_of_le (b.lt j hj) h.size)).trans (h.block j hj)⟩
theorem Bel.alloc {b:Base} {w:World} (h:Bel b w) (o:Obj):Bel b (w.alloc o):=h.below ((Below.refl _ _).alloc (Nat.le_refl _) o)
section
variable (X:Spx) (P:Program)
def BR (ρ:Rho) (k:Nat) (w:World):Blk→Prop
 | .x=>True
 | .df=>∃p,ρ k=some p∧w.heap[p.1]?=some (.deferred (some []))
 | .sp a=>∃p,ρ k=some p∧X.In p.1 a w
 | .lp st pe g t=>∃p L fn bd,ρ k=some p∧w.heap[p.1]?=some (.loop L)∧L.state=stt st∧L.pending=pnd pe∧P.funcs[g]?=some fn∧fn.body=some bd∧findR bd=[(L.params,L.assign,L.body)]∧TR ρ fn.ntmps t L.tmps
 | .c ty n q z t=>∃p cs,ρ k=some p∧w.heap[p.1]?=some (.cells cs ty (0,0))∧n≤t.cap∧n≤cs.size∧(q=0→cs.size=n)∧(q≠0→cs.size=p.2*q)∧∀i,i<n→∃v,cs[i]?=some v∧den ρ (cell z t i)=some v
 | .gv g ty l=>∃p,ρ k=some p∧p.1=g∧w.heap[p.1]?=some (.cells (l.map fun m=>Value.int .i64 (Int.ofNat m)).toArray ty (0,0))
 | .mp kt et n l=>∃p D,ρ k=some p∧World.ownsMap (H:=Unit) w P kt (plainElem P et) p.1 n D∧P.underlying kt=some (.int .i64)∧P.underlying et=some .bool∧∀m,(Lit.int .i64 m).wf=true→D.atKey (.int .i64 m) (.lit (.bool false))=.lit (.bool (mlk l m))
def One (w0:Base) (ρ:Rho) (h:HP) (w:World):Prop:=∀k a A,hget h k=.sp a→ρ k=some A→(∀j,X.Ft A.1 w j→¬w0.out j)∧∀k' a' A',k'≠k→hget h k'=.sp a'→ρ k'=some A'→∀j,X.Ft A.1 w j→¬X.Ft A'.1 w j
structure HR (w0:Base) (ρ:Rho) (h:HP) (c:Nat) (w:World):Prop where
 bel:Bel w0 w
 le:c≤65536
 dom:∀k p,ρ k=some p→k<c∧(hget h k≠ .x→¬w0.out p.1)∧p.1<w.heap.size
 inj:∀k k' p p',ρ k=some p→ρ k'=some p'→hget h k≠ .x→hget h k'≠ .x→p.1=p'.1→k=k'
 blk:∀k,k<c→BR X P ρ k w (hget h k)
 sep:∀k a A,hget h k=.sp a→ρ k=some A→∀k' p',hget h k'≠ .x→k'≠k→ρ k'=some p'→¬X.Ft A.1 w p'.1
 one:One X w0 ρ h w
 noc:∀k,w0.no k→k<c∧ρ k=none
end
section
variable {X:Spx} {P:Program} {w0:Base} {w w':World} {ρ ρ':Rho} {h:HP} {c:Nat}
theorem One.of {w0':Base} {h':HP} (H:One X w0 ρ h w) (hold:∀k a A,hget h' k=.sp a→ρ' k=some A→hget h k=.sp a∧ρ k=some A∧∀j,X.Ft A.1 w' j→X.Ft A.1 w j)
 (ho:∀j,w0'.out j→w0.out j∨∀k a A,hget h' k=.sp a→ρ' k=some A→¬X.Ft A.1 w' j):One X w0' ρ' h' w':=by
 intro k a A hk hA
 obtain⟨g1,g2,g3⟩:=hold k a A hk hA
 obtain⟨q1,q2⟩:=H k a A g1 g2
 refine⟨fun j hj hout=>?_,fun k' a' A' hne hk' hA' j hj hj'=>?_⟩
 · rcases ho j hout with h1|h1
   · exact q1 j (g3 j hj) h1
   · exact h1 k a A hk hA hj
 · obtain⟨r1,r2,r3⟩:=hold k' a' A' hk' hA'
   exact q2 k' a' A' hne r1 r2 j (g3 j hj) (r3 j hj')
theorem ownsMap_heap {P:Program} {kt:TypeId} {R:Value→Option (DataW Unit × List MemPlace)} {w w':World} {b n:Nat} {D:DataW Unit} (h:w.ownsMap P kt R b n D) (e:w'.heap[b]?=w.heap[b]?):w'.ownsMap P kt R b n D:=by
 obtain⟨es,clock,hb,F⟩:=h
 exact⟨es,clock,e.trans hb,F⟩
theorem BR.mono {k:Nat} {b:Blk} (H:BR X P ρ k w b) (hl:Le ρ ρ') (hw:∀p,ρ k=some p→w'.heap[p.1]?=w.heap[p.1]?) (hs:∀a p,b=.sp a→ρ k=some p→X.In p.1 a w→X.In p.1 a w'):BR X P ρ' k w' b:=by
 cases b with
 |x=>trivial
 |df=>obtain⟨p,h1,h2⟩:=H;exact⟨p,hl _ _ h1,(hw p h1).trans h2⟩
 |sp a=>obtain⟨p,h1,h2⟩:=H;exact⟨p,hl _ _ h1,hs a p rfl h1 h2⟩
 |gv g ty l=>obtain⟨p,h1,h2,h3⟩:=H;exact⟨p,hl _ _ h1,h2,(hw p h1).trans h3⟩
 |lp st pe g t=>
  obtain⟨p,L,fn,bd,h1,h2,h3,h4,h5,h6,h7,h8⟩:=H
  exact⟨p,L,fn,bd,hl _ _ h1,(hw p h1).trans h2,h3,h4,h5,h6,h7,h8.mono hl⟩
 |c ty n q z t=>
  obtain⟨p,cs,h1,h2,h3,h4,h5,h6,h7⟩:=H
  exact⟨p,cs,hl _ _ h1,(hw p h1).trans h2,h3,h4,h5,h6,fun i hi=>let⟨v,a,b⟩:=h7 i hi;⟨v,a,den_mono hl _ b⟩⟩
 |mp kt et n l=>
  obtain⟨p,D,h1,h2,h3⟩:=H
  exact⟨p,D,hl _ _ h1,ownsMap_heap h2 (hw p h1),h3⟩
def up (ρ:Rho) (c:Nat) (p:Nat × Nat):Rho:=fun k=>if k=c then some p else ρ k
theorem up_self (ρ:Rho) (c:Nat) (p:Nat × Nat):up ρ c p c=some p:=by simp[up]
theorem HR.le_up (H:HR X P w0 ρ h c w) (p:Nat × Nat):Le ρ (up ρ c p):=fun k q hk=>by
 have:=(H.dom k q hk).1
 simp only[up,if_neg (show k≠c by omega)];exact hk
theorem HR.noc_up (H:HR X P w0 ρ h c w) (p:Nat × Nat):∀k,w0.no k→k<c+1∧up ρ c p k=none:=fun k hk=>by
 have:=H.noc k hk
 refine⟨by omega,?_⟩
 unfold up
 rw[if_neg (by omega)];exact this.2
theorem HR.new (H:HR X P w0 ρ h c w) {b:Blk} (hc:c≤65535) (o:Obj) (q:Nat) (hb:b≠ .x) (hs:∀a,b≠ .sp a) (hB:BR X P (up ρ c (w.heap.size,q)) c (w.alloc o) b):
 HR X P w0 (up ρ c (w.heap.size,q)) (Ev.hs h c b) (c+1) (w.alloc o):=by
 have hg:∀k,k<c+1→hget (Ev.hs h c b) k=if k=c then b else hget h k:=fun k hk=>hget_hs b h (by omega) (by omega)
 have hw:∀k,k<w.heap.size→(w.alloc o).heap[k]?=w.heap[k]?:=fun k hk=>Below.heap_alloc w o k hk
 have hdom:∀k p,up ρ c (w.heap.size,q) k=some p→(k=c∧p=(w.heap.size,q))∨(k≠c∧ρ k=some p):=fun k p hk=>by
  unfold up at hk
  split at hk
  · exact .inl ⟨by assumption,(Option.some.inj hk).symm⟩
  · exact .inr ⟨by assumption,hk⟩
 have hFt:∀k a A,k<c→hget h k=.sp a→ρ k=some A→X.In A.1 a (w.alloc o)∧∀j,X.Ft A.1 (w.alloc o) j↔X.Ft A.1 w j:=fun k a A hk hb hA=>by
  have:=H.blk k hk;rw[hb]at this
  obtain⟨p,h1,h2⟩:=this
  rw[h1]at hA;cases hA
  exact X.mv h2 fun j hj=>hw j (X.lt h2 hj)
 refine⟨H.bel.alloc o,by omega,fun k p hk=>?_,fun k k' p p' hk hk' hx hx' e=>?_,fun k hk=>?_,fun k a A hb' hA k' p' hx' hne hk'=>?_,H.one.of (fun k a A hk hA=>?_) (fun j hj=> .inl hj),H.noc_up _⟩
 · rcases hdom k p hk with⟨rfl,rfl⟩|⟨h1,h2⟩
   · exact⟨by omega,fun _ hh=>absurd (w0.lt _ hh) (by have:=H.bel.size;omega),by simp⟩
   · obtain⟨a,b,d⟩:=H.dom k p h2
     exact⟨by omega,fun hx=>b (by rw[hg k (by omega),if_neg h1]at hx;exact hx),by simp;omega⟩
 · rcases hdom k p hk with⟨rfl,rfl⟩|⟨h1,h2⟩<;>rcases hdom k' p' hk' with⟨rfl,rfl⟩|⟨h3,h4⟩
   · rfl
   · have:=(H.dom _ _ h4).2.2;simp only at e;omega
   · have:=(H.dom _ _ h2).2.2;simp only at e;omega
   · have d1:=(H.dom _ _ h2).1
     have d2:=(H.dom _ _ h4).1
     rw[hg k (by omega),if_neg h1]at hx
     rw[hg k' (by omega),if_neg h3]at hx'
     exact H.inj k k' p p' h2 h4 hx hx' e
 · rw[hg k hk]
   split
   · rename_i e;subst e;exact hB
   · rename_i hne
     have hk':k<c:=by omega
     refine(H.blk k hk').mono (H.le_up _) (fun p hp=>hw _ (H.dom _ _ hp).2.2) fun a p ha hp hI=>?_
     exact(X.mv hI fun j hj=>hw j (X.lt hI hj)).1
 · have hkc:k<c+1:=by
    rcases hdom k A hA with⟨rfl,_⟩|⟨_,h2⟩
    · omega
    · have:=(H.dom _ _ h2).1;omega
   rw[hg k hkc]at hb'
   split at hb'
   · exact absurd hb' (hs a)
   · rename_i hkne
     rcases hdom k A hA with⟨e,_⟩|⟨_,hA2⟩
     · exact absurd e hkne
     · have hlt:=(H.dom _ _ hA2).1
       rw[(hFt k a A hlt hb' hA2).2]
       rcases hdom k' p' hk' with⟨rfl,rfl⟩|⟨h3,h4⟩
       · intro hf
         have hI:=H.blk k hlt;rw[hb']at hI
         obtain⟨p,h1,h2⟩:=hI
         rw[h1]at hA2;cases hA2
         have:=X.lt h2 hf
         simp only at this;omega
       · have hlt':=(H.dom _ _ h4).1
         rw[hg k' (by omega),if_neg h3]at hx'
         exact H.sep k a A hb' hA2 k' p' hx' hne h4
 · rcases hdom k A hA with⟨e,_⟩|⟨hkc,hA2⟩
   · rw[e,hg c (by omega),if_pos rfl]at hk;exact absurd hk (hs a)
   · have hlt:=(H.dom _ _ hA2).1
     rw[hg k (by omega),if_neg hkc]at hk
     exact⟨hk,hA2,fun j=>((hFt k a A hlt hk hA2).2 j).1⟩
theorem HR.set (H:HR X P w0 ρ h c w) {a:Nat} {p:Nat × Nat} {b:Blk} (ha:ρ a=some p) (hx:hget h a≠ .x) (hsp:∀s,hget h a≠ .sp s) (hs:∀s,b≠ .sp s)
 (hsz:w'.heap.size=w.heap.size) (hos:w'.os=w.os) (hta:w'.tape=w.tape) (hou:w'.output=w.output) (hw:∀k,k≠p.1→w'.heap[k]?=w.heap[k]?) (hB:BR X P ρ a w' b):HR X P w0 ρ (Ev.hs h a b) c w':=by
 have hac:=(H.dom a p ha).1
 have hle:=H.le
 have hg:∀k,k<c→hget (Ev.hs h a b) k=if k=a then b else hget h k:=fun k hk=>hget_hs b h (by omega) (by omega)
 have hFt:∀k s A,k<c→hget h k=.sp s→ρ k=some A→X.In A.1 s w'∧∀j,X.Ft A.1 w' j↔X.Ft A.1 w j:=fun k s A hk hb hA=>by
  have:=H.blk k hk;rw[hb]at this
  obtain⟨q,h1,h2⟩:=this
  have hq:=h1
  rw[hA]at h1;cases h1
  refine X.mv h2 fun j hj=>hw j fun e=>?_
  exact H.sep k s A hb hA a p hx (fun e2=>hsp s (e2▸hb)) ha (e▸hj)
 refine⟨⟨hos.trans H.bel.os,hta.trans H.bel.tape,hou.trans H.bel.output,by rw[hsz];exact H.bel.size,fun k hk=>(hw k fun e=>(H.dom a p ha).2.1 hx (e▸hk)).trans (H.bel.block k hk)⟩,H.le,fun k q hk=>⟨(H.dom k q hk).1,fun hx'=>(by
  rw[hg k (H.dom k q hk).1]at hx'
  split at hx'
  · rename_i e;subst e;exact(H.dom _ _ hk).2.1 hx
  · exact(H.dom _ _ hk).2.1 hx'),by rw[hsz];exact(H.dom k q hk).2.2⟩,fun k k' q q' hk hk' hx1 hx2 e=>?_,fun k hk=>?_,fun k s A hb' hA k' p' hx' hne hk'=>?_,H.one.of (fun k s A hk hA=>?_) (fun j hj=> .inl hj),H.noc⟩
 · have d1:=(H.dom _ _ hk).1
   have d2:=(H.dom _ _ hk').1
   refine H.inj k k' q q' hk hk' ?_ ?_ e
   · rw[hg k d1]at hx1;split at hx1
     · rename_i e;rw[e];exact hx
     · exact hx1
   · rw[hg k' d2]at hx2;split at hx2
     · rename_i e;rw[e];exact hx
     · exact hx2
 · rw[hg k hk]
   split
   · rename_i e;subst e;exact hB
   · rename_i hne
     by_cases hkx:hget h k=.x
     · rw[hkx];trivial
     · refine(H.blk k hk).mono (Le.refl _) (fun q hq=>hw _ fun e=>hne (H.inj k a q p hq ha hkx hx e)) fun s q hsq hq hI=>?_
       exact(hFt k s q hk hsq hq).1
 · have d1:=(H.dom _ _ hA).1
   have d2:=(H.dom _ _ hk').1
   rw[hg k d1]at hb'
   split at hb'
   · exact absurd hb' (hs s)
   · rename_i hka
     rw[(hFt k s A d1 hb' hA).2]
     refine H.sep k s A hb' hA k' p' ?_ hne hk'
     rw[hg k' d2]at hx';split at hx'
     · rename_i e;rw[e];exact hx
     · exact hx'
 · have hlt:=(H.dom _ _ hA).1
   rw[hg k hlt]at hk
   split at hk
   · exact absurd hk (hs s)
   · exact⟨hk,hA,fun j=>((hFt k s A hlt hk hA).2 j).1⟩
theorem HR.drop (H:HR X P w0 ρ h c w) {a:Nat} (ha:a<c):HR X P w0 ρ (hs h a .x) c w:=by
 have hle:=H.le
 have hg:∀k,k<c→hget (Ev.hs h a .x) k=if k=a then .x else hget h k:=fun k hk=>hget_hs .x h (by omega) (by omega)
 have hgx:∀k p,ρ k=some p→hget (Ev.hs h a .x) k≠ .x→hget h k≠ .x:=fun k p hk hx=>by
  rw[hg k (H.dom _ _ hk).1]at hx;split at hx
  · exact absurd rfl hx
  · exact hx
 refine⟨H.bel,H.le,fun k p hk=>⟨(H.dom k p hk).1,fun hx=>(H.dom k p hk).2.1 (hgx k p hk hx),(H.dom k p hk).2.2⟩,fun k k' q q' hk hk' hx1 hx2 e=>H.inj k k' q q' hk hk' (hgx _ _ hk hx1) (hgx _ _ hk' hx2) e,fun k hk=>?_,fun k s A hb' hA k' p' hx' hne hk'=>?_,H.one.of (fun k s A hk hA=>?_) (fun j hj=> .inl hj),H.noc⟩
 · rw[hg k hk];split
   · trivial
   · exact H.blk k hk
 · rw[hg k (H.dom _ _ hA).1]at hb';split at hb'
   · cases hb'
   · exact H.sep k s A hb' hA k' p' (hgx _ _ hk' hx') hne hk'
 · rw[hg k (H.dom _ _ hA).1]at hk
   split at hk
   · cases hk
   · exact⟨hk,hA,fun _ hj=>hj⟩
theorem HR.same (H:HR X P w0 ρ h c w) (hh:w'.heap=w.heap) (hos:w'.os=w.os) (hta:w'.tape=w.tape) (hou:w'.output=w.output):HR X P w0 ρ h c w':=by
 have hIn:∀A s,X.In A s w→X.In A s w'∧∀j,X.Ft A w' j↔X.Ft A w j:=fun A s hI=>X.mv hI fun j _=>by rw[hh]
 refine⟨⟨hos.trans H.bel.os,hta.trans H.bel.tape,hou.trans H.bel.output,by rw[hh];exact H.bel.size,fun k hk=>by rw[hh];exact H.bel.block k hk⟩,H.le,fun k q hk=>by rw[hh];exact H.dom k q hk,H.inj,fun k hk=>?_,fun k s A hb' hA k' p' hx' hne hk'=>?_,H.one.of (fun k s A hk hA=>⟨hk,hA,fun j hj=>?_⟩) (fun j hj=> .inl hj),H.noc⟩
 · exact(H.blk k hk).mono (Le.refl _) (fun _ _=>by rw[hh]) fun a p _ _ hI=>(hIn _ _ hI).1
 · have hI:=H.blk k (H.dom _ _ hA).1;rw[hb']at hI
   obtain⟨p,h1,h2⟩:=hI
   have hA2:=hA
   rw[h1]at hA2;cases hA2
   rw[(hIn _ _ h2).2]
   exact H.sep k s _ hb' hA k' p' hx' hne hk'
 · have hI:=H.blk k (H.dom _ _ hA).1;rw[hk]at hI
   obtain⟨p,h1,h2⟩:=hI
   rw[h1]at hA;cases hA
   exact((hIn _ _ h2).2 j).1 hj
theorem blk_fin {a:Nat} {k:Nat→Nat→Nat→Z→Ce→R} {v:V} {h':HP} {c':Nat} (e:blk h a k=.fin v h' c'):∃ty n q z t,hget h a=.c ty n q z t∧k ty n q z t=.fin v h' c':=by
 unfold blk at e
 cases hb:hget h a with
 |c ty n q z t=>rw[hb]at e;exact⟨ty,n,q,z,t,rfl,e⟩
 |_=>rw[hb]at e;cases e
theorem HR.row (H:HR X P w0 ρ h c w) {a ty n q:Nat} {z:Z} {t:Ce} {p:Nat × Nat} (ha:ρ a=some p) (e:hget h a=.c ty n q z t):
 ∃cs,w.heap[p.1]?=some (.cells cs ty (0,0))∧n≤t.cap∧n≤cs.size∧(q=0→cs.size=n)∧(q≠0→cs.size=p.2*q)∧∀i,i<n→∃v,cs[i]?=some v∧den ρ (cell z t i)=some v:=by
 have:=H.blk a (H.dom _ _ ha).1;rw[e]at this
 obtain⟨p',cs,h1,h2⟩:=this
 rw[h1]at ha;cases ha
 exact⟨cs,h2⟩
end
end Ev
end
section
namespace Ev
open Go Go.RowKit
set_option linter.unusedVariables false
set_option linter.unusedSimpArgs false
theorem cellsK_eq {z:Z} {t:Ce}:∀{n o:Nat} {k:List V→R},cellsK z t n o k=k ((List.range n).map fun j=>cell z t (o+j))
 |0,o,k=>rfl
 |n+1,o,k=>by
  show fV (cell z t o) (fun v=>fN (Nat.add o 1) fun o=>cellsK z t n o fun l=>k (v::l))=_
  rw[fV_eq,fN_eq,cellsK_eq]
  congr 1
  rw[List.range_succ_eq_map]
  simp only[List.map_cons,List.map_map,Nat.add_zero,List.cons.injEq,true_and]
  refine List.map_congr_left fun j _=>?_
  show cell z t (o+1+j)=cell z t (o+(j+1))
  congr 1;omega
noncomputable def Ce.sets (t:Ce) (o:Nat):List V→Ce
 |[]=>t
 |v::l=>(t.set o v).sets (o+1) l
theorem Ce.cap_sets:∀(l:List V) (t:Ce) (o:Nat),(t.sets o l).cap=t.cap
 |[],_,_=>rfl
 |v::l,t,o=>(Ce.cap_sets l _ _).trans (Ce.cap_set t o v)
theorem cget_sets:∀(l:List V) (t:Ce) (o i:Nat),o+l.length≤t.cap→i<t.cap→cget (t.sets o l) i=if o≤i∧i<o+l.length then l.getD (i-o) .u else cget t i
 |[],t,o,i,_,_=>by rw[if_neg (by simp)];rfl
 |v::l,t,o,i,h,hi=>by
  simp only[List.length_cons]at h
  show cget ((t.set o v).sets (o+1) l) i=_
  rw[cget_sets l _ _ _ (by rw[Ce.cap_set];omega) (by rw[Ce.cap_set];omega)]
  by_cases h1:i=o
  · subst h1
    rw[if_neg (by omega),cget_set v t (by omega) hi,if_pos rfl,if_pos (by simp)]
    simp
  · by_cases h2:o≤i∧i<o+(v::l).length
    · simp only[List.length_cons]at h2
      rw[if_pos (by omega),if_pos (by simp only[List.length_cons];omega),show i-o=(i-(o+1))+1 by omega]
      simp
    · simp only[List.length_cons]at h2
      rw[if_neg (by omega),if_neg (by simp only[List.length_cons];omega),cget_set v t (by omega) hi,if_neg h1]
theorem upN_ex {α:Type} (v:α) (t:A6 α) (n:Nat):∃t',∀k,upN n v t k=k t':=by
 cases t
 by_cases h:n<16
 · exact⟨_,fun k=>upN_s _ v k h⟩
 · obtain⟨m,rfl⟩:∃m,n=m+15:=⟨n-15,by omega⟩
   exact⟨_,fun k=>rfl⟩
theorem cset_ex (v:V) (t:Ce) (o:Nat):∃t':Ce,t'.cap=t.cap∧(o<t.cap→t'=t.set o v)∧∀k,cset v t o k=k t':=by
 by_cases h:o<t.cap
 · exact⟨t.set o v,Ce.cap_set _ _ _,fun _=>rfl,fun k=>cset_eq v t k h⟩
 · cases t with
   |b u=>exact⟨.b (c3s u o v),rfl,fun hh=>absurd hh h,fun k=>c3set_eq v u o _⟩
   |s u=>
    obtain⟨u',hu⟩:=upN_ex v u o
    exact⟨.s u',rfl,fun hh=>absurd hh h,fun k=>hu _⟩
theorem stK_fin:∀{l:List V} {t:Ce} {o:Nat} {k:Ce→R} {v:V} {h:HP} {c:Nat},stK l t o k=.fin v h c→∃t',k t'=.fin v h c∧(∀v∈l,is1 v=true)∧t'.cap=t.cap∧(o+l.length≤t.cap→t'=t.sets o l)
 |[],t,o,k,v,h,c,H=>⟨t,H,by simp,rfl,fun _=>rfl⟩
 |x::l,t,o,k,v,h,c,H=>by
  have H':ifT (is1 x) (cset x t o fun t=>fN (Nat.add o 1) fun o=>stK l t o k) (.bad 12)=.fin v h c:=H
  obtain⟨h1,h2⟩:=ifT_fin H'
  obtain⟨t1,g1,g2,g3⟩:=cset_ex x t o
  rw[g3,fN_eq]at h2
  obtain⟨t',h3,h4,h6,h5⟩:=stK_fin (l:=l) h2
  refine⟨t',h3,by simpa[h1]using h4,h6.trans g1,fun hc=>?_⟩
  simp only[List.length_cons]at hc
  rw[h5 (by rw[g1];show o+1+l.length≤_;omega),g2 (by omega)]
  rfl
def CR (ρ:Rho) (z:Z) (t:Ce) (n:Nat) (cs:Array Value):Prop:=∀i,i<n→∃v,cs[i]?=some v∧den ρ (cell z t i)=some v
theorem CR.mono {ρ ρ':Rho} {z:Z} {t:Ce} {n:Nat} {cs:Array Value} (h:CR ρ z t n cs) (k:Le ρ ρ'):CR ρ' z t n cs:=fun i hi=>let⟨v,a,b⟩:=h i hi;⟨v,a,den_mono k _ b⟩
theorem orD_is1 {v:V} {z:Z} {o:Nat} (h:is1 v=true):orD v z o=v:=by cases v<;>first|rfl|exact Bool.noConfusion h
theorem CR.sets {ρ:Rho} {z:Z} {t:Ce} {n m o:Nat} {cs cs':Array Value} {l:List V} {vs:List Value} (h:CR ρ z t n cs) (hl:denL ρ l=some vs) (h1:∀v∈l,is1 v=true) (hcap:o+l.length≤t.cap) (hm:m≤t.cap)
 (hs:∀i,i<m→if o≤i∧i<o+l.length then cs'[i]?=vs[i-o]? else i<n∧cs'[i]?=cs[i]?):CR ρ z (t.sets o l) m cs':=by
 intro i hi
 have e:=cget_sets l t o i hcap (by omega)
 have hsi:=hs i hi
 unfold cell
 rw[e]
 split at hsi
 · rename_i hin
   rw[if_pos hin]
   have hlt:i-o<l.length:=by omega
   have hget:l[i-o]?=some l[i-o]:=List.getElem?_eq_getElem hlt
   obtain⟨x,hx,hd⟩:=denL_get hl hget
   have hD:l.getD (i-o) V.u=l[i-o]:=by simp[List.getD,hget]
   rw[hD,orD_is1 (h1 _ (List.getElem_mem _))]
   exact⟨x,hsi.trans hx,hd⟩
 · rename_i hout
   rw[if_neg hout]
   obtain⟨v,a,b⟩:=h i hsi.1
   exact⟨v,hsi.2.trans a,b⟩
theorem CR.load {ρ:Rho} {z:Z} {t:Ce} {n:Nat} {cs:Array Value} (h:CR ρ z t n cs):∀(k o:Nat),o+k≤n→denL ρ ((List.range k).map fun j=>cell z t (o+j))=some ((cs.toList.drop o).take k)
 |0,_,_=>by simp[denL]
 |k+1,o,hk=>by
  obtain⟨v,a,b⟩:=h o (by omega)
  have ih:=CR.load h k (o+1) (by omega)
  rw[List.range_succ_eq_map]
  simp only[List.map_cons,List.map_map,Nat.add_zero]
  have hsz:o<cs.toList.length:=by
   have:=(Array.getElem?_eq_some_iff.1 a).1;simpa using this
  have hd:cs.toList.drop o=v::cs.toList.drop (o+1):=by
   rw[List.drop_eq_getElem_cons hsz]
   congr 1
   have:=(Array.getElem?_eq_some_iff.1 a).2
   simpa using this
  rw[hd]
  rw[List.take_succ_cons]
  refine denL_cons.2 ⟨v,_,rfl,b,?_⟩
  have e:(List.map ((fun j=>cell z t (o+j))∘Nat.succ) (List.range k))=(List.range k).map fun j=>cell z t (o+1+j):=
   List.map_congr_left fun j _=>by show cell z t (o+(j+1))=_;congr 1;omega
  rw[e];exact ih
section
variable {X:Spx} {P:Program} {w0:Base} {w:World} {ρ:Rho} {h:HP} {c:Nat}
theorem HR.cell (H:HR X P w0 ρ h c w) {a ty n q o:Nat} {z:Z} {t:Ce} {p:Nat × Nat} (ha:ρ a=some p) (e:hget h a=.c ty n q z t) (ho:o<n):∃v,w.cell? ⟨p.1,o,none⟩=some v∧den ρ (Ev.cell z t o)=some v:=by
 obtain⟨cs,h1,_,_,_,_,h2⟩:=H.row ha e
 obtain⟨v,h3,h4⟩:=h2 o ho
 exact⟨v,by simp[World.cell?,h1,h3],h4⟩
theorem nthG_get:∀{l:List Nat} {o:Nat},o<l.length→l[o]?=some (nthG l o)
 |[],_,h=>absurd h (by simp)
 |_::_,0,_=>rfl
 |m::l,o+1,h=>by
  show l[o]?=some (nthG l o)
  exact nthG_get (by simpa using h)
theorem gvK_fin {h:HP} {c g o:Nat} {k:Nat→R} {v:V} {h':HP} {c':Nat} (e:gvK h c g o k=.fin v h' c'):∃ty l,hget h (nat_lit 0)=.gv g ty l∧(0<c∧o<l.length)∧k (nthG l o)=.fin v h' c':=by
 unfold gvK at e
 cases hb:hget h (nat_lit 0)with
 |gv g' ty l=>
  rw[hb]at e
  obtain⟨e1,e2⟩:=ifT_fin e
  obtain⟨e2,e3⟩:=ifT_fin e2
  obtain⟨e3,e4⟩:=ifT_fin e3
  rw[fN_eq]at e4
  have:=Nat.eq_of_beq_eq_true e1
  subst this
  exact⟨ty,l,rfl,⟨Nat.le_of_ble_eq_true e2,(by have:=Nat.le_of_ble_eq_true e3;rw[len_eq]at this;omega)⟩,e4⟩
 |_=>rw[hb]at e;cases e
theorem HR.gcell (H:HR X P w0 ρ h c w) {g ty o:Nat} {l:List Nat} (e:hget h (nat_lit 0)=.gv g ty l) (ho:0<c∧o<l.length):w.cell? ⟨g,o,none⟩=some (.int .i64 (Int.ofNat (nthG l o))):=by
 have h1:=H.blk 0 ho.1
 rw[show hget h 0=.gv g ty l from e]at h1
 obtain⟨p,h2,rfl,h4⟩:=h1
 have h5:=nthG_get ho.2
 simp[World.cell?,h4,h5]
theorem addr_add (g o n:Nat):(⟨g,o,none⟩:Addr).add n=⟨g,o+n,none⟩:=by unfold Addr.add;split<;>simp_all
theorem HR.cells (H:HR X P w0 ρ h c w) {a ty n q o k:Nat} {z:Z} {t:Ce} {p:Nat × Nat} (ha:ρ a=some p) (e:hget h a=.c ty n q z t) (ho:o+k≤n):
 ∃vs:List Value,vs.length=k∧denL ρ ((List.range k).map fun j=>Ev.cell z t (o+j))=some vs∧(∀j v,vs[j]?=some v→w.cell? ((⟨p.1,o,none⟩:Addr).add j)=some v)∧(loadCells ⟨p.1,o,none⟩ k).run P w=.ok vs.toArray w:=by
 obtain⟨cs,h1,_,h0,_,_,h2⟩:=H.row ha e
 have hl:=CR.load (ρ:=ρ) h2 k o ho
 have hlen:((cs.toList.drop o).take k).length=k:=by simp;omega
 have hc:∀j v,((cs.toList.drop o).take k)[j]?=some v→w.cell? ((⟨p.1,o,none⟩:Addr).add j)=some v:=by
  intro j v hj
  rw[addr_add]
  simp only[List.getElem?_take,List.getElem?_drop]at hj
  split at hj
  · simp[World.cell?,h1];simpa using hj
  · cases hj
 refine⟨_,hlen,hl,hc,?_⟩
 have:=run_loadCells_list (P:=P) w ⟨p.1,o,none⟩ ((cs.toList.drop o).take k) hc
 rw[hlen]at this
 exact this
theorem ldK_fin {a o n:Nat} {k:List V→R} {v:V} {h':HP} {c':Nat} (e:ldK h a o n k=.fin v h' c'):∃ty m q z t,hget h a=.c ty m q z t∧o+n≤m∧k ((List.range n).map fun j=>Ev.cell z t (o+j))=.fin v h' c':=by
 obtain⟨ty,m,q,z,t,h1,h2⟩:=blk_fin e
 obtain⟨h3,h4⟩:=ifT_fin h2
 rw[cellsK_eq]at h4
 exact⟨ty,m,q,z,t,h1,Nat.le_of_ble_eq_true h3,h4⟩
theorem HR.store (H:HR X P w0 ρ h c w) {a ty n q o:Nat} {z:Z} {t:Ce} {p:Nat × Nat} (ha:ρ a=some p) (e:hget h a=.c ty n q z t) {l:List V} {vs:List Value} (hl:denL ρ l=some vs) (h1:∀v∈l,is1 v=true) (ho:o+l.length≤n):
 ∃w',(storeCells ⟨p.1,o,none⟩ vs).run P w=.ok () w'∧HR X P w0 ρ (Ev.hs h a (.c ty n q z (t.sets o l))) c w':=by
 obtain⟨cs,k1,k2,k3,k4,k5,k6⟩:=H.row ha e
 have hlen:=denL_length hl
 have h1':∀x∈vs,x.oneCell'=true:=by
  intro x hx
  obtain⟨i,hi⟩:=List.mem_iff_getElem?.1 hx
  have hil:i<l.length:=by rw[←hlen];exact(List.getElem?_eq_some_iff.1 hi).1
  obtain⟨y,hy,hd⟩:=denL_get hl (List.getElem?_eq_getElem hil)
  rw[hi]at hy;cases hy
  exact den_one (h1 _ (List.getElem_mem _)) hd
 refine⟨_,run_storeCells_at P p.1 o ty vs 0 cs w k1 (by omega) h1',?_⟩
 refine H.set ha (by rw[e];exact Blk.noConfusion) (fun s hs=>by rw[e]at hs;cases hs) (fun s hs=>by cases hs) ?_ rfl rfl rfl (fun k hk=>?_) ?_
 · simp[World.setRow]
 · simp only[World.setRow];rw[Array.getElem?_modify,if_neg (Ne.symm hk)]
 · refine⟨p,_,ha,setRow_heap w p.1 cs _ ty _ k1,by rw[Ce.cap_sets];exact k2,by simp;omega,fun hq=>by simp;have:=k4 hq;omega,fun hq=>by simp;have:=k5 hq;omega,?_⟩
   refine CR.sets (cs:=cs) k6 hl h1 (by omega) k2 fun i hi=>?_
   have hio:i<cs.size:=by omega
   split
   · rename_i hin
     simp only[Nat.add_zero,List.getElem?_toArray]
     rw[List.append_assoc,List.getElem?_append_right (by simp;omega)]
     simp only[List.length_take,Array.length_toList]
     rw[Nat.min_eq_left (by omega),List.getElem?_append_left (by omega)]
   · rename_i hout
     refine⟨hi,?_⟩
     simp only[Nat.add_zero,List.getElem?_toArray]
     by_cases hlt:i<o
     · rw[List.append_assoc,List.getElem?_append_left (by simp;omega),List.getElem?_take]
       simp[hlt]
     · rw[List.getElem?_append_right (by simp;omega)]
       simp only[List.length_append,List.length_take,Array.length_toList,List.getElem?_drop]
       rw[Nat.min_eq_left (by omega)]
       simp only[Array.getElem?_toList]
       congr 1;omega
end
end Ev
end
section
namespace Ev
open Go Go.RowKit
set_option linter.unusedVariables false
set_option linter.unusedSimpArgs false
section
variable {α:Type} {d x:α}
theorem get_n (l:T α) (v:α) (r:T α) (i:Nat):T.get d (.n l v r) i=match i with|0=>v|i+1=>if i%2=0 then T.get d l (i/2)else T.get d r (i/2):=by
 cases i with
 |zero=>rfl
 |succ i=>
  show Bool.rec (motive:=fun _=>α) (T.get d r (i/2)) (T.get d l (i/2)) (Nat.beq (i%2) 0)=_
  by_cases h:i%2=0
  · simp only;rw[if_pos h];rw[show Nat.beq (i%2) 0=true by rw[h];rfl]
  · simp only;rw[if_neg h];rw[show Nat.beq (i%2) 0=false by rw[show i%2=1 by omega];rfl]
theorem oneK_succ (f i:Nat) (k:T α→T α):T.oneK d x (f+1) i k=match i with|0=>k (.n .e x .e)|i+1=>if i%2=0 then T.oneK d x f (i/2) fun l=>k (.n l d .e)else T.oneK d x f (i/2) fun r=>k (.n .e d r):=by
 cases i with
 |zero=>rfl
 |succ i=>
  show Bool.rec (motive:=fun _=>T α) (T.oneK d x f (i/2) fun r=>k (.n .e d r)) (T.oneK d x f (i/2) fun l=>k (.n l d .e)) (Nat.beq (i%2) 0)=_
  by_cases h:i%2=0
  · simp only;rw[if_pos h];rw[show Nat.beq (i%2) 0=true by rw[h];rfl]
  · simp only;rw[if_neg h];rw[show Nat.beq (i%2) 0=false by rw[show i%2=1 by omega];rfl]
theorem setK_n (l:T α) (v:α) (r:T α) (i:Nat) (k:T α→T α):T.setK d x (.n l v r) i k=match i with|0=>k (.n l x r)|i+1=>if i%2=0 then T.setK d x l (i/2) fun l=>k (.n l v r)else T.setK d x r (i/2) fun r=>k (.n l v r):=by
 cases i with
 |zero=>rfl
 |succ i=>
  show Bool.rec (motive:=fun _=>T α) (T.setK d x r (i/2) fun r=>k (.n l v r)) (T.setK d x l (i/2) fun l=>k (.n l v r)) (Nat.beq (i%2) 0)=_
  by_cases h:i%2=0
  · simp only;rw[if_pos h];rw[show Nat.beq (i%2) 0=true by rw[h];rfl]
  · simp only;rw[if_neg h];rw[show Nat.beq (i%2) 0=false by rw[show i%2=1 by omega];rfl]
theorem oneK_k:∀(f i:Nat) (k:T α→T α),T.oneK d x f i k=k (T.oneK d x f i fun t=>t)
 |0,_,_=>rfl
 |f+1,i,k=>by
  rw[oneK_succ,oneK_succ]
  cases i with
  |zero=>rfl
  |succ i=>
   simp only
   split
   · rw[oneK_k f _ (fun l=>k (.n l d .e)),oneK_k f _ (fun l=>T.n l d .e)]
   · rw[oneK_k f _ (fun r=>k (.n .e d r)),oneK_k f _ (fun r=>T.n .e d r)]
theorem setK_k:∀(t:T α) (i:Nat) (k:T α→T α),T.setK d x t i k=k (T.setK d x t i fun t=>t)
 | .e,i,k=>oneK_k (i+1) i k
 | .n l v r,i,k=>by
  rw[setK_n,setK_n]
  cases i with
  |zero=>rfl
  |succ i=>
   simp only
   split
   · rw[setK_k l _ (fun l=>k (.n l v r)),setK_k l _ (fun l=>T.n l v r)]
   · rw[setK_k r _ (fun r=>k (.n l v r)),setK_k r _ (fun r=>T.n l v r)]
theorem get_oneK:∀(f i j:Nat),i<f→T.get d (T.oneK d x f i fun t=>t) j=if j=i then x else d
 |0,_,_,h=>by omega
 |f+1,i,j,h=>by
  rw[oneK_succ]
  cases i with
  |zero=>simp only;rw[get_n];cases j<;>simp[T.get]
  |succ i=>
   simp only
   split
   · rw[oneK_k,get_n]
     cases j with
     |zero=>simp
     |succ j=>
      simp only
      rw[get_oneK f _ _ (by omega)]
      by_cases e:j=i
      · subst e;simp[*]
      · rw[if_neg (by omega:¬j+1=i+1)]
        split
        · rw[if_neg (by omega)]
        · rfl
   · rw[oneK_k,get_n]
     cases j with
     |zero=>simp
     |succ j=>
      simp only
      rw[get_oneK f _ _ (by omega)]
      by_cases e:j=i
      · subst e;simp[*]
      · rw[if_neg (by omega:¬j+1=i+1)]
        split
        · rfl
        · rw[if_neg (by omega)]
theorem get_setK:∀(t:T α) (i j:Nat),T.get d (T.setK d x t i fun t=>t) j=if j=i then x else T.get d t j
 | .e,i,j=>(get_oneK (i+1) i j (by omega)).trans rfl
 | .n l v r,i,j=>by
  rw[setK_n]
  cases i with
  |zero=>simp only;rw[get_n,get_n];cases j<;>simp
  |succ i=>
   simp only
   split
   · rw[setK_k,get_n,get_n]
     cases j with
     |zero=>simp
     |succ j=>
      simp only
      rw[get_setK l]
      by_cases e:j=i
      · subst e;simp[*]
      · rw[if_neg (by omega:¬j+1=i+1)]
        split
        · rw[if_neg (by omega)]
        · rfl
   · rw[setK_k,get_n,get_n]
     cases j with
     |zero=>simp
     |succ j=>
      simp only
      rw[get_setK r]
      by_cases e:j=i
      · subst e;simp[*]
      · rw[if_neg (by omega:¬j+1=i+1)]
        split
        · rfl
        · rw[if_neg (by omega)]
theorem get_bld:∀(l:List α) (i:Nat) (t:T α) (j:Nat),T.get d (bld d l i t) j=if i≤j∧j<i+l.length then l.getD (j-i) d else T.get d t j
 |[],i,t,j=>by rw[if_neg (by simp)];rfl
 |v::l,i,t,j=>by
  show T.get d (bld d l (i+1) (T.setK d v t i fun t=>t)) j=_
  rw[get_bld l,get_setK]
  simp only[List.length_cons]
  by_cases e:j=i
  · subst e
    rw[if_neg (by omega),if_pos rfl,if_pos (by omega)];simp
  · by_cases h:i≤j∧j<i+(l.length+1)
    · rw[if_pos (by omega),if_pos h,show j-i=(j-(i+1))+1 by omega];simp
    · rw[if_neg (by omega),if_neg e,if_neg h]
end
section
variable {P:Program}
theorem tyI_info {t:Nat} {i:TypeInfo} (h:tyI (types P) t=some i):P.info? t=some i:=by
 unfold tyI types at h
 rw[get_bld]at h
 split at h
 · rename_i hlt
   simp only[Nat.zero_add,List.length_map,Array.length_toList]at hlt
   have:t<P.types.size:=hlt.2
   simp only[Nat.sub_zero,List.getD,List.getElem?_map,Array.getElem?_toList]at h
   unfold Tables.info?
   rw[if_pos this]
   rw[Array.getElem?_eq_getElem this]at h⊢
   simpa using h
 · cases h
theorem und_under {t:Nat} {d:TypeDesc} (h:und (types P) t=some d):P.underlying t=some d∧∃i,P.info? t=some i∧siz (types P) t=i.size∧byt (types P) t=i.bytes:=by
 unfold und at h
 cases hi:tyI (types P) t with
 |none=>rw[hi]at h;cases h
 |some i=>
  rw[hi]at h
  have hI:=tyI_info hi
  refine⟨?_,i,hI,by simp[siz,hi],by simp[byt,hi]⟩
  unfold Program.underlying
  rw[hI]
  obtain⟨desc,str,size,bytes,hp,al,fa,zero,cmp,ms⟩:=i
  cases desc with
  |named n u=>
   simp only at h⊢
   cases hu:tyI (types P) u with
   |none=>rw[hu]at h;cases h
   |some j=>rw[hu]at h;rw[tyI_info hu];exact h
  |_=>simpa using h
theorem siz_pos {t:Nat} (h:0<siz (types P) t):∃i,P.info? t=some i∧siz (types P) t=i.size∧byt (types P) t=i.bytes:=by
 unfold siz byt at*
 cases hi:tyI (types P) t with
 |none=>rw[hi]at h;simp at h
 |some i=>exact⟨i,tyI_info hi,by simp,by simp⟩
variable (P)in
theorem run_sizeOf {t:Nat} {i:TypeInfo} (h:P.info? t=some i) (w:World):(Go.sizeOf t).run P w=.ok i.size w:=by simp[Go.sizeOf,typeInfo,h]
variable (P)in
theorem run_isAgg {t:Nat} {d:TypeDesc} (h:und (types P) t=some d) (w:World):(isAgg t).run P w=.ok (agg (types P) t) w:=by
 unfold isAgg agg
 rw[h]
 simp only[Sem.run_bind,run_underlying (und_under h).1,Result.andThen_ok]
 cases d<;>rfl
theorem zOf_zero {t:Nat} {l:List Value} (h:zOf (types P) t=some l):∃i z,P.info? t=some i∧i.zero=some z∧z.cells.toList=l:=by
 unfold zOf at h
 cases hi:tyI (types P) t with
 |none=>rw[hi]at h;cases h
 |some i=>
  rw[hi]at h
  simp only[Option.map_eq_some_iff]at h
  obtain⟨z,hz,rfl⟩:=h
  exact⟨i,z,tyI_info hi,hz,rfl⟩
end
theorem kd_kN (k:IntKind):kd (kN k)=k:=by cases k<;>rfl
theorem str_bytes (s:ByteArray):str (s.data.toList.map (·.toNat))=s:=by
 obtain⟨⟨l⟩⟩:=s
 have:List.map (UInt8.ofNat∘fun x=>x.toNat) l=l:=by
  conv=>rhs;rw[←List.map_id l]
  exact List.map_congr_left fun x _=>by simp
 simp[str,this]
theorem cV_den {v:Value} {x:V} (h:cV v=some x) (ρ:Rho):den ρ x=some v:=by
 unfold cV at h
 split at h<;>first
  |(cases h;simp[den,kd_kN,str_bytes])
  |(split at h
    · rename_i hl
      cases h
      simp only[den,undef]
      congr 2
      exact(Array.toList_inj.1 (by simpa using hl)).symm
    · cases h)
  |cases h
theorem cVs_den {ρ:Rho}:∀{l:List Value} {x:List V},cVs l=some x→denL ρ x=some l
 |[],_,h=>by cases h;simp[denL]
 |v::l,r,h=>by
  unfold cVs at h
  split at h
  · rename_i x y h1 h2
    cases h
    exact denL_cons.2 ⟨v,l,rfl,cV_den h1 ρ,cVs_den h2⟩
  · cases h
theorem okT_iff {nt t:Nat}:okT nt t=true↔t<nt∧t<256:=by simp[okT,Nat.blt_eq]
section
variable {ρ:Rho} {nt:Nat} {t:TM} {a:Act}
theorem opd_den {x:Operand} {o:OP} (h:cOpd nt x=.mk o) (H:TR ρ nt t a.tmps):den ρ (o t)=some (a.eval x):=by
 unfold cOpd at h
 cases x with
 |tmp n=>
  simp only at h
  cases hb:okT nt n with
  |false=>rw[hb]at h;cases h
  |true=>
   rw[hb]at h
   obtain⟨h1,h2⟩:=okT_iff.1 hb
   rw[gOp_eq h2 h]
   obtain⟨v,hv,hd⟩:=H.2 n h1 h2
   rw[hd]
   simp[Act.eval,Array.getD_eq_getD_getElem?,hv]
 |const v=>
  simp only at h
  cases hc:cV v with
  |none=>rw[hc]at h;cases h
  |some y=>rw[hc]at h;cases h;exact cV_den hc ρ
 |global g=>cases h;simp[kv,den,Act.eval]
 |func f=>cases h;simp[kv,den,denL,Act.eval]
theorem opds_den:∀{l:List Operand} {os:List OP},cOpds nt l=.mk os→TR ρ nt t a.tmps→denL ρ (os.map fun o=>o t)=some (l.map a.eval)
 |[],_,h,_=>by cases h;simp[denL]
 |x::l,r,h,H=>by
  unfold cOpds at h
  split at h
  · rename_i o os h1 h2
    cases h
    exact denL_cons.2 ⟨_,_,rfl,opd_den h1 H,opds_den h2 H⟩
  · cases h
def dT (dst:Option Nat) (t:TM) (v:V):TM→Prop:=fun t1=>match dst with|none=>t1=t|some n=>t1=ts t n v
theorem dst_eq {dst:Option Nat} {d:DS} (h:cDst nt dst=.mk d) (v:V) (t:TM) (k:TM→R):∃t1,dT dst t v t1∧d v t k=k t1:=by
 cases dst with
 |none=>cases h;exact⟨t,rfl,rfl⟩
 |some n=>
  simp only[cDst]at h
  cases hb:okT nt n with
  |false=>rw[hb]at h;cases h
  |true=>
   rw[hb]at h
   exact⟨_,rfl,dOp_eq (okT_iff.1 hb).2 h v t k⟩
theorem dst_ok {dst:Option Nat} {d:DS} (h:cDst nt dst=.mk d) {v:V} {x:Value} {t1:TM} (h1:dT dst t v t1) (H:TR ρ nt t a.tmps) (hv:den ρ v=some x):TR ρ nt t1 (a.put dst x).tmps∧(a.put dst x).defers=a.defers:=by
 cases dst with
 |none=>cases h1;exact⟨H,rfl⟩
 |some n=>
  simp only[cDst]at h
  cases hb:okT nt n with
  |false=>rw[hb]at h;cases h
  |true=>
   obtain⟨h2,h3⟩:=okT_iff.1 hb
   cases h1
   exact⟨H.put h2 h3 hv,rfl⟩
end
end Ev
end
