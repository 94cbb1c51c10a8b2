import Derived.Test.YtgcidfenjlmljaaGreatPg25
import Derived.Deep.DeepCutAuto
import Derived.Laws.StructEq
import Derived.OpenShut
import Derived.OwnWalk
import Derived.Maps.AppendAt
import Derived.WalkSmall
import Derived.Lib.SmallJoins
import Derived.Deep.Slices
import Derived.Deep.Strs
import Derived.ChangeSame
import Derived.WideShapes
import Derived.Test.YtgcidfenjlmljaaGreatPgR
set_option linter.unusedVariables false
set_option linter.unusedSimpArgs false
set_option maxRecDepth 100000
set_option maxHeartbeats 16000000
namespace Go.Proofs.YtgcidfenjlmljaaGreat.Bt
section
open Go Go.RowKit Go.Shelf
def hdP (m:Nat->UInt8) (va k:Nat):Nat:=Zck m (va+8*k) 4
def hdC (m:Nat->UInt8) (va k:Nat):Nat:=Zck m (va+8*k+4) 4
def Zmx (m:Nat->UInt8) (va k:Nat) (x c:Int):Nat->UInt8:=Zb8 (Zb8 m (va+8*k) (Zfk x 4)) (va+8*k+4) (Zfk c 4)
theorem Zsx (m:Nat->UInt8) (va k:Nat):hdP m va k<4294967296/\hdC m va k<4294967296:=by
 unfold hdP hdC
 have:=Zll m (va+8*k) 4;have:=Zll m (va+8*k+4) 4;omega
theorem Ze3 (m:Nat->UInt8) (va k:Nat) (x c:Int) {i:Nat} (h:i<va+8*k\/va+8*k+8<=i):Zmx m va k x c i=m i:=by
 unfold Zmx;rw[Zbt _ _ _ (by rw[Zbh];omega),Zbt _ _ _ (by rw[Zbh];omega)]
theorem Zux (m:Nat->UInt8) (va k:Nat) (x c:Int):hdP (Zmx m va k x c) va k=x.toNat%4294967296:=by
 unfold hdP Zmx;rw[Zar (m':=Zb8 m (va+8*k) (Zfk x 4)) (fun j hj=>Zbt _ _ _ (by rw[Zbh];omega)),Zf4]
theorem Ybl (m:Nat->UInt8) (va k:Nat) (x c:Int):hdC (Zmx m va k x c) va k=c.toNat%4294967296:=by
 unfold hdC Zmx;rw[Zf4]
theorem Zf2 (m:Nat->UInt8) (va k:Nat) (x c:Int) {j:Nat} (h:j≠k):hdP (Zmx m va k x c) va j=hdP m va j/\hdC (Zmx m va k x c) va j=hdC m va j:=by
 unfold hdP hdC
 exact⟨Zar fun i hi=>Ze3 _ _ _ _ _ (by omega),Zar fun i hi=>Ze3 _ _ _ _ _ (by omega)⟩
theorem Zei {m m':Nat->UInt8} {va:Nat} (h:∀i,va<=i->i<va+40->m' i=m i) {k:Nat} (hk:k<5):hdP m' va k=hdP m va k/\hdC m' va k=hdC m va k:=by
 unfold hdP hdC
 exact⟨Zar fun i hi=>h _ (by omega) (by omega),Zar fun i hi=>h _ (by omega) (by omega)⟩
structure Zj6 (L:Nat) (es:List Nat) (m:Nat->UInt8) (p k:Nat):Prop where
 there:Zac L es ((4096*p:Nat):Int) 32=0
 st:stB m ((4096*p:Nat):Int)=true
 ord:rdO m (4096*p)=(k:Int)
 own:rdU m (4096*p)=0
def Lnk (m:Nat->UInt8):List Nat->Prop
 |[]=>True
 |p::l=>(∀p' l',l=p'::l'->rdX m (4096*p)=((4096*p':Nat):Int))/\Lnk m l
theorem Zhf {m m':Nat->UInt8} {p:Nat} (h:∀i,4096*p<=i->i<4096*p+32->m' i=m i):
 rdO m' (4096*p)=rdO m (4096*p)/\rdU m' (4096*p)=rdU m (4096*p)/\rdX m' (4096*p)=rdX m (4096*p)/\stB m' ((4096*p:Nat):Int)=stB m ((4096*p:Nat):Int):=by
 have k:=Zy8 (m:=m') (m':=m) (a:=((4096*p:Nat):Int)) (fun j hj=>h _ (by simp only[Int.toNat_natCast];omega) (by simp only[Int.toNat_natCast];omega))
 simpa only[Int.toNat_natCast]using k
theorem Zj6.same {L:Nat} {es:List Nat} {m m':Nat->UInt8} {p k:Nat} (c:Zj6 L es m p k) (h:∀i,4096*p<=i->i<4096*p+32->m' i=m i):Zj6 L es m' p k:=by
 obtain⟨e1,e2,_,e4⟩:=Zhf h
 exact⟨c.there,e4.trans c.st,e1.trans c.ord,e2.trans c.own⟩
theorem Lnk.same {m m':Nat->UInt8}:∀{l:List Nat},Lnk m l->(∀p∈l,∀i,4096*p<=i->i<4096*p+32->m' i=m i)->Lnk m' l
 |[],_,_=>trivial
 |p::l,h,k=>⟨fun p' l' e=>(Zhf (k p (by simp))).2.2.1.trans (h.1 p' l' e),h.2.same fun q hq=>k q (by simp[hq])⟩
structure Bn (L:Nat) (es:List Nat) (m:Nat->UInt8) (va:Nat) (q:Nat->List Nat):Prop where
 view:Zac L es (va:Int) 40=0
 many:∀k,k<5->hdC m va k=(q k).length
 top:∀k,k<5->∀p l,q k=p::l->hdP m va k=p
 at_:∀k,k<5->∀p∈q k,Zj6 L es m p k
 link:∀k,k<5->Lnk m (q k)
 nd:∀k,k<5->(q k).Nodup
 far:∀k,k<5->∀p∈q k,va+40<=4096*p\/4096*p+32<=va
def Zde (q:Nat->List Nat) (k:Nat) (l:List Nat):Nat->List Nat:=fun j=>if j=k then l else q j
theorem Za1 (q:Nat->List Nat) (k:Nat) (l:List Nat):Zde q k l k=l:=by unfold Zde;rw[if_pos rfl]
theorem Zaz (q:Nat->List Nat) {k j:Nat} (l:List Nat) (h:j≠k):Zde q k l j=q j:=by unfold Zde;rw[if_neg h]
theorem Bn.Zq3 {L:Nat} {es:List Nat} {m:Nat->UInt8} {va:Nat} {q:Nat->List Nat} (b:Bn L es m va q) {p k j:Nat} (hj:j<5) (h:p∈q j) (c:Zj6 L es m p k):j=k:=by
 have h1:=(b.at_ j hj p h).ord;rw[c.ord]at h1;omega
theorem Bn.same {L:Nat} {es:List Nat} {m m':Nat->UInt8} {va:Nat} {q:Nat->List Nat} (b:Bn L es m va q) (hv:∀i,va<=i->i<va+40->m' i=m i)
 (hm:∀k,k<5->∀p∈q k,∀i,4096*p<=i->i<4096*p+32->m' i=m i):Bn L es m' va q:=
 ⟨b.view,fun k hk=>((Zei hv hk).2).trans (b.many k hk),fun k hk p l e=>((Zei hv hk).1).trans (b.top k hk p l e),fun k hk p hp=>(b.at_ k hk p hp).same (hm k hk p hp),
  fun k hk=>(b.link k hk).same (hm k hk),b.nd,b.far⟩
theorem Bn.wr {L:Nat} {es:List Nat} {m:Nat->UInt8} {va:Nat} {q:Nat->List Nat} (b:Bn L es m va q) {p:Nat} (o u x:Int) (hp:∀k,k<5->p∉q k) (hf:va+40<=4096*p\/4096*p+32<=va):
 Bn L es (wrM m (4096*p) ((4096*p:Nat):Int) o u x) va q:=
 b.same (fun i h1 h2=>Zdx _ _ _ _ _ _ _ (by omega)) fun k hk p2 h2 i h3 h4=>Zdx _ _ _ _ _ _ _ (by
  have:p2≠p:=fun e=>hp k hk (e▸h2)
  omega)
def Zfj (m:Nat->UInt8) (va k p:Nat):Nat->UInt8:=Zmx (wrM m (4096*p) ((4096*p:Nat):Int) (k:Int) 0 ((4096*hdP m va k:Nat):Int)) va k (p:Int) ((hdC m va k+1:Nat):Int)
def Zhg (m:Nat->UInt8) (va k p:Nat):Nat->UInt8:=Zmx (wrM m (4096*p) ((4096*p:Nat):Int) (k:Int) 0 0) va k (rdX m (4096*p)/4096) ((hdC m va k-1:Nat):Int)
theorem Zqs {p k:Nat} {x:Int} (hk:k<5) (hx:0<=x):Zoj ((4096*p:Nat):Int) (k:Int) x=true:=(Zdt _ _ _).2 ⟨by omega,by omega,by omega,hx⟩
theorem Zt0 {L:Nat} {es:List Nat} (m:Nat->UInt8) {p k:Nat} {x:Int} (hk:k<5) (hx:0<=x) (hx2:x<=9223372036854775807) (ht:Zac L es ((4096*p:Nat):Int) 32=0):
 Zj6 L es (wrM m (4096*p) ((4096*p:Nat):Int) (k:Int) 0 x) p k/\rdX (wrM m (4096*p) ((4096*p:Nat):Int) (k:Int) 0 x) (4096*p)=x:=by
 have h:=Yc3 m ((4096*p:Nat):Int) (k:Int) 0 x (Zqs hk hx) (by omega) hx2;simp only[Int.toNat_natCast]at h
 exact⟨⟨ht,h.2.2.2,h.1,h.2.1⟩,h.2.2.1⟩
theorem Bn.push {L:Nat} {es:List Nat} {m:Nat->UInt8} {va:Nat} {q:Nat->List Nat} (b:Bn L es m va q) {p k:Nat} (hk:k<5) (c:Zj6 L es m p k) (hp:p∉q k) (hf:va+40<=4096*p\/4096*p+32<=va)
 (hpb:p<4294967296) (hl:(q k).length<4294967295):Bn L es (Zfj m va k p) va (Zde q k (p::q k)):=by
 have hpn:∀j,j<5->p∉q j:=fun j hj h=>by have:=b.Zq3 hj h c;subst this;exact hp h
 have b1:=b.wr (k:Int) 0 ((4096*hdP m va k:Nat):Int) hpn hf;have hP:=(Zsx m va k).1;have w1:=Zt0 (L:=L) (es:=es) m (x:=((4096*hdP m va k:Nat):Int)) hk (by omega) (by omega) c.there;unfold Zfj;generalize hM:wrM m (4096*p) ((4096*p:Nat):Int) (k:Int) 0 ((4096*hdP m va k:Nat):Int)=M at*
 have hS:∀p2,(va+40<=4096*p2\/4096*p2+32<=va)->∀i,4096*p2<=i->i<4096*p2+32->Zmx M va k (p:Int) ((hdC m va k+1:Nat):Int) i=M i:=fun p2 h2 i h3 h4=>Ze3 _ _ _ _ _ (by omega)
 have hat:∀j,j<5->∀p2∈Zde q k (p::q k) j,Zj6 L es M p2 j/\(va+40<=4096*p2\/4096*p2+32<=va):=by
  intro j hj p2 h2;by_cases e:j=k
  · subst e
    rw[Za1]at h2;rcases List.mem_cons.1 h2 with rfl|h2
    · exact⟨w1.1,hf⟩
    · exact⟨b1.at_ j hj p2 h2,b1.far j hj p2 h2⟩
  · rw[Zaz _ _ e]at h2
    exact⟨b1.at_ j hj p2 h2,b1.far j hj p2 h2⟩
 refine⟨b.view,?_,?_,?_,?_,?_,fun j hj p2 h2=>(hat j hj p2 h2).2⟩
 · intro j hj
   by_cases e:j=k
   · subst e
     rw[Ybl,Za1,b.many j hj];simp;omega
   · rw[(Zf2 _ _ _ _ _ e).2,Zaz _ _ e];exact b1.many j hj
 · intro j hj p2 l e2
   by_cases e:j=k
   · subst e
     rw[Za1]at e2;rw[Zux];obtain⟨rfl, -⟩:=List.cons.inj e2
     simp;omega
   · rw[(Zf2 _ _ _ _ _ e).1]
     rw[Zaz _ _ e]at e2;exact b1.top j hj p2 l e2
 · intro j hj p2 h2
   obtain⟨h3,h4⟩:=hat j hj p2 h2;exact h3.same (hS p2 h4)
 · intro j hj
   refine Lnk.same ?_ fun p2 h2=>hS p2 (hat j hj p2 h2).2
   by_cases e:j=k
   · subst e
     rw[Za1]
     refine⟨fun p' l' e2=>?_,b1.link j hj⟩
     rw[w1.2,b.top j hj p' l' e2]
   · rw[Zaz _ _ e];exact b1.link j hj
 · intro j hj
   by_cases e:j=k
   · subst e
     rw[Za1];exact List.nodup_cons.2 ⟨hp,b.nd j hj⟩
   · rw[Zaz _ _ e];exact b.nd j hj
theorem Zur {m:Nat->UInt8} {a:Int} (h:stB m a=true):0<=rdX m a.toNat:=by
 unfold stB at h
 have h1:Zoj a (rdO m a.toNat) (rdX m a.toNat)=true:=by
  cases hq:Zoj a (rdO m a.toNat) (rdX m a.toNat)with
  |true=>rfl
  |false=>rw[hq]at h;cases h
 exact((Zdt _ _ _).1 h1).2.2.2
theorem Bn.pop {L:Nat} {es:List Nat} {m:Nat->UInt8} {va:Nat} {q:Nat->List Nat} (b:Bn L es m va q) {p k:Nat} {l:List Nat} (hk:k<5) (e:q k=p::l) (hl:(q k).length<4294967295) (hpb:∀p∈q k,p<4294967296):
 Bn L es (Zhg m va k p) va (Zde q k l)/\Zj6 L es (Zhg m va k p) p k/\rdX (Zhg m va k p) (4096*p)=0:=by
 have hmp:p∈q k:=by rw[e];simp
 have c:=b.at_ k hk p hmp;have hf:=b.far k hk p hmp;have w1:=Zt0 (L:=L) (es:=es) m (x:=0) hk (by omega) (by omega) c.there;have hn:=b.nd k hk;rw[e]at hn;have hpl:=(List.nodup_cons.1 hn).1;have hlk:=b.link k hk;rw[e]at hlk;unfold Zhg;generalize hX:rdX m (4096*p)/4096=X;generalize hM:wrM m (4096*p) ((4096*p:Nat):Int) (k:Int) 0 0=M at*
 have hO:∀i,i<4096*p\/4096*p+32<=i->M i=m i:=fun i hi=>by rw[<-hM];exact Zdx _ _ _ _ _ _ _ hi
 have hsub:∀j,j<5->∀p2∈Zde q k l j,p2∈q j/\p2≠p:=by
  intro j hj p2 h2;by_cases ej:j=k
  · subst ej
    rw[Za1]at h2
    exact⟨by rw[e];simp[h2],fun e2=>hpl (e2▸h2)⟩
  · rw[Zaz _ _ ej]at h2
    exact⟨h2,fun e2=>ej (b.Zq3 hj (e2▸h2) c)⟩
 have hS:∀p2,(va+40<=4096*p2\/4096*p2+32<=va)->∀i,4096*p2<=i->i<4096*p2+32->Zmx M va k X ((hdC m va k-1:Nat):Int) i=M i:=fun p2 h2 i h3 h4=>Ze3 _ _ _ _ _ (by omega)
 have hT:∀p2,(va+40<=4096*p2\/4096*p2+32<=va)->p2≠p->∀i,4096*p2<=i->i<4096*p2+32->Zmx M va k X ((hdC m va k-1:Nat):Int) i=m i:=fun p2 h2 h5 i h3 h4=>(hS p2 h2 i h3 h4).trans (hO i (by omega))
 have hv:∀i,va<=i->i<va+40->M i=m i:=fun i h1 h2=>hO i (by omega)
 refine⟨⟨b.view,?_,?_,?_,?_,?_,?_⟩,w1.1.same (hS p hf),(Zhf (hS p hf)).2.2.1.trans w1.2⟩
 · intro j hj
   by_cases ej:j=k
   · subst ej
     rw[Ybl,Za1,b.many j hj,e];rw[e]at hl;simp at hl⊢;omega
   · rw[(Zf2 _ _ _ _ _ ej).2,Zaz _ _ ej,(Zei hv hj).2];exact b.many j hj
 · intro j hj p2 l2 e2
   by_cases ej:j=k
   · subst ej
     rw[Za1]at e2;rw[Zux];have h1:=hlk.1 p2 l2 e2;have h2:=hpb p2 (by rw[e,e2];simp);rw[h1]at hX;omega
   · rw[(Zf2 _ _ _ _ _ ej).1,(Zei hv hj).1]
     rw[Zaz _ _ ej]at e2;exact b.top j hj p2 l2 e2
 · intro j hj p2 h2
   obtain⟨h3,h4⟩:=hsub j hj p2 h2
   exact(b.at_ j hj p2 h3).same (hT p2 (b.far j hj p2 h3) h4)
 · intro j hj
   refine Lnk.same ?_ fun p2 h2=>hT p2 (b.far j hj p2 (hsub j hj p2 h2).1) (hsub j hj p2 h2).2
   by_cases ej:j=k
   · subst ej;rw[Za1];exact hlk.2
   · rw[Zaz _ _ ej];exact b.link j hj
 · intro j hj
   by_cases ej:j=k
   · subst ej;rw[Za1];exact(List.nodup_cons.1 hn).2
   · rw[Zaz _ _ ej];exact b.nd j hj
 · intro j hj p2 h2
   exact b.far j hj p2 (hsub j hj p2 h2).1
theorem Bn.zero {L:Nat} {es:List Nat} {m:Nat->UInt8} {va:Nat} (hv:Zac L es (va:Int) 40=0) (h:∀i,va<=i->i<va+40->m i=0):Bn L es m va fun _=>[]:=by
 refine⟨hv,fun k hk=>?_,fun k hk p l e=>?_,fun k hk p hp=>?_,fun k hk=>trivial,fun k hk=>List.nodup_nil,fun k hk p hp=>?_⟩
 · unfold hdC
   rw[Zar (m':=fun _=>0) (fun j hj=>h _ (by omega) (by omega)),Zif];rfl
 · cases e
 · cases hp
 · cases hp
def Yis (m:Nat->UInt8) (va:Nat):Nat->Nat
 |0=>0
 |k+1=>Yis m va k+hdC m va k*2^k
def Zci (q:Nat->List Nat):Nat->Nat
 |0=>0
 |k+1=>Zci q k+(q k).length*2^k
theorem Bn.cnt {L:Nat} {es:List Nat} {m:Nat->UInt8} {va:Nat} {q:Nat->List Nat} (b:Bn L es m va q):∀k,k<=5->Yis m va k=Zci q k
 |0,_=>rfl
 |k+1,h=>by unfold Yis Zci;rw[b.cnt k (by omega),b.many k (by omega)]
def bq (o:Nat->Nat):Nat->Nat->List Nat
 |0=>fun _=>[]
 |i+1=>Zde (bq o i) (o i%5) ((i+1)::bq o i (o i%5))
theorem Zrn (o:Nat->Nat):∀{i j p:Nat},p∈bq o i j->1<=p/\p<=i
 |0,_,_,h=>by cases h
 |i+1,j,p,h=>by
  unfold bq Zde at h
  split at h
  · rcases List.mem_cons.1 h with rfl|h
    · omega
    · have:=Zrn o h;omega
  · have:=Zrn o h;omega
theorem Zro (o:Nat->Nat):∀(i j:Nat),(bq o i j).length<=i
 |0,_=>by simp[bq]
 |i+1,j=>by
  unfold bq Zde
  split
  · have:=Zro o i (o i%5);simp;omega
  · have:=Zro o i j;omega
theorem Yeg (o:Nat->Nat) (i:Nat):bq o (i+1) (o i%5)=(i+1)::bq o i (o i%5)/\Zde (bq o (i+1)) (o i%5) (bq o i (o i%5))=bq o i:=by
 refine⟨by rw[show bq o (i+1)=Zde (bq o i) (o i%5) ((i+1)::bq o i (o i%5))from rfl,Za1],?_⟩
 funext j
 by_cases e:j=o i%5
 · subst e;rw[Za1]
 · rw[Zaz _ _ e,show bq o (i+1)=Zde (bq o i) (o i%5) ((i+1)::bq o i (o i%5))from rfl,Zaz _ _ e]
end
section
open Go Go.RowKit Go.Shelf
theorem Znl (k:Int) (w:World):Calls Tryz.prog 202 #[iV k] w fun e w'=>e=.returned (.bool (decide (0<=k/\k<=4)))/\w=w':=by
 by_cases h0:0<=k
 · cases h4:decide (k<=4)with
   |true=>
    have h:=of_decide_eq_true h4;rw[decide_eq_true (show 0<=k/\k<=4 from⟨h0,h⟩)];go_enter Tryz.func202,Tryz.ntmps202
    go_wp2
    go_ret
    exact⟨rfl,rfl⟩
   |false=>
    have h:=of_decide_eq_false h4;rw[decide_eq_false (show¬(0<=k/\k<=4)from fun c=>h c.2)];go_enter Tryz.func202,Tryz.ntmps202
    go_wp2
    go_ret
    exact⟨rfl,rfl⟩
 · rw[decide_eq_false (show¬(0<=k/\k<=4)from fun c=>h0 c.1)]
   go_enter Tryz.func202,Tryz.ntmps202
   go_wp2
   go_ret
   exact⟨rfl,rfl⟩
def B3 (T:TypeId) (B:Nat) (pa:Option Addr) (a z:Int) (x:World):Prop:=x.heap[B]?=some (.cells #[.pointer pa,iV a,iV z] T (0,0))
theorem B3.all {T:TypeId} {B:Nat} {pa:Option Addr} {a z:Int} {x:World} (h:B3 T B pa a z x):
 (x.cell? (aD B 0)=some (.pointer pa)/\x.cell? (aD B 1)=some (iV a)/\x.cell? (aD B 2)=some (iV z))/\x.frozen? (aD B 0)=false/\x.frozen? (aD B 1)=false/\x.frozen? (aD B 2)=false:=
 ⟨⟨(Zaa h 0).1,(Zaa h 1).1,(Zaa h 2).1⟩,(Zaa h 0).2,(Zaa h 1).2,(Zaa h 2).2⟩
theorem B3.below {T:TypeId} {B:Nat} {pa:Option Addr} {a z:Int} {x y:World} (h:B3 T B pa a z x) (hb:Below x.heap.size x y):B3 T B pa a z y:=Zba hb h
theorem B3.new (T:TypeId) (pa:Option Addr) (a z:Int) (x:World):B3 T x.heap.size pa a z (x.alloc (.cells #[.pointer pa,iV a,iV z] T)):=Zab _ _
theorem B3.Zaq {A:Nat} {s:ASt} {T:TypeId} {B:Nat} {pa:Option Addr} {a z:Int} {x y:World} (h:B3 T B pa a z x) (ho:On A s x) (hg:Zam A x y) (h1:T≠121) (h2:T≠122) (h3:T≠124):B3 T B pa a z y:=hg.Zdn ho h h1 h2 h3
theorem Yg2 {T:TypeId} {B:Nat} {pa:Option Addr} {a z:Int} {x:World} {b0:Nat} (h:B3 T B pa a z x) {w:World} (hb:Below b0 w x) (hB:b0<=B) (u v y:Value):
 let X:=(((x.setCell (aD B 0) u).setCell (aD B 1) v).setCell (aD B 2) y)
 X.cell? (aD B 0)=some u/\X.cell? (aD B 1)=some v/\X.cell? (aD B 2)=some y/\Below b0 w X:=by
 have h3:=Za8 h rfl u v y
 exact⟨(Zaa h3 0).1,(Zaa h3 1).1,(Zaa h3 2).1,((hb.setCell (p:=(aD B 0)) hB _).setCell (p:=(aD B 1)) hB _).setCell (p:=(aD B 2)) hB _⟩
section
variable {A:Nat} {s:ASt} {w:World}
theorem Zd5 {va vs a n:Nat} (h:a+n<=vs):Zai va vs (a:Int) (n:Int)=((va+a:Nat):Int):=by unfold Zai;rw[if_pos (by omega)];omega
theorem Zn5 (h:On A s w) (va vs k:Nat) (h1:va<=4294967296) (h2:vs<=4294967296) (h40:40<=vs) (hk:k<5) (hv:Zac s.L s.es (va:Int) 40=0):
 Calls Tryz.prog 160 #[vwV A va vs,iV k] w (Zan (.tuple #[vwV A (va+8*k) 8,iV 0]) w):=by
 have HI:=hid (fun w=>Znl (k:Int) w);rw[decide_eq_true (show 0<=(k:Int)/\(k:Int)<=4 by omega)]at HI;have e1:Zai va vs 0 40=(va:Int):=by have:=Zd5 (va:=va) (a:=0) (n:=40) (vs:=vs) (by omega);simpa using this
 have e2:Zai va 40 (8*k:Nat) 8=((va+8*k:Nat):Int):=Zd5 (va:=va) (vs:=40) (a:=8*k) (n:=8) (by omega);have hv2:Zac s.L s.es ((va+8*k:Nat):Int) 8=0:=Zbn h.Zch hv (by omega) (by omega) (by omega);have E1:Hid (ofV (some (aD A 0)) (Zai va vs 0 40) 40 (Zac s.L s.es (Zai va vs 0 40) 40)=vwV A va 40/\Zac s.L s.es (Zai va vs 0 40) 40=0):=hid (by rw[e1,hv];exact⟨rfl,rfl⟩);have E2:Hid (ofV (some (aD A 0)) (Zai va 40 (8*k:Nat) 8) 8 (Zac s.L s.es (Zai va 40 (8*k:Nat) 8) 8)=vwV A (va+8*k) 8/\Zac s.L s.es (Zai va 40 (8*k:Nat) 8) 8=0):=hid (by rw[e2,hv2];exact⟨rfl,rfl⟩);obtain⟨Z,hZ⟩:=eX (va+8*k:Nat);rw[hZ]at E2⊢;have q1:IntKind.i64.wrap ((k:Int)*8)=((8*k:Nat):Int):=by rw[IntWalk.i64_in _ (by omega)];omega
 have q2:wrap64 ((k:Int)*8)=((8*k:Nat):Int):=by rw[IntWalk.wrap64_in _ ⟨by omega,by omega⟩];omega
 have HQ:=hid (And.intro q1 q2);have HK:Hid (((8*k:Nat):Int)<=9223372036854775807):=hid (by omega);have HX:=hid (h.below (Zbm w (.cells #[pT A,iV va,iV vs] 76) (.cells #[.pointer none,iV 0,iV 0] 40)));have HB:=hid (Zbm w (.cells #[pT A,iV va,iV vs] 76) (.cells #[.pointer none,iV 0,iV 0] 40));have HP:=hid (Zbk w #[pT A,iV va,iV vs] #[.pointer none,iV 0,iV 0] 76 40);clear h e1 e2 hv hv2 q1 q2 hZ;go_enter Tryz.func160,Tryz.ntmps160;go_upto_region 1 with fail;obtain⟨x,hx⟩:=eX ((w.alloc (.cells #[pT A,iV va,iV vs] 76)).alloc (.cells #[.pointer none,iV 0,iV 0] 40));obtain⟨B,hB⟩:=eX w.heap.size;have hBR:=hid (show w.heap.size<=B+1 by omega);rw[hx]at HX HB HP;rw[hB]at HP;change Code.wp _ _ _ _ ((w.alloc (.cells #[pT A,iV va,iV vs] 76)).alloc (.cells #[.pointer none,iV 0,iV 0] 40))
 try simp only[World.size_alloc]
 rw[hx,hB];clear hx hB;have HP1:Hid (B3 76 B (some (aD A 0)) va vs x):=hid HP.out.1;have HP2:Hid (B3 40 (B+1) none 0 0 x):=hid HP.out.2;clear HP;obtain⟨⟨b0,b1,b2⟩, -, -, -⟩:=HP1.out.all;go_wp2_with fail
 refine(HI.out _).mono ?_
 rintro e w1 ⟨rfl,rfl⟩;go_wp2_with fail
 refine(Zcl HX.out va vs h1 h2 0 40 (by omega)).mono ?_
 rintro e w2 ⟨rfl,hb⟩;rw[E1.out.1,E1.out.2];clear b0 b1 b2;have HX2:=hid (HX.out.below hb);have HB2:=hid (HB.out.trans (hb.mono HB.out.size));have HR2:=hid (HP2.out.below hb);clear hb HX HB HP1 HP2;go_upto_region 4 with fail;have hv:=B3.new 40 (some (aD A 0)) va (40:Nat) w2;have hb:=Zaj w2 (.cells #[pT A,iV va,iV ((40:Nat):Int)] 40);have hxy:=HX2.out.below hb;have hby:=HB2.out.trans (hb.mono HB2.out.size);have hry:=HR2.out.below hb;obtain⟨y,hy⟩:=eX (w2.alloc (.cells #[pT A,iV va,iV ((40:Nat):Int)] 40));obtain⟨O,hO⟩:=eX w2.heap.size;rw[hy]at hv hxy hby hry;rw[hO]at hv;change Code.wp _ _ _ _ (w2.alloc (.cells #[pT A,iV va,iV ((40:Nat):Int)] 40));rw[hy,hO];have HX3:=hid hxy;have HB3:=hid hby;have HR3:=hid hry
 obtain⟨⟨v0,v1,v2⟩, -, -, -⟩:=hv.all;clear hy hO hxy hby hry hb hv HX2 HB2 HR2;have q1:=HQ.out.1;have q2:=HQ.out.2;go_wp2_with fail
 try rw[HQ.out.1]
 try rw[HQ.out.2]
 refine(Zcl HX3.out va 40 h1 (by omega) (8*k:Nat) 8 HK.out).mono ?_
 rintro e w4 ⟨rfl,hb⟩;rw[E2.out.1,E2.out.2];have hr:=HR3.out.below hb;have HB4:=hid (HB3.out.trans (hb.mono HB3.out.size));have HR4:=hid hr;obtain⟨⟨r0,r1,r2⟩,f0,f1,f2⟩:=hr.all;clear hb hr HX3 HB3 HR3 v0 v1 v2 q1 q2;go_wp2_with fail;obtain⟨g0,g1,g2,hbf⟩:=Yg2 HR4.out HB4.out hBR.out (pT A) (iV Z) (iV 8);exact bodyPost_ret (v:=.tuple #[vwV A Z 8,iV 0]) (by simp[results,Tryz.results160,go_sem,g0,g1,g2]) rfl ⟨rfl,hbf⟩
end
end
section
open Go Go.RowKit Go.Shelf
section
variable {A:Nat} {s:ASt} {w:World}
theorem Yga (L:Nat) (es:List Nat) (a:Int):Zb9 L es a 4=Zac L es a 4:=rfl
theorem Zwj (h:On A s w) {va:Nat} (hv:Zac s.L s.es (va:Int) 40=0):va+40<=4294967296:=by
 have hh:=(Zax h.Zch (va:Int) 40).1 (by unfold Zac at hv;cases hq:Zbd s.L s.es (va:Int) 40 with
  |true=>rfl
  |false=>rw[hq]at hv;cases hv)
 have:=h.Zch.small
 omega
theorem Zq5 (h:On A s w) {va k:Nat} (hk:k<5) (hv:Zac s.L s.es (va:Int) 40=0):Zac s.L s.es ((va+8*k:Nat):Int) 4=0/\Zac s.L s.es ((va+8*k+4:Nat):Int) 4=0:=
 ⟨Zbn h.Zch hv (by omega) (by omega) (by omega),Zbn h.Zch hv (by omega) (by omega) (by omega)⟩
theorem ld4 {s:ASt} {a:Nat} (hn:Zac s.L s.es (a:Int) 4=0):ldV s (a:Int) 4=(Zck s.mm a 4:Int):=by unfold ldV;rw[Yga,if_pos hn];rfl
theorem Zf8 (h:On A s w) (va vs k:Nat) (h1:va<=4294967296) (h2:vs<=4294967296) (h40:40<=vs) (hk:k<5) (hv:Zac s.L s.es (va:Int) 40=0):
 Calls Tryz.prog 94 #[vwV A va vs,iV k] w (Zan (.tuple #[iV ((4096*hdP s.mm va k:Nat):Int),iV ((hdC s.mm va k:Nat):Int)]) w):=by
 have h32:=Zwj h hv;obtain⟨t1,t2⟩:=Zq5 h hk hv;have e1:Zai (va+8*k) 8 0 4=((va+8*k:Nat):Int):=by have:=Zd5 (va:=va+8*k) (a:=0) (n:=4) (vs:=8) (by omega);simpa using this
 have e2:Zai (va+8*k) 8 4 4=((va+8*k+4:Nat):Int):=Zd5 (va:=va+8*k) (a:=4) (n:=4) (vs:=8) (by omega);have L1:ldV s (Zai (va+8*k) 8 0 4) 4=((hdP s.mm va k:Nat):Int)/\Zb9 s.L s.es (Zai (va+8*k) 8 0 4) 4=0:=by rw[e1,ld4 t1,Yga];exact⟨rfl,t1⟩
 have L2:ldV s (Zai (va+8*k) 8 4 4) 4=((hdC s.mm va k:Nat):Int)/\Zb9 s.L s.es (Zai (va+8*k) 8 4 4) 4=0:=by rw[e2,ld4 t2,Yga];exact⟨rfl,t2⟩
 have hlt:=Zsx s.mm va k;generalize hdP s.mm va k=P at*
 generalize hdC s.mm va k=C at*
 have HL1:=hid L1;have HL2:=hid L2
 have q1:IntKind.i64.wrap (P:Int)=(P:Int):=IntWalk.i64_in _ (by omega);have q2:IntKind.i64.wrap ((P:Int)*4096)=((4096*P:Nat):Int):=by rw[IntWalk.i64_in _ (by omega)];omega
 have q3:IntKind.i64.wrap (C:Int)=(C:Int):=IntWalk.i64_in _ (by omega);have q4:wrap64 ((P:Int)*4096)=((4096*P:Nat):Int):=by rw[IntWalk.wrap64_in _ ⟨by omega,by omega⟩];omega
 have HQ:=hid (And.intro q1 (And.intro q2 (And.intro q3 q4)));have hx:=h.below (Zaj w (.cells #[pT A,iV va,iV vs] 76));have HPL:=hid (Zn5 hx va vs k h1 h2 h40 hk hv);have HX:=hid hx;have HB:=hid (Zaj w (.cells #[pT A,iV va,iV vs] 76));have H8:Hid (va+8*k<=4294967296):=hid (by omega);clear h h32 t1 t2 e1 e2 L1 L2 hlt q1 q2 q3 q4 hx hv;go_enter Tryz.func94,Tryz.ntmps94;go_wp2_with fail;refine HPL.out.mono ?_;rintro e w2 ⟨rfl,hb⟩;have HX2:=hid (HX.out.below hb);have HB2:=hid (HB.out.trans (hb.mono HB.out.size));clear hb HX HB HPL;go_upto_region 2 with fail;have hv:=B3.new 40 (some (aD A 0)) ((va+8*k:Nat):Int) (8:Nat) w2;have hb:=Zaj w2 (.cells #[pT A,iV ((va+8*k:Nat):Int),iV ((8:Nat):Int)] 40);have hxy:=HX2.out.below hb;have hby:=HB2.out.trans (hb.mono HB2.out.size);obtain⟨y,hy⟩:=eX (w2.alloc (.cells #[pT A,iV ((va+8*k:Nat):Int),iV ((8:Nat):Int)] 40));obtain⟨O,hO⟩:=eX w2.heap.size;rw[hy]at hv hxy hby;rw[hO]at hv;change Code.wp _ _ _ _ (w2.alloc (.cells #[pT A,iV ((va+8*k:Nat):Int),iV ((8:Nat):Int)] 40));rw[hy,hO];have HX3:=hid hxy;have HB3:=hid hby;have HV3:=hid hv
 obtain⟨⟨v0,v1,v2⟩, -, -, -⟩:=hv.all;clear hy hO hxy hby hb hv HX2 HB2;go_wp2_with fail
 refine(Zfw HX3.out (va+8*k) 8 H8.out (by omega) 0 4 (by omega)).mono ?_
 rintro e w4 ⟨rfl,hb⟩;rw[HL1.out.1,HL1.out.2];have HX4:=hid (HX3.out.below hb);have HB4:=hid (HB3.out.trans (hb.mono HB3.out.size));have hv:=HV3.out.below hb;clear hb HX3 HB3 HV3 v0 v1 v2;obtain⟨⟨v0,v1,v2⟩, -, -, -⟩:=hv.all;clear hv;go_wp2_with fail
 refine(Zfw HX4.out (va+8*k) 8 H8.out (by omega) 4 4 (by omega)).mono ?_
 rintro e w5 ⟨rfl,hb⟩;rw[HL2.out.1,HL2.out.2];have HB5:=hid (HB4.out.trans (hb.mono HB4.out.size));clear hb HX4 HB4 v0 v1 v2;obtain⟨q1,q2,q3,q4⟩:=HQ.out;go_wp2_with fail
 go_ret2
 first|exact⟨rfl,HB5.out⟩|(refine⟨?_,HB5.out⟩;simp only[q1,q2,q3,q4])
theorem Zxr (h:On A s w) (va vs k:Nat) (h1:va<=4294967296) (h2:vs<=4294967296) (h40:40<=vs) (hk:k<5) (hv:Zac s.L s.es (va:Int) 40=0) (a x:Int) (c:Nat) (ha:0<=a) (ha2:a<=9223372036854775807) (hx:a/4096=x) (hc:c<4294967296):
 Calls Tryz.prog 151 #[vwV A va vs,iV k,iV a,iV c] w fun e w'=>e=.returned (.tuple #[])/\On A {s with mm:=Zmx s.mm va k x (c:Int)} w'/\Zam A w w':=by
 have h32:=Zwj h hv;obtain⟨t1,t2⟩:=Zq5 h hk hv;have e1:Zai (va+8*k) 8 0 4=((va+8*k:Nat):Int):=by have:=Zd5 (va:=va+8*k) (a:=0) (n:=4) (vs:=8) (by omega);simpa using this
 have e2:Zai (va+8*k) 8 4 4=((va+8*k+4:Nat):Int):=Zd5 (va:=va+8*k) (a:=4) (n:=4) (vs:=8) (by omega)
 have S1:Zbx s (Zai (va+8*k) 8 0 4) 4 x={s with mm:=Zb8 s.mm (va+8*k) (Zfk x 4)}/\Zb9 s.L s.es (Zai (va+8*k) 8 0 4) 4=0:=by
  rw[e1];unfold Zbx;rw[Yga,if_pos t1];exact⟨rfl,t1⟩
 have S2:Zbx {s with mm:=Zb8 s.mm (va+8*k) (Zfk x 4)} (Zai (va+8*k) 8 4 4) 4 (c:Int)={s with mm:=Zmx s.mm va k x (c:Int)}/\Zb9 s.L s.es (Zai (va+8*k) 8 4 4) 4=0:=by
  rw[e2];unfold Zbx;rw[Yga,if_pos t2];exact⟨rfl,t2⟩
 have hx0:0<=x:=by omega
 have hxb:x<=9223372036854775807:=by omega
 have H8:Hid (va+8*k<=4294967296):=hid (by omega);have HX0:=hid hx0;have HS1:=hid S1;have HS2:=hid S2
 have q0:a.tdiv 4096=x:=by rw[Int.tdiv_eq_ediv_of_nonneg ha];exact hx
 have q1:IntKind.i64.wrap x=x:=IntWalk.i64_in _ (by omega);have q2:IntKind.u64.wrap x=x:=by rw[IntKind.wrap_u64];omega
 have q3:IntKind.u64.wrap (c:Int)=(c:Int):=by rw[IntKind.wrap_u64];omega
 have q4:wrap64 x=x:=IntWalk.wrap64_in _ ⟨by omega,by omega⟩;have HQ:=hid (And.intro q0 (And.intro q1 (And.intro q2 (And.intro q3 q4))));have hxx:=h.below (Zaj w (.cells #[pT A,iV va,iV vs] 76));have HPL:=hid (Zn5 hxx va vs k h1 h2 h40 hk hv);have HX:=hid hxx;have HG:=hid (Zam.Zad h (Zaj w (.cells #[pT A,iV va,iV vs] 76)));clear h h32 t1 t2 e1 e2 S1 S2 q0 q1 q2 q3 q4 hxx hv hx hx0 hxb ha ha2;go_enter Tryz.func151,Tryz.ntmps151;go_wp2_with fail;refine HPL.out.mono ?_;rintro e w2 ⟨rfl,hb⟩;have HX2:=hid (HX.out.below hb);have HG2:=hid (HG.out.trans (Zam.Zad HX.out hb));clear hb HX HG HPL;go_upto_region 2 with fail;have hv:=B3.new 40 (some (aD A 0)) ((va+8*k:Nat):Int) (8:Nat) w2;have hb:=Zaj w2 (.cells #[pT A,iV ((va+8*k:Nat):Int),iV ((8:Nat):Int)] 40);have hxy:=HX2.out.below hb;have hgy:=HG2.out.trans (Zam.Zad HX2.out hb);obtain⟨y,hy⟩:=eX (w2.alloc (.cells #[pT A,iV ((va+8*k:Nat):Int),iV ((8:Nat):Int)] 40));obtain⟨O,hO⟩:=eX w2.heap.size;rw[hy]at hv hxy hgy;rw[hO]at hv;change Code.wp _ _ _ _ (w2.alloc (.cells #[pT A,iV ((va+8*k:Nat):Int),iV ((8:Nat):Int)] 40));rw[hy,hO];have HX3:=hid hxy;have HG3:=hid hgy;have HV3:=hid hv
 obtain⟨⟨v0,v1,v2⟩, -, -, -⟩:=hv.all;clear hy hO hxy hgy hb hv HX2 HG2;obtain⟨q0,q1,q2,q3,q4⟩:=HQ.out;go_wp2_with fail
 try simp only[q1,q4,q2]
 refine(Zdr HX3.out (va+8*k) 8 H8.out (by omega) 0 4 x (by omega) HX0.out).mono ?_
 rintro e w4 ⟨rfl,hx,hg⟩;rw[HS1.out.2];rw[HS1.out.1]at hx;have HX4:=hid hx;have HG4:=hid (HG3.out.trans hg);have hv:=HV3.out.Zaq HX3.out hg (by decide) (by decide) (by decide);clear hx hg HX3 HG3 HV3 v0 v1 v2;obtain⟨⟨v0,v1,v2⟩, -, -, -⟩:=hv.all;clear hv;go_wp2_with fail
 try simp only[q3]
 refine(Zdr HX4.out (va+8*k) 8 H8.out (by omega) 4 4 (c:Int) (by omega) (by omega)).mono ?_
 rintro e w5 ⟨rfl,hx,hg⟩;rw[HS2.out.2];rw[HS2.out.1]at hx;have HX5:=hid hx;have HG5:=hid (HG4.out.trans hg);clear hx hg HX4 HG4 v0 v1 v2 q0 q1 q2 q3 q4;go_wp2_with fail
 go_end0
 exact⟨rfl,HX5.out,HG5.out⟩
end
end
section
open Go Go.RowKit Go.Shelf
theorem Zbb.Yjg {A P n cap R:Nat} {s:ASt} {ps:List (Option Nat)} {p:Option Addr} {w:World} (h:ArX A s P ps p n cap w) (hm:Zbb A R w) (cs:Array Value):ArX A s P ps p n cap (w.setRow R cs):=
 h.kept (by rw[setRow_size];exact Nat.le_refl _) (setRow_other _ _ _ _ fun e=>hm.own ((Za0 h R).2 (.inl e.symm))) (setRow_other _ _ _ _ fun e=>hm.own ((Za0 h R).2 (.inr (.inl e.symm)))) (fun i b hb=>setRow_other _ _ _ _ fun e=>hm.own ((Za0 h R).2 (.inr (.inr ⟨i,e▸hb⟩))))
  (fun b off e=>setRow_other _ _ _ _ fun e2=>hm.edg ((Zbp h R).2 ⟨off,e2▸e⟩))
theorem On.row {A R:Nat} {s:ASt} {w:World} (h:On A s w) (hm:Zbb A R w) (cs:Array Value):On A s (w.setRow R cs):=by
 obtain⟨P,ps,p,n,cap,h⟩:=h;exact⟨P,ps,p,n,cap,Zbb.Yjg h hm cs⟩
theorem Zkn {A R:Nat} {s:ASt} {w:World} (h:On A s w) (hm:Zbb A R w) (cs:Array Value) (k:Nat):(Zpx A (w.setRow R cs) k↔Zpx A w k)/\(Ztr A (w.setRow R cs) k↔Ztr A w k):=by
 obtain⟨P,ps,p,n,cap,h⟩:=h;have h2:=Zbb.Yjg h hm cs
 exact⟨(Za0 h2 k).trans (Za0 h k).symm,(Zbp h2 k).trans (Zbp h k).symm⟩
theorem Zam.row {A R:Nat} {s:ASt} {w x:World} (k:Zam A w x) (h:On A s x) (hm:Zbb A R x) (hR:w.heap.size<=R) (cs:Array Value):Zam A w (x.setRow R cs):=
 ⟨k.os,k.tape,k.output,by rw[setRow_size];exact k.size,fun i hi hn=>(setRow_other _ _ _ _ (by omega)).trans (k.block i hi hn),fun i hi=>k.news i ((Zkn h hm cs i).1.1 hi),fun i hi=>k.edge i ((Zkn h hm cs i).2.1 hi)⟩
structure PuV (A:Nat) (s:ASt) (w:World) (B Cb va vs:Nat) (a o u x:Int) (W:World):Prop where
 on:On A s W
 wt:Zam A w W
 bb:B3 76 B (some (aD A 0)) va vs W
 cc:CB Cb a o u x W
 mi:Zbb A Cb W
 cs:w.heap.size<=Cb
 ne:B≠Cb
section
variable {A B Cb va vs:Nat} {s s':ASt} {a o u x:Int} {w W W':World}
theorem PuV.below (h:PuV A s w B Cb va vs a o u x W) (hb:Below W.heap.size W W'):PuV A s w B Cb va vs a o u x W':=
 ⟨h.on.below hb,h.wt.trans (Zam.Zad h.on hb),h.bb.below hb,Zba hb h.cc,h.mi.Zaq (Zam.Zad h.on hb),h.cs,h.ne⟩
theorem PuV.Zaq (h:PuV A s w B Cb va vs a o u x W) (ho:On A s' W') (hg:Zam A W W'):PuV A s' w B Cb va vs a o u x W':=
 ⟨ho,h.wt.trans hg,h.bb.Zaq h.on hg (by decide) (by decide) (by decide),hg.Zdn h.on h.cc (by decide) (by decide) (by decide),h.mi.Zaq hg,h.cs,h.ne⟩
theorem PuV.set (h:PuV A s w B Cb va vs a o u x W) (v:Int):PuV A s w B Cb va vs a o u v (W.setCell (aD Cb 3) (iV v)):=
 ⟨h.on.set h.mi 3 _,h.wt.set h.on h.mi h.cs 3 _,(Zah _ h.ne).trans h.bb,heap_set h.cc _,h.mi.set h.on h.mi 3 _,h.cs,h.ne⟩
theorem PuV.all (h:PuV A s w B Cb va vs a o u x W):
 (W.cell? (aD B 0)=some (pT A)/\W.cell? (aD B 1)=some (iV va)/\W.cell? (aD B 2)=some (iV vs))/\
 (W.cell? (aD Cb 0)=some (iV a)/\W.cell? (aD Cb 1)=some (iV o)/\W.cell? (aD Cb 2)=some (.int .u64 u)/\W.cell? (aD Cb 3)=some (iV x))/\W.frozen? (aD Cb 3)=false:=
 ⟨h.bb.all.1,h.cc.all,(Zaa h.cc 3).2⟩
theorem PuV.new (ho:On A s W) (hw:Zam A w W) (hb:B3 76 B (some (aD A 0)) va vs W) (hB:B<W.heap.size) (a o u x:Int):PuV A s w B W.heap.size va vs a o u x (W.alloc (.cells (cC a o u x) 71)):=
 ⟨ho.below (Zaj _ _),hw.trans (Zam.Zad ho (Zaj _ _)),hb.below (Zaj _ _),Zcq _ _ _ _ _,Zbb.new ho _,hw.size,by omega⟩
end
theorem Yc4 {s:ASt} {p k:Nat} (c:Zj6 s.L s.es s.mm p k):rdV s ((4096*p:Nat):Int)=.tuple #[.agg #[iV ((4096*p:Nat):Int),iV k,.int .u64 0,iV (rdX s.mm (4096*p))],iV 0]:=by
 unfold rdV;rw[if_pos c.there,if_pos c.st,Int.toNat_natCast,c.ord,c.own];rfl
section
variable {A:Nat} {s:ASt} {w:World}
theorem Zon (h:On A s w) {p k:Nat} {x:Int} (hk:k<5) (hx:0<=x) (hx2:x<=9223372036854775807) (ht:Zac s.L s.es ((4096*p:Nat):Int) 32=0) (hp:4096*p<=4294967296):
 Calls Tryz.prog 90 #[pT A,cV ((4096*p:Nat):Int) (k:Int) 0 x] w (Ret A {s with mm:=wrM s.mm (4096*p) ((4096*p:Nat):Int) (k:Int) 0 x} (iV 0) w):=by
 have:=Zic h ((4096*p:Nat):Int) (k:Int) 0 x (by omega) (by omega) hx2 (Zqs hk hx) ht
 rwa [Int.toNat_natCast]at this
theorem Zrp (h:On A s w) (va vs p k:Nat) (h1:va<=4294967296) (h2:vs<=4294967296) (h40:40<=vs) (hk:k<5) (hv:Zac s.L s.es (va:Int) 40=0) (c:Zj6 s.L s.es s.mm p k) (hC:hdC s.mm va k<4294967295) (hp:4096*p<=4294967296):
 Calls Tryz.prog 159 #[vwV A va vs,iV ((4096*p:Nat):Int)] w (Ret A {s with mm:=Zfj s.mm va k p} (iV 0) w):=by
 have HI:=hid (fun w=>Znl (k:Int) w);rw[decide_eq_true (show 0<=(k:Int)/\(k:Int)<=4 by omega)]at HI;have e1:Zai va vs 0 40=(va:Int):=by have:=Zd5 (va:=va) (a:=0) (n:=40) (vs:=vs) (by omega);simpa using this
 have E1:Hid (ofV (some (aD A 0)) (Zai va vs 0 40) 40 (Zac s.L s.es (Zai va vs 0 40) 40)=vwV A va 40/\Zac s.L s.es (Zai va vs 0 40) 40=0):=hid (by rw[e1,hv];exact⟨rfl,rfl⟩);have HRD:=hid (Yc4 c);obtain⟨X,hX⟩:=eX (rdX s.mm (4096*p));rw[hX]at HRD;have HH:=hid (fun(y:World) (hy:On A s y)=>Zf8 hy va vs k h1 h2 h40 hk hv);have hP:=(Zsx s.mm va k).1;have HW:=hid (fun(y:World) (hy:On A s y)=>Zon hy (x:=((4096*hdP s.mm va k:Nat):Int)) hk (by omega) (by omega) c.there hp);have HS:=hid (fun(y:World) (hy:On A {s with mm:=wrM s.mm (4096*p) ((4096*p:Nat):Int) (k:Int) 0 ((4096*hdP s.mm va k:Nat):Int)} y)=>Zxr hy va vs k h1 h2 h40 hk hv ((4096*p:Nat):Int) (p:Int) (hdC s.mm va k+1) (by omega) (by omega) (by omega) (by omega));have ep:Zfj s.mm va k p=Zmx (wrM s.mm (4096*p) ((4096*p:Nat):Int) (k:Int) 0 ((4096*hdP s.mm va k:Nat):Int)) va k (p:Int) ((hdC s.mm va k+1:Nat):Int):=rfl;rw[ep];generalize hdP s.mm va k=Q at*
 generalize hdC s.mm va k=Cn at*
 obtain⟨N,hN⟩:=eX (4096*Q:Nat);rw[hN]at HH HW HS⊢;obtain⟨a,ha⟩:=eX (((4096*p:Nat):Int):Int);rw[ha]at HRD HW HS⊢;obtain⟨m1,hm1⟩:=eX (wrM s.mm (4096*p) a (k:Int) 0 (N:Int));rw[hm1]at HW HS⊢;have q1:IntKind.i64.wrap ((Cn:Int)+1)=((Cn+1:Nat):Int):=by rw[IntWalk.i64_in _ (by omega)];omega
 have q2:wrap64 ((Cn:Int)+1)=((Cn+1:Nat):Int):=by rw[IntWalk.wrap64_in _ ⟨by omega,by omega⟩];omega
 have HQ:=hid (And.intro q1 q2);have HA:Hid (a<=9223372036854775807):=hid (by omega);have hx:=h.below (Zaj w (.cells #[pT A,iV va,iV vs] 76));have hg:=Zam.Zad h (Zaj w (.cells #[pT A,iV va,iV vs] 76));have hb:=B3.new 76 (some (aD A 0)) va vs w;clear h e1 hv c hC hP hX ep hN hm1 q1 q2;go_enter Tryz.func159,Tryz.ntmps159;go_upto_region 1 with fail;obtain⟨x,hxx⟩:=eX (w.alloc (.cells #[pT A,iV va,iV vs] 76));obtain⟨B,hB⟩:=eX w.heap.size;rw[hxx]at hx hg hb;rw[hB]at hb;change Code.wp _ _ _ _ (w.alloc (.cells #[pT A,iV va,iV vs] 76));rw[hxx,hB];clear hxx hB;have HX:=hid hx;have HG:=hid hg;have HBB:=hid hb
 obtain⟨⟨b0,b1,b2⟩, -, -, -⟩:=hb.all;clear hx hg hb ha hp;go_wp2_with fail
 refine(Zcl HX.out va vs h1 h2 0 40 (by omega)).mono ?_
 rintro e w2 ⟨rfl,hb⟩;rw[E1.out.1,E1.out.2];have HX2:=hid (HX.out.below hb);have HG2:=hid (HG.out.trans (Zam.Zad HX.out hb));have HBB2:=hid (HBB.out.below hb)
 clear hb HX HG HBB b0 b1 b2;go_upto_region 2 with fail;have hb:=Zaj w2 (.cells #[pT A,iV va,iV ((40:Nat):Int)] 40);have hx:=HX2.out.below hb;have hg:=HG2.out.trans (Zam.Zad HX2.out hb);have hbb:=HBB2.out.below hb;obtain⟨y,hy⟩:=eX (w2.alloc (.cells #[pT A,iV va,iV ((40:Nat):Int)] 40));rw[hy]at hx hg hbb;change Code.wp _ _ _ _ (w2.alloc (.cells #[pT A,iV va,iV ((40:Nat):Int)] 40));rw[hy];have HX:=hid hx;have HG:=hid hg;have HBB:=hid hbb
 obtain⟨⟨b0,b1,b2⟩, -, -, -⟩:=hbb.all;clear hx hg hbb hb hy HX2 HG2 HBB2;go_wp2_with fail
 refine(Ze5 HX.out a HA.out).mono ?_
 rintro e w4 ⟨rfl,hb⟩;rw[HRD.out];have HX4:=hid (HX.out.below hb);have HG4:=hid (HG.out.trans (Zam.Zad HX.out hb));have HBB4:=hid (HBB.out.below hb)
 clear hb HX HG HBB b0 b1 b2;go_upto_region 5 with fail;have hpv:=PuV.new HX4.out HG4.out HBB4.out (Array.getElem?_eq_some_iff.1 HBB4.out).1 a (k:Int) 0 X;obtain⟨z,hz⟩:=eX (w4.alloc (.cells (cC a (k:Int) 0 X) 71));obtain⟨Cb,hCb⟩:=eX w4.heap.size;rw[hz,hCb]at hpv;change Code.wp _ _ _ _ (w4.alloc (.cells (cC a (k:Int) 0 X) 71));rw[hz,hCb];have HP:=hid hpv;obtain⟨⟨b0,b1,b2⟩,⟨c0,c1,c2,c3⟩,f3⟩:=hpv.all;clear hpv hz hCb HX4 HG4 HBB4;go_wp2_with fail
 refine(HI.out _).mono ?_
 rintro e w5 ⟨rfl,rfl⟩;go_wp2_with fail
 refine(HH.out _ HP.out.on).mono ?_
 rintro e w6 ⟨rfl,hb⟩;have hpv:=HP.out.below hb;have HP6:=hid hpv;clear b0 b1 b2 c0 c1 c2 c3 f3 hb HP;obtain⟨⟨b0,b1,b2⟩,⟨c0,c1,c2,c3⟩,f3⟩:=hpv.all;clear hpv;go_upto_region 13 with fail;have hpv:=HP6.out.set (N:Int);obtain⟨v,hv⟩:=eX (w6.setCell (aD Cb 3) (iV N));rw[hv]at hpv;change Code.wp _ _ _ _ (w6.setCell (aD Cb 3) (iV N));rw[hv];have HP7:=hid hpv;clear b0 b1 b2 c0 c1 c2 c3 f3 hv HP6;obtain⟨⟨b0,b1,b2⟩,⟨c0,c1,c2,c3⟩,f3⟩:=hpv.all;clear hpv;go_wp2_with fail
 refine(HW.out _ HP7.out.on).mono ?_
 rintro e w8 ⟨rfl,hx,hg⟩;have hpv:=HP7.out.Zaq hx hg;have HP8:=hid hpv;clear b0 b1 b2 c0 c1 c2 c3 f3 hx hg HP7;obtain⟨⟨b0,b1,b2⟩,⟨c0,c1,c2,c3⟩,f3⟩:=hpv.all;clear hpv;have q1:=HQ.out.1;have q2:=HQ.out.2;go_wp2_with fail
 try simp only[HQ.out.1]
 refine(HS.out _ HP8.out.on).mono ?_
 rintro e w9 ⟨rfl,hx,hg⟩;have HF:=hid (And.intro hx (HP8.out.wt.trans hg));clear b0 b1 b2 c0 c1 c2 c3 f3 hx hg HP8 q1 q2;go_wp2_with fail
 go_ret
 exact⟨rfl,HF.out.1,HF.out.2⟩
theorem Zxs (h:On A s w) (va vs p k:Nat) (h1:va<=4294967296) (h2:vs<=4294967296) (h40:40<=vs) (hk:k<5) (hv:Zac s.L s.es (va:Int) 40=0) (c:Zj6 s.L s.es s.mm p k) (hC:hdC s.mm va k≠0) (hP:hdP s.mm va k=p) (hp:4096*p<=4294967296):
 Calls Tryz.prog 83 #[vwV A va vs,iV k] w (Ret A {s with mm:=Zhg s.mm va k p} (.tuple #[cV ((4096*p:Nat):Int) (k:Int) 0 0,.bool true]) w):=by
 have HH:=hid (fun(y:World) (hy:On A s y)=>Zf8 hy va vs k h1 h2 h40 hk hv);rw[hP]at HH;have HRD:=hid (Yc4 c);have hX0:0<=rdX s.mm (4096*p):=by have:=Zur c.st;rwa [Int.toNat_natCast]at this
 have hX1:rdX s.mm (4096*p)<=9223372036854775807:=by unfold rdX wrap64;omega
 have hCl:=(Zsx s.mm va k).2;have HW:=hid (fun(y:World) (hy:On A s y)=>Zon hy (x:=0) hk (by omega) (by omega) c.there hp);have HS:=hid (fun(y:World) (hy:On A {s with mm:=wrM s.mm (4096*p) ((4096*p:Nat):Int) (k:Int) 0 0} y)=>Zxr hy va vs k h1 h2 h40 hk hv (rdX s.mm (4096*p)) (rdX s.mm (4096*p)/4096) (hdC s.mm va k-1) hX0 hX1 rfl (by omega));have ep:Zhg s.mm va k p=Zmx (wrM s.mm (4096*p) ((4096*p:Nat):Int) (k:Int) 0 0) va k (rdX s.mm (4096*p)/4096) ((hdC s.mm va k-1:Nat):Int):=rfl;rw[ep];generalize hdC s.mm va k=Cn at*
 obtain⟨X,hX⟩:=eX (rdX s.mm (4096*p));rw[hX]at HRD HS⊢;obtain⟨a,ha⟩:=eX (((4096*p:Nat):Int):Int);rw[ha]at HH HRD HW HS⊢;obtain⟨m1,hm1⟩:=eX (wrM s.mm (4096*p) a (k:Int) 0 0);rw[hm1]at HW HS⊢;have q1:IntKind.i64.wrap ((Cn:Int)-1)=((Cn-1:Nat):Int):=by rw[IntWalk.i64_in _ (by omega)];omega
 have q2:wrap64 ((Cn:Int)-1)=((Cn-1:Nat):Int):=by rw[IntWalk.wrap64_in _ ⟨by omega,by omega⟩];omega
 have HQ:=hid (And.intro q1 q2);have d0:((Cn:Int)==0)=false:=by simpa using hC
 have HD:Hid (decide ((Cn:Int)=0)=false):=hid (by simpa using hC);have HA:Hid (a<=9223372036854775807):=hid (by omega);have hx:=h.below (Zbm w (.cells #[pT A,iV va,iV vs] 76) (.cells (cC 0 0 0 0) 71));have hg:=Zam.Zad h (Zbm w (.cells #[pT A,iV va,iV vs] 76) (.cells (cC 0 0 0 0) 71))
 have hmi:Zbb A (w.heap.size+1) ((w.alloc (.cells #[pT A,iV va,iV vs] 76)).alloc (.cells (cC 0 0 0 0) 71)):=by
  have:=Zbb.new (h.below (Zaj w (.cells #[pT A,iV va,iV vs] 76))) (.cells (cC 0 0 0 0) 71)
  simpa only[World.size_alloc]using this
 have hpr:=Zbk w #[pT A,iV va,iV vs] (cC 0 0 0 0) 76 71;have HSZ:Hid (∀a o u x,(Tryz.prog.info? 71).map (·.size)=some (cC a o u x).size):=hid (fun a o u x=>Tryz.Zlx);clear h hv c hC hP hX ep hm1 q1 q2 hX0 hX1 hCl;go_enter Tryz.func83,Tryz.ntmps83;go_upto_region 1 with fail;obtain⟨x,hxx⟩:=eX ((w.alloc (.cells #[pT A,iV va,iV vs] 76)).alloc (.cells (cC 0 0 0 0) 71));obtain⟨B,hB⟩:=eX w.heap.size;have hBR:=hid (show w.heap.size<=B+1 by omega);rw[hxx]at hx hg hpr hmi;rw[hB]at hpr hmi;change Code.wp _ _ _ _ ((w.alloc (.cells #[pT A,iV va,iV vs] 76)).alloc (.cells (cC 0 0 0 0) 71))
 try simp only[World.size_alloc]
 rw[hxx,hB];clear hxx hB;have hb:B3 76 B (some (aD A 0)) va vs x:=hpr.1;have hr:CB (B+1) 0 0 0 0 x:=hpr.2;have hmr:Zbb A (B+1) x:=hmi;have HX:=hid hx;have HG:=hid hg;have HBB:=hid hb;have HR:=hid hr;have HMR:=hid hmr
 obtain⟨⟨b0,b1,b2⟩, -, -, -⟩:=hb.all;clear hx hg hb ha hp hpr hr hmr hmi;go_wp2_with fail
 refine(HH.out _ HX.out).mono ?_
 rintro e w2 ⟨rfl,hb⟩;have HX2:=hid (HX.out.below hb);have HG2:=hid (HG.out.trans (Zam.Zad HX.out hb));have HBB2:=hid (HBB.out.below hb)
 have HR2:=hid (show CB (B+1) 0 0 0 0 w2 from Zba hb HR.out);have HM2:=hid (HMR.out.Zaq (Zam.Zad HX.out hb));have hbb:=HBB2.out;clear hb HX HG HBB HR b0 b1 b2;obtain⟨⟨b0,b1,b2⟩, -, -, -⟩:=hbb.all;clear hbb;have hd:=HD.out;go_wp2_with fail
 refine(Ze5 HX2.out a HA.out).mono ?_
 rintro e w4 ⟨rfl,hb⟩;rw[HRD.out];have HX4:=hid (HX2.out.below hb);have HG4:=hid (HG2.out.trans (Zam.Zad HX2.out hb));have HBB4:=hid (HBB2.out.below hb)
 have HR4:=hid (show CB (B+1) 0 0 0 0 w4 from Zba hb HR2.out);have HM4:=hid (HM2.out.Zaq (Zam.Zad HX2.out hb));clear hb HX2 HG2 HBB2 HR2 b0 b1 b2 hd d0;go_upto_region 5 with fail;have hpv:=PuV.new HX4.out HG4.out HBB4.out (Array.getElem?_eq_some_iff.1 HBB4.out).1 a (k:Int) 0 X;have hr:=(show CB (B+1) 0 0 0 0 (w4.alloc (.cells (cC a (k:Int) 0 X) 71))from Zba (Zaj _ _) HR4.out);have hm5:=HM4.out.Zaq (Zam.Zad HX4.out (Zaj w4 (.cells (cC a (k:Int) 0 X) 71)));have hne:B+1≠w4.heap.size:=by have:=(Array.getElem?_eq_some_iff.1 HR4.out).1;omega
 obtain⟨z,hz⟩:=eX (w4.alloc (.cells (cC a (k:Int) 0 X) 71));obtain⟨Cb,hCb⟩:=eX w4.heap.size;rw[hz,hCb]at hpv;rw[hz]at hr hm5;rw[hCb]at hne;change Code.wp _ _ _ _ (w4.alloc (.cells (cC a (k:Int) 0 X) 71));rw[hz,hCb];have HP:=hid hpv;have HR5:=hid hr;have HNE:=hid hne;have HM5:=hid hm5
 obtain⟨⟨b0,b1,b2⟩,⟨c0,c1,c2,c3⟩,f3⟩:=hpv.all;clear hpv hz hCb HX4 HG4 HBB4 HR4 hr hne hm5;go_upto_region 9 with fail;have hpv:=HP.out.set 0;have hm6:=Zbb.set HP.out.on HP.out.mi HM5.out 3 (iV 0);have hr:CB (B+1) 0 0 0 0 (z.setCell (aD Cb 3) (iV 0)):=(Zah _ HNE.out).trans HR5.out;obtain⟨v,hv⟩:=eX (z.setCell (aD Cb 3) (iV 0));rw[hv]at hpv hr hm6;have HM6:=hid hm6;clear hm6;change Code.wp _ _ _ _ (z.setCell (aD Cb 3) (iV 0));rw[hv];have HP7:=hid hpv;have HR7:=hid hr
 clear b0 b1 b2 c0 c1 c2 c3 f3 hv HP HR5 hr;obtain⟨⟨b0,b1,b2⟩,⟨c0,c1,c2,c3⟩,f3⟩:=hpv.all;clear hpv;go_wp2_with fail
 refine(HW.out _ HP7.out.on).mono ?_
 rintro e w8 ⟨rfl,hx,hg⟩;have hpv:=HP7.out.Zaq hx hg;have HP8:=hid hpv;have HM8:=hid (HM6.out.Zaq hg);have HR8:=hid (show CB (B+1) 0 0 0 0 w8 from hg.Zdn HP7.out.on HR7.out (by decide) (by decide) (by decide));clear b0 b1 b2 c0 c1 c2 c3 f3 hx hg HP7 HR7;obtain⟨⟨b0,b1,b2⟩,⟨c0,c1,c2,c3⟩,f3⟩:=hpv.all;clear hpv;have q1:=HQ.out.1;have q2:=HQ.out.2;go_wp2_with fail
 try simp only[HQ.out.1]
 refine(HS.out _ HP8.out.on).mono ?_
 rintro e w9 ⟨rfl,hx,hg⟩;have hpv:=HP8.out.Zaq hx hg;have HP9:=hid hpv;have HM9:=hid (HM8.out.Zaq hg);have HR9:=hid (show CB (B+1) 0 0 0 0 w9 from hg.Zdn HP8.out.on HR8.out (by decide) (by decide) (by decide));clear b0 b1 b2 c0 c1 c2 c3 f3 hx hg HP8 HR8 q1 q2;obtain⟨⟨b0,b1,b2⟩,⟨c0,c1,c2,c3⟩,f3⟩:=hpv.all;clear hpv;have hrow:=HR9.out
 go_wp2_with (first|(refine wpList_store_row rfl 71 (.tmp 4) (.tmp 49) rfl (B+1) (cC a (k:Int) 0 0) rfl rfl 71 (cC 0 0 0 0) HR9.out (HSZ.out _ _ _ _) rfl (Zjy _ _ _ _) ?_))
 have hl:=run_loadVar_row (P:=Tryz.prog) (w9.setRow (B+1) (cC a (k:Int) 0 0)) (B+1) 71 71 (cC a (k:Int) 0 0) (0,0) _ (Zby HR9.out _) Tryz.underlying71 rfl (HSZ.out _ _ _ _);exact bodyPost_ret (v:=.tuple #[cV a (k:Int) 0 0,.bool true]) (by simp[results,Tryz.results83,asAddr,hl,Act.put];rfl) rfl ⟨rfl,HP9.out.on.row HM9.out _,HP9.out.wt.row HP9.out.on HM9.out hBR.out _⟩
end
end
section
open Go Go.RowKit Go.Shelf
def Zf5 (C:Nat->Nat) (o:Int) (k:Nat):Bool:=decide (o<=(k:Int))&&decide (0<C k)
def lsV (C:Nat->Nat) (o:Int):Value:=match(List.range 5).find? (Zf5 C o)with
 |some k=> .tuple #[iV k,.bool true]
 |none=> .tuple #[iV 0,.bool false]
theorem Ybv {C:Nat->Nat} {o:Int} {i:Nat} (hi:i<5) (h:Zf5 C o i=true) (hj:∀j,j<i->Zf5 C o j=false):lsV C o=.tuple #[iV i,.bool true]:=by
 have:(List.range 5).find? (Zf5 C o)=some i:=List.find?_range_eq_some.2 ⟨h,List.mem_range.2 hi,fun j hj'=>by rw[hj j hj'];rfl⟩
 unfold lsV;rw[this]
theorem Zqt {C:Nat->Nat} {o:Int} (hj:∀j,j<5->Zf5 C o j=false):lsV C o=.tuple #[iV 0,.bool false]:=by
 have:(List.range 5).find? (Zf5 C o)=none:=List.find?_range_eq_none.2 fun j hj'=>by rw[hj j hj'];rfl
 unfold lsV;rw[this]
theorem Zgy {C:Nat->Nat} {o:Int} {i:Nat} (h:Zf5 C o i=false) (k:∀j,j<i->Zf5 C o j=false):∀j,j<i+1->Zf5 C o j=false:=fun j hj=>by
 by_cases e:j=i
 · rw[e];exact h
 · exact k j (by omega)
def Zfz (C:Nat->Nat):Nat->Nat
 |0=>0
 |k+1=>Zfz C k+C k*2^k
theorem Zgm {C:Nat->Nat} (h:∀k,C k<4294967296):∀k,k<=5->Zfz C k<=k*68719476736
 |0,_=>by simp[Zfz]
 |k+1,hk=>by
  unfold Zfz;have h1:=Zgm h k (by omega);have h2:=h k;have h3:2^k<=2^4:=Nat.pow_le_pow_right (by omega) (by omega);have h4:C k*2^k<=4294967296*2^4:=Nat.mul_le_mul (by omega) h3;omega
def Yjn (C:Nat->Nat) (o:Int) (B:Nat) (pa:Option Addr) (va vs:Nat) (w:World) (s9:Value) (wr:World):Prop:=
 ∃i:Nat,i<=5/\s9=iV i/\(∀j,j<i->Zf5 C o j=false)/\Below w.heap.size w wr/\B3 76 B pa va vs wr
def Yjr (C:Nat->Nat) (B:Nat) (pa:Option Addr) (va vs:Nat) (w:World) (s7 s3:Value) (wr:World):Prop:=
 ∃i:Nat,i<=5/\s7=iV i/\s3=iV ((Zfz C i:Nat):Int)/\Below w.heap.size w wr/\B3 76 B pa va vs wr
section
variable {w:World}
theorem Ztj (pa:Option Addr) (va vs:Nat) (N C:Nat->Nat) (o:Int)
 (HH:∀(X:World) (k:Nat),Below w.heap.size w X->k<5->Calls Tryz.prog 94 #[.agg #[.pointer pa,iV va,iV vs],iV k] X (Zan (.tuple #[iV ((N k:Nat):Int),iV ((C k:Nat):Int)]) X)):
 Calls Tryz.prog 157 #[.agg #[.pointer pa,iV va,iV vs],iV o] w (Zan (lsV C o) w):=by
 have HHH:=hid HH;have hb:=Zaj w (.cells #[.pointer pa,iV va,iV vs] 76);have hv:=B3.new 76 pa va vs w;clear HH;go_enter Tryz.func157,Tryz.ntmps157;go_upto_region 1 with fail;obtain⟨x,hxx⟩:=eX (w.alloc (.cells #[.pointer pa,iV va,iV vs] 76));obtain⟨B,hB⟩:=eX w.heap.size;rw[hxx]at hb hv;rw[hB]at hv;change Code.wp _ _ _ _ (w.alloc (.cells #[.pointer pa,iV va,iV vs] 76));rw[hxx,hB];have HST:Hid (Yjn C o B pa va vs w (iV 0) x):=hid ⟨0,by omega,rfl,fun j hj=>by omega,hb,hv⟩;clear hxx hB hb hv;go_wp2_with fail
 go_loopw[9] (fun s9 wr=>Yjn C o B pa va vs w s9 wr) (fun s9 _=>5-(intOf s9).toNat)
 case atStart=>exact HST.out
 case round=>
  obtain⟨i,hi,rfl,hall,hbel,hvar⟩:=hrel;have HALL:=hid hall;have HB:=hid hbel;have HV:=hid hvar
  clear hall hbel;by_cases h5:i<5
  · obtain⟨⟨b0,b1,b2⟩, -, -, -⟩:=hvar.all
    clear hvar;have HC:=hid (HHH.out wr i HB.out h5);obtain⟨n,hn⟩:=eX (N i);obtain⟨c,hc⟩:=eX (C i);rw[hn,hc]at HC;have HCI:=hid hc;clear hn hc;cases h1:decide (o<=(i:Int))with
    |true=>
     have h1':=of_decide_eq_true h1;cases h2:decide (0<c)with
     |true=>
      have hp:Zf5 C o i=true:=by unfold Zf5;rw[HCI.out,h1,h2];rfl
      have HRES:=hid (Ybv h5 hp HALL.out);clear hp;go_wp2_with fail;refine HC.out.mono ?_;rintro e w2 ⟨rfl,hb⟩;have HB2:=hid (HB.out.trans (hb.mono HB.out.size));clear hb b0 b1 b2;go_wp2_with fail
      go_ret2
      exact⟨by rw[HRES.out];rfl,HB2.out⟩
     |false=>
      have hp:Zf5 C o i=false:=by unfold Zf5;rw[HCI.out,h2];simp
      have HNP:=hid hp;clear hp;go_wp2_with fail;refine HC.out.mono ?_;rintro e w2 ⟨rfl,hb⟩;have HB2:=hid (HB.out.trans (hb.mono HB.out.size));have HV2:=hid (HV.out.below hb);clear hb b0 b1 b2;go_wp2_with fail;go_roundw
      case rel=>exact⟨i+1,by omega,by go_num,Zgy HNP.out HALL.out,HB2.out,HV2.out⟩
      case measure=>simp[intOf];omega
    |false=>
     have hp:Zf5 C o i=false:=by unfold Zf5;rw[h1];simp
     have HNP:=hid hp;clear hp;go_wp2_with fail;refine HC.out.mono ?_;rintro e w2 ⟨rfl,hb⟩;have HB2:=hid (HB.out.trans (hb.mono HB.out.size));have HV2:=hid (HV.out.below hb);clear hb b0 b1 b2;go_wp2_with fail;go_roundw
     case rel=>exact⟨i+1,by omega,by go_num,Zgy HNP.out HALL.out,HB2.out,HV2.out⟩
     case measure=>simp[intOf];omega
  · have e5:i=5:=by omega
    subst e5;have HRES:=hid (Zqt HALL.out);clear hvar h5 hi;go_wp2_with fail
    go_ret2
    exact⟨by rw[HRES.out];rfl,HB.out⟩
theorem Ztl (pa:Option Addr) (va vs:Nat) (N C:Nat->Nat) (hC:∀k,C k<4294967296)
 (HH:∀(X:World) (k:Nat),Below w.heap.size w X->k<5->Calls Tryz.prog 94 #[.agg #[.pointer pa,iV va,iV vs],iV k] X (Zan (.tuple #[iV ((N k:Nat):Int),iV ((C k:Nat):Int)]) X)):
 Calls Tryz.prog 32 #[.agg #[.pointer pa,iV va,iV vs]] w (Zan (iV ((Zfz C 5:Nat):Int)) w):=by
 have HHH:=hid HH;have HLT:=hid hC;have hb:=Zaj w (.cells #[.pointer pa,iV va,iV vs] 76);have hv:=B3.new 76 pa va vs w;clear HH hC;go_enter Tryz.func32,Tryz.ntmps32;go_upto_region 1 with fail;obtain⟨x,hxx⟩:=eX (w.alloc (.cells #[.pointer pa,iV va,iV vs] 76));obtain⟨B,hB⟩:=eX w.heap.size;rw[hxx]at hb hv;rw[hB]at hv;change Code.wp _ _ _ _ (w.alloc (.cells #[.pointer pa,iV va,iV vs] 76));rw[hxx,hB];have HST:Hid (Yjr C B pa va vs w (iV 0) (iV 0) x):=hid ⟨0,by omega,rfl,rfl,hb,hv⟩;clear hxx hB hb hv;go_wp2_with fail
 go_loopw[7,3] (fun s7 s3 wr=>Yjr C B pa va vs w s7 s3 wr) (fun s7 _ _=>5-(intOf s7).toNat)
 case atStart=>exact HST.out
 case round=>
  obtain⟨i,hi,rfl,rfl,hbel,hvar⟩:=hrel;have HB:=hid hbel;have HV:=hid hvar
  clear hbel;by_cases h5:i<5
  · obtain⟨⟨b0,b1,b2⟩, -, -, -⟩:=hvar.all
    clear hvar;have HC:=hid (HHH.out wr i HB.out h5);obtain⟨n,hn⟩:=eX (N i);have hl1:=Zgm HLT.out i (by omega);have hl2:=Zgm HLT.out (i+1) (by omega);have hs:Zfz C (i+1)=Zfz C i+C i*2^i:=rfl;have h3:2^i<=2^4:=Nat.pow_le_pow_right (by omega) (by omega);have h4:C i*2^i<=4294967296*2^4:=Nat.mul_le_mul (Nat.le_of_lt (HLT.out i)) h3;have hpc:((C i:Nat):Int)*2^i=((C i*2^i:Nat):Int):=by push_cast;rfl
    obtain⟨t,ht⟩:=eX (C i*2^i);obtain⟨c,hc⟩:=eX (C i);obtain⟨g,hg⟩:=eX (Zfz C i);obtain⟨g2,hg2⟩:∃g,Zfz C (i+1)=g:=⟨_,rfl⟩
    rw[ht]at hs h4 hpc;rw[hn,hc]at HC;rw[hc]at hpc;rw[hg]at hs hl1⊢;rw[hg2]at hs hl2;have HG2:=hid hg2;have q1:IntKind.i64.wrap ((c:Int)*2^i)=(t:Int):=by rw[hpc];exact IntWalk.i64_in _ (by omega)
    have q2:wrap64 ((c:Int)*2^i)=(t:Int):=by rw[hpc];exact IntWalk.wrap64_in _ ⟨by omega,by omega⟩
    have q3:wrap64 ((g:Int)+(t:Int))=(g2:Int):=by rw[IntWalk.wrap64_in _ ⟨by omega,by omega⟩];omega
    have HQ:=hid (And.intro q1 (And.intro q2 q3));clear hn hc hg hg2 ht hpc hl1 hl2 hs h3 h4 q1 q2 q3;go_wp2_with fail;refine HC.out.mono ?_;rintro e w2 ⟨rfl,hb⟩;have HB2:=hid (HB.out.trans (hb.mono HB.out.size));have HV2:=hid (HV.out.below hb);clear hb b0 b1 b2;obtain⟨q1,q2,q3⟩:=HQ.out;go_wp2_with fail;go_roundw
    case rel=>exact⟨i+1,by omega,by go_num,by rw[HG2.out];first|rfl|(congr 1)|trace_state,HB2.out,HV2.out⟩
    case measure=>simp[intOf];omega
  · have e5:i=5:=by omega
    subst e5;obtain⟨g,hg⟩:=eX (Zfz C 5);have HGG:=hid hg;rw[hg];clear hvar h5 hi hg;go_wp2_with fail
    go_ret
    exact⟨by rw[HGG.out];rfl,HB.out⟩
end
end
section
open Go Go.RowKit Go.Shelf
theorem Yb9 (pa:Option Addr) (va vs:Nat) (w:World):Calls Tryz.prog 93 #[.agg #[.pointer pa,iV va,iV vs]] w (Zan (.agg #[.pointer pa,iV va,iV vs]) w):=by
 go_enter Tryz.func93,Tryz.ntmps93;go_wp2_with fail;exact bodyPost_ret (v:=.agg #[.pointer pa,iV va,iV vs]) (by simp[results,Tryz.results93,go_sem]) rfl ⟨rfl,Zbm _ _ _⟩
def s13 (m:Nat->UInt8):ASt:=⟨13,[0,12],m,false,0⟩
theorem Ygp:Good 13 [0,12]:=⟨by simp[Zcc],by simp,(fun e h=>by simp at h;omega),by omega⟩
theorem Zhc {a k:Int} (h0:0<=a) (h1:0<=k) (h2:a+k<=49152):Zac 13 [0,12] a k=0:=by
 unfold Zac;rw[if_pos]
 exact(Zax Ygp a k).2 ⟨h0,h1,by omega,fun i i1 i2=>by have:=Zgz (L:=12) (by omega) (i/4096);rw[this];simp;omega⟩
theorem Ygb:Zau (Zco 13) 0 12=0/\Zaw (Zco 13) 0 12=s13 (fun _=>0):=by
 have he:Zau (Zco 13) 0 12=0:=by decide
 refine⟨he,?_⟩
 unfold Zau at he;unfold Zaw;have hn:¬(Zb6 (Zco 13).L 0 12≠0\/0<Zc6 (Zco 13).L (Zco 13).es 0 12):=by decide
 rw[if_neg hn,show Zd7 (Zco 13)=false from rfl];show ASt.mk _ _ _ _ _=_;rw[show Zcd (Zco 13).L (Zco 13).es 0 12 true=[0,12]from by decide];rfl
def Yfa (m:Nat->UInt8) (q:Nat->List Nat):Prop:=Bn 13 [0,12] m 100 q
theorem Ya6:Yfa (fun _=>0) fun _=>[]:=Bn.zero (Zhc (by omega) (by omega) (by omega)) fun _ _ _=>rfl
def Ybf (m:Nat->UInt8) (o:Nat->Nat) (i:Nat) (x:Int):Nat->UInt8:=wrM m (4096*(i+1)) ((4096*(i+1):Nat):Int) ((o i%5:Nat):Int) 0 x
theorem Zxu {m:Nat->UInt8} {o:Nat->Nat} {i:Nat} (b:Yfa m (bq o i)) (hi:i<11) {x:Int} (hx:0<=x) (hx2:x<=9223372036854775807):
 Zj6 13 [0,12] (Ybf m o i x) (i+1) (o i%5)/\hdC (Ybf m o i x) 100 (o i%5)<4294967295/\Yfa (Zfj (Ybf m o i x) 100 (o i%5) (i+1)) (bq o (i+1)):=by
 have hk:o i%5<5:=Nat.mod_lt _ (by omega);have hn:∀j,j<5->i+1∉bq o i j:=fun j _ h=>by have:=Zrn o h;omega
 have c:=(Zt0 (L:=13) (es:=[0,12]) m (p:=i+1) (x:=x) hk hx hx2 (Zhc (by omega) (by omega) (by omega))).1;have b1:=Bn.wr b ((o i%5:Nat):Int) 0 x hn (.inl (by omega));have hl:=Zro o i (o i%5)
 refine⟨c,?_,?_⟩
 · show hdC (wrM _ _ _ _ _ _) 100 _<_
   rw[b1.many _ hk];omega
 · exact b1.push hk c (hn _ hk) (.inl (by omega)) (by omega) (by omega)
theorem Zxv {m:Nat->UInt8} {o:Nat->Nat} {i:Nat} (b:Yfa m (bq o (i+1))) (hi:i<11):
 Zj6 13 [0,12] m (i+1) (o i%5)/\hdC m 100 (o i%5)≠0/\hdP m 100 (o i%5)=i+1/\Yfa (Zhg m 100 (o i%5) (i+1)) (bq o i)/\Zj6 13 [0,12] (Zhg m 100 (o i%5) (i+1)) (i+1) (o i%5)/\rdX (Zhg m 100 (o i%5) (i+1)) (4096*(i+1))=0:=by
 have hk:o i%5<5:=Nat.mod_lt _ (by omega);obtain⟨e1,e2⟩:=Yeg o i;have hm:i+1∈bq o (i+1) (o i%5):=by rw[e1];simp
 have hl:=Zro o (i+1) (o i%5);have hp:=Bn.pop b hk e1 (by omega) (fun p hp=>by have:=Zrn o hp;omega);rw[e2]at hp
 refine⟨b.at_ _ hk _ hm,?_,b.top _ hk _ _ e1,hp.1,hp.2.1,hp.2.2⟩
 rw[b.many _ hk,e1];simp
structure Ztw (A R:Nat) (s:ASt) (w0 x:World):Prop where
 v:B3 76 R (some (aD A 0)) (100:Nat) (44:Nat) x
 o:On A s x
 b:Ze0 A w0 x
theorem Ztw.below {R A:Nat} {s:ASt} {w0 x y:World} (h:Ztw A R s w0 x) (hb:Below x.heap.size x y):Ztw A R s w0 y:=⟨h.v.below hb,h.o.below hb,h.b.below h.o hb⟩
theorem Ztw.Zaq {R A:Nat} {s s':ASt} {w0 x y:World} (h:Ztw A R s w0 x) (ho:On A s' y) (hg:Zam A x y):Ztw A R s' w0 y:=⟨h.v.Zaq h.o hg (by decide) (by decide) (by decide),ho,h.b.Zaq hg⟩
theorem Ztw.all {R A:Nat} {s:ASt} {w0 x:World} (h:Ztw A R s w0 x):x.cell? (aD R 0)=some (pT A)/\x.cell? (aD R 1)=some (iV 100)/\x.cell? (aD R 2)=some (iV 44):=h.v.all.1
theorem Ztw.start {A:Nat} {s:ASt} {w0 x:World} (ho:On A s x) (hb:Ze0 A w0 x):Ztw A x.heap.size s w0 (x.alloc (.cells #[pT A,iV 100,iV 44] 76)):=
 ⟨Zab _ _,ho.below (Zaj _ _),hb.below ho (Zaj _ _)⟩
def Yhi (w:World) (e:Ending) (w':World):Prop:=
 ∃A,e=.returned (.tuple #[pT A,.agg #[pT A,iV 100,iV 44],.bool true])/\On A (s13 (fun _=>0)) w'/\Ze0 A w w'
theorem Yf8 (w:World):Calls Tryz.prog 171 #[] w (Yhi w):=by
 have L1:Hid (Zhl 13=13):=hid (by decide);have E1:Hid (Zau (Zco 13) 0 12=0):=hid Ygb.1;have S1:Hid (Zaw (Zco 13) 0 12=s13 (fun _=>0)):=hid Ygb.2;have T1:Hid (Zac (s13 fun _=>0).L (s13 fun _=>0).es 100 44=0):=hid (Zhc (by omega) (by omega) (by omega));have HV:Hid (∀pu a k,ofV pu a k 0=.agg #[.pointer pu,iV a,iV k]):=hid fun pu a k=>by unfold ofV;rw[if_pos rfl]
 unfold Yhi;go_enter Tryz.func171,Tryz.ntmps171;go_wp2_with fail
 refine(Zh3 13 _).mono ?_
 rintro e w1 ⟨A,rfl,hA,hx,hb,hm⟩;rw[L1.out]at hx;have HX1:=hid hx;have HB1:=hid (show Ze0 A w w1 from hb.Zhz (Zaj w (.cells #[.pointer none,iV 0,iV 0] 76)));have HM1:=hid (hm w.heap.size (by simp));have HR1:=hid ((hb.bel.block w.heap.size (by simp)).trans (Zab w (.cells #[.pointer none,iV 0,iV 0] 76)));clear hx hb hA hm;go_wp2_with fail
 refine(Zd1 HX1.out 0 12 (by omega)).mono ?_
 rintro e w2 ⟨rfl,hx,hg⟩;rw[E1.out];rw[S1.out]at hx
 have HX2:=hid hx;have HB2:=hid (HB1.out.Zaq hg);have HR2:=hid (HM1.out.at hg HR1.out);have HM2:=hid (HM1.out.Zaq hg);clear hx hg;go_wp2_with fail
 refine(Zgw HX2.out 100 44 (by omega)).mono ?_
 rintro e w3 ⟨rfl,hb⟩;rw[T1.out,HV.out];have HX3:=hid (HX2.out.below hb);have HB3:=hid (HB2.out.below HX2.out hb);have HR3:=hid ((hb.block _ (Array.getElem?_eq_some_iff.1 HR2.out).1).trans HR2.out);have HM3:=hid (HM2.out.Zaq (Zam.Zad HX2.out hb));clear hb;go_wp2_with fail;have bV:=hid (Zaj w3 (.cells #[pT A,iV 100,iV 44] 40))
 refine(Yb9 (some (aD A 0)) 100 44 _).mono ?_
 rintro e w4 ⟨rfl,hb⟩;have HX4:=hid ((HX3.out.below bV.out).below hb);have HB4:=hid ((HB3.out.below HX3.out bV.out).below (HX3.out.below bV.out) hb);have hr3:=HR3.out;have hr4:=(hb.block w.heap.size (Nat.lt_of_lt_of_le (Array.getElem?_eq_some_iff.1 hr3).1 bV.out.size)).trans ((bV.out.block _ (Array.getElem?_eq_some_iff.1 hr3).1).trans hr3);have HR4:=hid hr4;have HM4:=hid ((HM3.out.Zaq (Zam.Zad HX3.out bV.out)).Zaq (Zam.Zad (HX3.out.below bV.out) hb));have c0:=(Zaa hr4 0).1;have c1:=(Zaa hr4 1).1;have c2:=(Zaa hr4 2).1
 have f0:=(Zaa hr4 0).2;have f1:=(Zaa hr4 1).2;have f2:=(Zaa hr4 2).2
 clear hr3 hr4 hb;go_wp2_with fail;have h3:=Za8 HR4.out rfl (pT A) (iV 100) (iV 44);have g0:=(Zaa h3 0).1;have g1:=(Zaa h3 1).1;have g2:=(Zaa h3 2).1
 have hF:=Yh9 (w0:=w) HX4.out HB4.out HM4.out (Nat.le_refl _) (pT A) (iV 100) (iV 44);have HF:=hid hF;clear hF;exact bodyPost_ret (v:=.tuple #[pT A,.agg #[pT A,iV 100,iV 44],.bool true]) (by simp[results,Tryz.results171,go_sem,g0,g1,g2]) rfl ⟨A,rfl,HF.out.1,HF.out.2⟩
theorem Ya9 (w:World):Calls Tryz.prog 172 #[] w (Zan (.bool true) w):=by
 go_enter Tryz.func172,Tryz.ntmps172;go_wp2_with fail
 refine(Zl8 _).mono ?_
 rintro e w1 ⟨rfl,hb⟩;go_wp2_with fail
 go_ret
 exact⟨rfl,hb⟩
theorem Yfx {A:Nat} {m:Nat->UInt8} {w:World} (h:On A (s13 m) w) {p k:Nat} (hk:k<5) (c:Zj6 13 [0,12] m p k) (hC:hdC m 100 k<4294967295) (hp:p<=1000):
 Calls Tryz.prog 159 #[.agg #[pT A,iV 100,iV 44],iV ((4096*p:Nat):Int)] w (Ret A (s13 (Zfj m 100 k p)) (iV 0) w):=
 Zrp h 100 44 p k (by omega) (by omega) (by omega) hk (Zhc (by omega) (by omega) (by omega)) c hC (by omega)
theorem Yif {A:Nat} {m:Nat->UInt8} {w:World} (h:On A (s13 m) w) {p k:Nat} (hk:k<5) (c:Zj6 13 [0,12] m p k) (hC:hdC m 100 k≠0) (hP:hdP m 100 k=p) (hp:p<=1000):
 Calls Tryz.prog 83 #[.agg #[pT A,iV 100,iV 44],iV k] w (Ret A (s13 (Zhg m 100 k p)) (.tuple #[.agg #[iV ((4096*p:Nat):Int),iV k,.int .u64 0,iV 0],.bool true]) w):=
 Zxs h 100 44 p k (by omega) (by omega) (by omega) hk (Zhc (by omega) (by omega) (by omega)) c hC hP (by omega)
theorem Yci {A:Nat} {m:Nat->UInt8} {w:World} (h:On A (s13 m) w) {p k:Nat} {x:Int} (hk:k<5) (hx:0<=x) (hx2:x<=9223372036854775807) (hp:p<=11):
 Calls Tryz.prog 90 #[pT A,.agg #[iV ((4096*p:Nat):Int),iV k,.int .u64 0,iV x]] w (Ret A (s13 (wrM m (4096*p) ((4096*p:Nat):Int) (k:Int) 0 x)) (iV 0) w):=
 Zon h hk hx hx2 (Zhc (by omega) (by omega) (by omega)) (by omega)
def AwB (A R N:Nat) (w:World) (s15 s3:Value) (wr:World):Prop:=
 ∃(i:Nat) (m:Nat->UInt8),i<=2/\s15=iV i/\s3=.bool true/\Ztw A R (s13 m) w wr/\Yfa m (bq (fun _=>0) i)/\wr.heap[N]?=some (.cells #[iV 4096,iV 8192] 3 (0,0))
theorem Zl7 (w:World):Calls Tryz.prog 113 #[] w (Zan (.bool true) w):=by
 have N0:=hid Ya6;go_enter Tryz.func113,Tryz.ntmps113;go_wp2_with fail
 refine(Yf8 _).mono ?_
 rintro e w1 ⟨A,rfl,hx,hb⟩;obtain⟨R,hRR⟩:=eX w1.heap.size;obtain⟨w2,hw2⟩:=eX (w1.alloc (.cells #[pT A,iV 100,iV 44] 76));have hl:=Ztw.start hx hb;rw[hw2,hRR]at hl;have HV2:=hid hl;have HW2:=hid hw2;clear hx hb hw2 hl;go_upto_region 2 with fail;change Code.wp _ _ _ _ (w1.alloc (.cells #[pT A,iV 100,iV 44] 76));rw[HW2.out];clear HW2 hRR;go_upto_region 3 with fail;have hl:=HV2.out.below (Zaj w2 (.cells #[iV 4096,iV 8192] 3));have hn:=Zab w2 (.cells #[iV 4096,iV 8192] 3);obtain⟨w3,hw3⟩:=eX (w2.alloc (.cells #[iV 4096,iV 8192] 3));obtain⟨N,hN⟩:=eX w2.heap.size;rw[hw3]at hl hn;rw[hN]at hn;change Code.wp _ _ _ _ (w2.alloc (.cells #[iV 4096,iV 8192] 3));rw[hw3,hN];have HST:Hid (AwB A R N w (iV 0) (.bool true) w3):=hid ⟨0,_,by omega,rfl,rfl,hl,N0.out,hn⟩;clear hw3 hl hn HV2 hN
 go_loopw[15,3] (fun s15 s3 wr=>AwB A R N w s15 s3 wr) (fun s15 _ _=>2-(intOf s15).toNat)
 case atStart=>exact HST.out
 case round=>
  obtain⟨i,m,hi,rfl,rfl,hv,hbn,hn⟩:=hrel;have HV:=hid hv;have HBN:=hid hbn;have HN:=hid hn;by_cases h2:i<2
  · have c3:wr.cell? (aD N i)=some (iV ((4096*(i+1):Nat):Int)):=by
     have:i=0\/i=1:=by omega
     rcases this with rfl|rfl
     · exact(Zaa hn 0).1
     · exact(Zaa hn 1).1
    obtain⟨c0,c1,c2⟩:=hv.all;obtain⟨s1,s2,s3⟩:=Zxu hbn (by omega) (x:=0) (by omega) (by omega);have HW:=hid (Yci hv.o (p:=i+1) (k:=0) (x:=0) (by omega) (by omega) (by omega) (by omega));have HP:=hid (fun(y:World) (hy:On A (s13 (Ybf m (fun _=>0) i 0)) y)=>Yfx hy (p:=i+1) (k:=0) (by omega) s1 s2 (by omega));have HB3:=hid s3;have hm:wrM m (4096*(i+1)) ((4096*(i+1):Nat):Int) ((0:Nat):Int) 0 0=Ybf m (fun _=>0) i 0:=rfl;rw[hm]at HW;have hm2:Zfj (Ybf m (fun _=>0) i 0) 100 ((fun _=>0) i%5) (i+1)=Zfj (Ybf m (fun _=>0) i 0) 100 0 (i+1):=rfl;rw[hm2]at HB3;obtain⟨m1,hm1⟩:=eX (Ybf m (fun _=>0) i 0);rw[hm1]at HW HP HB3;obtain⟨m2,hm2⟩:=eX (Zfj m1 100 0 (i+1));rw[hm2]at HP HB3;obtain⟨a,ha⟩:=eX (((4096*(i+1):Nat):Int):Int);rw[ha]at c3 HW HP;clear hv hbn hn s1 s2 s3 hm hm1 hm2 ha;go_wp2_with fail;refine HW.out.mono ?_;rintro e w4 ⟨rfl,hx,hg⟩;have HV4:=hid (HV.out.Zaq hx hg);have HN4:=hid (hg.Zdn HV.out.o HN.out (by decide) (by decide) (by decide));clear hx hg c0 c1 c2 c3;obtain⟨c0,c1,c2⟩:=HV4.out.all;go_wp2_with fail
    refine(HP.out _ HV4.out.o).mono ?_
    rintro e w5 ⟨rfl,hx,hg⟩;have HV5:=hid (HV4.out.Zaq hx hg);have HN5:=hid (hg.Zdn HV4.out.o HN4.out (by decide) (by decide) (by decide));clear hx hg c0 c1 c2;go_wp2_with fail;go_roundw
    case rel=>exact⟨i+1,m2,by omega,by go_num,rfl,HV5.out,HB3.out,HN5.out⟩
    case measure=>simp[intOf];omega
  · have e2:i=1+1:=by omega
    subst e2;obtain⟨p1,p2,p3,p4,p5,p6⟩:=Zxv hbn (by omega);have HP:=hid (Yif hv.o (p:=2) (k:=0) (by omega) p1 p2 p3 (by omega));obtain⟨m2,hm2⟩:=eX (Zhg m 100 0 2);rw[hm2]at HP;have HA:Hid (((4096*2:Nat):Int)=8192):=hid rfl;rw[HA.out]at HP;obtain⟨c0,c1,c2⟩:=hv.all;clear hv hbn hn hi h2 p1 p2 p3 p4 p5 p6 hm2;go_wp2_with fail;refine HP.out.mono ?_;rintro e w4 ⟨rfl,hx,hg⟩;have HV4:=hid (HV.out.Zaq hx hg);clear hx hg c0 c1 c2;go_upto_region 8 with fail;have hb4:=Zaj w4 (.cells (cC 8192 ((0:Nat):Int) 0 0) 71);have hc:=Zcq w4 8192 ((0:Nat):Int) 0 0;have hl:=HV4.out.below hb4;obtain⟨y,hy⟩:=eX (w4.alloc (.cells (cC 8192 ((0:Nat):Int) 0 0) 71));obtain⟨D,hD⟩:∃C,w4.heap.size=C:=⟨_,rfl⟩
    rw[hy]at hc hl;rw[hD]at hc;change Code.wp _ _ _ _ (w4.alloc (.cells (cC 8192 ((0:Nat):Int) 0 0) 71));rw[hy,hD];have HC:=hid hc;have HL:=hid hl
    clear hy hD hc hl hb4 HV4;go_wp2_with fail
    refine(Ya9 _).mono ?_
    rintro e w6 ⟨rfl,hb⟩;have HB6:=hid (HL.out.b.bel.trans (hb.mono HL.out.b.bel.size));have hc:=(show CB D 8192 ((0:Nat):Int) 0 0 w6 from Zba hb HC.out);obtain⟨c0,c1,c2,c3⟩:=hc.all;clear hb HC HL hc;go_wp2_with fail
    go_ret
    exact⟨rfl,HB6.out⟩
end
section
open Go Go.RowKit Go.Shelf Go.ChangeShapes Go.WideShapes

end
section
open Go Go.RowKit Go.Shelf
section
variable {w:World}
theorem Ya3 (pa:Option Addr) (va vs:Nat) (n k:Int)
 (HH:∀(X:World),Below w.heap.size w X->Calls Tryz.prog 94 #[.agg #[.pointer pa,iV va,iV vs],iV k] X (Zan (.tuple #[iV n,iV 0]) X)):
 Calls Tryz.prog 83 #[.agg #[.pointer pa,iV va,iV vs],iV k] w (Zan (.tuple #[.agg #[iV 0,iV 0,.int .u64 0,iV 0],.bool false]) w):=by
 have hB:=Zbm w (.cells #[.pointer pa,iV va,iV vs] 76) (.cells (cC 0 0 0 0) 71);have hpr:=(Zbk w #[.pointer pa,iV va,iV vs] (cC 0 0 0 0) 76 71).2;have HHH:=hid (HH _ hB);have HSZ:Hid (∀a o u x,(Tryz.prog.info? 71).map (·.size)=some (cC a o u x).size):=hid (fun a o u x=>Tryz.Zlx);have hpb:=(Zbk w #[.pointer pa,iV va,iV vs] (cC 0 0 0 0) 76 71).1;clear HH;go_enter Tryz.func83,Tryz.ntmps83;go_upto_region 1 with fail;obtain⟨x,hxx⟩:=eX ((w.alloc (.cells #[.pointer pa,iV va,iV vs] 76)).alloc (.cells (cC 0 0 0 0) 71));obtain⟨B,hBB⟩:=eX w.heap.size;have hBR:=hid (show w.heap.size<=B+1 by omega);rw[hxx]at hB hpr HHH hpb;rw[hBB]at hpr hpb;change Code.wp _ _ _ _ ((w.alloc (.cells #[.pointer pa,iV va,iV vs] 76)).alloc (.cells (cC 0 0 0 0) 71))
 try simp only[World.size_alloc]
 rw[hxx,hBB];have HR:Hid (CB (B+1) 0 0 0 0 x):=hid hpr;have HB:=hid hB;have hb3:B3 76 B pa va vs x:=hpb;obtain⟨⟨b0,b1,b2⟩, -, -, -⟩:=hb3.all;clear hxx hBB hpr hB hpb hb3;go_wp2_with fail;refine HHH.out.mono ?_;rintro e w2 ⟨rfl,hb⟩;have HR2:=hid (show CB (B+1) 0 0 0 0 w2 from Zba hb HR.out);have HB2:=hid (HB.out.trans (hb.mono HB.out.size));clear hb HB HR HHH b0 b1 b2
 go_wp2_with (first|(refine wpList_store_row rfl 71 (.tmp 4) (.tmp 20) rfl (B+1) (cC 0 0 0 0) rfl rfl 71 (cC 0 0 0 0) HR2.out (HSZ.out _ _ _ _) rfl (Zjy _ _ _ _) ?_))
 have hl:=run_loadVar_row (P:=Tryz.prog) (w2.setRow (B+1) (cC 0 0 0 0)) (B+1) 71 71 (cC 0 0 0 0) (0,0) _ (Zby HR2.out _) Tryz.underlying71 rfl (HSZ.out _ _ _ _);exact bodyPost_ret (v:=.tuple #[cV 0 0 0 0,.bool false]) (by simp[results,Tryz.results83,asAddr,hl,Act.put];rfl) rfl ⟨rfl,below_setRow HB2.out hBR.out _⟩
end
end
section
open Go Go.RowKit Go.Shelf
section
variable {w:World}
end
section
variable {A:Nat} {s:ASt} {w:World}
theorem Zti (h:On A s w) (va vs k:Nat) (h1:va<=4294967296) (h2:vs<=4294967296) (h40:40<=vs) (hk:k<5) (hv:Zac s.L s.es (va:Int) 40=0) (hC:hdC s.mm va k=0):
 Calls Tryz.prog 83 #[vwV A va vs,iV k] w (Zan (.tuple #[.agg #[iV 0,iV 0,.int .u64 0,iV 0],.bool false]) w):=
 Ya3 (some (aD A 0)) va vs ((4096*hdP s.mm va k:Nat):Int) (k:Int) fun X hX=>by
  have:=Zf8 (h.below hX) va vs k h1 h2 h40 hk hv
  rw[hC]at this;exact this
end
def adI (l:List Nat):List Int:=l.map fun p=>((4096*p:Nat):Int)
theorem Zes {W w1 w:World} {base n k:Nat} {e:TypeId} {v:Value} {xs:List Value} (hrow:W.ownsRow base e k v n xs) (hgrow:W.grownBy w1 v.ownBlock) (hs:base<=W.heap.size) (hb:Below base w W):Below base w w1:=
 hb.grown hgrow (by omega) fun j ej=>by
  rcases hrow.2 with⟨rfl,_⟩|⟨g,cap,cur,rfl,h,_⟩
  · simp[Value.ownBlock]at ej
  · obtain rfl:g=j:=by simpa[Value.ownBlock]using ej
    exact h
theorem Zo4 (w:World) (a:Value) (T:TypeId):∀j u,[a][j]?=some u->(w.alloc (.cells #[a] T)).cell? (((aD w.heap.size 0):Addr).add j)=some u:=fun j u h=>by
 match j,h with
 |0,h=>
  have e:((aD w.heap.size 0):Addr).add 0=(aD w.heap.size 0):=by simp only[Addr.add];split<;>simp_all
  rw[e,(Zaa (Zab w _) _).1]
  simpa using h
section
variable {A:Nat} {s:ASt} {w:World}
end
end
section
open Go Go.RowKit Go.Shelf
def qC (P:Nat->Option Addr) (n C:Nat->Nat):Array Value:=#[.slice (P 0) (n 0) (C 0),.slice (P 1) (n 1) (C 1),.slice (P 2) (n 2) (C 2),.slice (P 3) (n 3) (C 3),.slice (P 4) (n 4) (C 4)]
theorem Yfw (P:Nat->Option Addr) (n C:Nat->Nat) {i:Nat} (h:i<5):(qC P n C)[i]?=some (.slice (P i) (n i) (C i)):=by
 match i,h with
 |0,_=>rfl
 |1,_=>rfl
 |2,_=>rfl
 |3,_=>rfl
 |4,_=>rfl
def QAt (P:Nat->Option Addr) (q:Nat->List Nat) (w:World):Prop:=∀k,k<5->Za7 w (P k) (adI (q k))
theorem Za7.Zx0 {w w':World} {p:Option Addr} {zs:List Int} (h:Za7 w p zs) (hb:Below w.heap.size w w'):Za7 w' p zs:=by
 rcases h with h|⟨b,off,h1,h2,h3⟩
 · exact .inl h
 · exact .inr ⟨b,off,h1,Nat.lt_of_lt_of_le h2 hb.size,fun j hj=>(hb.cell (p:=(aD b (off+j))) h2).trans (h3 j hj)⟩
theorem QAt.below {P:Nat->Option Addr} {q:Nat->List Nat} {w w':World} (h:QAt P q w) (hb:Below w.heap.size w w'):QAt P q w':=fun k hk=>(h k hk).Zx0 hb
def QBx (B:Nat) (P:Nat->Option Addr) (n C:Nat->Nat) (w:World):Prop:=w.heap[B]?=some (.cells (qC P n C) 30 (0,0))
theorem QBx.cell {B:Nat} {P:Nat->Option Addr} {n C:Nat->Nat} {w:World} (h:QBx B P n C w) {i:Nat} (hi:i<5):w.cell? (aD B i)=some (.slice (P i) (n i) (C i)):=by
 exact((Zaa h i).1).trans (Yfw P n C hi)
theorem Zsg (P:Nat->Option Addr) (n C:Nat->Nat) (o:Int) (w:World):
 Calls Tryz.prog 137 #[.agg (qC P n C),iV o] w (Zan (lsV n o) w):=by
 have hb:=Zaj w (.cells (qC P n C) 30);have hx:QBx w.heap.size P n C (w.alloc (.cells (qC P n C) 30)):=Zab _ _;go_enter Tryz.func137,Tryz.ntmps137;go_upto_region 1 with fail;obtain⟨x,hxx⟩:=eX (w.alloc (.cells (qC P n C) 30));obtain⟨B,hB⟩:=eX w.heap.size;rw[hxx]at hb hx;rw[hB]at hx;change Code.wp _ _ _ _ (w.alloc (.cells (qC P n C) 30));rw[hxx,hB];have HB:=hid hb;have HX:=hid hx
 clear hxx hB hb hx;go_wp2_with fail
 go_loop [6] (fun s6=>∃i:Nat,i<=5/\s6=iV i/\Hid (∀j,j<i->Zf5 n o j=false)) (fun s6=>5-(intOf s6).toNat)
 case atStart=>exact⟨0,by omega,rfl,hid fun j hj=>by omega⟩
 case round=>
  obtain⟨i,hi,rfl,HALL⟩:=hrel;by_cases h5:i<5
  · have h5':(i:Int)<=4:=by omega
    have hcell:=HX.out.cell h5;obtain⟨c,hc⟩:=eX (n i);rw[hc]at hcell;have HCI:=hid hc;clear hc;cases h1:decide (o<=(i:Int))with
    |true=>
     have h1':=of_decide_eq_true h1;cases h2:decide (0<c)with
     |true=>
      have hp:Zf5 n o i=true:=by unfold Zf5;rw[HCI.out,h1,h2];rfl
      have HRES:=hid (Ybv h5 hp HALL.out);clear hp;go_wp2_with fail
      go_ret2
      exact⟨by rw[HRES.out];rfl,HB.out⟩
     |false=>
      have HNP:Hid (Zf5 n o i=false):=hid (by unfold Zf5;rw[HCI.out,h2];simp);go_wp2_with fail
      go_round
      case rel=>exact⟨i+1,by omega,by go_num,hid (Zgy HNP.out HALL.out)⟩
      case measure=>simp[intOf];omega
    |false=>
     have HNP:Hid (Zf5 n o i=false):=hid (by unfold Zf5;rw[h1];simp);go_wp2_with fail
     go_round
     case rel=>exact⟨i+1,by omega,by go_num,hid (Zgy HNP.out HALL.out)⟩
     case measure=>simp[intOf];omega
  · have h5':¬(i:Int)<=4:=by omega
    have e5:i=5:=by omega
    have HRES:=hid (Zqt (by rw[<-e5];exact HALL.out));go_wp2_with fail
    go_ret2
    exact⟨by rw[HRES.out];rfl,HB.out⟩
theorem Zdv (P:Nat->Option Addr) (n C:Nat->Nat) (hn:∀k,n k<4294967296) (w:World):
 Calls Tryz.prog 78 #[.agg (qC P n C)] w (Zan (iV ((Zfz n 5:Nat):Int)) w):=by
 have HLT:=hid hn;have hb:=Zaj w (.cells (qC P n C) 30);have hx:QBx w.heap.size P n C (w.alloc (.cells (qC P n C) 30)):=Zab _ _;clear hn;go_enter Tryz.func78,Tryz.ntmps78;go_upto_region 1 with fail;obtain⟨x,hxx⟩:=eX (w.alloc (.cells (qC P n C) 30));obtain⟨B,hB⟩:=eX w.heap.size;rw[hxx]at hb hx;rw[hB]at hx;change Code.wp _ _ _ _ (w.alloc (.cells (qC P n C) 30));rw[hxx,hB];have HB:=hid hb;have HX:=hid hx
 clear hxx hB hb hx;go_wp2_with fail
 go_loop [3,4,5] (fun s3 s4 s5=>∃i:Nat,i<=5/\s5=iV i/\s3=iV ((Zfz n i:Nat):Int)/\s4=iV ((2^i:Nat):Int)) (fun _ _ s5=>5-(intOf s5).toNat)
 case atStart=>exact⟨0,by omega,rfl,rfl,rfl⟩
 case round=>
  obtain⟨i,hi,rfl,rfl,rfl⟩:=hrel;by_cases h5:i<5
  · have h5':(i:Int)<=4:=by omega
    have hcell:=HX.out.cell h5;have hl1:=Zgm HLT.out i (by omega);have hl2:=Zgm HLT.out (i+1) (by omega);have hs:Zfz n (i+1)=Zfz n i+n i*2^i:=rfl;have h3:2^i<=2^4:=Nat.pow_le_pow_right (by omega) (by omega);have h4:n i*2^i<=4294967296*2^4:=Nat.mul_le_mul (Nat.le_of_lt (HLT.out i)) h3;have h6:2^(i+1)=2*2^i:=by rw[Nat.pow_succ];omega
    have hpc:((2^i:Nat):Int)*((n i:Nat):Int)=((n i*2^i:Nat):Int):=by rw[Int.natCast_mul,Int.mul_comm]
    obtain⟨t,ht⟩:=eX (n i*2^i);obtain⟨c,hc⟩:=eX (n i);obtain⟨g,hg⟩:=eX (Zfz n i);obtain⟨g2,hg2⟩:∃g,Zfz n (i+1)=g:=⟨_,rfl⟩
    obtain⟨pw,hpw⟩:=eX (2^i);obtain⟨pw2,hpw2⟩:∃pw,2^(i+1)=pw:=⟨_,rfl⟩
    rw[ht]at hs h4 hpc;rw[hc]at hpc hcell;rw[hg]at hs hl1⊢;rw[hg2]at hs hl2;rw[hpw]at h3 h6 hpc⊢;rw[hpw2]at h6;have HG2:=hid hg2;have HP2:=hid hpw2
    have q1:wrap64 ((pw:Int)*(c:Int))=(t:Int):=by rw[hpc];exact IntWalk.wrap64_in _ ⟨by omega,by omega⟩
    have q2:wrap64 ((g:Int)+(t:Int))=(g2:Int):=by rw[IntWalk.wrap64_in _ ⟨by omega,by omega⟩];omega
    have q3:wrap64 (2*(pw:Int))=(pw2:Int):=by rw[IntWalk.wrap64_in _ ⟨by omega,by omega⟩];omega
    clear hc hg hg2 ht hpc hl1 hl2 hs h3 h4 h6 hpw hpw2;go_wp2_with fail
    go_round
    case rel=>exact⟨i+1,by omega,by go_num,by rw[HG2.out];first|rfl|rw[q2],by rw[HP2.out];first|rfl|rw[q3]⟩
    case measure=>simp[intOf];omega
  · have h5':¬(i:Int)<=4:=by omega
    have e5:i=5:=by omega
    subst e5;obtain⟨g,hg⟩:=eX (Zfz n 5);have HGG:=hid hg;rw[hg];clear hg;go_wp2_with fail
    go_ret
    exact⟨by rw[HGG.out];rfl,HB.out⟩
theorem Zze (P:Nat->Option Addr) (n C:Nat->Nat) (w:World):(Instr.index 30 (.agg #[.slice (P 0) (n 0) (C 0),.slice (P 1) (n 1) (C 1),.slice (P 2) (n 2) (C 2),.slice (P 3) (n 3) (C 3),.slice (P 4) (n 4) (C 4)]) (iV 0)).run Tryz.prog w=.ok (.slice (P 0) (n 0) (C 0)) w:=by kernel_rfl
theorem Zzd (P:Nat->Option Addr) (n C:Nat->Nat) (w:World):(Instr.index 30 (.agg #[.slice (P 0) (n 0) (C 0),.slice (P 1) (n 1) (C 1),.slice (P 2) (n 2) (C 2),.slice (P 3) (n 3) (C 3),.slice (P 4) (n 4) (C 4)]) (iV 1)).run Tryz.prog w=.ok (.slice (P 1) (n 1) (C 1)) w:=by kernel_rfl
theorem Zzc (P:Nat->Option Addr) (n C:Nat->Nat) (w:World):(Instr.index 30 (.agg #[.slice (P 0) (n 0) (C 0),.slice (P 1) (n 1) (C 1),.slice (P 2) (n 2) (C 2),.slice (P 3) (n 3) (C 3),.slice (P 4) (n 4) (C 4)]) (iV 2)).run Tryz.prog w=.ok (.slice (P 2) (n 2) (C 2)) w:=by kernel_rfl
theorem Zzb (P:Nat->Option Addr) (n C:Nat->Nat) (w:World):(Instr.index 30 (.agg #[.slice (P 0) (n 0) (C 0),.slice (P 1) (n 1) (C 1),.slice (P 2) (n 2) (C 2),.slice (P 3) (n 3) (C 3),.slice (P 4) (n 4) (C 4)]) (iV 3)).run Tryz.prog w=.ok (.slice (P 3) (n 3) (C 3)) w:=by kernel_rfl
theorem Zza (P:Nat->Option Addr) (n C:Nat->Nat) (w:World):(Instr.index 30 (.agg #[.slice (P 0) (n 0) (C 0),.slice (P 1) (n 1) (C 1),.slice (P 2) (n 2) (C 2),.slice (P 3) (n 3) (C 3),.slice (P 4) (n 4) (C 4)]) (iV 4)).run Tryz.prog w=.ok (.slice (P 4) (n 4) (C 4)) w:=by kernel_rfl
theorem Zvf (P:Nat->Option Addr) (n C:Nat->Nat) (k:Nat) (h:k<5) (w:World):(Instr.index 30 (.agg #[.slice (P 0) (n 0) (C 0),.slice (P 1) (n 1) (C 1),.slice (P 2) (n 2) (C 2),.slice (P 3) (n 3) (C 3),.slice (P 4) (n 4) (C 4)]) (iV k)).run Tryz.prog w=.ok (.slice (P k) (n k) (C k)) w:=
 match k,h with
 |0,_=>Zze P n C w
 |1,_=>Zzd P n C w
 |2,_=>Zzc P n C w
 |3,_=>Zzb P n C w
 |4,_=>Zza P n C w
def Zik (q:Nat->List Nat) (a:Int):Bool:=(List.range 5).any fun k=>(adI (q k)).any fun z=>z==a
theorem Zwl {q:Nat->List Nat} {a:Int} {k j:Nat} (hk:k<5) (hj:j<(q k).length) (h:(adI (q k)).getD j 0=a):Zik q a=true:=by
 unfold Zik;rw[List.any_eq_true]
 refine⟨k,List.mem_range.2 hk,?_⟩
 rw[List.any_eq_true];have hl:j<(adI (q k)).length:=by simpa[adI]using hj
 exact⟨(adI (q k))[j],List.getElem_mem hl,by rw[List.getD_eq_getElem?_getD,List.getElem?_eq_getElem hl]at h;simpa using h⟩
def Ztq (q:Nat->List Nat) (a:Int) (k:Nat):Prop:=∀i,i<k->∀j,j<(q i).length->(adI (q i)).getD j 0≠a
def Zx7 (q:Nat->List Nat) (a:Int) (k j:Nat):Prop:=∀i,i<j->(adI (q k)).getD i 0≠a
theorem Zsy {q:Nat->List Nat} {a:Int} (h:Ztq q a 5):Zik q a=false:=by
 unfold Zik;rw[List.any_eq_false];intro k hk;rw[Bool.not_eq_true,List.any_eq_false];intro z hz;obtain⟨j,hj,e⟩:=List.mem_iff_getElem.1 hz;have hl:j<(q k).length:=by simpa[adI]using hj
 have:=h k (List.mem_range.1 hk) j hl
 rw[List.getD_eq_getElem?_getD,List.getElem?_eq_getElem hj]at this;simp only[Option.getD_some]at this;rw[<-e];simpa using this
theorem Zx7.succ {q:Nat->List Nat} {a:Int} {k j:Nat} (h:Zx7 q a k j) (e:(adI (q k)).getD j 0≠a):Zx7 q a k (j+1):=fun i hi=>by
 by_cases c:i=j
 · rw[c];exact e
 · exact h i (by omega)
theorem Ztq.succ {q:Nat->List Nat} {a:Int} {k:Nat} (h:Ztq q a k) (e:Zx7 q a k (q k).length):Ztq q a (k+1):=fun i hi=>by
 by_cases c:i=k
 · subst c;exact fun j hj=>e j hj
 · exact h i (by omega)
theorem Zy9 (P:Nat->Option Addr) (n C:Nat->Nat) (q:Nat->List Nat) (a:Int) (w:World) (h:QAt P q w) (hn:∀k,n k=(q k).length) (hl:∀k,(q k).length<=1000):
 Calls Tryz.prog 209 #[.agg (qC P n C),iV a] w (Zan (.bool (Zik q a)) w):=by
 have HN:=hid hn;have HLE:=hid hl
 have hb:=Zaj w (.cells (qC P n C) 30);have hx:QBx w.heap.size P n C (w.alloc (.cells (qC P n C) 30)):=Zab _ _;have HQ:=hid (h.below hb);clear hn hl h;go_enter Tryz.func209,Tryz.ntmps209;go_upto_region 1 with fail;obtain⟨x,hxx⟩:=eX (w.alloc (.cells (qC P n C) 30));obtain⟨B,hB⟩:=eX w.heap.size;rw[hxx]at hb hx HQ;rw[hB]at hx;change Code.wp _ _ _ _ (w.alloc (.cells (qC P n C) 30));rw[hxx,hB];have HB:=hid hb;have HX:=hid hx
 clear hxx hB hb hx;have c0:=HX.out.cell (i:=0) (by omega);have c1:=HX.out.cell (i:=1) (by omega);have c2:=HX.out.cell (i:=2) (by omega);have c3:=HX.out.cell (i:=3) (by omega);have c4:=HX.out.cell (i:=4) (by omega)
 go_wp2_with fail
 go_loopw[10] (fun s10 wr=>∃k:Nat,k<=5/\s10=iV k/\Ztq q a k/\wr=x) (fun s10 _=>5-(intOf s10).toNat)
 case atStart=>exact⟨0,by omega,rfl,fun j hj=>by omega,rfl⟩
 case round=>
  obtain⟨k,hk,rfl,hNQ,rfl⟩:=hrel;have HNQ:=hid hNQ;clear hNQ c0 c1 c2 c3 c4;by_cases h5:k<5
  · have hidx:=Zvf P n C k h5 wr
    obtain⟨nk,hnk⟩:=eX (n k);obtain⟨ck,hck⟩:=eX (C k);obtain⟨pk,hpk⟩:=eX (P k);have HR:=hid (HQ.out k h5);have HNK:Hid (nk=(q k).length):=hid (by rw[<-hnk];exact HN.out k);rw[hpk]at HR;rw[hnk,hck,hpk]at hidx;have HNB:Hid (nk<=1000):=hid (by rw[HNK.out];exact HLE.out k);clear hnk hck hpk;go_wp2_with fail
    go_loopw[15] (fun s15 wr'=>∃j:Nat,j<=nk/\s15=iV j/\Zx7 q a k j/\wr'=wr) (fun s15 _=>nk-(intOf s15).toNat)
    case atStart=>exact⟨0,by omega,rfl,fun i hi=>absurd hi (Nat.not_lt_zero i),rfl⟩
    case round=>
     obtain⟨j,hj,rfl,hNJ,rfl⟩:=hrel;have HNJ:=hid hNJ;have hnb:=HNB.out;clear hNJ;by_cases hlt:j<nk
     · rcases HR.out with he|⟨b,off,rfl,hbl,hcl⟩
       · have:=HNK.out;have e2:=congrArg List.length he;simp[adI]at e2;rw[e2]at this;simp at this;omega
       · have hc:=hcl j (by simp[adI];have:=HNK.out;omega)
         obtain⟨z,hz⟩:=eX ((adI (q k)).getD j 0);rw[hz]at hc;have HZ:=hid hz;clear hcl hz;by_cases hza:z=a
         · have d:(z==a)=true:=by simpa using hza
           have HT:Hid (Zik q a=true):=hid (Zwl (k:=k) (j:=j) h5 (by have:=HNK.out;omega) (by rw[HZ.out];exact hza));go_wp2_with fail
           go_ret
           exact⟨by rw[HT.out];rfl,HB.out⟩
         · have d:(z==a)=false:=by simpa using hza
           have HJ2:=hid (HNJ.out.succ (by rw[HZ.out];exact hza));go_wp2_with fail;go_roundw
           case rel=>exact⟨j+1,by omega,by go_num,HJ2.out,by first|rfl|trivial⟩
           case measure=>simp[intOf];omega
     · have e:j=nk:=by omega
       have HQ2:Hid (Ztq q a (k+1)):=hid (HNQ.out.succ (by rw[<-HNK.out,<-e];exact HNJ.out));clear hidx;go_wp2_with fail;go_roundw
       case rel=>exact⟨k+1,by omega,by go_num,HQ2.out,by first|rfl|trivial⟩
       case measure=>simp[intOf];omega
  · have e5:k=5:=by omega
    have HF:Hid (Zik q a=false):=hid (Zsy (by rw[<-e5];exact HNQ.out));go_wp2_with fail
    go_ret
    exact⟨by rw[HF.out];rfl,HB.out⟩
end
section
open Go Go.RowKit Go.Shelf
def up {α:Type} (f:Nat->α) (k:Nat) (v:α) (j:Nat):α:=if j=k then v else f j
theorem Zh7 {α:Type} (f:Nat->α) (k:Nat) (v:α):up f k v k=v:=if_pos rfl
theorem Zix {α:Type} (f:Nat->α) {k j:Nat} (v:α) (h:j≠k):up f k v j=f j:=if_neg h
theorem Yfv (P:Nat->Option Addr) (n C:Nat->Nat) {k:Nat} (h:k<5) (p:Option Addr) (m c:Nat):(qC P n C).setIfInBounds k (.slice p m c)=qC (up P k p) (up n k m) (up C k c):=by
 match k,h with
 |0,_=>simp[qC,up]
 |1,_=>simp[qC,up]
 |2,_=>simp[qC,up]
 |3,_=>simp[qC,up]
 |4,_=>simp[qC,up]
theorem QBx.set {B:Nat} {P:Nat->Option Addr} {n C:Nat->Nat} {w:World} (h:QBx B P n C w) {k:Nat} (hk:k<5) (p:Option Addr) (m c:Nat):QBx B (up P k p) (up n k m) (up C k c) (w.setCell (aD B k) (.slice p m c)):=by
 unfold QBx;rw[<-Yfv P n C hk];exact heap_set h _
theorem QBx.all {B:Nat} {P:Nat->Option Addr} {n C:Nat->Nat} {w:World} (h:QBx B P n C w):(w.cell? (aD B 0)=some (.slice (P 0) (n 0) (C 0))/\w.cell? (aD B 1)=some (.slice (P 1) (n 1) (C 1))/\w.cell? (aD B 2)=some (.slice (P 2) (n 2) (C 2))/\w.cell? (aD B 3)=some (.slice (P 3) (n 3) (C 3))/\w.cell? (aD B 4)=some (.slice (P 4) (n 4) (C 4)))/\
 w.frozen? (aD B 0)=false/\w.frozen? (aD B 1)=false/\w.frozen? (aD B 2)=false/\w.frozen? (aD B 3)=false/\w.frozen? (aD B 4)=false:=
 ⟨⟨h.cell (by omega),h.cell (by omega),h.cell (by omega),h.cell (by omega),h.cell (by omega)⟩,(Zaa h 0).2,(Zaa h 1).2,(Zaa h 2).2,(Zaa h 3).2,(Zaa h 4).2⟩
def st5 (x:World) (B:Nat) (a b c d e:Value):World:=((((x.setCell (aD B 0) a).setCell (aD B 1) b).setCell (aD B 2) c).setCell (aD B 3) d).setCell (aD B 4) e
theorem Zuv {x:World} {B:Nat} {cs:Array Value} {T:TypeId} (h:x.heap[B]?=some (.cells cs T (0,0))) (hc:cs.size=5) (a b c d e:Value):(st5 x B a b c d e).heap[B]?=some (.cells #[a,b,c,d,e] T (0,0)):=by
 unfold st5;rw[heap_set (heap_set (heap_set (heap_set (heap_set h a) b) c) d) e]
 match cs,hc with
 |⟨[_,_,_,_,_]⟩,_=>rfl
theorem Zot (x:World) {B k:Nat} (h:k≠B) (a b c d e:Value):(st5 x B a b c d e).heap[k]?=x.heap[k]?:=by
 unfold st5;rw[Zah _ h,Zah _ h,Zah _ h,Zah _ h,Zah _ h]
theorem Zi3 {b0 B:Nat} {w x:World} (h:Below b0 w x) (hB:b0<=B) (a b c d e:Value):Below b0 w (st5 x B a b c d e):=
 ((((h.setCell (p:=(aD B 0)) hB a).setCell (p:=(aD B 1)) hB b).setCell (p:=(aD B 2)) hB c).setCell (p:=(aD B 3)) hB d).setCell (p:=(aD B 4)) hB e
def q0P:Nat->Option Addr:=fun _=>none
def q0N:Nat->Nat:=fun _=>0
theorem Yba (g n c:Nat) (h:n<=c) (w:World) (ty:TypeId):(Builtin.append_ #[28,28] ty #[.slice (some (aD g 0)) n c,.slice none 0 0]).run Tryz.prog w=.ok (.slice (some (aD g 0)) n c) w:=by
 simp[go_sem];intro h2;omega
theorem Zmu {w:World} {ad:Addr} {zs:List Int} (h:Za7 w (some ad) zs):∀j u,(zs.map (Value.int .i64))[j]?=some u->w.cell? (ad.add j)=some u:=fun j u e=>by
 rcases h with rfl|⟨b,off,h1,h2,h3⟩
 · simp at e
 · cases h1
   rw[List.getElem?_map]at e
   have hj:j<zs.length:=by
    by_cases c:j<zs.length
    · exact c
    · rw[List.getElem?_eq_none (by omega)]at e;simp at e
   have eA:((aD b off):Addr).add j=(aD b (off+j)):=by simp only[Addr.add];split<;>simp_all
   rw[eA,h3 j hj,<-e,List.getElem?_eq_getElem hj,List.getD_eq_getElem?_getD,List.getElem?_eq_getElem hj];rfl
theorem Zef {W:World} {base:Nat} {v:Value} {k:Nat} {zs:List Int} (h:W.ownsRow base 3 1 v k (zs.map (Value.int .i64))) (hz:zs≠[]):∃g cap,v=.slice (some (aD g 0)) k cap/\k<=cap/\base<=g/\Za7 W (some (aD g 0)) zs:=by
 have hk:zs.length=k:=by have:=h.1;simpa using this
 have hl:0<zs.length:=List.length_pos_iff.2 hz;rcases h.2 with⟨_,h0⟩|⟨g,cap,cur,rfl,hg,hb,hc,_⟩
 · omega
 · refine⟨g,cap,rfl,hc,hg,.inr ⟨g,0,rfl,(Array.getElem?_eq_some_iff.1 hb).1,fun j hj=>?_⟩⟩
   rw[Nat.zero_add,World.ownsRow.cellAt h j (by omega)];simp[List.getD_eq_getElem?_getD,List.getElem?_eq_getElem hj]
theorem Zij {w w':World} {g:Nat} {zs:List Int} (h:Za7 w (some (aD g 0)) zs) {B:Nat} (hg:g≠B) (_:Unit:=()) (hk:∀k,k≠B->w'.heap[k]?=w.heap[k]?) (hs:w'.heap.size=w.heap.size):Za7 w' (some (aD g 0)) zs:=by
 rcases h with h|⟨b,off,h1,h2,h3⟩
 · exact .inl h
 · cases h1
   exact .inr ⟨g,0,rfl,by omega,fun j hj=>(World.cell?_of_block (w:=w) (a:=(aD g (0+j))) (hk g hg)).trans (h3 j hj)⟩
def Ycd (P:Nat->Option Addr) (n C:Nat->Nat) (q:Nat->List Nat) (k p:Nat) (w:World) (e:Ending) (w':World):Prop:=
 ∃p' c',e=.returned (.agg (qC (up P k p') (up n k (n k+1)) (up C k c')))/\Za7 w' p' (adI (p::q k))/\n k+1<=c'/\(p'≠none/\∀g off,p'=some (aD g off)->w.heap.size<=g)/\Below w.heap.size w w'
theorem Zvd (P:Nat->Option Addr) (n C:Nat->Nat) (q:Nat->List Nat) (k p:Nat) (hk:k<5) (w:World) (h:QAt P q w) (hn:n k=(q k).length) (hl:(q k).length<=1000) (h0:P k=none->C k=0):
 Calls Tryz.prog 190 #[.agg (qC P n C),iV k,iV ((4096*p:Nat):Int)] w (Ycd P n C q k p w):=by
 obtain⟨i0,hi0,hz0,hz1,hz2⟩:=info_parts Tryz.Zkd;have HI:=hid hi0;have HZ0:=hid hz0;have HZ1:=hid hz1;have HZ2:=hid hz2
 clear hi0 hz0 hz1 hz2;have hb:=Zbm w (.cells (qC P n C) 30) (.cells (qC q0P q0N q0N) 30);have hp:=Zbk w (qC P n C) (qC q0P q0N q0N) 30 30;have HQ:=hid ((h.below hb) k hk);have HN:=hid hn;clear h;go_enter Tryz.func190,Tryz.ntmps190;go_upto_region 1 with fail;obtain⟨x,hxx⟩:=eX ((w.alloc (.cells (qC P n C) 30)).alloc (.cells (qC q0P q0N q0N) 30));obtain⟨B,hB⟩:=eX w.heap.size;rw[hxx]at hb hp HQ;rw[hB]at hp;change Code.wp _ _ _ _ ((w.alloc (.cells (qC P n C) 30)).alloc (.cells (qC q0P q0N q0N) 30));rw[hxx,hB];have HWB:Hid (w.heap.size<=B+1):=hid (by omega);have HWS:Hid (w.heap.size<=B):=hid (by omega);have hx:QBx B P n C x:=hp.1;have hr:QBx (B+1) q0P q0N q0N x:=hp.2;obtain⟨b0,hb0⟩:=eX x.heap.size;have HBB:Hid (B+1<b0):=hid (by have:=(Array.getElem?_eq_some_iff.1 hr).1;omega);have HX:=hid hx;have HR:=hid hr;have HB:=hid hb;have HB0:=hid hb0
 obtain⟨a,ha⟩:=eX (((4096*p:Nat):Int):Int);have HA:=hid ha;rw[ha];have HR0:=hid (show(x.alloc (.cells #[iV a] 3)).ownsRow b0 3 1 (.slice none 0 0) 0 []from World.ownsRow_nil _ _ _ _);obtain⟨nk,hnk⟩:=eX (n k);obtain⟨ck,hck⟩:=eX (C k);obtain⟨pk,hpk⟩:=eX (P k);have HE:=hid (And.intro hpk (And.intro hnk hck));have HNK:Hid (nk=(q k).length):=hid (by rw[<-hnk];exact hn);have HLQ:=hid hl;rw[hpk]at HQ h0;rw[hck]at h0;have HXA:Hid (Below b0 x (x.alloc (.cells #[iV a] 3))):=hid ((Below.refl b0 x).alloc (by omega) _);have HX2:Hid (∀y,Below b0 x y->QBx B P n C y):=hid fun y hy=>(hy.block B (by have:=HBB.out;omega)).trans HX.out
 have HR2:Hid (∀y,Below b0 x y->QBx (B+1) q0P q0N q0N y):=hid fun y hy=>(hy.block (B+1) (by have:=HBB.out;omega)).trans HR.out
 have HQ2:Hid (∀y,Below b0 x y->Za7 y pk (adI (q k))):=hid fun y hy=>HQ.out.Zx0 (by rw[HB0.out];exact hy)
 have HFB:Hid (∀y,Below b0 x y->Below w.heap.size w y):=hid fun y hy=>HB.out.trans (by rw[<-HB0.out]at hy;exact hy.mono HB.out.size)
 clear hb hp hxx hB hx hr hb0 ha hnk hck hpk hn hl HN;have hbb:=HBB.out;rcases pk with _|ad
 · have hck0:=h0 rfl
   have hnk0:nk=0:=by
    rcases HQ.out with e|⟨b,off,e,_⟩
    · have h1:=HNK.out
      have e2:=congrArg List.length e;simp[adI]at e2;rw[e2]at h1;simpa using h1
    · cases e
   have HQE:Hid (q k=[]):=hid (List.eq_nil_of_length_eq_zero (by rw[<-HNK.out];exact hnk0));subst hck0;subst hnk0
   clear h0
   go_upto_region 4 with(at_builtin;refine wpList_append_own _ rfl _ _ 28 rfl b0 3 i0 (iV 0) 1 8 Tryz.underlying28 HI.out HZ0.out HZ1.out HZ2.out rfl (by decide) _ _ _ rfl HR0.out ⟨_,0,none⟩ 1 1 [iV a] rfl rfl (Zo4 _ _ _) (by simp[Value.oneCell']) (by unfold maxLen;omega) (by omega) (by have:=HB0.out;simp;omega) ?_;intro v1 w2 hown1 hgrow1 _;obtain⟨g1,cap1,rfl,hgc1,hgb1,hir1⟩:=Zef (zs:=[a]) hown1 (by simp);have hb2:=Zes HR0.out hgrow1 (by have:=HB0.out;simp;omega) HXA.out;have hx2:=HX2.out w2 hb2;have hc2:=hx2.cell hk;rw[HE.out.1,HE.out.2.1,HE.out.2.2]at hc2;have hf2:=(Zaa hx2 k).2;have hap:=fun ty=>Yba g1 1 cap1 hgc1 w2 ty)
   have hg1:g1≠B:=by have:=HBB.out;omega
   have hx5:=hx2.set hk (some (aD g1 0)) 1 cap1;have hr5:QBx (B+1) q0P q0N q0N (w2.setCell (aD B k) (.slice (some (aD g1 0)) 1 cap1)):=(Zah _ (by omega)).trans (HR2.out _ hb2)
   have hi5:Za7 (w2.setCell (aD B k) (.slice (some (aD g1 0)) 1 cap1)) (some (aD g1 0)) (adI (p::q k)):=by
    rw[HQE.out,show adI [p]=[a] by simp[adI,<-HA.out]];exact Zij hir1 hg1 () (fun j hj=>Zah _ hj) (by simp[World.setCell])
   have hb5:Below w.heap.size w (w2.setCell (aD B k) (.slice (some (aD g1 0)) 1 cap1)):=(HFB.out _ hb2).setCell (p:=(aD B k)) (by have:=HWS.out;show _<=B;omega) _;obtain⟨y,hy⟩:=eX (w2.setCell (aD B k) (.slice (some (aD g1 0)) 1 cap1));rw[hy]at hx5 hr5 hi5 hb5;change Code.wp _ _ _ _ (w2.setCell (aD B k) (.slice (some (aD g1 0)) 1 cap1));rw[hy];obtain⟨P',hP'⟩:=eX (up P k (some (aD g1 0)));obtain⟨n',hn'⟩:=eX (up n k 1);obtain⟨C',hC'⟩:=eX (up C k cap1);rw[hP',hn',hC']at hx5;have HEQ:=hid (And.intro hP' (And.intro hn' hC'));have HR5:=hid hr5;have HI5:=hid hi5;have HB5:=hid hb5
   obtain⟨⟨e0,e1,e2,e3,e4⟩, -, -, -, -, -⟩:=hx5.all;obtain⟨⟨r0,r1,r2,r3,r4⟩,z0,z1,z2,z3,z4⟩:=hr5.all;have HGB:Hid (w.heap.size<=g1):=hid (by have h1:=HB.out.size;have h2:=HB0.out;omega);have HCC:=hid hgc1;clear hP' hn' hC' hx5 hr5 hi5 hb5 hy hap hc2 hf2 hx2 hb2 hir1 hgrow1 hown1;go_wp2_with fail;change bodyPost _ _ _ _ _ (st5 y (B+1) (.slice (P' 0) (n' 0) (C' 0)) (.slice (P' 1) (n' 1) (C' 1)) (.slice (P' 2) (n' 2) (C' 2)) (.slice (P' 3) (n' 3) (C' 3)) (.slice (P' 4) (n' 4) (C' 4)));have hz:=Zuv HR5.out rfl (.slice (P' 0) (n' 0) (C' 0)) (.slice (P' 1) (n' 1) (C' 1)) (.slice (P' 2) (n' 2) (C' 2)) (.slice (P' 3) (n' 3) (C' 3)) (.slice (P' 4) (n' 4) (C' 4));have hbz:=Zi3 (b0:=w.heap.size) HB5.out HWB.out (.slice (P' 0) (n' 0) (C' 0)) (.slice (P' 1) (n' 1) (C' 1)) (.slice (P' 2) (n' 2) (C' 2)) (.slice (P' 3) (n' 3) (C' 3)) (.slice (P' 4) (n' 4) (C' 4));have hiz:Za7 (st5 y (B+1) (.slice (P' 0) (n' 0) (C' 0)) (.slice (P' 1) (n' 1) (C' 1)) (.slice (P' 2) (n' 2) (C' 2)) (.slice (P' 3) (n' 3) (C' 3)) (.slice (P' 4) (n' 4) (C' 4))) (some (aD g1 0)) _:=Zij HI5.out (by have:=HBB.out;omega) () (fun k hk=>Zot y hk _ _ _ _ _) (by simp[st5,World.setCell]);generalize st5 y (B+1) (.slice (P' 0) (n' 0) (C' 0)) (.slice (P' 1) (n' 1) (C' 1)) (.slice (P' 2) (n' 2) (C' 2)) (.slice (P' 3) (n' 3) (C' 3)) (.slice (P' 4) (n' 4) (C' 4))=Z at*
   have g0:=(Zaa hz 0).1;have g1':=(Zaa hz 1).1;have g2:=(Zaa hz 2).1;have g3':=(Zaa hz 3).1;have g4:=(Zaa hz 4).1
   simp at g0 g1' g2 g3' g4;exact bodyPost_ret (v:=.agg (qC P' n' C')) (by simp[results,Tryz.results190,go_sem,g0,g1',g2,g3',g4,qC]) rfl ⟨some (aD g1 0),cap1,by rw[<-HEQ.out.1,<-HEQ.out.2.1,<-HEQ.out.2.2,HE.out.2.1],hiz,by rw[HE.out.2.1];have:=HCC.out;omega,⟨(by simp),(fun g off e=>by cases e;exact HGB.out)⟩,hbz⟩
 · have HNB:Hid (nk<=1000):=hid (by rw[HNK.out];exact HLQ.out)
   clear h0
   go_upto_region 4 with(at_builtin;first|(refine wpList_append_own _ rfl _ _ 28 rfl b0 3 i0 (iV 0) 1 8 Tryz.underlying28 HI.out HZ0.out HZ1.out HZ2.out rfl (by decide) _ _ _ rfl HR0.out ⟨_,0,none⟩ 1 1 [iV a] rfl rfl (Zo4 _ _ _) (by simp[Value.oneCell']) (by unfold maxLen;omega) (by omega) (by have:=HB0.out;simp;omega) ?_;intro v1 w2 hown1 hgrow1 _;obtain⟨g1,cap1,rfl,hgc1,hgb1,hir1⟩:=Zef (zs:=[a]) hown1 (by simp);have hb2:=Zes HR0.out hgrow1 (by have:=HB0.out;simp;omega) HXA.out;have hx2:=HX2.out w2 hb2;have hc2:=hx2.cell hk;rw[HE.out.1,HE.out.2.1,HE.out.2.2]at hc2;have hf2:=(Zaa hx2 k).2)|(refine wpList_append_own _ rfl _ _ 28 rfl b0 3 i0 (iV 0) 1 8 Tryz.underlying28 HI.out HZ0.out HZ1.out HZ2.out rfl (by decide) _ _ _ rfl hown1 ad nk ck ((adI (q k)).map (Value.int .i64)) rfl (by simp[adI];exact HNK.out.symm) (Zmu (HQ2.out _ hb2)) (by simp[Value.oneCell']) (by unfold maxLen;have:=HNB.out;omega) (by have:=HNB.out;omega) (by have hgz:=hgrow1.size;have hbz:=HB0.out;simp at hgz;omega) ?_;intro v3 w3 hown3 hgrow3 _;obtain⟨g3,cap3,rfl,hgc3,hgb3,hir3⟩:=Zef (zs:=a::adI (q k)) (by simpa using hown3) (by simp);have hb3:=Zes hown1 hgrow3 (by have hgz:=hgrow1.size;have hbz:=HB0.out;simp at hgz;omega) hb2;have hx3:=HX2.out w3 hb3;have hc3:=hx3.cell hk;rw[HE.out.1,HE.out.2.1,HE.out.2.2]at hc3;have hf3:=(Zaa hx3 k).2))
   have hg3:g3≠B:=by have:=HBB.out;omega
   have hx5:=hx3.set hk (some (aD g3 0)) (1+nk) cap3;have hr5:QBx (B+1) q0P q0N q0N (w3.setCell (aD B k) (.slice (some (aD g3 0)) (1+nk) cap3)):=(Zah _ (by omega)).trans (HR2.out _ hb3)
   have hi5:Za7 (w3.setCell (aD B k) (.slice (some (aD g3 0)) (1+nk) cap3)) (some (aD g3 0)) (adI (p::q k)):=by
    rw[show adI (p::q k)=a::adI (q k) by simp[adI,<-HA.out]];exact Zij hir3 hg3 () (fun j hj=>Zah _ hj) (by simp[World.setCell])
   have hb5:Below w.heap.size w (w3.setCell (aD B k) (.slice (some (aD g3 0)) (1+nk) cap3)):=(HFB.out _ hb3).setCell (p:=(aD B k)) (by have:=HWS.out;show _<=B;omega) _;obtain⟨y,hy⟩:=eX (w3.setCell (aD B k) (.slice (some (aD g3 0)) (1+nk) cap3));rw[hy]at hx5 hr5 hi5 hb5;change Code.wp _ _ _ _ (w3.setCell (aD B k) (.slice (some (aD g3 0)) (1+nk) cap3));rw[hy];obtain⟨P',hP'⟩:=eX (up P k (some (aD g3 0)));obtain⟨n',hn'⟩:=eX (up n k (1+nk));obtain⟨C',hC'⟩:=eX (up C k cap3);rw[hP',hn',hC']at hx5;have HEQ:=hid (And.intro hP' (And.intro hn' hC'));have HR5:=hid hr5;have HI5:=hid hi5;have HB5:=hid hb5
   obtain⟨⟨e0,e1,e2,e3,e4⟩, -, -, -, -, -⟩:=hx5.all;obtain⟨⟨r0,r1,r2,r3,r4⟩,z0,z1,z2,z3,z4⟩:=hr5.all;have HGB:Hid (w.heap.size<=g3):=hid (by have h1:=HB.out.size;have h2:=HB0.out;omega);have HCC:=hid hgc3;clear hP' hn' hC' hx5 hr5 hi5 hb5 hy hc2 hf2 hx2 hb2 hir1 hc3 hf3 hx3 hb3 hir3 hgrow3 hown3 hgrow1 hown1;go_wp2_with fail;change bodyPost _ _ _ _ _ (st5 y (B+1) (.slice (P' 0) (n' 0) (C' 0)) (.slice (P' 1) (n' 1) (C' 1)) (.slice (P' 2) (n' 2) (C' 2)) (.slice (P' 3) (n' 3) (C' 3)) (.slice (P' 4) (n' 4) (C' 4)));have hz:=Zuv HR5.out rfl (.slice (P' 0) (n' 0) (C' 0)) (.slice (P' 1) (n' 1) (C' 1)) (.slice (P' 2) (n' 2) (C' 2)) (.slice (P' 3) (n' 3) (C' 3)) (.slice (P' 4) (n' 4) (C' 4));have hbz:=Zi3 (b0:=w.heap.size) HB5.out HWB.out (.slice (P' 0) (n' 0) (C' 0)) (.slice (P' 1) (n' 1) (C' 1)) (.slice (P' 2) (n' 2) (C' 2)) (.slice (P' 3) (n' 3) (C' 3)) (.slice (P' 4) (n' 4) (C' 4));have hiz:Za7 (st5 y (B+1) (.slice (P' 0) (n' 0) (C' 0)) (.slice (P' 1) (n' 1) (C' 1)) (.slice (P' 2) (n' 2) (C' 2)) (.slice (P' 3) (n' 3) (C' 3)) (.slice (P' 4) (n' 4) (C' 4))) (some (aD g3 0)) _:=Zij HI5.out (by have:=HBB.out;omega) () (fun k hk=>Zot y hk _ _ _ _ _) (by simp[st5,World.setCell]);generalize st5 y (B+1) (.slice (P' 0) (n' 0) (C' 0)) (.slice (P' 1) (n' 1) (C' 1)) (.slice (P' 2) (n' 2) (C' 2)) (.slice (P' 3) (n' 3) (C' 3)) (.slice (P' 4) (n' 4) (C' 4))=Z at*
   have g0:=(Zaa hz 0).1;have g1':=(Zaa hz 1).1;have g2:=(Zaa hz 2).1;have g3':=(Zaa hz 3).1;have g4:=(Zaa hz 4).1
   simp at g0 g1' g2 g3' g4;exact bodyPost_ret (v:=.agg (qC P' n' C')) (by simp[results,Tryz.results190,go_sem,g0,g1',g2,g3',g4,qC]) rfl ⟨some (aD g3 0),cap3,by rw[<-HEQ.out.1,<-HEQ.out.2.1,<-HEQ.out.2.2,HE.out.2.1,Nat.add_comm nk 1],hiz,by rw[HE.out.2.1];have:=HCC.out;omega,⟨(by simp),(fun g off e=>by cases e;exact HGB.out)⟩,hbz⟩
end
section
open Go Go.RowKit Go.Shelf
def Yhe (P:Nat->Option Addr) (n C:Nat->Nat) (k a:Nat) (l:List Nat) (w:World) (e:Ending) (w':World):Prop:=
 ∃p' c',e=.returned (.tuple #[.agg (qC (up P k p') (up n k (n k-1)) (up C k c')),iV ((4096*a:Nat):Int),.bool true])/\Za7 w' p' (adI l)/\(p'=none->c'=0)/\l.length<=c'/\(∀g off,p'=some (aD g off)->w.heap.size<=g)/\Below w.heap.size w w'
theorem Zg0 {w w':World} {p:Option Addr} {zs:List Int} (h:Za7 w p zs) {B:Nat} (hg:∀g off,p=some (aD g off)->g≠B) (hk:∀k,k≠B->w'.heap[k]?=w.heap[k]?) (hs:w'.heap.size=w.heap.size):Za7 w' p zs:=by
 rcases h with h|⟨b,off,h1,h2,h3⟩
 · exact .inl h
 · exact .inr ⟨b,off,h1,by omega,fun j hj=>(World.cell?_of_block (w:=w) (a:=(aD b (off+j))) (hk b (hg b off h1))).trans (h3 j hj)⟩
theorem Zje {W:World} {base:Nat} {v:Value} {k:Nat} {zs:List Int} (h:W.ownsRow base 3 1 v k (zs.map (Value.int .i64))):∃p cap,v=.slice p k cap/\(p=none->cap=0)/\zs.length<=cap/\(∀g off,p=some (aD g off)->base<=g)/\Za7 W p zs:=by
 by_cases hz:zs=[]
 · subst hz
   rcases h.2 with⟨rfl,h0⟩|⟨g,cap,cur,rfl,hg,hb,hc,_⟩
   · exact⟨none,0,by rw[h0],fun _=>rfl,Nat.le_refl _,(fun g off e=>by cases e),.inl rfl⟩
   · exact⟨_,cap,rfl,(fun e=>by cases e),Nat.zero_le _,(fun g' off e=>by cases e;exact hg),.inl rfl⟩
 · obtain⟨g,cap,e1,e2,e3,e4⟩:=Zef h hz
   have hk:zs.length=k:=by have:=h.1;simpa using this
   exact⟨_,cap,e1,(fun e=>by cases e),by omega,(fun g' off e=>by cases e;exact e3),e4⟩
theorem Zve (P:Nat->Option Addr) (n C:Nat->Nat) (q:Nat->List Nat) (k a:Nat) (l:List Nat) (hk:k<5) (w:World) (h:QAt P q w) (hn:n k=(q k).length) (hl:(q k).length<=1000) (hc:n k<=C k) (he:q k=a::l):
 Calls Tryz.prog 138 #[.agg (qC P n C),iV k] w (Yhe P n C k a l w):=by
 obtain⟨i0,hi0,hz0,hz1,hz2⟩:=info_parts Tryz.Zkd;have HI:=hid hi0;have HZ0:=hid hz0;have HZ1:=hid hz1;have HZ2:=hid hz2
 clear hi0 hz0 hz1 hz2;have HQ:=hid ((h.below (Zbm w (.cells (qC P n C) 30) (.cells (qC q0P q0N q0N) 30))) k hk);clear h;have hb:=Zbm w (.cells (qC P n C) 30) (.cells (qC q0P q0N q0N) 30);have hp:=Zbk w (qC P n C) (qC q0P q0N q0N) 30 30;go_enter Tryz.func138,Tryz.ntmps138;go_upto_region 1 with fail;obtain⟨x,hxx⟩:=eX ((w.alloc (.cells (qC P n C) 30)).alloc (.cells (qC q0P q0N q0N) 30));obtain⟨B,hB⟩:=eX w.heap.size;rw[hxx]at hb hp HQ;rw[hB]at hp;change Code.wp _ _ _ _ ((w.alloc (.cells (qC P n C) 30)).alloc (.cells (qC q0P q0N q0N) 30));rw[hxx,hB];have HWB:Hid (w.heap.size<=B+1):=hid (by omega);have HWS:Hid (w.heap.size<=B):=hid (by omega);have hx:QBx B P n C x:=hp.1;have hr:QBx (B+1) q0P q0N q0N x:=hp.2;obtain⟨b0,hb0⟩:=eX x.heap.size;have HBB:Hid (B+1<b0):=hid (by have:=(Array.getElem?_eq_some_iff.1 hr).1;omega);have HX:=hid hx;have HR:=hid hr;have HB:=hid hb;have HB0:=hid hb0
 have HR0:=hid (show x.ownsRow b0 3 1 (.slice none 0 0) 0 []from World.ownsRow_nil _ _ _ _);obtain⟨ck,hck⟩:=eX (C k);obtain⟨pk,hpk⟩:=eX (P k);obtain⟨m,hm⟩:=eX l.length;have hnk:n k=m+1:=by rw[hn,he,List.length_cons,hm]
 have hcell:x.cell? (aD B k)=some (.slice pk (m+1) ck):=by rw[<-hnk,<-hck,<-hpk];exact hx.cell hk
 have hfr:=(Zaa hx k).2;have HE:=hid (And.intro hpk (And.intro hnk hck));rw[hpk,he]at HQ;rw[hnk,hck]at hc;have hm1:m<=1000:=by rw[he,List.length_cons]at hl;omega
 have HX2:Hid (∀y,Below b0 x y->QBx B P n C y):=hid fun y hy=>(hy.block B (by have:=HBB.out;omega)).trans HX.out
 have HR2:Hid (∀y,Below b0 x y->QBx (B+1) q0P q0N q0N y):=hid fun y hy=>(hy.block (B+1) (by have:=HBB.out;omega)).trans HR.out
 have HFB:Hid (∀y,Below b0 x y->Below w.heap.size w y):=hid fun y hy=>HB.out.trans (by rw[<-HB0.out]at hy;exact hy.mono HB.out.size)
 have hk0:¬(k:Int)<0:=by omega
 have hk4:¬4<(k:Int):=by omega
 rcases HQ.out with e|⟨b,off,rfl,hbl,hcl⟩
 · simp[adI]at e
 have HML:=hid hm;have hc0:=hcl 0 (by simp[adI]);have hadE:∃ai:Int,((4096*a:Nat):Int)=ai:=⟨_,rfl⟩
 obtain⟨ai,hai⟩:=hadE;have hc0':x.cell? (aD b off)=some (iV ai):=by rw[<-hai];simpa[adI]using hc0
 have HSRC:Hid (∀j u,((adI l).map (Value.int .i64))[j]?=some u->x.cell? (((aD b (off+1)):Addr).add j)=some u):=hid fun j u e=>by
  have eA:((aD b (off+1)):Addr).add j=(aD b (off+(j+1))):=by simp only[Addr.add];split<;>simp_all<;>(try omega)
  have h2:=Zmu (w:=x) (ad:=(aD b off)) HQ.out (j+1) u (by simpa[adI]using e);have eB:((aD b off):Addr).add (j+1)=(aD b (off+(j+1))):=by simp only[Addr.add];split<;>simp_all
  rw[eB]at h2;rw[eA];exact h2
 have HAI:=hid hai;clear hb hp hxx hB hx hr hb0 hck hpk hn hl hnk hcl hc0 hai hm;have hbb:=HBB.out;have hm0:((m:Int)+1==0)=false:=by simp;omega
 by_cases hck1:ck=1
 focus
  subst hck1
  obtain rfl:m=0:=by omega
  have HLE:Hid (l=[]):=hid (List.eq_nil_of_length_eq_zero HML.out);clear hc hm1
  go_upto_region 6 with(at_builtin;refine wpList_append_own _ rfl _ _ 28 rfl b0 3 i0 (iV 0) 1 8 Tryz.underlying28 HI.out HZ0.out HZ1.out HZ2.out rfl (by decide) _ _ _ rfl HR0.out (aD b off) 0 0 ((adI l).map (Value.int .i64)) rfl (by rw[HLE.out];rfl) (fun j u e=>by rw[HLE.out]at e;simp[adI]at e) (by simp[Value.oneCell']) (by unfold maxLen;omega) (by omega) (by have:=HB0.out;omega) ?_;intro v2 w2 hown2 hgrow2 _;obtain⟨p5,c5,rfl,hpc5,hpl5,hpb5,hir5⟩:=Zje (zs:=adI l) (by simpa using hown2);have hb2:=Zes HR0.out hgrow2 (by have:=HB0.out;omega) (Below.refl b0 x);have hx2:=HX2.out w2 hb2;have hc2:=hx2.cell hk;rw[HE.out.1,HE.out.2.1,HE.out.2.2]at hc2;have hf2:=(Zaa hx2 k).2)
  have hgB:∀g off,p5=some (aD g off)->g≠B:=fun g off e=>by have:=hpb5 g off e;omega
  have HNB5:Hid (∀g off,p5=some (aD g off)->g≠B+1):=hid fun g off e=>by have:=hpb5 g off e;omega
  have HPC5:=hid hpc5;have HPL5:Hid (l.length<=c5):=hid (by simpa[adI]using hpl5);have HPB5:Hid (∀g off,p5=some (aD g off)->w.heap.size<=g):=hid fun g off e=>by have h0:=hpb5 g off e;have h1:=HB.out.size;have h2:=HB0.out;omega
  have hx5:=hx2.set hk p5 0 c5;have hr5:QBx (B+1) q0P q0N q0N (w2.setCell (aD B k) (.slice p5 0 c5)):=(Zah _ (by omega)).trans (HR2.out _ hb2);have hi5:Za7 (w2.setCell (aD B k) (.slice p5 0 c5)) p5 (adI l):=Zg0 hir5 hgB (fun j hj=>Zah _ hj) (by simp[World.setCell]);have hb5:Below w.heap.size w (w2.setCell (aD B k) (.slice p5 0 c5)):=(HFB.out _ hb2).setCell (p:=(aD B k)) (by have:=HWS.out;show _<=B;omega) _;obtain⟨y,hy⟩:=eX (w2.setCell (aD B k) (.slice p5 0 c5));rw[hy]at hx5 hr5 hi5 hb5;change Code.wp _ _ _ _ (w2.setCell (aD B k) (.slice p5 0 c5));rw[hy];obtain⟨P',hP'⟩:=eX (up P k p5);obtain⟨n',hn'⟩:=eX (up n k 0)
 rotate_left
 focus
  skip
  go_upto_region 6 with(at_builtin;refine wpList_append_own _ rfl _ _ 28 rfl b0 3 i0 (iV 0) 1 8 Tryz.underlying28 HI.out HZ0.out HZ1.out HZ2.out rfl (by decide) _ _ _ rfl HR0.out (aD b (off+1)) m (ck-1) ((adI l).map (Value.int .i64)) rfl (by simp[adI];exact HML.out) HSRC.out (by simp[Value.oneCell']) (by unfold maxLen;omega) (by omega) (by have:=HB0.out;omega) ?_;intro v2 w2 hown2 hgrow2 _;obtain⟨p5,c5,rfl,hpc5,hpl5,hpb5,hir5⟩:=Zje (zs:=adI l) (by simpa using hown2);have hb2:=Zes HR0.out hgrow2 (by have:=HB0.out;omega) (Below.refl b0 x);have hx2:=HX2.out w2 hb2;have hc2:=hx2.cell hk;rw[HE.out.1,HE.out.2.1,HE.out.2.2]at hc2;have hf2:=(Zaa hx2 k).2)
  have hgB:∀g off,p5=some (aD g off)->g≠B:=fun g off e=>by have:=hpb5 g off e;omega
  have HNB5:Hid (∀g off,p5=some (aD g off)->g≠B+1):=hid fun g off e=>by have:=hpb5 g off e;omega
  have HPC5:=hid hpc5;have HPL5:Hid (l.length<=c5):=hid (by simpa[adI]using hpl5);have HPB5:Hid (∀g off,p5=some (aD g off)->w.heap.size<=g):=hid fun g off e=>by have h0:=hpb5 g off e;have h1:=HB.out.size;have h2:=HB0.out;omega
  have hx5:=hx2.set hk p5 m c5;have hr5:QBx (B+1) q0P q0N q0N (w2.setCell (aD B k) (.slice p5 m c5)):=(Zah _ (by omega)).trans (HR2.out _ hb2);have hi5:Za7 (w2.setCell (aD B k) (.slice p5 m c5)) p5 (adI l):=Zg0 hir5 hgB (fun j hj=>Zah _ hj) (by simp[World.setCell]);have hb5:Below w.heap.size w (w2.setCell (aD B k) (.slice p5 m c5)):=(HFB.out _ hb2).setCell (p:=(aD B k)) (by have:=HWS.out;show _<=B;omega) _;obtain⟨y,hy⟩:=eX (w2.setCell (aD B k) (.slice p5 m c5));rw[hy]at hx5 hr5 hi5 hb5;change Code.wp _ _ _ _ (w2.setCell (aD B k) (.slice p5 m c5));rw[hy];obtain⟨P',hP'⟩:=eX (up P k p5);obtain⟨n',hn'⟩:=eX (up n k m)
 all_goals
  obtain⟨C',hC'⟩:=eX (up C k c5);rw[hP',hn',hC']at hx5;have HEQ:=hid (And.intro hP' (And.intro hn' hC'));have HR5:=hid hr5;have HI5:=hid hi5;have HB5:=hid hb5
  obtain⟨⟨e0,e1,e2,e3,e4⟩, -, -, -, -, -⟩:=hx5.all;obtain⟨⟨r0,r1,r2,r3,r4⟩,z0,z1,z2,z3,z4⟩:=hr5.all;clear hP' hn' hC' hx5 hr5 hi5 hb5 hy hc2 hf2 hx2 hb2 hir5 hgrow2 hown2 hpb5 hpc5 hpl5 hgB;go_wp2_with fail;change bodyPost _ _ _ _ _ (st5 y (B+1) (.slice (P' 0) (n' 0) (C' 0)) (.slice (P' 1) (n' 1) (C' 1)) (.slice (P' 2) (n' 2) (C' 2)) (.slice (P' 3) (n' 3) (C' 3)) (.slice (P' 4) (n' 4) (C' 4)));have hz:=Zuv HR5.out rfl (.slice (P' 0) (n' 0) (C' 0)) (.slice (P' 1) (n' 1) (C' 1)) (.slice (P' 2) (n' 2) (C' 2)) (.slice (P' 3) (n' 3) (C' 3)) (.slice (P' 4) (n' 4) (C' 4));have hbz:=Zi3 (b0:=w.heap.size) HB5.out HWB.out (.slice (P' 0) (n' 0) (C' 0)) (.slice (P' 1) (n' 1) (C' 1)) (.slice (P' 2) (n' 2) (C' 2)) (.slice (P' 3) (n' 3) (C' 3)) (.slice (P' 4) (n' 4) (C' 4));have hiz:Za7 (st5 y (B+1) (.slice (P' 0) (n' 0) (C' 0)) (.slice (P' 1) (n' 1) (C' 1)) (.slice (P' 2) (n' 2) (C' 2)) (.slice (P' 3) (n' 3) (C' 3)) (.slice (P' 4) (n' 4) (C' 4))) p5 _:=Zg0 HI5.out HNB5.out (fun k hk=>Zot y hk _ _ _ _ _) (by simp[st5,World.setCell]);generalize st5 y (B+1) (.slice (P' 0) (n' 0) (C' 0)) (.slice (P' 1) (n' 1) (C' 1)) (.slice (P' 2) (n' 2) (C' 2)) (.slice (P' 3) (n' 3) (C' 3)) (.slice (P' 4) (n' 4) (C' 4))=Z at*
  have g0:=(Zaa hz 0).1;have g1':=(Zaa hz 1).1;have g2:=(Zaa hz 2).1;have g3':=(Zaa hz 3).1;have g4:=(Zaa hz 4).1
  simp at g0 g1' g2 g3' g4;exact bodyPost_ret (v:=.tuple #[.agg (qC P' n' C'),iV ai,.bool true]) (by simp[results,Tryz.results138,go_sem,g0,g1',g2,g3',g4,qC]) rfl ⟨p5,c5,by rw[<-HEQ.out.1,<-HEQ.out.2.1,<-HEQ.out.2.2,HE.out.2.1,HAI.out]<;>rfl,hiz,HPC5.out,HPL5.out,HPB5.out,hbz⟩
end
section
open Go Go.RowKit Go.Shelf
theorem Zv1 {C n:Nat->Nat} (h:∀k,k<5->C k=n k) (o:Int) (k:Nat) (hk:k<5):Zf5 C o k=Zf5 n o k:=by unfold Zf5;rw[h k hk]
theorem Zni {C n:Nat->Nat} (h:∀k,k<5->C k=n k) (o:Int):lsV C o=lsV n o:=by
 unfold lsV
 have:(List.range 5).find? (Zf5 C o)=(List.range 5).find? (Zf5 n o):=by
  have e:∀l:List Nat,(∀k∈l,k<5)->l.find? (Zf5 C o)=l.find? (Zf5 n o):=fun l=>by
   induction l with
   |nil=>intro _;rfl
   |cons a l ih=>
    intro hl;rw[List.find?_cons,List.find?_cons,Zv1 h o a (hl a (by simp)),ih fun k hk=>hl k (by simp[hk])]
  exact e _ fun k hk=>List.mem_range.1 hk
 rw[this]
end
section
open Go Go.RowKit Go.Shelf Go.Deep Go.ChangeShapes Go.WideShapes Go.ChangeAt
section
variable {A R Q:Nat} {m m':Nat->UInt8} {P:Nat->Option Addr} {C:Nat->Nat} {q:Nat->List Nat} {w x y:World}
end
theorem Zso {A g:Nat} {s:ASt} {x y:World} (h:On A s x) (hb:Below x.heap.size x y) (hg:x.heap.size<=g) (hl:g<y.heap.size):Zbb A g y:=by
 obtain⟨P,ps,p,n,cap,h⟩:=h;have h2:=h.below hb
 refine⟨hl,fun ho=>?_,fun ho=>?_⟩
 · rcases(Za0 h2 _).1 ho with h3|h3|⟨i,h3⟩
   · have:=h.ltA;omega
   · have:=h.ltP;omega
   · have:=h.ltG h3;omega
 · obtain⟨off,h3⟩:=(Zbp h2 _).1 ho
   have:=h.ltE h3;omega
theorem Zlv {y:World} {p:Option Addr} {zs:List Int} (h:Za7 y p zs) (hz:zs≠[]) {g off:Nat} (e:p=some (aD g off)):g<y.heap.size:=by
 rcases h with h|⟨b,o,e2,hl,_⟩
 · exact absurd h hz
 · rw[e]at e2;cases e2;exact hl
end
end Go.Proofs.YtgcidfenjlmljaaGreat.Bt
