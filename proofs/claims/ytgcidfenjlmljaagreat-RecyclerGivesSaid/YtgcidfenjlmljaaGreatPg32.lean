import Derived.Test.YtgcidfenjlmljaaGreatPg31
import Derived.Test.YtgcidfenjlmljaaGreatPgR
set_option linter.unusedVariables false
set_option linter.unusedSimpArgs false
set_option maxRecDepth 100000
set_option maxHeartbeats 16000000
namespace Go.Proofs.YtgcidfenjlmljaaGreat.Bt
section
open Go Go.RowKit Go.Shelf
section
variable {Q B A n va g K:Nat} {s s':ASt} {x y w:World} {R:Zag} {q:Nat->List Nat}
theorem On.one (h:On A s x) (k:On A s' x):s'.L=s.L/\∀a,a<s.L*4096->s'.mm a=s.mm a:=by
 obtain⟨P,ps,p,m,cap,h⟩:=h;obtain⟨P2,ps2,p2,m2,cap2,k⟩:=k;obtain⟨rfl,rfl⟩:=h.same k;have hL:s'.L=s.L:=by rw[<-k.len,<-h.len]
 refine⟨hL,fun a ha=>?_⟩
 have hi:a/4096<ps.length:=by rw[h.len];omega
 have ea:a=a/4096*4096+a%4096:=by omega
 cases e:ps[a/4096]'hi with
 |none=>
  have e2:ps[a/4096]?=some none:=by rw[List.getElem?_eq_getElem hi,e]
  rw[ea,h.no _ e2 _ (by omega),k.no _ e2 _ (by omega)]
 |some b=>
  have e2:ps[a/4096]?=some (some b):=by rw[List.getElem?_eq_getElem hi,e]
  have h1:=h.pg _ _ e2;rw[k.pg _ _ e2]at h1;simp only[Option.some.injEq,Obj.cells.injEq]at h1;have h2:=congrArg (fun c:Array Value=>c[a%4096]?) h1.1;simp only[Zqk _ _ _ (show a%4096<4096 by omega),Option.some.injEq,Value.int.injEq,true_and]at h2;rw[ea];exact UInt8.toNat_inj.1 (by omega)
theorem Ygt (h:On A s x) {va k:Nat} (ht:va+8*k+8<=s.L*4096):hdC (@Classical.epsilon ASt ⟨⟨0,[],fun _=>0,false,0⟩⟩ (fun s=>On A s x)).mm va k=hdC s.mm va k:=by
 have h2:On A (@Classical.epsilon ASt ⟨⟨0,[],fun _=>0,false,0⟩⟩ (fun s=>On A s x)) x:=Classical.epsilon_spec (p:=fun s=>On A s x) ⟨s,h⟩;exact Zar fun j hj=>(h.one h2).2 _ (by omega)
structure TrS (n va g K:Nat) (R:Zag) (q:Nat->List Nat) (s:ASt) (R':Zag) (q':Nat->List Nat) (s':ASt):Prop where
 rc:Rcy n g R' va q' K s'
 ev:Evo va R R' q q' s.mm s'.mm
 tk:∀i l,R' i=some (l,true)↔R i=some (l,true)/\(InQ q (1+i)->InQ q' (1+i))
 sb:∀p,InQ q' p->InQ q p
 rf:s'.rf=s.rf
 lf:s'.lf=s.lf
theorem TrS.start (h:Rcy n g R va q K s):TrS n va g K R q s R q s:=⟨h,Evo.refl _ _ _ _,fun i l=>⟨fun e=>⟨e,id⟩,fun e=>e.1⟩,fun _ h=>h,rfl,rfl⟩
theorem TrS.drop {R1:Zag} {q1:Nat->List Nat} {s1:ASt} (h:TrS n va g K R q s R1 q1 s1) {k i:Nat} {l:List Nat} (hk:k<5) (e:q1 k=(1+i)::l) (f:R1 i=some (k,true)) {w':World} {e':Ending}
 (hr:Yjj Q B A n g va K i k R1 (Zde q1 k l) {s1 with mm:=Zhg s1.mm va k (1+i)} w e' w'):
 e'=.returned (iV 0)/\∃R2 s2,TrS n va g K R q s R2 (Zde q1 k l) s2/\RcV Q B A n va s2 w'/\Zam A w w':=by
 obtain⟨rfl,R2,s2,b1,b2,b3,b4,b5,b6,b7⟩:=hr;have hp:InQ q1 (1+i):=⟨k,hk,by rw[e];exact List.mem_cons_self ..⟩;have hsub:∀r∈l,r∈q1 k:=fun r hr=>by rw[e];exact List.mem_cons_of_mem _ hr
 have hno:=(h.rc.pop hk e).2.2.2;rw[Za2]at b5
 refine⟨rfl,R2,s2,⟨b2,h.ev.trans (Evo.drop h.rc hk e rfl f b4 b5),fun j o=>?_,fun p hp=>h.sb p (Zjq hsub hp),b6.trans h.rf,b7.trans h.lf⟩,b1,b3⟩
 constructor
 · intro c
   obtain⟨c1,c2⟩:=(b4 j o).1 c;obtain⟨c3,c4⟩:=(h.tk j o).1 c2
   exact⟨c3,fun d=>Zlw e (c4 d) (by omega)⟩
 · rintro ⟨c1,c2⟩
   have c3:R1 j=some (o,true):=(h.tk j o).2 ⟨c1,fun d=>Zjq hsub (c2 d)⟩
   refine(b4 j o).2 ⟨fun d=>?_,c3⟩
   subst d;exact hno (c2 (h.sb _ hp))
abbrev bnB (A va Cb:Nat):Blk:=⟨Cb,#[pT A,iV va,iV ((64:Nat):Int)],76⟩
abbrev ckB (Db:Nat) (a o u x:Int):Blk:=⟨Db,#[iV a,iV o,.int .u64 u,iV x],71⟩
structure TrW (Q B A n va g K:Nat) (R:Zag) (q:Nat->List Nat) (s:ASt) (w:World) (L:List Blk) (R':Zag) (q':Nat->List Nat) (s':ASt) (x:World):Prop where
 ts:TrS n va g K R q s R' q' s'
 rv:RcV Q B A n va s' x
 fr:Fr A w L x
theorem TrW.below {L:List Blk} {R':Zag} {q':Nat->List Nat} (h:TrW Q B A n va g K R q s w L R' q' s' x) (hb:Below x.heap.size x y):TrW Q B A n va g K R q s w L R' q' s' y:=
 ⟨h.ts,h.rv.below hb,h.fr.below h.rv.1.1 hb⟩
structure TrX (Q B A n va g K:Nat) (R:Zag) (q:Nat->List Nat) (s:ASt) (w:World) (L:List Blk) (k i:Nat) (l:List Nat) (R1:Zag) (q1:Nat->List Nat) (s1:ASt) (x:World):Prop where
 ts:TrS n va g K R q s R1 q1 s1
 hk:k<5
 at_:q1 k=(1+i)::l
 tk:R1 i=some (k,true)
 rv:RcV Q B A n va {s1 with mm:=Zhg s1.mm va k (1+i)} x
 fr:Fr A w L x
theorem TrX.rel {L:List Blk} {k i:Nat} {l:List Nat} {R1:Zag} {q1:Nat->List Nat} {s1:ASt} (h:TrX Q B A n va g K R q s w L k i l R1 q1 s1 x):
 Calls Tryz.prog 84 #[rcP Q,iV (adr i:Int)] x fun e x'=>e=.returned (iV 0)/\∃R2 s2,TrW Q B A n va g K R q s w L R2 (Zde q1 k l) s2 x':=by
 obtain⟨p1,p2,p3,p4⟩:=h.ts.rc.pop h.hk h.at_;have ho:=h.ts.rc.off h.tk ⟨k,h.hk,by rw[h.at_];exact List.mem_cons_self ..⟩
 refine(Zqb h.rv p1 h.tk ho p4).mono ?_
 intro e x' hr;obtain⟨rfl,R2,s2,b1,b2,b3⟩:=h.ts.drop h.hk h.at_ h.tk hr
 exact⟨rfl,R2,s2,b1,b2,h.fr.Zaq h.rv.1.1 b3⟩
theorem TrW.pop {L:List Blk} {R1:Zag} {q1:Nat->List Nat} {s1:ASt} (h:TrW Q B A n va g K R q s w L R1 q1 s1 x) {k:Nat} (hk:k<5):
 Calls Tryz.prog 83 #[vwV A va 64,iV k] x fun e x'=>∃a o ok,e=.returned (.tuple #[.agg #[iV a,iV o,.int .u64 0,iV 0],.bool ok])/\
  ((ok=false/\q1 k=[]/\TrW Q B A n va g K R q s w L R1 q1 s1 x')\/(ok=true/\∃i l,a=(adr i:Int)/\o=(k:Int)/\TrX Q B A n va g K R q s w L k i l R1 q1 s1 x')):=by
 cases e:q1 k with
 |nil=>
  refine(Yc1 h.rv.1.1 h.ts.rc hk e).mono ?_
  rintro e' x' ⟨rfl,hb⟩
  exact⟨0,0,false,rfl,.inl ⟨rfl,rfl,h.below hb⟩⟩
 |cons p l=>
  refine(Zqc h.rv.1.1 h.ts.rc hk e).mono ?_
  rintro e' x' ⟨rfl,ho,hg⟩;obtain⟨i,rfl,f⟩:=h.ts.rc.tk k hk p (by rw[e];exact List.mem_cons_self ..)
  refine⟨_,_,true,rfl,.inr ⟨rfl,i,l,by rw[Za2],rfl,h.ts,hk,e,f,h.rv.Zaq ho hg rfl,h.fr.Zaq h.rv.1.1 hg⟩⟩
def muP (v:Value) (m:Nat):Nat:=match v with| .bool true=>m+1|_=>0
theorem TrX.mu {L:List Blk} {k i:Nat} {l:List Nat} {R1:Zag} {q1:Nat->List Nat} {s1:ASt} (h:TrX Q B A n va g K R q s w L k i l R1 q1 s1 x):hdC (@Classical.epsilon ASt ⟨⟨0,[],fun _=>0,false,0⟩⟩ (fun s=>On A s x)).mm va k=l.length:=by
 obtain⟨p1, -⟩:=h.ts.rc.pop h.hk h.at_;have hk:=h.hk;have ht:=Zb4 h.rv.1.1.Zch (p1.bn.view)
 rw[Ygt h.rv.1.1 (by
  have:=h.ts.rc.bu.cL
  obtain⟨x0,k0,e0,a1,a2,_⟩:=h.ts.rc.vw
  have:=h.ts.rc.bu.addr e0
  have:=h.ts.rc.bu.gG
  unfold adr at a2;show va+8*k+8<=s1.L*4096
  omega)]
 have:=p1.bn.many k h.hk
 rw[Za1]at this;exact this
def Yiz (Q B A n va g K:Nat) (R:Zag) (q:Nat->List Nat) (s:ASt) (w:World) (e:Ending) (w':World):Prop:=
 e=.returned (iV ((Zci q 5:Nat):Int))/\∃R' q' s',(∀j,j<5->q' j=[])/\TrS n va g K R q s R' q' s'/\RcV Q B A n va s' w'/\Zam A w w'
def TrR (Q B A n va g K:Nat) (R:Zag) (q:Nat->List Nat) (s:ASt) (w:World) (L:List Blk) (k:Nat) (x:World):Prop:=∃R1 q1 s1,(∀j,j<k->q1 j=[])/\TrW Q B A n va g K R q s w L R1 q1 s1 x
def TrI (Q B A n va g K:Nat) (R:Zag) (q:Nat->List Nat) (s:ASt) (w:World) (Cb k:Nat) (s6 s7:Value) (x:World):Prop:=
 ∃Db,s6=pT Db/\((s7=.bool false/\TrR Q B A n va g K R q s w [bnB A va Cb] (k+1) x)\/
  (s7=.bool true/\∃i l R1 q1 s1,(∀j,j<k->q1 j=[])/\TrX Q B A n va g K R q s w [ckB Db (adr i:Int) (k:Int) 0 0,bnB A va Cb] k i l R1 q1 s1 x))
theorem TrI.mk {Cb k:Nat} {a o:Int} {ok:Bool} {R1:Zag} {q1:Nat->List Nat} {s1:ASt} (hz:∀j,j<k->q1 j=[])
 (h:(ok=false/\q1 k=[]/\TrW Q B A n va g K R q s w [bnB A va Cb] R1 q1 s1 x)\/(ok=true/\∃i l,a=(adr i:Int)/\o=(k:Int)/\TrX Q B A n va g K R q s w [bnB A va Cb] k i l R1 q1 s1 x)):
 TrI Q B A n va g K R q s w Cb k (.pointer (some (aD x.heap.size 0))) (.bool ok) (x.alloc (.cells #[iV a,iV o,.int .u64 0,iV 0] 71)):=by
 refine⟨_,rfl,?_⟩
 rcases h with⟨rfl,h1,h2⟩|⟨rfl,i,l,rfl,rfl,h2⟩
 · refine .inl ⟨rfl,R1,q1,s1,fun j hj=>?_,h2.below (Zaj _ _)⟩
   by_cases c:j=k
   · rw[c];exact h1
   · exact hz j (by omega)
 · exact .inr ⟨rfl,i,l,R1,q1,s1,hz,{h2 with rv:=h2.rv.below (Zaj _ _),fr:=h2.fr.new h2.rv.1.1 _ _ (by unfold Zc7;decide)}⟩
theorem TrI.st {Cb Db k:Nat} {a o:Int} {ok:Bool} {c:Array Value} (hc:c.size=4) {R1:Zag} {q1:Nat->List Nat} {s1:ASt} (hz:∀j,j<k->q1 j=[])
 (h:(ok=false/\q1 k=[]/\TrW Q B A n va g K R q s w [⟨Db,c,71⟩,bnB A va Cb] R1 q1 s1 x)\/(ok=true/\∃i l,a=(adr i:Int)/\o=(k:Int)/\TrX Q B A n va g K R q s w [⟨Db,c,71⟩,bnB A va Cb] k i l R1 q1 s1 x)):
 TrI Q B A n va g K R q s w Cb k (pT Db) (.bool ok) (stR x Db [iV a,iV o,.int .u64 0,iV 0] 0):=by
 refine⟨_,rfl,?_⟩
 match c,hc with
 |⟨[_,_,_,_]⟩,_=>
 rcases h with⟨rfl,h1,h2⟩|⟨rfl,i,l,rfl,rfl,h2⟩
 · refine .inl ⟨rfl,R1,q1,s1,fun j hj=>?_,h2.ts,h2.rv.stR (L1:=[]) h2.fr _ _,(h2.fr.Zdz h2.rv.1.1 _ _).Zia⟩
   by_cases c:j=k
   · rw[c];exact h1
   · exact hz j (by omega)
 · exact .inr ⟨rfl,i,l,R1,q1,s1,hz,{h2 with rv:=h2.rv.stR (L1:=[]) h2.fr _ _,fr:=h2.fr.Zdz h2.rv.1.1 [iV (adr i:Int),iV k,.int .u64 0,iV 0] 0}⟩
end
end
end Go.Proofs.YtgcidfenjlmljaaGreat.Bt
