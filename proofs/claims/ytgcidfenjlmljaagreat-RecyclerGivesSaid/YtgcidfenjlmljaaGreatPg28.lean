import Derived.Test.YtgcidfenjlmljaaGreatPg27
import Derived.Test.YtgcidfenjlmljaaGreatPgR
set_option linter.unusedVariables false
set_option linter.unusedSimpArgs false
set_option maxRecDepth 100000
set_option maxHeartbeats 16000000
namespace Go.Proofs.YtgcidfenjlmljaaGreat.Bt
section
open Go Go.RowKit Go.Shelf
section
variable {n g va K:Nat} {R:Zag} {q:Nat->List Nat} {s:ASt}
theorem Zee {m:Nat->UInt8} {va k p a:Nat} (h1:a<4096*p\/4096*p+32<=a) (h2:a<va+8*k\/va+8*k+8<=a):Zhg m va k p a=m a:=by
 unfold Zhg;rw[Ze3 _ _ _ _ _ (by omega)];exact Zdx _ _ _ _ _ _ _ (by omega)
theorem Zfv {m:Nat->UInt8} {va k p a:Nat} (h1:a<4096*p\/4096*p+32<=a) (h2:a<va+8*k\/va+8*k+8<=a):Zfj m va k p a=m a:=by
 unfold Zfj;rw[Ze3 _ _ _ _ _ (by omega)];exact Zdx _ _ _ _ _ _ _ (by omega)
theorem Zlg (m:Nat->UInt8) (a n:Nat) (y:UInt8) {b:Nat} (h1:a<=b) (h2:b<a+n):Zb8 m a (List.replicate n y) b=y:=by
 obtain⟨d,rfl⟩:∃d,b=a+d:=⟨b-a,by omega⟩
 rw[Zlh _ _ _ (by rw[List.length_replicate];omega),List.getD_eq_getElem?_getD,List.getElem?_replicate,if_pos (by omega)];rfl
theorem Zjq {q:Nat->List Nat} {k:Nat} {l:List Nat} (hs:∀p∈l,p∈q k) {p:Nat} (h:InQ (Zde q k l) p):InQ q p:=by
 obtain⟨j,hj,hp⟩:=h;by_cases c:j=k
 · subst c;rw[Za1]at hp;exact⟨j,hj,hs p hp⟩
 · rw[Zaz _ _ c]at hp;exact⟨j,hj,hp⟩
theorem Zlw {q:Nat->List Nat} {k p0:Nat} {l:List Nat} (e:q k=p0::l) {p:Nat} (h:InQ q p) (hne:p≠p0):InQ (Zde q k l) p:=by
 obtain⟨j,hj,hp⟩:=h;by_cases c:j=k
 · subst c
   rw[e]at hp;rcases List.mem_cons.1 hp with d|d
   · exact absurd d hne
   · exact⟨j,hj,by rw[Za1];exact d⟩
 · exact⟨j,hj,by rw[Zaz _ _ c];exact hp⟩
theorem Zcx.run {R:Zag} {m m':Nat->UInt8} (h:Zcx R m m') {i k:Nat} (e:R i=some (k,true)):∀a,adr i<=a->a<adr (i+2^k)->m' a=m a:=fun a h1 h2=>h.1 i k e a h1 (by unfold adr at h2;omega)
theorem Za2 (i:Nat):adr i=4096*(1+i):=by unfold adr;omega
theorem Rcy.pop (h:Rcy n g R va q K s) {k p:Nat} {l:List Nat} (hk:k<5) (e:q k=p::l):
 Rcy n g R va (Zde q k l) K {s with mm:=Zhg s.mm va k p}/\Zj6 s.L s.es (Zhg s.mm va k p) p k/\rdX (Zhg s.mm va k p) (4096*p)=0/\¬InQ (Zde q k l) p:=by
 have hp:InQ q p:=⟨k,hk,by rw[e];exact List.mem_cons_self ..⟩;have hsub:∀r∈l,r∈q k:=fun r hr=>by rw[e];exact List.mem_cons_of_mem _ hr
 have hln:=h.len hk;obtain⟨b1,b2,b3⟩:=h.bn.pop hk e (by omega) fun r hr=>by have:=h.Yhx ⟨k,hk,hr⟩;have:=h.bu.gG;have:=h.bu.c2;omega
 have hnd:=h.bn.nd k hk;rw[e]at hnd;have ho:=h.Zds hp;obtain⟨i,rfl,f⟩:=h.tk k hk p (by rw[e];exact List.mem_cons_self ..);obtain⟨x,kx,fx,x1,x2,x3⟩:=h.vw;have p0:=Zae k
 refine⟨{bu:=?_,bn:=b1,bz:=?_,kp:=?_,kb:=h.kb,vw:=⟨x,kx,fx,x1,x2,fun c=>x3 (Zjq hsub c)⟩,tk:=fun j hj r hr=>?_},b2,b3,?_⟩
 · refine h.bu.write fun a ha=>Zee ?_ ?_
   · have:=ha i k f;rw[Za2,Za2]at this;omega
   · have:=ha x kx fx;omega
 · intro j hj
   have hz:=(h.bz k hk).2;rw[e]at hz;by_cases c:j=k
   · subst c
     rw[Za1]
     refine⟨fun c=>?_,?_⟩
     · subst c
       show hdP (Zhg s.mm va j (1+i)) va j=0;unfold Zhg;rw[Zux,show rdX s.mm (4096*(1+i))=0 from hz];rfl
     · have hz2:Yce s.mm l:=by
        cases l with
        |nil=>trivial
        |cons r l=>exact hz
       refine hz2.same fun r hr a a1 a2=>?_
       have hr2:r≠1+i:=fun d=>(List.nodup_cons.1 hnd).1 (d▸hr)
       have:=h.Zds ⟨j,hj,hsub r hr⟩
       exact Zee (by omega) (by omega)
   · rw[Zaz _ _ c]
     refine⟨fun d=>?_,(h.bz j hj).2.same fun r hr a a1 a2=>?_⟩
     · show hdP (Zhg s.mm va k (1+i)) va j=0
       unfold Zhg;rw[(Zf2 _ _ _ _ _ c).1];refine Eq.trans ?_ ((h.bz j hj).1 d)
       exact(Zei (fun a a1 a2=>Zdx _ _ _ _ _ _ _ (by omega)) hj).1
     · have hr2:r≠1+i:=fun d=>by
        subst d;exact c (h.bn.Zq3 hj hr (h.bn.at_ k hk _ (by rw[e];exact List.mem_cons_self ..)))
       have:=h.Zds ⟨j,hj,hr⟩
       exact Zee (by omega) (by omega)
 · exact(Zar fun j hj=>Zee (by omega) (by omega)).trans h.kp
 · by_cases c:j=k
   · subst c;rw[Za1]at hr;exact h.tk j hj r (hsub r hr)
   · rw[Zaz _ _ c]at hr;exact h.tk j hj r hr
 · rintro ⟨j,hj,hm⟩
   by_cases c:j=k
   · subst c;rw[Za1]at hm;exact(List.nodup_cons.1 hnd).1 hm
   · rw[Zaz _ _ c]at hm
     exact c (h.bn.Zq3 hj hm (h.bn.at_ k hk _ (by rw[e];exact List.mem_cons_self ..)))
theorem Rcy.push (h:Rcy n g R va q K s) {i k:Nat} (f:R i=some (k,true)) (hk:k<5) (ho:Zme va i k) (hq:¬InQ q (1+i)) (c:Zj6 s.L s.es s.mm (1+i) k):
 Rcy n g R va (Zde q k ((1+i)::q k)) K {s with mm:=Zfj s.mm va k (1+i)}:=by
 have hln:=h.len hk;have ha:=h.bu.addr f;have hc2:=h.bu.c2;have p0:=Zae k;obtain⟨x,kx,fx,x1,x2,x3⟩:=h.vw;have ho2:va+64<=4096*(1+i)\/4096*(1+i)+4096<=va:=by unfold Zme adr at ho;omega
 have b:=h.bn.push hk c (fun d=>hq ⟨k,hk,d⟩) (by omega) (by omega) (by omega)
 have hnx:x≠i:=fun d=>by
  subst d;rw[f]at fx;have:=(Zbc fx).1;subst this
  unfold Zme at ho;omega
 refine{bu:=?_,bn:=b,bz:=?_,kp:=?_,kb:=h.kb,vw:=⟨x,kx,fx,x1,x2,?_⟩,tk:=fun j hj r hr=>?_}
 · refine h.bu.write fun a ha=>Zfv ?_ ?_
   · have:=ha i k f;rw[Za2,Za2]at this;omega
   · have:=ha x kx fx;omega
 · intro j hj
   by_cases d:j=k
   · subst d
     rw[Za1]
     refine⟨fun d=>(by cases d),?_⟩
     have hz:=h.bz j hj;cases e:q j with
     |nil=>
      show rdX (Zfj s.mm va j (1+i)) (4096*(1+i))=0;unfold Zfj;rw[hz.1 e];have w1:=(Zt0 (L:=s.L) (es:=s.es) s.mm (p:=1+i) (x:=((4096*0:Nat):Int)) hj (by omega) (by omega) c.there).2;refine Eq.trans ?_ w1
      exact(Zhf fun a a1 a2=>Ze3 _ _ _ _ _ (by omega)).2.2.1
     |cons r l=>
      rw[e]at hz;refine Yce.same (l:=r::l) hz.2 fun r2 hr a a1 a2=>?_
      have hr3:InQ q r2:=⟨j,hj,by rw[e];exact hr⟩;have hr2:r2≠1+i:=fun d=>hq (d▸hr3)
      have:=h.Zds hr3
      exact Zfv (by omega) (by omega)
   · rw[Zaz _ _ d]
     refine⟨fun c2=>?_,(h.bz j hj).2.same fun r hr a a1 a2=>?_⟩
     · show hdP (Zfj s.mm va k (1+i)) va j=0
       unfold Zfj;rw[(Zf2 _ _ _ _ _ d).1];refine Eq.trans ?_ ((h.bz j hj).1 c2)
       exact(Zei (fun a a1 a2=>Zdx _ _ _ _ _ _ _ (by omega)) hj).1
     · have hr3:InQ q r:=⟨j,hj,hr⟩
       have hr2:r≠1+i:=fun d=>hq (d▸hr3)
       have:=h.Zds hr3
       exact Zfv (by omega) (by omega)
 · exact(Zar fun j hj=>Zfv (by omega) (by omega)).trans h.kp
 · rintro ⟨j,hj,hm⟩
   by_cases d:j=k
   · subst d;rw[Za1]at hm
     rcases List.mem_cons.1 hm with d|d
     · omega
     · exact x3 ⟨j,hj,d⟩
   · rw[Zaz _ _ d]at hm;exact x3 ⟨j,hj,hm⟩
 · by_cases d:j=k
   · subst d;rw[Za1]at hr
     rcases List.mem_cons.1 hr with d|d
     · exact⟨i,d,f⟩
     · exact h.tk j hj r d
   · rw[Zaz _ _ d]at hr;exact h.tk j hj r hr
theorem Rcy.Zdn (h:Rcy n g R va q K s) {K':Nat} (hK:K'<=9223372036854775807):Rcy n g R va q K' {s with mm:=Zc4 s.mm (va+40) K'}:=by
 obtain⟨x,kx,fx,x1,x2,x3⟩:=h.vw
 refine{bu:=?_,bn:=?_,bz:=?_,kp:=Zc3 _ _ _ (by omega),kb:=hK,vw:=⟨x,kx,fx,x1,x2,x3⟩,tk:=h.tk}
 · refine h.bu.write fun a ha=>Zav _ _ ?_
   have:=ha x kx fx;omega
 · exact h.bn.same (fun a a1 a2=>Zav _ _ (by omega)) fun j hj p hp a a1 a2=>Zav _ _ (by have:=h.Zds ⟨j,hj,hp⟩;omega)
 · exact fun k hk=>⟨fun e=>((Zei (fun a a1 a2=>Zav _ _ (by omega)) hk).1).trans ((h.bz k hk).1 e),(h.bz k hk).2.same fun p hp a a1 a2=>Zav _ _ (by have:=h.Zds ⟨k,hk,hp⟩;omega)⟩
theorem Rcy.Zws (h:Rcy n g R va q K s) {i k:Nat} (e:R i=some (k,true)) (ho:Zme va i k) (hq:¬InQ q (1+i)) {R':Zag} {s':ASt} (hB:Bud (n+1) g g R' g s') (ht:Zh6 R R' i) (hk:Zcx (Zfm R i k false) s.mm s'.mm):Rcy n g R' va q K s':=by
 have p0:=Zae k;refine h.to hB fun j l f hc=>?_
 have hne:j≠i:=fun c=>by
  subst c;rcases hc with c|⟨c1,c2⟩
  · exact hq c
  · rw[e]at f;have:=(Zbc f).1;subst this
    unfold Zme at ho;omega
 exact⟨(ht j l).2 ⟨hne,f⟩,hk.run (h.bu.ti.toTile.fwd e hne f)⟩
theorem Rcy.Yh5 (h:Rcy n g R va q K s) {x k g1:Nat} {R':Zag} {s':ASt} (hB:Bud (n+1) g1 g1 R' g1 s') (ht:Zk0 R R' x k) (hk:Zcx R s.mm s'.mm):Rcy n g1 R' va q K s':=
 h.to hB fun j l f hc=>⟨(ht j l).2 (.inr f),hk.run f⟩
theorem Rcy.ref (h:Rcy n g R va q K s):Rcy n g R va q K (Zbs s):=h.to h.bu.ref fun j l f hc=>⟨f,fun a _ _=>by rw[Zdk]⟩
def Zfi (m:Nat->UInt8) (p:Nat):Prop:=∀j,j<8->m (4096*p+8+j)=0
structure Evo (va:Nat) (R R':Zag) (q q':Nat->List Nat) (m m':Nat->UInt8):Prop where
 ow:∀i k,R i=some (k,true)->¬InQ q (1+i)->R' i=some (k,true)/\¬InQ q' (1+i)/\∀a,adr i<=a->a<adr (i+2^k)->(a<va\/va+48<=a)->m' a=m a
 nt:∀p,1<=p->(4096*p+16<=va\/va+48<=4096*p+8)->(Zfi m p\/InQ q p)->(Zfi m' p\/InQ q' p)
theorem Evo.refl (va:Nat) (R:Zag) (q:Nat->List Nat) (m:Nat->UInt8):Evo va R R q q m m:=⟨fun i k e h=>⟨e,h,fun _ _ _ _=>rfl⟩,fun _ _ _ h=>h⟩
theorem Evo.trans {va:Nat} {R R1 R2:Zag} {q q1 q2:Nat->List Nat} {m m1 m2:Nat->UInt8} (h:Evo va R R1 q q1 m m1) (k:Evo va R1 R2 q1 q2 m1 m2):Evo va R R2 q q2 m m2:=by
 refine⟨fun i l e c=>?_,fun p h1 h2 c=>k.nt p h1 h2 (h.nt p h1 h2 c)⟩
 obtain⟨a1,a2,a3⟩:=h.ow i l e c;obtain⟨b1,b2,b3⟩:=k.ow i l a1 a2
 exact⟨b1,b2,fun a x1 x2 x3=>(b3 a x1 x2 x3).trans (a3 a x1 x2 x3)⟩
theorem Zd2 {R:Zag} {m m':Nat->UInt8} (h:Zcx R m m') {p:Nat} (hp:1<=p) (hn:Zfi m p):Zfi m' p:=fun j hj=>by
 rcases h.2 (4096*p+8+j) (by omega) (by omega)with c|c
 · exact c.trans (hn j hj)
 · exact c
theorem Evo.Yh5 {va:Nat} {R R':Zag} {q:Nat->List Nat} {m m':Nat->UInt8} {x k:Nat} (ht:Zk0 R R' x k) (hk:Zcx R m m'):Evo va R R' q q m m':=
 ⟨fun i l e c=>⟨(ht i l).2 (.inr e),c,fun a h1 h2 _=>hk.run e a h1 h2⟩,fun p h1 _ c=>c.imp (fun d=>Zd2 hk h1 d) id⟩
theorem Evo.same {va:Nat} {R:Zag} {q:Nat->List Nat} {m m':Nat->UInt8} (h:∀a,(a<va\/va+48<=a)->m' a=m a):Evo va R R q q m m':=
 ⟨fun i l e c=>⟨e,c,fun a _ _ h3=>h a h3⟩,fun p h1 h2 c=>c.imp (fun d j hj=>(h _ (by omega)).trans (d j hj)) id⟩
theorem Evo.drop (h:Rcy n g R va q K s) {k p:Nat} {l:List Nat} (hk:k<5) (e:q k=p::l) {i:Nat} (hi:p=1+i) (f:R i=some (k,true)) {R':Zag} {m':Nat->UInt8} (ht:Zh6 R R' i)
 (hkt:Zcx (Zfm R i k false) (Zb8 (Zhg s.mm va k p) (4096*p) (List.replicate 32 0)) m'):Evo va R R' q (Zde q k l) s.mm m':=by
 have hp:InQ q p:=⟨k,hk,by rw[e];exact List.mem_cons_self ..⟩;have hof:=h.Zds hp;have hsub:∀r∈l,r∈q k:=fun r hr=>by rw[e];exact List.mem_cons_of_mem _ hr
 subst hi;have p0:=Zae k
 refine⟨fun j o f2 c=>?_,fun r r1 r2 c=>?_⟩
 · have hne:j≠i:=fun d=>by subst d;exact c hp
   refine⟨(ht j o).2 ⟨hne,f2⟩,fun d=>c (Zjq hsub d),fun a a1 a2 a3=>?_⟩
   have hap:=Zid h.bu.ti f f2 (fun d=>hne d.symm);have b1:=a1;have b2:=a2
   simp only[Za2]at hap b1 b2;rw[hkt.run (h.bu.ti.toTile.fwd f hne f2) a a1 a2,Zbt _ _ _ (by rw[List.length_replicate];omega)];exact Zee (by omega) (by omega)
 · by_cases d:r=1+i
   · subst d
     refine .inl (Zd2 hkt r1 fun j hj=>?_);exact Zlg _ _ 32 0 (by omega) (by omega)
   · rcases c with c|c
     · refine .inl (Zd2 hkt r1 fun j hj=>?_)
       rw[Zbt _ _ _ (by rw[List.length_replicate];omega),Zee (by omega) (by omega)];exact c j hj
     · exact .inr (Zlw e c d)
end
end
end Go.Proofs.YtgcidfenjlmljaaGreat.Bt
