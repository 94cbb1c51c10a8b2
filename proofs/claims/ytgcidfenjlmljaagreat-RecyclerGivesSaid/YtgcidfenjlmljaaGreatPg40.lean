import Derived.Test.YtgcidfenjlmljaaGreatPg39
import Derived.Test.YtgcidfenjlmljaaGreatPg33
import Derived.Test.YtgcidfenjlmljaaGreatPg35
import Derived.Test.YtgcidfenjlmljaaGreatPgR
set_option linter.unusedVariables false
set_option linter.unusedSimpArgs false
set_option maxRecDepth 100000
set_option maxHeartbeats 16000000
namespace Go.Proofs.YtgcidfenjlmljaaGreat.Bt
section
open Go Go.RowKit Go.Shelf
theorem Zwg {w:World} {b:Nat} {hs:List Hd} (hc:∀j,j<hs.length->w.cell? (aD b (j*4))=some (iV (hs.getD j hdZ).a)/\w.cell? (aD b (j*4+1))=some (iV (hs.getD j hdZ).o)/\w.cell? (aD b (j*4+2))=some (.int .u64 (hs.getD j hdZ).u)/\w.cell? (aD b (j*4+3))=some (iV (hs.getD j hdZ).x)):
 ∀j u,(hsL hs)[j]?=some u->w.cell? (((aD b 0):Addr).add j)=some u:=fun j u h=>by
 have e:((aD b 0):Addr).add j=(aD b j):=by simp only[Addr.add];split<;>simp_all
 have hj:j<(hsL hs).length:=by
  rcases Nat.lt_or_ge j (hsL hs).length with c|c
  · exact c
  · rw[List.getElem?_eq_none c]at h;cases h
 rw[Zf6]at hj;have hj4:j/4<hs.length:=by omega
 have hg:=Zwh hs (j/4) hj4 (j%4) (by omega);have ej:j/4*4+j%4=j:=by omega
 rw[ej,h]at hg;obtain⟨c0,c1,c2,c3⟩:=hc (j/4) hj4;rw[e];have hm:j%4=0\/j%4=1\/j%4=2\/j%4=3:=by omega
 rcases hm with m|m|m|m<;>rw[m]at ej hg
 · rw[show j=j/4*4 from by omega,c0,hg];rfl
 · rw[show j=j/4*4+1 from by omega,c1,hg];rfl
 · rw[show j=j/4*4+2 from by omega,c2,hg];rfl
 · rw[show j=j/4*4+3 from by omega,c3,hg];rfl
theorem Zo2 {W:World} {base:Nat} {v:Value} {hs:List Hd} (h:W.ownsRow base 65 4 v hs.length (hsL hs)) (hn:hs≠[]):∃g cap,v=.slice (some (aD g 0)) hs.length cap/\base<=g/\Zof W v hs:=by
 have h1:=Ybs h;rcases h.2 with⟨rfl,h0⟩|⟨g,cap,cur,rfl,hb,hg,hnc,_,hcs,htk⟩
 · exact absurd (List.eq_nil_of_length_eq_zero h0) hn
 · exact⟨g,cap,rfl,hb,h1⟩
theorem Zpe (l:List Hd) (c:Hd):hsL (l++[c])=hsL l++hdL c:=by rw[Zkt];simp[hsL]
theorem Zjr (l:List Hd):∀u∈hsL l,u.oneCell'=true:=by
 induction l with
 |nil=>intro u hu;cases hu
 |cons c l ih=>
  intro u hu;simp only[hsL,List.mem_append]at hu;rcases hu with hu|hu
  · simp only[hdL,List.mem_cons,List.not_mem_nil,or_false]at hu
    rcases hu with rfl|rfl|rfl|rfl<;>rfl
  · exact ih u hu
theorem Zma (w:World) (ty:TypeId):(Builtin.append_ #[31,31] ty #[.slice none 0 0,.slice none 0 0]).run Tryz.prog w=.ok (.slice none 0 0) w:=by
 simp[go_sem,Builtin.append_]
theorem Zl9 (b cap:Nat) (w:World) (ty:TypeId):(Builtin.append_ #[31,31] ty #[.slice none 0 0,.slice (some (aD b 0)) 0 cap]).run Tryz.prog w=.ok (.slice none 0 0) w:=by
 simp[go_sem,Builtin.append_]
end
section
open Go Go.RowKit Go.Shelf
section
variable {w x y:World} {u:Option Addr} {L:List (Nat × Nat × Bool)} {P:Nat->Option Addr} {nn C:Nat->Nat} {q:Nat->List Nat} {op:Option Addr} {on oc:Nat} {hs:List Hd}
theorem Zga (h:Zcg x u L) {D:Nat} {v:Value} (hd:x.cell? (aD D 2)=some v) (hv:∀b,v≠ .bool b):∀j,u=some (aD j 0)->L=[]\/j≠D:=fun j hj=>by
 rcases h with h|⟨b,e,hb,hc⟩
 · exact .inl h
 · rw[hj]at e
   obtain rfl:j=b:=by cases e;rfl
   cases L with
   |nil=>exact .inl rfl
   |cons y L=>
    refine .inr fun c=>?_
    subst c;have h2:=(hc 0 (by simp)).2.2;rw[show 0*3+2=2 from rfl,hd]at h2;simp only[Option.some.injEq]at h2;exact hv _ h2
theorem Zut {D:Nat} {t:TypeId} {fr:Nat × Nat}:∀(vs:List Value) (k:Nat) (x:World) {c:Array Value},x.heap[D]?=some (.cells c t fr)->∃c2,(Bt.stR x D vs k).heap[D]?=some (.cells c2 t fr)
 |[],_,_,c,h=>⟨c,h⟩
 |v::vs,k,x,c,h=>Zut vs (k+1) _ (heap_set h v)
structure Awy (P:Nat->Option Addr) (q:Nat->List Nat) (op:Option Addr) (hs:List Hd) (D:Nat):Prop where
 p:∀k,k<5->q k≠[]->∀g off,P k=some (aD g off)->g≠D
 o:∀b off,op=some (aD b off)->hs=[]\/b≠D
theorem Zof.sh (h:Zof x (.slice op on oc) hs):(op=none/\on=0/\oc=0/\hs=[])\/∃b,op=some (aD b 0)/\b<x.heap.size:=by
 rcases h with⟨h1,h2⟩|⟨b,cap,c,fr,h1,h2,_⟩
 · simp only[Value.slice.injEq]at h1
   exact .inl ⟨h1.1,h1.2.1,h1.2.2,h2⟩
 · simp only[Value.slice.injEq]at h1
   exact .inr ⟨b,h1.1,(Array.getElem?_eq_some_iff.1 h2).1⟩
theorem DIn.awy (h:DIn u L P nn C q op on oc hs w) {D:Nat} (hD:w.heap.size<=D):Awy P q op hs D:=by
 refine⟨fun k hk hq g off e=>?_,fun b off e=>?_⟩
 · have:=Zlv (h.qa k hk) (by simpa[adI]using hq) e
   omega
 · rcases h.ho.sh with⟨a,_,_,c⟩|⟨b2,a,c⟩
   · exact .inl c
   · rw[e]at a
     have:b=b2:=by cases a;rfl
     exact .inr (by omega)
theorem DIn.put (h:DIn u L P nn C q op on oc hs x) {D:Nat} {v:Value} (h2:x.cell? (aD D 2)=some v) (hv:∀b,v≠ .bool b) (ha:Awy P q op hs D) (vs:List Value) (k:Nat):DIn u L P nn C q op on oc hs (Bt.stR x D vs k):=
 {h with
  rn:=h.rn.stR (Zga h.rn h2 hv) vs k
  qa:=fun j hj=>by
   by_cases e:q j=[]
   · exact .inl (by rw[e];rfl)
   · exact Zg0 (h.qa j hj) (ha.p j hj e) (fun i hi=>Zcn hi vs k x) (Zgr D vs k x)
  ho:=by
   rcases h.ho with⟨a,b⟩|⟨b,cap,c,fr,e1,e2,e3⟩
   · exact .inl ⟨a,b⟩
   · by_cases hn:hs=[]
     · subst hn
       have hb:b≠D\/b=D:=by by_cases q:b=D;exact .inr q;exact .inl q
       rcases hb with hb|hb
       · exact .inr ⟨b,cap,c,fr,e1,(Zcn hb vs k x).trans e2,fun j hj=>by simp at hj⟩
       · subst hb
         obtain⟨c2,e4⟩:=Zut vs k x e2;exact .inr ⟨b,cap,c2,fr,e1,e4,fun j hj=>by simp at hj⟩
     · have hb:b≠D:=by
        simp only[Value.slice.injEq]at e1;rcases ha.o b 0 e1.1 with q|q
        · exact absurd q hn
        · exact q
       have h1:=Zcn hb vs k x
       exact .inr ⟨b,cap,c,fr,e1,h1.trans e2,fun j hj=>by
        have h2:∀o,(Bt.stR x D vs k).cell? (aD b o)=x.cell? (aD b o):=fun o=>World.cell?_of_block (w:=x) (a:=(aD b o)) h1
        obtain⟨q0,q1,q2,q3⟩:=e3 j hj
        exact⟨(h2 _).trans q0,(h2 _).trans q1,(h2 _).trans q2,(h2 _).trans q3⟩⟩}
theorem DIn.bin (h:DIn u L P nn C q op on oc hs w) {w':World} (hb:Below w.heap.size w w') {l:Nat} (hl:l<5) {l':List Nat} {p':Option Addr} {c' m:Nat} (hr:Za7 w' p' (adI l')) (hm:m=l'.length) (hc:m<=c') (hn:p'=none->c'=0) (hg:∀g off,p'=some (aD g off)->w.heap.size<=g) (hlen:l'.length<=1000) (hp:∀p∈l',1<=p/\p<=100000):
 DIn u L (up P l p') (up nn l m) (up C l c') (Zde q l l') op on oc hs w'/\Pfr (Zde q l l') (up P l none) (up P l p') w:=by
 have hh:=h.below hb
 refine⟨{hh with qa:=fun k hk=>?_,nq:=fun k=>?_,nl:=fun k=>?_,pg:=fun k hk p hp2=>?_,cn:=fun k hk=>?_,cc:=fun k=>?_},fun k hk hq=>?_⟩
 · by_cases e:k=l
   · subst e;rw[Zh7,Za1];exact hr
   · rw[Zix _ _ e,Zaz _ _ e];exact hh.qa k hk
 · by_cases e:k=l
   · subst e;rw[Zh7,Za1];exact hm
   · rw[Zix _ _ e,Zaz _ _ e];exact h.nq k
 · by_cases e:k=l
   · subst e;rw[Za1];exact hlen
   · rw[Zaz _ _ e];exact h.nl k
 · by_cases e:k=l
   · subst e;rw[Za1]at hp2;exact hp p hp2
   · rw[Zaz _ _ e]at hp2;exact h.pg k hk p hp2
 · by_cases e:k=l
   · subst e;rw[Zh7]at hk⊢;exact hn hk
   · rw[Zix _ _ e]at hk⊢;exact h.cn k hk
 · by_cases e:k=l
   · subst e;rw[Zh7,Zh7];exact hc
   · rw[Zix _ _ e,Zix _ _ e];exact h.cc k
 · by_cases e:k=l
   · subst e;right;rw[Zh7];exact hg
   · left;rw[Zix _ _ e,Zix _ _ e]
def Yhn (n g k:Nat) (r:Int) (R:Zag) (q:Nat->List Nat) (i l g2:Nat) (r2:Int) (L2:List (Nat × Nat × Bool)) (q2:Nat->List Nat):Prop:=
 (∃rest,l<5/\lsV (Zlq q) (k:Int)=.tuple #[iV l,.bool true]/\q l=(1+i)::rest/\q2=Zde q l rest/\g2=g/\r2=r/\L2=tkT R g)\/
 (lsV (Zlq q) (k:Int)=Zhk/\l=k/\q2=q/\∃l0 R1,Sc n g k r R g2 i l0 r2 R1/\L2=Zm9 (tkT R g) i k)\/
 (lsV (Zlq q) (k:Int)=Zhk/\l=k/\0<Zci q 5/\∃(r1:Int) (Rt:Zag),Zeo R g k none/\Zfl n g r k (upN g (2^k))=((g:Int),r1,4)/\r1<=9223372036854775807/\trK (tkT R g) q 5=tkT Rt g/\Til g Rt g/\q2=(fun _=>[])/\∃l0 R1,Sc n g k r1 Rt g2 i l0 r2 R1/\L2=Zm9 (tkT Rt g) i k)
def Yhj (n g k:Nat) (r:Int) (R:Zag) (q:Nat->List Nat) (r2:Int) (L2:List (Nat × Nat × Bool)) (q2:Nat->List Nat):Prop:=
 lsV (Zlq q) (k:Int)=Zhk/\∃(r1:Int),Zeo R g k none/\Zfl n g r k (upN g (2^k))=((g:Int),r1,4)/\r1<=9223372036854775807/\((Zci q 5=0/\r2=r1/\L2=tkT R g/\q2=q)\/
  (0<Zci q 5/\∃(Rt:Zag),trK (tkT R g) q 5=tkT Rt g/\Til g Rt g/\Zeo Rt g k none/\Zfl n g r1 k (upN g (2^k))=((g:Int),r2,4)/\L2=tkT Rt g/\q2=fun _=>[]))
end
end
section
open Go Go.RowKit Go.Shelf
structure Yex (m:Nat->UInt8) (i k u:Nat):Prop where
 o:rdO m (adr i)=(k:Int)
 u:rdU m (adr i)=(u:Int)
 x:rdX m (adr i)=0
 s:stB m (adr i:Int)=true
theorem Yex.same {m m':Nat->UInt8} {i k u:Nat} (h:Yex m i k u) (hm:∀a,adr i<=a->a<adr i+32->m' a=m a):Yex m' i k u:=by
 have e:=Zhf (m:=m) (m':=m') (p:=1+i) (by simpa only[Za2]using hm);simp only[<-Za2]at e
 exact⟨e.1.trans h.o,e.2.1.trans h.u,e.2.2.1.trans h.x,e.2.2.2.trans h.s⟩
theorem Yex.write (m:Nat->UInt8) {i k u:Nat} (hk:k<=10) (hu:u<18446744073709551616):Yex (wrM m (adr i) (adr i:Int) (k:Int) (u:Int) 0) i k u:=by
 have:=Yc3 m (adr i:Int) (k:Int) (u:Int) 0 ((Zdt _ _ _).2 ⟨by omega,by unfold adr;omega,by omega,by omega⟩) (by omega) (by omega)
 rw[Int.toNat_natCast]at this
 exact⟨this.1,this.2.1,this.2.2.1,this.2.2.2⟩
def Yj8 (R:Zag) (q:Nat->List Nat) (m:Nat->UInt8) (c:Hd):Prop:=∃i k u:Nat,c=⟨(adr i:Int),(k:Int),(u:Int),0⟩/\i≠0/\R i=some (k,true)/\¬InQ q (1+i)/\0<u/\u<18446744073709551616/\Yex m i k u
structure PyS (n g K:Nat) (R:Zag) (q:Nat->List Nat) (hs:List Hd) (s:ASt):Prop where
 rc:Rcy n g R 4096 q K s
 v0:R 0=some (0,true)
 vq:¬InQ q 1
 ow:∀c∈hs,Yj8 R q s.mm c
 nd:hs.Pairwise (fun a b=>a.a≠b.a)
 al:∀i k,R i=some (k,true)->i≠0->InQ q (1+i)\/∃c∈hs,c.a=(adr i:Int)
 nt:∀p,2<=p->Zfi s.mm p\/InQ q p\/∃c∈hs,c.a=((4096*p:Nat):Int)
theorem Zmc {i j:Nat} (h:(adr i:Int)=(adr j:Int)):i=j:=by unfold adr at h;omega
section
variable {n g K:Nat} {R:Zag} {q:Nat->List Nat} {hs:List Hd} {s:ASt}
theorem PyS.off (h:PyS n g K R q hs s) {i k:Nat} (e:R i=some (k,true)) (hi:i≠0):Zme 4096 i k:=by
 unfold Zme adr;omega
theorem PyS.mm (h:PyS n g K R q hs s) {s1:ASt} (hr:Rcy n g R 4096 q K s1) (em:s1.mm=s.mm):PyS n g K R q hs s1:=
 {rc:=hr,v0:=h.v0,vq:=h.vq,ow:=fun c hc=>by rw[em];exact h.ow c hc,nd:=h.nd,al:=h.al,nt:=fun p hp=>by rw[em];exact h.nt p hp}
theorem PyS.evo (h:PyS n g K R q hs s) {g2 K2:Nat} {R2:Zag} {q2:Nat->List Nat} {s2:ASt} (hr:Rcy n g2 R2 4096 q2 K2 s2) (he:Evo 4096 R R2 q q2 s.mm s2.mm)
 (ha:∀j l,R2 j=some (l,true)->R j=some (l,true)/\(InQ q (1+j)->InQ q2 (1+j))):PyS n g2 K2 R2 q2 hs s2:=by
 refine{rc:=hr,v0:=(he.ow 0 0 h.v0 h.vq).1,vq:=(he.ow 0 0 h.v0 h.vq).2.1,ow:=fun c hc=>?_,nd:=h.nd,al:=fun j l e hj=>?_,nt:=fun p hp=>?_}
 · obtain⟨i,k,u,rfl,c1,c2,c3,c4,c5,c6⟩:=h.ow c hc
   obtain⟨b1,b2,b3⟩:=he.ow i k c2 c3;have p0:=Zae k
   exact⟨i,k,u,rfl,c1,b1,b2,c4,c5,c6.same fun a a1 a2=>b3 a a1 (by unfold adr at*;omega) (.inr (by unfold adr at*;omega))⟩
 · obtain⟨b1,b2⟩:=ha j l e
   exact(h.al j l b1 hj).imp b2 id
 · rcases h.nt p hp with c|c|c
   · rcases he.nt p (by omega) (.inr (by omega)) (.inl c)with d|d
     · exact .inl d
     · exact .inr (.inl d)
   · rcases he.nt p (by omega) (.inr (by omega)) (.inr c)with d|d
     · exact .inl d
     · exact .inr (.inl d)
   · exact .inr (.inr c)
theorem PyS.trim (h:PyS n g K R q hs s) {K2:Nat} {R2:Zag} {q2:Nat->List Nat} {s2:ASt} (ht:TrS n 4096 g K2 R q s R2 q2 s2):PyS n g K2 R2 q2 hs s2:=
 h.evo ht.rc ht.ev fun j l e=>(ht.tk j l).1 e
theorem PyS.Zdn (h:PyS n g K R q hs s) {K2:Nat} (hK:K2<=9223372036854775807):PyS n g K2 R q hs {s with mm:=Zc4 s.mm (4096+40) K2}:=
 h.evo (h.rc.Zdn hK) (Evo.same fun a ha=>Zav _ _ (by omega)) fun j l e=>⟨e,id⟩
theorem Zyf.conv {k i l g2:Nat} {R2:Zag} {q2:Nat->List Nat} {s2:ASt} (hh:Zyf n 4096 g K k R q s i l g2 R2 q2 s2) (j l':Nat) (e:R2 j=some (l',true)):j=i\/(R j=some (l',true)/\(InQ q (1+j)->InQ q2 (1+j))):=by
 rcases hh with⟨rest,_,_,e1,rfl,rfl,_,_⟩|⟨_,_,rfl,_,_,_,_,ht,_⟩|⟨_,_,_,s1,R1,s1t,_,hz,ht,_,_,_,_,hm,_⟩
 · by_cases c:j=i
   · exact .inl c
   · exact .inr ⟨e,fun d=>Zlw e1 d (by omega)⟩
 · rcases(ht j l').1 e with⟨c,_⟩|c
   · exact .inl c
   · exact .inr ⟨c,id⟩
 · rcases(hm j l').1 e with⟨c,_⟩|c
   · exact .inl c
   · exact .inr ((ht.tk j l').1 c)
theorem PyS.take (h:PyS n g K R q hs s) {k i l g2 u:Nat} {R2:Zag} {q2:Nat->List Nat} {s2:ASt} (hf:Fnd n 4096 g K R q s i l g2 R2 q2 s2) (hh:Zyf n 4096 g K k R q s i l g2 R2 q2 s2) (hu0:0<u) (hu:u<18446744073709551616):
 PyS n g2 K R2 q2 (hs++[⟨(adr i:Int),(l:Int),(u:Int),0⟩]) (Zyd s2 i l u):=by
 have hv:=hf.ev.ow 0 0 h.v0 h.vq;have hi0:i≠0:=fun c=>hv.1 c.symm
 have p0:=Zae l;have hl10:=(hf.rc.bu.addr hf.tk).1;have hw:∀b,(b<adr i\/adr i+32<=b)->(Zyd s2 i l u).mm b=s2.mm b:=fun b hb=>Zdx _ _ _ _ _ _ _ hb
 refine{rc:=hf.rc.write hf.tk hf.of hf.nq fun b hb=>Zdx _ _ _ _ _ _ _ (by unfold adr at*;omega),v0:=hv.2.1,vq:=hv.2.2.1,ow:=fun c hc=>?_,nd:=?_,al:=fun j l' e hj=>?_,nt:=fun p hp=>?_}
 · rcases List.mem_append.1 hc with hc|hc
   · obtain⟨j,k,u,rfl,c1,c2,c3,c4,c5,c6⟩:=h.ow c hc
     obtain⟨b0,b1,b2,b3⟩:=hf.ev.ow j k c2 c3;have p1:=Zae k
     refine⟨j,k,u,rfl,c1,b1,b2,c4,c5,c6.same fun a a1 a2=>?_⟩
     exact(hw a (by unfold adr at*;omega)).trans (b3 a a1 (by unfold adr at*;omega) (.inr (by unfold adr at*;omega)))
   · rw[List.mem_singleton.1 hc]
     exact⟨i,l,u,rfl,hi0,hf.tk,hf.nq,hu0,hu,Yex.write _ (by omega) hu⟩
 · refine List.pairwise_append.2 ⟨h.nd,List.pairwise_singleton _ _,fun a ha b hb=>?_⟩
   rw[List.mem_singleton.1 hb];obtain⟨j,k,u,rfl,c1,c2,c3,_⟩:=h.ow a ha;exact fun e=>(hf.ev.ow j k c2 c3).1 (Zmc e)
 · rcases hh.conv j l' e with rfl|⟨c1,c2⟩
   · exact .inr ⟨_,List.mem_append_right _ (List.mem_singleton.2 rfl),rfl⟩
   · rcases h.al j l' c1 hj with d|⟨c,d1,d2⟩
     · exact .inl (c2 d)
     · exact .inr ⟨c,List.mem_append_left _ d1,d2⟩
 · by_cases hpi:p=1+i
   · exact .inr (.inr ⟨_,List.mem_append_right _ (List.mem_singleton.2 rfl),by subst hpi;rw[<-Za2]⟩)
   · have kk:Zfi s2.mm p->Zfi (Zyd s2 i l u).mm p:=fun d j hj=>(hw _ (by unfold adr;omega)).trans (d j hj)
     have ev:=hf.ev.nt p (by omega) hpi (.inr (by omega));rcases h.nt p hp with c|c|⟨c,c1,c2⟩
     · exact(ev (.inl c)).imp kk .inl
     · exact(ev (.inr c)).imp kk .inl
     · exact .inr (.inr ⟨c,List.mem_append_left _ c1,c2⟩)
theorem PyS.not (h:PyS n g K R q hs s) {k:Nat} {R2:Zag} {q2:Nat->List Nat} {s2:ASt} (hn:Yeu n 4096 g K k R q s R2 q2 s2):PyS n g K R2 q2 hs s2:=by
 obtain⟨_,s1,s1t,h1,_,ht,h2⟩:=hn;obtain⟨r1,e1⟩:=h.rc.no h1;have a:=(h.mm r1 e1).trim ht;rcases h2 with⟨_,rfl⟩|⟨_,h3⟩
 · exact a
 · obtain⟨r2,e2⟩:=a.rc.no h3
   exact a.mm r2 e2
theorem Zke {a:Int} {c:Hd}:c∈wo hs a↔c∈hs/\c.a≠a:=by
 unfold wo;rw[List.mem_filter];simp
theorem PyS.gone (h:PyS n g K R q hs s) {i k:Nat} (f:R i=some (k,true)) (hi:i≠0) (hq:¬InQ q (1+i)) {R2:Zag} {s2:ASt} (hr:Rcy n g R2 4096 q K s2) (ht:Zh6 R R2 i) (hk:Zcx (Zfm R i k false) (Zb8 s.mm (adr i) (List.replicate 32 0)) s2.mm):
 PyS n g K R2 q (wo hs (adr i:Int)) s2:=by
 refine{rc:=hr,v0:=(ht 0 0).2 ⟨fun c=>hi c.symm,h.v0⟩,vq:=h.vq,ow:=fun c hc=>?_,nd:=h.nd.filter _,al:=fun j l e hj=>?_,nt:=fun p hp=>?_}
 · obtain⟨hc,hne⟩:=Zke.1 hc
   obtain⟨j,l,u,rfl,c1,c2,c3,c4,c5,c6⟩:=h.ow c hc;have hji:j≠i:=fun d=>hne (by rw[d])
   have p0:=Zae l
   refine⟨j,l,u,rfl,c1,(ht j l).2 ⟨hji,c2⟩,c3,c4,c5,c6.same fun a a1 a2=>?_⟩
   exact(hk.run (h.rc.bu.ti.toTile.fwd f hji c2) a a1 (by unfold adr at*;omega)).trans (Zbt _ _ _ (by rw[List.length_replicate];unfold adr at*;omega))
 · obtain⟨b1,b2⟩:=(ht j l).1 e
   rcases h.al j l b2 hj with d|⟨c,d1,d2⟩
   · exact .inl d
   · exact .inr ⟨c,Zke.2 ⟨d1,fun d=>b1 (Zmc (d2.symm.trans d))⟩,d2⟩
 · by_cases hpi:p=1+i
   · subst hpi
     refine .inl (Zd2 hk (by omega) fun j hj=>Zlg _ _ _ _ (by rw[Za2];omega) (by rw[Za2];omega))
   · rcases h.nt p hp with c|c|⟨c,c1,c2⟩
     · refine .inl (Zd2 hk (by omega) fun j hj=>(Zbt _ _ _ (by rw[List.length_replicate,Za2];omega)).trans (c j hj))
     · exact .inr (.inl c)
     · exact .inr (.inr ⟨c,Zke.2 ⟨c1,fun d=>hpi (by rw[c2,Za2]at d;omega)⟩,c2⟩)
theorem PyS.cache (h:PyS n g K R q hs s) {i k:Nat} (f:R i=some (k,true)) (hi:i≠0) (hq:¬InQ q (1+i)) (hk:k<5) {nx:Int} (hx:0<=nx) (hx2:nx<=9223372036854775807):
 PyS n g K R (Zde q k ((1+i)::q k)) (wo hs (adr i:Int)) (Ygx s 4096 i k nx):=by
 have hof:=h.off f hi
 have hin:∀p,InQ (Zde q k ((1+i)::q k)) p↔(p=1+i\/InQ q p):=fun p=>by
  constructor
  · rintro ⟨j,hj,hp⟩
    by_cases c:j=k
    · subst c
      rw[Za1]at hp;rcases List.mem_cons.1 hp with d|d
      · exact .inl d
      · exact .inr ⟨j,hj,d⟩
    · rw[Zaz _ _ c]at hp;exact .inr ⟨j,hj,hp⟩
  · rintro (rfl|⟨j,hj,hp⟩)
    · exact⟨k,hk,by rw[Za1];exact List.mem_cons_self ..⟩
    · by_cases c:j=k
      · subst c;exact⟨j,hj,by rw[Za1];exact List.mem_cons_of_mem _ hp⟩
      · exact⟨j,hj,by rw[Zaz _ _ c];exact hp⟩
 have hw:∀a,(a<adr i\/adr i+32<=a)->4096+40<=a->(Ygx s 4096 i k nx).mm a=s.mm a:=fun a h1 h2=>by
  show Zfj _ _ _ _ a=_;rw[Za2]at h1;rw[Zfv (by omega) (by omega),Zdx _ _ _ _ _ _ _ (by rw[Za2];omega)]
 refine{rc:=(h.rc.cache f hk hof hq hx hx2).2.2,v0:=h.v0,vq:=fun c=>?_,ow:=fun c hc=>?_,nd:=h.nd.filter _,al:=fun j l e hj=>?_,nt:=fun p hp=>?_}
 · rcases(hin 1).1 c with d|d
   · omega
   · exact h.vq d
 · obtain⟨hc,hne⟩:=Zke.1 hc
   obtain⟨j,l,u,rfl,c1,c2,c3,c4,c5,c6⟩:=h.ow c hc;have hji:j≠i:=fun d=>hne (by rw[d])
   exact⟨j,l,u,rfl,c1,c2,fun d=>by
    rcases(hin _).1 d with d|d
    · omega
    · exact c3 d,c4,c5,c6.same fun a a1 a2=>hw a (by unfold adr at*;omega) (by unfold adr at*;omega)⟩
 · by_cases c:j=i
   · exact .inl ((hin _).2 (.inl (by rw[c])))
   · rcases h.al j l e hj with d|⟨x,d1,d2⟩
     · exact .inl ((hin _).2 (.inr d))
     · exact .inr ⟨x,Zke.2 ⟨d1,fun d=>c (Zmc (d2.symm.trans d))⟩,d2⟩
 · by_cases hpi:p=1+i
   · exact .inr (.inl ((hin _).2 (.inl hpi)))
   · rcases h.nt p hp with c|c|⟨c,c1,c2⟩
     · exact .inl fun j hj=>(hw _ (by rw[Za2];omega) (by omega)).trans (c j hj)
     · exact .inr (.inl ((hin _).2 (.inr c)))
     · exact .inr (.inr ⟨c,Zke.2 ⟨c1,fun d=>hpi (by rw[c2,Za2]at d;omega)⟩,c2⟩)
end
end
section
open Go Go.RowKit Go.Shelf
theorem Zfx {q q':Nat->List Nat} (e:∀j,j<5->q' j=q j) (p:Nat):InQ q' p↔InQ q p:=
 ⟨fun⟨j,hj,h⟩=>⟨j,hj,by rw[<-e j hj];exact h⟩,fun⟨j,hj,h⟩=>⟨j,hj,by rw[e j hj];exact h⟩⟩
section
variable {n g K:Nat} {R:Zag} {q:Nat->List Nat} {hs:List Hd} {s:ASt}
theorem Rcy.congr {va:Nat} (h:Rcy n g R va q K s) {q':Nat->List Nat} (e:∀j,j<5->q' j=q j):Rcy n g R va q' K s:=by
 have b:=h.bn;obtain⟨x,k,v1,v2,v3,v4⟩:=h.vw
 exact{bu:=h.bu,kp:=h.kp,kb:=h.kb,vw:=⟨x,k,v1,v2,v3,fun c=>v4 ((Zfx e _).1 c)⟩,
       bz:=fun k hk=>by rw[e k hk];exact h.bz k hk
       tk:=fun j hj=>by rw[e j hj];exact h.tk j hj
       bn:={view:=b.view,many:=fun k hk=>by rw[e k hk];exact b.many k hk,top:=fun k hk=>by rw[e k hk];exact b.top k hk,
            at_:=fun k hk=>by rw[e k hk];exact b.at_ k hk,link:=fun k hk=>by rw[e k hk];exact b.link k hk,
            nd:=fun k hk=>by rw[e k hk];exact b.nd k hk,far:=fun k hk=>by rw[e k hk];exact b.far k hk}}
theorem PyS.congr (h:PyS n g K R q hs s) {q':Nat->List Nat} (e:∀j,j<5->q' j=q j):PyS n g K R q' hs s:=
 {rc:=h.rc.congr e,v0:=h.v0,vq:=fun c=>h.vq ((Zfx e _).1 c),nd:=h.nd
  ow:=fun c hc=>by
   obtain⟨i,k,u,c0,c1,c2,c3,c4⟩:=h.ow c hc
   exact⟨i,k,u,c0,c1,c2,fun d=>c3 ((Zfx e _).1 d),c4⟩
  al:=fun i k a b=>(h.al i k a b).imp (Zfx e _).2 id
  nt:=fun p hp=>(h.nt p hp).imp id (Or.imp (Zfx e _).2 id)}
theorem Ze9 {k:Nat} {s1:ASt} (h:Zod n g k R s s1):Zeo R g k none/\Zfl n g (rfI s) k (upN g (2^k))=((g:Int),rfI s1,4):=by
 obtain⟨h1,h2⟩:=h
 refine⟨h1,?_⟩
 unfold Zfl;rcases h2 with⟨a,rfl⟩|⟨a,b,rfl⟩
 · rw[if_pos (by omega)]
 · have e:=(Yc2 s).1 b
   rw[if_neg (by omega),if_pos (by rw[e];omega),e,Zle]
theorem Zqj {k g1 x l:Nat} {R1:Zag} {s0:ASt} (h:Ybe n g k R s g1 x l R1 s0):Sc n g k (rfI s) R g1 x l (rfI s0) R1:=by
 obtain⟨_,_,h3,h4,h5,h6⟩:=h
 refine⟨h4,h3,h5,?_⟩
 rcases h6 with⟨rfl,rfl,rfl⟩|⟨a,rfl,c,d,rfl⟩
 · exact .inl ⟨rfl,rfl,rfl⟩
 · refine .inr ⟨a,?_⟩
   have e:=(Yc2 s).2 d;unfold Zfl;rw[if_neg (by omega),if_neg (by rw[e];omega),Zle]
theorem Zlm {k:Nat} {s1:ASt} (h:Zod n g k R s s1) (hr:rfI s<=9223372036854775807):rfI s1<=9223372036854775807:=by
 rcases h.2 with⟨_,rfl⟩|⟨_,_,rfl⟩
 · exact hr
 · rw[Zle];unfold Znz;split
   · omega
   · split<;>omega
theorem Zxm (h:Zci q 5=0):∀j,j<5->q j=[]:=by
 simp only[Zci]at h;intro j hj
 have:(q j).length=0:=by
  have:j=0\/j=1\/j=2\/j=3\/j=4:=by omega
  rcases this with rfl|rfl|rfl|rfl|rfl<;>omega
 exact List.length_eq_zero_iff.1 this
theorem TrS.trK {K':Nat} {R2:Zag} {q2:Nat->List Nat} {s1 s2:ASt} (h:Rcy n g R 4096 q K s) (ht:TrS n 4096 g K' R q s1 R2 q2 s2) (hz:∀j,j<5->q2 j=[]):Bt.trK (tkT R g) q 5=tkT R2 g:=by
 refine Yff h.bu.ti ht.rc.bu.ti (fun i l=>(ht.tk i l).trans ⟨fun a=>⟨a.1,fun c=>?_⟩,fun a=>⟨a.1,fun c=>absurd c a.2⟩⟩) fun j hj p hp=>(h.Yhx ⟨j,hj,hp⟩).1
 obtain⟨j,hj,hm⟩:=a.2 c;rw[hz j hj]at hm;cases hm
theorem PyS.Zuh (h:PyS n g K R q hs s) (hr:rfI s<=9223372036854775807) {k i l g2 u:Nat} {R2:Zag} {q2:Nat->List Nat} {s2:ASt} (hf:Fnd n 4096 g K R q s i l g2 R2 q2 s2) (hh:Zyf n 4096 g K k R q s i l g2 R2 q2 s2) (hu0:0<u) (hu:u<18446744073709551616):
 ∃q',PyS n g2 K R2 q' (hs++[⟨(adr i:Int),(l:Int),(u:Int),0⟩]) (Zyd s2 i l u)/\Yhn n g k (rfI s) R q i l g2 (rfI (Zyd s2 i l u)) (tkT R2 g2) q':=by
 have a:=h.take hf hh hu0 hu;have er:rfI (Zyd s2 i l u)=rfI s2:=Zcr rfl rfl;rw[er];rcases hh with⟨rest,h1,h2,h3,rfl,rfl,rfl,rfl⟩|⟨h1,rfl,rfl,hn⟩|⟨h1,rfl,hc,s1,R1,s1t,hn,hz,ht,hw⟩
 · exact⟨_,a,.inl ⟨rest,h1,h2,h3,rfl,rfl,Zcr rfl rfl,rfl⟩⟩
 · refine⟨_,a,.inr (.inl ⟨h1,rfl,rfl,?_⟩)⟩
   have hi:=(h.rc.new hn).2.2.2.1;obtain⟨l0,R1,s0,hp,ht,hk,e1,e2,hb⟩:=hn;have sc:=Zqj hp;rw[<-Zcr e1 e2]at sc
   exact⟨l0,R1,sc,Zo3 (l:=0) (c:=0) h.rc.bu.ti hb.ti ht hi⟩
 · refine⟨fun _=>[],a.congr fun j hj=>(hz j hj).symm,.inr (.inr ⟨h1,rfl,hc,rfI s1,R1,(Ze9 hn).1,(Ze9 hn).2,Zlm hn hr,ht.trK h.rc hz,ht.rc.bu.ti,rfl,?_⟩)⟩
   have hi:=(ht.rc.new hw).2.2.2.1;obtain⟨l0,R1',s0,hp,ht2,hk,e1,e2,hb⟩:=hw;have sc:=Zqj hp;rw[<-Zcr e1 e2,Zcr ht.rf ht.lf]at sc
   exact⟨l0,R1',sc,Zo3 (l:=0) (c:=0) ht.rc.bu.ti hb.ti ht2 hi⟩
theorem PyS.Zzp (h:PyS n g K R q hs s) (hr:rfI s<=9223372036854775807) {k:Nat} {R2:Zag} {q2:Nat->List Nat} {s2:ASt} (hn:Yeu n 4096 g K k R q s R2 q2 s2):
 ∃q',PyS n g K R2 q' hs s2/\Yhj n g k (rfI s) R q (rfI s2) (tkT R2 g) q':=by
 have a:=h.not hn;obtain⟨h0,s1,s1t,h1,hz,ht,h2⟩:=hn;have gq:=Ze9 h1;have e1:rfI s1t=rfI s1:=Zcr ht.rf ht.lf;rcases h2 with⟨hc,rfl⟩|⟨hc,h3⟩
 · have hq:=Zxm hc
   refine⟨q,a.congr fun j hj=>(hq j hj).trans (hz j hj).symm,h0,rfI s1,gq.1,gq.2,Zlm h1 hr,.inl ⟨hc,e1,?_,rfl⟩⟩
   refine Zp3 h.rc.bu.ti ht.rc.bu.ti fun i l=>(ht.tk i l).trans ⟨fun c=>c.1,fun c=>⟨c,fun⟨j,hj,hm⟩=>?_⟩⟩
   rw[hq j hj]at hm;cases hm
 · have g3:=Ze9 h3
   rw[e1]at g3
   exact⟨fun _=>[],a.congr fun j hj=>(hz j hj).symm,h0,rfI s1,gq.1,gq.2,Zlm h1 hr,.inr ⟨hc,R2,ht.trK h.rc hz,ht.rc.bu.ti,g3.1,g3.2,rfl,rfl⟩⟩
end
end
end Go.Proofs.YtgcidfenjlmljaaGreat.Bt
