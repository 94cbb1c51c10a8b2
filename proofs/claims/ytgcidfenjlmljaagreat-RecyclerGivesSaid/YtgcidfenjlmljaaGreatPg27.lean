import Derived.Test.YtgcidfenjlmljaaGreatPg21
import Derived.Test.YtgcidfenjlmljaaGreatPg26
import Derived.Test.YtgcidfenjlmljaaGreatPgR
set_option linter.unusedVariables false
set_option linter.unusedSimpArgs false
set_option maxRecDepth 100000
set_option maxHeartbeats 16000000
namespace Go.Proofs.YtgcidfenjlmljaaGreat.Bt
section
open Go Go.RowKit Go.Shelf
def InQ (q:Nat->List Nat) (p:Nat):Prop:=∃j,j<5/\p∈q j
def Zme (va i k:Nat):Prop:=va+64<=adr i\/adr (i+2^k)<=va
def Yce (m:Nat->UInt8):List Nat->Prop
 |[]=>True
 |[p]=>rdX m (4096*p)=0
 |_::p::l=>Yce m (p::l)
theorem Yce.same {m m':Nat->UInt8}:∀{l:List Nat},Yce m l->(∀p∈l,∀i,4096*p<=i->i<4096*p+32->m' i=m i)->Yce m' l
 |[],_,_=>trivial
 |[p],h,k=>(Zhf (k p (by simp))).2.2.1.trans h
 |_::p::l,h,k=>Yce.same (l:=p::l) h fun r hr=>k r (List.mem_cons_of_mem _ hr)
structure Rcy (n g:Nat) (R:Zag) (va:Nat) (q:Nat->List Nat) (K:Nat) (s:ASt):Prop where
 bu:Bud (n+1) g g R g s
 bn:Bn s.L s.es s.mm va q
 bz:∀k,k<5->(q k=[]->hdP s.mm va k=0)/\Yce s.mm (q k)
 kp:Zck s.mm (va+40) 8=K
 kb:K<=9223372036854775807
 vw:∃x k,R x=some (k,true)/\adr x<=va/\va+64<=adr (x+2^k)/\¬InQ q (1+x)
 tk:∀j,j<5->∀p∈q j,∃i,p=1+i/\R i=some (j,true)
section
variable {n g va K:Nat} {R:Zag} {q:Nat->List Nat} {s:ASt}
theorem Bud.write {cap G g:Nat} {R:Zag} {s:ASt} (h:Bud cap G g R g s) {m:Nat->UInt8}
 (hm:∀a,(∀i k,R i=some (k,true)->¬(adr i<=a/\a<adr (i+2^k)))->m a=s.mm a):Bud cap G g R g {s with mm:=m}:=by
 have low:∀a,a<4096->m a=s.mm a:=fun a ha=>hm a fun i k e ⟨h1,h2⟩=>by unfold adr at h1;omega
 exact{h with
  mr:=(Zar fun j hj=>low _ (by omega)).trans h.mr
  gr:=(Zar fun j hj=>low _ (by omega)).trans h.gr
  tg:=fun p hp hn=>by
   have:=h.c2
   show(m _).toNat=_
   rw[low _ (by omega)];exact h.tg p hp hn
  ls:=fun k hk=>(h.ls k hk).Zdn fun c hc=>Zar fun j hj=>by
   rcases List.mem_cons.1 hc with rfl|hc
   · exact low _ (by omega)
   · obtain⟨i,h1,h2,h3,rfl⟩:=Za4.1 hc
     refine hm _ fun i' k' e ⟨a1,a2⟩=>?_
     unfold adr at a1 a2;have p0:=Zae k
     have:=(h.ti.one e h2 (p:=i) (by omega) (by omega) (Nat.le_refl _) (by omega)).2.2
     cases this}
theorem Rcy.th (h:Rcy n g R va q K s):Zac s.L s.es (va:Int) 64=0:=by
 obtain⟨x,k,e,h1,h2,_⟩:=h.vw;have a:=h.bu.addr e;unfold adr at h1 h2;exact h.bu.there (by omega) (by omega) (by omega)
theorem Rcy.off (h:Rcy n g R va q K s) {i k:Nat} (e:R i=some (k,true)) (hq:InQ q (1+i)):Zme va i k:=by
 obtain⟨x,l,f,h1,h2,h3⟩:=h.vw;have hne:i≠x:=fun c=>by rw[c]at hq;exact h3 hq
 unfold Zme adr at*
 rcases Nat.lt_trichotomy i x with c|c|c
 · have:=h.bu.ti.dj _ _ _ _ _ _ e f c;exact .inr (by omega)
 · exact absurd c hne
 · have:=h.bu.ti.dj _ _ _ _ _ _ f e c;exact .inl (by omega)
theorem Rcy.Zds (h:Rcy n g R va q K s) {p:Nat} (hq:InQ q p):va+64<=4096*p\/4096*p+4096<=va:=by
 obtain⟨j,hj,hp⟩:=hq;obtain⟨i,rfl,e⟩:=h.tk j hj p hp
 have:=h.off e ⟨j,hj,hp⟩
 have p0:=Zae j;unfold Zme adr at this;omega
theorem Zid {g x i k j l:Nat} {R:Zag} (h:Til g R x) (e:R i=some (k,true)) (f:R j=some (l,true)) (hne:i≠j):adr (i+2^k)<=adr j\/adr (j+2^l)<=adr i:=by
 unfold adr;rcases Nat.lt_trichotomy i j with c|c|c
 · have:=h.dj _ _ _ _ _ _ e f c;exact .inl (by omega)
 · exact absurd c hne
 · have:=h.dj _ _ _ _ _ _ f e c;exact .inr (by omega)
theorem Zjh:∀(n:Nat) (l:List Nat),l.Nodup->(∀p∈l,p<n)->l.length<=n
 |0,l,_,h=>by
  cases l with
  |nil=>exact Nat.le_refl _
  |cons x l=>exact absurd (h x (List.mem_cons_self ..)) (by omega)
 |n+1,l,hn,h=>by
  have h1:=Zjh n (l.erase n) (hn.erase n) fun p hp=>by
   have:=(hn.mem_erase_iff).1 hp
   have:=h p this.2
   omega
  by_cases c:n∈l
  · rw[List.length_erase_of_mem c]at h1;omega
  · rw[List.erase_of_not_mem c]at h1;omega
theorem Rcy.Yhx (h:Rcy n g R va q K s) {p:Nat} (hq:InQ q p):1<=p/\p<g+1:=by
 obtain⟨j,hj,hp⟩:=hq;obtain⟨i,rfl,e⟩:=h.tk j hj p hp
 have:=h.bu.addr e
 omega
theorem Rcy.len (h:Rcy n g R va q K s) {j:Nat} (hj:j<5):(q j).length<=81:=by
 have:=h.bu.gG;have:=h.bu.c2
 exact Zjh 81 _ (h.bn.nd j hj) fun p hp=>by have:=h.Yhx ⟨j,hj,hp⟩;omega
theorem Rcy.to (h:Rcy n g R va q K s) {g':Nat} {R':Zag} {s':ASt} (hB:Bud (n+1) g' g' R' g' s')
 (hk:∀i k,R i=some (k,true)->(InQ q (1+i)\/(adr i<=va/\va+64<=adr (i+2^k)))->R' i=some (k,true)/\∀a,adr i<=a->a<adr (i+2^k)->s'.mm a=s.mm a):Rcy n g' R' va q K s':=by
 obtain⟨x,l,f,h1,h2,h3⟩:=h.vw;obtain⟨v1,v2⟩:=hk x l f (.inr ⟨h1,h2⟩);have hv:∀i,va<=i->i<va+64->s'.mm i=s.mm i:=fun i a1 a2=>v2 i (by omega) (by omega)
 have hd:∀j,j<5->∀p∈q j,∃i,p=1+i/\R' i=some (j,true)/\∀a,4096*p<=a->a<4096*p+32->s'.mm a=s.mm a:=fun j hj p hp=>by
  obtain⟨i,rfl,e⟩:=h.tk j hj p hp;obtain⟨c1,c2⟩:=hk i j e (.inl ⟨j,hj,hp⟩);have p0:=Zae j
  exact⟨i,rfl,c1,fun a a1 a2=>c2 a (by unfold adr;omega) (by unfold adr;omega)⟩
 have b:=h.bn.same (m':=s'.mm) (fun i a1 a2=>hv i a1 (by omega)) fun j hj p hp=>by obtain⟨i,_,_,c⟩:=hd j hj p hp;exact c
 have a:=hB.addr v1
 refine{bu:=hB,bn:=?_,bz:=?_,kp:=?_,kb:=h.kb,vw:=⟨x,l,v1,h1,h2,h3⟩,tk:=fun j hj p hp=>by obtain⟨i,c1,c2,_⟩:=hd j hj p hp;exact⟨i,c1,c2⟩}
 · unfold adr at h1 h2
   refine{b with view:=hB.there (by omega) (by omega) (by omega),at_:=fun j hj p hp=>{b.at_ j hj p hp with there:=?_}}
   obtain⟨i,rfl,c,_⟩:=hd j hj p hp;have a:=hB.addr c;exact hB.there (by omega) (by omega) (by omega)
 · refine fun k hk=>⟨fun e=>((Zei (fun i a1 a2=>hv i a1 (by omega)) hk).1).trans ((h.bz k hk).1 e),(h.bz k hk).2.same fun p hp=>?_⟩
   obtain⟨i,_,_,c⟩:=hd k hk p hp;exact c
 · exact(Zar fun j hj=>hv _ (by omega) (by omega)).trans h.kp
theorem Rcy.write (h:Rcy n g R va q K s) {i k:Nat} (e:R i=some (k,true)) (ho:Zme va i k) (hq:¬InQ q (1+i)) {m:Nat->UInt8} (hm:∀a,¬(adr i<=a/\a<adr (i+2^k))->m a=s.mm a):
 Rcy n g R va q K {s with mm:=m}:=by
 refine h.to (h.bu.write fun a ha=>hm a (ha i k e)) fun j l f hc=>⟨f,fun a a1 a2=>hm a fun⟨b1,b2⟩=>?_⟩
 have hne:i≠j:=fun c=>by
  subst c;rcases hc with c|⟨c1,c2⟩
  · exact hq c
  · rw[e]at f;have:=(Zbc f).1;subst this
    have p0:=Zae k;unfold Zme adr at*;omega
 have:=Zid h.bu.ti e f hne
 omega
end
end
end Go.Proofs.YtgcidfenjlmljaaGreat.Bt
