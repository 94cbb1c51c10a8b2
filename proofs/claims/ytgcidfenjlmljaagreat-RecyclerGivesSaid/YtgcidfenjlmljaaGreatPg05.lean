import Derived.Test.YtgcidfenjlmljaaGreatPg04
import Derived.Test.YtgcidfenjlmljaaGreatPgR
set_option linter.unusedVariables false
set_option linter.unusedSimpArgs false
set_option maxRecDepth 100000
set_option maxHeartbeats 16000000
namespace Go.Proofs.YtgcidfenjlmljaaGreat.Bt
section
open Go Go.RowKit Go.Shelf
def Zcz (p k:Nat):Nat:=if p%2^(k+1)=0 then p+2^k else p-2^k
theorem Zae (k:Nat):0<2^k:=Nat.pos_of_ne_zero (by simp)
theorem Zbj (k:Nat):2^(k+1)=2^k+2^k:=by rw[Nat.pow_succ];omega
theorem Zqp {p k:Nat} (h:p%2^(k+1)=0):p%2^k=0:=Nat.mod_eq_zero_of_dvd (Nat.dvd_trans (Nat.pow_dvd_pow 2 (Nat.le_succ k)) (Nat.dvd_of_mod_eq_zero h))
theorem Zqo {p k l:Nat} (hl:l<=k) (h:p%2^k=0):p%2^l=0:=Nat.mod_eq_zero_of_dvd (Nat.dvd_trans (Nat.pow_dvd_pow 2 hl) (Nat.dvd_of_mod_eq_zero h))
theorem Zfn {p k:Nat} (h:p%2^k=0):p%2^(k+1)=0\/(2^k<=p/\(p-2^k)%2^(k+1)=0):=by
 obtain⟨q,rfl⟩:=Nat.dvd_of_mod_eq_zero h;rcases Nat.mod_two_eq_zero_or_one q with e|e
 · exact .inl (by rw[Nat.pow_succ,Nat.mul_mod_mul_left,e,Nat.mul_zero])
 · refine .inr ⟨Nat.le_mul_of_pos_right _ (by omega),?_⟩
   rw[show 2^k*q-2^k=2^k*(q-1)from by rw[Nat.mul_sub,Nat.mul_one],Nat.pow_succ,Nat.mul_mod_mul_left,show(q-1)%2=0 from by omega,Nat.mul_zero]
theorem Zlo {a b n:Nat} (ha:a%n=0) (hb:b%n=0) (h1:a<b+n) (h2:b<a+n):a=b:=by
 obtain⟨x,rfl⟩:=Nat.dvd_of_mod_eq_zero ha;obtain⟨y,rfl⟩:=Nat.dvd_of_mod_eq_zero hb;have h3:x<y+1:=Nat.lt_of_mul_lt_mul_left (a:=n) (by rw[Nat.mul_add,Nat.mul_one];exact h1);have h4:y<x+1:=Nat.lt_of_mul_lt_mul_left (a:=n) (by rw[Nat.mul_add,Nat.mul_one];exact h2);rw[show x=y from by omega]
theorem Zqa {i l b k p:Nat} (hi:i%2^l=0) (hb:b%2^k=0) (hkl:k<=l) (h1:i<=p) (h2:p<i+2^l) (h3:b<=p) (h4:p<b+2^k):i<=b/\b+2^k<=i+2^l:=by
 have hi':=Zqo hkl hi;have hd:2^k∣2^l:=Nat.pow_dvd_pow 2 hkl;obtain⟨x,hx⟩:=Nat.dvd_of_mod_eq_zero hi';obtain⟨y,hy⟩:=Nat.dvd_of_mod_eq_zero hb;obtain⟨z,hz⟩:=hd;have e1:x<y+1:=Nat.lt_of_mul_lt_mul_left (a:=2^k) (by rw[Nat.mul_add,Nat.mul_one,<-hx,<-hy];omega);have e2:y<x+z:=Nat.lt_of_mul_lt_mul_left (a:=2^k) (by rw[Nat.mul_add,<-hx,<-hy,<-hz];omega);have e3:2^k*x<=2^k*y:=Nat.mul_le_mul_left _ (by omega);have e4:2^k*(y+1)<=2^k*(x+z):=Nat.mul_le_mul_left _ (by omega);rw[Nat.mul_add,Nat.mul_one,Nat.mul_add,<-hx,<-hy,<-hz]at e4;rw[<-hx,<-hy]at e3
 exact⟨e3,e4⟩
abbrev Zag:=Nat->Option (Nat × Bool)
structure Tile (g:Nat) (R:Zag):Prop where
 al:∀i k t,R i=some (k,t)->k<=10/\i%2^k=0/\i+2^k<=g
 cv:∀p,p<g->∃i k t,R i=some (k,t)/\i<=p/\p<i+2^k
 dj:∀i k t j l u,R i=some (k,t)->R j=some (l,u)->i<j->i+2^k<=j
structure Til (g:Nat) (R:Zag) (x:Nat):Prop extends Tile g R where
 mx:∀i k,R i=some (k,false)->k<10->i≠x->Zcz i k≠x->R (Zcz i k)≠some (k,false)
theorem Til.lt {g x i k:Nat} {t:Bool} {R:Zag} (h:Til g R x) (e:R i=some (k,t)):i<g:=by
 have:=h.al i k t e;have:=Zae k;omega
theorem Til.out {g x i:Nat} {R:Zag} (h:Til g R x) (hi:g<=i):R i=none:=by
 cases e:R i with
 |none=>rfl
 |some y=>exact absurd (h.lt (t:=y.2) (k:=y.1) e) (by omega)
theorem Til.one {g x i j k l p:Nat} {t u:Bool} {R:Zag} (h:Til g R x) (e:R i=some (k,t)) (f:R j=some (l,u)) (h1:i<=p) (h2:p<i+2^k) (h3:j<=p) (h4:p<j+2^l):i=j/\k=l/\t=u:=by
 have:i=j:=by
  rcases Nat.lt_trichotomy i j with c|c|c
  · have:=h.dj _ _ _ _ _ _ e f c;omega
  · exact c
  · have:=h.dj _ _ _ _ _ _ f e c;omega
 subst this;rw[e]at f;simp only[Option.some.injEq,Prod.mk.injEq]at f
 exact⟨rfl,f.1,f.2⟩
def Zha (R:Zag) (p:Nat):Prop:=∀i k,R i=some (k,true)->¬(i<=p/\p<i+2^k)
theorem Zea {p k:Nat} (h:p%2^(k+1)=0):Zcz p k=p+2^k:=if_pos h
theorem Zdh {p k:Nat} (h:p%2^(k+1)=0):Zcz (p+2^k) k=p:=by
 unfold Zcz;have h1:=Zae k
 rw[if_neg (fun e=>by
  have:=Zlo (n:=2^(k+1)) e h (by rw[Zbj];omega) (by rw[Zbj];omega)
  omega)]
 omega
theorem Ziq {g:Nat} {R:Zag} (h:Til g R g):∀(k b:Nat),k<=10->b%2^k=0->b+2^k<=g->(∀p,b<=p->p<b+2^k->Zha R p)->
 ∃i l,R i=some (l,false)/\k<=l/\i<=b/\b+2^k<=i+2^l
 |0,b,_,hb,hg,hf=>by
  rw[Nat.pow_zero]at hg;obtain⟨i,l,t,e,h1,h2⟩:=h.cv b (by omega);cases t with
  |true=>exact absurd ⟨h1,h2⟩ (hf b (Nat.le_refl _) (by simp) i l e)
  |false=>exact⟨i,l,e,Nat.zero_le _,h1,by rw[Nat.pow_zero];omega⟩
 |k+1,b,hk,hb,hg,hf=>by
  have hp:=Zbj k;have h0:=Zae k;rw[hp]at hg hf;have hb':=Zqp hb;have hc':(b+2^k)%2^k=0:=by rw[Nat.add_mod_right];exact hb'
  obtain⟨i,l,e,h1,h2,h3⟩:=Ziq h k b (by omega) hb' (by omega) (fun p p1 p2=>hf p p1 (by omega));obtain⟨j,m,f,h4,h5,h6⟩:=Ziq h k (b+2^k) (by omega) hc' (by omega) (fun p p1 p2=>hf p (by omega) (by omega));have ai:=h.al _ _ _ e;have aj:=h.al _ _ _ f;by_cases c1:k+1<=l
  · have:=Zqa (p:=b) ai.2.1 hb c1 h2 (by omega) (Nat.le_refl _) (by rw[hp];omega)
    exact⟨i,l,e,c1,this.1,this.2⟩
  · by_cases c2:k+1<=m
    · have:=Zqa (p:=b+2^k) aj.2.1 hb c2 h5 (by omega) (by omega) (by rw[hp];omega)
      exact⟨j,m,f,c2,this.1,this.2⟩
    · have el:l=k:=by omega
      have em:m=k:=by omega
      subst el;subst em
      have ei:i=b:=by omega
      have ej:j=b+2^m:=by omega
      subst ei;subst ej
      refine absurd (by rw[Zea hb];exact f) (h.mx i m e (by omega) (by have:=h.lt e;omega) (by rw[Zea hb];have:=h.lt f;omega))
theorem Til.Yio {g i k:Nat} {R:Zag} (h:Til g R g) (e:R i=some (k,false)) (hk:k<10) (hi:i%2^(k+1)=0) (hg:i+2^(k+1)<=g):¬∀p,i<=p->p<i+2^(k+1)->Zha R p:=fun hf=>by
 obtain⟨j,l,f,h1,h2,h3⟩:=Ziq h (k+1) i (by omega) hi hg hf;have h0:=Zae k;have h4:=Zae (k+1)
 have:=h.one (p:=i) e f (Nat.le_refl _) (by omega) h2 (by omega)
 omega
theorem Til.free {g x i k p:Nat} {R:Zag} (h:Til g R x) (e:R i=some (k,false)) (h1:i<=p) (h2:p<i+2^k):Zha R p:=fun j l f hc=>by
 have:=(h.one e f h1 h2 hc.1 hc.2).2.2
 cases this
end
section
open Go Go.RowKit Go.Shelf
def Zfm (R:Zag) (i k:Nat) (t:Bool):Zag:=fun p=>if p=i then some (k,t)else if i<p/\p<i+2^k then none else R p
theorem Zb5 (R:Zag) (i k:Nat) (t:Bool):Zfm R i k t i=some (k,t):=if_pos rfl
theorem Zcs {R:Zag} {i k p:Nat} {t:Bool} (h:p<i\/i+2^k<=p):Zfm R i k t p=R p:=by
 have:=Zae k
 unfold Zfm;rw[if_neg (by omega),if_neg (by omega)]
theorem Ydp {R:Zag} {i k p:Nat} {t:Bool} (h1:i<p) (h2:p<i+2^k):Zfm R i k t p=none:=by
 unfold Zfm;rw[if_neg (by omega),if_pos ⟨h1,h2⟩]
theorem Zbz {R:Zag} {i k p l:Nat} {t u:Bool} (h:Zfm R i k t p=some (l,u)):(p=i/\l=k/\u=t)\/((p<i\/i+2^k<=p)/\R p=some (l,u)):=by
 unfold Zfm at h
 split at h
 · simp only[Option.some.injEq,Prod.mk.injEq]at h
   exact .inl ⟨by assumption,h.1.symm,h.2.symm⟩
 · split at h
   · cases h
   · exact .inr ⟨by omega,h⟩
theorem Zmq {p k:Nat} (h:p%2^k=0):Zcz (Zcz p k) k=p:=by
 rcases Zfn h with z|⟨z1,z2⟩
 · rw[Zea z];exact Zdh z
 · have:=Zdh z2
   rw[Nat.sub_add_cancel z1]at this;rw[this,Zea z2];omega
theorem Zua {p k:Nat} (h:p%2^k=0):Zcz p k≠p:=by
 have:=Zae k
 rcases Zfn h with z|⟨z1,z2⟩
 · rw[Zea z];omega
 · have:=Zdh z2
   rw[Nat.sub_add_cancel z1]at this;omega
theorem Tile.fwd {g i k:Nat} {t u:Bool} {R:Zag} (h:Tile g R) (e:R i=some (k,t)) {j l:Nat} {v:Bool} (hj:j≠i) (c:R j=some (l,v)):Zfm R i k u j=some (l,v):=by
 rw[Zcs (by
  rcases Nat.lt_or_gt_of_ne hj with d|d
  · exact .inl d
  · exact .inr (h.dj _ _ _ _ _ _ e c d))]
 exact c
theorem Zb0 {R:Zag} {i k j l:Nat} {u v:Bool} (h:Zfm R i k u j=some (l,v)):(j=i/\l=k/\v=u)\/(j≠i/\R j=some (l,v)):=by
 have:=Zae k
 rcases Zbz h with c|⟨c,c2⟩
 · exact .inl c
 · exact .inr ⟨by omega,c2⟩
theorem Tile.same {g i k:Nat} {t u:Bool} {R:Zag} (h:Tile g R) (e:R i=some (k,t)):Tile g (Zfm R i k u):=by
 refine⟨fun j l v hj=>?_,fun p hp=>?_,fun j l v j' l' v' hj hj' hlt=>?_⟩
 · rcases Zb0 hj with⟨rfl,rfl,rfl⟩|⟨_,c⟩
   · exact h.al _ _ _ e
   · exact h.al _ _ _ c
 · obtain⟨j,l,v,c,h1,h2⟩:=h.cv p hp
   by_cases d:j=i
   · subst d
     rw[e]at c;simp only[Option.some.injEq,Prod.mk.injEq]at c
     exact⟨j,k,u,Zb5 _ _ _ _,h1,by rw[c.1];exact h2⟩
   · exact⟨j,l,v,h.fwd e d c,h1,h2⟩
 · rcases Zb0 hj with⟨rfl,rfl,rfl⟩|⟨_,c⟩<;>rcases Zb0 hj' with⟨rfl,rfl,rfl⟩|⟨_,c'⟩
   · omega
   · exact h.dj _ _ _ _ _ _ e c' hlt
   · exact h.dj _ _ _ _ _ _ c e hlt
   · exact h.dj _ _ _ _ _ _ c c' hlt
theorem Til.Zws {g i k:Nat} {R:Zag} (h:Til g R g) (e:R i=some (k,true)):Til g (Zfm R i k false) i:=
 ⟨h.toTile.same e,fun j l hj hl hji hti hn=>by
  rcases Zb0 hj with⟨c,_⟩|⟨_,c⟩
  · exact hji c
  rcases Zb0 hn with⟨d,_⟩|⟨_,d⟩
  · exact hti d
  exact h.mx j l c hl (by have:=h.lt c;omega) (by have:=h.lt d;omega) d⟩
theorem Til.stop {g x k:Nat} {R:Zag} (h:Til g R x) (e:R x=some (k,false)) (hs:k<10->R (Zcz x k)≠some (k,false)):Til g R g:=
 ⟨h.toTile,fun j l hj hl _ _ hn=>by
  by_cases c:j=x
  · subst c
    rw[e]at hj;simp only[Option.some.injEq,Prod.mk.injEq,and_true]at hj;subst hj;exact hs hl hn
  · by_cases d:Zcz j l=x
    · rw[d,e]at hn
      simp only[Option.some.injEq,Prod.mk.injEq,and_true]at hn;subst hn;refine hs hl ?_;rw[<-d,Zmq (h.al _ _ _ hj).2.1];exact hj
    · exact h.mx j l hj hl c d hn⟩
theorem Til.take {g x k:Nat} {R:Zag} (h:Til g R x) (e:R x=some (k,false)):Til g (Zfm R x k true) g:=
 ⟨h.toTile.same e,fun j l hj hl _ _ hn=>by
  rcases Zb0 hj with⟨_,_,c⟩|⟨c0,c⟩
  · cases c
  rcases Zb0 hn with⟨_,_,d⟩|⟨d0,d⟩
  · cases d
  exact h.mx j l c hl c0 d0 d⟩
theorem Til.at {g x:Nat} {R:Zag} (h:Til g R g):Til g R x:=⟨h.toTile,fun j l hj hl _ _ hn=>h.mx j l hj hl (by have:=h.lt hj;omega) (by have:=h.lt hn;omega) hn⟩
theorem Tile.join {g i k:Nat} {t u v:Bool} {R:Zag} (h:Tile g R) (e:R i=some (k,t)) (f:R (i+2^k)=some (k,u)) (hk:k<10) (hi:i%2^(k+1)=0):Tile g (Zfm R i (k+1) v):=by
 have h0:=Zae k;have hp:=Zbj k;have ai:=h.al _ _ _ e;have aj:=h.al _ _ _ f
 have far:∀j l w,R j=some (l,w)->j≠i->j≠i+2^k->j<i\/i+2^(k+1)<=j:=fun j l w c n1 n2=>by
  rcases Nat.lt_or_gt_of_ne n1 with d|d
  · exact .inl d
  · have h1:=h.dj _ _ _ _ _ _ e c d
    have h2:=h.dj _ _ _ _ _ _ f c (by omega);omega
 refine⟨fun j l w hj=>?_,fun p hp'=>?_,fun j l w j' l' w' hj hj' hlt=>?_⟩
 · rcases Zb0 hj with⟨rfl,rfl,rfl⟩|⟨_,c⟩
   · exact⟨by omega,hi,by omega⟩
   · exact h.al _ _ _ c
 · obtain⟨j,l,w,c,h1,h2⟩:=h.cv p hp'
   by_cases d:j=i
   · subst d
     rw[e]at c;simp only[Option.some.injEq,Prod.mk.injEq]at c
     exact⟨j,k+1,v,Zb5 _ _ _ _,h1,by rw[<-c.1]at h2;omega⟩
   · by_cases d2:j=i+2^k
     · subst d2
       rw[f]at c;simp only[Option.some.injEq,Prod.mk.injEq]at c;obtain⟨rfl,_⟩:=c
       exact⟨i,k+1,v,Zb5 _ _ _ _,by omega,by omega⟩
     · exact⟨j,l,w,by rw[Zcs (far _ _ _ c d d2)];exact c,h1,h2⟩
 · have back:∀j l w,Zfm R i (k+1) v j=some (l,w)->(j=i/\l=k+1)\/((j<i\/i+2^(k+1)<=j)/\R j=some (l,w)):=fun j l w c=>by
    rcases Zbz c with⟨d,d2,_⟩|d
    · exact .inl ⟨d,d2⟩
    · exact .inr d
   rcases back _ _ _ hj with⟨rfl,rfl⟩|⟨c0,c⟩<;>rcases back _ _ _ hj' with⟨rfl,rfl⟩|⟨c0',c'⟩
   · omega
   · omega
   · exact h.dj _ _ _ _ _ _ c e hlt
   · exact h.dj _ _ _ _ _ _ c c' hlt
theorem Til.join {g x k:Nat} {R:Zag} (h:Til g R x) (e:R x=some (k,false)) (f:R (Zcz x k)=some (k,false)) (hk:k<10):Til g (Zfm R (min x (Zcz x k)) (k+1) false) (min x (Zcz x k)):=by
 have h0:=Zae k;have ai:=(h.al _ _ _ e).2.1
 have:∃i,min x (Zcz x k)=i/\i%2^(k+1)=0/\R i=some (k,false)/\R (i+2^k)=some (k,false)/\(x=i\/x=i+2^k):=by
  rcases Zfn ai with z|⟨z1,z2⟩
  · rw[Zea z]at f⊢
    exact⟨x,by omega,z,e,f,.inl rfl⟩
  · have tw:=Zdh z2
    rw[Nat.sub_add_cancel z1]at tw;rw[tw]at f⊢
    exact⟨x-2^k,by omega,z2,f,by rw[Nat.sub_add_cancel z1];exact e,.inr (by omega)⟩
 obtain⟨i,em,hi,e1,e2,hx⟩:=this;rw[em]
 refine⟨h.toTile.join e1 e2 hk hi,fun j l hj hl hji hti hn=>?_⟩
 have hp:=Zbj k;rcases Zbz hj with⟨c,_⟩|⟨c0,c⟩
 · exact hji c
 rcases Zbz hn with⟨d,_⟩|⟨d0,d⟩
 · exact hti d
 exact h.mx j l c hl (by omega) (by omega) d
def Zd8 (R:Zag) (i k:Nat) (t:Bool):Zag:=fun p=>if p=i then some (k,t)else if p=i+2^k then some (k,false)else R p
theorem Tile.half {g i k:Nat} {t u:Bool} {R:Zag} (h:Tile g R) (e:R i=some (k+1,t)):Tile g (Zd8 R i k u):=by
 have h0:=Zae k;have hp:=Zbj k;have ai:=h.al _ _ _ e;have hm:=Zqp ai.2.1
 have far:∀j l w,R j=some (l,w)->j≠i->j<i\/i+2^(k+1)<=j:=fun j l w c n1=>by
  rcases Nat.lt_or_gt_of_ne n1 with d|d
  · exact .inl d
  · exact .inr (h.dj _ _ _ _ _ _ e c d)
 have back:∀j l w,Zd8 R i k u j=some (l,w)->(j=i/\l=k)\/(j=i+2^k/\l=k)\/((j<i\/i+2^(k+1)<=j)/\R j=some (l,w)):=fun j l w c=>by
  unfold Zd8 at c
  split at c
  · simp only[Option.some.injEq,Prod.mk.injEq]at c
    exact .inl ⟨by assumption,c.1.symm⟩
  · split at c
    · simp only[Option.some.injEq,Prod.mk.injEq]at c
      exact .inr (.inl ⟨by assumption,c.1.symm⟩)
    · exact .inr (.inr ⟨far _ _ _ c (by assumption),c⟩)
 refine⟨fun j l w hj=>?_,fun p hp'=>?_,fun j l w j' l' w' hj hj' hlt=>?_⟩
 · rcases back _ _ _ hj with⟨rfl,rfl⟩|⟨rfl,rfl⟩|⟨_,c⟩
   · exact⟨by omega,hm,by omega⟩
   · exact⟨by omega,by rw[Nat.add_mod_right];exact hm,by omega⟩
   · exact h.al _ _ _ c
 · obtain⟨j,l,w,c,h1,h2⟩:=h.cv p hp'
   by_cases d:j=i
   · subst d
     rw[e]at c;simp only[Option.some.injEq,Prod.mk.injEq]at c;rw[<-c.1]at h2;by_cases q:p<j+2^k
     · exact⟨j,k,u,if_pos rfl,h1,q⟩
     · exact⟨j+2^k,k,false,by unfold Zd8;rw[if_neg (by omega),if_pos rfl],by omega,by omega⟩
   · have:=far _ _ _ c d
     exact⟨j,l,w,by unfold Zd8;rw[if_neg d,if_neg (by omega)];exact c,h1,h2⟩
 · rcases back _ _ _ hj with⟨rfl,rfl⟩|⟨rfl,rfl⟩|⟨c0,c⟩<;>rcases back _ _ _ hj' with⟨rfl,rfl⟩|⟨rfl,rfl⟩|⟨c0',c'⟩<;>first
    |omega
    |exact h.dj _ _ _ _ _ _ c c' hlt
    |exact h.dj _ _ _ _ _ _ c e hlt
    |(have:=h.dj _ _ _ _ _ _ c e (by omega);omega)
theorem Til.half {g i k:Nat} {R:Zag} (h:Til g R i) (e:R i=some (k+1,false)):Til g (Zd8 R i k false) i:=by
 have h0:=Zae k;have hp:=Zbj k;have ai:=h.al _ _ _ e
 refine⟨h.toTile.half e,fun j l hj hl hji hti hn=>?_⟩
 unfold Zd8 at hj hn;rw[if_neg hji]at hj;rw[if_neg hti]at hn;by_cases c:j=i+2^k
 · rw[if_pos c]at hj
   simp only[Option.some.injEq,Prod.mk.injEq,and_true]at hj;subst hj;rw[c,Zdh ai.2.1]at hti;exact hti rfl
 · rw[if_neg c]at hj
   by_cases d:Zcz j l=i+2^k
   · rw[if_pos d]at hn
     simp only[Option.some.injEq,Prod.mk.injEq,and_true]at hn;subst hn
     have:=Zmq (h.al _ _ _ hj).2.1
     rw[d,Zdh ai.2.1]at this;exact hji this.symm
   · rw[if_neg d]at hn
     exact h.mx j l hj hl hji hti hn
theorem Til.more {g k:Nat} {u:Bool} {R:Zag} (h:Til g R g) (hk:k<=10) (hg:g%2^k=0):Til (g+2^k) (Zfm R g k u) g:=by
 have h0:=Zae k
 refine⟨⟨fun j l w hj=>?_,fun p hp'=>?_,fun j l w j' l' w' hj hj' hlt=>?_⟩,fun j l hj hl hji hti hn=>?_⟩
 · rcases Zbz hj with⟨rfl,rfl,rfl⟩|⟨_,c⟩
   · exact⟨hk,hg,Nat.le_refl _⟩
   · have:=h.al _ _ _ c
     exact⟨this.1,this.2.1,by omega⟩
 · by_cases c:p<g
   · obtain⟨j,l,w,c,h1,h2⟩:=h.cv p c
     exact⟨j,l,w,by rw[Zcs (.inl (h.lt c))];exact c,h1,h2⟩
   · exact⟨g,k,u,Zb5 _ _ _ _,by omega,by omega⟩
 · rcases Zbz hj with⟨rfl,rfl,rfl⟩|⟨_,c⟩<;>rcases Zbz hj' with⟨rfl,rfl,rfl⟩|⟨_,c'⟩
   · omega
   · have:=h.lt c';omega
   · exact(h.al _ _ _ c).2.2
   · exact h.dj _ _ _ _ _ _ c c' hlt
 · rcases Zbz hj with⟨c,_⟩|⟨_,c⟩
   · exact hji c
   rcases Zbz hn with⟨d,_⟩|⟨_,d⟩
   · exact hti d
   exact h.mx j l c hl hji hti d
theorem Til.start:Til 0 (fun _=>Option.none) 0:=by
 refine⟨⟨fun _ _ _ h=>(by cases h),fun p h=>(by omega),fun _ _ _ _ _ _ h=>(by cases h)⟩,fun _ _ h=>(by cases h)⟩
end
section
open Go Go.RowKit
def Zie:Option Nat->Value
 |none=> .pointer none
 |some b=>pT b
def Zm3 (ps:List (Option Nat)):Array Value:=(ps.map Zie).toArray
theorem Zk8 (ps:List (Option Nat)) (i:Nat):(Zm3 ps)[i]?=(ps[i]?).map Zie:=by simp[Zm3]
theorem Zy0 (ps:List (Option Nat)) (i:Nat) (v:Option Nat):(Zm3 ps).setIfInBounds i (Zie v)=Zm3 (ps.set i v):=by
 simp[Zm3,List.map_set]
def Zly (s:ASt) (P:Nat) (p:Option Addr) (n cap:Nat):Array Value:=
 #[iV (s.L:Int),.slice p n cap,.slice (some (aD P 0)) s.L s.L,.bool s.rf,iV (s.lf:Int)]
structure ArX (A:Nat) (s:ASt) (P:Nat) (ps:List (Option Nat)) (p:Option Addr) (n cap:Nat) (x:World):Prop where
 Zch:Good s.L s.es
 len:ps.length=s.L
 hd:x.heap[A]?=some (.cells (Zly s P p n cap) 121 (0,0))
 row:x.heap[P]?=some (.cells (Zm3 ps) 122 (0,0))
 pg:∀(i b:Nat),ps[i]?=some (some b)->x.heap[b]?=some (.cells (Zat s.mm i) 124 (0,0))
 no:∀(i:Nat),ps[i]?=some none->∀(j:Nat),j<4096->s.mm (i*4096+j)=0
 un:∀(i b:Nat),ps[i]?=some (some b)->mem s.es (i:Int)=true
 edges:Zb1 x p s.es
 num:n=s.es.length
 room:n<=cap
 nil:p=none->cap=0
 ap:A≠P
 apg:∀(i b:Nat),ps[i]?=some (some b)->b≠A/\b≠P
 one:∀(i j b:Nat),ps[i]?=some (some b)->ps[j]?=some (some b)->i=j
 eap:∀b off,p=some (aD b off)->b≠A/\b≠P/\∀i:Nat,ps[i]?≠some (some b)
 lfb:s.lf<=9223372036854775807
def Own (A P:Nat) (ps:List (Option Nat)) (k:Nat):Prop:=k=A\/k=P\/∃i:Nat,ps[i]?=some (some k)
structure Step (A P:Nat) (ps ps':List (Option Nat)) (w w':World):Prop where
 os:w'.os=w.os
 tape:w'.tape=w.tape
 output:w'.output=w.output
 size:w.heap.size<=w'.heap.size
 block:∀k,k<w.heap.size->¬Own A P ps k->w'.heap[k]?=w.heap[k]?
 news:∀i b:Nat,ps'[i]?=some (some b)->ps[i]?=some (some b)\/w.heap.size<=b
theorem Step.refl (A P:Nat) (ps:List (Option Nat)) (w:World):Step A P ps ps w w:=⟨rfl,rfl,rfl,Nat.le_refl _,fun _ _ _=>rfl,fun _ _ h=> .inl h⟩
theorem Step.Zad {A P:Nat} {ps:List (Option Nat)} {w w':World} (h:Below w.heap.size w w'):Step A P ps ps w w':=
 ⟨h.os,h.tape,h.output,h.size,fun k hk _=>h.block k hk,fun _ _ h=> .inl h⟩
theorem Step.trans {A P:Nat} {ps ps1 ps2:List (Option Nat)} {w w1 w2:World} (h:Step A P ps ps1 w w1) (k:Step A P ps1 ps2 w1 w2):Step A P ps ps2 w w2:=by
 refine⟨k.os.trans h.os,k.tape.trans h.tape,k.output.trans h.output,Nat.le_trans h.size k.size,fun i hi hn=>?_,fun i b hb=>?_⟩
 · refine(k.block i (Nat.lt_of_lt_of_le hi h.size) fun ho=>?_).trans (h.block i hi hn)
   rcases ho with rfl|rfl|⟨j,hj⟩
   · exact hn (.inl rfl)
   · exact hn (.inr (.inl rfl))
   · rcases h.news j i hj with h1|h1
     · exact hn (.inr (.inr ⟨j,h1⟩))
     · omega
 · rcases k.news i b hb with h1|h1
   · exact h.news i b h1
   · exact .inr (Nat.le_trans h.size h1)
theorem Step.below {A P B:Nat} {ps ps':List (Option Nat)} {w w':World} (h:Step A P ps ps' w w') (hB:B<=w.heap.size) (hA:B<=A) (hP:B<=P) (hp:∀i b:Nat,ps[i]?=some (some b)->B<=b):Below B w w':=
 ⟨h.os,h.tape,h.output,h.size,fun k hk=>h.block k (by omega) fun ho=>by
  rcases ho with rfl|rfl|⟨j,hj⟩
  · omega
  · omega
  · have:=hp j k hj;omega⟩
theorem ArX.kept {A P n cap:Nat} {s:ASt} {ps:List (Option Nat)} {p:Option Addr} {x y:World} (h:ArX A s P ps p n cap x)
 (hs:x.heap.size<=y.heap.size) (hA:y.heap[A]?=x.heap[A]?) (hP:y.heap[P]?=x.heap[P]?) (hp:∀i b:Nat,ps[i]?=some (some b)->y.heap[b]?=x.heap[b]?) (he:∀b off,p=some (aD b off)->y.heap[b]?=x.heap[b]?):ArX A s P ps p n cap y:=
 {h with
  hd:=hA.trans h.hd
  row:=hP.trans h.row
  pg:=fun i b hb=>(hp i b hb).trans (h.pg i b hb)
  edges:=h.edges.Zdn he}
theorem ArX.ltA {A P n cap:Nat} {s:ASt} {ps:List (Option Nat)} {p:Option Addr} {x:World} (h:ArX A s P ps p n cap x):A<x.heap.size:=(Array.getElem?_eq_some_iff.1 h.hd).1
theorem ArX.ltP {A P n cap:Nat} {s:ASt} {ps:List (Option Nat)} {p:Option Addr} {x:World} (h:ArX A s P ps p n cap x):P<x.heap.size:=(Array.getElem?_eq_some_iff.1 h.row).1
theorem ArX.ltG {A P n cap:Nat} {s:ASt} {ps:List (Option Nat)} {p:Option Addr} {x:World} (h:ArX A s P ps p n cap x) {i b:Nat} (hb:ps[i]?=some (some b)):b<x.heap.size:=(Array.getElem?_eq_some_iff.1 (h.pg i b hb)).1
theorem ArX.ltE {A P n cap:Nat} {s:ASt} {ps:List (Option Nat)} {p:Option Addr} {x:World} (h:ArX A s P ps p n cap x) {b off:Nat} (hb:p=some (aD b off)):b<x.heap.size:=by
 have:=h.edges;rw[hb]at this;exact this.lt
theorem ArX.below {A P n cap:Nat} {s:ASt} {ps:List (Option Nat)} {p:Option Addr} {x y:World} (h:ArX A s P ps p n cap x) (hb:Below x.heap.size x y):ArX A s P ps p n cap y:=
 h.kept hb.size (hb.block _ h.ltA) (hb.block _ h.ltP) (fun _ _ e=>hb.block _ (h.ltG e)) (fun _ _ e=>hb.block _ (h.ltE e))
def Head (A P:Nat) (s:ASt) (p:Option Addr) (n cap:Nat) (x:World):Prop:=
 x.cell? (aD A 0)=some (iV (s.L:Int))/\x.cell? (aD A 1)=some (.slice p n cap)/\x.cell? (aD A 2)=some (.slice (some (aD P 0)) s.L s.L)/\x.cell? (aD A 3)=some (.bool s.rf)/\x.cell? (aD A 4)=some (iV (s.lf:Int))
theorem ArX.head {A P n cap:Nat} {s:ASt} {ps:List (Option Nat)} {p:Option Addr} {x:World} (h:ArX A s P ps p n cap x):Head A P s p n cap x:=
 ⟨(Zaa h.hd 0).1,(Zaa h.hd 1).1,(Zaa h.hd 2).1,(Zaa h.hd 3).1,(Zaa h.hd 4).1⟩
theorem ArX.free {A P n cap:Nat} {s:ASt} {ps:List (Option Nat)} {p:Option Addr} {x:World} (h:ArX A s P ps p n cap x) (o:Nat):x.frozen? (aD A o)=false:=(Zaa h.hd o).2
theorem ArX.slot {A P n cap:Nat} {s:ASt} {ps:List (Option Nat)} {p:Option Addr} {x:World} (h:ArX A s P ps p n cap x) {i:Nat} {q:Option Nat} (hq:ps[i]?=some q):x.cell? (aD P i)=some (Zie q):=by
 rw[(Zaa h.row i).1,Zk8,hq];rfl
theorem ArX.byte {A P n cap:Nat} {s:ASt} {ps:List (Option Nat)} {p:Option Addr} {x:World} (h:ArX A s P ps p n cap x) {i b j:Nat} (hq:ps[i]?=some (some b)) (hj:j<4096):x.cell? (aD b j)=some (.int .u8 ((s.mm (i*4096+j)).toNat:Int)):=by
 rw[(Zaa (h.pg i b hq) j).1,Zqk _ _ _ hj]
theorem ArX.Yf2 {A P n cap:Nat} {s:ASt} {ps:List (Option Nat)} {p:Option Addr} {x y:World} (h:ArX A s P ps p n cap x) {i b:Nat} (hb:ps[i]?=some (some b)) {m':Nat->UInt8}
 (hs:x.heap.size<=y.heap.size) (hy:y.heap[b]?=some (.cells (Zat m' i) 124 (0,0))) (ho:∀k,k<x.heap.size->k≠b->y.heap[k]?=x.heap[k]?) (hm:∀k,k/4096≠i->m' k=s.mm k):
 ArX A {s with mm:=m'} P ps p n cap y:=by
 have hbA:=h.apg i b hb
 exact{h with
  hd:=(ho A h.ltA (Ne.symm hbA.1)).trans h.hd
  row:=(ho P h.ltP (Ne.symm hbA.2)).trans h.row
  pg:=fun j c hc=>by
   by_cases e:c=b
   · subst e
     have hij:=h.one i j c hb hc;subst hij;exact hy
   · refine(ho c (h.ltG hc) e).trans ((h.pg j c hc).trans ?_)
     have hij:i≠j:=fun e2=>by subst e2;rw[hb]at hc;cases hc;exact e rfl
     rw[Zvj fun k hk=>(hm (j*4096+k) (by omega)).symm]
  no:=fun j hj k hk=>by
   have hij:i≠j:=fun e2=>by subst e2;rw[hb]at hj;cases hj
   show m' _=0;rw[hm _ (by omega)];exact h.no j hj k hk
  edges:=h.edges.Zdn fun c off e=>by
   have hc:=h.eap c off e;exact ho c (h.ltE e) fun e2=>hc.2.2 i (by rw[e2];exact hb)}
theorem heap_set {x:World} {b o:Nat} {c:Array Value} {T:TypeId} {fr:Nat × Nat} (h:x.heap[b]?=some (.cells c T fr)) (v:Value):(x.setCell (aD b o) v).heap[b]?=some (.cells (c.setIfInBounds o v) T fr):=by
 simp[World.setCell,Array.getElem?_modify,h]
theorem Zab (x:World) (o:Obj):(x.alloc o).heap[x.heap.size]?=some o:=by
 show(x.heap.push o)[x.heap.size]?=_
 simp
theorem Zc1 (x:World) (a:Addr) (v:Value):(x.setCell a v).heap.size=x.heap.size:=by simp[World.setCell]
def Yka (B A:Nat) (s:ASt) (x:World):Prop:=∃P ps p n cap,ArX A s P ps p n cap x/\B<=A/\B<=P/\(∀i b:Nat,ps[i]?=some (some b)->B<=b)
def Zel (A P:Nat) (ps:List (Option Nat)) (p:Option Addr) (s':ASt) (w w':World):Prop:=
 ∃ps' p' n' cap',ArX A s' P ps' p' n' cap' w'/\Step A P ps ps' w w'/\(∀b off,p'=some (aD b off)->p'=p\/w.heap.size<=b)
theorem Zel.at {A P B:Nat} {ps:List (Option Nat)} {p:Option Addr} {s':ASt} {w w':World} (h:Zel A P ps p s' w w') (hB:B<=w.heap.size) (hA:B<=A) (hP:B<=P) (hp:∀i b:Nat,ps[i]?=some (some b)->B<=b):
 Yka B A s' w'/\Below B w w':=by
 obtain⟨ps',p',n',cap',h1,h2,_⟩:=h
 refine⟨⟨P,ps',p',n',cap',h1,hA,hP,fun i b hb=>?_⟩,h2.below hB hA hP hp⟩
 rcases h2.news i b hb with h3|h3
 · exact hp i b h3
 · omega
theorem Zel.trans {A P:Nat} {ps:List (Option Nat)} {p:Option Addr} {s' s2:ASt} {w w1 w2:World} {ps1:List (Option Nat)} {p1:Option Addr} (st:Step A P ps ps1 w w1) (hp1:∀b off,p1=some (aD b off)->p1=p\/w.heap.size<=b)
 (h:Zel A P ps1 p1 s2 w1 w2):Zel A P ps p s2 w w2:=by
 obtain⟨ps',p',n',cap',h1,h2,h3⟩:=h
 refine⟨ps',p',n',cap',h1,st.trans h2,fun b off e=>?_⟩
 rcases h3 b off e with h4|h4
 · rw[h4]at e⊢;exact hp1 b off e
 · exact .inr (Nat.le_trans st.size h4)
end
section
open Go Go.RowKit
section
variable {A P n cap:Nat} {s:ASt} {ps:List (Option Nat)} {p:Option Addr} {w:World}
theorem Zxo (h:ArX A s P ps p n cap w):
 Calls Tryz.prog 60 #[pT A] w fun e w'=>e=.returned (iV (s.L:Int))/\w=w':=by
 obtain⟨c0,c1,c2,c3,c4⟩:=h.head;clear h;go_enter Tryz.func60,Tryz.ntmps60;go_wp2_with fail
 go_ret
 exact⟨rfl,rfl⟩
theorem Zvl (h:ArX A s P ps p n cap w):
 Calls Tryz.prog 196 #[pT A] w fun e w'=>e=.returned (.agg #[iV (s.L:Int),.slice p n cap])/\Below w.heap.size w w':=by
 obtain⟨c0,c1,c2,c3,c4⟩:=h.head;have hlt:=h.ltA;have hne:A≠w.heap.size:=by omega
 clear h;go_enter Tryz.func196,Tryz.ntmps196;go_wp2_with fail;exact bodyPost_ret (v:=.agg #[iV (s.L:Int),.slice p n cap]) (by simp[results,Tryz.results196,go_sem]) rfl ⟨rfl,(Below.refl _ _).alloc (Nat.le_refl _) _⟩
theorem Zep (h:ArX A s P ps p n cap w) (a k:Int) (ha:a<=9223372036854775807):
 Calls Tryz.prog 95 #[pT A,iV a,iV k] w fun e w'=>e=.returned (iV (Zac s.L s.es a k))/\Below w.heap.size w w':=by
 obtain⟨c0,c1,c2,c3,c4⟩:=h.head;have g:=h.Zch;have hg:=g.small;have HE:=hid h.edges;have HN:=hid h.num;clear h;by_cases h1:a<0
 · have HR:Hid (Zac s.L s.es a k=3):=hid (by unfold Zac Zbd;rw[show decide (0<=a/\0<=k/\k<=(s.L:Int)*4096-a)=false from by simp;omega];rfl)
   have hd:decide (a<0)=true:=by simpa using h1
   go_enter Tryz.func95,Tryz.ntmps95;go_wp2_with fail
   go_ret
   exact⟨by rw[HR.out];rfl,Below.refl _ _⟩
 have d1:decide (a<0)=false:=by simpa using h1
 by_cases h2:k<0
 · have HR:Hid (Zac s.L s.es a k=3):=hid (by unfold Zac Zbd;rw[show decide (0<=a/\0<=k/\k<=(s.L:Int)*4096-a)=false from by simp;omega];rfl)
   have hd:decide (k<0)=true:=by simpa using h2
   go_enter Tryz.func95,Tryz.ntmps95;go_wp2_with fail
   go_ret
   exact⟨by rw[HR.out];rfl,Below.refl _ _⟩
 have d2:decide (k<0)=false:=by simpa using h2
 by_cases h3:(s.L:Int)*4096-a<k
 · have HR:Hid (Zac s.L s.es a k=3):=hid (by unfold Zac Zbd;rw[show decide (0<=a/\0<=k/\k<=(s.L:Int)*4096-a)=false from by simp;omega];rfl)
   have hd:decide ((s.L:Int)*4096-a<k)=true:=by simpa using h3
   go_enter Tryz.func95,Tryz.ntmps95;go_wp2_with fail
   go_ret
   exact⟨by rw[HR.out];rfl,Below.refl _ _⟩
 have d3:decide ((s.L:Int)*4096-a<k)=false:=by simpa using h3
 have hin:decide (0<=a/\0<=k/\k<=(s.L:Int)*4096-a)=true:=by simp;omega
 by_cases h4:k=0
 · have HR:Hid (Zac s.L s.es a k=0):=hid (by unfold Zac Zbd;rw[hin,decide_eq_true h4];rfl)
   have hd:(k==0)=true:=by simpa using h4
   clear h4 hin;go_enter Tryz.func95,Tryz.ntmps95;go_wp2_with fail
   go_ret
   exact⟨by rw[HR.out];rfl,Below.refl _ _⟩
 have d4:(k==0)=false:=by simpa using h4
 have hq:a/4096<=9223372036854775807:=by omega
 have HQ:Hid (Zac s.L s.es a k=if(Zcp s.L s.es (a/4096) false&&decide (Zb3 s.L s.es (a/4096) false<=(a+k-1)/4096))then 3 else 0):=hid (by
  unfold Zac Zbd;rw[hin,decide_eq_false h4]
  cases Zcp s.L s.es (a/4096) false&&decide (Zb3 s.L s.es (a/4096) false<=(a+k-1)/4096)<;>rfl)
 have hk1:1<=k:=by omega
 clear hin h4;go_enter Tryz.func95,Tryz.ntmps95;go_wp2_with fail
 refine(Znt s.L p n cap s.es (a/4096) false _ g HE.out HN.out).mono ?_
 rintro e w1 ⟨rfl,hb1⟩;cases hfb:Zcp s.L s.es (a/4096) false with
 |false=>
  rw[hfb]at HQ;clear hfb;go_wp2_with fail
  go_ret
  exact⟨by rw[HQ.out];rfl,hb1⟩
 |true=>
  rw[hfb]at HQ;clear hfb;generalize Zb3 s.L s.es (a/4096) false=v at*
  by_cases hv:v<=(a+k-1)/4096
  · have hdv:decide (v<=(a+k-1)/4096)=true:=by simpa using hv
    rw[hdv]at HQ;go_wp2_with fail
    go_ret
    exact⟨by rw[HQ.out];rfl,hb1⟩
  · have hdv:decide (v<=(a+k-1)/4096)=false:=by simpa using hv
    rw[hdv]at HQ;go_wp2_with fail
    go_ret
    exact⟨by rw[HQ.out];rfl,hb1⟩
end
end
end Go.Proofs.YtgcidfenjlmljaaGreat.Bt
