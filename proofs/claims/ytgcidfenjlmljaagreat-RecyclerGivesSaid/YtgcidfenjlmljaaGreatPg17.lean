import Derived.Test.YtgcidfenjlmljaaGreatPg09
import Derived.Test.YtgcidfenjlmljaaGreatPg03
import Derived.Test.YtgcidfenjlmljaaGreatPg05
import Derived.Test.YtgcidfenjlmljaaGreatPgR
set_option linter.unusedVariables false
set_option linter.unusedSimpArgs false
set_option maxRecDepth 100000
set_option maxHeartbeats 16000000
namespace Go.Proofs.YtgcidfenjlmljaaGreat.Bt
section
open Go Go.RowKit Go.Shelf
theorem Zgt {α:Type}:∀{l m:List (Nat × α)},l.Pairwise (fun a b=>a.1<b.1)->m.Pairwise (fun a b=>a.1<b.1)->(∀x,x∈l↔x∈m)->l=m
 |[],[],_,_,_=>rfl
 |[],y::m,_,_,h=>absurd ((h y).2 (List.mem_cons_self ..)) (by simp)
 |x::l,[],_,_,h=>absurd ((h x).1 (List.mem_cons_self ..)) (by simp)
 |x::l,y::m,h1,h2,h=>by
  rw[List.pairwise_cons]at h1 h2
  have e:x=y:=by
   rcases List.mem_cons.1 ((h x).1 (List.mem_cons_self ..))with c|c
   · exact c
   · rcases List.mem_cons.1 ((h y).2 (List.mem_cons_self ..))with d|d
     · exact d.symm
     · have:=h2.1 x c;have:=h1.1 y d;omega
  subst e
  congr 1
  refine Zgt h1.2 h2.2 fun z=>⟨fun c=>?_,fun c=>?_⟩
  · rcases List.mem_cons.1 ((h z).1 (List.mem_cons_of_mem _ c))with d|d
    · have:=h1.1 z c;rw[d]at this;omega
    · exact d
  · rcases List.mem_cons.1 ((h z).2 (List.mem_cons_of_mem _ c))with d|d
    · have:=h2.1 z c;rw[d]at this;omega
    · exact d
def Zbi (R:Zag) (p:Nat):List (Nat × Nat × Bool):=(List.range p).filterMap fun i=>(R i).map fun y=>(i,y.1,y.2)
theorem Zu1 (R:Zag):Zbi R 0=[]:=rfl
theorem Zgs (R:Zag) (p:Nat):Zbi R (p+1)=Zbi R p++(match R p with|some y=>[(p,y.1,y.2)]|none=>[]):=by
 unfold Zbi;rw[List.range_succ,List.filterMap_append]
 congr 1
 rw[List.filterMap_cons];cases c:R p<;>simp
theorem Zdp {R:Zag} {p i k:Nat} {t:Bool}:(i,k,t)∈Zbi R p↔i<p/\R i=some (k,t):=by
 unfold Zbi;rw[List.mem_filterMap]
 constructor
 · rintro ⟨j,hj,e⟩
   rw[Option.map_eq_some_iff]at e;obtain⟨y,e1,e2⟩:=e;simp only[Prod.mk.injEq]at e2;obtain⟨rfl,rfl,rfl⟩:=e2
   exact⟨List.mem_range.1 hj,e1⟩
 · rintro ⟨h1,h2⟩
   exact⟨i,List.mem_range.2 h1,by rw[h2];rfl⟩
theorem Zm2 {R:Zag} {p:Nat}:∀n:Nat,(∀q,p<=q->q<p+n->R q=Option.none)->Zbi R (p+n)=Zbi R p
 |0,_=>rfl
 |n+1,h=>by
  rw[<-Nat.add_assoc,Zgs,h (p+n) (by omega) (by omega),Zm2 n fun q h1 h2=>h q h1 (by omega)];exact List.append_nil _
theorem Tile.Ydf {g x k:Nat} {t:Bool} {R:Zag} (h:Tile g R) (e:R x=some (k,t)) (p:Nat) (h1:x<p) (h2:p<x+2^k):R p=Option.none:=by
 cases c:R p with
 |none=>rfl
 |some y=>have:=h.dj _ _ _ _ y.1 y.2 e c h1;omega
theorem Zi6 {g i k:Nat} {t:Bool} {R:Zag} (h:Tile g R) (e:R i=some (k,t)):Zbi R (i+2^k)=Zbi R i++[(i,k,t)]:=by
 have h0:=Zae k
 have:=Zm2 (R:=R) (p:=i+1) (2^k-1) fun q h1 h2=>h.Ydf e q (by omega) (by omega)
 rw[show i+1+(2^k-1)=i+2^k from by omega]at this;rw[this,Zgs,e]
theorem Tile.Ycb {g p:Nat} {R:Zag} (h:Tile g R) (hp:p<g) (hb:p=0\/∃i k t,R i=some (k,t)/\i+2^k=p):∃k t,R p=some (k,t):=by
 obtain⟨i,k,t,e,h1,h2⟩:=h.cv p hp;by_cases c:i=p
 · subst c;exact⟨k,t,e⟩
 · rcases hb with d|⟨j,l,u,f,d⟩
   · omega
   · have h3:=Zae l
     rcases Nat.lt_trichotomy i j with q|q|q
     · have:=h.dj _ _ _ _ _ _ e f q;omega
     · subst q
       rw[e]at f
       have:=(Zbc f).1
       subst this;omega
     · have:=h.dj _ _ _ _ _ _ f e q;omega
theorem Zpi {g x i k j:Nat} {R:Zag} (h:Til g R x) (e:R i=some (k,false)) (hj:j<k):j<10/\i%2^(j+1)=0/\i+2^(j+1)<=g/\∀p,i<=p->p<i+2^(j+1)->Zha R p:=by
 have a:=h.al _ _ _ e
 have:2^(j+1)<=2^k:=Nat.pow_le_pow_right (by omega) hj
 exact⟨by omega,Zqo hj a.2.1,by omega,fun p h1 h2=>h.free e h1 (by omega)⟩
theorem Zs1 {g i k:Nat} {R:Zag} (h:Til g R g) (e:R i=some (k,false)):¬(k<10/\i%2^(k+1)=0/\i+2^(k+1)<=g/\∀p,i<=p->p<i+2^(k+1)->Zha R p):=fun⟨h1,h2,h3,h4⟩=>h.Yio e h1 h2 h3 h4
def tkL (R:Zag) (g:Nat):List (Nat × Nat):=(Zbi R g).filterMap fun y=>if y.2.2 then some (y.1,y.2.1)else Option.none
theorem Zfp {R:Zag} {g i k:Nat}:(i,k)∈tkL R g↔i<g/\R i=some (k,true):=by
 unfold tkL;rw[List.mem_filterMap]
 constructor
 · rintro ⟨⟨a,b,c⟩,h,e⟩
   cases c with
   |false=>simp at e
   |true=>
    simp only[if_true,Option.some.injEq,Prod.mk.injEq]at e;obtain⟨rfl,rfl⟩:=e;exact Zdp.1 h
 · rintro h
   exact⟨(i,k,true),Zdp.2 h,by simp⟩
theorem Zi7 (R:Zag) (g:Nat):(Zbi R g).Pairwise (fun a b=>a.1<b.1):=by
 induction g with
 |zero=>exact .nil
 |succ g ih=>
  rw[Zgs];refine List.pairwise_append.2 ⟨ih,by cases R g<;>simp,fun a ha b hb=>?_⟩;obtain⟨i,k,t⟩:=a;have h1:=(Zdp.1 ha).1;cases c:R g with
  |none=>rw[c]at hb;cases hb
  |some y=>
   rw[c]at hb;simp only[List.mem_singleton]at hb;subst hb;exact h1
theorem Zdb (R:Zag) (g:Nat):(tkL R g).Pairwise (fun a b=>a.1<b.1):=by
 unfold tkL;rw[List.pairwise_filterMap]
 refine(Zi7 R g).imp fun{a b} h x hx y hy=>?_
 split at hx<;>split at hy<;>simp_all
 obtain⟨rfl⟩:=hx;obtain⟨rfl⟩:=hy;exact h
theorem Zyo {R S:Zag} {g f:Nat} (h:∀i k,(i<g/\R i=some (k,true))↔(i<f/\S i=some (k,true))):tkL R g=tkL S f:=
 Zgt (Zdb _ _) (Zdb _ _) fun⟨i,k⟩=>by rw[Zfp,Zfp];exact h i k
theorem Zyq {R S:Zag} {g f x:Nat} (h:∀i k,(i<f/\S i=some (k,true))↔(i≠x/\i<g/\R i=some (k,true))):tkL S f=(tkL R g).filter fun y=>decide (y.1≠x):=
 Zgt (Zdb _ _) ((Zdb _ _).sublist List.filter_sublist) fun⟨i,k⟩=>by
  rw[Zfp,List.mem_filter,Zfp,h i k,decide_eq_true_iff]
  exact⟨fun⟨a,b⟩=>⟨b,a⟩,fun⟨a,b⟩=>⟨b,a⟩⟩
theorem Zyp {R S:Zag} {g f x o:Nat} (hx:∀k,¬(x<g/\R x=some (k,true))) (h:∀i k,(i<f/\S i=some (k,true))↔((i=x/\k=o)\/(i<g/\R i=some (k,true)))):
 tkL S f=(tkL R g).filter (fun y=>decide (y.1<x))++((x,o)::(tkL R g).filter fun y=>decide (x<y.1)):=by
 have s:=Zdb R g;refine Zgt (Zdb _ _) (List.pairwise_append.2 ⟨s.sublist List.filter_sublist,List.pairwise_cons.2 ⟨fun y hy=>?_,s.sublist List.filter_sublist⟩,fun a ha b hb=>?_⟩) fun⟨i,k⟩=>?_
 · exact decide_eq_true_iff.1 (List.mem_filter.1 hy).2
 · have h1:=decide_eq_true_iff.1 (List.mem_filter.1 ha).2
   rcases List.mem_cons.1 hb with e|e
   · subst e;exact h1
   · have:=decide_eq_true_iff.1 (List.mem_filter.1 e).2;omega
 · rw[Zfp,h i k,List.mem_append,List.mem_cons,List.mem_filter,List.mem_filter,Zfp,decide_eq_true_iff,decide_eq_true_iff,Prod.mk.injEq]
   constructor
   · rintro (c|c)
     · exact .inr (.inl c)
     · rcases Nat.lt_trichotomy i x with d|d|d
       · exact .inl ⟨c,d⟩
       · subst d;exact absurd c (hx k)
       · exact .inr (.inr ⟨c,d⟩)
   · rintro (⟨c,_⟩|c|⟨c,_⟩)
     · exact .inr c
     · exact .inl c
     · exact .inr c
end
section
open Go Go.RowKit Go.Shelf
theorem Zex (k:Nat) (hk:k<=10) (w:World):
 Calls Tryz.prog 145 #[iV k] w fun e w'=>e=.returned (iV ((2^k:Nat):Int))/\w=w':=by
 go_enter Tryz.func145,Tryz.ntmps145;go_wp2_with fail
 go_loop [3,4] (fun v i=>∃j:Nat,j<=k/\i=iV j/\v=iV ((2^j:Nat):Int)) (fun _ i=>k-(intOf i).toNat)
 case atStart=>exact⟨0,Nat.zero_le _,rfl,rfl⟩
 case round=>
  obtain⟨j,hj,rfl,rfl⟩:=hrel;by_cases hlt:j<k
  · have hp:2^j<=2^10:=Nat.pow_le_pow_right (by decide) (by omega)
    have hs:2^(j+1)=2*2^j:=by rw[Nat.pow_succ];omega
    obtain⟨P,hP⟩:=eX (2^j);rw[hP]at hp hs⊢;have HS:=hid hs;clear hP hs;go_wp2_with fail
    go_round
    case rel=>exact⟨j+1,by omega,by go_num,by rw[HS.out];go_num⟩
    case measure=>simp[intOf];omega
  · have e:j=k:=by omega
    subst e;go_wp2_with fail
    go_ret
    exact⟨rfl,rfl⟩
theorem Ya4 (n:Nat) (hn:n<=80) (w:World):Calls Tryz.prog 118 #[iV n] w fun e w'=>e=.returned (iV 1)/\w=w':=by
 have h1:Int.tmod (256+(n:Int)) 4096=256+n:=by rw[Int.tmod_eq_of_lt (by omega) (by omega)]
 have h2:Int.tdiv (256+(n:Int)) 4096=0:=Int.tdiv_eq_zero_of_lt (by omega) (by omega);have h3:IntKind.i64.wrap (256+(n:Int))=256+n:=by rw[IntKind.wrap_i64];omega
 go_enter Tryz.func118,Tryz.ntmps118;go_wp2_with fail
 go_ret
 exact⟨by simp,rfl⟩
abbrev bqV (o p g r:Int) (T:Value):Value:=.agg #[iV o,iV p,iV g,iV r,T]
def Znz (r:Int):Int:=if r=0 then -1 else if 0<r then r-1 else r
def Zn0 (r:Int):Int:=if r=0 then 4 else 0
theorem Zj0 (o p g r:Int) (tp:Option Addr) (tn tc:Nat) (hr:r<=9223372036854775807) (w:World):
 Calls Tryz.prog 119 #[bqV o p g r (.slice tp tn tc)] w fun e w'=>e=.returned (.tuple #[bqV o p g (Znz r) (.slice tp tn tc),iV (Zn0 r)])/\Below w.heap.size w w':=by
 unfold Znz Zn0;by_cases h0:r=0
 · subst h0
   go_enter Tryz.func119,Tryz.ntmps119;go_wp2_with fail;have hn0:=Zab (w.alloc (.cells #[iV o,iV p,iV g,iV (-1),.slice tp tn tc] 27)) (.cells #[iV o,iV p,iV g,iV (-1),.slice tp tn tc] 27);have g0:=(Zaa hn0 0).1;have g1:=(Zaa hn0 1).1;have g2:=(Zaa hn0 2).1;have g3:=(Zaa hn0 3).1;have g4:=(Zaa hn0 4).1
   exact bodyPost_ret (v:=.tuple #[bqV o p g (-1) (.slice tp tn tc),iV 4]) (by simp at g0 g1 g2 g3 g4;simp[results,Tryz.results119,go_sem,g0,g1,g2,g3,g4]) rfl ⟨rfl,((Below.refl _ _).alloc (Nat.le_refl _) _).alloc (by simp) _⟩
 · by_cases h1:0<r
   · rw[if_neg h0,if_pos h1,if_neg h0]
     have hw:IntKind.i64.wrap (r-1)=r-1:=by rw[IntKind.wrap_i64];omega
     go_enter Tryz.func119,Tryz.ntmps119;go_wp2_with fail;have hn0:=Zab (w.alloc (.cells #[iV o,iV p,iV g,iV (r-1),.slice tp tn tc] 27)) (.cells #[iV o,iV p,iV g,iV (r-1),.slice tp tn tc] 27);have g0:=(Zaa hn0 0).1;have g1:=(Zaa hn0 1).1;have g2:=(Zaa hn0 2).1;have g3:=(Zaa hn0 3).1;have g4:=(Zaa hn0 4).1
     exact bodyPost_ret (v:=.tuple #[bqV o p g (r-1) (.slice tp tn tc),iV 0]) (by simp at g0 g1 g2 g3 g4;simp[results,Tryz.results119,go_sem,g0,g1,g2,g3,g4]) rfl ⟨rfl,((Below.refl _ _).alloc (Nat.le_refl _) _).alloc (by simp) _⟩
   · rw[if_neg h0,if_neg h1,if_neg h0]
     go_enter Tryz.func119,Tryz.ntmps119;go_wp2_with fail;have hn0:=Zab (w.alloc (.cells #[iV o,iV p,iV g,iV (r),.slice tp tn tc] 27)) (.cells #[iV o,iV p,iV g,iV (r),.slice tp tn tc] 27);have g0:=(Zaa hn0 0).1;have g1:=(Zaa hn0 1).1;have g2:=(Zaa hn0 2).1;have g3:=(Zaa hn0 3).1;have g4:=(Zaa hn0 4).1
     exact bodyPost_ret (v:=.tuple #[bqV o p g (r) (.slice tp tn tc),iV 0]) (by simp at g0 g1 g2 g3 g4;simp[results,Tryz.results119,go_sem,g0,g1,g2,g3,g4]) rfl ⟨rfl,((Below.refl _ _).alloc (Nat.le_refl _) _).alloc (by simp) _⟩
end
section
open Go Go.RowKit Go.Shelf
def bC (n:Nat) (f:Nat->Bool):Array Value:=((List.range n).map fun i=>Value.bool (f i)).toArray
theorem Zl6 (n:Nat) (f:Nat->Bool):(bC n f).size=n:=by simp[bC]
theorem Ya8 (n:Nat) (f:Nat->Bool) (i:Nat) (hi:i<n):(bC n f)[i]?=some (.bool (f i)):=by simp[bC,hi]
def Zfe (b n:Nat) (f:Nat->Bool) (w:World):Prop:=w.heap[b]?=some (.cells (bC n f) 4 (0,0))
theorem Zfe.below {b n:Nat} {f:Nat->Bool} {w w':World} (h:Zfe b n f w) (hb:Below w.heap.size w w'):Zfe b n f w':=(hb.block _ (Array.getElem?_eq_some_iff.1 h).1).trans h
theorem Zfe.cell {b n:Nat} {f:Nat->Bool} {w:World} (h:Zfe b n f w) (i:Nat) (hi:i<n):w.cell? (aD b i)=some (.bool (f i)):=((Zaa h i).1).trans (Ya8 n f i hi)
def Ye7 (f:Nat->Bool) (a c:Nat):Bool:=(List.range c).all fun j=>f (a+j)
theorem Zoc {f:Nat->Bool} {a c:Nat} (h:∀j,j<c->f (a+j)=true):Ye7 f a c=true:=by
 unfold Ye7;rw[List.all_eq_true];intro j hj;exact h j (List.mem_range.1 hj)
theorem Zkz {f:Nat->Bool} {a c j:Nat} (h:j<c) (e:f (a+j)=false):Ye7 f a c=false:=by
 unfold Ye7;rw[List.all_eq_false];exact⟨j,List.mem_range.2 h,by rw[e];decide⟩
theorem Ya7 (b n:Nat) (hn:n<=2000) (f:Nat->Bool) (a c:Nat) (ha:a<=2000) (hc:c<=2000) (w:World) (h:Zfe b n f w):
 Calls Tryz.prog 146 #[.slice (some (aD b 0)) n n,iV a,iV c] w fun e w'=>e=.returned (.bool (decide (a+c<=n)&&Ye7 f a c))/\w=w':=by
 by_cases hle:a+c<=n
 · have hle':(a:Int)+c<=n:=by omega
   have HL:Hid (decide (a+c<=n)=true):=hid (by simpa using hle);have H:=hid h;clear h;go_enter Tryz.func146,Tryz.ntmps146;go_wp2_with fail
   go_loop [7] (fun k=>∃j:Nat,j<=c/\k=iV ((a:Int)+j)/\Hid (∀i,i<j->f (a+i)=true)) (fun k=>a+c-(intOf k).toNat)
   case atStart=>exact⟨0,Nat.zero_le _,by simp,hid fun i hi=>by omega⟩
   case round=>
    obtain⟨j,hj,rfl,HF⟩:=hrel;by_cases hlt:j<c
    · have hcell:=H.out.cell (a+j) (by omega)
      have hlt2:(a:Int)+j<(n:Int):=by omega
      have hlt3:(a:Int)+j<(a:Int)+c:=by omega
      have ht:((a:Int)+j).toNat=a+j:=by omega
      obtain⟨v,hv⟩:=eX (f (a+j));rw[hv]at hcell;have HV:=hid hv;clear hv;cases v with
      |true=>
       go_wp2_with fail
       go_round
       case rel=>exact⟨j+1,by omega,by go_num,hid fun i hi=>by
        by_cases q:i<j
        · exact HF.out i q
        · have:i=j:=by omega
          subst this;exact HV.out⟩
       case measure=>simp[intOf];omega
      |false=>
       go_wp2_with fail
       go_ret
       exact⟨by rw[Zkz hlt HV.out];rfl,rfl⟩
    · have e:j=c:=by omega
      subst e;go_wp2_with fail
      go_ret
      exact⟨by rw[Zoc HF.out];rfl,rfl⟩
 · have hle':(n:Int)<(a:Int)+c:=by omega
   have HL:Hid (decide (a+c<=n)=false):=hid (by simpa using hle);clear h;go_enter Tryz.func146,Tryz.ntmps146;go_wp2_with fail
   go_ret
   exact⟨by rw[HL.out];rfl,rfl⟩
end
section
open Go Go.RowKit Go.Shelf
def r0:Nat × Nat × Bool:=(0,0,false)
def Zcg (w:World) (p:Option Addr) (L:List (Nat × Nat × Bool)):Prop:=
 L=[]\/∃g,p=some (aD g 0)/\g<w.heap.size/\∀j,j<L.length->
  w.cell? (aD g (j*3))=some (iV ((L.getD j r0).1:Int))/\w.cell? (aD g (j*3+1))=some (iV ((L.getD j r0).2.1:Int))/\w.cell? (aD g (j*3+2))=some (.bool (L.getD j r0).2.2)
theorem Zcg.below {w w':World} {p:Option Addr} {L:List (Nat × Nat × Bool)} (h:Zcg w p L) (hb:Below w.heap.size w w'):Zcg w' p L:=by
 rcases h with h|⟨g,e,hg,hc⟩
 · exact .inl h
 · exact .inr ⟨g,e,Nat.lt_of_lt_of_le hg hb.size,fun j hj=>⟨(hb.cell (p:=(aD g (j*3))) hg).trans (hc j hj).1,(hb.cell (p:=(aD g (j*3+1))) hg).trans (hc j hj).2.1,(hb.cell (p:=(aD g (j*3+2))) hg).trans (hc j hj).2.2⟩⟩
def Zna (L:List (Nat × Nat × Bool)) (a:Int):Value:=match L.find? fun y=>decide ((y.1:Int)=a)with
 |some y=> .tuple #[iV (y.2.1:Int),iV 0]
 |none=> .tuple #[iV 0,iV 8]
theorem Zvp {L:List (Nat × Nat × Bool)} {a:Int} {j:Nat} (hj:j<L.length) (hn:∀i,i<j->((L.getD i r0).1:Int)≠a) (e:((L.getD j r0).1:Int)=a):Zna L a=.tuple #[iV ((L.getD j r0).2.1:Int),iV 0]:=by
 unfold Zna
 have:L.find? (fun y=>decide ((y.1:Int)=a))=some (L.getD j r0):=by
  rw[List.find?_eq_some_iff_getElem]
  refine⟨by simpa using e,j,hj,by simp[List.getD_eq_getElem?_getD,hj],fun i hi=>?_⟩
  have:=hn i hi
  rw[List.getD_eq_getElem?_getD,List.getElem?_eq_getElem (by omega)]at this
  simpa using this
 rw[this]
theorem Zqm {L:List (Nat × Nat × Bool)} {a:Int} (hn:∀i,i<L.length->((L.getD i r0).1:Int)≠a):Zna L a=.tuple #[iV 0,iV 8]:=by
 unfold Zna
 have:L.find? (fun y=>decide ((y.1:Int)=a))=none:=by
  rw[List.find?_eq_none];intro y hy;obtain⟨i,hi,e⟩:=List.mem_iff_getElem.1 hy
  have:=hn i hi
  rw[List.getD_eq_getElem?_getD,List.getElem?_eq_getElem hi,e]at this
  simpa using this
 rw[this]
theorem Zrq (o q g r:Int) (p:Option Addr) (tc:Nat) (L:List (Nat × Nat × Bool)) (hL:L.length<=2000) (a:Int) (w:World) (h:Zcg w p L):
 Calls Tryz.prog 210 #[bqV o q g r (.slice p L.length tc),iV a] w fun e w'=>e=.returned (Zna L a)/\Below w.heap.size w w':=by
 obtain⟨n,hn⟩:=eX L.length;have HN:=hid hn;have H:=hid h;have HB0:=hid ((Below.refl w.heap.size w).alloc (Nat.le_refl _) (.cells #[iV o,iV q,iV g,iV r,.slice p n tc] 27));rw[hn]at hL⊢;clear h hn;go_enter Tryz.func210,Tryz.ntmps210;go_wp2_with fail
 go_loopw[11] (fun s wr=>∃j:Nat,j<=n/\s=iV j/\Hid (∀i,i<j->((L.getD i r0).1:Int)≠a)/\Hid (Below w.heap.size w wr)) (fun s _=>n-(intOf s).toNat)
 case atStart=>exact⟨0,Nat.zero_le _,rfl,hid fun i hi=>by omega,HB0⟩
 case round=>
  obtain⟨j,hj,rfl,HNO,HB⟩:=hrel;by_cases hjn:j<n
  · have hx:=H.out.below HB.out
    rcases hx with e|⟨gb,rfl,hg,hc⟩
    · have:=HN.out;rw[e]at this;simp at this;omega
    obtain⟨c0,c1,c2⟩:=hc j (by rw[HN.out];exact hjn);obtain⟨y,hy⟩:=eX (L.getD j r0);obtain⟨y1,y2,y3⟩:=y;have HY:=hid hy;rw[hy]at c0 c1 c2
    simp only at c0 c1 c2
    have HB2:=hid (HB.out.alloc HB.out.size (.cells #[iV y1,iV y2,.bool y3] 140));clear hy hc;by_cases hya:(y1:Int)=a
    · have HF:Hid (Zna L a=.tuple #[iV y2,iV 0]):=hid (by
       rw[Zvp (by rw[HN.out];exact hjn) HNO.out (by rw[HY.out];exact hya),HY.out])
      have d:((y1:Int)==a)=true:=by simpa using hya
      have d2:decide ((y1:Int)=a)=true:=by simpa using hya
      clear hya;go_wp2_with fail
      go_ret2
      exact⟨by rw[HF.out];rfl,HB2.out⟩
    · have HN1:Hid (∀i,i<j+1->((L.getD i r0).1:Int)≠a):=hid fun i hi=>by
       by_cases e:i=j
       · subst e;rw[HY.out];exact hya
       · exact HNO.out i (by omega)
      have d:((y1:Int)==a)=false:=by simpa using hya
      have d2:decide ((y1:Int)=a)=false:=by simpa using hya
      clear hya;go_wp2_with fail;go_roundw
      case rel=>exact⟨j+1,by omega,by go_num,HN1,HB2⟩
      case measure=>simp[intOf];omega
  · have e:j=n:=by omega
    subst e;have HF:Hid (Zna L a=.tuple #[iV 0,iV 8]):=hid (Zqm (by rw[HN.out];exact HNO.out));go_wp2_with fail
    go_ret2
    exact⟨by rw[HF.out];rfl,HB.out⟩
end
section
open Go Go.RowKit Go.Shelf
theorem Tryz.Ygo:(Tryz.prog.info? 4).map (fun i=>(i.zero,i.size,i.bytes))=some (some (.bool false),1,1):=by kernel_rfl
theorem Zsp (n:Nat):madeCells (Value.bool false).cells (n*1)=bC n (fun _=>false):=by
 apply Array.ext_getElem?
 intro i;by_cases hi:i<n
 · rw[Ya8 _ _ _ hi]
   simp[madeCells,hi,Value.cells,Nat.mod_one]
 · rw[Array.getElem?_eq_none (by rw[size_madeCells];omega),Array.getElem?_eq_none (by rw[Zl6];omega)]
theorem Zu0 (n:Nat) (hn:n<=2000) (w:World):
 (Instr.makeSlice 201 (iV n) (iV n)).run Tryz.prog w=.ok (.slice (some (aD w.heap.size 0)) n n) (w.alloc (.cells (bC n (fun _=>false)) 4)):=by
 obtain⟨i0,hi,hz0,hz1,hz2⟩:=info_parts Tryz.Ygo;have h:=run_make (P:=Tryz.prog) w 201 4 i0 (.bool false) Tryz.underlying201 hi hz0 .i64 .i64 (n:Int) n (by omega) (Int.le_refl _) (by rw[hz2];omega) (by omega);rw[Int.toNat_natCast,hz1,Zsp]at h;exact h
theorem Zfe.ext {b n:Nat} {f f':Nat->Bool} {w:World} (h:Zfe b n f w) (e:∀i,i<n->f i=f' i):Zfe b n f' w:=by
 have:bC n f=bC n f':=by
  unfold bC
  congr 1
  exact List.map_congr_left fun i hi=>by rw[e i (List.mem_range.1 hi)]
 unfold Zfe;rw[<-this];exact h
theorem Zfe.set {b n:Nat} {f:Nat->Bool} {w:World} (h:Zfe b n f w) (i:Nat) (hi:i<n) (v:Bool):Zfe b n (fun p=>if p=i then v else f p) (w.setCell (aD b i) (.bool v)):=by
 unfold Zfe
 have e:(bC n f).set! i (.bool v)=bC n (fun p=>if p=i then v else f p):=by
  apply Array.ext_getElem?
  intro j;by_cases hj:j<n
  · rw[Ya8 _ _ _ hj,Array.set!_eq_setIfInBounds,Array.getElem?_setIfInBounds]
    by_cases c:i=j
    · subst c;rw[if_pos rfl,if_pos (by rw[Zl6];exact hi),if_pos rfl]
    · rw[if_neg c,Ya8 _ _ _ hj,if_neg (fun q=>c q.symm)]
  · rw[Array.getElem?_eq_none (by simp[Zl6];omega),Array.getElem?_eq_none (by rw[Zl6];omega)]
 rw[<-e];exact heap_set h _
def inR (y:Nat × Nat × Bool) (k p:Nat):Bool:=decide (y.1<=p/\p<y.1+k)
def Zev (L:List (Nat × Nat × Bool)) (p:Nat):Bool:=L.all fun y=> !inR y (2^y.2.1) p
theorem Zta (L:List (Nat × Nat × Bool)) (y:Nat × Nat × Bool) (p:Nat):Zev (L++[y]) p=(Zev L p&& !inR y (2^y.2.1) p):=by
 unfold Zev;rw[List.all_append];simp
theorem Zdy {L:List (Nat × Nat × Bool)} {j:Nat} (h:j<L.length):L.take (j+1)=L.take j++[L.getD j r0]:=by
 rw[List.take_add_one,List.getElem?_eq_getElem h,List.getD_eq_getElem?_getD,List.getElem?_eq_getElem h];rfl
theorem Yac (y:Nat × Nat × Bool) (k p:Nat) (b:Bool):(if p=y.1+k then false else(b&& !inR y k p))=(b&& !inR y (k+1) p):=by
 unfold inR;by_cases e:p=y.1+k
 · rw[if_pos e,decide_eq_true (by omega)];simp
 · rw[if_neg e]
   have:decide (y.1<=p/\p<y.1+k)=decide (y.1<=p/\p<y.1+(k+1)):=by
    congr 1;exact propext ⟨fun _=>by omega,fun _=>by omega⟩
   rw[this]
end
section
open Go Go.RowKit Go.Shelf
structure FK (B D n:Nat) (qc:Array Value) (f:Nat->Bool) (w x:World):Prop where
 t:Zfe B n f x
 b:x.heap[D]?=some (.cells qc 27 (0,0))
 l:Below w.heap.size w x
theorem FK.below {B D n:Nat} {qc:Array Value} {f:Nat->Bool} {w x y:World} (h:FK B D n qc f w x) (hb:Below x.heap.size x y):FK B D n qc f w y:=
 ⟨h.t.below hb,(hb.block _ (Array.getElem?_eq_some_iff.1 h.b).1).trans h.b,h.l.trans (hb.mono h.l.size)⟩
theorem FK.set {B D n:Nat} {qc:Array Value} {f:Nat->Bool} {w x:World} (h:FK B D n qc f w x) (hB:w.heap.size<=B) (hD:D≠B) (i:Nat) (hi:i<n) (v:Bool):FK B D n qc (fun p=>if p=i then v else f p) w (x.setCell (aD B i) (.bool v)):=
 ⟨h.t.set i hi v,(Below.heap_setCell x (aD B i) (.bool v) D hD).trans h.b,h.l.setCell (p:=(aD B i)) hB (.bool v)⟩
theorem FK.ext {B D n:Nat} {qc:Array Value} {f f':Nat->Bool} {w x:World} (h:FK B D n qc f w x) (e:∀i,i<n->f i=f' i):FK B D n qc f' w x:=⟨h.t.ext e,h.b,h.l⟩
def Yja (n:Nat) (L:List (Nat × Nat × Bool)) (w:World) (e:Ending) (w':World):Prop:=
 ∃b,e=.returned (.slice (some (aD b 0)) n n)/\Zfe b n (Zev L) w'/\w.heap.size<=b/\Below w.heap.size w w'
theorem Zxy (o q r:Int) (n:Nat) (hn:n<=2000) (p:Option Addr) (tc:Nat) (L:List (Nat × Nat × Bool)) (hL:L.length<=2000) (hr:∀j,j<L.length->(L.getD j r0).2.1<=10/\(L.getD j r0).1+2^(L.getD j r0).2.1<=n) (w:World) (h:Zcg w p L):
 Calls Tryz.prog 144 #[bqV o q (n:Int) r (.slice p L.length tc)] w (Yja n L w):=by
 obtain⟨m,hm⟩:=eX L.length;have HM:=hid hm;have H:=hid h;have HR:=hid hr;have hb0:=(Below.refl w.heap.size w).alloc (Nat.le_refl _) (.cells #[iV o,iV q,iV n,iV r,.slice p m tc] 27);have hbx:=Zab w (.cells #[iV o,iV q,iV n,iV r,.slice p m tc] 27);have hmk:=Zu0 n hn (w.alloc (.cells #[iV o,iV q,iV n,iV r,.slice p m tc] 27));have HB1:=hid (hb0.alloc (by simp) (.cells (bC n (fun _=>false)) 4));have hsz:(w.alloc (.cells #[iV o,iV q,iV n,iV r,.slice p m tc] 27)).heap.size=w.heap.size+1:=by simp
 rw[hsz]at hmk;have hnew:=Zab (w.alloc (.cells #[iV o,iV q,iV n,iV r,.slice p m tc] 27)) (.cells (bC n (fun _=>false)) 4);rw[hsz]at hnew;have hbox:=(((Below.refl (w.alloc (.cells #[iV o,iV q,iV n,iV r,.slice p m tc] 27)).heap.size _).alloc (Nat.le_refl _) (.cells (bC n (fun _=>false)) 4)).block w.heap.size (by simp)).trans hbx;have HF:=hid (show FK (w.heap.size+1) w.heap.size n #[iV o,iV q,iV n,iV r,.slice p m tc] (fun i=>decide (i<0)) w ((w.alloc (.cells #[iV o,iV q,iV n,iV r,.slice p m tc] 27)).alloc (.cells (bC n (fun _=>false)) 4))from⟨Zfe.ext (f:=fun _=>false) hnew (fun i _=>by simp),hbox,HB1.out⟩);clear hnew;rw[hm]at hL⊢;clear h hm hr hb0;go_enter Tryz.func144,Tryz.ntmps144;go_upto_region 2 with fail;obtain⟨y,hy⟩:=eX ((w.alloc (.cells #[iV o,iV q,iV n,iV r,.slice p m tc] 27)).alloc (.cells (bC n (fun _=>false)) 4));obtain⟨B,hB⟩:=eX (w.heap.size+1);obtain⟨D,hD⟩:=eX w.heap.size;have HBW:Hid (w.heap.size<=B):=hid (by omega);have HDB:Hid (D≠B):=hid (by omega);rw[hy,hB]at HF;rw[hy,hB];have HF':Hid (FK B D n #[iV o,iV q,iV n,iV r,.slice p m tc] (fun i=>decide (i<0)) w y):=by rw[<-hD];exact HF
 rw[hD];clear hy hB hD hmk hbx hsz hbox HB1 HF;go_wp2_with fail
 go_loopw[4,13] (fun _ s13 wr=>∃j:Nat,j<=n/\s13=iV j/\Hid (FK B D n #[iV o,iV q,iV n,iV r,.slice p m tc] (fun i=>decide (i<j)) w wr)) (fun _ s13 _=>n-(intOf s13).toNat)
 case atStart=>exact⟨0,Nat.zero_le _,rfl,HF'⟩
 case round=>
  clear HF';obtain⟨j,hj,rfl,HK⟩:=hrel;by_cases hlt:j<n
  · have hcell:=HK.out.t.cell j hlt
    have hfz:=(Zaa HK.out.t j).2;have hlt2:(j:Int)<(n:Int):=by omega
    have HK2:=hid ((HK.out.set HBW.out HDB.out j hlt true).ext (f':=fun i=>decide (i<j+1)) fun i _=>by
     by_cases e:i=j
     · subst e;simp
     · simp only[e,if_false];congr 1;exact propext ⟨fun _=>by omega,fun _=>by omega⟩)
    clear HK;go_wp2_with fail;go_roundw
    case rel=>exact⟨j+1,by omega,by go_num,HK2⟩
    case measure=>simp[intOf];omega
  · obtain rfl:j=n:=by omega
    have hq:=HK.out.b;have b4:=(Zaa hq 4).1;have HKa:=hid (HK.out.ext (f':=Zev (L.take 0)) fun i hi=>by rw[decide_eq_true hi,List.take_zero];rfl);clear HK hq;go_wp2_with fail;have b4':Hid True:=hid trivial
    go_loopw[6,7,23] (fun _ _ s23 wr=>∃i:Nat,i<=m/\s23=iV i/\Hid (FK B D j #[iV o,iV q,iV j,iV r,.slice p m tc] (Zev (L.take i)) w wr)) (fun _ _ s23 _=>m-(intOf s23).toNat)
    case atStart=>exact⟨0,Nat.zero_le _,rfl,HKa⟩
    case round=>
     clear HKa b4 b4';obtain⟨i,hi,rfl,HK⟩:=hrel;by_cases him:i<m
     · have him2:(i:Int)<(m:Int):=by omega
       have hx:=H.out.below HK.out.l;rcases hx with e|⟨gb,rfl,hg,hc⟩
       · have:=HM.out;rw[e]at this;simp at this;omega
       have hil:i<L.length:=by rw[HM.out];exact him
       obtain⟨c0,c1,c2⟩:=hc i hil;have hri:=HR.out i hil;obtain⟨y,hy⟩:=eX (L.getD i r0);have HY:=hid hy;rw[hy]at c0 c1 c2 hri;obtain⟨y1,y2,y3⟩:=y
       simp only at c0 c1 c2 hri
       clear hy hc hil;obtain⟨ho,hfit⟩:=hri;have HPG:=hid (fun w=>Zex y2 ho w);obtain⟨P,hP⟩:=eX (2^y2);have HP:=hid hP;rw[hP]at hfit HPG;have HT:=hid (Zab wr (.cells #[iV y1,iV y2,.bool y3] 140))
       have HK0:=hid ((HK.out.below ((Below.refl _ _).alloc (Nat.le_refl _) (.cells #[iV y1,iV y2,.bool y3] 140))).ext (f':=fun p=>Zev (L.take i) p&& !inR (y1,y2,y3) 0 p) fun p _=>by
        have:inR (y1,y2,y3) 0 p=false:=by unfold inR;rw[decide_eq_false (by simp)]
        rw[this];simp)
       have HTB:Hid (wr.heap.size≠B):=hid (by
        have:=(Array.getElem?_eq_some_iff.1 HK.out.t).1;omega)
       clear hP HK;go_upto_region 10 with fail;obtain⟨z,hz⟩:=eX (wr.alloc (.cells #[iV y1,iV y2,.bool y3] 140));obtain⟨T,hT⟩:=eX wr.heap.size;rw[hz]at HT HK0⊢;rw[hT]at HT HTB⊢;clear hz hT c0 c1 c2 hg;go_wp2_with fail
       go_loopw[7] (fun s7 wx=>∃k:Nat,k<=P/\s7=iV k/\Hid (wx.heap[T]?=some (.cells #[iV y1,iV y2,.bool y3] 140 (0,0)))/\Hid (FK B D j #[iV o,iV q,iV j,iV r,.slice (some (aD gb 0)) m tc] (fun p=>Zev (L.take i) p&& !inR (y1,y2,y3) k p) w wx)) (fun s7 _=>P-(intOf s7).toNat)
       case atStart=>exact⟨0,Nat.zero_le _,rfl,HT,HK0⟩
       case round=>
        clear HT HK0;obtain⟨k,hk,rfl,HT,HK⟩:=hrel;have ht:=HT.out;have t0:=(Zaa ht 0).1;have t1:=(Zaa ht 1).1;simp at t0 t1;clear ht;go_wp2_with fail
        refine(HPG.out _).mono ?_
        rintro e w' ⟨rfl,rfl⟩;by_cases hkP:k<P
        · have hkP2:(k:Int)<(P:Int):=by omega
          obtain⟨x,hx⟩:=eX (y1+k);have hq:(y1:Int)+(k:Int)=(x:Int):=by omega
          have hxj:x<j:=by omega
          have hxj2:(x:Int)<(j:Int):=by omega
          have hcell:=HK.out.t.cell x hxj;have hfz:=(Zaa HK.out.t x).2
          have HK2:=hid ((HK.out.set HBW.out HDB.out x hxj false).ext (f':=fun p=>Zev (L.take i) p&& !inR (y1,y2,y3) (k+1) p) fun p _=>by
           rw[<-hx];exact Yac (y1,y2,y3) k p (Zev (L.take i) p))
          have HT2:=hid ((Below.heap_setCell wr (aD B x) (.bool false) T HTB.out).trans HT.out);clear HK HT hx t1;go_wp2_with fail;go_roundw
          case rel=>exact⟨k+1,by omega,by go_num,HT2,HK2⟩
          case measure=>simp[intOf];omega
        · obtain rfl:k=P:=by omega
          have HK2:=hid (HK.out.ext (f':=Zev (L.take (i+1))) fun p _=>by
           rw[Zdy (by rw[HM.out];exact him),HY.out,Zta,HP.out])
          clear HK HT t0 t1;go_wp2_with fail;go_roundw
          case rel=>exact⟨i+1,by omega,by go_num,HK2⟩
          case measure=>simp[intOf];omega
     · obtain rfl:i=m:=by omega
       have HKF:=hid (HK.out.ext (f':=Zev L) fun p _=>by rw[<-HM.out,List.take_length]);clear HK;go_wp2_with fail
       go_ret
       exact⟨B,rfl,HKF.out.t,HBW.out,HKF.out.l⟩
end
end Go.Proofs.YtgcidfenjlmljaaGreat.Bt
