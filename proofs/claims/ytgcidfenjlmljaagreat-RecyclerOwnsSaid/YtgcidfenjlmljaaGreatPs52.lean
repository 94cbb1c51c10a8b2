import Derived.Test.YtgcidfenjlmljaaGreatPs51
import Derived.Maps.OwnOps
import Derived.Maps.Views
import Derived.Carry
import Derived.Test.YtgcidfenjlmljaaGreatPsR
set_option linter.unusedVariables false
set_option linter.unusedSimpArgs false
set_option maxRecDepth 100000
set_option maxHeartbeats 16000000
namespace Go.Proofs.YtgcidfenjlmljaaGreat.Bt
section
open Go Go.RowKit Go.Shelf

end
section
open Go Go.RowKit Go.Shelf
theorem Ylu {f g:Nat->Bool}:∀N,(∀p,p<N->f p=g p)->cnI f N=cnI g N
 |0,_=>rfl
 |N+1,h=>by rw[Ykc,Ykc,Ylu N fun p hp=>h p (by omega),h N (by omega)]
theorem Yls {f g:Nat->Bool}:∀N,(∀p,p<N->f p=true->g p=true->False)->cnI (fun p=>f p||g p) N=cnI f N+cnI g N
 |0,_=>rfl
 |N+1,h=>by
  rw[Ykc,Ykc,Ykc,Yls N fun p hp=>h p (by omega)]
  have:=h N (by omega)
  cases e1:f N<;>cases e2:g N<;>simp_all<;>omega
theorem Yk9 (a m:Nat):∀N,cnI (fun p=>decide (a<=p/\p<a+m)) N=min N (a+m)-a
 |0=>by show 0=_;omega
 |N+1=>by
  rw[Ykc,Yk9 a m N];by_cases h:a<=N/\N<a+m
  · rw[if_pos (decide_eq_true h)];omega
  · rw[if_neg (by rw[decide_eq_false h];decide)];omega
def Yml (x:Nat × Nat) (p:Nat):Bool:=decide (x.1+1<=p/\p<x.1+1+2^x.2)
def inL (L:List (Nat × Nat)) (p:Nat):Bool:=L.any fun x=>Yml x p
theorem Ykz {x:Nat × Nat} {p:Nat}:Yml x p=true↔x.1+1<=p/\p<x.1+1+2^x.2:=by unfold Yml;exact decide_eq_true_iff
theorem Yk5 {L:List (Nat × Nat)} {p:Nat}:inL L p=true↔∃x∈L,x.1+1<=p/\p<x.1+1+2^x.2:=by
 unfold inL;rw[List.any_eq_true]
 exact⟨fun⟨x,h,k⟩=>⟨x,h,Ykz.1 k⟩,fun⟨x,h,k⟩=>⟨x,h,Ykz.2 k⟩⟩
theorem Yk8 {R:Zag} {g N:Nat} (hT:Til g R g) (hN:g<N):∀L:List (Nat × Nat),(∀x∈L,R x.1=some (x.2,true))->L.Pairwise (fun x y=>x.1≠y.1)->cnI (inL L) N=(L.map fun x=>2^x.2).sum
 |[],_,_=>by
  have:∀N,cnI (inL []) N=0:=fun N=>by
   induction N with
   |zero=>rfl
   |succ N ih=>rw[Ykc,ih];rfl
  exact this N
 |x::L,h,hd=>by
  obtain⟨d1,d2⟩:=List.pairwise_cons.1 hd;have e:cnI (inL (x::L)) N=cnI (fun p=>Yml x p||inL L p) N:=Ylu N fun p _=>by unfold inL;rw[List.any_cons]
  have hx:=h x (by simp);have ha:=hT.al _ _ _ hx;rw[e,Yls N fun p _ h1 h2=>?_,Yk8 hT hN L (fun y hy=>h y (List.mem_cons_of_mem _ hy)) d2,List.map_cons,List.sum_cons]
  · have:=Yk9 (x.1+1) (2^x.2) N
    rw[show cnI (fun p=>Yml x p) N=cnI (fun p=>decide (x.1+1<=p/\p<x.1+1+2^x.2)) N from rfl,this];omega
  · obtain⟨a1,a2⟩:=Ykz.1 h1
    obtain⟨y,hy,b1,b2⟩:=Yk5.1 h2
    have:=Zid hT hx (h y (List.mem_cons_of_mem _ hy)) (d1 y hy)
    unfold adr at this;omega
theorem Ylr {R:Zag} {g n:Nat} (hT:Til g R g) (hn:g<=n) {L:List (Nat × Nat)} (h:∀x∈L,R x.1=some (x.2,true)) (hd:L.Pairwise (fun x y=>x.1≠y.1)) (hA:∀i k,R i=some (k,true)->(i,k)∈L):
 Ykk (stT R g n (Zbi R g).length) 3=(L.map fun x=>2^x.2).sum:=by
 rw[show stT R g n (Zbi R g).length=stA R g n from rfl,Ymu,<-Yk8 (N:=n+1) hT (by omega) L h hd];refine Ylu _ fun p hp=>?_
 have h3:=Yko hT hn (p:=p) (by omega);cases e:inL L p with
 |true=>
  obtain⟨x,hx,a1,a2⟩:=Yk5.1 e;rw[h3.2 ⟨x.1,x.2,h x hx,a1,a2⟩];rfl
 |false=>
  refine decide_eq_false fun c=>?_
  obtain⟨i,k,f,a1,a2⟩:=h3.1 (by omega);rw[Yk5.2 ⟨(i,k),hA i k f,a1,a2⟩]at e;cases e
def Ymr (hs:List Hd):List (Nat × Nat):=hs.map fun c=>(c.a.toNat/4096-1,c.o.toNat)
def Yl4 (q:Nat->List Nat):Nat->List (Nat × Nat)
 |0=>[]
 |k+1=>Yl4 q k++(q k).map fun p=>(p-1,k)
theorem Yki {q:Nat->List Nat} {x:Nat × Nat}:∀{N:Nat},x∈Yl4 q N↔x.2<N/\∃p∈q x.2,x.1=p-1
 |0=>by simp[Yl4]
 |N+1=>by
  unfold Yl4;rw[List.mem_append,Yki,List.mem_map]
  constructor
  · rintro (⟨h1,h2⟩|⟨p,h1,rfl⟩)
    · exact⟨by omega,h2⟩
    · exact⟨by show N<N+1;omega,p,h1,rfl⟩
  · rintro ⟨h1,p,h2,h3⟩
    by_cases e:x.2=N
    · right
      subst e
      exact⟨p,h2,Prod.ext h3.symm rfl⟩
    · exact .inl ⟨by omega,p,h2,h3⟩
theorem Yla (q:Nat->List Nat):∀N,((Yl4 q N).map fun x=>2^x.2).sum=Zci q N
 |0=>rfl
 |N+1=>by
  unfold Yl4 Zci;rw[List.map_append,List.sum_append,Yla q N,List.map_map]
  have:∀l:List Nat,(l.map ((fun x:Nat × Nat=>2^x.2)∘fun p=>(p-1,N))).sum=l.length*2^N:=fun l=>by
   induction l with
   |nil=>simp
   |cons a l ih=>rw[List.map_cons,List.sum_cons,ih,List.length_cons,Nat.add_mul];show 2^N+_=_;omega
  rw[this]
section
variable {n g K:Nat} {R:Zag} {q:Nat->List Nat} {hs:List Hd} {s:ASt}
theorem PyS.Ykm (h:PyS n g K R q hs s) {k p:Nat} (hk:k<5) (hp:p∈q k):R (p-1)=some (k,true)/\2<=p:=by
 obtain⟨i,rfl,f⟩:=h.rc.tk k hk p hp;rw[Nat.add_sub_cancel_left]
 refine⟨f,?_⟩
 by_cases c:i=0
 · subst c;exact absurd ⟨k,hk,hp⟩ h.vq
 · omega
theorem Yku (h:PyS n g K R q hs s):Ykk (stT R g n (Zbi R g).length) 3=1+(hs.map fun c=>2^c.o.toNat).sum+Zci q 5:=by
 have hgn:=h.rc.bu.gG
 have key:∀c∈hs,∃i k,(c.a.toNat/4096-1,c.o.toNat)=((i,k):Nat × Nat)/\R i=some (k,true)/\i≠0/\¬InQ q (1+i)/\c.a=(adr i:Int):=fun c hc=>by
  obtain⟨i,k,u,rfl,f1,f2,f3,_⟩:=h.ow c hc
  refine⟨i,k,?_,f2,f1,f3,rfl⟩
  show((adr i:Int).toNat/4096-1,(k:Int).toNat)=(i,k)
  rw[Int.toNat_natCast,Int.toNat_natCast];unfold adr;rw[Nat.mul_div_cancel _ (by omega),Nat.add_sub_cancel_left]
 rw[Ylr (L:=(0,0)::(Ymr hs++Yl4 q 5)) h.rc.bu.ti (by omega) ?_ ?_ ?_]
 · rw[List.map_cons,List.sum_cons,List.map_append,List.sum_append,Yla]
   unfold Ymr;rw[List.map_map];show 1+(_+_)=_;rw[Nat.add_assoc];rfl
 · intro x hx
   rcases List.mem_cons.1 hx with rfl|hx
   · exact h.v0
   · rcases List.mem_append.1 hx with hx|hx
     · obtain⟨c,hc,rfl⟩:=List.mem_map.1 hx
       obtain⟨i,k,e,f,_⟩:=key c hc;rw[e];exact f
     · obtain⟨h1,p,h2,h3⟩:=Yki.1 hx
       rw[h3];exact(h.Ykm h1 h2).1
 · refine List.pairwise_cons.2 ⟨fun y hy=>?_,List.pairwise_append.2 ⟨?_,?_,fun x hx y hy=>?_⟩⟩
   · rcases List.mem_append.1 hy with hy|hy
     · obtain⟨c,hc,rfl⟩:=List.mem_map.1 hy
       obtain⟨i,k,e,f,h0,_⟩:=key c hc;rw[e];exact fun c=>h0 c.symm
     · obtain⟨h1,p,h2,h3⟩:=Yki.1 hy
       have:=(h.Ykm h1 h2).2
       show(0:Nat)≠y.1
       omega
   · unfold Ymr
     refine List.pairwise_map.2 ((List.Pairwise.and_mem.1 h.nd).imp fun{a b} ⟨ha,hb,hne⟩ e=>hne ?_);obtain⟨i,k,e1,_,_,_,a1⟩:=key a ha;obtain⟨j,l,e2,_,_,_,a2⟩:=key b hb;rw[e1,e2]at e
     have:i=j:=e
     rw[a1,a2,this]
   · have:∀N,N<=5->(Yl4 q N).Pairwise (fun x y=>x.1≠y.1):=fun N=>by
      induction N with
      |zero=>intro _;exact .nil
      |succ N ih=>
       intro hN;unfold Yl4;refine List.pairwise_append.2 ⟨ih (by omega),?_,fun x hx y hy e=>?_⟩
       · refine List.pairwise_map.2 ((List.Pairwise.and_mem.1 (h.rc.bn.nd N (by omega))).imp fun{a b} ⟨ha,hb,hne⟩ e=>hne ?_)
         have:=(h.Ykm (by omega) ha).2;have:=(h.Ykm (by omega) hb).2
         have e:a-1=b-1:=e;omega
       · obtain⟨h1,p,h2,h3⟩:=Yki.1 hx
         obtain⟨p',h4,rfl⟩:=List.mem_map.1 hy;have a1:=(h.Ykm (show x.2<5 by omega) h2).1;have a2:=(h.Ykm (show N<5 by omega) h4).1;have e:x.1=p'-1:=e;rw[<-h3,e,a2]at a1
         have:=(Zbc a1).1
         omega
     exact this 5 (Nat.le_refl _)
   · obtain⟨c,hc,rfl⟩:=List.mem_map.1 hx
     obtain⟨i,k,e,f,h0,h1,_⟩:=key c hc;obtain⟨h4,p,h2,h3⟩:=Yki.1 hy;rw[e];intro e2;have e2:i=y.1:=e2
     have:=(h.Ykm h4 h2).2
     exact h1 ⟨y.2,h4,by rw[show 1+i=p by omega];exact h2⟩
 · intro i k f
   by_cases h0:i=0
   · subst h0
     rw[h.v0]at f
     have:=Zbc f
     rw[<-this.1];simp
   · rcases h.al i k f h0 with⟨j,hj,hm⟩|⟨c,hc,e⟩
     · have:=(h.Ykm hj hm).1
       rw[Nat.add_sub_cancel_left,f]at this
       have:=(Zbc this).1
       refine List.mem_cons_of_mem _ (List.mem_append.2 (.inr (Yki.2 ⟨by show k<5;omega,1+i,?_,by show i=1+i-1;omega⟩)));show 1+i∈q k;rw[this];exact hm
     · obtain⟨i',k',e1,f',_,_,a⟩:=key c hc
       have:i'=i:=Zmc (a.symm.trans e)
       subst this;rw[f]at f'
       have:=(Zbc f').1
       refine List.mem_cons_of_mem _ (List.mem_append.2 (.inl (List.mem_map.2 ⟨c,hc,?_⟩)));rw[e1,this]
end
end
section
open Go Go.RowKit Go.Shelf Go.Maps
theorem Ykt {A P n cap l:Nat} {s:ASt} {ps:List (Option Nat)} {p:Option Addr} {x z:World} {o:Obj} (h:ArX A s P ps p n cap x) (hl:x.heap[l]?=some o) (ho:o.isCells=false) (hg:x.grownBy z (some l)):ArX A s P ps p n cap z:=by
 have ne:∀{k:Nat} {c:Array Value} {T:TypeId} {fr:Nat × Nat},x.heap[k]?=some (.cells c T fr)->z.heap[k]?=some (.cells c T fr):=fun{k c T fr} hk=>
  (hg.block k (Array.getElem?_eq_some_iff.1 hk).1 (fun e=>by
   obtain rfl:k=l:=by simpa using e
   rw[hl]at hk;cases hk;cases ho)).trans hk
 exact{h with
  hd:=ne h.hd
  row:=ne h.row
  pg:=fun i b hb=>ne (h.pg i b hb)
  edges:=by
   rcases h.edges with h1|⟨b,off,h1,h2,h3⟩
   · exact .inl h1
   · refine .inr ⟨b,off,h1,Nat.lt_of_lt_of_le h2 hg.size,fun k hk=>?_⟩
     have h4:=h3 k hk;obtain⟨o2,ho2,hc2⟩:=cells_of_cell h4
     rw[World.cell?_of_block (w:=x) (a:=(aD b (off+k))) (hg.block b h2 (fun e=>by
      obtain rfl:b=l:=by simpa using e
      rw[hl]at ho2;cases ho2;rw[ho]at hc2;cases hc2))]
     exact h4}
theorem Ylz {A l:Nat} {s:ASt} {x z:World} {o:Obj} (h:On A s x) (hl:x.heap[l]?=some o) (ho:o.isCells=false) (hg:x.grownBy z (some l)):On A s z:=by
 obtain⟨P,ps,p,n,cap,h⟩:=h;exact⟨P,ps,p,n,cap,Ykt h hl ho hg⟩
theorem Yli {A l:Nat} {s:ASt} {w x z:World} {o:Obj} (k:Ze0 A w x) (h:On A s x) (hl:x.heap[l]?=some o) (ho:o.isCells=false) (hg:x.grownBy z (some l)) (hw:w.heap.size<=l):Ze0 A w z:=by
 obtain⟨P,ps,p,n,cap,h⟩:=h;have h2:=Ykt h hl ho hg
 exact⟨k.bel.grown hg k.bel.size (fun j hj=>by obtain rfl:l=j:=by simpa using hj
                                               exact hw),fun i hi=>k.own i ((Za0 h i).2 ((Za0 h2 i).1 hi)),fun i hi=>k.edg i ((Zbp h i).2 ((Zbp h2 i).1 hi))⟩
theorem Zib {l:Nat} {x z:World} {o:Obj} (hl:x.heap[l]?=some o) (ho:o.isCells=false) (hg:x.grownBy z (some l)) {a:Addr} {v:Value} (h:x.cell? a=some v):z.cell? a=some v:=by
 obtain⟨o2,ho2,hc2⟩:=cells_of_cell h
 exact(World.cell?_of_block (w:=x) (a:=a) (hg.block a.block (Array.getElem?_eq_some_iff.1 ho2).1 (fun e=>by
  obtain rfl:a.block=l:=by simpa using e
  rw[hl]at ho2;cases ho2;rw[ho]at hc2;cases hc2))).trans h
theorem Yke {l:Nat} {x z:World} {o:Obj} (hl:x.heap[l]?=some o) (ho:o.isCells=false) (hg:x.grownBy z (some l)) {k:Nat} {c:Array Value} {T:TypeId} {fr:Nat × Nat} (hk:x.heap[k]?=some (.cells c T fr)):z.heap[k]?=some (.cells c T fr):=
 (hg.block k (Array.getElem?_eq_some_iff.1 hk).1 (fun e=>by
  obtain rfl:k=l:=by simpa using e
  rw[hl]at hk;cases hk;cases ho)).trans hk
theorem Ylq {A l:Nat} {s:ASt} {x z:World} {o:Obj} (h:On A s x) (hl:x.heap[l]?=some o) (ho:o.isCells=false) (hg:x.grownBy z (some l)):(∀k,Zpx A z k->Zpx A x k)/\∀k,Ztr A z k->Ztr A x k:=by
 obtain⟨P,ps,p,n,cap,h⟩:=h;have h2:=Ykt h hl ho hg
 exact⟨fun k hk=>(Za0 h k).2 ((Za0 h2 k).1 hk),fun k hk=>(Zbp h k).2 ((Zbp h2 k).1 hk)⟩
theorem Zbb.grown {A l b:Nat} {s:ASt} {x z:World} {o:Obj} (hm:Zbb A b x) (h:On A s x) (hl:x.heap[l]?=some o) (ho:o.isCells=false) (hg:x.grownBy z (some l)):Zbb A b z:=by
 obtain⟨h1,h2⟩:=Ylq h hl ho hg
 exact⟨Nat.lt_of_lt_of_le hm.lt hg.size,fun k=>hm.own (h1 _ k),fun k=>hm.edg (h2 _ k)⟩
section
variable {D n Q B A g K l:Nat} {R:Zag} {q:Nat->List Nat} {hs:List Hd} {s:ASt} {cs:Array Value} {w0 x z:World} {o:Obj} {op:Option Addr} {on oc:Nat}
theorem RcV.grown (h:RcV Q B A n 4096 s x) (hl:x.heap[l]?=some o) (ho:o.isCells=false) (hg:x.grownBy z (some l)):RcV Q B A n 4096 s z:=
 ⟨⟨Ylz h.1.1 hl ho hg,h.1.2.1,Yke hl ho hg h.1.2.2⟩,Yke hl ho hg h.2⟩
theorem Zof.grown {v:Value} (h:Zof x v hs) (hl:x.heap[l]?=some o) (ho:o.isCells=false) (hg:x.grownBy z (some l)):Zof z v hs:=by
 rcases h with e|⟨b,cap,c,fr,e1,e2,e3⟩
 · exact .inl e
 · exact .inr ⟨b,cap,c,fr,e1,Yke hl ho hg e2,fun j hj=>by
    obtain⟨a0,a1,a2,a3⟩:=e3 j hj
    exact⟨Zib hl ho hg a0,Zib hl ho hg a1,Zib hl ho hg a2,Zib hl ho hg a3⟩⟩
theorem PR.grown (h:PR D n Q B A g K R q hs s cs w0 x) (hl:x.heap[l]?=some o) (ho:o.isCells=false) (hg:x.grownBy z (some l)) (hw:w0.heap.size<=l):PR D n Q B A g K R q hs s cs w0 z:=by
 have hb:=Yli h.bs h.rv.1.1 hl ho hg hw;obtain⟨u,c,P,nn,C,op,on,oc,h1,h2,h3,h4⟩:=h.dw
 refine⟨h.rv.grown hl ho hg,h.py,⟨u,c,P,nn,C,op,on,oc,h1,{h2 with rn:=?_,qa:=fun k hk=>?_,ho:=h2.ho.grown hl ho hg},fun k hk hq b off e=>(h3 k hk hq b off e).grown h.rv.1.1 hl ho hg,h4⟩,⟨fun v hv=>?_,h.fr.nd,Zam.Zo6 hb⟩,hb⟩
 · rcases h2.rn with e|⟨g,e1,e2,e3⟩
   · exact .inl e
   · exact .inr ⟨g,e1,Nat.lt_of_lt_of_le e2 hg.size,fun j hj=>by
      obtain⟨a0,a1,a2⟩:=e3 j hj
      exact⟨Zib hl ho hg a0,Zib hl ho hg a1,Zib hl ho hg a2⟩⟩
 · rcases h2.qa k hk with e|⟨b,off,e1,e2,e3⟩
   · exact .inl e
   · exact .inr ⟨b,off,e1,Nat.lt_of_lt_of_le e2 hg.size,fun j hj=>Zib hl ho hg (e3 j hj)⟩
 · obtain⟨a1,a2,a3,a4⟩:=h.fr.bs v hv
   exact⟨Yke hl ho hg a1,a2.grown h.rv.1.1 hl ho hg,a3,a4⟩
end
theorem Ymv:Keyed Tryz.prog 3:=int_keyed Tryz.underlying3
theorem Yl6 (w:World):(zeroValue 3).run Tryz.prog w=.ok (iV 0) w:=by kernel_rfl
structure MpI (b k:Nat) (F:Nat->Nat) (x:World) (D:DataW Unit):Prop where
 own:x.ownsMap Tryz.prog 3 (plainElem Tryz.prog 3) b k D
 map:IsMap D
 rd:∀h:Nat,D.atKey (.int .i64 h) (.lit (.int .i64 0))=.lit (.int .i64 (F h:Int))
theorem Yk0 {a:Nat} (ha:a<9223372036854775808):(Lit.int .i64 (a:Int)).wf=true:=by
 have e1:IntKind.i64.min= -9223372036854775808:=by decide
 have e2:IntKind.i64.max=9223372036854775807:=by decide
 simp only[Lit.wf,e1,e2]
 simp;omega
section
variable {b k:Nat} {F:Nat->Nat} {x z:World} {D:DataW Unit}
theorem MpI.block (h:MpI b k F x D):∃o,x.heap[b]?=some o/\o.isCells=false:=by
 obtain⟨es,cl,hb,_⟩:=h.own
 exact⟨_,hb,rfl⟩
theorem MpI.below (h:MpI b k F x D) (hb:Below x.heap.size x z):MpI b k F z D:=
 ⟨h.own.kept (show x.grownBy z none from⟨hb.os,hb.tape,hb.output,hb.size,fun k hk _=>hb.block k hk⟩) (by simp),h.map,h.rd⟩
theorem MpI.put (h:MpI b k F x D) (hk:k<1000) (t:TypeId) (ht:Tryz.prog.underlying t=some (.map 3 3)) (hh v:Nat) (hb:hh<9223372036854775808) (hv:v<9223372036854775808):
 ∃z,(Instr.mapUpdate t (.map (some b)) (.int .i64 hh) (.int .i64 v)).run Tryz.prog x=.ok () z/\x.grownBy z (some b)/\MpI b (k+1) (fun y=>if y=hh then v else F y) z (D.put (.int .i64 hh) (.lit (.int .i64 v))):=by
 obtain⟨z,h1,h2,h3⟩:=h.own.update Ymv ht (by unfold maxLen;omega) (keyOf_int_mk Tryz.underlying3 (Yk0 hb)) (plainElem_int Tryz.underlying3 (Yk0 hv))
 refine⟨z,h1,h3,h2,?_,fun y=>?_⟩
 · obtain⟨es,rfl⟩:=h.map
   exact⟨_,rfl⟩
 · by_cases e:y=hh
   · subst e
     rw[if_pos rfl,atKey_put_same h.map (by trivial)]
   · have ne:(Lit.int .i64 (y:Int))≠(Lit.int .i64 (hh:Int)):=fun c=>e (by
      have h9:(y:Int)=(hh:Int):=by simpa using c
      omega)
     rw[if_neg e,atKey_put_other ne];exact h.rd y
theorem MpI.look (h:MpI b k F x D) (t:TypeId) (ht:Tryz.prog.underlying t=some (.map 3 3)) (hh:Nat) (hb:hh<9223372036854775808):
 (Instr.lookup t (.map (some b)) (iV hh) false).run Tryz.prog x=.ok (iV (F hh:Int)) x:=by
 obtain⟨c,h1,h2,h3⟩:=h.own.lookup_int Ymv ht Tryz.underlying3 (Yl6 x) (keyOf_int_mk Tryz.underlying3 (Yk0 hb));rw[h.rd hh]at h2
 have e:c=(F hh:Int):=by
  simp only[DataW.lit.injEq,Lit.int.injEq,true_and]at h2;exact h2.symm
 rw[e]at h1;exact h1
theorem MpI.made (x:World):MpI x.heap.size 0 (fun _=>0) (x.alloc (.map #[] 0)) (.map []):=⟨World.ownsMap_made _ _ _ _,⟨_,rfl⟩,fun h=>rfl⟩
end
end
section
open Go Go.RowKit Go.Shelf Go.Maps
def inC (c:Hd) (p:Nat):Prop:=c.a.toNat/4096<=p/\p<c.a.toNat/4096+2^c.o.toNat
def vis (hs:List Hd) (j kk p:Nat):Prop:=(∃i,i<j/\inC (hs.getD i hdZ) p)\/((hs.getD j hdZ).a.toNat/4096<=p/\p<(hs.getD j hdZ).a.toNat/4096+kk)
def sO (hs:List Hd) (j:Nat):Nat:=((hs.take j).map fun c=>2^c.o.toNat).sum
theorem Ymb {hs:List Hd} {j:Nat} (h:j<hs.length):sO hs (j+1)=sO hs j+2^(hs.getD j hdZ).o.toNat:=by
 unfold sO;rw[List.take_add_one,List.map_append,List.sum_append,List.getD_eq_getElem?_getD,List.getElem?_eq_getElem h];simp
theorem Ymk (hs:List Hd) (j:Nat):sO hs j<=(hs.map fun c=>2^c.o.toNat).sum:=by
 have h:=List.take_append_drop j hs
 conv=>rhs;rw[<-h]
 unfold sO;rw[List.map_append,List.sum_append];omega
section
variable {n g K:Nat} {R:Zag} {q:Nat->List Nat} {hs:List Hd} {s:ASt}
theorem PyS.Ymj (h:PyS n g K R q hs s):1+(hs.map fun c=>2^c.o.toNat).sum+Zci q 5<=n+1:=by
 have:=Yku h
 have h2:=Yk1 (stT R g n (Zbi R g).length) 3;rw[Zus]at h2;omega
theorem Yl9 (h:PyS n g K R q hs s) {j kk:Nat} (hj:j<hs.length) (hk:kk<2^(hs.getD j hdZ).o.toNat):¬vis hs j kk ((hs.getD j hdZ).a.toNat/4096+kk):=by
 rintro (⟨i,hi,h1,h2⟩|⟨h1,h2⟩)
 · have hil:i<hs.length:=by omega
   have mi:hs.getD i hdZ∈hs:=by rw[List.getD_eq_getElem?_getD,List.getElem?_eq_getElem hil];exact List.getElem_mem _
   have mj:hs.getD j hdZ∈hs:=by rw[List.getD_eq_getElem?_getD,List.getElem?_eq_getElem hj];exact List.getElem_mem _
   have hne:(hs.getD i hdZ).a≠(hs.getD j hdZ).a:=by
    have:=List.pairwise_iff_getElem.1 h.nd i j hil hj hi
    rw[List.getD_eq_getElem?_getD,List.getElem?_eq_getElem hil,List.getD_eq_getElem?_getD,List.getElem?_eq_getElem hj];exact this
   obtain⟨a,k,u,e,f2,f3,_⟩:=h.ow _ mi;obtain⟨b,l,v,e',f2',f3',_⟩:=h.ow _ mj;rw[e]at h1 h2 hne;rw[e']at h1 h2 hk hne;have hab:a≠b:=fun c=>hne (by rw[c])
   have:=Zid h.rc.bu.ti f3 f3' hab
   have e1:((adr a:Int)).toNat/4096=1+a:=by rw[Int.toNat_natCast];unfold adr;omega
   have e2:((adr b:Int)).toNat/4096=1+b:=by rw[Int.toNat_natCast];unfold adr;omega
   have h1:((adr a:Int)).toNat/4096<=((adr b:Int)).toNat/4096+kk:=h1;have h2:((adr b:Int)).toNat/4096+kk<((adr a:Int)).toNat/4096+2^((k:Int)).toNat:=h2;have hk:kk<2^((l:Int)).toNat:=hk;rw[Int.toNat_natCast k]at h2;rw[Int.toNat_natCast l]at hk;unfold adr at this;omega
 · omega
theorem Ykw {j kk p:Nat}:vis hs j (kk+1) p↔vis hs j kk p\/p=(hs.getD j hdZ).a.toNat/4096+kk:=by
 unfold vis
 constructor
 · rintro (h|⟨h1,h2⟩)
   · exact .inl (.inl h)
   · by_cases c:p=(hs.getD j hdZ).a.toNat/4096+kk
     · exact .inr c
     · exact .inl (.inr ⟨h1,by omega⟩)
 · rintro ((h|⟨h1,h2⟩)|h)
   · exact .inl h
   · exact .inr ⟨h1,by omega⟩
   · exact .inr ⟨by omega,by omega⟩
theorem Yk6 {j p:Nat}:vis hs (j+1) 0 p↔vis hs j (2^(hs.getD j hdZ).o.toNat) p:=by
 unfold vis inC
 constructor
 · rintro (⟨i,h1,h2⟩|⟨h1,h2⟩)
   · by_cases c:i=j
     · subst c;exact .inr h2
     · exact .inl ⟨i,by omega,h2⟩
   · omega
 · rintro (⟨i,h1,h2⟩|h)
   · exact .inl ⟨i,by omega,h2⟩
   · exact .inl ⟨j,by omega,h⟩
def VF (hs:List Hd) (j kk:Nat) (F:Nat->Nat):Prop:=∀p,(F p=1/\vis hs j kk p)\/(F p=0/\¬vis hs j kk p)
theorem VF.start:VF hs 0 0 fun _=>0:=fun p=> .inr ⟨rfl,by rintro (⟨i,h,_⟩|⟨h1,h2⟩)<;>omega⟩
theorem VF.step {j kk pg:Nat} {F:Nat->Nat} (h:VF hs j kk F) (e:pg=(hs.getD j hdZ).a.toNat/4096+kk):VF hs j (kk+1) fun y=>if y=pg then 1 else F y:=fun p=>by
 show((if p=pg then 1 else F p)=1/\_)\/((if p=pg then 1 else F p)=0/\_)
 by_cases c:p=pg
 · rw[if_pos c];exact .inl ⟨rfl,Ykw.2 (.inr (c.trans e))⟩
 · rw[if_neg c]
   rcases h p with⟨h1,h2⟩|⟨h1,h2⟩
   · exact .inl ⟨h1,Ykw.2 (.inl h2)⟩
   · exact .inr ⟨h1,fun d=>by
      rcases Ykw.1 d with d|d
      · exact h2 d
      · exact c (d.trans e.symm)⟩
theorem VF.next {j:Nat} {F:Nat->Nat} (h:VF hs j (2^(hs.getD j hdZ).o.toNat) F):VF hs (j+1) 0 F:=fun p=>by
 rcases h p with⟨h1,h2⟩|⟨h1,h2⟩
 · exact .inl ⟨h1,Yk6.2 h2⟩
 · exact .inr ⟨h1,fun d=>h2 (Yk6.1 d)⟩
end
theorem Ymc (cap:Int) (hcap: -9223372036854775808<=cap/\cap<=9223372036854775807) (p0:Option Addr) (c0:Nat) (acts:List Ycg) (hlen:acts.length<=9223372036854775807) (w:World) (h:Zpz w p0 acts):
 Calls Tryz.prog 4 #[iV cap,.slice p0 acts.length c0] w fun e w'=>e=.returned (.bool true)/\Below w.heap.size w w':=by
 have HACT:=hid h;clear h;go_enter Tryz.func4,Tryz.ntmps4;go_wp2_with fail
 refine(Yeq _).mono ?_
 rintro e w0 ⟨rfl,hb⟩;have HB0:=hid hb;clear hb;by_cases h60:(60:Int)<(acts.length:Int)
 · go_wp2_with fail
   go_ret
   exact⟨rfl,HB0.out⟩
 obtain⟨M,hM⟩:=eX ((if 60<cap then 60 else cap):Int);obtain⟨N,hN,hN3,hN60⟩:∃N:Nat,(if 3<M then M else 3)=(N:Int)/\3<=N/\N<=60:=⟨(if 3<M then M else 3).toNat,by split<;>omega,by split<;>omega,by split at hM<;>split<;>omega⟩
 have HLO:=hid fun X=>Ygh N hN3 hN60 X
 clear hN3 hN60;go_upto_region 6 with fail
 refine(HLO.out _).mono ?_
 rintro e w1 ⟨Q,B,A,n,R,s,v,hn,rfl,hl,hrf,hbs⟩;obtain⟨u,c,P,nn,C,op,on,oc,rfl, -⟩:=hl.dw;have HP0:=hid (PR.start hl (hbs.Zhz HB0.out) rfl);obtain⟨ln,ht⟩:=eX ((tkT R 1).length);obtain⟨ri,hri⟩:=eX (rfI s);rw[ht,hri]at HP0⊢;clear ht hri hl hrf hbs hn HLO hN hM;go_upto_region 6 with fail;change Code.wp _ _ _ _ (w1.alloc (.cells (rqA (n:Int) ((1:Nat):Int) ri ((16:Nat):Int) (.slice u ln c) P nn C (.slice op on oc)) 33));obtain⟨x1,hx1⟩:∃x,w1.alloc (.cells (rqA (n:Int) ((1:Nat):Int) ri ((16:Nat):Int) (.slice u ln c) P nn C (.slice op on oc)) 33)=x:=⟨_,rfl⟩
 obtain⟨D,hD⟩:=eX w1.heap.size;rw[hx1,hD]at HP0;rw[hx1,hD];clear hx1 hD;have HST:=hid HP0.out;clear HP0;obtain⟨len,hle⟩:=eX acts.length;have HL:=hid hle;rw[hle]at hlen h60⊢;clear hle;go_wp2_with fail
 go_loopw[32] (fun s32 wr=>∃i g K R q hs s cs,i<=len/\s32=iV ((i:Nat):Int)/\PR D n Q B A g K R q hs s cs w wr) (fun s32 _=>len-(intOf s32).toNat)
 case atStart=>exact⟨0,_,_,_,_,_,_,_,Nat.zero_le _,rfl,HST.out⟩
 case round=>
  clear HST;obtain⟨i,g0,K0,R0,q0,hs0,s0,cs0,hi,rfl,hv⟩:=hrel;have HV:=hid hv;clear hv;by_cases hlt:i<len
  · obtain⟨b,off,rfl,hbl,d,k,nn,hc0,hc1,hc2,hkk⟩:∃b off,p0=some (aD b off)/\b<w.heap.size/\∃d k nn,w.cell? (aD b (off+i*3))=some (.int .u8 d)/\w.cell? (aD b (off+i*3+1))=some (iV k)/\w.cell? (aD b (off+i*3+2))=some (iV nn)/\(0<=d/\d<=255)/\(-9223372036854775808<=k/\k<=9223372036854775807)/\(-9223372036854775808<=nn/\nn<=9223372036854775807):=by
     rcases HACT.out with he|⟨b,off,e,hbl,hc⟩
     · have:=HL.out;rw[he]at this;simp at this;omega
     · obtain⟨⟨x0,x1,x2⟩,hok⟩:=hc i (by rw[HL.out];exact hlt)
       exact⟨b,off,e,hbl,_,_,_,x0,x1,x2,⟨hok.d0,hok.d1⟩,⟨hok.k0,hok.k1⟩,⟨hok.n0,hok.n1⟩⟩
    have HKK:=hid hkk;have HIL:Hid (i+1<=len):=hid hlt;have kk:∀j,wr.cell? (aD b j)=w.cell? (aD b j):=fun j=>World.cell?_of_block (HV.out.bs.bel.block _ hbl)
    have c0':=(kk _).trans hc0;have c1':=(kk _).trans hc1;have c2':=(kk _).trans hc2;clear kk hc0 hc1 hc2 hkk;go_upto_region 11 with fail;change Code.wp _ _ _ _ (wr.alloc (.cells #[.int .u8 d,iV k,iV nn] 44));have hpb:=HV.out.below (Zaj wr (.cells #[.int .u8 d,iV k,iV nn] 44));have hca:=Zab wr (.cells #[.int .u8 d,iV k,iV nn] 44);obtain⟨y1,hy⟩:∃y,wr.alloc (.cells #[.int .u8 d,iV k,iV nn] 44)=y:=⟨_,rfl⟩
    obtain⟨E,hE⟩:=eX wr.heap.size;rw[hE,hy]at hca;rw[hy]at hpb;rw[hE,hy];clear hE hy c0' c1' c2' HV;have HP:=hid hpb;have HC:=hid hca;clear hpb hca;obtain⟨u0,t0,P0,nn0,C0,op0,on0,oc0,he0, -⟩:=HP.out.dw;have hc0:=Value.agg.inj he0;subst hc0;clear he0;obtain⟨ln0,hl0⟩:∃ln,(tkT R0 g0).length=ln:=⟨_,rfl⟩
    obtain⟨ri0,hr0⟩:∃ri,rfI s0=ri:=⟨_,rfl⟩
    rw[hl0,hr0]at HP;have HDO:=hid (ldo HP.out.rv HP.out.py HP.out.lt HP.out.dw d k nn HKK.out.1.1 HKK.out.1.2 HKK.out.2.1.1 HKK.out.2.1.2 HKK.out.2.2.1 HKK.out.2.2.2);clear hl0 hr0;obtain⟨q0',q1',q2',q3',q4',q5',q6',q7',q8',q9',q10',q11'⟩:=Zaf HP.out.fr.at0;have c0:=(Zaa HC.out 0).1;have c1:=(Zaa HC.out 1).1;have c2:=(Zaa HC.out 2).1
    simp only[List.getElem?_toArray,List.getElem?_cons_zero,List.getElem?_cons_succ]at c0 c1 c2;go_upto_region 12 with fail;refine HDO.out.mono ?_;rintro e x2 ⟨g2,K2,R2,q2,hs2,s2,v2,rfl,hv2,hp2,hd2,hg2,hcq2⟩;obtain⟨u2,t2,P2,nn2,C2,op2,on2,oc2,rfl,hx2⟩:=hd2;have HP2:=hid (HP.out.act hv2 hp2 ⟨u2,t2,P2,nn2,C2,op2,on2,oc2,rfl,hx2⟩ hg2);obtain⟨ln2,hl2⟩:∃ln,(tkT R2 g2).length=ln:=⟨_,rfl⟩
    obtain⟨ri2,hr2⟩:∃ri,rfI s2=ri:=⟨_,rfl⟩
    rw[hl2,hr2]at HP2⊢;clear hl2 hr2 hv2 hp2 hx2 hg2 hcq2 HP HDO HC q0' q1' q2' q3' q4' q5' q6' q7' q8' q9' q10' q11' c0 c1 c2;obtain⟨o0,o1,o2,o3,o4,o5,o6,o7,o8,o9,o10,o11⟩:=Zaf HP2.out.fr.at0;obtain⟨z0,z1,z2,z3,z4,z5,z6,z7,z8,z9,z10,z11⟩:=Zap HP2.out.fr.at0;have HP5:=hid (HP2.out.store (vs:=(rqL (n:Int) (g2:Int) ri2 (K2:Int) (.slice u2 ln2 t2) P2 nn2 C2 (.slice op2 on2 oc2))) rfl o2);clear HP2;go_upto_region 12 with fail;change Code.wp _ _ _ _ (stR x2 D (rqL (n:Int) (g2:Int) ri2 (K2:Int) (.slice u2 ln2 t2) P2 nn2 C2 (.slice op2 on2 oc2)) 0);obtain⟨x5,hx5⟩:=eX (stR x2 D (rqL (n:Int) (g2:Int) ri2 (K2:Int) (.slice u2 ln2 t2) P2 nn2 C2 (.slice op2 on2 oc2)) 0);rw[hx5]at HP5⊢;clear hx5 o0 o1 o2 o3 o4 o5 o6 o7 o8 o9 o10 o11 z0 z1 z2 z3 z4 z5 z6 z7 z8 z9 z10 z11;have hmm:= @run_makeMap Tryz.prog;have HMP0:=hid (MpI.made x5);have HP6:=hid (HP5.out.below (Zaj x5 (.map #[] 0)));obtain⟨u3,t3,P3,nn3,C3,op3,on3,oc3,he3,hi3, -⟩:=HP6.out.dw;have HHO6:=hid hi3.ho;have HHN:=hid hi3.hn
    have hon:on3<=1000:=by rw[hi3.hn];exact hi3.hl
    have HON:=hid hon;have hfr:=HP6.out.fr
    have e11:(x5.alloc (.map #[] 0)).cell? (aD D 11)=some (.slice op3 on3 oc3):=by
     have hc3:=Value.agg.inj he3;rw[(Zaa hfr.at0 _).1,hc3];rfl
    have HWB:Hid (w.heap.size<=x5.heap.size):=hid HP5.out.bs.bel.size;clear he3 hi3 hfr hon HP5;go_upto_region 14 with fail;change Code.wp _ _ _ _ (x5.alloc (.map #[] 0));obtain⟨x6,hx6⟩:∃x,x5.alloc (.map #[] 0)=x:=⟨_,rfl⟩
    obtain⟨b0,hb0⟩:∃b,x5.heap.size=b:=⟨_,rfl⟩
    rw[hx6]at HMP0 HP6 HHO6 e11;rw[hb0]at HMP0 HWB;rw[hx6,hb0];clear hx6 hb0 hmm;have HSM:=hid HP6.out.py.Ymj;have HN8:Hid (n<=80):=hid (by have:=HP6.out.py.rc.bu.c2;omega);have hon:=HON.out;go_wp2_with fail
    go_loopw[47,11] (fun s47 s11 wr=>∃(j m:Nat) (F:Nat->Nat) (Dm:DataW Unit),j<=on3/\s47=iV j/\s11=iV ((1+sO hs2 j:Nat):Int)/\m<=sO hs2 j/\VF hs2 j 0 F/\MpI b0 m F wr Dm/\Zof wr (.slice op3 on3 oc3) hs2/\PR D n Q B A g2 K2 R2 q2 hs2 s2 (rqL (n:Int) (g2:Int) ri2 (K2:Int) (.slice u2 ln2 t2) P2 nn2 C2 (.slice op2 on2 oc2)).toArray w wr) (fun s47 _ _=>on3-(intOf s47).toNat)
    case atStart=>exact⟨0,0,_,_,Nat.zero_le _,rfl,rfl,Nat.zero_le _,VF.start,HMP0.out,HHO6.out,HP6.out⟩
    case round=>
     clear HMP0 HHO6 HP6 e11;obtain⟨j,m,F,Dm,hj,rfl,rfl,hm,hvf,hmp,hho,hpr⟩:=hrel;have HPY:=hid hpr.py;have hsm1:=Ymk hs2 j;by_cases hjl:j<on3
     · have hjc:(j:Int)<(on3:Int):=by omega
       have HJL:=hid hjl;have hhj:j<hs2.length:=by rw[<-HHN.out];exact hjl
       have HHJ:=hid hhj;have HVF:=hid hvf;have HM:=hid hm
       rcases hho with⟨_,e⟩|⟨rb,cap2,cs,fr,e,hrb,hrc⟩
       · rw[e]at hhj;exact absurd hhj (Nat.not_lt_zero _)
       · have e2:=e
         simp only[Value.slice.injEq]at e;obtain⟨rfl, -, -⟩:=e;have hho:Zof wr (.slice (some (aD rb 0)) on3 oc3) hs2:=.inr ⟨rb,cap2,cs,fr,e2,hrb,hrc⟩;obtain⟨r0,r1,r2,r3⟩:=hrc j hhj;have hmem:hs2.getD j hdZ∈hs2:=by rw[List.getD_eq_getElem?_getD,List.getElem?_eq_getElem hhj];exact List.getElem_mem _
         obtain⟨ic,oc2',uc,ec,f1,f2, -⟩:=HPY.out.ow _ hmem;have had:=HPY.out.rc.bu.addr f2;have HEC:=hid ec;have hpa:(hs2.getD j hdZ).a.toNat/4096=1+ic:=by rw[ec];show((adr ic:Int)).toNat/4096=_;rw[Int.toNat_natCast];unfold adr;omega
         have hpo:2^(hs2.getD j hdZ).o.toNat=2^oc2':=by rw[ec];show 2^((oc2':Int)).toNat=_;rw[Int.toNat_natCast]
         have hsj:=Ymb hhj;have hsj2:=Ymk hs2 (j+1);rw[ec]at r0 r1 r2 r3
         simp only at r0 r1 r2 r3
         obtain⟨P,hP⟩:=eX (2^oc2');rw[hP]at hpo;rw[hpo]at hsj;have hPb:P<=80:=by have:=HSM.out;have:=HN8.out;omega
         have h2k:((2:Int)^oc2')=(P:Int):=by rw[<-hP];push_cast;rfl
         have HSH:Hid (IntKind.i64.wrap ((2:Int)^oc2')=(P:Int)/\IntKind.i64.wrap ((2:Int)^min oc2' 64)=(P:Int)):=hid ⟨by rw[h2k,IntKind.wrap_i64];omega,by rw[show min oc2' 64=oc2' by omega,h2k,IntKind.wrap_i64];omega⟩;obtain⟨a,ha⟩:=eX ((adr ic:Int):Int);rw[ha]at r0;have HQ:Hid (Int.tdiv a 4096=((1+ic:Nat):Int)):=hid (by rw[<-ha];unfold adr;rw[Int.tdiv_eq_ediv_of_nonneg (by omega)];omega);obtain⟨pb,hpb⟩:=eX (1+ic);rw[hpb]at HQ hpa;have HPB:Hid (pb<=100):=hid (by have:=HN8.out;have:=HPY.out.rc.bu.gG;omega);have HMS:Hid (sO hs2 (j+1)=sO hs2 j+P/\sO hs2 (j+1)<=80/\P<=80):=hid ⟨hsj,by have:=HSM.out;have:=HN8.out;omega,hPb⟩;have HPA:=hid hpa;have HPO:=hid hpo
         have HPR:=hid (hpr.below (Zaj wr (.cells (cC a (oc2':Int) (uc:Int) 0) 65)));have HHO:=hid (hho.below (Zaj wr (.cells (cC a (oc2':Int) (uc:Int) 0) 65)));have HMP:=hid (hmp.below (Zaj wr (.cells (cC a (oc2':Int) (uc:Int) 0) 65)));have hch:=Zab wr (.cells (cC a (oc2':Int) (uc:Int) 0) 65);clear hrc hrb hho hpr hmp e2 hmem ec f1 f2 had hpa hpo hsj hsj2 hPb h2k ha hP hpb hsm1 hvf hm;go_upto_region 17 with fail;change Code.wp _ _ _ _ (wr.alloc (.cells (cC a (oc2':Int) (uc:Int) 0) 65));obtain⟨x7,hx7⟩:∃x,wr.alloc (.cells (cC a (oc2':Int) (uc:Int) 0) 65)=x:=⟨_,rfl⟩
         obtain⟨E7,hE7⟩:∃E,wr.heap.size=E:=⟨_,rfl⟩
         rw[hx7]at HPR HHO HMP hch⊢;rw[hE7]at hch⊢;clear hx7 hE7 r0 r1 r2 r3;have HCH:=hid hch;obtain⟨e0,e1,e2,e3⟩:=Zal hch;clear hch;have hsh:=HSH.out.1;have hsh2:=HSH.out.2
         go_wp2_with fail;clear hsh hsh2
         go_loopw[54] (fun s54 wr=>∃(kk m:Nat) (F:Nat->Nat) (Dm:DataW Unit),kk<=P/\s54=iV kk/\m<=sO hs2 j+kk/\VF hs2 j kk F/\MpI b0 m F wr Dm/\Zof wr (.slice (some (aD rb 0)) on3 oc3) hs2/\PR D n Q B A g2 K2 R2 q2 hs2 s2 (rqL (n:Int) (g2:Int) ri2 (K2:Int) (.slice u2 ln2 t2) P2 nn2 C2 (.slice op2 on2 oc2)).toArray w wr/\wr.heap[E7]?=some (.cells (cC a (oc2':Int) (uc:Int) 0) 65 (0,0))) (fun s54 _=>P-(intOf s54).toNat)
         case atStart=>exact⟨0,_,_,_,Nat.zero_le _,rfl,HM.out,HVF.out,HMP.out,HHO.out,HPR.out,HCH.out⟩
         case round=>
          clear HMP HHO HPR HCH HVF HM e0 e1 e2 e3;obtain⟨kk,m2,F2,Dm2,hkk,rfl,hm2,hvf2,hmp2,hho2,hpr2,hch2⟩:=hrel;obtain⟨e0,e1,e2,e3⟩:=Zal hch2;by_cases hkl:kk<P
          · have hkc:(kk:Int)<(P:Int):=by omega
            have HKL:=hid hkl;have hq:=HQ.out;have hms:=HMS.out;have HMS8:Hid (P<=80):=hid hms.2.2;have hpb:=HPB.out;obtain⟨pg,hpg⟩:=eX (pb+kk);have HA1:Hid (IntKind.i64.wrap ((pb:Int)+(kk:Int))=(pg:Int)):=hid (by rw[IntKind.wrap_i64];omega);have HA2:Hid (wrap64 ((pb:Int)+(kk:Int))=(pg:Int)):=hid ((IntWalk.wrap64_in _ ⟨by omega,by omega⟩).trans (by omega));have HQ1:Hid (IntKind.i64.wrap (Int.tdiv a 4096)=(pb:Int)):=hid (by rw[hq,IntKind.wrap_i64];omega);have HQ2:Hid (wrap64 (Int.tdiv a 4096)=(pb:Int)):=hid (by rw[hq];exact IntWalk.wrap64_in _ ⟨by omega,by omega⟩)
            have hF0:F2 pg=0:=by
             rcases hvf2 pg with⟨_,h⟩|⟨h,_⟩
             · have hh:=Yl9 HPY.out HHJ.out (kk:=kk) (by rw[HPO.out];exact hkl)
               rw[HPA.out,hpg]at hh;exact absurd h hh
             · exact h
            have hlk:=hmp2.look 62 Tryz.underlying62 pg (by omega);rw[hF0]at hlk;have hlk0:(Instr.lookup 62 (.map (some b0)) (iV pg) false).run Tryz.prog wr=.ok (iV 0) wr:=hlk;obtain⟨z,hrun,hgr,hmpz⟩:=hmp2.put (by omega) 62 Tryz.underlying62 pg 1 (by omega) (by omega);have hrun1:(Instr.mapUpdate 62 (.map (some b0)) (iV pg) (iV 1)).run Tryz.prog wr=.ok () z:=hrun;have hlz:=hmpz.look 62 Tryz.underlying62 pg (by omega);rw[if_pos rfl]at hlz;have hlz1:(Instr.lookup 62 (.map (some b0)) (iV pg) false).run Tryz.prog z=.ok (iV 1) z:=hlz;obtain⟨o,ho1,ho2⟩:=hmp2.block;have HPRZ:=hid (hpr2.grown ho1 ho2 hgr HWB.out);have HHOZ:=hid (hho2.grown ho1 ho2 hgr);have hchz:=Yke ho1 ho2 hgr hch2;have HCHZ:=hid hchz;have HMPZ:=hid hmpz;have HVFZ:=hid (hvf2.step (pg:=pg) (by rw[HPA.out,hpg]));have HM2:=hid hm2;clear hlk hrun hlz hF0 hmp2 hmpz hvf2 hpr2 hho2 hgr ho1 ho2 hch2 hpg hm2;have ha1:=HA1.out;have ha2:=HA2.out;have hq1:=HQ1.out;have hq2:=HQ2.out
            clear hms HMS;go_upto_region 21 with fail;obtain⟨z0,z1,z2,z3⟩:=Zal HCHZ.out;have hk80:=HMS8.out;go_wp2_with fail;go_roundw
            case rel=>exact⟨kk+1,m2+1,_,_,HKL.out,by have:=HKL.out;have:=HMS8.out;go_num,by have:=HM2.out;omega,HVFZ.out,HMPZ.out,HHOZ.out,HPRZ.out,HCHZ.out⟩
            case measure=>have:=HKL.out;have:=HMS8.out;simp[intOf];omega
          · have hkc:¬(kk:Int)<(P:Int):=by omega
            have hkP:kk=P:=by omega
            subst hkP;have hms:=HMS.out;have HVN:=hid (VF.next (by rw[HPO.out];exact hvf2));have HMP2:=hid hmp2;have HHO2:=hid hho2;have HPR2:=hid hpr2
            have HM3:Hid (m2<=sO hs2 (j+1)):=hid (by omega);have HSU:Hid (IntKind.i64.wrap (((1+sO hs2 j:Nat):Int)+(kk:Int))=((1+sO hs2 (j+1):Nat):Int)):=hid (by rw[IntKind.wrap_i64];omega);have HSU2:Hid (wrap64 (((1+sO hs2 j:Nat):Int)+(kk:Int))=((1+sO hs2 (j+1):Nat):Int)):=hid ((IntWalk.wrap64_in _ ⟨by omega,by omega⟩).trans (by omega));clear hmp2 hho2 hpr2 hvf2 hch2 hms hm2;obtain⟨n1,hn1⟩:=eX (((1+sO hs2 j:Nat):Int):Int);obtain⟨n2,hn2⟩:=eX (((1+sO hs2 (j+1):Nat):Int):Int);have HN2:=hid hn2;rw[hn1,hn2]at HSU HSU2;rw[hn1];clear hn1 hn2;have hsh:=HSH.out.1;have hsh2:=HSH.out.2
            have hsu:=HSU.out;have hsu2:=HSU2.out
            have hon:=HON.out;go_wp2_with fail;clear hsh hsh2 hsu hsu2
            refine⟨⟨j+1,m2,_,_,HJL.out,by first|rfl|(push_cast;rfl),by rw[HN2.out],HM3.out,HVN.out,HMP2.out,HHO2.out,HPR2.out⟩,?_⟩
            have:=HJL.out
            simp[intOf];omega
     · have hjc:¬(j:Int)<(on3:Int):=by omega
       have hjo:j=hs2.length:=by rw[<-HHN.out];omega
       have hcnt:=Yku HPY.out;have hsO:sO hs2 j=(hs2.map fun c=>2^c.o.toNat).sum:=by unfold sO;rw[hjo,List.take_length]
       rw[<-hsO]at hcnt;have hsm:=HSM.out;rw[<-hsO]at hsm;have hn8:=HN8.out;have HPR:=hid hpr;have HCT:=hid fun X (hX:RcV Q B A n 4096 s2 X)=>Ylv hX.1 HPY.out.rc.bu 3 (by omega)
       rw[hcnt]at HCT;have HSA:Hid (IntKind.i64.wrap (((1+sO hs2 j:Nat):Int)+((Zci q2 5:Nat):Int))=((1+sO hs2 j+Zci q2 5:Nat):Int)/\wrap64 (((1+sO hs2 j:Nat):Int)+((Zci q2 5:Nat):Int))=((1+sO hs2 j+Zci q2 5:Nat):Int)):=hid ⟨by rw[IntKind.wrap_i64];omega,(IntWalk.wrap64_in _ ⟨by omega,by omega⟩).trans (by omega)⟩;have HCA:=hid fun X (hX:RcV Q B A n 4096 s2 X)=>Zo0 hX HPY.out.rc
       obtain⟨n1,hn1⟩:=eX (((1+sO hs2 j:Nat):Int):Int);obtain⟨n2,hn2⟩:=eX (((1+sO hs2 j+Zci q2 5:Nat):Int):Int);obtain⟨cn,hcn⟩:=eX (((Zci q2 5:Nat):Int):Int);rw[hn1,hcn,hn2]at HSA;rw[hn2]at HCT;rw[hcn]at HCA;rw[hn1];have HRT:=hid fun X (hX:RcV Q B A n 4096 s2 X)=>Ymm hX.1 HPY.out.rc.bu
       obtain⟨⟨k0,k1,k2,k3,k4⟩, -⟩:=hpr.rv.all;clear hn1 hn2 hcn hcnt hsO hjo hsm hn8 hsm1 hpr hho hmp hvf hm;go_wp2_with fail
       refine(HCT.out _ HPR.out.rv).mono ?_
       rintro e x8 ⟨rfl,hb⟩;have HPR8:=hid (HPR.out.below hb);clear hb HPR HCT k0 k1 k2 k3 k4;go_wp2_with fail
       refine(HCA.out _ HPR8.out.rv).mono ?_
       rintro e x9 ⟨rfl,hb⟩;have HPR9:=hid (HPR8.out.below hb);clear hb HPR8 HCA;obtain⟨⟨k0,k1,k2,k3,k4⟩, -⟩:=HPR9.out.rv.all;have hsa:=HSA.out.1;have hsa2:=HSA.out.2
       go_wp2_with fail
       refine(HRT.out _ HPR9.out.rv).mono ?_
       rintro e xa ⟨rfl,hb⟩;have HPRa:=hid (HPR9.out.below hb);clear hb HPR9 HRT k0 k1 k2 k3 k4 hsa hsa2;go_wp2_with fail;go_roundw
       case rel=>exact⟨i+1,_,_,_,_,_,_,_,HIL.out,by go_num,HPRa.out⟩
       case measure=>have:=HIL.out;simp[intOf];omega
  · have hnl:¬(i:Int)<(len:Int):=by omega
    go_wp2_with fail
    go_ret
    exact⟨rfl,HV.out.bs.bel⟩
end
end Go.Proofs.YtgcidfenjlmljaaGreat.Bt
