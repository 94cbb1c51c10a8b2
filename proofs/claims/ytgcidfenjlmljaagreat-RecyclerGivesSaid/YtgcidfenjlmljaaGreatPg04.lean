import Derived.Test.YtgcidfenjlmljaaGreatPg03
import Derived.RangeFuncBox
import Derived.Test.YtgcidfenjlmljaaGreatPgR
set_option linter.unusedVariables false
set_option linter.unusedSimpArgs false
set_option maxRecDepth 100000
set_option maxHeartbeats 16000000
namespace Go.Proofs.YtgcidfenjlmljaaGreat.Bt
section
open Go Go.RowKit
theorem Zfq (w:World) (a b c:Array Value) (ta tb tc:TypeId):
 (((w.alloc (.cells a ta)).alloc (.cells b tb)).alloc (.cells c tc)).heap[w.heap.size]?=some (.cells a ta (0,0))/\
 (((w.alloc (.cells a ta)).alloc (.cells b tb)).alloc (.cells c tc)).heap[w.heap.size+1]?=some (.cells b tb (0,0))/\
 (((w.alloc (.cells a ta)).alloc (.cells b tb)).alloc (.cells c tc)).heap[w.heap.size+1+1]?=some (.cells c tc (0,0)):=by
 have s1:(w.alloc (.cells a ta)).heap.size=w.heap.size+1:=World.size_alloc _ _;have s2:((w.alloc (.cells a ta)).alloc (.cells b tb)).heap.size=w.heap.size+1+1:=by rw[World.size_alloc,s1]
 refine⟨?_,?_,?_⟩
 · rw[Below.heap_alloc _ _ _ (by omega),Below.heap_alloc _ _ _ (by omega)];exact World.alloc_heap_new w _
 · rw[Below.heap_alloc _ _ _ (by omega)];have:=World.alloc_heap_new (w.alloc (.cells a ta)) (.cells b tb);rwa [s1]at this
 · have:=World.alloc_heap_new ((w.alloc (.cells a ta)).alloc (.cells b tb)) (.cells c tc);rwa [s2]at this
theorem Zaa {w:World} {b:Nat} {c:Array Value} {t:TypeId} (h:w.heap[b]?=some (.cells c t (0,0))) (o:Nat):w.cell? (aD b o)=c[o]?/\w.frozen? (aD b o)=false:=by
 constructor
 · simp[World.cell?,h]
 · simp[World.frozen?,h]
theorem Tryz.Ya1:Tryz.prog.cellsOf 3=1:=by kernel_rfl
end
section
open Go Go.RowKit
theorem Ydm (x:Int):Zhl x<=1048576:=by unfold Zhl;omega
theorem Zkw {L:Nat} {es:List Nat} (g:Good L es) {fr:Int} {inn:Bool} (h:Zcp L es fr inn=true):
 hasB L es (Zb3 L es fr inn)=inn/\fr<=Zb3 L es fr inn/\0<=Zb3 L es fr inn/\Zb3 L es fr inn<L/\∀j:Int,fI fr<=j->j<Zb3 L es fr inn->hasB L es j= !inn:=by
 have hf0:0<=fI fr/\fr<=fI fr:=by unfold fI;split<;>omega
 unfold Zb3;rw[h];unfold Zcp at h;have hcl:=Zdo es (fI fr+1);by_cases hi:(Zcm (cnt es (fI fr+1))==inn)=true
 · rw[hi]
   have hlt:fI fr<L:=by simpa[hi]using h
   have hi':Zcm (cnt es (fI fr+1))=inn:=by simpa using hi
   exact⟨by simp only[if_true];unfold hasB mem;rw[hi'];simp;omega,by simp only[if_true];omega,by simp only[if_true];omega,by simp only[if_true];omega,fun j h1 h2=>by simp only[if_true]at h2;omega⟩
 · have hi':Zcm (cnt es (fI fr+1))= !inn:=by revert hi;cases Zcm (cnt es (fI fr+1))<;>cases inn<;>simp
   rw[hi']at h
   have h':fI fr<L/\cnt es (fI fr+1)<es.length/\es.getD (cnt es (fI fr+1)) 0<L:=by
    revert h;cases inn<;>simp
   obtain⟨h1,h2,h3⟩:=h';generalize hc:cnt es (fI fr+1)=c at*
   have hge:=Ybz g.rising (x:=fI fr+1) (i:=c) (by omega) h2
   have hmid:∀y:Int,fI fr+1<=y->y<=(es.getD c 0:Int)->cnt es y=c:=fun y y1 y2=>by
    refine Zxl (Nat.le_of_lt h2) (fun i hi=>?_) (fun i hi hl=>?_)
    · have:=Zwq g.rising (x:=fI fr+1) (i:=i) (by omega);omega
    · by_cases e:i=c
      · subst e;exact y2
      · have:=Zeq g.rising (show c<i by omega) hl;omega
   have hnext:cnt es ((es.getD c 0:Int)+1)=c+1:=by
    refine Zxl (by omega) (fun i hi=>?_) (fun i hi hl=>?_)
    · by_cases e:i=c
      · subst e;omega
      · have:=Zeq g.rising (show i<c by omega) h2;omega
    · have:=Zeq g.rising (show c<i by omega) hl;omega
   rw[hi'];have hne:((!inn)==inn)=false:=by cases inn<;>rfl
   simp only[hne,if_true,Bool.false_eq_true,if_false]
   refine⟨?_,by omega,by omega,by omega,fun j j1 j2=>?_⟩
   · unfold hasB mem
     rw[hnext,Zeh,hi']
     have:decide (0<=(es.getD c 0:Int)/\(es.getD c 0:Int)<L)=true:=decide_eq_true ⟨by omega,by omega⟩
     rw[this];cases inn<;>rfl
   · unfold hasB mem
     rw[hmid (j+1) (by omega) (by omega),hi']
     have:decide (0<=j/\j<(L:Int))=true:=by simp;omega
     rw[this];cases inn<;>rfl
theorem Zpn {L:Nat} {es:List Nat} (g:Good L es) {fr:Int} {inn:Bool} (h:Zcp L es fr inn=false):
 Zb3 L es fr inn=0/\∀j:Int,fI fr<=j->j<L->hasB L es j= !inn:=by
 have hf0:0<=fI fr/\fr<=fI fr:=by unfold fI;split<;>omega
 refine⟨by unfold Zb3;rw[h];rfl,fun j j1 j2=>?_⟩
 unfold Zcp at h;have hlt:fI fr<L:=by omega
 have hd:decide (fI fr<(L:Int))=true:=by simpa using hlt
 rw[hd]at h
 have hi':Zcm (cnt es (fI fr+1))= !inn:=by
  revert h;cases Zcm (cnt es (fI fr+1))<;>cases inn<;>simp
 have hcl:=Zdo es (fI fr+1)
 have hlast:∀i,cnt es (fI fr+1)<=i->i<es.length->(L:Int)<=es.getD i 0:=fun i hi hl=>by
  have hcond:¬(cnt es (fI fr+1)<es.length/\es.getD (cnt es (fI fr+1)) 0<L):=by
   intro hh;revert h;rw[hi',decide_eq_true hh.1,decide_eq_true hh.2];cases inn<;>simp
  by_cases e:i=cnt es (fI fr+1)
  · subst e;omega
  · have:=Zeq g.rising (show cnt es (fI fr+1)<i by omega) hl
    have h3:¬es.getD (cnt es (fI fr+1)) 0<L:=fun hh=>hcond ⟨by omega,hh⟩
    omega
 have hmid:cnt es (j+1)=cnt es (fI fr+1):=by
  refine Zxl hcl (fun i hi=>?_) (fun i hi hl=>?_)
  · have:=Zwq g.rising (x:=fI fr+1) (i:=i) hi;omega
  · have:=hlast i hi hl;omega
 unfold hasB mem;rw[hmid,hi']
 have:decide (0<=j/\j<(L:Int))=true:=by simp;omega
 rw[this];cases inn<;>rfl
end
section
open Go
def ovI (fr n a c:Int):Int:=max (min c (fr+n)-max a fr) 0
def ovP (fr n:Int) (x:Pr):Int:=ovI fr n x.1.1 ((x.1.1:Int)+x.1.2)
def Zkh (fr n:Int) (l:List Pr):Int:=(l.map (ovP fr n)).sum
theorem Zuo (fr n:Int) (l:List Pr) (x:Pr):Zkh fr n (l++[x])=Zkh fr n l+ovP fr n x:=by simp[Zkh]
theorem Ybt {fr n:Int} (h0:0<=fr) (h1:0<=n) (h2:fr+n<=1048576) (x:Pr):0<=ovP fr n x/\ovP fr n x<=1048576:=by
 have:=x.2;unfold ovP ovI;omega
theorem Ycv {fr n:Int} (h0:0<=fr) (h1:0<=n) (h2:fr+n<=1048576) (l:List Pr):0<=Zkh fr n l/\Zkh fr n l<=l.length*1048576:=by
 induction l with
 |nil=>simp[Zkh]
 |cons x t ih=>
  have:=Ybt h0 h1 h2 x
  have e:Zkh fr n (x::t)=ovP fr n x+Zkh fr n t:=by simp[Zkh]
  rw[e];simp only[List.length_cons];omega
def Zeg (es:List Nat) (fr n:Nat):Nat:=(List.range n).countP fun(i:Nat)=>mem es ((fr:Int)+i)
theorem Zsj {a c:Nat} {t:List Nat}:Zgh (a::c::t)=Ydh a c::Zgh t:=by
 unfold Zgh Zdl;rw[show(a::c::t).length/2=t.length/2+1 from by simp;omega,List.range_succ_eq_map,List.map_cons,List.map_map];refine congr (congrArg _ rfl) (List.map_congr_left fun j _=>?_);show Zgu (a::c::t) (j+1)=Zgu t j;unfold Zgu;rw[show 2*(j+1)=2*j+1+1 from by omega];simp only[List.getD_cons_succ]
theorem Zo8 {a c:Nat} {t:List Nat} (h:Zcc (a::c::t)) (i:Int):mem (a::c::t) i=(decide ((a:Int)<=i/\i<c)||mem t i)/\((a:Int)<=i/\i<c->mem t i=false):=by
 have ha:=(List.pairwise_cons.1 h).1;have hc:=(List.pairwise_cons.1 (List.pairwise_cons.1 h).2).1;have hac:=ha c (by simp);unfold mem;rw[Zdu,Zdu];by_cases h1:(a:Int)<=i
 · by_cases h2:i<c
   · have hz:cnt t (i+1)=0:=Zcb fun e he=>by have:=hc e he;omega
     rw[if_pos (by omega),if_neg (by omega),hz]
     exact⟨by simp[Zcm,h1,h2],fun _=>rfl⟩
   · rw[if_pos (by omega),if_pos (by omega)]
     refine⟨?_,fun hh=>by omega⟩
     rw[show 1+(1+cnt t (i+1))=2+cnt t (i+1)from by omega,Zeh]
     have:decide ((a:Int)<=i/\i<c)=false:=decide_eq_false (by omega)
     rw[this];cases Zcm (cnt t (i+1))<;>rfl
 · have hz:cnt t (i+1)=0:=Zcb fun e he=>by have:=hc e he;omega
   rw[if_neg (by omega),if_neg (by omega),hz]
   refine⟨?_,fun hh=>by omega⟩
   have:decide ((a:Int)<=i/\i<c)=false:=decide_eq_false (by omega)
   rw[this];rfl
theorem Zxf (a c:Int) (fr:Nat) (hac:a<=c):∀n:Nat,((((List.range n).countP fun(i:Nat)=>decide (a<=(fr:Int)+i/\(fr:Int)+i<c)):Nat):Int)=ovI fr n a c:=by
 intro n
 induction n with
 |zero=>simp[ovI];omega
 |succ n ih=>
  rw[List.range_succ,List.countP_append];simp only[List.countP_cons,List.countP_nil];rw[Int.natCast_add,ih];by_cases h:a<=(fr:Int)+n/\(fr:Int)+n<c
  · rw[decide_eq_true h];unfold ovI;simp;omega
  · rw[decide_eq_false h];unfold ovI;simp;omega
theorem Zxi {l:List Nat} {p q:Nat->Bool} (h:∀i,p i=true->q i=false):l.countP (fun i=>p i||q i)=l.countP p+l.countP q:=by
 induction l with
 |nil=>rfl
 |cons x t ih=>
  simp only[List.countP_cons,ih];cases hp:p x
  · cases q x<;>simp<;>omega
  · rw[h x hp];simp;omega
theorem Zkc:∀(m:Nat) (es:List Nat) (fr n:Nat),es.length<=m->Zcc es->es.length%2=0->(∀e∈es,e<=1048576)->(Zeg es fr n:Int)=Zkh fr n (Zgh es):=by
 intro m
 induction m with
 |zero=>
  intro es fr n h _ _ _
  have:es=[]:=List.eq_nil_of_length_eq_zero (by omega)
  subst this;simp[Zeg,mem,Zem,Zcm,Zkh,Zgh,Zdl]
 |succ m ih=>
  intro es fr n h hr hev hle
  match es,h,hr,hev,hle with
  |[],_,_,_,_=>simp[Zeg,mem,Zem,Zcm,Zkh,Zgh,Zdl]
  |[a],_,_,hev,_=>simp at hev
  |a::c::t,h,hr,hev,hle=>
   have hrt:Zcc t:=(List.pairwise_cons.1 (List.pairwise_cons.1 hr).2).2;have hac:a<c:=(List.pairwise_cons.1 hr).1 c (by simp);have hcl:=hle c (by simp);rw[Zsj];have e1:Zkh fr n (Ydh a c::Zgh t)=ovP fr n (Ydh a c)+Zkh fr n (Zgh t):=by simp[Zkh]
   have e2:ovP fr n (Ydh a c)=ovI fr n a c:=by
    unfold ovP Ydh;rw[dif_pos ⟨hac,hcl⟩];simp only
    rw[show(a:Int)+((c-a:Nat):Int)=c from by omega]
   rw[e1,e2,<-Zxf a c fr (by omega) n,<-ih t fr n (by simp at h;omega) hrt (by simp at hev;omega) (fun e he=>hle e (by simp[he]))];unfold Zeg;rw[<-Int.natCast_add,<-Zxi fun i hi=>(Zo8 hr _).2 (of_decide_eq_true hi)]
   congr 1
   exact List.countP_congr fun i _=>by rw[(Zo8 hr _).1]
theorem Znh {L:Nat} {es:List Nat} (g:Good L es) (fr n:Nat):(Zeg es fr n:Int)=Zkh fr n (Zgh es):=
 Zkc es.length es fr n (Nat.le_refl _) g.rising g.even fun e he=>by have:=g.le e he;have:=g.small;omega
end
section
open Go Go.RowKit Go.Shelf
attribute [local go_sem] Oper.semAt_some
def Zg5 (L:Nat) (es:List Nat) (fr n:Int):Int:=if Zao L fr n then(Zeg es fr.toNat n.toNat:Int)else 0
def Zj5 (L:Nat) (es:List Nat) (fr n:Int) (w:World) (e:Ending) (w':World):Prop:=e=.returned (.tuple #[iV (Zg5 L es fr n),iV (Zbo L fr n)])/\Below w.heap.size w w'
theorem Zg7 {w w1:World} {L m cap:Nat} {p:Option Addr} {fr n:Int} (hb:Below (((w.alloc (.cells #[iV L,.slice p m cap] 118)).alloc (.cells #[iV fr] 3)).alloc (.cells #[iV n] 3)).heap.size (((w.alloc (.cells #[iV L,.slice p m cap] 118)).alloc (.cells #[iV fr] 3)).alloc (.cells #[iV n] 3)) w1) (y:World) (hy:Below w1.heap.size w1 y):
 y.cell? (aD w.heap.size 0)=some (iV L)/\y.cell? (aD w.heap.size 1)=some (.slice p m cap)/\y.cell? ⟨w.heap.size+1,0,none⟩=some (iV fr)/\y.cell? ⟨w.heap.size+1+1,0,none⟩=some (iV n)/\Below w.heap.size w y/\w.heap.size+3<=w1.heap.size:=by
 obtain⟨h1,h2,h3⟩:=Zfq w #[iV L,.slice p m cap] #[iV fr] #[iV n] 118 3 3;have hs:(((w.alloc (.cells #[iV L,.slice p m cap] 118)).alloc (.cells #[iV fr] 3)).alloc (.cells #[iV n] 3)).heap.size=w.heap.size+3:=by simp
 have hB:Below w.heap.size w (((w.alloc (.cells #[iV L,.slice p m cap] 118)).alloc (.cells #[iV fr] 3)).alloc (.cells #[iV n] 3)):=(((Below.refl _ w).alloc (Nat.le_refl _) _).alloc (by simp) _).alloc (by simp;omega) _;have hy':=hb.trans (hy.mono hb.size);have z1:=(hy'.block _ (by omega)).trans h1;have z2:=(hy'.block _ (by omega)).trans h2;have z3:=(hy'.block _ (by omega)).trans h3
 exact⟨(Zaa z1 0).1,(Zaa z1 1).1,(Zaa z2 0).1,(Zaa z3 0).1,hB.trans (hy'.mono (by omega)),by have:=hb.size;omega⟩
theorem Yay (L:Nat) (p:Option Addr) (m cap:Nat) (es:List Nat) (fr n:Int) (w:World) (g:Good L es) (hm:m=es.length) (hrow:Zb1 w p es) (hw:Zao L fr n=true):
 CallsIn Fence.wide 4 Tryz.prog 197 #[.agg #[iV L,.slice p m cap],iV fr,iV n] w (Zj5 L es fr n w):=by
 have hL:=g.small;have hgl:=Zct g;have hwi:0<=fr/\0<=n/\n<=L-fr:=by simpa[Zao]using hw
 have HV:Hid (Zg5 L es fr n=Zkh fr n (Zgh es)):=hid (by
  unfold Zg5;rw[hw,if_pos rfl,Znh g,show((fr.toNat:Nat):Int)=fr from by omega,show((n.toNat:Nat):Int)=n from by omega])
 have HE:Hid (Zbo L fr n=0):=hid (by unfold Zbo;rw[hw];rfl);have HW:=hid hw;have HM:=hid hm;have hml:m<=1048577:=by omega
 clear hm hw;refine callsIn_of_wp_marks Tryz.func197 rfl trivial ?_ rfl;simp only[Tryz.ntmps197,List.size_toArray,List.length_cons,List.length_nil,Nat.reduceAdd,Nat.reduceSub,Array.replicate_succ,Array.replicate_zero,List.push_toArray,List.append_toArray,List.nil_append,List.cons_append]
 gi_wp2_with (first|(refine⟨trivial,?_⟩;gi_at_call 213;refine(callsIn_wide.2 (Zb7 L hL p m cap _ _ (by omega) _)).mono ?_;rw[HW.out];rintro e w1 ⟨rfl,hb1⟩;obtain⟨k0,k1,k2,k3,kB,ksz⟩:=Zg7 hb1 (w1.alloc (.cells #[iV 0] 3)) ((Below.refl _ _).alloc (Nat.le_refl _) _))|(refine⟨trivial,?_⟩;gi_at_call 214;refine(callsIn_wide.2 (Zu5 L p m cap _)).mono ?_;rintro e w' ⟨rfl,rfl⟩))
 have kT:(w1.alloc (.cells #[iV 0] 3)).cell? (aD w1.heap.size 0)=some (iV 0):=by simp
 have kZ:(w1.alloc (.cells #[iV 0] 3)).frozen? (aD w1.heap.size 0)=false:=by simp
 have BX:Below w1.heap.size w1 ((w1.alloc (.cells #[iV 0] 3)).alloc (.cells #[iV L,.slice p m cap] 118)):=((Below.refl _ _).alloc (Nat.le_refl _) _).alloc (by simp) _
 have hc1:((w1.alloc (.cells #[iV 0] 3)).alloc (.cells #[iV L,.slice p m cap] 118)).cell? ⟨w1.heap.size+1,1,none⟩=some (.slice p m cap):=by
  simp
 have hsz:((w1.alloc (.cells #[iV 0] 3)).alloc (.cells #[iV L,.slice p m cap] 118)).heap.size=w1.heap.size+2:=by simp
 obtain⟨b,hbl,hbT,hRow⟩:∃b,b<w1.heap.size+2/\b≠w1.heap.size/\Yet b ((w1.alloc (.cells #[iV 0] 3)).alloc (.cells #[iV L,.slice p m cap] 118)) p es:=by
  have hB2:Below w.heap.size w ((w1.alloc (.cells #[iV 0] 3)).alloc (.cells #[iV L,.slice p m cap] 118)):=kB.trans (((Below.refl _ _).alloc (Nat.le_refl _) _).mono kB.size);rcases hrow with⟨rfl,rfl⟩|⟨b,off,rfl,hlt,hc⟩
  · exact⟨w1.heap.size+1,by omega,by omega,.inl ⟨rfl,rfl⟩⟩
  · exact⟨b,by omega,by omega,.inr ⟨off,rfl,fun k hk=>(hB2.cell (p:=(aD b (off+k))) hlt).trans (hc k hk)⟩⟩
 refine wpIn_rangeFunc_ownF rfl (by omega) (gf:=224) (lb:=#[.pointer (some ⟨w1.heap.size+1,0,none⟩)]) rfl trivial (enters_of Tryz.func224 (by kernel_rfl) rfl)
  (Zkl (4-1) (w1.heap.size+1) b L m cap p es g HM.out _ (by rw[hsz];omega) (by rw[hsz];omega) hc1 hRow) K2.trans (K2.put (by rw[hsz];omega) (by rw[hsz];omega)) (Below.refl _ _) (fun _=>rfl)
  (fun pre W=>(W.cell? (aD w1.heap.size 0)=some (iV (Zkh fr n pre))/\W.frozen? (aD w1.heap.size 0)=false)/\Below w1.heap.size w1 W)
  (fun _ _ _=>False)
  (OwnFrom.and (Own.from (fun s A B row hs hg hr=>⟨cell_kept hs.1 hg hr,(frozen_kept hs.1 hg hr).trans hs.2⟩) _) (ownFrom_below (Nat.le_refl _) (by rw[hsz];omega)))
  (fun _ _ _ _ _ hs _ _=>hs)
  ⟨⟨by rw[((Below.refl _ _).alloc (Nat.le_refl _) _:Below (w1.alloc (.cells #[iV 0] 3)).heap.size _ _).cell (p:=(aD w1.heap.size 0)) (by simp)];exact kT,by rw[((Below.refl _ _).alloc (Nat.le_refl _) _:Below (w1.alloc (.cells #[iV 0] 3)).heap.size _ _).frozen (p:=(aD w1.heap.size 0)) (by simp)];exact kZ⟩,BX⟩
  (fun x=>{tmps:=#[.agg #[iV L,.slice p m cap],iV fr,iV n,.pointer (some (aD w.heap.size 0)),.pointer (some ⟨w.heap.size+1,0,none⟩),.pointer (some ⟨w.heap.size+1+1,0,none⟩),iV 0,iV 0,.pointer (some (aD w1.heap.size 0)),iV (x.1.1:Int),iV (x.1.2:Int),undef,undef,.agg #[iV L,.slice p m cap],iV fr,iV n,.bool true,.bool false,.agg #[iV L,.slice p m cap],.func (.func 224) #[] #[.pointer (some ⟨w1.heap.size+1,0,none⟩)],iV (x.1.1:Int),iV (x.1.2:Int),undef,undef,undef,undef,undef,undef,undef,undef,undef,undef,undef,undef,undef,undef,undef,undef,undef],defers:=[]}) ?assign ?body ?done ?stop
 case assign=>
  intro l x W K hK;simp only[Zw8]
  gi_wp2
  exact hK
 case body=>
  rintro l pre x W ⟨⟨hc,hf⟩,hB⟩ hlt;obtain⟨_,_,q2,q3,qB,_⟩:=Zg7 hb1 W hB;have hx:=x.2;have hsb:=Ycv hwi.1 hwi.2.1 (by omega) pre;have hob:=Ybt hwi.1 hwi.2.1 (by omega) x;have hlen:pre.length<es.length/2:=hlt;have HOV:Hid (ovP fr n x=ovI fr n x.1.1 ((x.1.1:Int)+x.1.2)):=hid rfl;have HSN:=hid (Zuo fr n pre x);obtain⟨⟨a,c⟩,hxx⟩:=x
  simp only at hx HOV⊢
  have hob2:0<=ovI fr n a (a+c)/\ovI fr n a (a+c)<=1048576:=hob;have hsx:0<=Zkh fr n pre+ovI fr n a (a+c)/\Zkh fr n pre+ovI fr n a (a+c)<=9223372036854775807:=by omega
  have wa:IntKind.i64.wrap ((a:Int)+c)=a+c:=IntWalk.i64_in _ (by omega);have wb:IntKind.i64.wrap (fr+n)=fr+n:=IntWalk.i64_in _ (by omega);by_cases g1:(a:Int)<fr
  all_goals
   by_cases g2:fr+n<(a:Int)+c
   all_goals
    gi_wp2
    refine Zbr 11 (by kernel_rfl) (by kernel_rfl) (by kernel_rfl) ?_;simp only[List.take_succ_cons,List.take_zero,List.drop_succ_cons,List.drop_zero]
    repeat still_step
    refine wpStill_nil ?_;clear wa wb
    gi_wp2
    all_goals
     refine⟨(KeepsOthers.drew _).trans (KeepsOthers.setCell _ _ _),⟨Below.heap_setCell W.drew (aD w1.heap.size 0) _ _ (by show w1.heap.size+1≠w1.heap.size;omega),Below.heap_setCell W.drew (aD w1.heap.size 0) _ _ (by exact hbT)⟩,⟨(World.cell?_setCell_same' _ _ _ (by simp[hc])).trans ?_,(World.frozen?_setCell _ _ _ _).trans hf⟩,hB.drew.setCell (p:=(aD w1.heap.size 0)) (Nat.le_refl _) _⟩
     rw[HSN.out,HOV.out];exact congrArg (fun z=>some (Value.int .i64 z)) (by unfold ovI;omega)
 case done=>
  rintro D ys W hD rfl ⟨⟨hc,hf⟩,hB⟩ hK;obtain⟨_,_,q2,q3,qB,_⟩:=Zg7 hb1 W hB
  gi_wp2
  refine⟨by simp,.inl ⟨_,_,rfl,run_takeDeferred hK,?_⟩⟩
  exact⟨_,results_tmp2 rfl _ _ _,by rw[HV.out,HE.out];rfl,qB.trans ((belowK_b (w:=w1) (Nat.le_refl _) W D _ _ (by rw[hsz]at hD;omega) hK rfl rfl).mono (by omega))⟩
 case stop=>
  rintro D c pre W _ _ h _;exact h.elim
theorem Zxg (L:Nat) (p:Option Addr) (m cap:Nat) (es:List Nat) (fr n:Int) (w:World) (hL:L<=1048576) (hf:fr<=9223372036854775807) (hw:Zao L fr n=false):
 Calls Tryz.prog 197 #[.agg #[iV L,.slice p m cap],iV fr,iV n] w (Zj5 L es fr n w):=by
 have HV:Hid (Zg5 L es fr n=0):=hid (by unfold Zg5;rw[hw];rfl);have HE:Hid (Zbo L fr n=3):=hid (by unfold Zbo;rw[hw];rfl);have HW:=hid hw;clear hw
 go_enter Tryz.func197,Tryz.ntmps197;go_wp2_with fail
 refine(Zb7 L hL p m cap _ _ hf _).mono ?_
 rw[HW.out];rintro e w1 ⟨rfl,hb1⟩;obtain⟨_,_,_,_,kB,_⟩:=Zg7 hb1 w1 (Below.refl _ _);go_wp2_with fail
 go_ret2
 exact⟨by rw[HV.out,HE.out];rfl,kB⟩
theorem Zxh (L:Nat) (p:Option Addr) (m cap:Nat) (es:List Nat) (fr n:Int) (w:World) (g:Good L es) (hm:m=es.length) (hrow:Zb1 w p es) (hf:fr<=9223372036854775807):
 Calls Tryz.prog 197 #[.agg #[iV L,.slice p m cap],iV fr,iV n] w (Zj5 L es fr n w):=by
 cases hw:Zao L fr n with
 |false=>exact Zxg L p m cap es fr n w g.small hf hw
 |true=>exact callsIn_wide.1 (Yay L p m cap es fr n w g hm hrow hw)
end
section
open Go Go.RowKit
structure ASt where
 L:Nat
 es:List Nat
 mm:Nat->UInt8
 rf:Bool
 lf:Nat
def Zbd (L:Nat) (es:List Nat) (a n:Int):Bool:=
 decide (0<=a/\0<=n/\n<=(L:Int)*4096-a)&&(decide (n=0)|| !(Zcp L es (a/4096) false&&decide (Zb3 L es (a/4096) false<=(a+n-1)/4096)))
def Zac (L:Nat) (es:List Nat) (a n:Int):Int:=if Zbd L es a n then 0 else 3
theorem Zkq {L:Nat} {es:List Nat} {j:Int} (h0:0<=j) (h1:j<L):hasB L es j=mem es j:=by
 unfold hasB;rw[decide_eq_true ⟨h0,h1⟩];rfl
theorem Zax {L:Nat} {es:List Nat} (g:Good L es) (a n:Int):
 Zbd L es a n=true↔0<=a/\0<=n/\a+n<=(L:Int)*4096/\∀i:Int,a<=i->i<a+n->mem es (i/4096)=true:=by
 unfold Zbd;rw[Bool.and_eq_true,decide_eq_true_iff,Bool.or_eq_true,decide_eq_true_iff]
 constructor
 · rintro ⟨⟨h0,h1,h2⟩,h3⟩
   refine⟨h0,h1,by omega,fun i hi hi2=>?_⟩
   rcases h3 with h3|h3
   · omega
   · have hlt:i/4096<(L:Int):=by omega
     rw[<-Zkq (by omega) hlt];cases hb:Zcp L es (a/4096) false with
     |true=>
      obtain⟨_,f1,f2,f3,f4⟩:=Zkw g hb;rw[hb]at h3;have h3':(a+n-1)/4096<Zb3 L es (a/4096) false:=by simpa using h3
      have:=f4 (i/4096) (by unfold fI;split<;>omega) (by omega)
      simpa using this
     |false=>
      have:=(Zpn g hb).2 (i/4096) (by unfold fI;split<;>omega) hlt
      simpa using this
 · rintro ⟨h0,h1,h2,h3⟩
   refine⟨⟨h0,h1,by omega⟩,?_⟩
   by_cases hn:n=0
   · exact .inl hn
   · refine .inr ?_
     cases hb:Zcp L es (a/4096) false with
     |false=>rfl
     |true=>
      obtain⟨f0,f1,f2,f3,f4⟩:=Zkw g hb;by_cases hle:Zb3 L es (a/4096) false<=(a+n-1)/4096
      · exfalso
        have hm:=h3 (max a (4096*Zb3 L es (a/4096) false)) (by omega) (by omega);have hd:max a (4096*Zb3 L es (a/4096) false)/4096=Zb3 L es (a/4096) false:=by omega
        rw[hd,<-Zkq f2 f3,f0]at hm;cases hm
      · simp[hle]
def Zat (m:Nat->UInt8) (i:Nat):Array Value:=((List.range 4096).map fun j=>Value.int .u8 ((m (i*4096+j)).toNat:Int)).toArray
theorem Zhh (m:Nat->UInt8) (i:Nat):(Zat m i).size=4096:=by simp[Zat]
theorem Zqk (m:Nat->UInt8) (i j:Nat) (hj:j<4096):(Zat m i)[j]?=some (.int .u8 ((m (i*4096+j)).toNat:Int)):=by simp[Zat,hj]
theorem Zvj {m m':Nat->UInt8} {i:Nat} (h:∀j,j<4096->m (i*4096+j)=m' (i*4096+j)):Zat m i=Zat m' i:=by
 exact congrArg List.toArray (List.map_congr_left fun j hj=>by rw[h j (List.mem_range.1 hj)])
theorem Yf0 {m m':Nat->UInt8} {i j:Nat} (hj:j<4096) {y:UInt8} (h:∀k,k<4096->m' (i*4096+k)=if k=j then y else m (i*4096+k)):
 (Zat m i).setIfInBounds j (.int .u8 (y.toNat:Int))=Zat m' i:=by
 apply Array.ext_getElem?
 intro k;by_cases hk:k<4096
 · rw[Zqk m' i k hk,h k hk,Array.getElem?_setIfInBounds]
   by_cases e:j=k
   · subst e;simp[Zhh,hj]
   · rw[if_neg e,if_neg (Ne.symm e),Zqk m i k hk]
 · rw[Array.getElem?_eq_none (by rw[Array.size_setIfInBounds,Zhh];omega),Array.getElem?_eq_none (by rw[Zhh];omega)]
def Zb8 (m:Nat->UInt8) (a:Nat) (s:List UInt8):Nat->UInt8:=fun i=>if a<=i/\i<a+s.length then s.getD (i-a) 0 else m i
def getM (m:Nat->UInt8) (a n:Nat):List UInt8:=(List.range n).map fun i=>m (a+i)
theorem Zqi (m:Nat->UInt8) (a:Nat):Zb8 m a []=m:=by funext i;simp[Zb8];omega
theorem Zbt (m:Nat->UInt8) (a:Nat) (s:List UInt8) {i:Nat} (h:i<a\/a+s.length<=i):Zb8 m a s i=m i:=by unfold Zb8;rw[if_neg (by omega)]
theorem Zlh (m:Nat->UInt8) (a:Nat) (s:List UInt8) {i:Nat} (h:i<s.length):Zb8 m a s (a+i)=s.getD i 0:=by unfold Zb8;rw[if_pos (by omega),Nat.add_sub_cancel_left]
theorem Zjd (m:Nat->UInt8) (a:Nat) (s:List UInt8) (c:UInt8):Zb8 m a (s++[c])=fun i=>if i=a+s.length then c else Zb8 m a s i:=by
 funext i
 unfold Zb8;simp only[List.length_append,List.length_singleton];by_cases e:i=a+s.length
 · subst e;rw[if_pos (by omega),if_pos rfl];simp[List.getD_eq_getElem?_getD]
 · rw[if_neg e]
   by_cases h:a<=i/\i<a+s.length
   · rw[if_pos (by omega),if_pos h];simp[List.getD_eq_getElem?_getD,List.getElem?_append,show i-a<s.length from by omega]
   · rw[if_neg (by omega),if_neg h]
end
end Go.Proofs.YtgcidfenjlmljaaGreat.Bt
