import Derived.Test.YtgcidfenjlmljaaGreatPg36
import Derived.Test.YtgcidfenjlmljaaGreatPg16
import Derived.Test.YtgcidfenjlmljaaGreatPg20
import Derived.Test.YtgcidfenjlmljaaGreatPg19
import Derived.Deep.DeepCutAuto
import Derived.Test.YtgcidfenjlmljaaGreatPgR
set_option linter.unusedVariables false
set_option linter.unusedSimpArgs false
set_option maxRecDepth 100000
set_option maxHeartbeats 16000000
namespace Go.Proofs.YtgcidfenjlmljaaGreat.Bt
section
open Go Go.RowKit Go.Shelf
def BI (L:List (Nat × Nat × Bool)) (o j:Nat) (b:Int × Nat):Prop:=
 (b=(-1,11)/\∀m,m<j->(L.getD m r0).2.2=false->(L.getD m r0).2.1<o)\/
 (∃x k n,n<j/\L.getD n r0=(x,k,false)/\b=((x:Int),k)/\o<=k/\∀m,m<j->(L.getD m r0).2.2=false->o<=(L.getD m r0).2.1->k<(L.getD m r0).2.1\/(k=(L.getD m r0).2.1/\x<=(L.getD m r0).1))
theorem BI.zero (L:List (Nat × Nat × Bool)) (o:Nat):BI L o 0 (-1,11):=.inl ⟨rfl,fun m h=>by omega⟩
theorem Zpj {R:Zag} {g m n:Nat} (hn:n<(Zbi R g).length) (h:m<n):((Zbi R g).getD m r0).1<((Zbi R g).getD n r0).1:=by
 have hs:=Zi7 R g;rw[List.getD_eq_getElem?_getD,List.getD_eq_getElem?_getD,List.getElem?_eq_getElem hn,List.getElem?_eq_getElem (by omega)];exact List.pairwise_iff_getElem.1 hs m n (by omega) hn h
theorem BI.new {R:Zag} {g o j:Nat} {b:Int × Nat} (h:BI (Zbi R g) o j b) (hj:j<(Zbi R g).length) {x k:Nat} (e:(Zbi R g).getD j r0=(x,k,false)) (h1:o<=k) (h2:k<b.2):BI (Zbi R g) o (j+1) ((x:Int),k):=by
 refine .inr ⟨x,k,j,by omega,e,rfl,h1,fun m hm t1 t2=>?_⟩
 rcases Nat.lt_or_eq_of_le (Nat.le_of_lt_succ hm)with c|c
 · rcases h with⟨rfl,q⟩|⟨x',k',n,q1,q2,rfl,q3,q4⟩
   · have:=q m c t1;omega
   · have:=q4 m c t1 t2
     simp only at h2
     omega
 · subst c
   rw[e];exact .inr ⟨rfl,Nat.le_refl _⟩
theorem BI.old {R:Zag} {g o j:Nat} {b:Int × Nat} (h:BI (Zbi R g) o j b) (hj:j<(Zbi R g).length) {x k:Nat} {t:Bool} (e:(Zbi R g).getD j r0=(x,k,t)) (hk:k<=10) (h1:¬(t=false/\o<=k/\k<b.2)):BI (Zbi R g) o (j+1) b:=by
 rcases h with⟨rfl,q⟩|⟨x',k',n,q1,q2,rfl,q3,q4⟩
 · refine .inl ⟨rfl,fun m hm t1=>?_⟩
   rcases Nat.lt_or_eq_of_le (Nat.le_of_lt_succ hm)with c|c
   · exact q m c t1
   · subst c
     rw[e]at t1⊢
     simp only at t1⊢
     refine Classical.byContradiction fun hc=>h1 ⟨t1,by omega,by show k<11;omega⟩
 · refine .inr ⟨x',k',n,by omega,q2,rfl,q3,fun m hm t1 t2=>?_⟩
   rcases Nat.lt_or_eq_of_le (Nat.le_of_lt_succ hm)with c|c
   · exact q4 m c t1 t2
   · subst c
     have hs:=Zpj hj q1;rw[e]at t1 t2 hs⊢;rw[q2]at hs
     simp only at t1 t2 hs⊢
     have:¬k<k':=fun q=>h1 ⟨t1,t2,q⟩
     omega
def Zw4 (y:Option (Nat × Nat)):Int:=match y with
 |some (x,_)=>(x:Int)
 |none=> -1
theorem BI.end {R:Zag} {g o:Nat} {b:Int × Nat} (hR:Til g R g) (h:BI (Zbi R g) o (Zbi R g).length b):∃y,b.1=Zw4 y/\Zeo R g o y:=by
 have mem:∀i l,R i=some (l,false)->∃m,m<(Zbi R g).length/\(Zbi R g).getD m r0=(i,l,false):=fun i l e=>Zqr (Zdp.2 ⟨hR.lt e,e⟩)
 rcases h with⟨rfl,q⟩|⟨x',k',n,q1,q2,rfl,q3,q4⟩
 · refine⟨none,rfl,fun i l e=>?_⟩
   obtain⟨m,hm,em⟩:=mem i l e
   have:=q m hm (by rw[em])
   rw[em]at this;exact this
 · refine⟨some (x',k'),rfl,?_,q3,fun i l e ho=>?_⟩
   · have:=Zej q1
     rw[q2]at this
     exact(Zdp.1 this).2
   · obtain⟨m,hm,em⟩:=mem i l e
     have:=q4 m hm (by rw[em]) (by rw[em];exact ho)
     rw[em]at this;exact this
abbrev bsA (b:Int × Nat):Array Value:=#[iV b.1,iV (b.2:Int),.bool false]
def BsV (T:Nat) (b:Int × Nat) (x:World):Prop:=x.heap[T]?=some (.cells (bsA b) 140 (0,0))
theorem BsV.below {T:Nat} {b:Int × Nat} {x z:World} (h:BsV T b x) (hb:Below x.heap.size x z):BsV T b z:=(hb.block _ (Array.getElem?_eq_some_iff.1 h).1).trans h
theorem BsV.all {T:Nat} {b:Int × Nat} {x:World} (h:BsV T b x):x.cell? (aD T 0)=some (iV b.1)/\x.cell? (aD T 1)=some (iV (b.2:Int))/\x.cell? (aD T 2)=some (.bool false)/\x.frozen? (aD T 0)=false/\x.frozen? (aD T 1)=false/\x.frozen? (aD T 2)=false:=by
 refine⟨?_,?_,?_,(Zaa h 0).2,(Zaa h 1).2,(Zaa h 2).2⟩<;>(rw[(Zaa h _).1];rfl)
theorem BsV.set {T:Nat} {b:Int × Nat} {x:World} (h:BsV T b x) (c:Int × Nat):BsV T c (((x.setCell (aD T 0) (iV c.1)).setCell (aD T 1) (iV (c.2:Int))).setCell (aD T 2) (.bool false)):=Za8 h rfl _ _ _
theorem Zjz (o q r:Int) (g:Nat) (hg:g<=80) (p:Option Addr) (tc:Nat) (R:Zag) (hR:Til g R g) (od:Nat) (hod:od<=10) (w:World) (h:Zcg w p (tkT R g)):
 Calls Tryz.prog 127 #[bqV o q (g:Int) r (.slice p (tkT R g).length tc),iV od] w fun e w'=>∃y,e=.returned (iV (Zw4 y))/\Zeo R g od y/\Below w.heap.size w w':=by
 have HRU:=hid fun X (hX:Zcg X p (tkT R g))=>Zn4 o q r g hg p tc R hR X hX
 have HT:=hid hR;have H:=hid h;obtain⟨m,hm⟩:=eX ((tkT R g).length);rw[hm]at HRU⊢;have hb0:=(((Below.refl w.heap.size w).alloc (Nat.le_refl _) (.cells #[iV o,iV q,iV g,iV r,.slice p m tc] 27)).alloc (by simp) (.cells #[iV (-1),iV 11,.bool false] 140));have ht0:BsV (w.heap.size+1) (-1,11) ((w.alloc (.cells #[iV o,iV q,iV g,iV r,.slice p m tc] 27)).alloc (.cells #[iV (-1),iV 11,.bool false] 140)):=Zfy w _ _;have HB0:=hid hb0;have HT0:=hid ht0
 clear h hR hm hb0 ht0;go_enter Tryz.func127,Tryz.ntmps127;go_wp2_with fail
 refine(HRU.out _ (H.out.below HB0.out)).mono ?_
 rintro e w1 ⟨u,cap,rfl,hru,huf,hb⟩;have HT1:=hid (HT0.out.below hb);have HB1:=hid (HB0.out.trans (hb.mono HB0.out.size));have HRU1:=hid hru;obtain⟨T,hTT⟩:=eX (w.heap.size+1);have HTS:Hid (w.heap.size<=T):=hid (by omega);have HUT:Hid (∀j,u=some (aD j 0)->j≠T):=hid fun j hj=>by have:=huf j hj;simp at this;omega
 rw[hTT]at HT1⊢;obtain⟨nl,hnl⟩:=eX ((Zbi R g).length);have HNL:=hid hnl;have hnl80:nl<=80:=by have:=Zdq R g;omega
 have HAL:Hid (∀j,j<nl->((Zbi R g).getD j r0).2.1<=10):=hid fun j hj=>by
  have:=Zdp.1 (Zej (L:=Zbi R g) (by rw[hnl];exact hj))
  exact(HT.out.al _ _ _ this.2).1
 have HS:Hid (BI (Zbi R g) od 0 (-1,11)):=hid (BI.zero _ _);have HWW:Hid (Below w1.heap.size w1 w1):=hid (Below.refl _ _);rw[hnl];clear hru huf hb hTT hnl HRU HB0 HT0;go_wp2_with fail
 go_loopw[12] (fun s12 x=>∃(j:Nat) (b:Int × Nat),j<=nl/\s12=iV j/\Hid (BI (Zbi R g) od j b)/\Hid (BsV T b x)/\Hid (Zcg x u (Zbi R g))/\Hid (Below w.heap.size w x)) (fun s12 _=>nl-(intOf s12).toNat)
 case atStart=>exact⟨0,_,Nat.zero_le _,rfl,HS,HT1,HRU1,HB1⟩
 case round=>
  clear HS HT1 HRU1 HB1;obtain⟨j,b,hj,rfl,HS,HTX,HRX,HBX⟩:=hrel;by_cases hjn:j<nl
  · have hjn2:(j:Int)<(nl:Int):=by omega
    have hjL:j<(Zbi R g).length:=by rw[HNL.out];exact hjn
    rcases HRX.out with e|⟨gb,rfl,hgl,hcc⟩
    · rw[e]at hjL;simp at hjL
    obtain⟨q0,q1,q2⟩:=hcc j hjL;obtain⟨y,hy⟩:=eX ((Zbi R g).getD j r0);have hk10:=HAL.out j hjn;obtain⟨y1,y2,y3⟩:=y;have HY:=hid hy;rw[hy]at q0 q1 q2 hk10
    simp only at q0 q1 q2 hk10
    have HJL:=hid hjL;have HGB:Hid (gb≠T):=hid (HUT.out gb rfl);clear hcc hjL hgl hy;go_upto_region 5 with fail;have HX8:Hid (RnV wr.heap.size (y1,y2,y3) (wr.alloc (.cells #[iV y1,iV y2,.bool y3] 140))):=hid (Zab wr _);have HT8:=hid (HTX.out.below (Zaj wr (.cells #[iV y1,iV y2,.bool y3] 140)));have HR8:=hid (HRX.out.below (Zaj wr (.cells #[iV y1,iV y2,.bool y3] 140)));have HB8:=hid (HBX.out.alloc HBX.out.size (.cells #[iV y1,iV y2,.bool y3] 140));obtain⟨z2,hz2⟩:∃z,wr.alloc (.cells #[iV y1,iV y2,.bool y3] 140)=z:=⟨_,rfl⟩
    obtain⟨T8,hT8⟩:=eX wr.heap.size;rw[hz2]at HX8 HT8 HB8 HR8⊢;rw[hT8]at HX8⊢;clear hz2 hT8 q0 q1 q2;obtain⟨x0,x1,x2⟩:=HX8.out.all;obtain⟨t0,t1,t2,f0,f1,f2⟩:=HT8.out.all
    simp only at x0 x1 x2
    obtain⟨b1,b2⟩:=b
    simp only at t0 t1
    by_cases c:y3=false/\od<=y2/\y2<b2
    · obtain⟨rfl,c1,c2⟩:=c
      have HN:Hid (BI (Zbi R g) od (j+1) ((y1:Int),y2)):=hid (HS.out.new HJL.out HY.out c1 c2);have HNT:Hid (BsV T ((y1:Int),y2) (((z2.setCell (aD T 0) (iV y1)).setCell (aD T 1) (iV y2)).setCell (aD T 2) (.bool false))):=hid (HT8.out.set ((y1:Int),y2));have HNB:=hid (Zkk HB8.out HTS.out (iV y1) (iV y2) (.bool false))
      have HNR:=hid (HR8.out.far (w':=((z2.setCell (aD T 0) (iV y1)).setCell (aD T 1) (iV y2)).setCell (aD T 2) (.bool false)) (by simp[World.setCell]) fun g' hg'=>by
       have:g'≠T:=HUT.out g' hg'
       exact(Below.heap_setCell _ (aD T 2) _ _ this).trans ((Below.heap_setCell _ (aD T 1) _ _ this).trans (Below.heap_setCell _ (aD T 0) _ _ this)))
      have d1:¬((y2:Int)<(od:Int)):=by omega
      have d2:((y2:Int)<(b2:Int)):=by omega
      clear c1 c2;go_wp2_with fail;go_roundw
      case rel=>exact⟨j+1,_,by omega,by go_num,HN,HNT,HNR,HNB⟩
      case measure=>simp[intOf];omega
    · have HN:Hid (BI (Zbi R g) od (j+1) (b1,b2)):=hid (HS.out.old HJL.out HY.out hk10 c)
      have HD:Hid (y3=true\/(y3=false/\((y2:Int)<(od:Int)))\/(y3=false/\¬((y2:Int)<(od:Int))/\¬((y2:Int)<(b2:Int)))):=hid (by
       cases y3 with
       |true=>exact .inl rfl
       |false=>
        by_cases q:(y2:Int)<(od:Int)
        · exact .inr (.inl ⟨rfl,q⟩)
        · exact .inr (.inr ⟨rfl,q,fun q2=>c ⟨rfl,by omega,by omega⟩⟩))
      clear c;rcases HD.out with rfl|⟨rfl,d1⟩|⟨rfl,d1,d2⟩
      all_goals
       go_wp2_with fail;go_roundw
       case rel=>exact⟨j+1,_,by omega,by go_num,HN,HT8,HR8,HB8⟩
       case measure=>simp[intOf];omega
  · obtain rfl:j=nl:=by omega
    have hs:=HS.out;rw[<-HNL.out]at hs;obtain⟨y,hy,hl⟩:=BI.end HT.out hs;obtain⟨t0,t1,t2,f0,f1,f2⟩:=HTX.out.all;have HF:=hid hl;rw[hy]at t0;clear hs hl hy;go_wp2_with fail
    go_ret
    exact⟨y,rfl,HF.out,HBX.out⟩
end
section
open Go Go.RowKit Go.Shelf
theorem Zp3 {R R1:Zag} {g g1 x y:Nat} (h:Til g R x) (h1:Til g1 R1 y) (t:Zcf R R1):tkT R1 g1=tkT R g:=by
 unfold tkT;rw[Zyo (S:=R) (f:=g) fun i k=>⟨fun q=>⟨h.lt ((t i k).1 q.2),(t i k).1 q.2⟩,fun q=>⟨h1.lt ((t i k).2 q.2),(t i k).2 q.2⟩⟩]
abbrev bqA (o q g r:Int) (T:Value):Array Value:=#[iV o,iV q,iV g,iV r,T]
def Zht (D:Nat) (o q g r:Int) (T:Value) (x:World):Prop:=x.heap[D]?=some (.cells (bqA o q g r T) 27 (0,0))
theorem Zht.below {D:Nat} {o q g r:Int} {T:Value} {x y:World} (h:Zht D o q g r T x) (hb:Below x.heap.size x y):Zht D o q g r T y:=(hb.block _ (Array.getElem?_eq_some_iff.1 h).1).trans h
theorem Zht.lt {D:Nat} {o q g r:Int} {T:Value} {x:World} (h:Zht D o q g r T x):D<x.heap.size:=(Array.getElem?_eq_some_iff.1 h).1
theorem Zht.all {D:Nat} {o q g r:Int} {T:Value} {x:World} (h:Zht D o q g r T x):
 x.cell? (aD D 0)=some (iV o)/\x.cell? (aD D 1)=some (iV q)/\x.cell? (aD D 2)=some (iV g)/\x.cell? (aD D 3)=some (iV r)/\x.cell? (aD D 4)=some T:=by
 refine⟨?_,?_,?_,?_,?_⟩<;>(rw[(Zaa h _).1];rfl)
theorem Zht.free {D:Nat} {o q g r:Int} {T:Value} {x:World} (h:Zht D o q g r T x):
 x.frozen? (aD D 0)=false/\x.frozen? (aD D 1)=false/\x.frozen? (aD D 2)=false/\x.frozen? (aD D 3)=false/\x.frozen? (aD D 4)=false:=
 ⟨(Zaa h 0).2,(Zaa h 1).2,(Zaa h 2).2,(Zaa h 3).2,(Zaa h 4).2⟩
theorem Zht.far {D E:Nat} {o q g r:Int} {T:Value} {x:World} (h:Zht D o q g r T x) (hne:D≠E) (k:Nat) (v:Value):Zht D o q g r T (x.setCell (aD E k) v):=(Below.heap_setCell _ (aD E k) _ _ hne).trans h
theorem Zcg.Yjv {x:World} {u:Option Addr} {L:List (Nat × Nat × Bool)} (h:Zcg x u L) {E:Nat} (hne:∀j,u=some (aD j 0)->j≠E) (k:Nat) (v:Value):Zcg (x.setCell (aD E k) v) u L:=
 h.far (by simp[World.setCell]) fun g hg=>Below.heap_setCell _ (aD E k) _ _ (hne g hg)
end
section
open Go Go.RowKit Go.Shelf
theorem Zeo.one {R:Zag} {g o:Nat} {y z:Option (Nat × Nat)} (h:Zeo R g o y) (k:Zeo R g o z):y=z:=by
 rcases y with _|⟨x,l⟩<;>rcases z with _|⟨x',l'⟩
 · rfl
 · have:=h x' l' k.1;have:=k.2.1;omega
 · have:=k x l h.1;have:=h.2.1;omega
 · have h1:=h.2.2 x' l' k.1 k.2.1
   have h2:=k.2.2 x l h.1 h.2.1;have e1:l=l':=by omega
   have e2:x=x':=by omega
   rw[e1,e2]
def ltF (L:List (Nat × Nat × Bool)) (x:Nat):List (Nat × Nat × Bool):=L.filter fun y=>decide (y.1<x)
def gtF (L:List (Nat × Nat × Bool)) (x:Nat):List (Nat × Nat × Bool):=L.filter fun y=>decide (x<y.1)
theorem Zjk (L:List (Nat × Nat × Bool)) (x:Nat):(ltF L x).length<=L.length:=List.length_filter_le _ _
theorem Zph (L:List (Nat × Nat × Bool)) (x:Nat):(gtF L x).length<=L.length:=List.length_filter_le _ _
theorem Zzx {L:List (Nat × Nat × Bool)} {x j:Nat} (h:j<L.length):ltF (L.take (j+1)) x=if(L.getD j r0).1<x then ltF (L.take j) x++[L.getD j r0]else ltF (L.take j) x:=by
 rw[Zdy h];generalize L.getD j r0=c;unfold ltF;rw[List.filter_append];by_cases e:c.1<x
 · rw[if_pos e];simp[e]
 · rw[if_neg e];simp[e]
theorem Yag {L:List (Nat × Nat × Bool)} {x j:Nat} (h:j<L.length):gtF (L.take (j+1)) x=if x<(L.getD j r0).1 then gtF (L.take j) x++[L.getD j r0]else gtF (L.take j) x:=by
 rw[Zdy h];generalize L.getD j r0=c;unfold gtF;rw[List.filter_append];by_cases e:x<c.1
 · rw[if_pos e];simp[e]
 · rw[if_neg e];simp[e]
def Zm9 (L:List (Nat × Nat × Bool)) (x k:Nat):List (Nat × Nat × Bool):=ltF L x++[(x,k,true)]++gtF L x
theorem Zo3 {R R':Zag} {g g1 x k l a b c:Nat} (h:Til g R a) (h1:Til g1 R' b) (t:Zk0 R R' x k) (hx:∀l,R x≠some (l,true)):tkT R' g1=Zm9 (tkT R g) x k:=by
 unfold tkT Zm9 ltF gtF;rw[Zyp (R:=R) (g:=g) (x:=x) (o:=k) (fun k c=>hx k c.2) fun i l=>⟨fun q=>((t i l).1 q.2).imp id fun c=>⟨h.lt c,c⟩,fun q=>?_⟩]
 · rw[List.map_append,List.map_cons,List.filter_map,List.filter_map]
   simp[Function.comp_def]
 · have e:R' i=some (l,true):=(t i l).2 (q.imp id fun c=>c.2)
   exact⟨h1.lt e,e⟩
def Sc (pg g k:Nat) (r:Int) (R:Zag) (g1 x l:Nat) (r1:Int) (R1:Zag):Prop:=
 Til g1 R1 g1/\Zcf R R1/\Zeo R1 g1 k (some (x,l))/\((g1=g/\R1=R/\r1=r)\/(Zeo R g k none/\Zfl pg g r k (upN g (2^k))=((g1:Int),r1,0)))
def Yh2 (o:Int) (pg g1:Nat) (r1:Int) (L:List (Nat × Nat × Bool)) (x k:Nat) (w:World) (e:Ending) (w':World):Prop:=
 ∃u cap,e=.returned (.tuple #[bqV o (pg:Int) (g1:Int) r1 (.slice u (Zm9 L x k).length cap),iV x,iV 0])/\Zcg w' u (Zm9 L x k)/\Below w.heap.size w w'
end
section
open Go Go.RowKit Go.Shelf
def AC (D E:Nat) (o:Int) (pg g1:Nat) (r1:Int) (p:Option Addr) (m tc:Nat) (L:List (Nat × Nat × Bool)) (w wx:World):Prop:=
 Zht D o (pg:Int) (g1:Int) r1 (.slice p m tc) wx/\Zht E 0 0 0 0 (.slice none 0 0) wx/\Zcg wx p L/\Below w.heap.size w wx
structure LpA (b0:Nat) (w1:World) (l:List (Nat × Nat × Bool)) (v:Value) (x:World):Prop where
 ow:x.ownsRow b0 140 3 v l.length (rnL l)
 be:Below b0 w1 x
 sz:b0<=x.heap.size
theorem Zps (o r:Int) (hr:r<=9223372036854775807) (pg g:Nat) (hpg:pg<=80) (hg:g<=80) (p:Option Addr) (tc:Nat) (R:Zag) (hR:Til g R g) (k:Nat) (hk:k<=10) (w:World) (h:Zcg w p (tkT R g))
 (g1 x l:Nat) (r1:Int) (R1:Zag) (hs:Sc pg g k r R g1 x l r1 R1) (hg1:g1<=80):
 Calls Tryz.prog 57 #[bqV o (pg:Int) (g:Int) r (.slice p (tkT R g).length tc),iV k] w (Yh2 o pg g1 r1 (tkT R g) x k w):=by
 obtain⟨i0,hi0,hz0,hz1,hz2⟩:=info_parts Tryz.Zq0;have HI:=hid hi0;have HZ0:=hid hz0;have HZ1:=hid hz1;have HZ2:=hid hz2
 clear hi0 hz0 hz1 hz2;have HF0:=hid fun X (hX:Zcg X p (tkT R g))=>Zjz o (pg:Int) r g hg p tc R hR k hk X hX
 have HF1:Hid (∀X,Zcg X p (tkT R g)->Calls Tryz.prog 127 #[bqV o (pg:Int) (g1:Int) r1 (.slice p (tkT R g).length tc),iV k] X fun e w'=>e=.returned (iV x)/\Below X.heap.size X w'):=hid fun X hX=>by
  have e:=Zp3 hR hs.1 hs.2.1
  have:=Zjz o (pg:Int) r1 g1 hg1 p tc R1 hs.1 k hk X (by rw[e];exact hX)
  rw[e]at this;refine this.mono ?_;rintro e' w' ⟨y,rfl,hy,hb⟩;rw[hy.one hs.2.2.1]
  exact⟨rfl,hb⟩
 have HGR:=hid fun X=>Zrs o r pg g k hr (by omega) (by omega) hk p (tkT R g).length tc X
 have HLN:Hid ((tkT R g).length<=80):=hid (Nat.le_trans (Ziy R g) hg);have HSC:=hid hs;obtain⟨L,hLL⟩:=eX (tkT R g);rw[hLL]at h HF0 HF1 HGR HLN⊢;obtain⟨m,hm⟩:=eX L.length;have HM:=hid hm;rw[hm]at HF0 HF1 HGR⊢;have hm80:m<=80:=by have:=HLN.out;omega
 have hb0:=((Below.refl w.heap.size w).alloc (Nat.le_refl _) (.cells (bqA o (pg:Int) (g:Int) r (.slice p m tc)) 27)).alloc (by simp) (.cells (bqA 0 0 0 0 (.slice none 0 0)) 27);have hd0:Zht w.heap.size o (pg:Int) (g:Int) r (.slice p m tc) ((w.alloc (.cells (bqA o (pg:Int) (g:Int) r (.slice p m tc)) 27)).alloc (.cells (bqA 0 0 0 0 (.slice none 0 0)) 27)):=(Zbk w _ _ _ _).1;have he0:Zht (w.heap.size+1) 0 0 0 0 (.slice none 0 0) ((w.alloc (.cells (bqA o (pg:Int) (g:Int) r (.slice p m tc)) 27)).alloc (.cells (bqA 0 0 0 0 (.slice none 0 0)) 27)):=(Zbk w _ _ _ _).2;have hr0:=h.below hb0
 have HPW:Hid (∀j,p=some (aD j 0)->L=[]\/j<w.heap.size):=hid fun j hj=>by
  rcases h with e|⟨gb,e,hl,_⟩
  · exact .inl e
  · rw[hj]at e;simp at e;exact .inr (by omega)
 have HA0:Hid (AC w.heap.size (w.heap.size+1) o pg g r p m tc L w ((w.alloc (.cells (bqA o (pg:Int) (g:Int) r (.slice p m tc)) 27)).alloc (.cells (bqA 0 0 0 0 (.slice none 0 0)) 27))):=hid ⟨hd0,he0,hr0,hb0⟩;obtain⟨D,hD⟩:=eX w.heap.size;obtain⟨E,hE⟩:=eX (w.heap.size+1);have HDE:Hid (D≠E/\w.heap.size<=D/\w.heap.size<=E):=hid (by omega);have hk0:¬((k:Int)<0):=by omega
 have hk1:¬(10<(k:Int)):=by omega
 rw[hE,hD]at HA0;have HK:=hid hk;clear h hR hs hLL hm hb0 hd0 he0 hr0 hk hr;go_enter Tryz.func57,Tryz.ntmps57;go_upto_region 1 with fail;obtain⟨y,hy⟩:=eX ((w.alloc (.cells (bqA o (pg:Int) (g:Int) r (.slice p m tc)) 27)).alloc (.cells (bqA 0 0 0 0 (.slice none 0 0)) 27));rw[hy]at HA0⊢
 try rw[hE]
 try rw[hD]
 try rw[show D+1=E from by omega]
 obtain⟨d0,d1,d2,d3,d4⟩:=HA0.out.1.all;clear hy hE hD;go_wp2_with fail
 refine(HF0.out _ HA0.out.2.2.1).mono ?_
 rintro e w1 ⟨yf,rfl,hyf,hb⟩;have HA1:Hid (AC D E o pg g r p m tc L w w1):=hid ⟨HA0.out.1.below hb,HA0.out.2.1.below hb,HA0.out.2.2.1.below hb,HA0.out.2.2.2.trans (hb.mono HA0.out.2.2.2.size)⟩;have HYF:=hid hyf;clear hb hyf d0 d1 d2 d3 d4 HA0 HF0
 go_upto_if 25 with fail
 go_cut[5] (fun s5 wx=>s5=iV 0/\Hid (AC D E o pg g1 r1 p m tc L w wx))
 case first=>
  as_aux_lemma=>
  rcases HSC.out.2.2.2 with⟨rfl,rfl,rfl⟩|⟨hn,hq⟩
  · have hyx:=HYF.out.one HSC.out.2.2.1
    subst hyx;have HV:Hid (Zw4 (some (x,l))=(x:Int)):=hid rfl;rw[HV.out];have hx0:¬((x:Int)<0):=by omega
    go_wp2_with fail
    go_meet
    exact⟨rfl,HA1⟩
  · have hyx:=HYF.out.one hn
    subst hyx;have HV:Hid (Zw4 none= -1):=hid rfl;rw[HV.out];have hgr:=HGR.out;rw[hq]at hgr;have HGR2:=hid hgr;obtain⟨d0,d1,d2,d3,d4⟩:=HA1.out.1.all;clear hgr HGR hq hn;go_wp2_with fail
    refine(HGR2.out _).mono ?_
    rintro e w2 ⟨rfl,hb⟩;have hb2:=hb.alloc hb.size (.cells (bqA o (pg:Int) (g1:Int) r1 (.slice p m tc)) 27);have HD2:=hid (HA1.out.1.below hb2);have HE2:=hid (HA1.out.2.1.below hb2);have HR2:=hid (HA1.out.2.2.1.below hb2);have HB2:=hid (HA1.out.2.2.2.trans (hb2.mono HA1.out.2.2.2.size));have HG2:Hid (Zht w2.heap.size o (pg:Int) (g1:Int) r1 (.slice p m tc) (w2.alloc (.cells (bqA o (pg:Int) (g1:Int) r1 (.slice p m tc)) 27))):=hid (Zab w2 _);clear hb hb2 d0 d1 d2 d3 d4 HGR2;go_upto_region 5 with fail;obtain⟨z,hz⟩:=eX (w2.alloc (.cells (bqA o (pg:Int) (g1:Int) r1 (.slice p m tc)) 27));obtain⟨G7,hG7⟩:=eX w2.heap.size;rw[hz]at HD2 HE2 HR2 HB2 HG2⊢;rw[hG7]at HG2⊢;clear hz hG7;obtain⟨g0,g1',g2,g3,g4⟩:=HG2.out.all;obtain⟨d0,d1,d2,d3,d4⟩:=HD2.out.all;obtain⟨f0,f1,f2,f3,f4⟩:=HD2.out.free
    have HAN:Hid (AC D E o pg g1 r1 p m tc L w (Ze1 z D (iV o) (iV pg) (iV g1) (iV r1) (.slice p m tc))):=hid ⟨Zc2 HD2.out _ _ _ _ _,(Ze4 (fun c=>HDE.out.1 c.symm) _ _ _ _ _).trans HE2.out,(by
     rcases HR2.out with c|⟨gb,e,hgl,hcc⟩
     · exact .inl c
     · rcases HPW.out gb e with c|c
       · exact .inl c
       · exact Zcg.far (.inr ⟨gb,e,hgl,hcc⟩) (by simp[Ze1,World.setCell]) fun j hj=>Ze4 (by rw[e]at hj;simp at hj;have:=HDE.out.2.1;omega) _ _ _ _ _),Zbf HB2.out HDE.out.2.1 _ _ _ _ _⟩
    go_wp2_with fail
    go_meet
    exact⟨rfl,HAN⟩
 case rest=>
  obtain⟨rfl,HA⟩:=hcut;obtain⟨d0,d1,d2,d3,d4⟩:=HA.out.1.all;go_wp2_with fail
  refine(HF1.out _ HA.out.2.2.1).mono ?_
  rintro e w2 ⟨rfl,hb⟩;have HA2:Hid (AC D E o pg g1 r1 p m tc L w w2):=hid ⟨HA.out.1.below hb,HA.out.2.1.below hb,HA.out.2.2.1.below hb,HA.out.2.2.2.trans (hb.mono HA.out.2.2.2.size)⟩;clear hb d0 d1 d2 d3 d4 HA HF1 HGR HYF HA1;obtain⟨d0,d1,d2,d3,d4⟩:=HA2.out.1.all;obtain⟨b0,hb0⟩:=eX w2.heap.size;have HBW:Hid (w.heap.size<=b0/\b0=w2.heap.size/\D<b0/\E<b0):=hid ⟨by rw[<-hb0];exact HA2.out.2.2.2.size,hb0.symm,by rw[<-hb0];exact HA2.out.1.lt,by rw[<-hb0];exact HA2.out.2.1.lt⟩;have HL0:Hid (LpA b0 w2 (ltF (L.take 0) x) (.slice none 0 0) w2):=hid ⟨World.ownsRow_nil _ _ _ _,by rw[<-hb0];exact Below.refl _ _,by omega⟩;clear hb0;go_wp2_with fail
  go_loopw[10,43] (fun v s43 wr=>∃j:Nat,j<=m/\s43=iV j/\Hid (LpA b0 w2 (ltF (L.take j) x) v wr)) (fun _ s43 _=>m-(intOf s43).toNat)
  case atStart=>exact⟨0,Nat.zero_le _,rfl,HL0⟩
  case round=>
   clear HL0 d0 d1 d2 d3 d4;obtain⟨j,hj,rfl,HLP⟩:=hrel;have HWr:Hid (Below w2.heap.size w2 wr):=hid (by rw[<-HBW.out.2.1];exact HLP.out.be);by_cases hjm:j<m
   · have hjm2:(j:Int)<(m:Int):=by omega
     have hjL:j<L.length:=by rw[HM.out];exact hjm
     rcases HA2.out.2.2.1.below HWr.out with e|⟨gb,rfl,hgl,hcc⟩
     · rw[e]at hjL;simp at hjL
     obtain⟨q0,q1,q2⟩:=hcc j hjL;have HWN:=hid (Zzx (x:=x) hjL);obtain⟨c,hcc2⟩:=eX (L.getD j r0);rw[hcc2]at q0 q1 q2 HWN;have HLL:Hid ((ltF (L.take j) x).length<=2000):=hid (Nat.le_trans (Zjk _ _) (by rw[List.length_take];omega));obtain⟨ol,hol⟩:=eX (ltF (L.take j) x);rw[hol]at HWN HLL HLP;clear hcc hjL hcc2 hol hgl;by_cases hca:c.1<x
     · have hW1:=HWN.out
       rw[if_pos hca]at hW1;have HW1:=hid hW1;have hcd:(c.1:Int)<(x:Int):=by omega
       have HB2:=hid ((HLP.out.be.alloc HLP.out.sz (.cells (rnA c) 140)).alloc (by have:=HLP.out.sz;simp;omega) (.cells (rnA c) 140));have hrow2:=(HLP.out.ow.alloc (.cells (rnA c) 140)).alloc (.cells (rnA c) 140);have HR2:=hid hrow2;have hln:=HLL.out;have hsz2:=HLP.out.sz;clear hW1 hca
       go_wp2_with (at_builtin;refine wpList_append_own _ rfl _ _ 25 rfl b0 140 i0 (.agg #[iV 0,iV 0,.bool false]) 3 24 Tryz.underlying25 HI.out HZ0.out HZ1.out HZ2.out rfl (by decide) _ _ _ rfl hrow2 ⟨_,0,none⟩ 1 1 (rnC c) rfl rfl (Zi8 c _ (by simp)) (by simp[rnC,Value.oneCell']) (by unfold maxLen;omega) (by omega) (by simp;omega) ?_;intro v' w3 hown' hgrow _;have hhgrow:=hgrow.size;simp at hhgrow)
       have HNX:Hid (LpA b0 w2 (ol++[c]) v' w3):=hid ⟨by rw[Zdc,List.length_append];simpa[rnL]using hown',Zgf HR2.out hgrow (by simp;omega) HB2.out,by omega⟩;clear hrow2 hown' hgrow hhgrow;go_wp2_with fail;go_roundw
       case rel=>exact⟨j+1,by omega,by go_num,by rw[HW1.out];exact HNX⟩
       case measure=>simp[intOf];omega
     · have hW1:=HWN.out
       rw[if_neg hca]at hW1;have HW1:=hid hW1;have hcd:¬(c.1:Int)<(x:Int):=by omega
       have HNX:Hid (LpA b0 w2 ol _ (wr.alloc (.cells (rnA c) 140))):=hid ⟨HLP.out.ow.alloc (.cells (rnA c) 140),HLP.out.be.alloc HLP.out.sz (.cells (rnA c) 140),by have:=HLP.out.sz;simp;omega⟩;clear hW1 hca;go_wp2_with fail;go_roundw
       case rel=>exact⟨j+1,by omega,by go_num,by rw[HW1.out];exact HNX⟩
       case measure=>simp[intOf];omega
   · obtain rfl:j=m:=by omega
     have HLP2:Hid (LpA b0 w2 (ltF L x) _ wr):=hid (by have:=HLP.out;rw[List.take_of_length_le (by rw[HM.out];exact Nat.le_refl _)]at this;exact this);obtain⟨d0,d1,d2,d3,d4⟩:=(HA2.out.1.below HWr.out).all;have hrow2:=HLP2.out.ow.alloc (.cells (rnA (x,k,true)) 140);have HR2:=hid hrow2;have HB2:=hid (HLP2.out.be.alloc HLP2.out.sz (.cells (rnA (x,k,true)) 140));have hln:(ltF L x).length<=2000:=Nat.le_trans (Zjk _ _) (by have:=HM.out;omega);have hsz2:=HLP2.out.sz;clear d0 d1 d2 d3 d4
     go_wp2_with (at_builtin;refine wpList_append_own _ rfl _ _ 25 rfl b0 140 i0 (.agg #[iV 0,iV 0,.bool false]) 3 24 Tryz.underlying25 HI.out HZ0.out HZ1.out HZ2.out rfl (by decide) _ _ _ rfl hrow2 ⟨_,0,none⟩ 1 1 (rnC (x,k,true)) rfl rfl (Zi8 (x,k,true) _ (by simp)) (by simp[rnC,Value.oneCell']) (by unfold maxLen;omega) (by omega) (by simp;omega) ?_;intro v' w3 hown' hgrow _;have hhgrow:=hgrow.size;simp at hhgrow;have hbw3:=Zgf HR2.out hgrow (by simp;omega) HB2.out;have hd3:Zht D o (pg:Int) (g1:Int) r1 (.slice p j tc) w3:=(hbw3.block D HBW.out.2.2.1).trans HA2.out.1;obtain⟨d0,d1,d2,d3,d4⟩:=hd3.all)
     have HL1:Hid (LpA b0 w2 (ltF L x++[(x,k,true)]++gtF (L.take 0) x) v' w3):=hid ⟨by
      rw[show gtF (L.take 0) x=[]from rfl,List.append_nil,Zdc,List.length_append];simpa[rnL]using hown',hbw3,by omega⟩
     clear hrow2 hown' hgrow hhgrow hbw3 hd3 hln hsz2 HLP2 HLP;obtain⟨m,hmj⟩:=eX j;subst hmj
     go_loopw[10,65] (fun v s65 wr=>∃i:Nat,i<=j/\s65=iV i/\Hid (LpA b0 w2 (ltF L x++[(x,k,true)]++gtF (L.take i) x) v wr)) (fun _ s65 _=>j-(intOf s65).toNat)
     case atStart=>exact⟨0,Nat.zero_le _,rfl,HL1⟩
     case round=>
      clear HL1 d0 d1 d2 d3 d4;obtain⟨i,hi,rfl,HLP⟩:=hrel;have HWr2:Hid (Below w2.heap.size w2 wr):=hid (by rw[<-HBW.out.2.1];exact HLP.out.be);by_cases hjm:i<j
      · have hjm2:(i:Int)<(j:Int):=by omega
        have hjL:i<L.length:=by rw[HM.out];exact hjm
        rcases HA2.out.2.2.1.below HWr2.out with e|⟨gb,rfl,hgl,hcc⟩
        · rw[e]at hjL;simp at hjL
        obtain⟨q0,q1,q2⟩:=hcc i hjL;have HWN:=hid (Yag (x:=x) hjL);obtain⟨c,hcc2⟩:=eX (L.getD i r0);rw[hcc2]at q0 q1 q2 HWN
        have HLL:Hid ((ltF L x++[(x,k,true)]++gtF (L.take i) x).length<=2000):=hid (by
         have h1:=Zjk L x;have h2:=Zph (L.take i) x;rw[List.length_take]at h2
         have:=HM.out
         simp only[List.length_append,List.length_cons,List.length_nil]
         omega)
        have HSN:Hid (∀t:List (Nat × Nat × Bool),ltF L x++[(x,k,true)]++(t++[c])=(ltF L x++[(x,k,true)]++t)++[c]):=hid fun t=>by simp
        clear hcc hjL hcc2 hgl;by_cases hca:x<c.1
        · have hW1:=HWN.out
          rw[if_pos hca]at hW1;have HW1:=hid hW1;have hcd:(x:Int)<(c.1:Int):=by omega
          have HB2:=hid ((HLP.out.be.alloc HLP.out.sz (.cells (rnA c) 140)).alloc (by have:=HLP.out.sz;simp;omega) (.cells (rnA c) 140));obtain⟨ol,hol⟩:=eX (ltF L x++[(x,k,true)]++gtF (L.take i) x);have HOL:=hid hol;rw[hol]at HLL HLP;clear hol;have hrow2:=(HLP.out.ow.alloc (.cells (rnA c) 140)).alloc (.cells (rnA c) 140);have HR2:=hid hrow2;have hln:=HLL.out;have hsz2:=HLP.out.sz;clear hW1 hca
          go_wp2_with (at_builtin;refine wpList_append_own _ rfl _ _ 25 rfl b0 140 i0 (.agg #[iV 0,iV 0,.bool false]) 3 24 Tryz.underlying25 HI.out HZ0.out HZ1.out HZ2.out rfl (by decide) _ _ _ rfl hrow2 ⟨_,0,none⟩ 1 1 (rnC c) rfl rfl (Zi8 c _ (by simp)) (by simp[rnC,Value.oneCell']) (by unfold maxLen;omega) (by omega) (by simp;omega) ?_;intro v' w3 hown' hgrow _;have hhgrow:=hgrow.size;simp at hhgrow)
          have HNX:Hid (LpA b0 w2 (ol++[c]) v' w3):=hid ⟨by rw[Zdc,List.length_append];simpa[rnL]using hown',Zgf HR2.out hgrow (by simp;omega) HB2.out,by omega⟩;clear hrow2 hown' hgrow hhgrow;go_wp2_with fail;go_roundw
          case rel=>exact⟨i+1,by omega,by go_num,by rw[HW1.out,HSN.out,HOL.out];exact HNX⟩
          case measure=>simp[intOf];omega
        · have hW1:=HWN.out
          rw[if_neg hca]at hW1;have HW1:=hid hW1;have hcd:¬(x:Int)<(c.1:Int):=by omega
          have HNX:Hid (LpA b0 w2 (ltF L x++[(x,k,true)]++gtF (L.take i) x) _ (wr.alloc (.cells (rnA c) 140))):=hid ⟨HLP.out.ow.alloc (.cells (rnA c) 140),HLP.out.be.alloc HLP.out.sz (.cells (rnA c) 140),by have:=HLP.out.sz;simp;omega⟩;clear hW1 hca;go_wp2_with fail;go_roundw
          case rel=>exact⟨i+1,by omega,by go_num,by rw[HW1.out];exact HNX⟩
          case measure=>simp[intOf];omega
      · obtain rfl:i=j:=by omega
        have HLE:Hid (LpA b0 w2 (Zm9 L x k) _ wr):=hid (by have:=HLP.out;rw[List.take_of_length_le (by rw[HM.out];exact Nat.le_refl _)]at this;exact this);obtain⟨u,cap,hv,hru,huf⟩:=Zlk HLE.out.ow;subst hv;have hbr:=HWr2.out;have HDr:=hid (HA2.out.1.below hbr);have HEr:=hid (HA2.out.2.1.below hbr);have HBr:=hid (HA2.out.2.2.2.trans (hbr.mono HA2.out.2.2.2.size));have HRU:=hid hru;have HUF:=hid huf
        obtain⟨nl,hnl⟩:=eX ((Zm9 L x k).length);have HNL:=hid hnl;rw[hnl];clear hru huf hbr hnl HLE HLP;obtain⟨d0,d1,d2,d3,d4⟩:=HDr.out.all;obtain⟨k0,k1,k2,k3,k4⟩:=HDr.out.free;obtain⟨e0,e1,e2,e3,e4⟩:=HEr.out.all;obtain⟨f0,f1,f2,f3,f4⟩:=HEr.out.free;have hDE:¬E=D:=fun c=>HDE.out.1 c.symm
        have hDE2:=HDE.out.1;go_wp2_with fail;change bodyPost _ _ _ _ _ (Ze1 (wr.setCell (aD D 4) (.slice u nl cap)) E (iV o) (iV pg) (iV g1) (iV r1) (.slice u nl cap));have hz:Zht E o (pg:Int) (g1:Int) r1 (.slice u nl cap) (Ze1 (wr.setCell (aD D 4) (.slice u nl cap)) E (iV o) (iV pg) (iV g1) (iV r1) (.slice u nl cap)):=Zc2 (HEr.out.far hDE 4 (.slice u nl cap)) _ _ _ _ _;have HZB:=hid (Zbf (HBr.out.setCell (p:=(aD D 4)) HDE.out.2.1 (.slice u nl cap)) HDE.out.2.2 (iV o) (iV pg) (iV g1) (iV r1) (.slice u nl cap));have HZR:=hid ((HRU.out.Yjv (E:=D) (fun j hj=>by have:=HUF.out j hj;have:=HBW.out.2.2.1;omega) 4 (.slice u nl cap)).far (w':=Ze1 (wr.setCell (aD D 4) (.slice u nl cap)) E (iV o) (iV pg) (iV g1) (iV r1) (.slice u nl cap)) (by simp[Ze1,World.setCell]) fun j hj=>Ze4 (by have:=HUF.out j hj;have:=HBW.out.2.2.2;omega) _ _ _ _ _);obtain⟨z,hzz⟩:=eX (Ze1 (wr.setCell (aD D 4) (.slice u nl cap)) E (iV o) (iV pg) (iV g1) (iV r1) (.slice u nl cap));rw[hzz]at hz HZB HZR⊢;clear hzz d0 d1 d2 d3 d4 e0 e1 e2 e3 e4;obtain⟨g0,g1',g2,g3,g4⟩:=hz.all;exact bodyPost_ret (v:=.tuple #[bqV o (pg:Int) (g1:Int) r1 (.slice u nl cap),iV x,iV 0]) (by simp[results,Tryz.results57,go_sem,g0,g1',g2,g3,g4]) rfl ⟨u,cap,by rw[HNL.out],HZR.out,HZB.out⟩
theorem Zpt (o r:Int) (hr:r<=9223372036854775807) (pg g:Nat) (hpg:pg<=80) (hg:g<=80) (p:Option Addr) (tc:Nat) (R:Zag) (hR:Til g R g) (k:Nat) (hk:k<=10) (w:World) (h:Zcg w p (tkT R g))
 (r1 er:Int) (hn:Zeo R g k none) (hq:Zfl pg g r k (upN g (2^k))=((g:Int),r1,er)) (her:er≠0):
 Calls Tryz.prog 57 #[bqV o (pg:Int) (g:Int) r (.slice p (tkT R g).length tc),iV k] w fun e w'=>e=.returned (.tuple #[bqV o (pg:Int) (g:Int) r1 (.slice p (tkT R g).length tc),iV 0,iV er])/\Below w.heap.size w w':=by
 have HF0:=hid fun X (hX:Zcg X p (tkT R g))=>Zjz o (pg:Int) r g hg p tc R hR k hk X hX
 have hgr:=fun X=>Zrs o r pg g k hr (by omega) (by omega) hk p (tkT R g).length tc X
 rw[hq]at hgr;have HGR:=hid hgr;have HNN:=hid hn;obtain⟨L,hLL⟩:=eX (tkT R g);rw[hLL]at h HF0 HGR⊢;obtain⟨m,hm⟩:=eX L.length;rw[hm]at HF0 HGR⊢;have hb0:=((Below.refl w.heap.size w).alloc (Nat.le_refl _) (.cells (bqA o (pg:Int) (g:Int) r (.slice p m tc)) 27)).alloc (by simp) (.cells (bqA 0 0 0 0 (.slice none 0 0)) 27);have hd0:Zht w.heap.size o (pg:Int) (g:Int) r (.slice p m tc) ((w.alloc (.cells (bqA o (pg:Int) (g:Int) r (.slice p m tc)) 27)).alloc (.cells (bqA 0 0 0 0 (.slice none 0 0)) 27)):=(Zbk w _ _ _ _).1;have he0:Zht (w.heap.size+1) 0 0 0 0 (.slice none 0 0) ((w.alloc (.cells (bqA o (pg:Int) (g:Int) r (.slice p m tc)) 27)).alloc (.cells (bqA 0 0 0 0 (.slice none 0 0)) 27)):=(Zbk w _ _ _ _).2;have HA0:Hid (AC w.heap.size (w.heap.size+1) o pg g r p m tc L w ((w.alloc (.cells (bqA o (pg:Int) (g:Int) r (.slice p m tc)) 27)).alloc (.cells (bqA 0 0 0 0 (.slice none 0 0)) 27))):=hid ⟨hd0,he0,h.below hb0,hb0⟩;obtain⟨D,hD⟩:=eX w.heap.size;obtain⟨E,hE⟩:=eX (w.heap.size+1);have HDE:Hid (D≠E/\w.heap.size<=D/\w.heap.size<=E):=hid (by omega);have hk0:¬((k:Int)<0):=by omega
 have hk1:¬(10<(k:Int)):=by omega
 have hee:(er !=0)=true:=by simpa using her
 rw[hE,hD]at HA0;clear h hR hLL hm hb0 hd0 he0 hr hn hq hgr her;go_enter Tryz.func57,Tryz.ntmps57;go_upto_region 1 with fail;obtain⟨y,hy⟩:=eX ((w.alloc (.cells (bqA o (pg:Int) (g:Int) r (.slice p m tc)) 27)).alloc (.cells (bqA 0 0 0 0 (.slice none 0 0)) 27));rw[hy]at HA0⊢
 try rw[hE]
 try rw[hD]
 try rw[show D+1=E from by omega]
 obtain⟨d0,d1,d2,d3,d4⟩:=HA0.out.1.all;clear hy hE hD hk;go_wp2_with fail
 refine(HF0.out _ HA0.out.2.2.1).mono ?_
 rintro e w1 ⟨yf,rfl,hyf,hb⟩;have HA1:Hid (AC D E o pg g r p m tc L w w1):=hid ⟨HA0.out.1.below hb,HA0.out.2.1.below hb,HA0.out.2.2.1.below hb,HA0.out.2.2.2.trans (hb.mono HA0.out.2.2.2.size)⟩;have hyx:=hyf.one HNN.out;subst hyx;have HV:Hid (Zw4 none= -1):=hid rfl;rw[HV.out];clear hb hyf d0 d1 d2 d3 d4 HA0 HF0;obtain⟨d0,d1,d2,d3,d4⟩:=HA1.out.1.all;go_wp2_with fail
 refine(HGR.out _).mono ?_
 rintro e w2 ⟨rfl,hb⟩;have hb2:=hb.alloc hb.size (.cells (bqA o (pg:Int) (g:Int) r1 (.slice p m tc)) 27);have HD2:=hid (HA1.out.1.below hb2);have HE2:=hid (HA1.out.2.1.below hb2);have HB2:=hid (HA1.out.2.2.2.trans (hb2.mono HA1.out.2.2.2.size));have HG2:Hid (Zht w2.heap.size o (pg:Int) (g:Int) r1 (.slice p m tc) (w2.alloc (.cells (bqA o (pg:Int) (g:Int) r1 (.slice p m tc)) 27))):=hid (Zab w2 _);clear hb hb2 d0 d1 d2 d3 d4;go_upto_region 5 with fail;obtain⟨z,hz⟩:=eX (w2.alloc (.cells (bqA o (pg:Int) (g:Int) r1 (.slice p m tc)) 27));obtain⟨G7,hG7⟩:=eX w2.heap.size;rw[hz]at HD2 HE2 HB2 HG2⊢;rw[hG7]at HG2⊢;clear hz hG7;obtain⟨g0,g1',g2,g3,g4⟩:=HG2.out.all;obtain⟨d0,d1,d2,d3,d4⟩:=HD2.out.all;obtain⟨f0,f1,f2,f3,f4⟩:=HD2.out.free;go_upto_region 6 with fail;change Code.wp _ _ _ _ (Ze1 z D (iV o) (iV pg) (iV g) (iV r1) (.slice p m tc));have HD3:Hid (Zht D o (pg:Int) (g:Int) r1 (.slice p m tc) (Ze1 z D (iV o) (iV pg) (iV g) (iV r1) (.slice p m tc))):=hid (Zc2 HD2.out _ _ _ _ _);have HE3:Hid (Zht E 0 0 0 0 (.slice none 0 0) (Ze1 z D (iV o) (iV pg) (iV g) (iV r1) (.slice p m tc))):=hid ((Ze4 (fun c=>HDE.out.1 c.symm) _ _ _ _ _).trans HE2.out);have HB3:=hid (Zbf HB2.out HDE.out.2.1 (iV o) (iV pg) (iV g) (iV r1) (.slice p m tc));obtain⟨z3,hz3⟩:=eX (Ze1 z D (iV o) (iV pg) (iV g) (iV r1) (.slice p m tc));rw[hz3]at HD3 HE3 HB3⊢;clear hz3 d0 d1 d2 d3 d4 f0 f1 f2 f3 f4 g0 g1' g2 g3 g4;obtain⟨d0,d1,d2,d3,d4⟩:=HD3.out.all;obtain⟨e0,e1,e2,e3,e4⟩:=HE3.out.all;obtain⟨f0,f1,f2,f3,f4⟩:=HE3.out.free;go_wp2_with fail;change bodyPost _ _ _ _ _ (Ze1 z3 E (iV o) (iV pg) (iV g) (iV r1) (.slice p m tc));have hz:Zht E o (pg:Int) (g:Int) r1 (.slice p m tc) (Ze1 z3 E (iV o) (iV pg) (iV g) (iV r1) (.slice p m tc)):=Zc2 HE3.out _ _ _ _ _;have HZB:=hid (Zbf HB3.out HDE.out.2.2 (iV o) (iV pg) (iV g) (iV r1) (.slice p m tc));obtain⟨z4,hz4⟩:=eX (Ze1 z3 E (iV o) (iV pg) (iV g) (iV r1) (.slice p m tc));rw[hz4]at hz HZB⊢;clear hz4 d0 d1 d2 d3 d4 e0 e1 e2 e3 e4;obtain⟨g0,g1',g2,g3,g4⟩:=hz.all;exact bodyPost_ret (v:=.tuple #[bqV o (pg:Int) (g:Int) r1 (.slice p m tc),iV 0,iV er]) (by simp[results,Tryz.results57,go_sem,g0,g1',g2,g3,g4]) rfl ⟨rfl,HZB.out⟩
end
end Go.Proofs.YtgcidfenjlmljaaGreat.Bt
