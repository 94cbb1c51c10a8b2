import Derived.Test.YtgcidfenjlmljaaGreatPg35
import Derived.Test.YtgcidfenjlmljaaGreatPg20
import Derived.Test.YtgcidfenjlmljaaGreatPg18
import Derived.Deep.DeepCutAuto
import Derived.Test.YtgcidfenjlmljaaGreatPgR
set_option linter.unusedVariables false
set_option linter.unusedSimpArgs false
set_option maxRecDepth 100000
set_option maxHeartbeats 16000000
namespace Go.Proofs.YtgcidfenjlmljaaGreat.Bt
section
open Go Go.RowKit Go.Shelf
def tkT (R:Zag) (g:Nat):List (Nat × Nat × Bool):=(tkL R g).map fun y=>(y.1,y.2,true)
theorem Zfo {R:Zag} {g i k:Nat} {t:Bool}:(i,k,t)∈tkT R g↔t=true/\i<g/\R i=some (k,true):=by
 unfold tkT;rw[List.mem_map]
 constructor
 · rintro ⟨⟨a,b⟩,h,e⟩
   simp only[Prod.mk.injEq]at e;obtain⟨rfl,rfl,rfl⟩:=e
   exact⟨rfl,Zfp.1 h⟩
 · rintro ⟨rfl,h⟩
   exact⟨(i,k),Zfp.2 h,rfl⟩
theorem Zej {L:List (Nat × Nat × Bool)} {j:Nat} (h:j<L.length):L.getD j r0∈L:=by
 rw[List.getD_eq_getElem?_getD,List.getElem?_eq_getElem h];exact List.getElem_mem h
theorem Zqr {L:List (Nat × Nat × Bool)} {y:Nat × Nat × Bool} (h:y∈L):∃j,j<L.length/\L.getD j r0=y:=by
 obtain⟨j,hj,e⟩:=List.mem_iff_getElem.1 h
 exact⟨j,hj,by rw[List.getD_eq_getElem?_getD,List.getElem?_eq_getElem hj,e];rfl⟩
theorem Ycp (R:Zag) (g:Nat):(tkL R g).length<=g:=Nat.le_trans (List.length_filterMap_le _ _) (Zdq R g)
theorem Ziy (R:Zag) (g:Nat):(tkT R g).length<=g:=by unfold tkT;rw[List.length_map];exact Ycp R g
theorem Yco {g x:Nat} {R:Zag} (h:Til g R x) {j:Nat} (hj:j<(tkT R g).length):((tkT R g).getD j r0).2.1<=10/\((tkT R g).getD j r0).1+2^((tkT R g).getD j r0).2.1<=g:=by
 have:=Zfo.1 (Zej hj)
 have a:=h.al _ _ _ this.2.2
 exact⟨a.1,a.2.2⟩
theorem Zwz {g x:Nat} {R:Zag} (h:Til g R x) (p:Nat):Zev (tkT R g) p=true↔Zha R p:=by
 unfold Zev Zha;rw[List.all_eq_true]
 constructor
 · intro q i k e hc
   have:=q (i,k,true) (Zfo.2 ⟨rfl,h.lt e,e⟩)
   simp[inR]at this;omega
 · rintro q ⟨i,k,t⟩ hm
   have:=(Zfo.1 hm).2.2
   have:=q i k this
   simp[inR];omega
def Zxe (L:List (Nat × Nat × Bool)) (i k j:Nat):Nat × Nat × Bool:=if∃m,m<j/\(L.getD m r0).1=i then(i,k,true)else(i,0,false)
theorem Zxc (L:List (Nat × Nat × Bool)) (i k:Nat):Zxe L i k 0=(i,0,false):=if_neg (fun⟨m,h,_⟩=>by omega)
theorem Yat {L:List (Nat × Nat × Bool)} {i k j:Nat} (h:(L.getD j r0).1=i):Zxe L i k (j+1)=(i,k,true):=if_pos ⟨j,by omega,h⟩
theorem Zxd {L:List (Nat × Nat × Bool)} {i k j:Nat} (h:(L.getD j r0).1≠i):Zxe L i k (j+1)=Zxe L i k j:=by
 unfold Zxe
 congr 1
 exact propext ⟨fun⟨m,h1,h2⟩=>⟨m,by rcases Nat.lt_or_eq_of_le (Nat.le_of_lt_succ h1)with c|c;exact c;subst c;exact absurd h2 h,h2⟩,fun⟨m,h1,h2⟩=>⟨m,by omega,h2⟩⟩
theorem Yau {g x i k:Nat} {t:Bool} {R:Zag} (h:Til g R x) (e:R i=some (k,t)):Zxe (tkT R g) i k (tkT R g).length=(i,if t then k else 0,t):=by
 unfold Zxe;cases t with
 |true=>
  obtain⟨j,hj,ej⟩:=Zqr (Zfo.2 ⟨rfl,h.lt e,e⟩:(i,k,true)∈tkT R g);rw[if_pos ⟨j,hj,by rw[ej]⟩];rfl
 |false=>
  rw[if_neg]
  · rfl
  rintro ⟨m,hm,em⟩;have hmm:=Zej hm;generalize (tkT R g).getD m r0=y at hmm em;obtain⟨a,b,c⟩:=y
  have:=(Zfo.1 hmm).2.2
  simp only at em
  rw[em,e]at this;cases (Zbc this).2
abbrev rnA (y:Nat × Nat × Bool):Array Value:=#[iV (y.1:Int),iV (y.2.1:Int),.bool y.2.2]
def RnV (T:Nat) (y:Nat × Nat × Bool) (x:World):Prop:=x.heap[T]?=some (.cells (rnA y) 140 (0,0))
theorem RnV.below {T:Nat} {y:Nat × Nat × Bool} {x z:World} (h:RnV T y x) (hb:Below x.heap.size x z):RnV T y z:=(hb.block _ (Array.getElem?_eq_some_iff.1 h).1).trans h
theorem RnV.all {T:Nat} {y:Nat × Nat × Bool} {x:World} (h:RnV T y x):x.cell? (aD T 0)=some (iV (y.1:Int))/\x.cell? (aD T 1)=some (iV (y.2.1:Int))/\x.cell? (aD T 2)=some (.bool y.2.2):=by
 refine⟨?_,?_,?_⟩<;>(rw[(Zaa h _).1];rfl)
theorem RnV.free {T:Nat} {y:Nat × Nat × Bool} {x:World} (h:RnV T y x):x.frozen? (aD T 0)=false/\x.frozen? (aD T 1)=false/\x.frozen? (aD T 2)=false:=⟨(Zaa h 0).2,(Zaa h 1).2,(Zaa h 2).2⟩
theorem RnV.set {T:Nat} {y:Nat × Nat × Bool} {x:World} (h:RnV T y x) (z:Nat × Nat × Bool):RnV T z (((x.setCell (aD T 0) (iV (z.1:Int))).setCell (aD T 1) (iV (z.2.1:Int))).setCell (aD T 2) (.bool z.2.2)):=Za8 h rfl _ _ _
theorem RnV.ord {T:Nat} {i k:Nat} {t:Bool} {x:World} (h:RnV T (i,k,t) x) (l:Nat):RnV T (i,l,t) (x.setCell (aD T 1) (iV l)):=by
 have:=heap_set (o:=1) h (iV l)
 exact this
theorem RnV.lt {T:Nat} {y:Nat × Nat × Bool} {x:World} (h:RnV T y x):T<x.heap.size:=(Array.getElem?_eq_some_iff.1 h).1
theorem Zkk {base:Nat} {w x:World} {T:Nat} (h:Below base w x) (hT:base<=T) (u v z:Value):Below base w (((x.setCell (aD T 0) u).setCell (aD T 1) v).setCell (aD T 2) z):=
 ((h.setCell (p:=(aD T 0)) hT u).setCell (p:=(aD T 1)) hT v).setCell (p:=(aD T 2)) hT z
end
section
open Go Go.RowKit Go.Shelf
theorem Yek (o q g r:Int) (p:Option Addr) (tc:Nat) (L:List (Nat × Nat × Bool)) (hL:L.length<=2000) (a:Int) (w:World) (h:Zcg w p L) (k:Int) (ho:Zna L a=.tuple #[iV k,iV 0]):
 Calls Tryz.prog 191 #[bqV o q g r (.slice p L.length tc),iV a] w (Yhv o q g r (wr8 L a) 0 w):=by
 obtain⟨i0,hi0,hz0,hz1,hz2⟩:=info_parts Tryz.Zq0;have HI:=hid hi0;have HZ0:=hid hz0;have HZ1:=hid hz1;have HZ2:=hid hz2
 clear hi0 hz0 hz1 hz2;have HO:=hid fun w (h:Zcg w p L)=>Zrq o q g r p tc L hL a w h
 rw[ho]at HO;have H:=hid h;obtain⟨n,hn⟩:=eX L.length;have HN:=hid hn;have hb0:=(((Below.refl w.heap.size w).alloc (Nat.le_refl _) (.cells #[iV o,iV q,iV g,iV r,.slice p n tc] 27)).alloc (by simp) (.cells #[iV 0,iV 0,iV 0,iV 0,.slice none 0 0] 27));have hx:=((Zab w (.cells #[iV o,iV q,iV g,iV r,.slice p n tc] 27)));have hsz:(w.alloc (.cells #[iV o,iV q,iV g,iV r,.slice p n tc] 27)).heap.size=w.heap.size+1:=by simp
 have hx2:=(((Below.refl (w.alloc (.cells #[iV o,iV q,iV g,iV r,.slice p n tc] 27)).heap.size _).alloc (Nat.le_refl _) (.cells #[iV 0,iV 0,iV 0,iV 0,.slice none 0 0] 27)).block w.heap.size (by simp)).trans hx;have hy:=Zab (w.alloc (.cells #[iV o,iV q,iV g,iV r,.slice p n tc] 27)) (.cells #[iV 0,iV 0,iV 0,iV 0,.slice none 0 0] 27);rw[hsz]at hy;have HB:=hid hb0;have HX:=hid hx2;have HY:=hid hy
 rw[hn]at hL HO⊢;clear h hn hb0 hx hx2 hy hsz ho;go_enter Tryz.func191,Tryz.ntmps191;go_wp2_with fail
 refine(HO.out _ (H.out.below HB.out)).mono ?_
 rintro e w1 ⟨rfl,hb1⟩;have hx1:=(hb1.block _ (Array.getElem?_eq_some_iff.1 HX.out).1).trans HX.out;have hy1:=(hb1.block _ (Array.getElem?_eq_some_iff.1 HY.out).1).trans HY.out;have HBB:=hid (HB.out.trans (hb1.mono HB.out.size));obtain⟨D,hD⟩:=eX w.heap.size;obtain⟨E,hE⟩:=eX (w.heap.size+1);have HDE:Hid (w.heap.size<=E/\D≠E):=hid (by omega);rw[hD]at hx1;rw[hE]at hy1
 rw[hE,hD];have d0:=(Zaa hx1 0).1;have d1:=(Zaa hx1 1).1;have d2:=(Zaa hx1 2).1;have d3:=(Zaa hx1 3).1;have d4:=(Zaa hx1 4).1
 have e0:=(Zaa hy1 0);have e1:=(Zaa hy1 1);have e2:=(Zaa hy1 2);have e3:=(Zaa hy1 3);have e4:=(Zaa hy1 4)
 simp at d0 d1 d2 d3 d4 e0 e1 e2 e3 e4;obtain⟨e0,f0⟩:=e0;obtain⟨e1,f1⟩:=e1;obtain⟨e2,f2⟩:=e2;obtain⟨e3,f3⟩:=e3;obtain⟨e4,f4⟩:=e4
 have HE:=hid hy1;have HD:=hid hx1;have HDW:Hid (w.heap.size<=D):=hid (by omega);have HRN:=hid (H.out.below HBB.out);obtain⟨b0,hb0⟩:=eX w1.heap.size;have HDL:Hid (D<b0):=hid (by have:=(Array.getElem?_eq_some_iff.1 hx1).1;omega);have HEL:Hid (E<b0):=hid (by have:=(Array.getElem?_eq_some_iff.1 hy1).1;omega);have HB1:Hid (Below b0 w1 w1):=hid (by rw[<-hb0];exact Below.refl _ _);clear hb1 hD hE hx1 hy1 HX HY HB HO;clear d0 d1 d2 d3 e0 e1 e2 e3 e4 f0 f1 f2 f3 f4;go_wp2_with fail
 go_loopw[8,10,24] (fun s8 _ s24 wr=>∃j:Nat,j<=n/\s24=iV j/\wr.ownsRow b0 140 3 s8 (wr8 (L.take j) a).length (rnL (wr8 (L.take j) a))/\Below b0 w1 wr/\b0<=wr.heap.size) (fun _ _ s24 _=>n-(intOf s24).toNat)
 case atStart=>exact⟨0,Nat.zero_le _,rfl,World.ownsRow_nil _ _ _ _,HB1.out,by omega⟩
 case round=>
  obtain⟨j,hj,rfl,hrow,hbw,hs0⟩:=hrel;have HRW:=hid hrow;have HBW:=hid hbw
  have hbw':Below w1.heap.size w1 wr:=by rw[hb0];exact hbw
  by_cases hjn:j<n
  · have hjn2:(j:Int)<(n:Int):=by omega
    have hjl:j<L.length:=by have:=HN.out;omega
    rcases HRN.out.below hbw' with e|⟨gb,rfl,hg,hc⟩
    · rw[e]at hjl;simp at hjl
    obtain⟨q0,q1,q2⟩:=hc j hjl;have HWN:=hid (Zyh (a:=a) hjl);obtain⟨c,hcc⟩:=eX (L.getD j r0);rw[hcc]at q0 q1 q2 HWN;have HLN:Hid ((wr8 (L.take j) a).length<=2000):=hid (Nat.le_trans (Zk2 _ _) (by rw[List.length_take];have:=HN.out;omega));obtain⟨ol,hol⟩:=eX (wr8 (L.take j) a);rw[hol]at HWN HLN hrow HRW;clear hc hjl hcc hbw hbw' hol hb0;by_cases hca:(c.1:Int)=a
    · have hW1:=HWN.out
      rw[if_pos hca]at hW1;have HW1:=hid hW1;have d:((c.1:Int) !=a)=false:=by simpa using hca
      have HB2:=hid (HBW.out.alloc hs0 (.cells #[iV (c.1:Int),iV (c.2.1:Int),.bool c.2.2] 140));have HR2:=hid (hrow.alloc (.cells #[iV (c.1:Int),iV (c.2.1:Int),.bool c.2.2] 140));clear hW1 hca hrow;go_wp2_with fail;go_roundw
      case rel=>exact⟨j+1,by omega,by go_num,by rw[HW1.out];exact HR2.out,HB2.out,by simp;omega⟩
      case measure=>simp[intOf];omega
    · have hW1:=HWN.out
      rw[if_neg hca]at hW1;have HW1:=hid hW1;have d:((c.1:Int) !=a)=true:=by simpa using hca
      have HB2:=hid ((HBW.out.alloc hs0 (.cells #[iV (c.1:Int),iV (c.2.1:Int),.bool c.2.2] 140)).alloc (by simp;omega) (.cells #[iV (c.1:Int),iV (c.2.1:Int),.bool c.2.2] 140));have hrow2:=(hrow.alloc (.cells #[iV (c.1:Int),iV (c.2.1:Int),.bool c.2.2] 140)).alloc (.cells #[iV (c.1:Int),iV (c.2.1:Int),.bool c.2.2] 140);have HR2:=hid hrow2;have hln:=HLN.out;clear hW1 hca hrow
      go_wp2_with (at_builtin;refine wpList_append_own _ rfl _ _ 25 rfl b0 140 i0 (.agg #[iV 0,iV 0,.bool false]) 3 24 Tryz.underlying25 HI.out HZ0.out HZ1.out HZ2.out rfl (by decide) _ _ _ rfl hrow2 ⟨_,0,none⟩ 1 1 (rnC c) rfl rfl (Zi8 c _ (by simp)) (by simp[rnC,Value.oneCell']) (by unfold maxLen;omega) (by omega) (by simp;omega) ?_;intro v' w2 hown' hgrow _;have hhgrow:=hgrow.size;simp at hhgrow)
      have HBW2:=hid (Zgf HR2.out hgrow (by simp;omega) HB2.out);have HOW:Hid (w2.ownsRow b0 140 3 v' (ol++[c]).length (rnL (ol++[c]))):=hid (by rw[Zdc];simpa[rnL]using hown');have HS2:Hid (b0<=w2.heap.size):=hid (by omega);clear hrow2 hown' hgrow hhgrow;go_wp2_with fail;go_roundw
      case rel=>exact⟨j+1,by omega,by go_num,by rw[HW1.out];exact HOW.out,HBW2.out,HS2.out⟩
      case measure=>simp[intOf];omega
  · have HT:Hid (L.take j=L):=hid (List.take_of_length_le (by have:=HN.out;omega))
    rw[HT.out]at HRW;obtain⟨p',cap',rfl,hr',hg'⟩:=Yda HRW.out;have HR':=hid hr';have HG':=hid hg'
    have hx1:=(HBW.out.block _ HDL.out).trans HD.out;have hy1:=(HBW.out.block _ HEL.out).trans HE.out;have d0:=(Zaa hx1 0);have d1:=(Zaa hx1 1);have d2:=(Zaa hx1 2);have d3:=(Zaa hx1 3);have d4:=(Zaa hx1 4)
    have e0:=(Zaa hy1 0);have e1:=(Zaa hy1 1);have e2:=(Zaa hy1 2);have e3:=(Zaa hy1 3);have e4:=(Zaa hy1 4)
    simp at d0 d1 d2 d3 d4 e0 e1 e2 e3 e4;obtain⟨d0,k0⟩:=d0;obtain⟨d1,k1⟩:=d1;obtain⟨d2,k2⟩:=d2;obtain⟨d3,k3⟩:=d3;obtain⟨d4,k4⟩:=d4
    obtain⟨e0,f0⟩:=e0;obtain⟨e1,f1⟩:=e1;obtain⟨e2,f2⟩:=e2;obtain⟨e3,f3⟩:=e3;obtain⟨e4,f4⟩:=e4
    have hED:=HDE.out.2;have hDE:¬E=D:=fun q=>hED q.symm
    have HXD:=hid hx1;have HYE:=hid hy1
    clear hx1 hy1 hr' hg' hrow hbw hb0;obtain⟨n',hn'⟩:=eX ((wr8 L a).length);have HN':=hid hn';rw[hn'];clear hn';go_wp2_with fail;change bodyPost _ _ _ _ _ (Ze1 (wr.setCell (aD D 4) (.slice p' n' cap')) E (iV o) (iV q) (iV g) (iV r) (.slice p' n' cap'));have hz:=Zc2 ((Below.heap_setCell wr (aD D 4) (.slice p' n' cap') E hDE).trans HYE.out) (iV o) (iV q) (iV g) (iV r) (.slice p' n' cap');have HZB:=hid (Zbf ((HBB.out.trans (HBW.out.mono (by have:=HDE.out.1;have:=HEL.out;omega))).setCell (p:=(aD D 4)) HDW.out (.slice p' n' cap')) HDE.out.1 (iV o) (iV q) (iV g) (iV r) (.slice p' n' cap'))
    have HZR:=hid (HR'.out.far (w':=Ze1 (wr.setCell (aD D 4) (.slice p' n' cap')) E (iV o) (iV q) (iV g) (iV r) (.slice p' n' cap')) (by simp[Ze1]) fun g' hg=>by
     have h1:=HG'.out g' hg;have h2:=HDL.out;have h3:=HEL.out
     exact(Ze4 (by omega) _ _ _ _ _).trans (Below.heap_setCell wr (aD D 4) _ g' (show g'≠D by omega)))
    obtain⟨z,hzz⟩:=eX (Ze1 (wr.setCell (aD D 4) (.slice p' n' cap')) E (iV o) (iV q) (iV g) (iV r) (.slice p' n' cap'));rw[hzz]at hz HZB HZR⊢;have g0:=(Zaa hz 0).1;have g1:=(Zaa hz 1).1;have g2:=(Zaa hz 2).1;have g3:=(Zaa hz 3).1;have g4:=(Zaa hz 4).1
    simp at g0 g1 g2 g3 g4;exact bodyPost_ret (v:=.tuple #[bqV o q g r (.slice p' n' cap'),iV 0]) (by simp[results,Tryz.results191,go_sem,g0,g1,g2,g3,g4]) rfl ⟨p',cap',by rw[HN'.out],HZR.out,HZB.out⟩
end
section
open Go Go.RowKit Go.Shelf
theorem Yf6 {W:World} {base:Nat} {e:TypeId} {size:Nat} {v:Value} {n:Nat} {xs:List Value} (h:W.ownsRow base e size v n xs) {T:Nat} (hT:W.heap.size<=T):some T≠v.ownBlock:=by
 rcases h.2 with⟨rfl,_⟩|⟨g,cap,cur,rfl,_,hg,_⟩
 · simp[Value.ownBlock]
 · intro q
   have:T=g:=by simpa[Value.ownBlock]using q
   subst this
   have:=(Array.getElem?_eq_some_iff.1 hg).1
   omega
structure RC (D Fb g:Nat) (qc:Array Value) (p:Option Addr) (L:List (Nat × Nat × Bool)) (x:World):Prop where
 d:x.heap[D]?=some (.cells qc 27 (0,0))
 f:Zfe Fb g (Zev L) x
 r:Zcg x p L
theorem RC.below {D Fb g:Nat} {qc:Array Value} {p:Option Addr} {L:List (Nat × Nat × Bool)} {x y:World} (h:RC D Fb g qc p L x) (hb:Below x.heap.size x y):RC D Fb g qc p L y:=
 ⟨(hb.block _ (Array.getElem?_eq_some_iff.1 h.d).1).trans h.d,h.f.below hb,h.r.below hb⟩
def Yhc (L:List (Nat × Nat × Bool)) (w:World) (e:Ending) (w':World):Prop:=
 ∃p cap,e=.returned (.slice p L.length cap)/\Zcg w' p L/\(∀j,p=some (aD j 0)->w.heap.size<=j)/\Below w.heap.size w w'
def muT (T:Nat) (x:World):Nat:=match x.cell? (aD T 1)with
 |some (.int _ v)=>10-v.toNat
 |_=>0
theorem Zn4 (o q r:Int) (g:Nat) (hg:g<=80) (p:Option Addr) (tc:Nat) (R:Zag) (hR:Til g R g) (w:World) (h:Zcg w p (tkT R g)):
 Calls Tryz.prog 77 #[bqV o q (g:Int) r (.slice p (tkT R g).length tc)] w (Yhc (Zbi R g) w):=by
 obtain⟨i0,hi0,hz0,hz1,hz2⟩:=info_parts Tryz.Zq0;have HI:=hid hi0;have HZ0:=hid hz0;have HZ1:=hid hz1;have HZ2:=hid hz2
 clear hi0 hz0 hz1 hz2;have HL:Hid ((tkT R g).length<=80):=hid (Nat.le_trans (Ziy R g) hg);have HFR:=hid fun X (hX:Zcg X p (tkT R g))=>Zxy o q r g (by omega) p tc (tkT R g) (by have:=HL.out;omega) (fun j hj=>Yco hR hj) X hX
 have HT:=hid hR;have H:=hid h;have HCA:=hid fun i k t (e:R i=some (k,t))=>Yau hR e
 have HFI:=hid fun p=>Zwz hR p
 have HTM:Hid (∀j,j<(tkT R g).length->((tkT R g).getD j r0).2.2=true/\R ((tkT R g).getD j r0).1=some (((tkT R g).getD j r0).2.1,true)):=hid fun j hj=>by
  have:=Zfo.1 (Zej hj)
  exact⟨this.1,this.2.2⟩
 obtain⟨L,hLL⟩:=eX (tkT R g);obtain⟨m,hm⟩:=eX L.length;rw[hLL]at HL HFR H HCA HFI HTM⊢;have HM:=hid hm;rw[hm]at HFR⊢;have hm80:m<=80:=by have:=HL.out;omega
 clear h hR hLL hm;have hb0:=(Below.refl w.heap.size w).alloc (Nat.le_refl _) (.cells #[iV o,iV q,iV g,iV r,.slice p m tc] 27);have hd0:=Zab w (.cells #[iV o,iV q,iV g,iV r,.slice p m tc] 27);have HB0:=hid hb0;have HD0:=hid hd0
 clear hb0 hd0;go_enter Tryz.func77,Tryz.ntmps77;go_wp2_with fail
 refine(HFR.out _ (H.out.below HB0.out)).mono ?_
 rintro e w1 ⟨Fb,rfl,hf,hfl,hb⟩;have HC1:Hid (RC w.heap.size Fb g #[iV o,iV q,iV g,iV r,.slice p m tc] p L w1):=hid ⟨(hb.block _ (Array.getElem?_eq_some_iff.1 HD0.out).1).trans HD0.out,hf,(H.out.below HB0.out).below hb⟩;have HB1:=hid (HB0.out.trans (hb.mono HB0.out.size));obtain⟨D,hD⟩:=eX w.heap.size;rw[hD]at HC1;rw[hD];obtain⟨b0,hb0⟩:=eX w1.heap.size;have HBW:Hid (w.heap.size<=b0/\b0=w1.heap.size):=hid ⟨by rw[<-hb0];exact HB1.out.size,hb0.symm⟩;have HR0:Hid (w1.ownsRow b0 140 3 (.slice none 0 0) (Zbi R 0).length (rnL (Zbi R 0))/\Below b0 w1 w1):=hid ⟨World.ownsRow_nil _ _ _ _,by rw[<-hb0];exact Below.refl _ _⟩;clear hf hfl hb hD hb0 HFR HB0 HD0 H;go_wp2_with fail
 go_loopw[4,5] (fun v s5 wr=>∃i:Nat,i<=g/\s5=iV i/\Hid (i=0\/∃j k t,R j=some (k,t)/\j+2^k=i)/\Hid (wr.ownsRow b0 140 3 v (Zbi R i).length (rnL (Zbi R i))/\Below b0 w1 wr)) (fun _ s5 _=>g-(intOf s5).toNat)
 case atStart=>exact⟨0,Nat.zero_le _,rfl,hid (.inl rfl),HR0⟩
 case round=>
  clear HR0;obtain⟨i,hig,rfl,HBG,HRW⟩:=hrel;have HB1r:Hid (Below w1.heap.size w1 wr):=hid (by rw[<-HBW.out.2];exact HRW.out.2);have hc:=HC1.out.below HB1r.out;have HC:=hid hc;have d2:=(Zaa hc.d 2).1;have d4:=(Zaa hc.d 4).1
  simp at d2 d4;clear hc;by_cases hlt:i<g
  · have hlt2:(i:Int)<(g:Int):=by omega
    obtain⟨k,t,hRi⟩:=HT.out.toTile.Ycb hlt HBG.out;have HRI:=hid hRi;have hal:=HT.out.al _ _ _ hRi;have HAL:=hid hal;have HCA2:=hid (HCA.out i k t hRi);clear hRi hal HBG;go_upto_region 6 with fail;obtain⟨z,hz⟩:=eX (wr.alloc (.cells #[iV i,iV 0,.bool false] 140));have HT0:Hid (RnV wr.heap.size (Zxe L i k 0) (wr.alloc (.cells #[iV i,iV 0,.bool false] 140))):=hid (by rw[Zxc];exact Zab wr (.cells #[iV i,iV 0,.bool false] 140));have HBZ:Hid (Below wr.heap.size wr (wr.alloc (.cells #[iV i,iV 0,.bool false] 140))):=hid (Zaj wr _);rw[hz]at HT0 HBZ⊢;obtain⟨T,hTT⟩:=eX wr.heap.size;have HTS:Hid (wr.heap.size<=T):=hid (by omega);have hcz:=HC.out.below HBZ.out;rw[hTT]at HT0⊢;clear hz hTT d2 d4;have d4:=(Zaa hcz.d 4).1;simp at d4;clear hcz;go_wp2_with fail;obtain⟨wo,rfl⟩:∃wo,wo=wr:=⟨_,rfl⟩
    go_loopw[20] (fun s20 x=>∃j:Nat,j<=m/\s20=iV j/\Hid (RnV T (Zxe L i k j) x)/\Hid (Below wo.heap.size wo x)) (fun s20 _=>m-(intOf s20).toNat)
    case atStart=>exact⟨0,Nat.zero_le _,rfl,HT0,HBZ⟩
    case round=>
     clear HT0 HBZ d4;obtain⟨j,hj,rfl,HTX,HBX⟩:=hrel;by_cases hjm:j<m
     · have hjm2:(j:Int)<(m:Int):=by omega
       have hjL:j<L.length:=by rw[HM.out];exact hjm
       rcases(HC.out.below HBX.out).r with e|⟨gb,rfl,hgl,hcc⟩
       · rw[e]at hjL;simp at hjL
       obtain⟨q0,q1,q2⟩:=hcc j hjL;obtain⟨y,hy⟩:=eX (L.getD j r0);obtain⟨y1,y2,y3⟩:=y;have HY:=hid hy;rw[hy]at q0 q1 q2
       simp only at q0 q1 q2
       have HTMj:=hid (HTM.out j hjL);clear hcc hjL hgl hy;go_upto_region 9 with fail;have HX8:Hid (RnV wr.heap.size (y1,y2,y3) (wr.alloc (.cells #[iV y1,iV y2,.bool y3] 140))):=hid (Zab wr _);have HT8:=hid (HTX.out.below (Zaj wr (.cells #[iV y1,iV y2,.bool y3] 140)));have HB8:=hid (HBX.out.alloc HBX.out.size (.cells #[iV y1,iV y2,.bool y3] 140));obtain⟨z2,hz2⟩:∃z,wr.alloc (.cells #[iV y1,iV y2,.bool y3] 140)=z:=⟨_,rfl⟩
       obtain⟨T8,hT8⟩:=eX wr.heap.size;rw[hz2]at HX8 HT8 HB8⊢;rw[hT8]at HX8⊢;clear hz2 hT8 q0 q1 q2;obtain⟨x0,x1,x2⟩:=HX8.out.all;obtain⟨t0,t1,t2⟩:=HT8.out.all;obtain⟨f0,f1,f2⟩:=HT8.out.free
       simp only at x0 x1 x2
       by_cases hya:y1=i
       · subst hya
         have hyy:(y1,y2,y3)=(y1,k,true):=by
          have h1:=HTMj.out;rw[HY.out]at h1
          simp only at h1
          have h2:=HRI.out;rw[h1.2]at h2;have h3:=(Zbc h2).1;have h4:=h1.1;rw[h3,h4]
         simp only[Prod.mk.injEq,true_and]at hyy;obtain⟨rfl,rfl⟩:=hyy
         have HNX:Hid (RnV T (Zxe L y1 y2 (j+1)) (((z2.setCell (aD T 0) (iV y1)).setCell (aD T 1) (iV y2)).setCell (aD T 2) (.bool true))):=hid (by
          rw[Yat (by rw[HY.out])];exact HT8.out.set (y1,y2,true))
         have HNB:=hid (Zkk HB8.out HTS.out (iV y1) (iV y2) (.bool true));go_wp2_with fail;go_roundw
         case rel=>exact⟨j+1,by omega,by go_num,HNX,HNB⟩
         case measure=>simp[intOf];omega
       · have hyb:((y1:Int)==(i:Int))=false:=by rw[beq_eq_false_iff_ne];omega
         have hyc:¬((y1:Int)=(i:Int)):=by omega
         have HNX:Hid (RnV T (Zxe L i k (j+1)) z2):=hid (by rw[Zxd (by rw[HY.out];exact hya)];exact HT8.out);clear hya;go_wp2_with fail;go_roundw
         case rel=>exact⟨j+1,by omega,by go_num,HNX,HB8⟩
         case measure=>simp[intOf];omega
     · obtain rfl:j=m:=by omega
       have HTX2:Hid (RnV T (i,if t then k else 0,t) wr):=hid (by have:=HTX.out;rw[<-HM.out,HCA2.out]at this;exact this);clear HTX;go_wp2_with fail
       go_loopw[] (fun x=>∃l:Nat,l<=10/\Hid (RnV T (i,l,t) x)/\Hid (Below wo.heap.size wo x)/\Hid ((t=true/\l=k)\/(t=false/\l<=k))) (fun x=>muT T x)
       case atStart=>exact⟨if t then k else 0,by have:=HAL.out.1;split<;>omega,HTX2,HBX,hid (by cases t<;>simp)⟩
       case round=>
        clear HTX2 HBX;obtain⟨l,hl10,HTX,HBX,HLK⟩:=hrel;have HMUT:Hid (muT T wr=10-l):=hid (by unfold muT;rw[HTX.out.all.2.1];simp);obtain⟨t0,t1,t2⟩:=HTX.out.all
        simp only at t0 t1 t2
        go_upto_region 12 with fail
        go_cut[55] (fun s55 wx=>s55=.bool (decide (t=false/\l<k))/\wr=wx)
        case first=>
         as_aux_lemma=>
         rcases HLK.out with⟨rfl,rfl⟩|⟨rfl,hlk⟩
         · have HQ:Hid (decide (true=false/\l<l)=false):=hid (by simp)
           go_wp2_with fail
           go_meet
           exact⟨by rw[HQ.out],rfl⟩
         · by_cases hl:l<10
           · have hl2:(l:Int)<10:=by omega
             have HPG:=hid fun X=>Zex (l+1) (by omega) X
             have hl3:IntKind.i64.wrap ((l:Int)+1)=((l+1:Nat):Int):=by rw[IntKind.wrap_i64];omega
             have HL3:=hid hl3;clear hl3;have hp0:=Zae (l+1);have hp1:2^(l+1)<=2^10:=Nat.pow_le_pow_right (by decide) (by omega);have HAB:=hid fun X (hX:Zfe Fb g (Zev L) X)=>Ya7 Fb g (by omega) (Zev L) i (2^(l+1)) (by omega) (by omega) X hX
             have HGM:Hid (l<k->l<10/\i%2^(l+1)=0/\i+2^(l+1)<=g/\∀p,i<=p->p<i+2^(l+1)->Zha R p):=hid fun h=>Zpi HT.out HRI.out h
             have HGE:Hid (l=k->¬(l<10/\i%2^(l+1)=0/\i+2^(l+1)<=g/\∀p,i<=p->p<i+2^(l+1)->Zha R p)):=hid fun h=>by subst h;exact Zs1 HT.out HRI.out
             have HF:=HC.out.below (HBX.out);have HFF:=hid HF.f;clear HF;obtain⟨P,hP⟩:=eX (2^(l+1));obtain⟨l1,hl1⟩:=eX (l+1);rw[hP]at HPG HAB HGM HGE hp0 hp1;rw[hl1]at HPG HL3;have hm:Int.tmod (i:Int) (P:Int)=((i%P:Nat):Int):=by rw[Int.tmod_eq_emod_of_nonneg (by omega)];rfl
             have hP0:¬(P:Int)=0:=by omega
             clear hP hl1;have hl3:=HL3.out;by_cases hz:i%P=0
             · have HZ:=hid hz
               have HEQ:Hid ((decide (i+P<=g)&&Ye7 (Zev L) i P)=decide (l<k)):=hid (by
                by_cases c:l<k
                · obtain⟨_,_,g3,g4⟩:=HGM.out c
                  rw[decide_eq_true c,decide_eq_true g3,Zoc (fun j hj=>(HFI.out _).2 (g4 (i+j) (by omega) (by omega)))];rfl
                · have hkl:l=k:=by omega
                  rw[decide_eq_false c];by_cases g3:i+P<=g
                  · rw[decide_eq_true g3,Bool.true_and]
                    have:∃j,j<P/\Zev L (i+j)=false:=by
                     refine Classical.byContradiction fun hno=>HGE.out hkl ⟨hl,hz,g3,fun p p1 p2=>(HFI.out p).1 ?_⟩
                     cases e:Zev L p with
                     |true=>rfl
                     |false=>exact absurd ⟨p-i,by omega,by rw[show i+(p-i)=p from by omega];exact e⟩ hno
                    obtain⟨j,hj,e⟩:=this;exact Zkz hj e
                  · rw[decide_eq_false g3];rfl)
               rw[hz]at hm;clear hz
               go_wp2_with (first
                |(go_at_call 145;refine(HPG.out _).mono ?_;rintro e w' ⟨rfl,rfl⟩)
                |(go_at_call 146;refine(HAB.out _ HFF.out).mono ?_;rintro e w' ⟨rfl,rfl⟩))
               go_meet
               exact⟨by rw[HEQ.out];simp,rfl⟩
             · have hz2:¬(((i%P:Nat):Int)=0):=by omega
               have HQ:Hid (decide (false=false/\l<k)=false):=hid (by
                rw[decide_eq_false_iff_not];intro c;exact hz (HGM.out c.2).2.1)
               obtain⟨M,hM⟩:=eX (i%P);rw[hM]at hm hz2;clear hz hM
               go_wp2_with (first
                |(go_at_call 145;refine(HPG.out _).mono ?_;rintro e w' ⟨rfl,rfl⟩)
                |(go_at_call 146;refine(HAB.out _ HFF.out).mono ?_;rintro e w' ⟨rfl,rfl⟩))
               go_meet
               exact⟨by rw[HQ.out],rfl⟩
           · have hl2:¬(l:Int)<10:=by omega
             have HQ:Hid (decide (false=false/\l<k)=false):=hid (by
              rw[decide_eq_false_iff_not];have:=HAL.out.1;omega)
             go_wp2_with fail
             go_meet
             exact⟨by rw[HQ.out],rfl⟩
        case rest=>
         obtain⟨rfl,hww⟩:=hcut;subst hww;by_cases c:t=false/\l<k
         · have HQ:Hid (decide (t=false/\l<k)=true):=hid (decide_eq_true c)
           rw[HQ.out];obtain⟨f0,f1,f2⟩:=HTX.out.free;have hlb:l+1<=10:=by have:=HAL.out.1;omega
           have HNX:Hid (RnV T (i,l+1,t) (wr.setCell (aD T 1) (iV ((l:Int)+1)))):=hid (by have:=HTX.out.ord (l+1);rwa [show((l+1:Nat):Int)=(l:Int)+1 from by omega]at this);have HNB:=hid (HBX.out.setCell (p:=(aD T 1)) HTS.out (iV ((l:Int)+1)));have hl3:IntKind.i64.wrap ((l:Int)+1)=(l:Int)+1:=by rw[IntKind.wrap_i64];omega
           have HC2:=hid c;clear c;go_wp2_with fail
           refine⟨⟨l+1,hlb,HNX,HNB,hid (.inr ⟨HC2.out.1,HC2.out.2⟩)⟩,?_⟩
           rw[HMUT.out];unfold muT;rw[HNX.out.all.2.1]
           simp only
           omega
         · have HQ:Hid (decide (t=false/\l<k)=false):=hid (decide_eq_false c)
           rw[HQ.out];have hlk:l=k:=by rcases HLK.out with⟨_,q⟩|⟨q1,q2⟩;exact q;have:¬l<k:=fun q=>c ⟨q1,q⟩;omega
           subst hlk;have hrow:=Zgi HRW.out.1 (HBX.out);have hrow2:=hrow.alloc (.cells (rnA (i,l,t)) 140);have HR2:=hid hrow2;have hb2:Below b0 w1 wr:=HRW.out.2.trans (HBX.out.mono (by have:=HRW.out.2.size;have:=HBW.out;omega));have hsz2:b0<=wr.heap.size:=by have:=hb2.size;have:=HBW.out;omega
           have HB2:=hid (hb2.alloc hsz2 (.cells (rnA (i,l,t)) 140));have HLN:Hid ((Zbi R i).length<=2000):=hid (Nat.le_trans (Zdq R i) (by omega));have HPG:=hid fun X=>Zex l hl10 X
           have HSTP:=hid (Zi6 HT.out.toTile HRI.out);have hal2:=HAL.out.2.2;have hpos:=Zae l;obtain⟨P,hP⟩:=eX (2^l);have HP:=hid hP;rw[hP]at HPG HSTP hal2 hpos;have HE4:Hid (IntKind.i64.wrap ((i:Int)+(P:Int))=((i+P:Nat):Int)):=hid (by rw[IntKind.wrap_i64];omega);clear hP;have HTY:=hid (HTX.out);have HTa:=hid (HTX.out.below (Zaj wr (.cells (rnA (i,l,t)) 140)));have HNE:=hid (Yf6 HRW.out.1 HTS.out);obtain⟨ta0,ta1,ta2⟩:=HTX.out.all;clear c hrow hb2 HQ;have hln:=HLN.out
           go_wp2_with (at_builtin;refine wpList_append_own _ rfl _ _ 25 rfl b0 140 i0 (.agg #[iV 0,iV 0,.bool false]) 3 24 Tryz.underlying25 HI.out HZ0.out HZ1.out HZ2.out rfl (by decide) _ _ _ rfl hrow2 ⟨_,0,none⟩ 1 1 (rnC (i,l,t)) rfl rfl (Zi8 (i,l,t) _ rfl) (by simp[rnC,Value.oneCell']) (by unfold maxLen;omega) (by omega) (by simp;omega) ?_;intro v' w2 hown' hgrow _;have hhgrow:=hgrow.size;simp at hhgrow;have htb:=(hgrow.block T HTa.out.lt HNE.out).trans HTa.out;have tb1:=(RnV.all htb).2.1;simp only at tb1;have HTB:=hid htb;clear htb)
           have HBW2:=hid (Zgf HR2.out hgrow (by simp;omega) HB2.out);have HOW:Hid (w2.ownsRow b0 140 3 v' (Zbi R (i+P)).length (rnL (Zbi R (i+P)))):=hid (by rw[HSTP.out,Zdc,List.length_append];simpa[rnL]using hown');clear hrow2 hown' hgrow hhgrow;have e4:=HE4.out
           refine(HPG.out _).mono ?_
           rintro e w' ⟨rfl,rfl⟩;go_wp2_with fail
           refine⟨⟨i+P,hal2,rfl,hid (.inr ⟨i,l,t,HRI.out,by rw[HP.out]⟩),hid ⟨HOW.out,HBW2.out⟩⟩,by simp[intOf];omega⟩
  · obtain rfl:i=g:=by omega
    obtain⟨q',cap,hv,hr,hq⟩:=Zlk HRW.out.1;subst hv;have HF:Hid (Zcg wr q' (Zbi R i)/\(∀j,q'=some (aD j 0)->w.heap.size<=j)/\Below w.heap.size w wr):=hid ⟨hr,fun j hj=>Nat.le_trans HBW.out.1 (hq j hj),HB1.out.trans (HB1r.out.mono HB1.out.size)⟩;clear hr hq;go_wp2_with fail
    go_ret
    exact⟨q',cap,rfl,HF.out.1,HF.out.2.1,HF.out.2.2⟩
end
end Go.Proofs.YtgcidfenjlmljaaGreat.Bt
