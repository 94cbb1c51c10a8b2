import Derived.Test.YtgcidfenjlmljaaGreatPg17
import GoSem.Claim
import Derived.WalkKit
import Derived.Test.YtgcidfenjlmljaaGreatRows
import Derived.BigQuiet
import Derived.Deep.QuietTactic
import Derived.Lib.Hide
import Derived.Outline
import Derived.Test.YtgcidfenjlmljaaGreatPgR
set_option linter.unusedVariables false
set_option linter.unusedSimpArgs false
set_option maxRecDepth 100000
set_option maxHeartbeats 16000000
namespace Go.Proofs.YtgcidfenjlmljaaGreat.Bt
section
open Go Go.RowKit Go.Shelf
def rnC (y:Nat × Nat × Bool):List Value:=[iV (y.1:Int),iV (y.2.1:Int),.bool y.2.2]
def rnL:List (Nat × Nat × Bool)->List Value
 |[]=>[]
 |y::l=>rnC y++rnL l
theorem Zdc (l l':List (Nat × Nat × Bool)):rnL (l++l')=rnL l++rnL l':=by
 induction l with
 |nil=>rfl
 |cons c l ih=>show rnC c++rnL (l++l')=(rnC c++rnL l)++rnL l';rw[ih,List.append_assoc]
theorem Zva (l:List (Nat × Nat × Bool)) (j:Nat) (h:j<l.length) (k:Nat) (hk:k<3):(rnL l)[j*3+k]?=(rnC (l.getD j r0))[k]?:=by
 induction l generalizing j with
 |nil=>simp at h
 |cons c l ih=>
  show(rnC c++rnL l)[j*3+k]?=_
  rcases j with _|j
  · rw[List.getElem?_append_left (by simp[rnC];omega)];simp
  · rw[List.getElem?_append_right (by simp[rnC];omega)]
    have e:(j+1)*3+k-(rnC c).length=j*3+k:=by simp[rnC];omega
    rw[e,ih j (by simpa using h)];simp
theorem Yf4 {W:World} {base:Nat} {v:Value} {L:List (Nat × Nat × Bool)} (h:W.ownsRow base 140 3 v L.length (rnL L)):∃p cap,v=.slice p L.length cap/\Zcg W p L:=by
 rcases h.2 with⟨rfl,h0⟩|⟨g,cap,cur,rfl,_,hg,hnc,_,hcs,htk⟩
 · exact⟨none,0,by rw[h0],.inl (List.eq_nil_of_length_eq_zero h0)⟩
 · refine⟨_,cap,rfl,.inr ⟨g,rfl,(Array.getElem?_eq_some_iff.1 hg).1,fun j hj=>?_⟩⟩
   have key:∀k,k<3->W.cell? (aD g (j*3+k))=(rnC (L.getD j r0))[k]?:=fun k hk=>by
    rw[(Zaa hg _).1,<-Zva L j hj k hk,<-htk,List.getElem?_take,if_pos (by omega)];simp
   have k0:=key 0 (by omega);have k1:=key 1 (by omega);have k2:=key 2 (by omega)
   exact⟨by simpa[rnC]using k0,by simpa[rnC]using k1,by simpa[rnC]using k2⟩
theorem Zgf {W w1 w:World} {base n k:Nat} {e:TypeId} {v:Value} {xs:List Value} (hrow:W.ownsRow base e k v n xs) (hgrow:W.grownBy w1 v.ownBlock) (hs:base<=W.heap.size) (hb:Below base w W):Below base w w1:=
 hb.grown hgrow (by omega) fun j ej=>by
  rcases hrow.2 with⟨rfl,_⟩|⟨g,cap,cur,rfl,h,_⟩
  · simp[Value.ownBlock]at ej
  · obtain rfl:g=j:=by simpa[Value.ownBlock]using ej
    exact h
theorem Tryz.Zq0:(Tryz.prog.info? 140).map (fun i=>(i.zero,i.size,i.bytes))=some (some (.agg #[iV 0,iV 0,.bool false]),3,24):=by kernel_rfl
theorem Zi8 {w:World} (y:Nat × Nat × Bool) (T:TypeId) {g:Nat} (hg:w.heap.size=g):∀j u,(rnC y)[j]?=some u->(w.alloc (.cells #[iV (y.1:Int),iV (y.2.1:Int),.bool y.2.2] T)).cell? (((aD g 0):Addr).add j)=some u:=fun j u h=>by
 subst hg;have e:((aD w.heap.size 0):Addr).add j=(aD w.heap.size j):=by simp only[Addr.add];split<;>simp_all
 rw[e,(Zaa (Zab w _) _).1,<-h];unfold rnC;simp
def wr8 (L:List (Nat × Nat × Bool)) (a:Int):List (Nat × Nat × Bool):=L.filter fun y=>decide ((y.1:Int)≠a)
theorem Zk2 (L:List (Nat × Nat × Bool)) (a:Int):(wr8 L a).length<=L.length:=List.length_filter_le _ _
theorem Zyh {L:List (Nat × Nat × Bool)} {a:Int} {j:Nat} (h:j<L.length):wr8 (L.take (j+1)) a=if((L.getD j r0).1:Int)=a then wr8 (L.take j) a else wr8 (L.take j) a++[L.getD j r0]:=by
 rw[Zdy h];generalize L.getD j r0=c;unfold wr8;rw[List.filter_append];by_cases e:(c.1:Int)=a
 · rw[if_pos e];simp[e]
 · rw[if_neg e];simp[e]
end
section
open Go Go.RowKit Go.Shelf
theorem Yda {W:World} {base:Nat} {v:Value} {L:List (Nat × Nat × Bool)} (h:W.ownsRow base 140 3 v L.length (rnL L)):∃p cap,v=.slice p L.length cap/\Zcg W p L/\∀g,p=some (aD g 0)->base<=g:=by
 obtain⟨p,cap,rfl,hr⟩:=Yf4 h
 refine⟨p,cap,rfl,hr,fun g hg=>?_⟩
 rcases h.2 with⟨e,h0⟩|⟨g',cap',cur,e,h1,_⟩
 · simp only[Value.slice.injEq]at e;rw[hg]at e;cases e.1
 · simp only[Value.slice.injEq]at e
   rw[hg]at e
   have:=e.1
   simp at this;omega
theorem Zcg.far {w w':World} {p:Option Addr} {L:List (Nat × Nat × Bool)} (h:Zcg w p L) (hs:w.heap.size<=w'.heap.size) (hk:∀g,p=some (aD g 0)->w'.heap[g]?=w.heap[g]?):Zcg w' p L:=by
 rcases h with h|⟨g,e,hg,hc⟩
 · exact .inl h
 · have h2:∀o,w'.cell? (aD g o)=w.cell? (aD g o):=fun o=>World.cell?_of_block (w:=w) (a:=(aD g o)) (hk g e)
   exact .inr ⟨g,e,Nat.lt_of_lt_of_le hg hs,fun j hj=>⟨(h2 _).trans (hc j hj).1,(h2 _).trans (hc j hj).2.1,(h2 _).trans (hc j hj).2.2⟩⟩
def Ze1 (x:World) (E:Nat) (v0 v1 v2 v3 v4:Value):World:=((((x.setCell (aD E 0) v0).setCell (aD E 1) v1).setCell (aD E 2) v2).setCell (aD E 3) v3).setCell (aD E 4) v4
theorem Zc2 {x:World} {E:Nat} {T:TypeId} {a b c d e:Value} (h:x.heap[E]?=some (.cells #[a,b,c,d,e] T (0,0))) (v0 v1 v2 v3 v4:Value):(Ze1 x E v0 v1 v2 v3 v4).heap[E]?=some (.cells #[v0,v1,v2,v3,v4] T (0,0)):=by
 have:=heap_set (o:=4) (heap_set (o:=3) (heap_set (o:=2) (heap_set (o:=1) (heap_set (o:=0) h v0) v1) v2) v3) v4
 simpa[Ze1]using this
theorem Zbf {x w:World} {E base:Nat} (h:Below base w x) (hE:base<=E) (v0 v1 v2 v3 v4:Value):Below base w (Ze1 x E v0 v1 v2 v3 v4):=
 ((((h.setCell (p:=(aD E 0)) hE v0).setCell (p:=(aD E 1)) hE v1).setCell (p:=(aD E 2)) hE v2).setCell (p:=(aD E 3)) hE v3).setCell (p:=(aD E 4)) hE v4
theorem Ze4 {x:World} {E k:Nat} (h:k≠E) (v0 v1 v2 v3 v4:Value):(Ze1 x E v0 v1 v2 v3 v4).heap[k]?=x.heap[k]?:=
 (Below.heap_setCell _ (aD E 4) _ _ h).trans ((Below.heap_setCell _ (aD E 3) _ _ h).trans ((Below.heap_setCell _ (aD E 2) _ _ h).trans ((Below.heap_setCell _ (aD E 1) _ _ h).trans (Below.heap_setCell _ (aD E 0) _ _ h))))
def Yhv (o q g r:Int) (L:List (Nat × Nat × Bool)) (er:Int) (w:World) (e:Ending) (w':World):Prop:=
 ∃p cap,e=.returned (.tuple #[bqV o q g r (.slice p L.length cap),iV er])/\Zcg w' p L/\Below w.heap.size w w'
theorem Yg1 (o q g r:Int) (p:Option Addr) (tc:Nat) (L:List (Nat × Nat × Bool)) (hL:L.length<=2000) (a:Int) (w:World) (h:Zcg w p L) (ho:Zna L a=.tuple #[iV 0,iV 8]):
 Calls Tryz.prog 191 #[bqV o q g r (.slice p L.length tc),iV a] w (Yhv o q g r L 8 w):=by
 have HO:=hid fun w (h:Zcg w p L)=>Zrq o q g r p tc L hL a w h
 rw[ho]at HO;have H:=hid h;obtain⟨n,hn⟩:=eX L.length;have HN:=hid hn;have hb0:=(((Below.refl w.heap.size w).alloc (Nat.le_refl _) (.cells #[iV o,iV q,iV g,iV r,.slice p n tc] 27)).alloc (by simp) (.cells #[iV 0,iV 0,iV 0,iV 0,.slice none 0 0] 27));have hx:=((Zab w (.cells #[iV o,iV q,iV g,iV r,.slice p n tc] 27)));have hsz:(w.alloc (.cells #[iV o,iV q,iV g,iV r,.slice p n tc] 27)).heap.size=w.heap.size+1:=by simp
 have hx2:=(((Below.refl (w.alloc (.cells #[iV o,iV q,iV g,iV r,.slice p n tc] 27)).heap.size _).alloc (Nat.le_refl _) (.cells #[iV 0,iV 0,iV 0,iV 0,.slice none 0 0] 27)).block w.heap.size (by simp)).trans hx;have hy:=Zab (w.alloc (.cells #[iV o,iV q,iV g,iV r,.slice p n tc] 27)) (.cells #[iV 0,iV 0,iV 0,iV 0,.slice none 0 0] 27);rw[hsz]at hy;have HB:=hid hb0;have HX:=hid hx2;have HY:=hid hy
 rw[hn]at hL HO⊢;clear h hn hb0 hx hx2 hy hsz ho;go_enter Tryz.func191,Tryz.ntmps191;go_wp2_with fail
 refine(HO.out _ (H.out.below HB.out)).mono ?_
 rintro e w1 ⟨rfl,hb1⟩;have hx1:=(hb1.block _ (Array.getElem?_eq_some_iff.1 HX.out).1).trans HX.out;have hy1:=(hb1.block _ (Array.getElem?_eq_some_iff.1 HY.out).1).trans HY.out;have HBB:=hid (HB.out.trans (hb1.mono HB.out.size));obtain⟨D,hD⟩:=eX w.heap.size;obtain⟨E,hE⟩:=eX (w.heap.size+1);have HDE:Hid (w.heap.size<=E/\D≠E):=hid (by omega);rw[hD]at hx1;rw[hE]at hy1
 rw[hE,hD];have d0:=(Zaa hx1 0).1;have d1:=(Zaa hx1 1).1;have d2:=(Zaa hx1 2).1;have d3:=(Zaa hx1 3).1;have d4:=(Zaa hx1 4).1
 have e0:=(Zaa hy1 0);have e1:=(Zaa hy1 1);have e2:=(Zaa hy1 2);have e3:=(Zaa hy1 3);have e4:=(Zaa hy1 4)
 simp at d0 d1 d2 d3 d4 e0 e1 e2 e3 e4;obtain⟨e0,f0⟩:=e0;obtain⟨e1,f1⟩:=e1;obtain⟨e2,f2⟩:=e2;obtain⟨e3,f3⟩:=e3;obtain⟨e4,f4⟩:=e4
 have HE:=hid hy1;clear hb1 hD hE hx1 hy1 HX HY HB HO;go_wp2_with fail;change bodyPost _ _ _ _ _ (Ze1 w1 E (iV o) (iV q) (iV g) (iV r) (.slice p n tc));have hz:=Zc2 HE.out (iV o) (iV q) (iV g) (iV r) (.slice p n tc);have HZB:=hid (Zbf HBB.out HDE.out.1 (iV o) (iV q) (iV g) (iV r) (.slice p n tc));obtain⟨z,hzz⟩:=eX (Ze1 w1 E (iV o) (iV q) (iV g) (iV r) (.slice p n tc));rw[hzz]at hz HZB⊢;have g0:=(Zaa hz 0).1;have g1:=(Zaa hz 1).1;have g2:=(Zaa hz 2).1;have g3:=(Zaa hz 3).1;have g4:=(Zaa hz 4).1
 simp at g0 g1 g2 g3 g4;exact bodyPost_ret (v:=.tuple #[bqV o q g r (.slice p n tc),iV 8]) (by simp[results,Tryz.results191,go_sem,g0,g1,g2,g3,g4]) rfl ⟨p,tc,by rw[HN.out],H.out.below HZB.out,HZB.out⟩
end
section
open Go Go.RowKit Go.Shelf
def upN (g P:Nat):Nat:=if g%P=0 then g else g-g%P+P
theorem Zmp {g P:Nat} (hP:0<P):g<=upN g P/\upN g P<g+P/\upN g P%P=0/\∀j,g<=j->j<upN g P->0<j%P:=by
 have h1:=Nat.mod_lt g hP;have h2:=Nat.div_add_mod g P;unfold upN;by_cases h:g%P=0
 · rw[if_pos h];exact⟨Nat.le_refl _,by omega,h,fun j a b=>by omega⟩
 · rw[if_neg h]
   refine⟨by omega,by omega,?_,fun j a b=>?_⟩
   · rw[show g-g%P+P=P*(g/P+1)from by rw[Nat.mul_add,Nat.mul_one];omega,Nat.mul_mod_right]
   · rcases Nat.eq_zero_or_pos (j%P)with e|e
     · have:j=g-g%P:=Zlo (n:=P) e (by rw[show g-g%P=P*(g/P)from by omega,Nat.mul_mod_right]) (by omega) (by omega)
       omega
     · exact e
def Zfl (pg gr r:Int) (on:Nat) (u:Nat):Int × Int × Int:=if pg<((u+2^on:Nat):Int)then(gr,r,4)else if Zn0 r≠0 then(gr,Znz r,Zn0 r)else(((u+2^on:Nat):Int),Znz r,0)
theorem Yg0 (o q g r:Int) (p:Option Addr) (tn tc:Nat) (k:Int) (hk:k<0\/10<k) (w:World):
 Calls Tryz.prog 128 #[bqV o q g r (.slice p tn tc),iV k] w fun e w'=>e=.returned (.tuple #[bqV o q g r (.slice p tn tc),iV 2])/\Below w.heap.size w w':=by
 have hd:decide (k<0)=true\/(decide (k<0)=false/\decide (10<k)=true):=by simp;omega
 have hd':k<0\/(¬k<0/\10<k):=by omega
 clear hd hk;rcases hd' with d1|⟨d1,d2⟩
 all_goals
  go_enter Tryz.func128,Tryz.ntmps128;go_wp2_with fail;have hn0:=Zab (w.alloc (.cells #[iV o,iV q,iV g,iV r,.slice p tn tc] 27)) (.cells #[iV o,iV q,iV g,iV r,.slice p tn tc] 27);have g0:=(Zaa hn0 0).1;have g1:=(Zaa hn0 1).1;have g2:=(Zaa hn0 2).1;have g3:=(Zaa hn0 3).1;have g4:=(Zaa hn0 4).1
  simp at g0 g1 g2 g3 g4;exact bodyPost_ret (v:=.tuple #[bqV o q g r (.slice p tn tc),iV 2]) (by simp[results,Tryz.results128,go_sem,g0,g1,g2,g3,g4]) rfl ⟨rfl,((Below.refl _ _).alloc (Nat.le_refl _) _).alloc (by simp) _⟩
theorem Zrs (o r:Int) (pg g on:Nat) (hr:r<=9223372036854775807) (hpg:pg<=2000) (hg:g<=2000) (hon:on<=10) (p:Option Addr) (tn tc:Nat) (w:World):
 Calls Tryz.prog 128 #[bqV o (pg:Int) (g:Int) r (.slice p tn tc),iV on] w fun e w'=>
  e=.returned (.tuple #[bqV o (pg:Int) (Zfl pg g r on (upN g (2^on))).1 (Zfl pg g r on (upN g (2^on))).2.1 (.slice p tn tc),iV (Zfl pg g r on (upN g (2^on))).2.2])/\Below w.heap.size w w':=by
 have HPG:=hid (fun w=>Zex on hon w);have HCM:=hid (fun w=>Zj0 o (pg:Int) (g:Int) r p tn tc hr w);have h2:2^on<=2^10:=Nat.pow_le_pow_right (by decide) hon;have h3:=Zae on;have HG:∀u,Hid (Zfl pg g r on u=if(pg:Int)<((u+2^on:Nat):Int)then((g:Int),r,4)else if Zn0 r≠0 then((g:Int),Znz r,Zn0 r)else(((u+2^on:Nat):Int),Znz r,0)):=fun u=>hid rfl
 obtain⟨P,hP⟩:=eX (2^on);rw[hP]at h2 h3 HPG HG⊢;obtain⟨u1,u2,u3,u4⟩:=Zmp (g:=g) h3;obtain⟨u,hu⟩:=eX (upN g P);rw[hu]at u1 u2 u3 u4⊢;have HG':=HG u;have HU3:=hid u3;have HU4:=hid u4
 clear hP hu HG u3 u4;have o1:¬((on:Int)<0):=by omega
 have o2:¬(10<(on:Int)):=by omega
 have hb0:=(((Below.refl w.heap.size w).alloc (Nat.le_refl _) (.cells #[iV o,iV pg,iV g,iV r,.slice p tn tc] 27)).alloc (by simp) (.cells #[iV 0,iV 0,iV 0,iV 0,.slice none 0 0] 27));have hsz:(w.alloc (.cells #[iV o,iV pg,iV g,iV r,.slice p tn tc] 27)).heap.size=w.heap.size+1:=by simp
 have hx2:=(((Below.refl (w.alloc (.cells #[iV o,iV pg,iV g,iV r,.slice p tn tc] 27)).heap.size _).alloc (Nat.le_refl _) (.cells #[iV 0,iV 0,iV 0,iV 0,.slice none 0 0] 27)).block w.heap.size (by simp)).trans (Zab w (.cells #[iV o,iV pg,iV g,iV r,.slice p tn tc] 27));have hy:=Zab (w.alloc (.cells #[iV o,iV pg,iV g,iV r,.slice p tn tc] 27)) (.cells #[iV 0,iV 0,iV 0,iV 0,.slice none 0 0] 27);rw[hsz]at hy;go_enter Tryz.func128,Tryz.ntmps128;go_wp2_with fail
 refine(HPG.out _).mono ?_
 rintro e w1 ⟨rfl,rfl⟩;obtain⟨y,hyy⟩:=eX ((w.alloc (.cells #[iV o,iV pg,iV g,iV r,.slice p tn tc] 27)).alloc (.cells #[iV 0,iV 0,iV 0,iV 0,.slice none 0 0] 27));obtain⟨E,hE⟩:=eX (w.heap.size+1);obtain⟨D,hD⟩:=eX w.heap.size;have HDE:Hid (w.heap.size<=E/\D≠E/\w.heap.size<=D):=hid (by omega);rw[hyy]at hb0 hx2 hy⊢;rw[hE]at hy⊢;have hx3:y.heap[D]?=some (.cells #[iV o,iV pg,iV g,iV r,.slice p tn tc] 27):=by rw[<-hD];exact hx2
 rw[hD];clear hx2;have HX:=hid hx3;have HY:=hid hy;have HB:=hid hb0
 have d2:=(Zaa hx3 2).1;simp at d2;clear hyy hE hD hsz hb0 hx3 hy HPG;go_wp2_with fail
 go_loop [7] (fun s=>∃j:Nat,g<=j/\j<=u/\s=iV j) (fun s=>u-(intOf s).toNat)
 case atStart=>exact⟨g,Nat.le_refl _,u1,rfl⟩
 case round=>
  obtain⟨j,hgj,hju,rfl⟩:=hrel;have hm:Int.tmod (j:Int) (P:Int)=((j%P:Nat):Int):=by rw[Int.tmod_eq_emod_of_nonneg (by omega)];rfl
  have hP0:¬(P:Int)=0:=by omega
  by_cases hlt:j<u
  · have h4:=HU4.out j hgj hlt
    have h5:(0:Int)<((j%P:Nat):Int):=by omega
    obtain⟨M,hM⟩:=eX (j%P);rw[hM]at hm h5;clear h4 hM;go_wp2_with fail
    go_round
    case rel=>exact⟨j+1,by omega,by omega,by go_num⟩
    case measure=>simp[intOf];omega
  · obtain rfl:j=u:=by omega
    have h5:¬(0:Int)<((j%P:Nat):Int):=by rw[HU3.out];simp
    obtain⟨M,hM⟩:=eX (j%P);rw[hM]at hm h5;clear hM;have hED:=HDE.out.2.1;have hDE:¬E=D:=fun q=>hED q.symm
    have hjP:((j+P:Nat):Int)=(j:Int)+P:=by omega
    by_cases hcp:(pg:Int)<(j:Int)+(P:Int)
    · have HQ:Hid (Zfl pg g r on j=((g:Int),r,4)):=hid (by rw[HG'.out,hjP,if_pos hcp])
      have hx1:=HX.out;have hy1:=HY.out
      have d0:=(Zaa hx1 0);have d1:=(Zaa hx1 1);have d2:=(Zaa hx1 2);have d3:=(Zaa hx1 3);have d4:=(Zaa hx1 4)
      have e0:=(Zaa hy1 0);have e1:=(Zaa hy1 1);have e2:=(Zaa hy1 2);have e3:=(Zaa hy1 3);have e4:=(Zaa hy1 4)
      simp at d0 d1 d2 d3 d4 e0 e1 e2 e3 e4;obtain⟨d0,k0⟩:=d0;obtain⟨d1,k1⟩:=d1;obtain⟨d2,k2⟩:=d2;obtain⟨d3,k3⟩:=d3;obtain⟨d4,k4⟩:=d4
      obtain⟨e0,f0⟩:=e0;obtain⟨e1,f1⟩:=e1;obtain⟨e2,f2⟩:=e2;obtain⟨e3,f3⟩:=e3;obtain⟨e4,f4⟩:=e4
      clear hx1 hy1 hjP;go_wp2_with fail;change bodyPost _ _ _ _ _ (Ze1 y E (iV o) (iV pg) (iV g) (iV r) (.slice p tn tc));have hz:=Zc2 HY.out (iV o) (iV pg) (iV g) (iV r) (.slice p tn tc);have HZB:=hid (Zbf HB.out HDE.out.1 (iV o) (iV pg) (iV g) (iV r) (.slice p tn tc));obtain⟨z,hzz⟩:=eX (Ze1 y E (iV o) (iV pg) (iV g) (iV r) (.slice p tn tc));rw[hzz]at hz HZB⊢;have g0:=(Zaa hz 0).1;have g1:=(Zaa hz 1).1;have g2:=(Zaa hz 2).1;have g3:=(Zaa hz 3).1;have g4:=(Zaa hz 4).1
      simp at g0 g1 g2 g3 g4;exact bodyPost_ret (v:=.tuple #[.agg #[iV o,iV pg,iV g,iV r,.slice p tn tc],iV 4]) (by simp[results,Tryz.results128,go_sem,g0,g1,g2,g3,g4]) rfl ⟨by rw[HQ.out],HZB.out⟩
    · have hx1:=HX.out;have hy1:=HY.out
      have d0:=(Zaa hx1 0);have d1:=(Zaa hx1 1);have d2:=(Zaa hx1 2);have d3:=(Zaa hx1 3);have d4:=(Zaa hx1 4)
      have e0:=(Zaa hy1 0);have e1:=(Zaa hy1 1);have e2:=(Zaa hy1 2);have e3:=(Zaa hy1 3);have e4:=(Zaa hy1 4)
      simp at d0 d1 d2 d3 d4 e0 e1 e2 e3 e4;obtain⟨d0,k0⟩:=d0;obtain⟨d1,k1⟩:=d1;obtain⟨d2,k2⟩:=d2;obtain⟨d3,k3⟩:=d3;obtain⟨d4,k4⟩:=d4
      obtain⟨e0,f0⟩:=e0;obtain⟨e1,f1⟩:=e1;obtain⟨e2,f2⟩:=e2;obtain⟨e3,f3⟩:=e3;obtain⟨e4,f4⟩:=e4
      clear hx1 hy1;go_wp2_with fail
      refine(HCM.out _).mono ?_
      rintro e w1 ⟨rfl,hb1⟩;have hx1:=(hb1.block _ (Array.getElem?_eq_some_iff.1 HX.out).1).trans HX.out;have hy1:=(hb1.block _ (Array.getElem?_eq_some_iff.1 HY.out).1).trans HY.out;have HBB:=hid (HB.out.trans (hb1.mono HB.out.size));have HX1:=hid hx1;have HY1:=hid hy1
      clear d0 d1 d2 d3 d4 e0 e1 e2 e3 e4 k0 k1 k2 k3 k4 f0 f1 f2 f3 f4 hb1 HX HY HB HCM;have d0:=(Zaa hx1 0);have d1:=(Zaa hx1 1);have d2:=(Zaa hx1 2);have d3:=(Zaa hx1 3);have d4:=(Zaa hx1 4)
      have e0:=(Zaa hy1 0);have e1:=(Zaa hy1 1);have e2:=(Zaa hy1 2);have e3:=(Zaa hy1 3);have e4:=(Zaa hy1 4)
      simp at d0 d1 d2 d3 d4 e0 e1 e2 e3 e4;obtain⟨d0,k0⟩:=d0;obtain⟨d1,k1⟩:=d1;obtain⟨d2,k2⟩:=d2;obtain⟨d3,k3⟩:=d3;obtain⟨d4,k4⟩:=d4
      obtain⟨e0,f0⟩:=e0;obtain⟨e1,f1⟩:=e1;obtain⟨e2,f2⟩:=e2;obtain⟨e3,f3⟩:=e3;obtain⟨e4,f4⟩:=e4
      clear hx1 hy1;have HQ:Hid (Zfl pg g r on j=if Zn0 r≠0 then((g:Int),Znz r,Zn0 r)else(((j+P:Nat):Int),Znz r,0)):=hid (by rw[HG'.out,hjP,if_neg (show¬(pg:Int)<(j:Int)+(P:Int) by omega)]);have HJP:=hid hjP;clear hjP HG';obtain⟨C,hC⟩:=eX (Znz r);obtain⟨er,her⟩:=eX (Zn0 r);rw[hC,her]at HQ;rw[hC,her];clear hC her;go_upto_region 10 with fail;change Code.wp _ _ _ _ (Ze1 w1 D (iV o) (iV pg) (iV g) (iV C) (.slice p tn tc));have hxd:=Zc2 HX1.out (iV o) (iV pg) (iV g) (iV C) (.slice p tn tc);have hye:=(Ze4 hDE (iV o) (iV pg) (iV g) (iV C) (.slice p tn tc)).trans HY1.out;have HB2:=hid (Zbf HBB.out HDE.out.2.2 (iV o) (iV pg) (iV g) (iV C) (.slice p tn tc));obtain⟨z1,hz1⟩:=eX (Ze1 w1 D (iV o) (iV pg) (iV g) (iV C) (.slice p tn tc));rw[hz1]at hxd hye HB2⊢;have HXD:=hid hxd;have HYE:=hid hye
      clear d0 d1 d2 d3 d4 e0 e1 e2 e3 e4 k0 k1 k2 k3 k4 f0 f1 f2 f3 f4 hz1 HX1 HY1 HBB;have d0:=(Zaa hxd 0);have d1:=(Zaa hxd 1);have d2:=(Zaa hxd 2);have d3:=(Zaa hxd 3);have d4:=(Zaa hxd 4)
      have e0:=(Zaa hye 0);have e1:=(Zaa hye 1);have e2:=(Zaa hye 2);have e3:=(Zaa hye 3);have e4:=(Zaa hye 4)
      simp at d0 d1 d2 d3 d4 e0 e1 e2 e3 e4;obtain⟨d0,k0⟩:=d0;obtain⟨d1,k1⟩:=d1;obtain⟨d2,k2⟩:=d2;obtain⟨d3,k3⟩:=d3;obtain⟨d4,k4⟩:=d4
      obtain⟨e0,f0⟩:=e0;obtain⟨e1,f1⟩:=e1;obtain⟨e2,f2⟩:=e2;obtain⟨e3,f3⟩:=e3;obtain⟨e4,f4⟩:=e4
      clear hxd hye;by_cases h0:er=0
      · subst h0
        have HQ2:Hid (Zfl pg g r on j=((j:Int)+(P:Int),C,0)):=hid (by rw[HQ.out,if_neg (by simp),HJP.out]);clear HQ;go_wp2_with fail;change bodyPost _ _ _ _ _ (Ze1 (z1.setCell (aD D 2) (iV ((j:Int)+(P:Int)))) E (iV o) (iV pg) (iV ((j:Int)+(P:Int))) (iV C) (.slice p tn tc));have hz:=Zc2 ((Below.heap_setCell z1 (aD D 2) (iV ((j:Int)+(P:Int))) E hDE).trans HYE.out) (iV o) (iV pg) (iV ((j:Int)+(P:Int))) (iV C) (.slice p tn tc);have HZB:=hid (Zbf (HB2.out.setCell (p:=(aD D 2)) HDE.out.2.2 (iV ((j:Int)+(P:Int)))) HDE.out.1 (iV o) (iV pg) (iV ((j:Int)+(P:Int))) (iV C) (.slice p tn tc));obtain⟨z,hzz⟩:=eX (Ze1 (z1.setCell (aD D 2) (iV ((j:Int)+(P:Int)))) E (iV o) (iV pg) (iV ((j:Int)+(P:Int))) (iV C) (.slice p tn tc));rw[hzz]at hz HZB⊢;have g0:=(Zaa hz 0).1;have g1:=(Zaa hz 1).1;have g2:=(Zaa hz 2).1;have g3:=(Zaa hz 3).1;have g4:=(Zaa hz 4).1
        simp at g0 g1 g2 g3 g4;exact bodyPost_ret (v:=.tuple #[.agg #[iV o,iV pg,iV ((j:Int)+(P:Int)),iV C,.slice p tn tc],iV 0]) (by simp[results,Tryz.results128,go_sem,g0,g1,g2,g3,g4]) rfl ⟨by rw[HQ2.out],HZB.out⟩
      · have HQ2:Hid (Zfl pg g r on j=((g:Int),C,er)):=hid (by rw[HQ.out,if_pos h0])
        clear HQ;go_wp2_with fail;change bodyPost _ _ _ _ _ (Ze1 z1 E (iV o) (iV pg) (iV g) (iV C) (.slice p tn tc));have hz:=Zc2 HYE.out (iV o) (iV pg) (iV g) (iV C) (.slice p tn tc);have HZB:=hid (Zbf HB2.out HDE.out.1 (iV o) (iV pg) (iV g) (iV C) (.slice p tn tc));obtain⟨z,hzz⟩:=eX (Ze1 z1 E (iV o) (iV pg) (iV g) (iV C) (.slice p tn tc));rw[hzz]at hz HZB⊢;have g0:=(Zaa hz 0).1;have g1:=(Zaa hz 1).1;have g2:=(Zaa hz 2).1;have g3:=(Zaa hz 3).1;have g4:=(Zaa hz 4).1
        simp at g0 g1 g2 g3 g4;exact bodyPost_ret (v:=.tuple #[.agg #[iV o,iV pg,iV g,iV C,.slice p tn tc],iV er]) (by simp[results,Tryz.results128,go_sem,g0,g1,g2,g3,g4]) rfl ⟨by rw[HQ2.out],HZB.out⟩
end
end Go.Proofs.YtgcidfenjlmljaaGreat.Bt
namespace Go.Proofs.YtgcidfenjlmljaaGreat.Sz
section
open Go
def Zgc (n:Int):Bool:=decide (0<=n/\n<=4294967296)
def Za6 (a:Int):Bool:=decide (a∈[1,2,4,8,16,32,64,128,256,512,1024,2048,4096])
def upV (n a:Int):Int:=if Zgc n&&Za6 a then(n+a-1)/a*a else 0
def upB (n a:Int):Bool:=Zgc n&&Za6 a
def pgV (n:Int):Int:=if Zgc n then(n+4095)/4096 else 0
def Zna (p:Int):Int:=if p<1 then 0 else if p<=1 then 0 else if p<=2 then 1 else if p<=4 then 2 else if p<=8 then 3 else if p<=16 then 4 else if p<=32 then 5 else if p<=64 then 6 else if p<=128 then 7 else if p<=256 then 8 else if p<=512 then 9 else if p<=1024 then 10 else 0
def Yf7 (p:Int):Bool:=decide (1<=p/\p<=1024)
def Zou (o:Int):Int:=if o<0 then 0 else if 10<o then 0 else 4096*2^o.toNat
def pw (j:Nat):Int:=2^j
theorem Zeu {n:Int} (h:Zgc n=true):0<=n/\n<=4294967296:=by simpa[Zgc]using h
theorem Zpc {n:Int} (h:0<=n/\n<=4294967296):Zgc n=true:=by simpa[Zgc]using h
theorem Zwd {n:Int} (h:¬(0<=n/\n<=4294967296)):Zgc n=false:=by simpa[Zgc]using h
theorem Zhv {a:Int} (h:Za6 a=true):a=1\/a=2\/a=4\/a=8\/a=16\/a=32\/a=64\/a=128\/a=256\/a=512\/a=1024\/a=2048\/a=4096:=by
 simpa[Za6]using h
theorem Zhu {a:Int} (h:Za6 a=true):1<=a/\a<=4096:=by
 rcases Zhv h with h|h|h|h|h|h|h|h|h|h|h|h|h<;>omega
theorem Yfe {n a:Int} (h:Zgc n=true) (ha:Za6 a=true):n<=(n+a-1)/a*a/\(n+a-1)/a*a<=4294967296/\(n+a-1)/a*a-n<a/\(n+a-1)/a*a%a=0:=by
 have:=Zeu h
 rcases Zhv ha with rfl|rfl|rfl|rfl|rfl|rfl|rfl|rfl|rfl|rfl|rfl|rfl|rfl<;>omega
theorem Zvg (j:Nat):pw (j+1)=2*pw j:=by unfold pw;rw[Int.pow_succ];omega
theorem Ybp (j:Nat):1<=pw j:=by
 induction j with
 |zero=>decide
 |succ j ih=>rw[Zvg];omega
theorem Zvh {i j:Nat} (h:i<=j):pw i<=pw j:=by
 induction h with
 |refl=>omega
 |step _ ih=>rw[Zvg];have:=Ybp i;omega
theorem Yc6:pw 10=1024:=by decide
theorem Zj9:∀i:Fin 64,∀j:Fin 64,(bits .and .i64 ((64*i.val+j.val+1:Nat):Int) (((64*i.val+j.val+1:Nat):Int)-1)==0)=Za6 ((64*i.val+j.val+1:Nat):Int):=by decide+kernel
theorem Zr1 (a:Int) (h1:1<=a) (h2:a<=4096):(bits .and .i64 a (a-1)==0)=Za6 a:=by
 obtain⟨k,rfl⟩:∃k:Nat,a=((k+1:Nat):Int):=⟨(a-1).toNat,by omega⟩
 have h:=Zj9 ⟨k/64,by omega⟩ ⟨k%64,by omega⟩
 simpa[show 64*(k/64)+k%64=k from by omega]using h
theorem Zp1 (a:Int) (h:a<1\/4096<a):Za6 a=false:=by
 cases hw:Za6 a with
 |false=>rfl
 |true=>have:=Zhu hw;omega
end
section
open Go Go.RowKit
theorem Zhm (n:Int) (w:World):Calls Tryz.prog 155 #[.int .i64 n] w fun e w'=>e=.returned (.bool (Zgc n))/\w=w':=by
 by_cases h:0<=n
 · by_cases h2:n<=4294967296
   · rw[Zpc ⟨h,h2⟩]
     go_enter Tryz.func155,Tryz.ntmps155
     go_wp2
     go_ret
     exact⟨rfl,rfl⟩
   · rw[Zwd (by omega)]
     go_enter Tryz.func155,Tryz.ntmps155
     go_wp2
     go_ret
     exact⟨rfl,rfl⟩
 · rw[Zwd (by omega)]
   go_enter Tryz.func155,Tryz.ntmps155
   go_wp2
   go_ret
   exact⟨rfl,rfl⟩
theorem Zml (a:Int) (w:World):Calls Tryz.prog 156 #[.int .i64 a] w fun e w'=>e=.returned (.bool (Za6 a))/\w=w':=by
 by_cases h1:1<=a
 · by_cases h2:a<=4096
   · rw[<-Zr1 a h1 h2]
     go_enter Tryz.func156,Tryz.ntmps156
     go_wp2
     go_ret
     exact⟨rfl,rfl⟩
   · rw[Zp1 a (by omega)]
     go_enter Tryz.func156,Tryz.ntmps156
     go_wp2
     go_ret
     exact⟨rfl,rfl⟩
 · rw[Zp1 a (by omega)]
   go_enter Tryz.func156,Tryz.ntmps156
   go_wp2
   go_ret
   exact⟨rfl,rfl⟩
end
section
open Go Go.RowKit
theorem Zk3 (n a:Int) (w:World):Calls Tryz.prog 87 #[.int .i64 n,.int .i64 a] w fun e w'=>e=.returned (.tuple #[.int .i64 (upV n a),.bool (upB n a)])/\w=w':=by
 unfold upV upB;cases hs:Zgc n with
 |false=>
  have HS:=Lib.hid hs;clear hs
  go_enter Tryz.func87,Tryz.ntmps87
  go_wp2_with (go_at_call 155;refine(Zhm _ _).mono ?_;rw[HS.out];rintro e w' ⟨rfl,rfl⟩)
  go_ret2
  exact⟨rfl,rfl⟩
 |true=>
  cases ha:Za6 a with
  |false=>
   have HS:=Lib.hid hs;clear hs
   have HA:=Lib.hid ha;clear ha
   go_enter Tryz.func87,Tryz.ntmps87
   go_wp2_with (first|(go_at_call 155;refine(Zhm _ _).mono ?_;rw[HS.out];rintro e w' ⟨rfl,rfl⟩)|(go_at_call 156;refine(Zml _ _).mono ?_;rw[HA.out];rintro e w' ⟨rfl,rfl⟩))
   go_ret2
   exact⟨rfl,rfl⟩
  |true=>
   have hr:=Zhu ha;have hn:=Zeu hs;obtain⟨b1,b2,_,_⟩:=Yfe hs ha;have HS:=Lib.hid hs;clear hs
   have HA:=Lib.hid ha;clear ha
   go_enter Tryz.func87,Tryz.ntmps87
   go_wp2_with (first|(go_at_call 155;refine(Zhm _ _).mono ?_;rw[HS.out];rintro e w' ⟨rfl,rfl⟩)|(go_at_call 156;refine(Zml _ _).mono ?_;rw[HA.out];rintro e w' ⟨rfl,rfl⟩))
   go_ret2
   exact⟨rfl,rfl⟩
theorem Zo1 (n:Int) (w:World):Calls Tryz.prog 174 #[.int .i64 n] w fun e w'=>e=.returned (.tuple #[.int .i64 (pgV n),.bool (Zgc n)])/\w=w':=by
 have hb:0<=upV n 4096/\upV n 4096<=4294967296:=by
  unfold upV;cases hs:Zgc n with
  |false=>simp
  |true=>have:=Zeu hs;have hw:Za6 4096=true:=by decide
         rw[hw];simp;omega
 have HE:Hid (upV n 4096/4096=pgV n):=by
  refine Lib.hid ?_;unfold upV pgV;cases hs:Zgc n with
  |false=>simp
  |true=>have:=Zeu hs;have hw:Za6 4096=true:=by decide
         rw[hw];simp;omega
 have HB:Hid (upB n 4096=Zgc n):=by
  refine Lib.hid ?_;unfold upB;have hw:Za6 4096=true:=by decide
  rw[hw];simp
 go_enter Tryz.func174,Tryz.ntmps174
 go_wp2_with (go_at_call 87;refine(Zk3 _ _ _).mono ?_;rintro e w' ⟨rfl,rfl⟩)
 go_ret2
 exact⟨by simp[HE.out,HB.out],rfl⟩
end
end Go.Proofs.YtgcidfenjlmljaaGreat.Sz
