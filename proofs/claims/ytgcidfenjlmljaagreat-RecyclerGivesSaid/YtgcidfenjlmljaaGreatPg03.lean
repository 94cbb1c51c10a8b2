import Derived.Test.YtgcidfenjlmljaaGreatPg02
import Derived.RangeFuncBox
import Derived.RangeFuncLeaves
import Derived.Shelf.Abstract
import Derived.OwnWalkIn
import Derived.TacticsInMore
import Derived.LoopNIn
import Derived.LoopIn
import Derived.RangeFuncNested
import Derived.RangeFuncBound
import Derived.RangeFuncCalls
import Derived.Shelf.RegionOpen
import Derived.Maps.AppendAt
import Derived.Test.YtgcidfenjlmljaaGreatPgR
set_option linter.unusedVariables false
set_option linter.unusedSimpArgs false
set_option maxRecDepth 100000
set_option maxHeartbeats 16000000
namespace Go.Proofs.YtgcidfenjlmljaaGreat.Bt
section
open Go Go.RowKit Go.Shelf
attribute [local go_sem] Oper.semAt_some
abbrev Pr:={x:Nat × Nat//0<x.2/\x.1+x.2<=1048576}
def Ydh (a c:Nat):Pr:=if h:a<c/\c<=1048576 then⟨(a,c-a),by omega,by simp;omega⟩else⟨(0,1),by decide,by decide⟩
def Zw8 (x:Pr):Array Value:=#[iV (x.1.1:Int),iV (x.1.2:Int)]
def Zgu (es:List Nat) (j:Nat):Pr:=Ydh (es.getD (2*j) 0) (es.getD (2*j+1) 0)
def Zdl (es:List Nat) (k:Nat):List Pr:=(List.range k).map (Zgu es)
theorem Zh1 (es:List Nat) (k:Nat):Zdl es (k+1)=Zdl es k++[Zgu es k]:=by simp[Zdl,List.range_succ]
theorem Zkb (es:List Nat) (k:Nat):(Zdl es k).length=k:=by simp[Zdl]
def Zgh (es:List Nat):List Pr:=Zdl es (es.length/2)
theorem Zvk {L:Nat} {es:List Nat} (g:Good L es) {j:Nat} (hj:2*j+1<es.length):
 (Zgu es j).1.1=es.getD (2*j) 0/\((Zgu es j).1.2:Int)=(es.getD (2*j+1) 0:Int)-(es.getD (2*j) 0:Int):=by
 have h1:=Zeq g.rising (show 2*j<2*j+1 by omega) hj
 have h2:es.getD (2*j+1) 0<=L:=by
  apply g.le;rw[List.getD_eq_getElem?_getD,List.getElem?_eq_getElem hj];exact List.getElem_mem _
 have h3:=g.small;have h:es.getD (2*j) 0<es.getD (2*j+1) 0/\es.getD (2*j+1) 0<=1048576:=by omega
 unfold Zgu Ydh;rw[dif_pos h]
 refine⟨rfl,?_⟩
 show((es.getD (2*j+1) 0-es.getD (2*j) 0:Nat):Int)=_
 omega
def K2 (x y:Nat) (W W':World):Prop:=W'.heap[x]?=W.heap[x]?/\W'.heap[y]?=W.heap[y]?
theorem K2.refl {x y:Nat} (W:World):K2 x y W W:=⟨rfl,rfl⟩
theorem K2.trans {x y:Nat} {A B C:World} (h:K2 x y A B) (k:K2 x y B C):K2 x y A C:=⟨k.1.trans h.1,k.2.trans h.2⟩
theorem K2.drew {x y:Nat} (W:World):K2 x y W W.drew:=⟨rfl,rfl⟩
theorem K2.one {x y:Nat} {A B:World} (h:K2 x y A B) (o:Nat):B.cell? (aD x o)=A.cell? (aD x o):=World.cell?_of_block (w:=A) (a:=(aD x o)) h.1
theorem K2.two {x y:Nat} {A B:World} (h:K2 x y A B) (o:Nat):B.cell? (aD y o)=A.cell? (aD y o):=World.cell?_of_block (w:=A) (a:=(aD y o)) h.2
theorem K2.put {x y:Nat} {w:World} (hx:x<w.heap.size) (hy:y<w.heap.size) (W:World) (l:Nat) (o o':Obj) (hl:w.heap.size<=l) (_:W.heap[l]?=some o) (_:o.isCells=false) (_:o.isWalk=false):K2 x y W (W.putObj l o'):=
 ⟨World.putObj_heap_other (by omega),World.putObj_heap_other (by omega)⟩
theorem Zyz (n:Nat) (l Bs b off L m cap:Nat) (es:List Nat) (g:Good L es) (hm:m=es.length) (J Jx:List Pr->World->Prop) (hdr:∀pre X,J pre X->J pre X.drew)
 (hY:∀pre x W,J pre W->pre.length<es.length/2->YieldAt Fence.wide (n-1) Tryz.prog l (Zw8 x) W fun e W'=>
  (e=.returned (.bool true)/\J (pre++[x]) W'/\K2 Bs b W W')\/(e=.returned (.bool false)/\Jx (pre++[x]) W'))
 (W:World) (hB1:W.cell? (aD Bs 1)=some (.slice (some (aD b off)) m cap)) (hc:∀j,j<es.length->W.cell? (aD b (off+j))=some (iV ((es.getD j 0:Nat):Int))) (h0:J [] W):
 CallsIn Fence.wide n Tryz.prog 224 #[.func (.yield l) #[] #[],pT Bs] W fun e W'=>(∃v,e=.returned v)/\
  ((∃ys,ys=Zgh es/\J ys W')\/(∃pre,(∃k,k<=es.length/2/\pre=Zdl es k)/\Jx pre W')):=by
 have hgl:=Zct g;have hev:=g.even;have HM:=hid hm;have hm2:m<=1048577:=by omega
 clear hm;refine callsIn_of_wp Tryz.func224 rfl trivial ?_ rfl;simp only[Tryz.ntmps224,List.size_toArray,List.length_cons,List.length_nil,Nat.reduceAdd,Nat.reduceSub,Array.replicate_succ,Array.replicate_zero,List.push_toArray,List.append_toArray,List.nil_append,List.cons_append]
 gi_wp2
 gi_loopw [3] (fun i wr=>∃k:Nat,2*k<=m/\i=iV (2*k:Nat)/\J (Zdl es k) wr/\K2 Bs b W wr)
  (fun i _=>m-(intOf i).toNat)
 case atStart=>exact⟨0,by omega,rfl,h0,K2.refl _⟩
 case round=>
  obtain⟨k,hk,rfl,hJs,hnx⟩:=hrel;have HC:=hid hc;clear hc
  have hbx:wr.cell? (aD Bs 1)=some (.slice (some (aD b off)) m cap):=(hnx.one 1).trans hB1;by_cases hlt:2*k+1<m
  · have hlt':2*k+1<es.length:=by rw[<-HM.out];exact hlt
    obtain⟨p1,p2⟩:=Zvk g hlt';obtain⟨x,hx⟩:=eX (Zgu es k);rw[hx]at p1 p2;obtain⟨u,hu⟩:=eX (es.getD (2*k) 0:Nat);obtain⟨v,hv⟩:=eX (es.getD (2*k+1) 0:Nat);have hcu:wr.cell? (aD b (off+2*k))=some (iV u):=by rw[hnx.two,HC.out _ (by omega),hu]
    have hcv:wr.cell? (aD b (off+(2*k+1)))=some (iV v):=by rw[hnx.two,HC.out _ (by omega),hv]
    rw[hu,hv]at p2;rw[hu]at p1
    obtain⟨fn,tmps,assign,body,hy,hR⟩:=hY _ x wr.drew (hdr _ _ hJs) (by rw[Zkb];omega);have hxx:=x.2;simp only[Zw8]at hy;rw[p1,p2]at hy;have hvb:v<=1048576/\u<v:=by omega
    have HX:=hid hx;have HU:=hid hu;have HV:=hid hv;have HP1:=hid p1;have HP2:=hid p2
    clear hx hu hv p1 p2;have w1:IntKind.i64.wrap (2*(k:Int)+1)=2*(k:Int)+1:=IntWalk.i64_in _ (by omega);have w2:IntKind.i64.wrap ((v:Int)-u)=(v:Int)-u:=IntWalk.i64_in _ (by omega);have w3:(2*(k:Int)+1).toNat=2*k+1:=by omega
    have w4:0<=2*(k:Int)+1:=by omega
    have w5:2*(k:Int)+1<m:=by omega
    have w6:0<=2*(k:Int):=by omega
    have w7:2*(k:Int)<m:=by omega
    have w8:(2*(k:Int)).toNat=2*k:=by omega
    gi_wp2
    refine Zit 18 (by kernel_rfl) (by kernel_rfl) ?_;simp only[List.take_succ_cons,List.take_zero,List.drop_succ_cons,List.drop_zero]
    repeat still_step
    refine wpStill_nil ?_;clear w1 w2 w3 w8
    gi_wp2
    refine⟨fun hd=>by simp[Fence.wide]at hd,hR.mono ?_⟩
    rintro e W3 (⟨rfl,hJ3,hk3⟩|⟨rfl,hJx3⟩)
    · gi_wp2
      go_roundw
      case rel=>exact⟨k+1,by omega,by go_num,by rw[Zh1,HX.out];exact hJ3,hnx.trans ((K2.drew _).trans hk3)⟩
      case measure=>simp[intOf];omega
    · gi_wp2
      refine bodyPost_ret (results_none rfl _ _ _) rfl ?_
      exact⟨⟨_,rfl⟩,.inr ⟨_,⟨k+1,by have:=HM.out;omega,by rw[Zh1,HX.out]⟩,hJx3⟩⟩
  · have hke:k=es.length/2:=by have:=HM.out;omega
    have HK:=hid hke;clear hke
    gi_wp2
    go_end0
    exact⟨⟨_,rfl⟩,.inl ⟨_,by unfold Zgh;rw[<-HK.out],hJs⟩⟩
theorem Zu6 (n:Nat) (l Bs:Nat) (cap:Nat) (J:List Pr->World->Prop) (W:World) (hB1:W.cell? (aD Bs 1)=some (.slice none 0 cap)) (h0:J [] W):
 CallsIn Fence.wide n Tryz.prog 224 #[.func (.yield l) #[] #[],pT Bs] W fun e W'=>(∃v,e=.returned v)/\J [] W':=by
 refine callsIn_of_wp Tryz.func224 rfl trivial ?_ rfl;simp only[Tryz.ntmps224,List.size_toArray,List.length_cons,List.length_nil,Nat.reduceAdd,Nat.reduceSub,Array.replicate_succ,Array.replicate_zero,List.push_toArray,List.append_toArray,List.nil_append,List.cons_append]
 gi_wp2
 gi_loopw [3] (fun i wr=>i=iV 0/\J [] wr/\wr.cell? (aD Bs 1)=some (.slice none 0 cap)) (fun _ _=>0)
 case atStart=>exact⟨rfl,h0,hB1⟩
 case round=>
  obtain⟨rfl,hJs,hc⟩:=hrel
  gi_wp2
  go_end0
  exact⟨⟨_,rfl⟩,hJs⟩
def Yet (b:Nat) (w:World) (p:Option Addr) (es:List Nat):Prop:=(p=none/\es=[])\/∃off,p=some (aD b off)/\∀k,k<es.length->w.cell? (aD b (off+k))=some (iV ((es.getD k 0:Nat):Int))
theorem Zkl (n:Nat) (Bs b L m cap:Nat) (p:Option Addr) (es:List Nat) (g:Good L es) (hm:m=es.length) (w:World) (hBs:Bs<w.heap.size) (hb:b<w.heap.size) (hB1:w.cell? (aD Bs 1)=some (.slice p m cap)) (hrow:Yet b w p es):
 SeqStopsK Fence.wide n Tryz.prog 224 #[pT Bs] Zw8 (K2 Bs b) (fun ys=>ys=Zgh es) (fun pre=>∃k,k<=es.length/2/\pre=Zdl es k) (es.length/2) w:=fun l J Jx W hW hJ hJx hY h0=>by
 have hB1':=(hW.cell (p:=(aD Bs 1)) hBs).trans hB1;rcases hrow with⟨rfl,rfl⟩|⟨off,rfl,hc⟩
 · obtain rfl:m=0:=hm
   exact(Zu6 n l Bs cap J W hB1' h0).mono fun e W' ⟨he,hj⟩=>⟨he,.inl ⟨[],rfl,hj⟩⟩
 · exact Zyz n l Bs b off L m cap es g hm J Jx (fun pre X hx=>hJ pre X X.drew none hx ⟨rfl,rfl,rfl,Nat.le_refl _,fun _ _ _=>rfl⟩ (fun r e=>by cases e)) hY W hB1' (fun j hj=>(hW.cell (p:=(aD b (off+j))) hb).trans (hc j hj)) h0
theorem Zu5 (L:Nat) (p:Option Addr) (m cap:Nat) (w:World):
 Calls Tryz.prog 214 #[.agg #[iV L,.slice p m cap]] w fun e w'=>e=.returned (.func (.func 224) #[] #[.pointer (some (aD w.heap.size 0))])/\w'=w.alloc (.cells #[iV L,.slice p m cap] 118):=by
 have hmf:∀(fn:Fn) (first cap:Array Value) (w:World),(Instr.makeFunc fn first cap).run Tryz.prog w=.ok (.func fn first cap) w:=fun _ _ _ _=>rfl
 go_enter Tryz.func214,Tryz.ntmps214
 go_wp2
 go_ret
 exact⟨rfl,rfl⟩
end
section
open Go Go.RowKit Go.Shelf
attribute [local go_sem] Oper.semAt_some
def Zoe (w:World) (v:Value) (zs:List Int):Prop:=
 (v=.slice none 0 0/\zs=[])\/∃b off cap,v=.slice (some (aD b off)) zs.length cap/\b<w.heap.size/\∀k,k<zs.length->w.cell? (aD b (off+k))=some (iV (zs.getD k 0))
def flat (l:List Pr):List Int:=l.flatMap fun x=>[(x.1.1:Int),(x.1.2:Int)]
def Yam (l:List Pr):List Value:=(flat l).map (Value.int .i64)
theorem Ztb (l:List Pr) (x:Pr):Yam (l++[x])=Yam l++[iV (x.1.1:Int),iV (x.1.2:Int)]:=by simp[Yam,flat]
def Zry (es:List Nat) (w:World) (e:Ending) (w':World):Prop:=∃v,e=.returned v/\Zoe w' v (flat (Zgh es))/\Below w.heap.size w w'
theorem Zh2 {W:World} {base base':Nat} {e:TypeId} {size:Nat} {v:Value} {k:Nat} {xs:List Value} (h:W.ownsRow base e size v k xs) (hb:base'<=base):W.ownsRow base' e size v k xs:=by
 refine⟨h.1,?_⟩
 rcases h.2 with h'|⟨g,cap,cur,e1,e2,rest⟩
 · exact .inl h'
 · exact .inr ⟨g,cap,cur,e1,Nat.le_trans hb e2,rest⟩
theorem Zql {W:World} {base:Nat} {e:TypeId} {v:Value} {k:Nat} {zs:List Int} (h:W.ownsRow base e 1 v k (zs.map (Value.int .i64))):Zoe W v zs:=by
 have hk:zs.length=k:=by have:=h.1;simpa using this
 rcases h.2 with⟨rfl,h0⟩|⟨g,cap,cur,rfl,_,hg,_,_,hsz,htk⟩
 · exact .inl ⟨rfl,List.eq_nil_of_length_eq_zero (by omega)⟩
 · refine .inr ⟨g,0,cap,by rw[hk],(Array.getElem?_eq_some_iff.1 hg).1,fun j hj=>?_⟩
   rw[Nat.zero_add,World.ownsRow.cellAt h j (by omega)];simp[List.getD_eq_getElem?_getD,List.getElem?_eq_getElem hj]
theorem Zob {W w1:World} {base B x:Nat} {e:TypeId} {v v':Value} {k:Nat} {xs:List Value} {tmp:Obj} (hrow:W.ownsRow base e 1 v k xs) (hgrow:(W.alloc tmp).grownBy w1 v.ownBlock) (hx:x<base) (hxW:x<W.heap.size) (hne:x≠B):
 (w1.setCell (aD B 0) v').heap[x]?=W.heap[x]?:=by
 rw[Below.heap_setCell _ (aD B 0) _ _ (by exact hne)]
 refine(hgrow.block x (by simp;omega) ?_).trans (Below.heap_alloc _ _ _ hxW)
 rcases hrow.2 with⟨rfl,_⟩|⟨g,cap,cur,rfl,hb,_⟩
 · simp[Value.ownBlock]
 · simp[Value.ownBlock];omega
theorem Zu4 (L:Nat) (p:Option Addr) (m cap b:Nat) (es:List Nat) (w:World) (g:Good L es) (hm:m=es.length) (hb:b<w.heap.size+3) (hb1:b≠w.heap.size+1) (hrow:∀W:World,Below w.heap.size w W->Yet b W p es):
 CallsIn Fence.wide 4 Tryz.prog 248 #[.agg #[iV L,.slice p m cap]] w (Zry es w):=by
 have hgl:=Zct g;have HM:=hid hm;clear hm
 have HR:=hid hrow;clear hrow
 obtain⟨i0,hi,hz0,hz1,hz2⟩:=info_parts Tryz.Zkd;refine callsIn_of_wp_marks Tryz.func248 rfl trivial ?_ rfl;simp only[Tryz.ntmps248,List.size_toArray,List.length_cons,List.length_nil,Nat.reduceAdd,Nat.reduceSub,Array.replicate_succ,Array.replicate_zero,List.push_toArray,List.append_toArray,List.nil_append,List.cons_append]
 gi_wp2_with (refine⟨trivial,?_⟩;gi_at_call 214;refine(callsIn_wide.2 (Zu5 L p m cap _)).mono ?_;rintro e w' ⟨rfl,rfl⟩)
 have hD:Below w.heap.size w (((w.alloc (.cells #[iV L,.slice p m cap] 118)).alloc (.cells #[.slice none 0 0] 28)).alloc (.cells #[iV L,.slice p m cap] 118)):=(((Below.refl _ w).alloc (Nat.le_refl _) _).alloc (by simp) _).alloc (by simp;omega) _;have bO:=(Boxed.new (w.alloc (.cells #[iV L,.slice p m cap] 118)) 28 (.slice none 0 0)).alloc (.cells #[iV L,.slice p m cap] 118);rw[World.size_alloc]at bO
 have hc1:(((w.alloc (.cells #[iV L,.slice p m cap] 118)).alloc (.cells #[.slice none 0 0] 28)).alloc (.cells #[iV L,.slice p m cap] 118)).cell? ⟨w.heap.size+2,1,none⟩=some (.slice p m cap):=by
  have e:=World.cell?_alloc_new (w:=(w.alloc (.cells #[iV L,.slice p m cap] 118)).alloc (.cells #[.slice none 0 0] 28)) #[iV L,.slice p m cap] 118 1
  simpa using e
 have hsz:(((w.alloc (.cells #[iV L,.slice p m cap] 118)).alloc (.cells #[.slice none 0 0] 28)).alloc (.cells #[iV L,.slice p m cap] 118)).heap.size=w.heap.size+3:=by simp
 refine wpIn_rangeFunc_ownF rfl (by omega) (gf:=224) (lb:=#[.pointer (some ⟨w.heap.size+2,0,none⟩)]) rfl trivial (enters_of Tryz.func224 (by kernel_rfl) rfl)
  (Zkl (4-1) (w.heap.size+2) b L m cap p es g HM.out _ (by simp) (by simp;omega) hc1 (HR.out _ hD)) K2.trans (K2.put (by simp) (by simp;omega)) (Below.refl _ _) (fun _=>rfl)
  (fun pre W=>(∃v,Boxed W (w.heap.size+1) 28 v/\W.ownsRow (w.heap.size+3) 3 1 v (2*pre.length) (Yam pre))/\(Below w.heap.size w W/\w.heap.size+3<=W.heap.size))
  (fun _ _ _=>False)
  ?hI (fun _ _ _ _ _ hs _ _=>hs) ?h0
  (fun x=>{tmps:=#[.agg #[iV L,.slice p m cap],.pointer (some (aD w.heap.size 0)),.slice none 0 0,.pointer (some ⟨w.heap.size+1,0,none⟩),iV (x.1.1:Int),iV (x.1.2:Int),.agg #[iV L,.slice p m cap],.func (.func 224) #[] #[.pointer (some ⟨w.heap.size+2,0,none⟩)],iV (x.1.1:Int),iV (x.1.2:Int),undef,undef,undef,undef,undef,undef],defers:=[]}) ?assign ?body ?done ?stop
 case hI=>
  refine OwnFrom.and (Own.from (fun s X Y row hs hg hr=>?_) _) (fun s X Y row hs hg hr=>?_)
  · obtain⟨v,hv,hrw⟩:=hs
    have hne:∀k,row=some k->(∀cur t z,X.heap[k]?≠some (.cells cur t z)):=fun k e cur t z h=>by
     obtain⟨o,ho,hc⟩:=hr k e;rw[h]at ho;cases ho;cases hc
    refine⟨v,hv.kept hg (fun e=>hne _ e.symm _ _ _ hv),hrw.kept hg ?_⟩
    rcases hrw.2 with⟨rfl,_⟩|⟨gg,cap',cur,rfl,_,hgb,_⟩
    · exact .inl rfl
    · exact .inr fun e=>hne _ e.symm _ _ _ hgb
  · refine⟨hs.1.grown hg hs.1.size (fun k e=>?_),Nat.le_trans hs.2 hg.size⟩
    have:=(hr k e).1;rw[hsz]at this;omega
 case h0=>exact⟨⟨_,bO,World.ownsRow_nil _ _ _ _⟩,hD,by rw[hsz];exact Nat.le_refl _⟩
 case assign=>
  intro l x W K hK;simp only[Zw8]
  gi_wp2
  exact hK
 case body=>
  rintro l pre x W ⟨⟨v,hv,hrow⟩,hB,hW3⟩ hlt;have hc:=hv.cell;have hlen:pre.length<es.length/2:=hlt
  gi_wp2_with (gi_at_builtin;refine wpListIn_append_own _ rfl _ _ 28 rfl (w.heap.size+3) 3 i0 (iV 0) 1 8 Tryz.underlying28 hi hz0 hz1 hz2 rfl (by decide) _ _ _ rfl (hrow.alloc _) (aD W.heap.size 0) 2 2 [iV (x.1.1:Int),iV (x.1.2:Int)] rfl rfl (cell_two_new _ _ _ _) (by simp[Value.oneCell']) (by unfold maxLen;omega) (by omega) (by simp;omega) ?_;intro v' w1 hown' hgrow _;obtain⟨g',cap',rfl⟩:=ownsRow_succ hown';have hap:=hv.appended (by decide) (Zh2 hrow (show w.heap.size<=w.heap.size+3 by omega)) hB.size (Nat.le_succ _) (Zh2 hown' (show w.heap.size<=w.heap.size+3 by omega)) hgrow;obtain⟨hv1,hv2,hr2,hk2,hb2⟩:=hap;have hc1:=hv1.cell;have hf1:=hv1.frozen)
  have e2:2*(pre++[x]).length=2*pre.length+1+1:=by simp;omega
  refine⟨hk2,⟨Zob hrow hgrow (by omega) (by omega) (by omega),Zob hrow hgrow hb (by omega) hb1⟩,⟨_,hv2,?_⟩,hB.trans hb2,Nat.le_trans hW3 hb2.size⟩
  rw[e2,Ztb];exact hown'.kept (grownBy_setCell' w1 (w.heap.size+1) _) (.inr (hv1.not_row (by decide) hown').symm)
 case done=>
  rintro D ys W hD2 rfl ⟨⟨v,hv,hrow⟩,hB,hW3⟩ hK;have hc:=hv.cell
  gi_wp2
  refine⟨by simp,.inl ⟨_,_,rfl,run_takeDeferred hK,?_⟩⟩
  refine⟨_,results_tmp rfl _ _ _,v,rfl,Zql (ownsRow_putObj hrow _ hK rfl),hB.trans (belowK_b (w:=w) (Nat.le_refl _) W D _ _ (by rw[hsz]at hD2;omega) hK rfl rfl)⟩
 case stop=>
  rintro D c pre W _ _ h _;exact h.elim
theorem Zyy (L:Nat) (p:Option Addr) (m cap:Nat) (es:List Nat) (w:World) (g:Good L es) (hm:m=es.length) (hrow:Zb1 w p es):
 Calls Tryz.prog 248 #[.agg #[iV L,.slice p m cap]] w (Zry es w):=by
 rcases hrow with⟨rfl,rfl⟩|⟨b,off,rfl,hlt,hc⟩
 · exact callsIn_wide.1 (Zu4 L none m cap (w.heap.size+2) [] w g hm (by omega) (by omega) (fun W _=> .inl ⟨rfl,rfl⟩))
 · exact callsIn_wide.1 (Zu4 L _ m cap b es w g hm (by omega) (by omega) (fun W hW=> .inr ⟨off,rfl,fun k hk=>(hW.cell (p:=(aD b (off+k))) hlt).trans (hc k hk)⟩))
end
section
open Go Go.RowKit
def Za7 (w:World) (p:Option Addr) (zs:List Int):Prop:=
 zs=[]\/∃b off,p=some (aD b off)/\b<w.heap.size/\∀k,k<zs.length->w.cell? (aD b (off+k))=some (iV (zs.getD k 0))
theorem Zoe.row {w:World} {v:Value} {zs:List Int} (h:Zoe w v zs):∃p cap,v=.slice p zs.length cap/\Za7 w p zs:=by
 rcases h with⟨rfl,rfl⟩|⟨b,off,cap,rfl,hlt,hc⟩
 · exact⟨none,0,rfl,.inl rfl⟩
 · exact⟨_,cap,rfl,.inr ⟨b,off,rfl,hlt,hc⟩⟩
def Ycf (a b:List Int) (w:World) (e:Ending) (w':World):Prop:=e=.returned (.bool (a==b))/\∃n,w'=w.drewN n
theorem Zw7 (p q:Option Addr) (n m cp cq:Nat) (h:n≠m) (w:World):Calls Tryz.prog 72 #[.slice p n cp,.slice q m cq] w fun e w'=>e=.returned (.bool false)/\w=w':=by
 have hd:((n:Int) !=(m:Int))=true:=by rw[bne_iff_ne];omega
 go_enter Tryz.func72,Tryz.ntmps72
 go_wp2
 go_ret
 exact⟨rfl,rfl⟩
def Lp (a b:List Int) (w:World) (n:Nat) (i:Value) (wr:World):Prop:=∃k:Nat,k<=n/\i=iV k/\(∀j,j<k->a.getD j 0=b.getD j 0)/\∃d,wr=w.drewN d
theorem Ztc (b1 o1 b2 o2 cp cq n:Nat) (a b:List Int) (ha:n=a.length) (hb:n=b.length) (hn:n<=9223372036854775807) (w:World)
 (hca:∀k,k<n->w.cell? (aD b1 (o1+k))=some (iV (a.getD k 0))) (hcb:∀k,k<n->w.cell? (aD b2 (o2+k))=some (iV (b.getD k 0))):
 Calls Tryz.prog 72 #[.slice (some (aD b1 o1)) n cp,.slice (some (aD b2 o2)) n cq] w (Ycf a b w):=by
 have HA:=hid hca;have HB:=hid hcb;clear hca hcb
 have HL:=hid ha;have HM:=hid hb;clear ha hb
 go_enter Tryz.func72,Tryz.ntmps72
 go_wp2
 go_loopw[13] (fun i wr=>Lp a b w n i wr) (fun i _=>n-(intOf i).toNat)
 case atStart=>exact⟨0,by omega,rfl,fun j hj=>by omega,0,rfl⟩
 case round=>
  obtain⟨k,hk,rfl,hall,d,rfl⟩:=hrel;have HS:=hid hall;clear hall
  by_cases hlt:k<n
  · obtain⟨x,hx⟩:=eX (a.getD k 0)
    obtain⟨y,hy⟩:=eX (b.getD k 0);have ca:w.cell? (aD b1 (o1+k))=some (iV x):=by rw[HA.out k hlt,hx]
    have cb:w.cell? (aD b2 (o2+k))=some (iV y):=by rw[HB.out k hlt,hy]
    have HX:=hid hx;have HY:=hid hy;clear hx hy
    by_cases he:x=y
    · have hd:(x !=y)=false:=by simpa using he
      have HE:=hid he;clear he
      go_wp2
      go_quiet (fail)
      go_wp2
      go_roundw
      case rel=>exact⟨k+1,by omega,by go_num,fun j hj=>by
       by_cases hjk:j=k
       · subst hjk;rw[HX.out,HY.out,HE.out]
       · exact HS.out j (by omega),by rename_i nq;exact⟨d+nq,by simp[World.drewN]⟩⟩
      case measure=>simp[intOf];omega
    · have hd:(x !=y)=true:=by simpa using he
      have hf:Hid ((a==b)=false):=hid (beq_eq_false_iff_ne.2 fun h=>he (by rw[<-HX.out,<-HY.out,h]))
      go_wp2
      go_quiet (fail)
      go_wp2
      go_ret
      exact⟨by rw[hf.out];rfl,by rename_i nq;exact⟨d+nq,by simp[World.drewN,Nat.add_assoc]⟩⟩
  · have hf:Hid ((a==b)=true):=hid (by
     rw[beq_iff_eq]
     apply List.ext_getElem (by rw[<-HL.out,<-HM.out])
     intro i h1 h2
     have:=HS.out i (by have:=HL.out;omega)
     simpa[List.getD_eq_getElem?_getD,List.getElem?_eq_getElem h1,List.getElem?_eq_getElem h2]using this)
    go_wp2
    go_ret
    exact⟨by rw[hf.out];rfl,d,rfl⟩
theorem Zkx (p q:Option Addr) (cp cq:Nat) (w:World):Calls Tryz.prog 72 #[.slice p 0 cp,.slice q 0 cq] w fun e w'=>e=.returned (.bool true)/\w=w':=by
 go_enter Tryz.func72,Tryz.ntmps72
 go_wp2
 refine wp_loop_rounds 1 ?_;rw[rounds_succ]
 go_wp2
 go_ret
 exact⟨rfl,rfl⟩
theorem Znu (p q:Option Addr) (cp cq n m:Nat) (a b:List Int) (ha:n=a.length) (hb:m=b.length) (hl:n<=9223372036854775807) (w:World) (ra:Za7 w p a) (rb:Za7 w q b):
 Calls Tryz.prog 72 #[.slice p n cp,.slice q m cq] w (Ycf a b w):=by
 by_cases hne:n=m
 · subst hne
   rcases ra with rfl|⟨b1,o1,rfl,_,hc1⟩
   · obtain rfl:n=0:=ha
     have e:b=[]:=List.eq_nil_of_length_eq_zero hb.symm;subst e
     exact(Zkx p q cp cq w).mono fun e w' ⟨h1,h2⟩=>⟨h1,0,h2.symm⟩
   · rcases rb with rfl|⟨b2,o2,rfl,_,hc2⟩
     · obtain rfl:n=0:=hb
       have e:a=[]:=List.eq_nil_of_length_eq_zero ha.symm;subst e
       exact(Zkx _ q cp cq w).mono fun e w' ⟨h1,h2⟩=>⟨h1,0,h2.symm⟩
     · exact Ztc b1 o1 b2 o2 cp cq n a b ha hb hl w (by rw[ha];exact hc1) (by rw[hb];exact hc2)
 · have hf:(a==b)=false:=beq_eq_false_iff_ne.2 fun h=>hne (by rw[ha,hb,h])
   exact(Zw7 p q n m cp cq hne w).mono fun e w' ⟨h1,h2⟩=>⟨by rw[hf];exact h1,0,h2.symm⟩
theorem Zb1.Zdn {w w':World} {p:Option Addr} {es:List Nat} (h:Zb1 w p es) (hb:∀b off,p=some (aD b off)->w'.heap[b]?=w.heap[b]?):Zb1 w' p es:=by
 rcases h with h|⟨b,off,rfl,hlt,hc⟩
 · exact .inl h
 · have he:=hb b off rfl
   have hl2:b<w'.heap.size:=by
    have e:=he;rw[Array.getElem?_eq_getElem hlt]at e;exact(Array.getElem?_eq_some_iff.1 e).1
   exact .inr ⟨b,off,rfl,hl2,fun k hk=>by rw[World.cell?_of_block (w:=w) (a:=(aD b (off+k))) he];exact hc k hk⟩
theorem Zq4 (x:World) (B k:Nat) (v0 v1:Value) (h:k≠B):((x.setCell (aD B 0) v0).setCell (aD B 1) v1).heap[k]?=x.heap[k]?:=by
 rw[Below.heap_setCell _ (aD B 1) _ _ (by exact h),Below.heap_setCell _ (aD B 0) _ _ (by exact h)]
theorem Zb1.lt {w:World} {b off:Nat} {es:List Nat} (h:Zb1 w (some (aD b off)) es):b<w.heap.size:=by
 rcases h with⟨h,_⟩|⟨b',off',h,hlt,_⟩
 · cases h
 · cases h;exact hlt
theorem Zpu (w:World):Calls Tryz.prog 246 #[] w fun e w'=>e=.returned (.bool true)/\Below w.heap.size w w':=by
 have g0:Good 10 []:=⟨List.Pairwise.nil,rfl,(fun e h=>by cases h),by decide⟩;have s1:Zcd 10 [] 2 3 true=[2,5]:=by decide
 have s2:Zcd 10 [2,5] 3 1 false=[2,3,4,5]:=by decide
 have e1:Zbo 10 2 3=0:=by decide
 have e2:Zbo 10 3 1=0:=by decide
 have l10:Zhl 10=10:=by decide
 have g1:Good 10 [2,5]:=by rw[<-s1];exact Zet g0 _ _ _
 have g2:Good 10 [2,3,4,5]:=by rw[<-s2];exact Zet g1 _ _ _
 have f1:Zcp 10 [2,3,4,5] 3 false=true:=by decide
 have f2:Zb3 10 [2,3,4,5] 3 false=3:=by decide
 have fl:flat (Zgh [2,3,4,5])=[2,1,4,1]:=by decide
 have G0:=hid g0;have S1:=hid s1;have S2:=hid s2;have E1:=hid e1;have E2:=hid e2;have L10:=hid l10;have F1:=hid f1;have F2:=hid f2;have FL:=hid fl
 clear g0 s1 s2 e1 e2 l10 f1 f2 fl;go_enter Tryz.func246,Tryz.ntmps246;go_wp2_with fail
 refine(Zvt _ _).mono ?_
 rw[L10.out];rintro e w1 ⟨rfl,hb1⟩;go_wp2_with fail
 refine(Zp0 10 none 0 0 [] 2 3 _ G0.out (.inl ⟨rfl,rfl⟩) rfl (Nat.le_refl _) (fun _=>rfl) (by omega)).mono ?_
 rintro e w2 ⟨p1,n1,c1,rfl,hn1,hc1,hp1,hr1,_,hb2⟩;rw[S1.out]at hn1 hr1;rw[E1.out];have HN1:=hid hn1;have HP1:=hid hp1;clear hn1 hp1
 have B2:Below w.heap.size w w2:=hb1.trans (hb2.mono hb1.size);go_wp2_with fail
 refine(Zoo 10 p1 n1 c1 [2,5] 3 1 _ g1 (hr1.below ((Below.refl _ _).alloc (Nat.le_refl _) _)) HN1.out hc1 HP1.out (by omega)).mono ?_
 rintro e w3 ⟨p2,n2,c2,rfl,hn2,hc2,hp2,hr2,ha2,hb3⟩;rw[S2.out]at hn2 hr2;rw[E2.out];have HN2:=hid hn2;have HP2:=hid hp2;clear hn2 hp2
 have B3:Below w.heap.size w w3:=B2.trans ((((Below.refl _ _).alloc (Nat.le_refl _) _).trans (hb3.mono (by simp))).mono B2.size);have c0:w3.cell? (aD w2.heap.size 0)=some (iV 10):=by rw[hb3.cell (p:=(aD w2.heap.size 0)) (by simp)];simp
 have c1':w3.cell? (aD w2.heap.size 1)=some (.slice p1 n1 c1):=by rw[hb3.cell (p:=(aD w2.heap.size 1)) (by simp)];simp
 have z0:w3.frozen? (aD w2.heap.size 0)=false:=by rw[hb3.frozen (p:=(aD w2.heap.size 0)) (by simp)];simp
 have z1:w3.frozen? (aD w2.heap.size 1)=false:=by rw[hb3.frozen (p:=(aD w2.heap.size 1)) (by simp)];simp
 have hne:∀b off,p2=some (aD b off)->b≠w2.heap.size:=fun b off h=>by
  rcases ha2 with h2|⟨a,h2,h3⟩
  · rw[h2]at h;subst h;have:=hr1.lt;omega
  · rw[h]at h2;cases h2;simp at h3;omega
 have hcap2:n2<=1048577:=by rw[HN2.out];decide
 go_wp2_with fail;have R4:Zb1 ((w3.setCell (aD w2.heap.size 0) (iV 10)).setCell (aD w2.heap.size 1) (.slice p2 n2 c2)) p2 [2,3,4,5]:=hr2.Zdn fun b off h=>Zq4 _ _ _ _ _ (hne b off h)
 have B4:Below w.heap.size w ((w3.setCell (aD w2.heap.size 0) (iV 10)).setCell (aD w2.heap.size 1) (.slice p2 n2 c2)):=(B3.setCell (p:=(aD w2.heap.size 0)) B2.size _).setCell (p:=(aD w2.heap.size 1)) B2.size _;have k0:=(Zbq c0 c1' (iV 10) (.slice p2 n2 c2)).1;have k1:=(Zbq c0 c1' (iV 10) (.slice p2 n2 c2)).2;have sz4:w2.heap.size<((w3.setCell (aD w2.heap.size 0) (iV 10)).setCell (aD w2.heap.size 1) (.slice p2 n2 c2)).heap.size:=World.block_lt_of_cell? _ _ k0
 refine(Znt 10 p2 n2 c2 [2,3,4,5] 3 false _ g2 R4 HN2.out).mono ?_
 rw[F1.out,F2.out];rintro e w5 ⟨rfl,hb5⟩;have R5:=R4.below hb5;have B5:Below w.heap.size w w5:=B4.trans (hb5.mono B4.size);have m0:w5.cell? (aD w2.heap.size 0)=some (iV 10):=(hb5.cell (p:=(aD w2.heap.size 0)) sz4).trans k0;have m1:w5.cell? (aD w2.heap.size 1)=some (.slice p2 n2 c2):=(hb5.cell (p:=(aD w2.heap.size 1)) sz4).trans k1;clear k0 k1 c0 c1' z0 z1;go_wp2_with fail
 refine(Zyy 10 p2 n2 c2 [2,3,4,5] _ g2 HN2.out R5).mono ?_
 rintro e w6 ⟨v,rfl,hv,hb6⟩;rw[FL.out]at hv;obtain⟨pv,cv,rfl,hv'⟩:=hv.row;have B6:Below w.heap.size w w6:=B5.trans (hb6.mono B5.size);go_wp2_with fail
 refine(Znu pv (some (aD w6.heap.size 0)) cv 4 4 4 [2,1,4,1] [2,1,4,1] rfl rfl (by omega) _ ?_ ?_).mono ?_
 · rcases hv' with h|⟨b,off,h,hlt,hc⟩
   · cases h
   · exact .inr ⟨b,off,h,by simp;omega,fun k hk=>by rw[((Below.refl _ _).alloc (Nat.le_refl _) _:Below w6.heap.size w6 _).cell (p:=(aD b (off+k))) hlt];exact hc k hk⟩
 · refine .inr ⟨w6.heap.size,0,rfl,by simp,fun k hk=>?_⟩
   match k,hk with
   |0,_=>simp
   |1,_=>simp
   |2,_=>simp
   |3,_=>simp
   |n+4,hk=>simp at hk;omega
 · rintro e w7 ⟨rfl,nd,rfl⟩
   go_wp2_with fail
   go_ret
   exact⟨rfl,below_drewN (B6.alloc B6.size _) _⟩
end
end Go.Proofs.YtgcidfenjlmljaaGreat.Bt
