/- BitsIter, BitsRows, BitsEq, BitsLay, BitsVar, BitsCountMath. -/
import Derived.Test.YtpkaehpllldcmaaGreatDoorMoD
import Derived.RangeFuncBox
import Derived.RangeFuncLeaves
import Derived.Shelf.Abstract
import Derived.OwnWalkIn
import Derived.TacticsInMore
import Derived.LoopNIn
import Derived.LoopIn
import Derived.RangeFuncNested
import Derived.RangeFuncBound
import Derived.RangeFuncCalls
import Derived.Shelf.RegionOpen
import Derived.Maps.AppendAt
section
namespace Go.Proofs.YtpkaehpllldcmaaGreatDoor.Bt
open Go Go.RowKit Go.Shelf
attribute [local go_sem] Oper.semAt_some
abbrev Pr:={x:Nat × Nat//0<x.2∧x.1+x.2≤1048576}
def mkPr (a c:Nat):Pr:=if h:a<c∧c≤1048576 then⟨(a,c-a),by omega,by simp;omega⟩else⟨(0,1),by decide,by decide⟩
def encPr (x:Pr):Array Value:=#[.int .i64 (x.1.1:Int),.int .i64 (x.1.2:Int)]
def pairAt (es:List Nat) (j:Nat):Pr:=mkPr (es.getD (2*j) 0) (es.getD (2*j+1) 0)
def pairsTo (es:List Nat) (k:Nat):List Pr:=(List.range k).map (pairAt es)
theorem pairsTo_succ (es:List Nat) (k:Nat):pairsTo es (k+1)=pairsTo es k++[pairAt es k]:=by simp[pairsTo,List.range_succ]
theorem pairsTo_length (es:List Nat) (k:Nat):(pairsTo es k).length=k:=by simp[pairsTo]
def pairs (es:List Nat):List Pr:=pairsTo es (es.length/2)
theorem pair_vals {L:Nat} {es:List Nat} (g:Good L es) {j:Nat} (hj:2*j+1<es.length):
 (pairAt es j).1.1=es.getD (2*j) 0∧((pairAt es j).1.2:Int)=(es.getD (2*j+1) 0:Int)-(es.getD (2*j) 0:Int):=by
 have h1:=rising_get g.rising (show 2*j<2*j+1 by omega) hj
 have h2:es.getD (2*j+1) 0≤L:=by
  apply g.le;rw[List.getD_eq_getElem?_getD,List.getElem?_eq_getElem hj];exact List.getElem_mem _
 have h3:=g.small
 have h:es.getD (2*j) 0<es.getD (2*j+1) 0∧es.getD (2*j+1) 0≤1048576:=by omega
 unfold pairAt mkPr
 rw[dif_pos h]
 refine⟨rfl,?_⟩
 show((es.getD (2*j+1) 0-es.getD (2*j) 0:Nat):Int)=_
 omega
def K2 (x y:Nat) (W W':World):Prop:=W'.heap[x]?=W.heap[x]?∧W'.heap[y]?=W.heap[y]?
theorem K2.refl {x y:Nat} (W:World):K2 x y W W:=⟨rfl,rfl⟩
theorem K2.trans {x y:Nat} {A B C:World} (h:K2 x y A B) (k:K2 x y B C):K2 x y A C:=⟨k.1.trans h.1,k.2.trans h.2⟩
theorem K2.drew {x y:Nat} (W:World):K2 x y W W.drew:=⟨rfl,rfl⟩
theorem K2.one {x y:Nat} {A B:World} (h:K2 x y A B) (o:Nat):B.cell? ⟨x,o,none⟩=A.cell? ⟨x,o,none⟩:=World.cell?_of_block (w:=A) (a:=⟨x,o,none⟩) h.1
theorem K2.two {x y:Nat} {A B:World} (h:K2 x y A B) (o:Nat):B.cell? ⟨y,o,none⟩=A.cell? ⟨y,o,none⟩:=World.cell?_of_block (w:=A) (a:=⟨y,o,none⟩) h.2
theorem K2.put {x y:Nat} {w:World} (hx:x<w.heap.size) (hy:y<w.heap.size) (W:World) (l:Nat) (o o':Obj) (hl:w.heap.size≤l) (_:W.heap[l]?=some o) (_:o.isCells=false) (_:o.isWalk=false):K2 x y W (W.putObj l o'):=
 ⟨World.putObj_heap_other (by omega),World.putObj_heap_other (by omega)⟩
set_option maxRecDepth 100000 in
set_option maxHeartbeats 2000000 in
theorem rows1_in (n:Nat) (l Bs b off L m cap:Nat) (es:List Nat) (g:Good L es) (hm:m=es.length) (J Jx:List Pr→World→Prop) (hdr:∀pre X,J pre X→J pre X.drew)
 (hY:∀pre x W,J pre W→pre.length<es.length/2→YieldAt Fence.wide (n-1) Tryz.prog l (encPr x) W fun e W'=>
  (e=.returned (.bool true)∧J (pre++[x]) W'∧K2 Bs b W W')∨(e=.returned (.bool false)∧Jx (pre++[x]) W'))
 (W:World) (hB1:W.cell? ⟨Bs,1,none⟩=some (.slice (some ⟨b,off,none⟩) m cap)) (hc:∀j,j<es.length→W.cell? ⟨b,off+j,none⟩=some (.int .i64 ((es.getD j 0:Nat):Int))) (h0:J [] W):
 CallsIn Fence.wide n Tryz.prog 125 #[.func (.yield l) #[] #[],.pointer (some ⟨Bs,0,none⟩)] W fun e W'=>(∃v,e=.returned v)∧
  ((∃ys,ys=pairs es∧J ys W')∨(∃pre,(∃k,k≤es.length/2∧pre=pairsTo es k)∧Jx pre W')):=by
 have hgl:=good_len g
 have hev:=g.even
 have HM:=Lib.hid hm
 have hm2:m≤1048577:=by omega
 clear hm
 refine callsIn_of_wp Tryz.func125 rfl trivial ?_ rfl
 simp only[Tryz.ntmps125,List.size_toArray,List.length_cons,List.length_nil,Nat.reduceAdd,Nat.reduceSub,Array.replicate_succ,Array.replicate_zero,List.push_toArray,List.append_toArray,List.nil_append,List.cons_append]
 gi_wp2
 gi_loopw [3] (fun i wr=>∃k:Nat,2*k≤m∧i=.int .i64 (2*k:Nat)∧J (pairsTo es k) wr∧K2 Bs b W wr)
  (fun i _=>m-(intOf i).toNat)
 case atStart=>exact⟨0,by omega,rfl,h0,K2.refl _⟩
 case round=>
  obtain⟨k,hk,rfl,hJs,hnx⟩:=hrel
  have HC:=Lib.hid hc;clear hc
  have hbx:wr.cell? ⟨Bs,1,none⟩=some (.slice (some ⟨b,off,none⟩) m cap):=(hnx.one 1).trans hB1
  by_cases hlt:2*k+1<m
  · have hlt':2*k+1<es.length:=by rw[←HM.out];exact hlt
    obtain⟨p1,p2⟩:=pair_vals g hlt'
    obtain⟨x,hx⟩:∃x,pairAt es k=x:=⟨_,rfl⟩
    rw[hx]at p1 p2
    obtain⟨u,hu⟩:∃u:Nat,es.getD (2*k) 0=u:=⟨_,rfl⟩
    obtain⟨v,hv⟩:∃v:Nat,es.getD (2*k+1) 0=v:=⟨_,rfl⟩
    have hcu:wr.cell? ⟨b,off+2*k,none⟩=some (.int .i64 (u:Int)):=by rw[hnx.two,HC.out _ (by omega),hu]
    have hcv:wr.cell? ⟨b,off+(2*k+1),none⟩=some (.int .i64 (v:Int)):=by rw[hnx.two,HC.out _ (by omega),hv]
    rw[hu,hv]at p2;rw[hu]at p1
    obtain⟨fn,tmps,assign,body,hy,hR⟩:=hY _ x wr.drew (hdr _ _ hJs) (by rw[pairsTo_length];omega)
    have hxx:=x.2
    simp only[encPr]at hy
    rw[p1,p2]at hy
    have hvb:v≤1048576∧u<v:=by omega
    have HX:=Lib.hid hx;have HU:=Lib.hid hu;have HV:=Lib.hid hv;have HP1:=Lib.hid p1;have HP2:=Lib.hid p2
    clear hx hu hv p1 p2
    have w1:IntKind.i64.wrap (2*(k:Int)+1)=2*(k:Int)+1:=IntWalk.i64_in _ (by omega)
    have w2:IntKind.i64.wrap ((v:Int)-u)=(v:Int)-u:=IntWalk.i64_in _ (by omega)
    have w3:(2*(k:Int)+1).toNat=2*k+1:=by omega
    have w4:0≤2*(k:Int)+1:=by omega
    have w5:2*(k:Int)+1<m:=by omega
    have w6:0≤2*(k:Int):=by omega
    have w7:2*(k:Int)<m:=by omega
    have w8:(2*(k:Int)).toNat=2*k:=by omega
    gi_wp2
    refine wide_still_tail 18 (by kernel_rfl) (by kernel_rfl) ?_
    simp only[List.take_succ_cons,List.take_zero,List.drop_succ_cons,List.drop_zero]
    repeat still_step
    refine wpStill_nil ?_
    clear w1 w2 w3 w8
    gi_wp2
    refine⟨fun hd=>by simp[Fence.wide]at hd,hR.mono ?_⟩
    rintro e W3 (⟨rfl,hJ3,hk3⟩|⟨rfl,hJx3⟩)
    · gi_wp2
      go_roundw
      case rel=>exact⟨k+1,by omega,by go_num,by rw[pairsTo_succ,HX.out];exact hJ3,hnx.trans ((K2.drew _).trans hk3)⟩
      case measure=>simp[intOf];omega
    · gi_wp2
      refine bodyPost_ret (results_none rfl _ _ _) rfl ?_
      exact⟨⟨_,rfl⟩,.inr ⟨_,⟨k+1,by have:=HM.out;omega,by rw[pairsTo_succ,HX.out]⟩,hJx3⟩⟩
  · have hke:k=es.length/2:=by have:=HM.out;omega
    have HK:=Lib.hid hke;clear hke
    gi_wp2
    go_end0
    exact⟨⟨_,rfl⟩,.inl ⟨_,by unfold pairs;rw[←HK.out],hJs⟩⟩
theorem rows1_nil (n:Nat) (l Bs:Nat) (cap:Nat) (J:List Pr→World→Prop) (W:World) (hB1:W.cell? ⟨Bs,1,none⟩=some (.slice none 0 cap)) (h0:J [] W):
 CallsIn Fence.wide n Tryz.prog 125 #[.func (.yield l) #[] #[],.pointer (some ⟨Bs,0,none⟩)] W fun e W'=>(∃v,e=.returned v)∧J [] W':=by
 refine callsIn_of_wp Tryz.func125 rfl trivial ?_ rfl
 simp only[Tryz.ntmps125,List.size_toArray,List.length_cons,List.length_nil,Nat.reduceAdd,Nat.reduceSub,Array.replicate_succ,Array.replicate_zero,List.push_toArray,List.append_toArray,List.nil_append,List.cons_append]
 gi_wp2
 gi_loopw [3] (fun i wr=>i=.int .i64 0∧J [] wr∧wr.cell? ⟨Bs,1,none⟩=some (.slice none 0 cap)) (fun _ _=>0)
 case atStart=>exact⟨rfl,h0,hB1⟩
 case round=>
  obtain⟨rfl,hJs,hc⟩:=hrel
  gi_wp2
  go_end0
  exact⟨⟨_,rfl⟩,hJs⟩
def RowIn (b:Nat) (w:World) (p:Option Addr) (es:List Nat):Prop:=(p=none∧es=[])∨∃off,p=some ⟨b,off,none⟩∧∀k,k<es.length→w.cell? ⟨b,off+k,none⟩=some (.int .i64 ((es.getD k 0:Nat):Int))
theorem rows_stops (n:Nat) (Bs b L m cap:Nat) (p:Option Addr) (es:List Nat) (g:Good L es) (hm:m=es.length) (w:World) (hBs:Bs<w.heap.size) (hb:b<w.heap.size) (hB1:w.cell? ⟨Bs,1,none⟩=some (.slice p m cap)) (hrow:RowIn b w p es):
 SeqStopsK Fence.wide n Tryz.prog 125 #[.pointer (some ⟨Bs,0,none⟩)] encPr (K2 Bs b) (fun ys=>ys=pairs es) (fun pre=>∃k,k≤es.length/2∧pre=pairsTo es k) (es.length/2) w:=fun l J Jx W hW hJ hJx hY h0=>by
 have hB1':=(hW.cell (p:=⟨Bs,1,none⟩) hBs).trans hB1
 rcases hrow with⟨rfl,rfl⟩|⟨off,rfl,hc⟩
 · obtain rfl:m=0:=hm
   exact(rows1_nil n l Bs cap J W hB1' h0).mono fun e W' ⟨he,hj⟩=>⟨he,.inl ⟨[],rfl,hj⟩⟩
 · exact rows1_in n l Bs b off L m cap es g hm J Jx (fun pre X hx=>hJ pre X X.drew none hx ⟨rfl,rfl,rfl,Nat.le_refl _,fun _ _ _=>rfl⟩ (fun r e=>by cases e)) hY W hB1' (fun j hj=>(hW.cell (p:=⟨b,off+j,none⟩) hb).trans (hc j hj)) h0
theorem rows_fn (L:Nat) (p:Option Addr) (m cap:Nat) (w:World):
 Calls Tryz.prog 88 #[.agg #[.int .i64 L,.slice p m cap]] w fun e w'=>e=.returned (.func (.func 125) #[] #[.pointer (some ⟨w.heap.size,0,none⟩)])∧w'=w.alloc (.cells #[.int .i64 L,.slice p m cap] 73):=by
 have hmf:∀(fn:Fn) (first cap:Array Value) (w:World),(Instr.makeFunc fn first cap).run Tryz.prog w=.ok (.func fn first cap) w:=fun _ _ _ _=>rfl
 go_enter Tryz.func88,Tryz.ntmps88
 go_wp2
 go_ret
 exact⟨rfl,rfl⟩
end Go.Proofs.YtpkaehpllldcmaaGreatDoor.Bt
end
section
namespace Go.Proofs.YtpkaehpllldcmaaGreatDoor.Bt
open Go Go.RowKit Go.Shelf
attribute [local go_sem] Oper.semAt_some
end Go.Proofs.YtpkaehpllldcmaaGreatDoor.Bt
end
section
namespace Go.Proofs.YtpkaehpllldcmaaGreatDoor.Bt
open Go Go.RowKit
theorem RowAt.keep {w w':World} {p:Option Addr} {es:List Nat} (h:RowAt w p es) (hb:∀b off,p=some ⟨b,off,none⟩→w'.heap[b]?=w.heap[b]?):RowAt w' p es:=by
 rcases h with h|⟨b,off,rfl,hlt,hc⟩
 · exact .inl h
 · have he:=hb b off rfl
   have hl2:b<w'.heap.size:=by
    have e:=he;rw[Array.getElem?_eq_getElem hlt]at e;exact(Array.getElem?_eq_some_iff.1 e).1
   exact .inr ⟨b,off,rfl,hl2,fun k hk=>by rw[World.cell?_of_block (w:=w) (a:=⟨b,off+k,none⟩) he];exact hc k hk⟩
theorem heap_two (x:World) (B k:Nat) (v0 v1:Value) (h:k≠B):((x.setCell ⟨B,0,none⟩ v0).setCell ⟨B,1,none⟩ v1).heap[k]?=x.heap[k]?:=by
 rw[Below.heap_setCell _ ⟨B,1,none⟩ _ _ (by exact h),Below.heap_setCell _ ⟨B,0,none⟩ _ _ (by exact h)]
theorem RowAt.lt {w:World} {b off:Nat} {es:List Nat} (h:RowAt w (some ⟨b,off,none⟩) es):b<w.heap.size:=by
 rcases h with⟨h,_⟩|⟨b',off',h,hlt,_⟩
 · cases h
 · cases h;exact hlt
end Go.Proofs.YtpkaehpllldcmaaGreatDoor.Bt
end
section
namespace Go.Proofs.YtpkaehpllldcmaaGreatDoor.Bt
open Go Go.RowKit
theorem three_new (w:World) (a b c:Array Value) (ta tb tc:TypeId):
 (((w.alloc (.cells a ta)).alloc (.cells b tb)).alloc (.cells c tc)).heap[w.heap.size]?=some (.cells a ta (0,0))∧
 (((w.alloc (.cells a ta)).alloc (.cells b tb)).alloc (.cells c tc)).heap[w.heap.size+1]?=some (.cells b tb (0,0))∧
 (((w.alloc (.cells a ta)).alloc (.cells b tb)).alloc (.cells c tc)).heap[w.heap.size+1+1]?=some (.cells c tc (0,0)):=by
 have s1:(w.alloc (.cells a ta)).heap.size=w.heap.size+1:=World.size_alloc _ _
 have s2:((w.alloc (.cells a ta)).alloc (.cells b tb)).heap.size=w.heap.size+1+1:=by rw[World.size_alloc,s1]
 refine⟨?_,?_,?_⟩
 · rw[Below.heap_alloc _ _ _ (by omega),Below.heap_alloc _ _ _ (by omega)];exact World.alloc_heap_new w _
 · rw[Below.heap_alloc _ _ _ (by omega)];have:=World.alloc_heap_new (w.alloc (.cells a ta)) (.cells b tb);rwa [s1]at this
 · have:=World.alloc_heap_new ((w.alloc (.cells a ta)).alloc (.cells b tb)) (.cells c tc);rwa [s2]at this
theorem cell_blk {w:World} {b:Nat} {c:Array Value} {t:TypeId} (h:w.heap[b]?=some (.cells c t (0,0))) (o:Nat):w.cell? ⟨b,o,none⟩=c[o]?∧w.frozen? ⟨b,o,none⟩=false:=by
 constructor
 · simp[World.cell?,h]
 · simp[World.frozen?,h]
end Go.Proofs.YtpkaehpllldcmaaGreatDoor.Bt
end
section
namespace Go.Proofs.YtpkaehpllldcmaaGreatDoor.Bt
open Go Go.RowKit
theorem lenN_le (x:Int):lenN x≤1048576:=by unfold lenN;omega
theorem first_true {L:Nat} {es:List Nat} (g:Good L es) {fr:Int} {inn:Bool} (h:firstB L es fr inn=true):
 hasB L es (firstV L es fr inn)=inn∧fr≤firstV L es fr inn∧0≤firstV L es fr inn∧firstV L es fr inn<L∧∀j:Int,fI fr≤j→j<firstV L es fr inn→hasB L es j= !inn:=by
 have hf0:0≤fI fr∧fr≤fI fr:=by unfold fI;split<;>omega
 unfold firstV
 rw[h]
 unfold firstB at h
 have hcl:=cnt_le es (fI fr+1)
 by_cases hi:(insB (cnt es (fI fr+1))==inn)=true
 · rw[hi]
   have hlt:fI fr<L:=by simpa[hi]using h
   have hi':insB (cnt es (fI fr+1))=inn:=by simpa using hi
   exact⟨by simp only[if_true];unfold hasB mem;rw[hi'];simp;omega,by simp only[if_true];omega,by simp only[if_true];omega,by simp only[if_true];omega,fun j h1 h2=>by simp only[if_true]at h2;omega⟩
 · have hi':insB (cnt es (fI fr+1))= !inn:=by revert hi;cases insB (cnt es (fI fr+1))<;>cases inn<;>simp
   rw[hi']at h
   have h':fI fr<L∧cnt es (fI fr+1)<es.length∧es.getD (cnt es (fI fr+1)) 0<L:=by
    revert h;cases inn<;>simp
   obtain⟨h1,h2,h3⟩:=h'
   generalize hc:cnt es (fI fr+1)=c at*
   have hge:=get_ge g.rising (x:=fI fr+1) (i:=c) (by omega) h2
   have hmid:∀y:Int,fI fr+1≤y→y≤(es.getD c 0:Int)→cnt es y=c:=fun y y1 y2=>by
    refine cnt_of (Nat.le_of_lt h2) (fun i hi=>?_) (fun i hi hl=>?_)
    · have:=get_lt g.rising (x:=fI fr+1) (i:=i) (by omega);omega
    · by_cases e:i=c
      · subst e;exact y2
      · have:=rising_get g.rising (show c<i by omega) hl;omega
   have hnext:cnt es ((es.getD c 0:Int)+1)=c+1:=by
    refine cnt_of (by omega) (fun i hi=>?_) (fun i hi hl=>?_)
    · by_cases e:i=c
      · subst e;omega
      · have:=rising_get g.rising (show i<c by omega) h2;omega
    · have:=rising_get g.rising (show c<i by omega) hl;omega
   rw[hi']
   have hne:((!inn)==inn)=false:=by cases inn<;>rfl
   simp only[hne,if_true,Bool.false_eq_true,if_false]
   refine⟨?_,by omega,by omega,by omega,fun j j1 j2=>?_⟩
   · unfold hasB mem
     rw[hnext,insB_add,hi']
     have:decide (0≤(es.getD c 0:Int)∧(es.getD c 0:Int)<L)=true:=decide_eq_true ⟨by omega,by omega⟩
     rw[this];cases inn<;>rfl
   · unfold hasB mem
     rw[hmid (j+1) (by omega) (by omega),hi']
     have:decide (0≤j∧j<(L:Int))=true:=by simp;omega
     rw[this];cases inn<;>rfl
theorem first_false {L:Nat} {es:List Nat} (g:Good L es) {fr:Int} {inn:Bool} (h:firstB L es fr inn=false):
 firstV L es fr inn=0∧∀j:Int,fI fr≤j→j<L→hasB L es j= !inn:=by
 have hf0:0≤fI fr∧fr≤fI fr:=by unfold fI;split<;>omega
 refine⟨by unfold firstV;rw[h];rfl,fun j j1 j2=>?_⟩
 unfold firstB at h
 have hlt:fI fr<L:=by omega
 have hd:decide (fI fr<(L:Int))=true:=by simpa using hlt
 rw[hd]at h
 have hi':insB (cnt es (fI fr+1))= !inn:=by
  revert h;cases insB (cnt es (fI fr+1))<;>cases inn<;>simp
 have hcl:=cnt_le es (fI fr+1)
 have hlast:∀i,cnt es (fI fr+1)≤i→i<es.length→(L:Int)≤es.getD i 0:=fun i hi hl=>by
  have hcond:¬(cnt es (fI fr+1)<es.length∧es.getD (cnt es (fI fr+1)) 0<L):=by
   intro hh;revert h;rw[hi',decide_eq_true hh.1,decide_eq_true hh.2];cases inn<;>simp
  by_cases e:i=cnt es (fI fr+1)
  · subst e;omega
  · have:=rising_get g.rising (show cnt es (fI fr+1)<i by omega) hl
    have h3:¬es.getD (cnt es (fI fr+1)) 0<L:=fun hh=>hcond ⟨by omega,hh⟩
    omega
 have hmid:cnt es (j+1)=cnt es (fI fr+1):=by
  refine cnt_of hcl (fun i hi=>?_) (fun i hi hl=>?_)
  · have:=get_lt g.rising (x:=fI fr+1) (i:=i) hi;omega
  · have:=hlast i hi hl;omega
 unfold hasB mem
 rw[hmid,hi']
 have:decide (0≤j∧j<(L:Int))=true:=by simp;omega
 rw[this];cases inn<;>rfl
end Go.Proofs.YtpkaehpllldcmaaGreatDoor.Bt
end
section
namespace Go.Proofs.YtpkaehpllldcmaaGreatDoor.Bt
open Go
def ovI (fr n a c:Int):Int:=max (min c (fr+n)-max a fr) 0
def ovP (fr n:Int) (x:Pr):Int:=ovI fr n x.1.1 ((x.1.1:Int)+x.1.2)
def sumP (fr n:Int) (l:List Pr):Int:=(l.map (ovP fr n)).sum
theorem sumP_snoc (fr n:Int) (l:List Pr) (x:Pr):sumP fr n (l++[x])=sumP fr n l+ovP fr n x:=by simp[sumP]
theorem ovP_bd {fr n:Int} (h0:0≤fr) (h1:0≤n) (h2:fr+n≤1048576) (x:Pr):0≤ovP fr n x∧ovP fr n x≤1048576:=by
 have:=x.2;unfold ovP ovI;omega
theorem sumP_bd {fr n:Int} (h0:0≤fr) (h1:0≤n) (h2:fr+n≤1048576) (l:List Pr):0≤sumP fr n l∧sumP fr n l≤l.length*1048576:=by
 induction l with
 |nil=>simp[sumP]
 |cons x t ih=>
  have:=ovP_bd h0 h1 h2 x
  have e:sumP fr n (x::t)=ovP fr n x+sumP fr n t:=by simp[sumP]
  rw[e];simp only[List.length_cons];omega
def memCount (es:List Nat) (fr n:Nat):Nat:=(List.range n).countP fun(i:Nat)=>mem es ((fr:Int)+i)
theorem pairs_cons {a c:Nat} {t:List Nat}:pairs (a::c::t)=mkPr a c::pairs t:=by
 unfold pairs pairsTo
 rw[show(a::c::t).length/2=t.length/2+1 from by simp;omega,List.range_succ_eq_map,List.map_cons,List.map_map]
 refine congr (congrArg _ rfl) (List.map_congr_left fun j _=>?_)
 show pairAt (a::c::t) (j+1)=pairAt t j
 unfold pairAt
 rw[show 2*(j+1)=2*j+1+1 from by omega];simp only[List.getD_cons_succ]
theorem mem_two {a c:Nat} {t:List Nat} (h:Rising (a::c::t)) (i:Int):mem (a::c::t) i=(decide ((a:Int)≤i∧i<c)||mem t i)∧((a:Int)≤i∧i<c→mem t i=false):=by
 have ha:=(List.pairwise_cons.1 h).1
 have hc:=(List.pairwise_cons.1 (List.pairwise_cons.1 h).2).1
 have hac:=ha c (by simp)
 unfold mem
 rw[cnt_cons,cnt_cons]
 by_cases h1:(a:Int)≤i
 · by_cases h2:i<c
   · have hz:cnt t (i+1)=0:=cnt_none fun e he=>by have:=hc e he;omega
     rw[if_pos (by omega),if_neg (by omega),hz]
     exact⟨by simp[insB,h1,h2],fun _=>rfl⟩
   · rw[if_pos (by omega),if_pos (by omega)]
     refine⟨?_,fun hh=>by omega⟩
     rw[show 1+(1+cnt t (i+1))=2+cnt t (i+1)from by omega,insB_add]
     have:decide ((a:Int)≤i∧i<c)=false:=decide_eq_false (by omega)
     rw[this];cases insB (cnt t (i+1))<;>rfl
 · have hz:cnt t (i+1)=0:=cnt_none fun e he=>by have:=hc e he;omega
   rw[if_neg (by omega),if_neg (by omega),hz]
   refine⟨?_,fun hh=>by omega⟩
   have:decide ((a:Int)≤i∧i<c)=false:=decide_eq_false (by omega)
   rw[this];rfl
theorem count_row (a c:Int) (fr:Nat) (hac:a≤c):∀n:Nat,((((List.range n).countP fun(i:Nat)=>decide (a≤(fr:Int)+i∧(fr:Int)+i<c)):Nat):Int)=ovI fr n a c:=by
 intro n
 induction n with
 |zero=>simp[ovI];omega
 |succ n ih=>
  rw[List.range_succ,List.countP_append]
  simp only[List.countP_cons,List.countP_nil]
  rw[Int.natCast_add,ih]
  by_cases h:a≤(fr:Int)+n∧(fr:Int)+n<c
  · rw[decide_eq_true h];unfold ovI;simp;omega
  · rw[decide_eq_false h];unfold ovI;simp;omega
theorem countP_or {l:List Nat} {p q:Nat→Bool} (h:∀i,p i=true→q i=false):l.countP (fun i=>p i||q i)=l.countP p+l.countP q:=by
 induction l with
 |nil=>rfl
 |cons x t ih=>
  simp only[List.countP_cons,ih]
  cases hp:p x
  · cases q x<;>simp<;>omega
  · rw[h x hp];simp;omega
theorem memCount_pairs:∀(m:Nat) (es:List Nat) (fr n:Nat),es.length≤m→Rising es→es.length%2=0→(∀e∈es,e≤1048576)→(memCount es fr n:Int)=sumP fr n (pairs es):=by
 intro m
 induction m with
 |zero=>
  intro es fr n h _ _ _
  have:es=[]:=List.eq_nil_of_length_eq_zero (by omega)
  subst this
  simp[memCount,mem,cnt_nil,insB,sumP,pairs,pairsTo]
 |succ m ih=>
  intro es fr n h hr hev hle
  match es,h,hr,hev,hle with
  |[],_,_,_,_=>simp[memCount,mem,cnt_nil,insB,sumP,pairs,pairsTo]
  |[a],_,_,hev,_=>simp at hev
  |a::c::t,h,hr,hev,hle=>
   have hrt:Rising t:=(List.pairwise_cons.1 (List.pairwise_cons.1 hr).2).2
   have hac:a<c:=(List.pairwise_cons.1 hr).1 c (by simp)
   have hcl:=hle c (by simp)
   rw[pairs_cons]
   have e1:sumP fr n (mkPr a c::pairs t)=ovP fr n (mkPr a c)+sumP fr n (pairs t):=by simp[sumP]
   have e2:ovP fr n (mkPr a c)=ovI fr n a c:=by
    unfold ovP mkPr;rw[dif_pos ⟨hac,hcl⟩];simp only
    rw[show(a:Int)+((c-a:Nat):Int)=c from by omega]
   rw[e1,e2,←count_row a c fr (by omega) n,←ih t fr n (by simp at h;omega) hrt (by simp at hev;omega) (fun e he=>hle e (by simp[he]))]
   unfold memCount
   rw[←Int.natCast_add,←countP_or fun i hi=>(mem_two hr _).2 (of_decide_eq_true hi)]
   congr 1
   exact List.countP_congr fun i _=>by rw[(mem_two hr _).1]
theorem memCount_sum {L:Nat} {es:List Nat} (g:Good L es) (fr n:Nat):(memCount es fr n:Int)=sumP fr n (pairs es):=
 memCount_pairs es.length es fr n (Nat.le_refl _) g.rising g.even fun e he=>by have:=g.le e he;have:=g.small;omega
end Go.Proofs.YtpkaehpllldcmaaGreatDoor.Bt
end
