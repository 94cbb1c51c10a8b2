import Derived.Test.YtgcidfenjlmljaaGreatPg06
import Derived.Deep.RegionWith
import Derived.RangeFuncNested
import Derived.RangeFuncBound
import Derived.RangeFuncCalls
import Derived.Laws.BytesArg
import Derived.Laws.CopyRow
import Derived.Laws.CopyOwn
import Derived.Test.YtgcidfenjlmljaaGreatPgR
set_option linter.unusedVariables false
set_option linter.unusedSimpArgs false
set_option maxRecDepth 100000
set_option maxHeartbeats 16000000
namespace Go.Proofs.YtgcidfenjlmljaaGreat.Bt
section
open Go Go.RowKit Go.Shelf
def Zgn (x:Int) (i:Nat):UInt8:=UInt8.ofNat (x.toNat/2^(8*i))
def Zfk (x:Int) (k:Nat):List UInt8:=(List.range k).map (Zgn x)
theorem Znd (x:Int) (k:Nat):Zfk x (k+1)=Zfk x k++[Zgn x k]:=by simp[Zfk,List.range_succ]
theorem Zbh (x:Int) (k:Nat):(Zfk x k).length=k:=by simp[Zfk]
theorem Zrk {x:Int} (hx:0<=x) (j:Nat):IntKind.u8.wrap (x/2^(8*j))=((Zgn x j).toNat:Int):=by
 have e:x/2^(8*j)=((x.toNat/2^(8*j):Nat):Int):=by
  obtain⟨xn,rfl⟩:∃xn:Nat,x=xn:=⟨x.toNat,by omega⟩
  simp
 rw[e];generalize hz:x.toNat/2^(8*j)=z;have e2:IntKind.u8.wrap (z:Int)=((z%256:Nat):Int):=by simp[IntKind.wrap,IntKind.bits,IntKind.signed]
 rw[e2];unfold Zgn;rw[hz];simp
theorem ArX.Zuy {A P n cap:Nat} {s:ASt} {ps:List (Option Nat)} {p:Option Addr} {x:World} (h:ArX A s P ps p n cap x) {i b j:Nat} (hb:ps[i]?=some (some b)) (hj:j<4096) (y:UInt8):
 ArX A {s with mm:=fun k=>if k=i*4096+j then y else s.mm k} P ps p n cap (x.setCell (aD b j) (.int .u8 (y.toNat:Int)))/\Step A P ps ps x (x.setCell (aD b j) (.int .u8 (y.toNat:Int))):=by
 refine⟨h.Yf2 hb (by rw[Zc1];exact Nat.le_refl _) ?_ (fun k _ hk=>Below.heap_setCell _ _ _ _ (by exact hk)) (fun k hk=>if_neg (fun e=>hk (by omega))),⟨rfl,rfl,rfl,by rw[Zc1];exact Nat.le_refl _,fun k _ hk=>Below.heap_setCell _ _ _ _ (by show k≠b;exact fun e=>hk (.inr (.inr ⟨i,by rw[e];exact hb⟩))),fun _ _ e=> .inl e⟩⟩
 rw[heap_set (h.pg i b hb)]
 have e:=Yf0 (m:=s.mm) (m':=fun k=>if k=i*4096+j then y else s.mm k) (i:=i) hj (y:=y) (fun k hk=>by
  by_cases e:k=j
  · subst e;simp
  · rw[if_neg e,if_neg (by omega)])
 rw[e]
section
variable {A P n cap:Nat} {s:ASt} {ps:List (Option Nat)} {p:Option Addr} {w:World}
def Yi2 (A P:Nat) (s:ASt) (ps:List (Option Nat)) (p:Option Addr) (n cap an kn:Nat) (x:Int) (w:World) (i:Value) (wr:World):Prop:=
 ∃(j:Nat) (ps':List (Option Nat)),j<=kn/\i=iV j/\ArX A {s with mm:=Zb8 s.mm an (Zfk x j)} P ps' p n cap wr/\Step A P ps ps' w wr
def Zbx (s:ASt) (a k x:Int):ASt:=if Zb9 s.L s.es a k=0 then{s with mm:=Zb8 s.mm a.toNat (Zfk x k.toNat)}else s
def Zg9 (A P:Nat) (s:ASt) (ps:List (Option Nat)) (p:Option Addr) (a k x:Int) (w:World) (e:Ending) (w':World):Prop:=
 e=.returned (iV (Zb9 s.L s.es a k))/\Zel A P ps p (Zbx s a k x) w w'
theorem Zuq (h:ArX A s P ps p n cap w) (a k x:Int) (ha:a<=9223372036854775807) (hx:0<=x) (hn:Zb9 s.L s.es a k=0):
 Calls Tryz.prog 42 #[pT A,iV a,iV k,.int .u64 x] w (Zg9 A P s ps p a k x w):=by
 have hw:Za6 k=true:=by
  unfold Zb9 at hn;cases hq:Za6 k with
  |true=>rfl
  |false=>rw[hq]at hn;cases hn
 have ht:Zbd s.L s.es a k=true:=by
  unfold Zb9 Zac at hn;rw[hw]at hn
  cases hq:Zbd s.L s.es a k with
  |true=>rfl
  |false=>rw[hq]at hn;cases hn
 obtain⟨t0,t1,t2,t3⟩:=(Zax h.Zch a k).1 ht;have hk8:1<=k/\k<=8:=by rcases Ziw hw with rfl|rfl|rfl|rfl<;>omega
 have HM:Hid (∀i:Int,a<=i->i<a+k->mem s.es (i/4096)=true):=hid t3;have hsm:=h.Zch.small;have HNU:=hid hn;have HC:=fun w (hw:ArX A s P ps p n cap w)=>Zf3 hw a k ha
 clear t3 hn hw ht;go_enter Tryz.func42,Tryz.ntmps42;go_wp2_with fail
 refine(HC _ h).mono ?_
 rintro e w1 ⟨rfl,hb⟩;rw[HNU.out];have h':=h.below hb;clear h HC;have HX:=hid h';clear h';obtain⟨an,rfl⟩:∃an:Nat,a=an:=⟨a.toNat,by omega⟩
 obtain⟨kn,rfl⟩:∃kn:Nat,k=kn:=⟨k.toNat,by omega⟩
 go_wp2_with fail
 go_loopw[20] (fun i wr=>Yi2 A P s ps p n cap an kn x w i wr) (fun i _=>kn-(intOf i).toNat)
 case atStart=>exact⟨0,ps,Nat.zero_le _,rfl,by rw[show Zfk x 0=[]from rfl,Zqi];exact HX.out,Step.Zad hb⟩
 case round=>
  obtain⟨j,ps',hj,rfl,hxj,hst⟩:=hrel;by_cases hlt:j<kn
  · have hi:(an+j)/4096<s.L:=by omega
    have hm:=HM.out ((an+j:Nat):Int) (by omega) (by omega)
    have hm':mem s.es (((an+j)/4096:Nat):Int)=true:=by
     rw[show((((an+j)/4096:Nat)):Int)=((an+j:Nat):Int)/4096 from by omega];exact hm
    clear hm;have q1:IntKind.i64.wrap ((an:Int)+j)=(an:Int)+j:=IntWalk.i64_in _ (by omega);have q2:0<=(an:Int)+j:=by omega
    have q3:((an:Int)+j).toNat=an+j:=by omega
    have q4:IntKind.i64.wrap (8*(j:Int))=8*(j:Int):=IntWalk.i64_in _ (by omega);have q5:0<=8*(j:Int):=by omega
    obtain⟨mi,hmi⟩:=eX ((an+j)/4096);obtain⟨mj,hmj⟩:=eX ((an+j)%4096);have q6:IntKind.i64.wrap (((an:Int)+j).tdiv 4096)=(mi:Int):=by rw[Int.tdiv_eq_ediv_of_nonneg (by omega)];rw[IntWalk.i64_in _ (by omega)];omega
    have q7:((an:Int)+j).tmod 4096=(mj:Int):=by rw[Int.tmod_eq_emod_of_nonneg (by omega)];omega
    have q10:(8*(j:Int)).toNat=8*j:=by omega
    have q8:(mj:Int)<4096:=by omega
    have q9:mj<4096:=by omega
    have HMJ:Hid (mi*4096+mj=an+j):=hid (by omega);rw[hmi]at hi hm';clear hmi hmj;obtain⟨yb,hyb⟩:=eX (((Zgn x j).toNat:Int):Int)
    have hv:x/2^(8*j)%256=yb:=by
     have h1:=Zrk hx j;rw[hyb]at h1;rw[<-h1];simp[IntKind.wrap,IntKind.bits,IntKind.signed]
    have HYB:=hid hyb;clear hyb;have hil:mi<ps'.length:=by rw[hxj.len];exact hi
    obtain⟨c0,c1,c2,c3,c4⟩:=hxj.head
    have hcase:(Zgn x j=0/\ps'[mi]?=some none)\/(Zgn x j≠0\/Zgn x j=0/\∃b,ps'[mi]?=some (some b)):=by
     by_cases h0:Zgn x j=0
     · cases hq:ps'[mi]? with
       |none=>rw[List.getElem?_eq_none_iff]at hq;omega
       |some q=>cases q with
        |none=>exact .inl ⟨h0,rfl⟩
        |some b=>exact .inr (.inr ⟨h0,b,rfl⟩)
     · exact .inr (.inl h0)
    rcases hcase with⟨h0,hq⟩|hcase
    · obtain rfl:yb=0:=by rw[<-HYB.out,h0];rfl
      have hsl:=hxj.slot hq;simp only[Zie]at hsl;have HQ:=hid hq;have H0:=hid h0;have HXJ:=hid (And.intro hxj hst);clear hq h0 hxj hst;go_wp2_with fail;go_roundw
      case rel=>
       refine⟨j+1,ps',by omega,by go_num,?_,HXJ.out.2⟩
       have hz:Zb8 s.mm an (Zfk x j) (mi*4096+mj)=0:=HXJ.out.1.no _ HQ.out mj q9
       have e:Zb8 s.mm an (Zfk x (j+1))=Zb8 s.mm an (Zfk x j):=by
        rw[Znd,Zjd,Zbh,<-HMJ.out]
        funext i
        by_cases e:i=mi*4096+mj
        · rw[if_pos e,H0.out,e,hz]
        · rw[if_neg e]
       rw[e];exact HXJ.out.1
      case measure=>simp[intOf];omega
    rcases hcase with h0|⟨h0,b0,hq⟩
    focus
     have d0:¬yb=0:=by
      rw[<-HYB.out];have h1:(Zgn x j).toNat≠0:=fun e=>h0 (UInt8.toNat_inj.1 e)
      omega
     clear h0
    rotate_left
    focus
     obtain rfl:yb=0:=by rw[<-HYB.out,h0];rfl
     have hsl:=hxj.slot hq;simp only[Zie]at hsl;clear h0 hq
    all_goals
     go_wp2_with fail
     refine(Zjn hxj mi hi hm').mono ?_
     rintro e w' ⟨b,ps2,rfl,hpb,hx2,hs2⟩;have hby:=hx2.byte hpb q9;have hfr:=(Zaa (hx2.pg _ b hpb) mj).2;have hsb:=hx2.Zuy hpb q9 (Zgn x j);rw[HYB.out]at hsb;have HSB:=hid hsb;clear hsb;have HSS:=hid ((hst.trans hs2).trans (HSB.out.2));clear hpb hs2 hxj hst;go_wp2_with fail;go_roundw
     case rel=>
      refine⟨j+1,ps2,by omega,by go_num,?_,HSS.out⟩
      have e:Zb8 s.mm an (Zfk x (j+1))=fun k=>if k=mi*4096+mj then Zgn x j else Zb8 s.mm an (Zfk x j) k:=by
       rw[Znd,Zjd,Zbh,HMJ.out]
      rw[e];exact HSB.out.1
     case measure=>simp[intOf];omega
  · have hje:j=kn:=by omega
    subst hje;have HF:=hid (And.intro hxj hst);clear hxj hst;go_wp2_with fail
    go_ret
    refine⟨by rw[HNU.out];rfl,ps',p,n,cap,?_,HF.out.2,fun _ _ _=> .inl rfl⟩
    unfold Zbx;rw[HNU.out,if_pos rfl,Int.toNat_natCast,Int.toNat_natCast];exact HF.out.1
theorem Zyu (h:ArX A s P ps p n cap w) (a k x:Int) (ha:a<=9223372036854775807) (hn:Zb9 s.L s.es a k≠0):
 Calls Tryz.prog 42 #[pT A,iV a,iV k,.int .u64 x] w (Zg9 A P s ps p a k x w):=by
 have hb0:(Zb9 s.L s.es a k !=0)=true:=by rw[bne_iff_ne];exact hn
 have HC:=fun w (hw:ArX A s P ps p n cap w)=>Zf3 hw a k ha
 have HNE:=hid hn;have HX:=hid h;clear hn;go_enter Tryz.func42,Tryz.ntmps42;go_wp2_with fail
 refine(HC _ h).mono ?_
 rintro e w1 ⟨rfl,hb⟩;clear h HC;go_wp2_with fail
 go_ret
 exact⟨rfl,ps,p,n,cap,by unfold Zbx;rw[if_neg HNE.out];exact HX.out.below hb,Step.Zad hb,fun _ _ _=> .inl rfl⟩
theorem Zmt (h:ArX A s P ps p n cap w) (a k x:Int) (ha:a<=9223372036854775807) (hx:0<=x):
 Calls Tryz.prog 42 #[pT A,iV a,iV k,.int .u64 x] w (Zg9 A P s ps p a k x w):=by
 by_cases hn:Zb9 s.L s.es a k=0
 · exact Zuq h a k x ha hx hn
 · exact Zyu h a k x ha hn
end
end
section
open Go Go.RowKit Go.Shelf
attribute [local go_sem] Oper.semAt_some
abbrev Pc (a n:Nat):={x:Nat × Nat//0<x.2/\x.1+x.2<=n/\(a+x.1)%4096+x.2<=4096}
def Zw9 (a n:Nat) (x:Pc a n):Array Value:=
 #[iV (x.1.1:Int),.agg #[iV (((a+x.1.1)/4096:Nat):Int),iV (((a+x.1.1)%4096:Nat):Int),iV (((a+x.1.1)%4096+x.1.2:Nat):Int)]]
def cov {a n:Nat} (l:List (Pc a n)) (i:Nat):Bool:=l.any fun x=>decide (x.1.1<=i/\i<x.1.1+x.1.2)
theorem Zim {a n:Nat} (l:List (Pc a n)) (x:Pc a n) (i:Nat):cov (l++[x]) i=(cov l i||decide (x.1.1<=i/\i<x.1.1+x.1.2)):=by simp[cov]
theorem Zsh (nf l Bn Ba a n:Nat) (hn:n<=4294967296) (hb:a<=4294967296) (J Jx:List (Pc a n)->World->Prop)
 (hY:∀pre x W,J pre W->pre.length<n->YieldAt Fence.wide (nf-1) Tryz.prog l (Zw9 a n x) W fun e W'=>
  (e=.returned (.bool true)/\J (pre++[x]) W'/\K2 Bn Ba W W')\/(e=.returned (.bool false)/\Jx (pre++[x]) W'))
 (W:World) (hN:W.cell? (aD Bn 0)=some (iV n)) (hA:W.cell? (aD Ba 0)=some (iV a)) (h0:J [] W):
 CallsIn Fence.wide nf Tryz.prog 162 #[.func (.yield l) #[] #[],pT Bn,pT Ba] W fun e W'=>(∃v,e=.returned v)/\
  ((∃ys,(∀i,i<n->cov ys i=true)/\J ys W')\/(∃pre,True/\Jx pre W')):=by
 refine callsIn_of_wp Tryz.func162 rfl trivial ?_ rfl;simp only[Tryz.ntmps162,List.size_toArray,List.length_cons,List.length_nil,Nat.reduceAdd,Nat.reduceSub,Array.replicate_succ,Array.replicate_zero,List.push_toArray,List.append_toArray,List.nil_append,List.cons_append]
 gi_wp2
 gi_loopw [4] (fun i wr=>∃(d:Nat) (pre:List (Pc a n)),d<=n/\i=iV (d:Nat)/\pre.length<=d/\Hid (∀i,i<d->cov pre i=true)/\J pre wr/\K2 Bn Ba W wr)
  (fun i _=>n-(intOf i).toNat)
 case atStart=>exact⟨0,[],by omega,rfl,by simp,hid (fun i hi=>by omega),h0,K2.refl _⟩
 case round=>
  obtain⟨d,pre,hd,rfl,hpl,hcv,hJs,hnx⟩:=hrel;have cN:wr.cell? (aD Bn 0)=some (iV n):=(hnx.one 0).trans hN;have cA:wr.cell? (aD Ba 0)=some (iV a):=(hnx.two 0).trans hA;clear hN hA;by_cases hlt:d<n
  · obtain⟨lo,hlo⟩:=eX ((a+d)%4096)
    obtain⟨pg,hpg⟩:=eX ((a+d)/4096);have hl4:lo<4096:=by omega
    have q1:((a:Int)+d)%4096=(lo:Int):=by omega
    have q2:((a:Int)+d)/4096=(pg:Int):=by omega
    obtain⟨m,hm0,hm1,hm2,hmm⟩:∃m:Nat,0<m/\d+m<=n/\lo+m<=4096/\((m=n-d/\(lo:Int)+n-d<=4096)\/(lo+m=4096/\(4096:Int)<(lo:Int)+n-d)):=by
     by_cases h:(lo:Int)+n-d<=4096
     · exact⟨n-d,by omega,by omega,by omega,.inl ⟨rfl,h⟩⟩
     · exact⟨4096-lo,by omega,by omega,by omega,.inr ⟨by omega,by omega⟩⟩
    obtain⟨x,hx1,hx2⟩:∃x:Pc a n,x.1.1=d/\x.1.2=m:=⟨⟨(d,m),hm0,hm1,by rw[hlo];exact hm2⟩,rfl,rfl⟩
    obtain⟨fn,tmps,assign,body,hy,hR⟩:=hY pre x wr hJs (by omega);simp only[Zw9,hx1,hx2,hlo,hpg]at hy
    have HCV:Hid (∀i,i<d+m->cov (pre++[x]) i=true):=hid fun i hi=>by
     rw[Zim,hx1,hx2];by_cases h:i<d
     · rw[hcv.out i h];rfl
     · rw[decide_eq_true (by omega)];simp
    clear hlo hpg hx1 hx2
    have HKF:Hid (∀W3,J (pre++[x]) W3->K2 Bn Ba wr W3->∃(d':Nat) (pre':List (Pc a n)),d'<=n/\Value.int .i64 ((d:Int)+m)=iV (d':Nat)/\pre'.length<=d'/\Hid (∀i,i<d'->cov pre' i=true)/\J pre' W3/\K2 Bn Ba W W3):=hid fun W3 hj hk=>
     ⟨d+m,pre++[x],by omega,by go_num,by simp;omega,HCV,hj,hnx.trans hk⟩
    rcases hmm with⟨hm5,h4⟩|⟨hm5,h4⟩
    focus
     obtain⟨H,hH⟩:=eX (lo+m);rw[hH]at hy;have e1:(lo:Int)+n-d=(H:Int):=by omega
     have e2:(H:Int)-lo=(m:Int):=by omega
     have hH4:H<=4096:=by omega
     clear hm5 hH h4
    rotate_left
    focus
     rw[hm5,show(((4096:Nat):Int))=4096 from rfl]at hy;have e2:(4096:Int)-lo=(m:Int):=by omega
     clear hm5
    all_goals
     gi_wp2_with fail
     refine⟨fun hd=>by simp[Fence.wide]at hd,hR.mono ?_⟩
     rintro e W3 (⟨rfl,hJ3,hk3⟩|⟨rfl,hJx3⟩)
     · have HF:=hid (HKF.out W3 hJ3 hk3)
       clear HKF
       gi_wp2_with fail
       go_roundw
       case rel=>exact HF.out
       case measure=>simp[intOf];omega
     · gi_wp2_with fail
       refine bodyPost_ret (results_none rfl _ _ _) rfl ?_
       exact⟨⟨_,rfl⟩,.inr ⟨_,trivial,hJx3⟩⟩
  · have hke:d=n:=by omega
    have HK:=hid hke;clear hke
    gi_wp2
    go_end0
    exact⟨⟨_,rfl⟩,.inl ⟨_,fun i hi=>hcv.out i (by rw[HK.out];exact hi),hJs⟩⟩
theorem Zh0 (nf Bn Ba a n:Nat) (hn:n<=4294967296) (hb:a<=4294967296) (w:World) (lN:Bn<w.heap.size) (lA:Ba<w.heap.size) (hN:w.cell? (aD Bn 0)=some (iV n)) (hA:w.cell? (aD Ba 0)=some (iV a)):
 SeqStopsK Fence.wide nf Tryz.prog 162 #[pT Bn,pT Ba] (Zw9 a n) (K2 Bn Ba) (fun ys=>∀i,i<n->cov ys i=true) (fun _=>True) n w:=fun l J Jx W hW hJ hJx hY h0=>
 Zsh nf l Bn Ba a n hn hb J Jx hY W ((hW.cell (p:=(aD Bn 0)) lN).trans hN) ((hW.cell (p:=(aD Ba 0)) lA).trans hA) h0
theorem Zm7 (a n:Int) (w:World):
 Calls Tryz.prog 96 #[iV a,iV n] w fun e w'=>e=.returned (.func (.func 162) #[] #[.pointer (some ⟨w.heap.size+1,0,none⟩),.pointer (some (aD w.heap.size 0))])/\w'=(w.alloc (.cells #[iV a] 3)).alloc (.cells #[iV n] 3):=by
 have hmf:∀(fn:Fn) (first cap:Array Value) (w:World),(Instr.makeFunc fn first cap).run Tryz.prog w=.ok (.func fn first cap) w:=fun _ _ _ _=>rfl
 go_enter Tryz.func96,Tryz.ntmps96
 go_wp2
 go_ret
 exact⟨rfl,rfl⟩
end
section
open Go Go.RowKit Go.Shelf
attribute [local go_sem] Oper.semAt_some
def Zup (l:List UInt8):ByteArray:=⟨l.toArray⟩
def Zh8 {a n:Nat} (m:Nat->UInt8) (l:List (Pc a n)):Array Value:=((List.range n).map fun i=>Value.int .u8 (((if cov l i then m (a+i)else 0):UInt8).toNat:Int)).toArray
theorem Tryz.Zq2:(Tryz.prog.info? 5).map (fun i=>(i.zero,i.size,i.bytes))=some (some (.int .u8 0),1,1):=by kernel_rfl
theorem Zzv {a:Nat} (m:Nat->UInt8) (n:Nat):madeCells (Value.int .u8 0).cells (n*1)=Zh8 (a:=a) (n:=n) m []:=by
 apply Array.ext_getElem?
 intro j;by_cases hj:j<n
 · simp[madeCells,hj,Value.cells,Nat.mod_one,Zh8,cov]
 · rw[Array.getElem?_eq_none (by rw[size_madeCells];omega),Array.getElem?_eq_none (by simp[Zh8];omega)]
theorem Zm1 (a n:Nat) (m:Nat->UInt8) (hn:n<=4294967296) (w:World):
 (Instr.makeSlice 107 (iV n) (iV n)).run Tryz.prog w=.ok (.slice (some (aD w.heap.size 0)) n n) (w.alloc (.cells (Zh8 (a:=a) (n:=n) m []) 5)):=by
 obtain⟨i0,hi,hz0,hz1,hz2⟩:=info_parts Tryz.Zq2;have h:=run_make (P:=Tryz.prog) w 107 5 i0 (.int .u8 0) Tryz.underlying107 hi hz0 .i64 .i64 (n:Int) n (by omega) (Int.le_refl _) (by rw[hz2];omega) (by omega);rw[Int.toNat_natCast,hz1,Zzv (a:=a) m]at h;exact h
theorem Ze8 {a n:Nat} (m:Nat->UInt8) (l:List (Pc a n)) (i:Nat) (hi:i<n):(Zh8 m l)[i]?=some (.int .u8 (((if cov l i then m (a+i)else 0):UInt8).toNat:Int)):=by simp[Zh8,hi]
theorem Zgv {a n:Nat} (m:Nat->UInt8) (l:List (Pc a n)):(Zh8 m l).size=n:=by simp[Zh8]
theorem Zzk {a n:Nat} (m:Nat->UInt8) (l:List (Pc a n)) (x:Pc a n) (h:∀i,x.1.1<=i->i<x.1.1+x.1.2->m (a+i)=0):Zh8 m (l++[x])=Zh8 m l:=by
 apply Array.ext_getElem?
 intro i;by_cases hi:i<n
 · rw[Ze8 m _ i hi,Ze8 m _ i hi,Zim]
   by_cases hx:x.1.1<=i/\i<x.1.1+x.1.2
   · rw[h i hx.1 hx.2];simp
   · rw[decide_eq_false hx];simp
 · rw[Array.getElem?_eq_none (by rw[Zgv];omega),Array.getElem?_eq_none (by rw[Zgv];omega)]
def Ybk (m:Nat->UInt8) (a k:Nat):List Value:=(List.range k).map fun j=>Value.int .u8 ((m (a+j)).toNat:Int)
theorem Zbv (m:Nat->UInt8) (a k:Nat):(Ybk m a k).length=k:=by simp[Ybk]
theorem Zzl {a n:Nat} (m:Nat->UInt8) (l:List (Pc a n)) (x:Pc a n):
 ((Zh8 m l).toList.take x.1.1++Ybk m (a+x.1.1) x.1.2++(Zh8 m l).toList.drop (x.1.1+(Ybk m (a+x.1.1) x.1.2).length)).toArray=Zh8 m (l++[x]):=by
 have hx:=x.2;rw[Zbv]
 apply Array.ext_getElem?
 intro i;have hlen:(Zh8 m l).toList.length=n:=by simp[Zh8]
 by_cases hi:i<n
 · rw[Ze8 m _ i hi,Zim,List.getElem?_toArray]
   by_cases h1:i<x.1.1
   · rw[List.append_assoc,List.getElem?_append_left (by rw[List.length_take];omega),List.getElem?_take,if_pos h1,Array.getElem?_toList,Ze8 m l i hi,decide_eq_false (by omega)]
     simp
   · by_cases h2:i<x.1.1+x.1.2
     · rw[List.append_assoc,List.getElem?_append_right (by rw[List.length_take];omega),List.length_take,hlen,List.getElem?_append_left (by rw[Zbv];omega),decide_eq_true (by omega)]
       have e:i-min x.1.1 n=i-x.1.1:=by omega
       have e2:a+x.1.1+(i-x.1.1)=a+i:=by omega
       rw[e];simp only[Ybk,List.getElem?_map];rw[List.getElem?_range (by omega)];simp only[Option.map_some,e2,Bool.or_true,if_true]
     · rw[List.getElem?_append_right (by simp only[List.length_append,List.length_take,Zbv,hlen];omega)]
       simp only[List.length_append,List.length_take,Zbv,hlen];rw[List.getElem?_drop,Array.getElem?_toList,decide_eq_false (by omega)];have e:x.1.1+x.1.2+(i-(min x.1.1 n+x.1.2))=i:=by omega
       rw[e,Ze8 m l i hi];simp
 · rw[Array.getElem?_eq_none (by simp only[List.size_toArray,List.length_append,List.length_take,List.length_drop,Zbv,hlen];omega),Array.getElem?_eq_none (by rw[Zgv];omega)]
theorem Zzh:Tryz.prog.underlying 124=some (.array 4096 5):=by kernel_rfl
theorem Zkj (b lo m:Nat) (hm:0<m) (h:lo+m<=4096) (w:World):
 (Instr.sliceAt 124 (pT b) (some (iV lo)) (some (iV ((lo:Int)+m))) none).run Tryz.prog w=.ok (.slice (some (aD b lo)) m (4096-lo)) w:=by
 have hne:¬4096=lo:=by omega
 have h1:0<=(lo:Int)+m/\(lo:Int)+m<=4096:=by omega
 have h2:((lo:Int)+m).toNat=lo+m:=by omega
 simp[Instr.sliceAt,Instr.sureAddr,run_underlying Zzh,Instr.sliceBounds,Instr.sliceBound,go_sem];rw[if_pos h1,h2,if_pos (Nat.le_add_right _ _),if_neg hne,Nat.add_sub_cancel_left]
theorem Zrv (b o j:Nat):((aD b o):Addr).add j=(aD b (o+j)):=by simp only[Addr.add];split<;>simp_all
theorem Yaz {a n:Nat} (mm:Nat->UInt8) (l:List (Pc a n)) (x:Pc a n) (W:World) (O b:Nat) (hO:W.heap[O]?=some (.cells (Zh8 mm l) 5 (0,0)))
 (hb:∀j,j<x.1.2->W.cell? (aD b ((a+x.1.1)%4096+j))=some (.int .u8 ((mm (a+x.1.1+j)).toNat:Int))) (ty:TypeId):
 (Builtin.copy_ #[107,107] ty #[.slice (some (aD O x.1.1)) (n-x.1.1) (n-x.1.1),.slice (some (aD b ((a+x.1.1)%4096))) x.1.2 (4096-(a+x.1.1)%4096)]).run Tryz.prog W=
  .ok (goInt x.1.2) (W.setRow O (Zh8 mm (l++[x]))):=by
 have hx:=x.2;obtain⟨i0,hi,hz0,hz1,hz2⟩:=info_parts Tryz.Zq2
 have h:=run_copy_row Tryz.prog W 107 107 ty 5 O x.1.1 (n-x.1.1) (n-x.1.1) (aD b ((a+x.1.1)%4096)) x.1.2 (4096-(a+x.1.1)%4096) (Zh8 mm l) 5 (Ybk mm (a+x.1.1) x.1.2)
  Tryz.underlying107 (by rw[hi];simp[hz1]) hO (by rw[Zbv];exact(Nat.min_eq_left (by omega)).symm)
  (fun j v hj=>by
   have hjl:j<x.1.2:=by have:=(List.getElem?_eq_some_iff.1 hj).1;rw[Zbv]at this;exact this
   rw[Zrv,hb j hjl];simp only[Ybk,List.getElem?_map]at hj;rw[List.getElem?_range hjl]at hj
   simpa using hj)
  (by rw[Zbv,Zgv];omega) (fun v hv=>by simp only[Ybk,List.mem_map]at hv;obtain⟨_,_,rfl⟩:=hv;rfl)
 rw[h,Zbv];have e:=Zzl mm l x;rw[Zbv]at e;rw[e]
theorem Zrb (w:World) (a b c d:Array Value) (ta tb tc td:TypeId):
 ((((w.alloc (.cells a ta)).alloc (.cells b tb)).alloc (.cells c tc)).alloc (.cells d td)).heap[w.heap.size]?=some (.cells a ta (0,0))/\
 ((((w.alloc (.cells a ta)).alloc (.cells b tb)).alloc (.cells c tc)).alloc (.cells d td)).heap[w.heap.size+1]?=some (.cells b tb (0,0))/\
 ((((w.alloc (.cells a ta)).alloc (.cells b tb)).alloc (.cells c tc)).alloc (.cells d td)).heap[w.heap.size+1+1]?=some (.cells c tc (0,0))/\
 ((((w.alloc (.cells a ta)).alloc (.cells b tb)).alloc (.cells c tc)).alloc (.cells d td)).heap[w.heap.size+1+1+1]?=some (.cells d td (0,0)):=by
 obtain⟨h1,h2,h3⟩:=Zfq w a b c ta tb tc;have hs:(((w.alloc (.cells a ta)).alloc (.cells b tb)).alloc (.cells c tc)).heap.size=w.heap.size+1+1+1:=by simp
 refine⟨?_,?_,?_,?_⟩
 · rw[Below.heap_alloc _ _ _ (by omega)];exact h1
 · rw[Below.heap_alloc _ _ _ (by omega)];exact h2
 · rw[Below.heap_alloc _ _ _ (by omega)];exact h3
 · have:=Zab (((w.alloc (.cells a ta)).alloc (.cells b tb)).alloc (.cells c tc)) (.cells d td);rw[hs]at this;exact this
section
variable {A P n cap:Nat} {s:ASt} {ps:List (Option Nat)} {p:Option Addr} {w:World}
def Zj7 (m:Nat->UInt8) (L:Nat) (es:List Nat) (a k:Int) (w:World) (e:Ending) (w':World):Prop:=
 e=.returned (.tuple #[.string (if Zac L es a k=0 then Zup (getM m a.toNat k.toNat)else⟨#[]⟩),iV (Zac L es a k)])/\Below w.heap.size w w'
theorem Zxp (h:ArX A s P ps p n cap w) (a k:Nat) (hn:Zac s.L s.es a k=0):
 CallsIn Fence.wide 4 Tryz.prog 34 #[pT A,iV a,iV k] w (Zj7 s.mm s.L s.es a k w):=by
 have ht:Zbd s.L s.es a k=true:=by
  unfold Zac at hn;cases hq:Zbd s.L s.es a k with
  |true=>rfl
  |false=>rw[hq]at hn;cases hn
 obtain⟨t0,t1,t2,t3⟩:=(Zax h.Zch a k).1 ht;have HM:Hid (∀i:Int,a<=i->i<a+k->mem s.es (i/4096)=true):=hid t3;have hsm:=h.Zch.small;have hk32:k<=4294967296:=by omega
 have ha32:a<=4294967296:=by omega
 have HNU:=hid hn;have hmk:=Zm1 a k s.mm hk32;have HX:=hid h;clear t3 hn ht h;refine callsIn_of_wp_marks Tryz.func34 rfl trivial ?_ rfl;simp only[Tryz.ntmps34,List.size_toArray,List.length_cons,List.length_nil,Nat.reduceAdd,Nat.reduceSub,Array.replicate_succ,Array.replicate_zero,List.push_toArray,List.append_toArray,List.nil_append,List.cons_append]
 gi_wp2_with fail
 have hxa:=HX.out.below ((Below.refl w.heap.size w).alloc (Nat.le_refl _) (.cells #[pT A] 38))
 refine⟨trivial,(callsIn_wide.2 (Zep hxa a k (by omega))).mono ?_⟩
 rintro e w1 ⟨rfl,hb1⟩;rw[HNU.out];have c0:w1.cell? (aD w.heap.size 0)=some (pT A):=(hb1.cell (p:=(aD w.heap.size 0)) (by simp)).trans (by simp);have B1:Below w.heap.size w w1:=((Below.refl w.heap.size w).alloc (Nat.le_refl _) (.cells #[pT A] 38)).trans (hb1.mono (by simp));have hs1:w.heap.size+1<=w1.heap.size:=by have:=hb1.size;simpa using this
 clear hb1 hxa
 gi_wp2_with (refine⟨trivial,?_⟩;gi_at_call 96;refine(callsIn_wide.2 (Zm7 a k _)).mono ?_;rintro e w' ⟨rfl,rfl⟩)
 obtain⟨w2,hw2⟩:=eX ((((w1.alloc (.cells (Zh8 (a:=a) (n:=k) s.mm []) 5)).alloc (.cells #[.slice (some (aD w1.heap.size 0)) k k] 107)).alloc (.cells #[iV a] 3)).alloc (.cells #[iV k] 3));have hsz:w2.heap.size=w1.heap.size+4:=by rw[<-hw2];simp
 have hB2:Below w1.heap.size w1 w2:=by rw[<-hw2];exact((((Below.refl _ w1).alloc (Nat.le_refl _) _).alloc (by simp) _).alloc (by simp;omega) _).alloc (by simp;omega) _
 obtain⟨h4a,h4b,h4c,h4d⟩:=Zrb w1 (Zh8 (a:=a) (n:=k) s.mm []) #[.slice (some (aD w1.heap.size 0)) k k] #[iV a] #[iV k] 5 107 3 3;rw[hw2]at h4a h4b h4c h4d;have hcA:=(Zaa h4c 0).1;have hcN:=(Zaa h4d 0).1;rw[hw2];clear hw2 hmk
 refine wpIn_rangeFunc_ownH rfl (by omega) (gf:=162) (lb:=#[.pointer (some ⟨w1.heap.size+1+1+1,0,none⟩),.pointer (some ⟨w1.heap.size+1+1,0,none⟩)]) rfl trivial (enters_of Tryz.func162 (by kernel_rfl) rfl)
  (Zh0 (4-1) (w1.heap.size+1+1+1) (w1.heap.size+1+1) a k hk32 ha32 w2 (by omega) (by omega) hcN hcA) K2.trans (K2.put (by omega) (by omega)) (Below.refl _ _) (fun _=>rfl)
  (fun pre W=>((W.heap[w1.heap.size]?=some (.cells (Zh8 s.mm pre) 5 (0,0))/\W.heap[w1.heap.size+1]?=some (.cells #[.slice (some (aD w1.heap.size 0)) k k] 107 (0,0)))/\Below w1.heap.size w1 W)/\w2.heap.size<=W.heap.size)
  (fun _ _ _=>False)
  (OwnFrom.and (OwnFrom.and (fun pre X Y row hs hg hr=>⟨(grownBy_keeps_cells hg (fun r e=>(hr r e).2) hs.1 rfl).trans hs.1,(grownBy_keeps_cells hg (fun r e=>(hr r e).2) hs.2 rfl).trans hs.2⟩) (ownFrom_below (Nat.le_refl _) (by omega))) (fun pre X Y row hs hg hr=>Nat.le_trans hs hg.size))
  (fun _ _ _ _ _ hs _ _=>hs)
  ⟨⟨⟨h4a,h4b⟩,hB2⟩,Nat.le_refl _⟩
  (fun x a' W=>∃V,w2.heap.size<=V/\a'={tmps:=#[pT A,iV a,iV k,.pointer (some (aD w.heap.size 0)),undef,undef,.string {data:=#[]},iV 0,iV 0,.pointer (some ⟨w1.heap.size+1,0,none⟩),iV (x.1.1:Int),pT V,undef,pT A,iV a,iV k,iV 0,iV 0,.bool false,undef,iV k,.slice (some (aD w1.heap.size 0)) k k,iV a,iV k,.func (.func 162) #[] #[.pointer (some ⟨w1.heap.size+1+1+1,0,none⟩),.pointer (some ⟨w1.heap.size+1+1,0,none⟩)],iV (x.1.1:Int),.agg #[iV (((a+x.1.1)/4096:Nat):Int),iV (((a+x.1.1)%4096:Nat):Int),iV (((a+x.1.1)%4096+x.1.2:Nat):Int)],undef,undef,undef,undef,undef,undef,undef,undef,undef,undef,undef,undef,undef,undef,undef,undef,undef,undef,undef,undef,undef,undef,undef],defers:=[]}/\W.heap[V]?=some (.cells #[iV (((a+x.1.1)/4096:Nat):Int),iV (((a+x.1.1)%4096:Nat):Int),iV (((a+x.1.1)%4096+x.1.2:Nat):Int)] 160 (0,0)))
  (fun x a' _ X Y row hs hg hr=>by
   obtain⟨V,h1,h2,h3⟩:=hs
   exact⟨V,h1,h2,(grownBy_keeps_cells hg (fun r e=>(hr r e).2) h3 rfl).trans h3⟩)
  ?assign ?body ?done ?stop
 case assign=>
  intro l pre x W K hI hK;simp only[Zw9];generalize (a+x.1.1)%4096+x.1.2=g3 at*
  generalize (a+x.1.1)/4096=g1 at*
  generalize (a+x.1.1)%4096=g2 at*
  gi_wp2
  exact hK _ _ ((KeepsOthers.alloc _ _).from _) ⟨Below.heap_alloc _ _ _ (by have:=hI.2;omega),Below.heap_alloc _ _ _ (by have:=hI.2;omega)⟩
   ⟨⟨⟨(Below.heap_alloc _ _ _ (by have:=hI.2;omega)).trans hI.1.1.1,(Below.heap_alloc _ _ _ (by have:=hI.2;omega)).trans hI.1.1.2⟩,hI.1.2.alloc hI.1.2.size _⟩,by have:=hI.2;simp;omega⟩
   ⟨W.heap.size,hI.2,rfl,Zab _ _⟩
 case body=>
  rintro l pre x a' W hl hlr ⟨⟨⟨iO,iB⟩,iW⟩,iS⟩ ⟨V,hV,rfl,hcV⟩ hlen;have hx:=x.2;obtain⟨hx0,hx1,hx2⟩:=hx;have hXW:=HX.out.below (B1.trans (iW.mono B1.size));obtain⟨_,_,c2,_,_⟩:=hXW.head;have cb:=(iW.cell (p:=(aD w.heap.size 0)) (by show w.heap.size<w1.heap.size;omega)).trans c0;have v0:=(Zaa hcV 0).1;have v1:=(Zaa hcV 1).1;have v2:=(Zaa hcV 2).1;have ob:=(Zaa iB 0).1;have hi:(a+x.1.1)/4096<s.L:=by omega
  have hil:(a+x.1.1)/4096<ps.length:=by rw[HX.out.len];exact hi
  have HXW:=hid hXW;clear hXW;obtain⟨d,hd⟩:=eX x.1.1;obtain⟨m,hm⟩:=eX x.1.2;obtain⟨g1,hg1⟩:=eX ((a+d)/4096);obtain⟨g2,hg2⟩:=eX ((a+d)%4096);simp only[hd,hm]at hx0 hx1 hx2 hi hil v0 v1 v2 hcV⊢;simp only[hg1,hg2]at hx2 hi hil v0 v1 v2 hcV⊢;have HD:=hid hd;have HMm:=hid hm;have HG1:=hid hg1;have HG2:=hid hg2
  clear hd hm hg1 hg2;cases hq:ps[g1]? with
  |none=>rw[List.getElem?_eq_none_iff]at hq;omega
  |some q=>
   have hsl:=HXW.out.slot hq;cases q with
   |none=>
    simp only[Zie]at hsl;have HQ:=hid hq;clear hq
    gi_wp2_with fail
    refine Zbr 8 (by kernel_rfl) (by kernel_rfl) (by kernel_rfl) ?_;simp only[List.take_succ_cons,List.take_zero,List.drop_succ_cons,List.drop_zero]
    repeat still_step
    refine wpStill_nil ?_
    gi_wp2_with fail
    have HS:=hid (Zzk s.mm pre x fun i h1 h2=>by
     rw[HD.out]at h1 h2;rw[HMm.out]at h2
     have hz:=HXW.out.no g1 HQ.out (g2+(i-d)) (by omega);have hg1:=HG1.out;have hg2:=HG2.out
     rw[show g1*4096+(g2+(i-d))=a+i from by omega]at hz;exact hz)
    exact⟨(KeepsOthers.drew _).from _,K2.drew _,⟨⟨by rw[HS.out];exact iO,iB⟩,iW.drew⟩,iS⟩
   |some b=>
    simp only[Zie]at hsl;have HQ:=hid hq;clear hq
    gi_wp2_with fail
    refine Zbr 8 (by kernel_rfl) (by kernel_rfl) (by kernel_rfl) ?_;simp only[List.take_succ_cons,List.take_zero,List.drop_succ_cons,List.drop_zero]
    repeat still_step
    refine wpStill_nil ?_;have z1:(d:Int)<k:=by omega
    have z2:((g2+m:Nat):Int)<=4096:=by omega
    have z3:(g2:Int)<=((g2+m:Nat):Int):=by omega
    have z4:d<=k:=by omega
    have z5:¬k=d:=by omega
    have HSP:=Zkj b g2 m hx0 hx2
    have HCP:∀ty,(Builtin.copy_ #[107,107] ty #[.slice (some (aD w1.heap.size d)) (k-d) (k-d),.slice (some (aD b g2)) m (4096-g2)]).run Tryz.prog W.drew.drew=.ok (goInt m) (W.drew.drew.setRow w1.heap.size (Zh8 s.mm (pre++[x]))):=fun ty=>by
     have h:=Yaz s.mm pre x W.drew.drew w1.heap.size b iO (fun j hj=>by
      rw[HMm.out]at hj;rw[HD.out,HG2.out];have hby:=HXW.out.byte HQ.out (show g2+j<4096 by omega);have hg1:=HG1.out;have hg2:=HG2.out
      rw[show g1*4096+(g2+j)=a+d+j from by omega]at hby;exact hby) ty
     rw[HD.out,HMm.out,HG2.out]at h;exact h
    gi_wp2_with fail
    refine Zbr 10 (by kernel_rfl) (by kernel_rfl) (by kernel_rfl) ?_;simp only[List.take_succ_cons,List.take_zero,List.drop_succ_cons,List.drop_zero]
    repeat still_step
    refine wpStill_nil ?_
    gi_wp2_with fail
    have hOlt:w1.heap.size<W.drew.drew.heap.size:=by show w1.heap.size<W.heap.size;omega
    refine⟨?_,?_,⟨⟨?_,?_⟩,?_⟩,?_⟩
    · exact⟨by rw[setRow_size];exact Nat.le_refl _,fun j o hB hj hc=>(setRow_other _ _ _ _ (by omega)).trans hj⟩
    · exact⟨setRow_other _ _ _ _ (by omega),setRow_other _ _ _ _ (by omega)⟩
    · exact setRow_heap _ _ _ _ _ _ iO
    · exact(setRow_other _ _ _ _ (by omega)).trans iB
    · exact below_setRow iW.drew.drew (Nat.le_refl _) _
    · rw[setRow_size];exact iS
 case done=>
  rintro D xs W hD hS ⟨⟨⟨iO,iB⟩,iW⟩,iS⟩ hK;have ob:=(Zaa iB 0).1
  have HCV:(convert 107 9 (.slice (some (aD w1.heap.size 0)) k k)).run Tryz.prog W=.ok (.string (Zup (getM s.mm a k))) W:=by
   have h:=run_convert_bytes_arg (P:=Tryz.prog) W 107 5 Tryz.underlying107 Tryz.underlying5 w1.heap.size 0 k k ((List.range k).map fun i=>((s.mm (a+i)).toNat:Int)) (by simp) (fun i hi=>by
    rw[(Zaa iO _).1,Nat.zero_add,Ze8 s.mm xs i hi,hS i hi];simp[List.getD_eq_getElem?_getD,hi]) 9 Tryz.underlying9
   rw[h]
   congr 2
   simp[strOfNums,Zup,getM,Function.comp_def]
  clear iO iB
  gi_wp2_with fail
  refine⟨by simp,.inl ⟨_,_,rfl,run_takeDeferred hK,?_⟩⟩
  refine⟨_,results_tmp2 rfl _ _ _,?_,((B1.trans (iW.mono B1.size)).trans ((belowK_b (w:=w1) (Nat.le_refl _) W D _ _ (by omega) hK rfl rfl).mono B1.size))⟩
  rw[HNU.out,if_pos rfl,Int.toNat_natCast,Int.toNat_natCast];rfl
 case stop=>
  rintro D c pre W _ _ h _;exact h.elim
theorem Ya2 (h:ArX A s P ps p n cap w) (a k:Int) (ha:a<=9223372036854775807) (hn:Zac s.L s.es a k≠0):
 Calls Tryz.prog 34 #[pT A,iV a,iV k] w (Zj7 s.mm s.L s.es a k w):=by
 have hb0:(Zac s.L s.es a k !=0)=true:=by rw[bne_iff_ne];exact hn
 have HC:=fun w (hw:ArX A s P ps p n cap w)=>Zep hw a k ha
 have HNE:=hid hn;clear hn;go_enter Tryz.func34,Tryz.ntmps34;go_wp2_with fail
 refine(HC _ (h.below ((Below.refl w.heap.size w).alloc (Nat.le_refl _) _))).mono ?_
 rintro e w1 ⟨rfl,hb⟩;have B1:Below w.heap.size w w1:=((Below.refl w.heap.size w).alloc (Nat.le_refl _) (.cells #[pT A] 38)).trans (hb.mono (by simp));clear h HC hb;go_wp2_with fail
 go_ret2
 refine⟨?_,B1⟩
 rw[if_neg HNE.out];rfl
theorem Zn3 (h:ArX A s P ps p n cap w) (a k:Int) (ha:a<=9223372036854775807):
 Calls Tryz.prog 34 #[pT A,iV a,iV k] w (Zj7 s.mm s.L s.es a k w):=by
 by_cases hn:Zac s.L s.es a k=0
 · have ht:Zbd s.L s.es a k=true:=by
    unfold Zac at hn;cases hq:Zbd s.L s.es a k with
    |true=>rfl
    |false=>rw[hq]at hn;cases hn
   obtain⟨t0,t1,t2,t3⟩:=(Zax h.Zch a k).1 ht;obtain⟨an,rfl⟩:∃an:Nat,a=an:=⟨a.toNat,by omega⟩
   obtain⟨kn,rfl⟩:∃kn:Nat,k=kn:=⟨k.toNat,by omega⟩
   exact callsIn_wide.1 (Zxp h an kn hn)
 · exact Ya2 h a k ha hn
end
end
end Go.Proofs.YtgcidfenjlmljaaGreat.Bt
