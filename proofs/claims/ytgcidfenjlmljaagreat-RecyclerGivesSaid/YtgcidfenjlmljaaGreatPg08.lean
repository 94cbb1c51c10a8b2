import Derived.Test.YtgcidfenjlmljaaGreatPg02
import Derived.Deep.RegionHeld3
import Derived.RangeFuncCalls
import Derived.Test.YtgcidfenjlmljaaGreatPg07
import Derived.Deep.DeepCutAuto
import Derived.Test.YtgcidfenjlmljaaGreatPg05
import Derived.Test.YtgcidfenjlmljaaGreatPgR
set_option linter.unusedVariables false
set_option linter.unusedSimpArgs false
set_option maxRecDepth 100000
set_option maxHeartbeats 16000000
namespace Go.Proofs.YtgcidfenjlmljaaGreat.Bt
section
open Go Go.RowKit
section
variable {P:Program} {ops:Array Oper} {Q:Exit->Act->World->Prop} {S:World->Prop} {n:Nat} {md:Region.Mode}
theorem Zla {o:Oper} {l:Nat} {a:Act} {K:Act->World->Prop} (r:Result Next) (h:o.upon P a K Q r):o.uponIn (Fence.wide.inRound l) n P a K Q r:=by
 unfold Oper.upon at h;unfold Oper.uponIn
 split at h
 · exact h
 · exact h
 · exact h
 · exact⟨fun hd=>by simp[Fence.inRound,Fence.wide]at hd,CallsIn.inRound l (callsIn_wide.2 h)⟩
 · exact⟨fun hd=>by simp[Fence.inRound,Fence.wide]at hd,fun c cs _=>by
    obtain⟨v,w',r,s⟩:=h c cs
    exact⟨v,w',r,stepsIn_wide.2 s⟩⟩
 · exact h
 · exact h.elim
theorem Zk9 {i l:Nat} (hnd:Zgj ops=true) (hLO:¬LetsOut Q) {K:Act->World->Prop} {a:Act} {w:World} (h:wpOp P ops Q i K a w):wpOpIn (Fence.wide.inRound l) n P ops Q i K a w:=by
 unfold wpOp at h;unfold wpOpIn;cases ho:ops[i]? with
 |none=>rw[ho]at h;exact h
 |some o=>
  rw[ho]at h
  simp only at h⊢
  by_cases hw:Region.wanted o (yielded ops a.tmps)=true
  · rw[if_pos hw]at h⊢
    rcases h with h|⟨_,h⟩
    · refine⟨fun _ _=>trivial,?_⟩
      rw[show(Fence.wide.inRound l).round=some l from rfl,Oper.semAt_some _ _ _ (Zkp hnd ho)];exact Zla _ h
    · exact absurd h hLO
  · rw[if_neg hw]at h⊢
    exact⟨fun _ _=>trivial,h⟩
theorem Zhy {l:Nat} (hnd:Zgj ops=true) (hLO:¬LetsOut Q):∀(fuel:Nat) (listed:Array Bool) (a:Act) (w:World),wpAny P md ops Q fuel listed a w->wpAnyIn (Fence.wide.inRound l) n P md ops Q fuel listed a w
 |0,_,_,_,h=>h
 |fuel+1,listed,a,w,h=>⟨h.1,fun i hi=>wpOpIn_mono (fun a' w' h'=>Zhy hnd hLO fuel _ a' w' h') (Zk9 hnd hLO (h.2 i hi))⟩
theorem Zkm {id r:Nat} {a:Act} {w:World} (S:World->Prop) (hm:P.follows .mixedOrders=true) (hnd:Zgj ops=true) (hLO:¬LetsOut Q)
 (h:wpAnyH P .any ops Q S ops.size (Array.replicate ops.size false) a w.drew):(Code.region id ops true).wpIn (Fence.wide.inRound r) n P Q a w:=
 wpIn_region_any hm (Zhy hnd hLO _ _ _ _ (wpAny_of_held _ _ _ _ h))
end
end
section
open Go Go.RowKit Go.Shelf
attribute [local go_sem] Oper.semAt_some
def Zol {a n:Nat} (m:Nat->UInt8) (str:List UInt8) (l:List (Pc a n)):Nat->UInt8:=fun k=>if a<=k/\k<a+n/\cov l (k-a)=true then str.getD (k-a) 0 else m k
theorem Yav {a n:Nat} (m:Nat->UInt8) (str:List UInt8):Zol (a:=a) (n:=n) m str []=m:=by
 funext k;unfold Zol;rw[if_neg (by rintro ⟨_,_,h⟩;cases h)]
theorem Yaw {a n:Nat} (m:Nat->UInt8) (str:List UInt8) (hs:str.length=n) (l:List (Pc a n)) (h:∀i,i<n->cov l i=true):Zol m str l=Zb8 m a str:=by
 funext k;unfold Zol Zb8
 by_cases hk:a<=k/\k<a+n
 · rw[if_pos ⟨hk.1,hk.2,h _ (by omega)⟩,if_pos (by omega)]
 · rw[if_neg (by rintro ⟨x,y,_⟩;exact hk ⟨x,y⟩),if_neg (by omega)]
theorem Zny {a n:Nat} (m:Nat->UInt8) (str:List UInt8) (l:List (Pc a n)) (x:Pc a n) (k:Nat):
 Zol m str (l++[x]) k=if a+x.1.1<=k/\k<a+x.1.1+x.1.2 then str.getD (k-a) 0 else Zol m str l k:=by
 have hx:=x.2;unfold Zol;rw[Zim];by_cases h1:a+x.1.1<=k/\k<a+x.1.1+x.1.2
 · rw[if_pos h1,if_pos ⟨by omega,by omega,by rw[decide_eq_true (by omega),Bool.or_true]⟩]
 · rw[if_neg h1]
   by_cases h2:a<=k/\k<a+n/\cov l (k-a)=true
   · rw[if_pos h2,if_pos ⟨h2.1,h2.2.1,by rw[h2.2.2,Bool.true_or]⟩]
   · rw[if_neg h2,if_neg]
     rintro ⟨x1,x2,x3⟩;rw[Bool.or_eq_true,decide_eq_true_iff]at x3;rcases x3 with x3|x3
     · exact h2 ⟨x1,x2,x3⟩
     · omega
theorem Ze6 {A P n cap:Nat} {s:ASt} {ps:List (Option Nat)} {p:Option Addr} {x:World} (h:ArX A s P ps p n cap x) {k:Nat} {c:Array Value} {T:TypeId} {fr:Nat × Nat} (hk:x.heap[k]?=some (.cells c T fr))
 (h1:T≠121) (h2:T≠122) (h3:T≠124):¬Own A P ps k:=by
 rintro (rfl|rfl|⟨i,hi⟩)
 · rw[h.hd]at hk;simp only[Option.some.injEq,Obj.cells.injEq]at hk;exact h1 hk.2.1.symm
 · rw[h.row]at hk;simp only[Option.some.injEq,Obj.cells.injEq]at hk;exact h2 hk.2.1.symm
 · rw[h.pg i k hi]at hk;simp only[Option.some.injEq,Obj.cells.injEq]at hk;exact h3 hk.2.1.symm
theorem Zvn {A P n cap:Nat} {s:ASt} {ps:List (Option Nat)} {p:Option Addr} {x:World} (h:ArX A s P ps p n cap x) {k:Nat} {o:Obj} (hk:x.heap[k]?=some o) (ho:o.isCells=false):¬Own A P ps k:=by
 rintro (rfl|rfl|⟨i,hi⟩)
 · rw[h.hd]at hk;simp only[Option.some.injEq]at hk;rw[<-hk]at ho;cases ho
 · rw[h.row]at hk;simp only[Option.some.injEq]at hk;rw[<-hk]at ho;cases ho
 · rw[h.pg i k hi]at hk;simp only[Option.some.injEq]at hk;rw[<-hk]at ho;cases ho
theorem Step.others {A P n cap:Nat} {s:ASt} {ps ps':List (Option Nat)} {p:Option Addr} {x y:World} (h:ArX A s P ps p n cap x) (st:Step A P ps ps' x y):KeepsOthers x y:=
 ⟨st.size,fun k o hk ho=>(st.block k (Array.getElem?_eq_some_iff.1 hk).1 (Zvn h hk ho)).trans hk⟩
theorem ArX.grown {A P n cap:Nat} {s:ASt} {ps:List (Option Nat)} {p:Option Addr} {x y:World} {row:Option Nat} (h:ArX A s P ps p n cap x) (hg:x.grownBy y row) (hr:∀r,row=some r->∃o:Obj,x.heap[r]?=some o/\o.isCells=false):ArX A s P ps p n cap y:=by
 exact{h with
  hd:=(grownBy_keeps_cells hg hr h.hd rfl).trans h.hd
  row:=(grownBy_keeps_cells hg hr h.row rfl).trans h.row
  pg:=fun i b hb=>(grownBy_keeps_cells hg hr (h.pg i b hb) rfl).trans (h.pg i b hb)
  edges:=by
   rcases h.edges with he|⟨b,off,he,hlt,hc⟩
   · exact .inl he
   · exact .inr ⟨b,off,he,Nat.lt_of_lt_of_le hlt hg.size,fun k hk=>cell_kept (hc k hk) hg hr⟩}
theorem Step.grown {A P:Nat} {ps ps':List (Option Nat)} {w x y:World} {row:Option Nat} (h:Step A P ps ps' w x) (hg:x.grownBy y row) (hr:∀r,row=some r->w.heap.size<=r):Step A P ps ps' w y:=
 ⟨hg.os.trans h.os,hg.tape.trans h.tape,hg.output.trans h.output,Nat.le_trans h.size hg.size,fun k hk hn=>(hg.block k (Nat.lt_of_lt_of_le hk h.size) (fun e=>by have:=hr k e.symm;omega)).trans (h.block k hk hn),h.news⟩
section
variable {A P n cap:Nat} {s:ASt} {ps:List (Option Nat)} {p:Option Addr} {w:World}
end
end
section
open Go Go.RowKit Go.Shelf
section
variable {A P n cap:Nat} {s:ASt} {ps:List (Option Nat)} {p:Option Addr} {w:World}
theorem Zms (L:Nat) (es:List Nat) (a k:Int):Zac L es a k=0\/Zac L es a k=3:=by unfold Zac;split;exact .inl rfl;exact .inr rfl
end
end
section
open Go Go.RowKit Go.Shelf
theorem Yg8 (w:World):Calls Tryz.prog 245 #[] w fun e w'=>e=.returned (.bool true)/\Below w.heap.size w w':=by
 go_enter Tryz.func245,Tryz.ntmps245;go_wp2_with fail
 refine(Zpu _).mono ?_
 rintro e w1 ⟨rfl,hb⟩;go_wp2_with fail
 go_ret
 exact⟨rfl,hb⟩
theorem Zoa (w:World):Calls Tryz.prog 243 #[] w fun e w'=>e=.returned (.bool true)/\Below w.heap.size w w':=by
 have l2:Zhl 2=2:=by decide
 have e1:Zau (Zco 2) 1 1=0:=by decide
 have e2:Zb9 2 [1,2] 4096 2=0:=by decide
 have e3:Zac 2 [1,2] 4096 3=0:=by decide
 have e4:Zb9 2 [1,2] 4095 1=3:=by decide
 have s1:Zaw (Zco 2) 1 1=⟨2,[1,2],fun _=>0,false,0⟩:=by
  unfold Zaw;rw[if_neg (by decide),show Zd7 (Zco 2)=false from rfl];show ASt.mk _ _ _ _ _=_;rw[show Zcd (Zco 2).L (Zco 2).es 1 1 true=[1,2]from by decide];rfl
 have s2:Zbx ⟨2,[1,2],fun _=>0,false,0⟩ 4096 2 258=⟨2,[1,2],Zb8 (fun _=>0) 4096 [2,1],false,0⟩:=by
  unfold Zbx;rw[if_pos (by decide)];rfl
 have g3:Zup (getM (Zb8 (fun _=>0) 4096 [2,1]) (4096:Int).toNat (3:Int).toNat)=⟨#[2,1,0]⟩:=by decide
 have L2:=hid l2;have E1:=hid e1;have E2:=hid e2;have E3:=hid e3;have E4:=hid e4;have S1:=hid s1;have S2:=hid s2;have G3:=hid g3
 clear l2 e1 e2 e3 e4 s1 s2 g3;go_enter Tryz.func243,Tryz.ntmps243;go_wp2_with fail
 refine(Zj2 2 _).mono ?_
 rintro e w1 ⟨A,P,rfl,hA,hP,hx,hb1⟩;rw[L2.out]at hx;have hx0:=hid hx
 have hn0:∀i b:Nat,(List.replicate 2 (none:Option Nat))[i]?=some (some b)->w.heap.size<=b:=fun i b h=>by
  rw[List.getElem?_replicate]at h;split at h<;>cases h
 clear hx;go_wp2_with fail
 refine(Zhq hx0.out 1 1 (by omega)).mono ?_
 rintro e w2 ⟨rfl,ht⟩;rw[E1.out];rw[S1.out]at ht
 have ht2:=hid (ht.at hb1.size hA hP hn0);clear ht;obtain⟨P2,ps2,p2,n2,c2,hx2,hA2,hP2,hps2⟩:=ht2.out.1;have HX2:=hid hx2;have B2:=hb1.trans ht2.out.2;clear hx2;go_wp2_with fail
 refine(Zmt HX2.out 4096 2 258 (by omega) (by omega)).mono ?_
 rintro e w3 ⟨rfl,ht⟩;rw[S2.out]at ht;have ht3:=hid (ht.at B2.size hA2 hP2 hps2);clear ht;obtain⟨P3,ps3,p3,n3,c3,hx3,hA3,hP3,hps3⟩:=ht3.out.1;have HX3:=hid hx3;have B3:=B2.trans ht3.out.2;clear hx3;have E2':Hid (Zb9 (ASt.mk 2 [1,2] (fun _=>0) false 0).L (ASt.mk 2 [1,2] (fun _=>0) false 0).es 4096 2=0):=E2;rw[E2'.out];go_wp2_with fail
 refine(Zn3 HX3.out 4096 3 (by omega)).mono ?_
 rintro e w4 ⟨rfl,hb4⟩;have hx4:=HX3.out.below hb4;have HX4:=hid hx4;have B4:=B3.trans (hb4.mono B3.size);clear hx4;have E3':Hid (Zac (ASt.mk 2 [1,2] (Zb8 (fun _=>0) 4096 [2,1]) false 0).L (ASt.mk 2 [1,2] (Zb8 (fun _=>0) 4096 [2,1]) false 0).es 4096 3=0):=E3;rw[E3'.out,if_pos rfl];have G3':Hid (Zup (getM (ASt.mk 2 [1,2] (Zb8 (fun _=>0) 4096 [2,1]) false 0).mm (4096:Int).toNat (3:Int).toNat)=⟨#[2,1,0]⟩):=G3;rw[G3'.out];go_wp2_with fail
 refine(Zlp HX4.out 4095 1 (by omega)).mono ?_
 rintro e w5 ⟨rfl,hb5⟩;have B5:=B4.trans (hb5.mono B4.size);have E4':Hid (Zb9 (ASt.mk 2 [1,2] (Zb8 (fun _=>0) 4096 [2,1]) false 0).L (ASt.mk 2 [1,2] (Zb8 (fun _=>0) 4096 [2,1]) false 0).es 4095 1=3):=E4;rw[E4'.out,if_neg (by decide)];go_wp2_with fail
 refine(Yg8 _).mono ?_
 rintro e w6 ⟨rfl,hb6⟩;go_wp2_with fail
 go_ret
 exact⟨rfl,B5.trans (hb6.mono B5.size)⟩
end
section
open Go Go.RowKit Go.Shelf
def Zc9 (L:Nat) (m:Nat->UInt8):ASt:=⟨L,[0,L],m,false,0⟩
theorem Zwp {L:Nat} (h0:0<L) (hL:L<=1048576):Good L [0,L]:=
 ⟨by simp[Zcc,h0],by simp,(fun e h=>by simp at h;omega),hL⟩
theorem Zgz {L:Nat} (h0:0<L) (i:Int):mem [0,L] i=decide (0<=i/\i<L):=by
 unfold mem;rw[Zdu,Zdu,Zem];by_cases h1:0<=i
 · by_cases h2:i<L
   · rw[decide_eq_true (show 0<=i/\i<L from⟨h1,h2⟩),if_pos (by omega),if_neg (by omega)];rfl
   · rw[decide_eq_false (show¬(0<=i/\i<L)from fun h=>h2 h.2),if_pos (by omega),if_pos (by omega)];rfl
 · rw[decide_eq_false (show¬(0<=i/\i<L)from fun h=>h1 h.1),if_neg (by omega),if_neg (by omega)];rfl
theorem Zr6 {L:Nat} (h0:0<L) (hL:L<=1048576) (a k:Int):Zbd L [0,L] a k=decide (0<=a/\0<=k/\a+k<=(L:Int)*4096):=by
 rw[Bool.eq_iff_iff,Zax (Zwp h0 hL),decide_eq_true_iff]
 constructor
 · rintro ⟨x0,x1,x2,_⟩;exact⟨x0,x1,x2⟩
 · rintro ⟨x0,x1,x2⟩
   exact⟨x0,x1,x2,fun i i1 i2=>by rw[Zgz h0];simp;omega⟩
theorem Zi0 {L:Nat} (h0:0<L) (hL:L<=1048576) (a k:Int):Zac L [0,L] a k=if 0<=a/\0<=k/\a+k<=(L:Int)*4096 then 0 else 3:=by
 unfold Zac;rw[Zr6 h0 hL];by_cases h:0<=a/\0<=k/\a+k<=(L:Int)*4096
 · rw[if_pos h,decide_eq_true h];rfl
 · rw[if_neg h,decide_eq_false h];rfl
theorem Zl0 (c L:Nat) (hc:Zhl c=L) (he:Zau (Zco L) 0 c=0) (hs:Zcd L [] 0 c true=[0,L]):Zaw (Zco L) 0 c=Zc9 L (fun _=>0):=by
 unfold Zaw;unfold Zau at he
 have hn:¬(Zb6 (Zco L).L 0 c≠0\/0<Zc6 (Zco L).L (Zco L).es 0 c):=by
  rintro (h|h)
  · rw[if_pos h]at he;exact h he
  · by_cases h2:Zb6 (Zco L).L 0 c=0
    · rw[if_neg (by simpa using h2),if_pos h]at he;cases he
    · rw[if_pos h2]at he;exact h2 he
 rw[if_neg hn,show Zd7 (Zco L)=false from rfl];show ASt.mk _ _ _ _ _=_;rw[show Zcd (Zco L).L (Zco L).es 0 c true=[0,L]from hs];rfl
end
section
open Go Go.RowKit Go.Shelf
section
variable {A P n cap:Nat} {s:ASt} {ps:List (Option Nat)} {p:Option Addr} {w:World}
end
end
section
open Go Go.RowKit Go.Shelf
theorem Zar {m m':Nat->UInt8} {a k:Nat} (h:∀j,j<k->m (a+j)=m' (a+j)):Zck m a k=Zck m' a k:=by
 induction k with
 |zero=>rfl
 |succ k ih=>unfold Zck;rw[ih fun j hj=>h j (by omega),h k (by omega)]
theorem Zf4 (m:Nat->UInt8) (a:Nat) (x:Int) (k:Nat):Zck (Zb8 m a (Zfk x k)) a k=x.toNat%2^(8*k):=by
 have key:∀j,j<=k->Zck (Zb8 m a (Zfk x k)) a j=x.toNat%2^(8*j):=by
  intro j
  induction j with
  |zero=>intro _;simp[Zck,Nat.mod_one]
  |succ j ih=>
   intro hj;unfold Zck;rw[ih (by omega),Zlh _ _ _ (by rw[Zbh];omega)];have e:(Zfk x k).getD j 0=Zgn x j:=by simp[Zfk,List.getD_eq_getElem?_getD,show j<k from by omega]
   rw[e];unfold Zgn;have e2:2^(8*(j+1))=2^(8*j)*256:=by rw[show 8*(j+1)=8*j+8 from by omega,Nat.pow_add]
   rw[e2,Nat.mod_mul];simp[Nat.mul_comm]
 exact key k (Nat.le_refl k)
end
section
open Go Go.RowKit Go.Shelf
def Zc4 (m:Nat->UInt8) (a:Nat) (v:Nat):Nat->UInt8:=Zb8 m a (Zfk (v:Int) 8)
theorem Zc3 (m:Nat->UInt8) (a v:Nat) (hv:v<18446744073709551616):Zck (Zc4 m a v) a 8=v:=by
 unfold Zc4;rw[Zf4,Int.toNat_natCast];exact Nat.mod_eq_of_lt (by rw[show 8*8=64 from rfl];exact hv)
theorem Zbw (m:Nat->UInt8) {a c:Nat} (v:Nat) (h:a+8<=c\/c+8<=a):Zck (Zc4 m a v) c 8=Zck m c 8:=
 Zar fun j hj=>Zbt _ _ _ (by rw[Zbh];omega)
def Ch (L:Nat) (es:List Nat) (mm:Nat->UInt8):Nat->Nat->List Nat->Prop
 |h,_,[]=>Zac L es h 8=0/\Zck mm h 8=0
 |h,b,m::t=>Zac L es h 8=0/\Zck mm h 8=m/\b<m/\Zac L es m 16=0/\Ch L es mm m m t
def Zts (l:List Nat):Prop:=l.Pairwise fun a b=>a+8<=b\/b+8<=a
def prs:Nat->Nat->List Nat->List (Nat × Nat × Nat)
 |h,z,[]=>[(h,z,0)]
 |h,z,m::t=>(h,z,m)::prs m 16 t
def fnd:Nat->Nat->List Nat->Int->Nat × Nat × Nat
 |h,z,[],_=>(h,z,0)
 |h,z,m::t,f=>if f<=m then(h,z,m)else fnd m 16 t f
def ins (x:Nat):List Nat->List Nat
 |[]=>[x]
 |m::t=>if x<=m then x::m::t else m::ins x t
theorem Zp4 {L:Nat} {es:List Nat} {a k:Int} (h:Zac L es a k=0):Zbd L es a k=true:=by
 unfold Zac at h;cases hq:Zbd L es a k with
 |true=>rfl
 |false=>rw[hq]at h;cases h
theorem Zb4 {L:Nat} {es:List Nat} (g:Good L es) {a:Nat} {k:Int} (h:Zac L es a k=0):(a:Int)+k<=4294967296:=by
 have h1:=(Zax g a k).1 (Zp4 h)
 have:=g.small
 omega
theorem Zfr {L:Nat} {es:List Nat} (g:Good L es) {a:Nat} {k j:Int} (h:Zac L es a k=0) (h0:0<=j) (hj:j<=k):Zac L es a j=0:=by
 have h1:=(Zax g a k).1 (Zp4 h);unfold Zac;rw[if_pos]
 exact(Zax g a j).2 ⟨h1.1,by omega,by omega,fun i h2 h3=>h1.2.2.2 i h2 (by omega)⟩
section
variable {L:Nat} {es:List Nat} {mm mm':Nat->UInt8}
theorem Ch.there:∀{h b:Nat} {ms:List Nat},Ch L es mm h b ms->Zac L es h 8=0
 |_,_,[],k=>k.1
 |_,_,_::_,k=>k.1
theorem Ch.far (e:∀c,c∈([]:List Nat)->True):∀{h b:Nat} {ms:List Nat},Ch L es mm h b ms->(∀c∈h::ms,Zck mm' c 8=Zck mm c 8)->Ch L es mm' h b ms
 |h,b,[],k,f=>⟨k.1,(f h (by simp)).trans k.2⟩
 |h,b,m::t,k,f=>⟨k.1,(f h (by simp)).trans k.2.1,k.2.2.1,k.2.2.2.1,Ch.far e k.2.2.2.2 fun c hc=>f c (List.mem_cons_of_mem _ hc)⟩
theorem Ch.Zdn {h b:Nat} {ms:List Nat} (k:Ch L es mm h b ms) (f:∀c∈h::ms,Zck mm' c 8=Zck mm c 8):Ch L es mm' h b ms:=Ch.far (fun _ h=>by cases h) k f
theorem Ch.gt:∀{h b:Nat} {ms:List Nat},Ch L es mm h b ms->∀c∈ms,b<c
 |_,_,[],_,c,hc=>by cases hc
 |_,_,m::t,k,c,hc=>by
  rcases List.mem_cons.1 hc with rfl|hc
  · exact k.2.2.1
  · exact Nat.lt_trans k.2.2.1 (Ch.gt k.2.2.2.2 c hc)
theorem Ch.Yge:∀{h b:Nat} {ms:List Nat},Ch L es mm h b ms->∀c∈ms,Zac L es c 16=0
 |_,_,[],_,c,hc=>by cases hc
 |_,_,m::t,k,c,hc=>by
  rcases List.mem_cons.1 hc with rfl|hc
  · exact k.2.2.2.1
  · exact Ch.Yge k.2.2.2.2 c hc
theorem Ch.lt (g:Good L es) {h b:Nat} {ms:List Nat} (k:Ch L es mm h b ms):∀c∈ms,c+16<=4294967296:=fun c hc=>by have:=Zb4 g (k.Yge c hc);omega
theorem Zdm:∀(h z:Nat) (ms:List Nat) (f:Int),(fnd h z ms f).1∈h::ms
 |h,z,[],f=>by simp[fnd]
 |h,z,m::t,f=>by
  unfold fnd
  split
  · simp
  · exact List.mem_cons_of_mem _ (Zdm m 16 t f)
theorem Zil:∀(h z:Nat) (ms:List Nat) (f:Int),(fnd h z ms f).2.1=z\/(fnd h z ms f).2.1=16
 |h,z,[],f=>by simp[fnd]
 |h,z,m::t,f=>by
  unfold fnd
  split
  · exact .inl rfl
  · exact .inr ((Zil m 16 t f).elim id id)
theorem Zjv (g:Good L es):∀{h b:Nat} {ms:List Nat},Ch L es mm h b ms->∀(z:Nat) (f:Int),Zac L es (fnd h z ms f).1 8=0:=fun{h b ms} k z f=>by
 rcases List.mem_cons.1 (Zdm h z ms f)with e|e
 · rw[e];exact k.there
 · exact Zfr g (k.Yge _ e) (by omega) (by omega)
theorem Zpl:∀(h z:Nat) (ms:List Nat) (f:Int),(fnd h z ms f).2.2=0/\(∀c∈ms,(c:Int)<f)\/((fnd h z ms f).2.2∈ms/\f<=((fnd h z ms f).2.2:Int))
 |h,z,[],f=>by simp[fnd]
 |h,z,m::t,f=>by
  unfold fnd
  split
  · rename_i hf;exact .inr ⟨by simp,hf⟩
  · rename_i hf
    rcases Zpl m 16 t f with⟨e,k⟩|⟨e,k⟩
    · refine .inl ⟨e,fun c hc=>?_⟩
      rcases List.mem_cons.1 hc with rfl|hc
      · omega
      · exact k c hc
    · exact .inr ⟨List.mem_cons_of_mem _ e,k⟩
theorem Zw1 {h b:Nat} {ms:List Nat} (k:Ch L es mm h b ms) (z:Nat) (x:Nat) (hx:0<x):(fnd h z ms x).2.2=x↔x∈ms:=by
 constructor
 · intro e
   rcases Zpl h z ms x with⟨e2,_⟩|⟨e2,_⟩
   · omega
   · rw[e]at e2;exact e2
 · clear hx
   induction ms generalizing h b z with
   |nil=>intro h;cases h
   |cons m t ih=>
    intro hm;unfold fnd;rcases List.mem_cons.1 hm with rfl|hm
    · rw[if_pos (Int.le_refl _)]
    · have:=Ch.gt k.2.2.2.2 x hm
      rw[if_neg (by omega)];exact ih k.2.2.2.2 16 hm
theorem Zx4 (g:Good L es) {x:Nat} (hx:Zac L es x 16=0):∀{h b:Nat} {ms:List Nat} (z:Nat),Ch L es mm h b ms->b<x->x∉ms->Zts (h::ms)->(∀c∈h::ms,x+8<=c\/c+8<=x)->
 Ch L es (Zc4 (Zc4 mm x (fnd h z ms x).2.2) (fnd h z ms x).1 x) h b (ins x ms)
 |h,b,[],z,k,hb,hn,ha,hf=>by
  have hlt:=Zb4 g hx;have h1:=hf h (by simp);show Ch L es (Zc4 (Zc4 mm x 0) h x) h b [x]
  refine⟨k.1,Zc3 _ _ _ (by omega),hb,hx,Zfr g hx (by omega) (by omega),?_⟩
  rw[Zbw _ _ (by omega)];exact Zc3 _ _ _ (by omega)
 |h,b,m::t,z,k,hb,hn,ha,hf=>by
  have hlt:=Zb4 g hx;have h1:=hf h (by simp);have h2:=hf m (by simp);have hlm:=Zb4 g k.2.2.2.1;have hc:=List.pairwise_cons.1 ha;have hne:x≠m:=fun e=>hn (by simp[e])
  unfold fnd ins;by_cases hxm:x<=m
  · rw[if_pos (by omega),if_pos hxm]
    refine⟨k.1,Zc3 _ _ _ (by omega),hb,hx,Zfr g hx (by omega) (by omega),?_,by omega,k.2.2.2.1,?_⟩
    · rw[Zbw _ _ (show h+8<=x\/x+8<=h by omega)];exact Zc3 _ _ _ (show m<_ by omega)
    · refine k.2.2.2.2.Zdn fun c hcm=>?_
      have h3:=hc.1 c hcm;have h4:=hf c (List.mem_cons_of_mem _ hcm);rw[Zbw _ _ (by omega),Zbw _ _ (by omega)]
  · rw[if_neg (by omega),if_neg hxm]
    have ih:=Zx4 g hx 16 k.2.2.2.2 (by omega) (fun e=>hn (List.mem_cons_of_mem _ e)) hc.2 (fun c hcm=>hf c (List.mem_cons_of_mem _ hcm));have h3:=hc.1 _ (Zdm m 16 t x)
    refine⟨k.1,?_,k.2.2.1,k.2.2.2.1,ih⟩
    rw[Zbw _ _ (by omega),Zbw _ _ (by omega)];exact k.2.1
def nxt (mm:Nat->UInt8) (a:Nat):Nat:=Zck mm a 8
theorem Yb4 (g:Good L es) {x:Nat}:∀{h b:Nat} {ms:List Nat} (z:Nat),Ch L es mm h b ms->x∈ms->Zts (h::ms)->
 Ch L es (Zc4 mm (fnd h z ms x).1 (nxt mm x)) h b (ms.erase x)
 |h,b,[],z,k,hm,ha=>by cases hm
 |h,b,m::t,z,k,hm,ha=>by
  have hc:=List.pairwise_cons.1 ha;have hlm:=Zb4 g k.2.2.2.1;unfold fnd;by_cases hxm:x<=m
  · have e:x=m:=by
     rcases List.mem_cons.1 hm with e|e
     · exact e
     · have:=Ch.gt k.2.2.2.2 x e;omega
    subst e;rw[if_pos (by omega),List.erase_cons_head];cases t with
    |nil=>
     refine⟨k.1,?_⟩
     unfold nxt;rw[k.2.2.2.2.2];exact Zc3 _ _ _ (by omega)
    |cons m2 t2=>
     have k2:=k.2.2.2.2;have hl2:=Zb4 g k2.2.2.2.1
     refine⟨k.1,?_,?_,k2.2.2.2.1,k2.2.2.2.2.Zdn fun c hcm=>?_⟩
     · unfold nxt
       rw[k2.2.1];exact Zc3 _ _ _ (by omega)
     · have:=k.2.2.1;have:=k2.2.2.1;omega
     · have h3:=hc.1 c (List.mem_cons_of_mem _ hcm)
       rw[Zbw _ _ (by omega)]
  · have hne:x≠m:=by omega
    have hmt:x∈t:=by
     rcases List.mem_cons.1 hm with e|e
     · exact absurd e hne
     · exact e
    rw[if_neg (by omega),List.erase_cons_tail (by simpa using fun e=>hne e.symm)];have h3:=hc.1 _ (Zdm m 16 t x)
    refine⟨k.1,?_,k.2.2.1,k.2.2.2.1,Yb4 g 16 k.2.2.2.2 hmt hc.2⟩
    rw[Zbw _ _ (by omega)];exact k.2.1
theorem Zpd (x c:Nat):∀ms:List Nat,c∈ins x ms↔c=x\/c∈ms
 |[]=>by simp[ins]
 |m::t=>by
  unfold ins
  split
  · simp
  · rw[List.mem_cons,Zpd x c t,List.mem_cons]
    constructor
    · rintro (h|h|h)
      · exact .inr (.inl h)
      · exact .inl h
      · exact .inr (.inr h)
    · rintro (h|h|h)
      · exact .inr (.inl h)
      · exact .inl h
      · exact .inr (.inr h)
end
end
section
open Go Go.RowKit Go.Shelf
theorem Zf1:∀{l m:List Nat},l.Pairwise (· <·)->m.Pairwise (· <·)->(∀x,x∈l↔x∈m)->l=m
 |[],[],_,_,_=>rfl
 |[],y::m,_,_,h=>absurd ((h y).2 (List.mem_cons_self ..)) (by simp)
 |x::l,[],_,_,h=>absurd ((h x).1 (List.mem_cons_self ..)) (by simp)
 |x::l,y::m,h1,h2,h=>by
  rw[List.pairwise_cons]at h1 h2
  have e:x=y:=by
   rcases List.mem_cons.1 ((h x).1 (List.mem_cons_self ..))with c|c
   · exact c
   · rcases List.mem_cons.1 ((h y).2 (List.mem_cons_self ..))with d|d
     · exact d.symm
     · have:=h2.1 x c;have:=h1.1 y d;omega
  subst e
  congr 1
  refine Zf1 h1.2 h2.2 fun z=>⟨fun c=>?_,fun c=>?_⟩
  · rcases List.mem_cons.1 ((h z).1 (List.mem_cons_of_mem _ c))with d|d
    · have:=h1.1 z c;omega
    · exact d
  · rcases List.mem_cons.1 ((h z).2 (List.mem_cons_of_mem _ c))with d|d
    · have:=h2.1 z c;omega
    · exact d
theorem Zkr (x:Nat):∀ms:List Nat,ms.Pairwise (· <·)->x∉ms->(ins x ms).Pairwise (· <·)
 |[],_,_=>by simp[ins]
 |m::t,h,hx=>by
  unfold ins;rw[List.pairwise_cons]at h;rw[List.mem_cons,not_or]at hx
  split
  · refine List.pairwise_cons.2 ⟨fun y hy=>?_,List.pairwise_cons.2 h⟩
    rcases List.mem_cons.1 hy with c|c
    · omega
    · have:=h.1 y c;omega
  · refine List.pairwise_cons.2 ⟨fun y hy=>?_,Zkr x t h.2 hx.2⟩
    rcases(Zpd x y t).1 hy with c|c
    · omega
    · exact h.1 y c
theorem Zmv {l:List Nat} (h:l.Pairwise (· <·)):l.Nodup:=h.imp fun c=>Nat.ne_of_lt c
def Yai (R:Zag) (x g k:Nat):List Nat:=(List.range g).filter fun i=>decide (R i=some (k,false)/\i≠x)
def Zas (own:Nat) (R:Zag) (x g k:Nat):List Nat:=(Yai R x g k).map fun i=>(own+i)*4096
theorem Znq {R:Zag} {x g k i:Nat}:i∈Yai R x g k↔i<g/\R i=some (k,false)/\i≠x:=by
 unfold Yai;rw[List.mem_filter,List.mem_range,decide_eq_true_iff]
theorem Za4 {own:Nat} {R:Zag} {x g k a:Nat}:a∈Zas own R x g k↔∃i,i<g/\R i=some (k,false)/\i≠x/\(own+i)*4096=a:=by
 unfold Zas;rw[List.mem_map]
 constructor
 · rintro ⟨i,h,e⟩
   have:=Znq.1 h
   exact⟨i,this.1,this.2.1,this.2.2,e⟩
 · rintro ⟨i,h1,h2,h3,e⟩
   exact⟨i,Znq.2 ⟨h1,h2,h3⟩,e⟩
theorem Zcj {own:Nat} {R:Zag} {x g k i:Nat}:(own+i)*4096∈Zas own R x g k↔i<g/\R i=some (k,false)/\i≠x:=by
 rw[Za4]
 constructor
 · rintro ⟨j,h1,h2,h3,e⟩
   have:j=i:=by omega
   subst this
   exact⟨h1,h2,h3⟩
 · rintro ⟨h1,h2,h3⟩
   exact⟨i,h1,h2,h3,rfl⟩
theorem Znp (R:Zag) (x g k:Nat):(Yai R x g k).Pairwise (· <·):=List.Pairwise.sublist List.filter_sublist List.pairwise_lt_range
theorem Zb2 (own:Nat) (R:Zag) (x g k:Nat):(Zas own R x g k).Pairwise (· <·):=by
 unfold Zas;rw[List.pairwise_map]
 exact(Znp R x g k).imp fun{a b} c=>by omega
theorem Zdd {own:Nat} {R S:Zag} {x y g f k:Nat} (h:∀i,(i<g/\R i=some (k,false)/\i≠x)↔(i<f/\S i=some (k,false)/\i≠y)):Zas own R x g k=Zas own S y f k:=by
 refine Zf1 (Zb2 _ _ _ _ _) (Zb2 _ _ _ _ _) fun a=>?_
 rw[Za4,Za4]
 constructor
 · rintro ⟨i,h1,h2,h3,e⟩
   have:=(h i).1 ⟨h1,h2,h3⟩
   exact⟨i,this.1,this.2.1,this.2.2,e⟩
 · rintro ⟨i,h1,h2,h3,e⟩
   have:=(h i).2 ⟨h1,h2,h3⟩
   exact⟨i,this.1,this.2.1,this.2.2,e⟩
theorem Znr {own:Nat} {R S:Zag} {x y g f k z:Nat} (hz:¬(z<g/\R z=some (k,false)/\z≠x)) (h:∀i,(i<f/\S i=some (k,false)/\i≠y)↔(i=z\/(i<g/\R i=some (k,false)/\i≠x))):
 Zas own S y f k=ins ((own+z)*4096) (Zas own R x g k):=by
 refine Zf1 (Zb2 _ _ _ _ _) (Zkr _ _ (Zb2 _ _ _ _ _) fun c=>hz (Zcj.1 c)) fun a=>?_
 rw[Zpd,Za4]
 constructor
 · rintro ⟨i,h1,h2,h3,e⟩
   rcases(h i).1 ⟨h1,h2,h3⟩with c|c
   · subst c;exact .inl e.symm
   · rw[<-e];exact .inr (Zcj.2 c)
 · rintro (c|c)
   · have:=(h z).2 (.inl rfl)
     exact⟨z,this.1,this.2.1,this.2.2,c.symm⟩
   · obtain⟨i,h1,h2,h3,e⟩:=Za4.1 c
     have:=(h i).2 (.inr ⟨h1,h2,h3⟩)
     exact⟨i,this.1,this.2.1,this.2.2,e⟩
theorem Zkv {own:Nat} {R S:Zag} {x y g f k z:Nat} (h:∀i,(i<f/\S i=some (k,false)/\i≠y)↔(i≠z/\i<g/\R i=some (k,false)/\i≠x)):
 Zas own S y f k=(Zas own R x g k).erase ((own+z)*4096):=by
 have hs:=Zb2 own R x g k;refine Zf1 (Zb2 _ _ _ _ _) (List.Pairwise.sublist List.erase_sublist hs) fun a=>?_
 rw[(Zmv hs).mem_erase_iff,Za4]
 constructor
 · rintro ⟨i,h1,h2,h3,e⟩
   have:=(h i).1 ⟨h1,h2,h3⟩
   rw[<-e]
   exact⟨fun c=>this.1 (by omega),Zcj.2 this.2⟩
 · rintro ⟨c,d⟩
   obtain⟨i,h1,h2,h3,e⟩:=Za4.1 d
   have:=(h i).2 ⟨fun q=>c (by rw[<-e,q]),h1,h2,h3⟩
   exact⟨i,this.1,this.2.1,this.2.2,e⟩
end
end Go.Proofs.YtgcidfenjlmljaaGreat.Bt
