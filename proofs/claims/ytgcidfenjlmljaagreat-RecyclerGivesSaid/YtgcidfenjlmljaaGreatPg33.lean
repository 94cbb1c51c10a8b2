import Derived.Test.YtgcidfenjlmljaaGreatPg32
import Derived.Deep.DeepCutAuto
import Derived.Test.YtgcidfenjlmljaaGreatPgR
set_option linter.unusedVariables false
set_option linter.unusedSimpArgs false
set_option maxRecDepth 100000
set_option maxHeartbeats 16000000
namespace Go.Proofs.YtgcidfenjlmljaaGreat.Bt
section
open Go Go.RowKit Go.Shelf
section
variable {Q B A n va g K:Nat} {s:ASt} {w:World} {R:Zag} {q:Nat->List Nat}
theorem Yc0 (h:RcV Q B A n va s w) (hR:Rcy n g R va q K s):Calls Tryz.prog 24 #[rcP Q] w (Yiz Q B A n va g K R q s w):=by
 have HB:=hid (Zvc h);have HT:=hid (TrS.start hR);have HC:=hid fun X (hX:RcV Q B A n va s X)=>Ybn hX.1.1 hR
 have HV:=hid h;clear h hR;go_enter Tryz.func24,Tryz.ntmps24;go_wp2_with fail;refine HB.out.mono ?_;rintro e w1 ⟨rfl,hb⟩;have hv:=HV.out.below hb;have HF:=hid (((Fr.start A w).below HV.out.1.1 hb).new hv.1.1 #[pT A,iV va,iV ((64:Nat):Int)] 76 (by unfold Zc7;decide));have HV1:=hid (hv.below (Zaj w1 (.cells #[pT A,iV va,iV ((64:Nat):Int)] 76)));clear hv hb HB;go_upto_region 2 with fail;change Code.wp _ _ _ _ (w1.alloc (.cells #[pT A,iV va,iV ((64:Nat):Int)] 76));obtain⟨x,hx⟩:=eX (w1.alloc (.cells #[pT A,iV va,iV ((64:Nat):Int)] 76));obtain⟨Cb,hC⟩:=eX w1.heap.size;rw[hx]at HV1 HF;rw[hC]at HF;rw[hx,hC];clear hx hC;have HW:=hid (show TrW Q B A n va g K R q s w [bnB A va Cb] R q s x from⟨HT.out,HV1.out,HF.out⟩);have r0:=HF.out.cell0 0 rfl;have r1:=HF.out.cell0 1 rfl;have r2:=HF.out.cell0 2 rfl
 go_wp2_with fail
 refine(HC.out _ HV1.out).mono ?_
 rintro e w2 ⟨rfl,hb⟩;have HW2:Hid (TrR Q B A n va g K R q s w [bnB A va Cb] 0 w2):=hid ⟨R,q,s,fun j hj=>by omega,HW.out.below hb⟩;clear hb HW HF HV1 HC HT r0 r1 r2;go_wp2_with fail
 go_loopw[12] (fun s12 wr=>∃k:Nat,k<=5/\s12=iV k/\Hid (TrR Q B A n va g K R q s w [bnB A va Cb] k wr)) (fun s12 _=>5-(intOf s12).toNat)
 case atStart=>exact⟨0,by omega,rfl,HW2⟩
 case round=>
  clear HW2;obtain⟨k,hk5,rfl,HR⟩:=hrel;by_cases hk:k<5
  · have hk2:(k:Int)<5:=by omega
    obtain⟨R1,q1,s1,hz,htw⟩:=HR.out;have HZ:=hid hz;have HTW:=hid htw;have hf:=htw.fr;have r0:=hf.cell0 0 rfl;have r1:=hf.cell0 1 rfl;have r2:=hf.cell0 2 rfl
    have HPP:=hid (htw.pop hk);clear hz htw hf HR;go_wp2_with fail;refine HPP.out.mono ?_;rintro e w3 ⟨a,o,ok,rfl,hp⟩;have HI:=hid (TrI.mk HZ.out hp);clear hp r0 r1 r2 HPP HTW;go_wp2_with fail
    go_loopw[6,7] (fun s6 s7 wr=>Hid (TrI Q B A n va g K R q s w Cb k s6 s7 wr)) (fun s6 s7 wr=>muP s7 (hdC (@Classical.epsilon ASt ⟨⟨0,[],fun _=>0,false,0⟩⟩ (fun s=>On A s wr)).mm va k))
    case atStart=>exact HI
    case round=>
     clear HI;obtain⟨Db,rfl,⟨rfl,hr⟩|⟨rfl,i,l,R1,q1,s1,hz,htx⟩⟩:=hrel.out
     · have HR:=hid hr
       clear hrel hr;go_wp2_with fail
       exact⟨⟨k+1,by omega,by go_num,HR⟩,by simp[intOf];omega⟩
     · have HZ:=hid hz
       have HTX:=hid htx;have hmu:=htx.mu;have HREL:=hid htx.rel;have d0:=htx.fr.cell0 0 rfl;clear hrel hz htx;rw[hmu];go_wp2_with fail;refine HREL.out.mono ?_;rintro e w4 ⟨rfl,R2,s2,htw⟩;have HTW:=hid (show TrW Q B A n va g K R q s w [ckB w4.heap.size (adr i:Int) (k:Int) 0 0,bnB A va Cb] R2 (Zde q1 k l) s2 (w4.alloc (.cells #[iV (adr i:Int),iV k,.int .u64 0,iV 0] 71))from⟨htw.ts,htw.rv.below (Zaj _ _),(htw.fr.new htw.rv.1.1 #[iV (adr i:Int),iV k,.int .u64 0,iV 0] 71 (by unfold Zc7;decide)).Yir⟩);have d1:=htw.fr.cell0 0 rfl;have d2:=htw.fr.cell0 1 rfl;have d3:=htw.fr.cell0 2 rfl;have d4:=htw.fr.cell0 3 rfl
       clear htw HREL d0 HTX;go_upto_region 8 with fail;change Code.wp _ _ _ _ (w4.alloc (.cells #[iV (adr i:Int),iV k,.int .u64 0,iV 0] 71));obtain⟨x5,hx⟩:=eX (w4.alloc (.cells #[iV (adr i:Int),iV k,.int .u64 0,iV 0] 71));obtain⟨D2,hC⟩:=eX w4.heap.size;rw[hx,hC]at HTW;rw[hx,hC];clear hx hC d1 d2 d3 d4;have hf:=HTW.out.fr;have r0:=hf.Zak 0 rfl;have r1:=hf.Zak 1 rfl;have r2:=hf.Zak 2 rfl
       have HPP:=hid (HTW.out.pop hk);clear hf;go_wp2_with fail;refine HPP.out.mono ?_;rintro e w6 ⟨a2,o2,ok2,rfl,hp⟩;have HZ2:Hid (∀j,j<k->Zde q1 k l j=[]):=hid fun j hj=>by rw[Zaz _ _ (by omega)];exact HZ.out j hj
       have HI:=hid (TrI.st (by rfl) HZ2.out hp)
       have HMU:Hid (ok2=true->hdC (@Classical.epsilon ASt ⟨⟨0,[],fun _=>0,false,0⟩⟩ (fun s=>On A s (stR w6 D2 [iV a2,iV o2,.int .u64 0,iV 0] 0))).mm va k<l.length):=hid fun hok=>by
        rcases hp with⟨h1,_⟩|⟨_,i2,l2,rfl,rfl,hx⟩
        · rw[hok]at h1;cases h1
        · have hx2:TrX Q B A n va g K R q s w [ckB D2 (adr i2:Int) (k:Int) 0 0,bnB A va Cb] k i2 l2 R2 (Zde q1 k l) s2 (stR w6 D2 [iV (adr i2:Int),iV k,.int .u64 0,iV 0] 0):=
           {hx with rv:=hx.rv.stR (L1:=[]) hx.fr _ _,fr:=hx.fr.Zdz hx.rv.1.1 [iV (adr i2:Int),iV k,.int .u64 0,iV 0] 0}
          rw[hx2.mu]
          have:=hx.at_
          rw[Za1]at this;rw[this];simp
       have HX:Hid (∃c,c.size=4/\Fr A w [⟨D2,c,71⟩,bnB A va Cb] w6):=hid (by
        rcases hp with⟨_,_,h1⟩|⟨_,_,_,_,_,h1⟩
        · exact⟨_,rfl,h1.fr⟩
        · exact⟨_,rfl,h1.fr⟩)
       obtain⟨c,hc4,hf⟩:=HX.out;have z0:=hf.Za5 0;have z1:=hf.Za5 1;have z2:=hf.Za5 2;have z3:=hf.Za5 3
       have e0:=(Zaa hf.at0 0).1;have e1:=(Zaa hf.at0 1).1;have e2:=(Zaa hf.at0 2).1;have e3:=(Zaa hf.at0 3).1
       clear hp r0 r1 r2 HPP HTW hf HX hmu;go_wp2_with fail
       refine⟨HI,?_⟩
       cases ok2 with
       |false=>exact Nat.succ_pos _
       |true=>exact Nat.succ_lt_succ (HMU.out rfl)
  · have hk2:¬(k:Int)<5:=by omega
    obtain⟨R1,q1,s1,hz,htw⟩:=HR.out;have HE:=hid (show∃R' q' s',(∀j,j<5->q' j=[])/\TrS n va g K R q s R' q' s'/\RcV Q B A n va s' wr/\Zam A w wr from⟨R1,q1,s1,fun j hj=>hz j (by omega),htw.ts,htw.rv,htw.fr.wt⟩);clear hz htw HR;go_wp2_with fail
    go_ret
    exact⟨rfl,HE.out⟩
end
end
section
open Go Go.RowKit Go.Shelf
section
variable {Q B A n va g K:Nat} {s s':ASt} {w x y:World} {R:Zag} {q:Nat->List Nat} {L:List Blk}
structure WkS (Q B A n va:Nat) (s:ASt) (w:World) (L:List Blk) (x:World):Prop where
 rv:RcV Q B A n va s x
 fr:Fr A w L x
theorem WkS.below (h:WkS Q B A n va s w L x) (hb:Below x.heap.size x y):WkS Q B A n va s w L y:=⟨h.rv.below hb,h.fr.below h.rv.1.1 hb⟩
theorem WkS.Zf9 (h:WkS Q B A n va s w L x) (hV:RcV Q B A n va s' y) (hg:Zam A x y):WkS Q B A n va s' w L y:=⟨hV,h.fr.Zaq h.rv.1.1 hg⟩
theorem WkS.new (h:WkS Q B A n va s w L x) (c:Array Value) (t:TypeId) (ht:Zc7 t):WkS Q B A n va s w (⟨x.heap.size,c,t⟩::L) (x.alloc (.cells c t)):=⟨h.rv.below (Zaj _ _),h.fr.new h.rv.1.1 c t ht⟩
theorem WkS.st0 {r:Nat} {c:Array Value} {t:TypeId} {L2:List Blk} (h:WkS Q B A n va s w (⟨r,c,t⟩::L2) x) (vs:List Value) (k:Nat):WkS Q B A n va s w (⟨r,Zka c vs k,t⟩::L2) (stR x r vs k):=⟨h.rv.stR (L1:=[]) h.fr vs k,h.fr.Zdz h.rv.1.1 vs k⟩
theorem WkS.st2 {a0 a1:Blk} {r:Nat} {c:Array Value} {t:TypeId} {L2:List Blk} (h:WkS Q B A n va s w (a0::a1::⟨r,c,t⟩::L2) x) (vs:List Value) (k:Nat):WkS Q B A n va s w (a0::a1::⟨r,Zka c vs k,t⟩::L2) (stR x r vs k):=⟨h.rv.stR (L1:=[a0,a1]) h.fr vs k,h.fr.Zi2 h.rv.1.1 vs k⟩
theorem WkS.start (h:RcV Q B A n va s w):WkS Q B A n va s w [] w:=⟨h,Fr.start A w⟩
theorem Yfm (h:On A s w) (hR:Rcy n g R va q K s) (K':Nat) (hK:K'<=9223372036854775807):
 Calls Tryz.prog 92 #[vwV A va 64,iV 40,iV 8,.int .u64 (K':Int)] w (Ret A {s with mm:=Zc4 s.mm (va+40) K'} (iV 0) w):=by
 have hv:=hR.Ybh;have ha:Zai va 64 40 8=((va+40:Nat):Int):=Zd5 (va:=va) (a:=40) (n:=8) (vs:=64) (by omega)
 have he:Zb9 s.L s.es ((va+40:Nat):Int) 8=0:=by
  unfold Zb9;rw[show Za6 8=true from rfl,if_pos rfl]
  exact Zbn h.Zch hR.th (by omega) (by omega) (by omega)
 have hs:Zbx s ((va+40:Nat):Int) 8 (K':Int)={s with mm:=Zc4 s.mm (va+40) K'}:=by unfold Zbx Zc4;rw[if_pos he];rfl
 have HL:=Zdr h va 64 (by omega) (by omega) 40 8 (K':Int) (by omega) (by omega);rw[ha,he,hs]at HL;exact HL
def Yew (Q B A n va g K:Nat) (R:Zag) (q:Nat->List Nat) (s:ASt) (K':Nat) (w w':World):Prop:=
 ∃R' q' s',((Zci q 5<=K'/\R'=R/\q'=q/\s'={s with mm:=Zc4 s.mm (va+40) K'})\/(K'<Zci q 5/\(∀j,j<5->q' j=[])/\TrS n va g K' R q {s with mm:=Zc4 s.mm (va+40) K'} R' q' s'))/\RcV Q B A n va s' w'/\Zam A w w'
theorem Yfr (h:RcV Q B A n va s w) (hR:Rcy n g R va q K s) (p:Int) (h0: -9223372036854775808<=p) (h1:p<=9223372036854775807):
 Calls Tryz.prog 30 #[rcP Q,iV p] w fun e w'=>e=.returned (.tuple #[])/\Yew Q B A n va g K R q s p.toNat w w':=by
 obtain⟨K',hK'⟩:=eX p.toNat;have hKb:K'<=9223372036854775807:=by omega
 have hR1:=hR.Zdn hKb;have HS:=hid (Yfm h.1.1 hR K' hKb);have HC:=hid fun X (hX:RcV Q B A n va {s with mm:=Zc4 s.mm (va+40) K'} X)=>Zo0 hX hR1
 have HT:=hid fun X (hX:RcV Q B A n va {s with mm:=Zc4 s.mm (va+40) K'} X)=>Yc0 hX hR1
 have HV:=hid h;have e1:IntKind.u64.wrap (K':Int)=K':=by rw[IntKind.wrap_u64];omega
 have hp:(K':Int)=if p<0 then 0 else p:=by split<;>omega
 have HP:=hid hp;rw[hK'];obtain⟨⟨c0,c1,c2,c3,c4⟩, -⟩:=h.all;clear h hR hR1 hK' hp;go_enter Tryz.func30,Tryz.ntmps30;go_upto_region 2 with fail;rw[<-HP.out];clear HP;go_wp2_with fail;refine HS.out.mono ?_;rintro e w1 ⟨rfl,ho,hg⟩;have HV1:=hid (HV.out.Zaq ho hg rfl);have HG1:=hid hg;clear ho hg HS c0 c1 c2 c3 c4 e1;go_wp2_with fail
 refine(HC.out _ HV1.out).mono ?_
 rintro e w2 ⟨rfl,hb⟩;have HV2:=hid (HV1.out.below hb);have HG2:=hid (HG1.out.trans (Zam.Zad HV1.out.1.1 hb));clear hb HV1 HC;by_cases hc:K'<Zci q 5
 · have hc2:((K':Nat):Int)<((Zci q 5:Nat):Int):=by omega
   have HH:=hid hc;clear hc;go_wp2_with fail
   refine(HT.out _ HV2.out).mono ?_
   rintro e w3 ⟨rfl,R',q',s',t1,t2,t3,t4⟩;have HE:Hid (Yew Q B A n va g K R q s K' w w3):=hid ⟨R',q',s',.inr ⟨HH.out,t1,t2⟩,t3,HG2.out.trans t4⟩;clear t1 t2 t3 t4;go_wp2_with fail
   go_end0
   exact⟨rfl,HE.out⟩
 · have hc2:¬((K':Nat):Int)<((Zci q 5:Nat):Int):=by omega
   have HE:Hid (Yew Q B A n va g K R q s K' w w2):=hid ⟨R,q,_,.inl ⟨by omega,rfl,rfl,rfl⟩,HV2.out,HG2.out⟩;clear hc;go_wp2_with fail
   go_end0
   exact⟨rfl,HE.out⟩
def Zod (n g k:Nat) (R:Zag) (s s1:ASt):Prop:=Zeo R g k none/\((n<upN g (2^k)+2^k/\s1=s)\/(upN g (2^k)+2^k<=n/\Zd7 s=true/\s1=Zbs s))
def Zk1 (n g k:Nat) (R:Zag) (s:ASt) (g2 i:Nat) (R2:Zag) (s2:ASt):Prop:=
 ∃l0 R1 s0,Ybe n g k R s g2 i l0 R1 s0/\Zk0 R R2 i k/\Zcx R s.mm s2.mm/\s2.rf=s0.rf/\s2.lf=s0.lf/\Bud (n+1) g2 g2 R2 g2 s2
theorem Ybo (h:RcV Q B A n va s w) (hR:Rcy n g R va q K s) (k:Nat) (hk:k<=10):Calls Tryz.prog 56 #[Zcv B,iV k] w fun e w'=>
 (∃g2 i R2 s2,e=.returned (.tuple #[iV (adr i:Int),iV 0])/\Zk1 n g k R s g2 i R2 s2/\RcV Q B A n va s2 w'/\Zam A w w')\/
 (∃s1,e=.returned (.tuple #[iV 0,iV 4])/\Zod n g k R s s1/\RcV Q B A n va s1 w'/\Zam A w w'):=by
 refine(Zey h.1 hR.bu k hk).mono ?_
 rintro e w' (⟨g1,x,l,R1,s0,hpk,rfl,R',s',h1,h2,h3,h4,h5,h6,h7⟩|⟨rfl,hn,⟨q1,q2,q3⟩|⟨q1,q2,q3⟩⟩)
 · have e0:s0.mm=s.mm:=by
    rcases hpk.2.2.2.2.2 with⟨_,_,rfl⟩|⟨_,_,_,_,rfl⟩
    · rfl
    · exact Zdk s
   rw[e0]at h5;exact .inl ⟨g1,x,R',s',rfl,⟨l,R1,s0,hpk,h4,h5,h6,h7,h2⟩,h.to h1 h3,h3⟩
 · exact .inr ⟨s,rfl,⟨hn,.inl ⟨q1,rfl⟩⟩,h.to q2 q3,q3⟩
 · exact .inr ⟨Zbs s,rfl,⟨hn,.inr ⟨q1,q2,rfl⟩⟩,h.to q3.1 q3.2.2,q3.2.2⟩
theorem Rcy.no (h:Rcy n g R va q K s) {k:Nat} {s1:ASt} (hn:Zod n g k R s s1):Rcy n g R va q K s1/\s1.mm=s.mm:=by
 rcases hn.2 with⟨_,rfl⟩|⟨_,_,rfl⟩
 · exact⟨h,rfl⟩
 · exact⟨h.ref,Zdk s⟩
theorem Rcy.new (h:Rcy n g R va q K s) {k g2 i:Nat} {R2:Zag} {s2:ASt} (hn:Zk1 n g k R s g2 i R2 s2):
 Rcy n g2 R2 va q K s2/\Evo va R R2 q q s.mm s2.mm/\R2 i=some (k,true)/\(∀l,R i≠some (l,true))/\¬InQ q (1+i)/\Zme va i k:=by
 obtain⟨l0,R1,s0,hp,ht,hk,e1,e2,hb⟩:=hn
 have hi:∀l,R i≠some (l,true):=fun l c=>by
  have:=(hp.2.2.1 i l).2 c
  rw[hp.2.1]at this;cases (Zbc this).2
 have f:=(ht i k).2 (.inl ⟨rfl,rfl⟩);have r:=h.Yh5 hb ht hk
 refine⟨r,Evo.Yh5 ht hk,f,hi,?_,?_⟩
 · rintro ⟨j,hj,hm⟩
   obtain⟨i',e,f'⟩:=h.tk j hj _ hm
   have:i'=i:=by omega
   subst this;exact hi j f'
 · obtain⟨x0,k0,f0,a1,a2,a3⟩:=h.vw
   have hne:i≠x0:=fun c=>by rw[c]at hi;exact hi k0 f0
   have:=Zid hb.ti f ((ht x0 k0).2 (.inr f0)) hne
   unfold Zme;omega
end
end
section
open Go Go.RowKit Go.Shelf
structure Yjp (va i:Nat) (R R':Zag) (q q':Nat->List Nat) (m m':Nat->UInt8):Prop where
 ow:∀j k,R j=some (k,true)->¬InQ q (1+j)->j≠i/\R' j=some (k,true)/\¬InQ q' (1+j)/\∀a,adr j<=a->a<adr (j+2^k)->(a<va\/va+48<=a)->m' a=m a
 nt:∀p,1<=p->p≠1+i->(4096*p+16<=va\/va+48<=4096*p+8)->(Zfi m p\/InQ q p)->(Zfi m' p\/InQ q' p)
structure Fnd (n va g K:Nat) (R:Zag) (q:Nat->List Nat) (s:ASt) (i l g2:Nat) (R2:Zag) (q2:Nat->List Nat) (s2:ASt):Prop where
 rc:Rcy n g2 R2 va q2 K s2
 ev:Yjp va i R R2 q q2 s.mm s2.mm
 tk:R2 i=some (l,true)
 nq:¬InQ q2 (1+i)
 of:Zme va i l
def Zhk:Value:=.tuple #[iV 0,.bool false]
def Zlq (q:Nat->List Nat) (j:Nat):Nat:=(q j).length
def Zyf (n va g K k:Nat) (R:Zag) (q:Nat->List Nat) (s:ASt) (i l g2:Nat) (R2:Zag) (q2:Nat->List Nat) (s2:ASt):Prop:=
 (∃rest,l<5/\lsV (Zlq q) (k:Int)=.tuple #[iV l,.bool true]/\q l=(1+i)::rest/\q2=Zde q l rest/\R2=R/\g2=g/\s2={s with mm:=Zhg s.mm va l (1+i)})\/
 (lsV (Zlq q) (k:Int)=Zhk/\l=k/\q2=q/\Zk1 n g k R s g2 i R2 s2)\/
 (lsV (Zlq q) (k:Int)=Zhk/\l=k/\0<Zci q 5/\∃s1 R1 s1t,Zod n g k R s s1/\(∀j,j<5->q2 j=[])/\TrS n va g K R q s1 R1 q2 s1t/\Zk1 n g k R1 s1t g2 i R2 s2)
def Yeu (n va g K k:Nat) (R:Zag) (q:Nat->List Nat) (s:ASt) (R2:Zag) (q2:Nat->List Nat) (s2:ASt):Prop:=
 lsV (Zlq q) (k:Int)=Zhk/\∃s1 s1t,Zod n g k R s s1/\(∀j,j<5->q2 j=[])/\TrS n va g K R q s1 R2 q2 s1t/\((Zci q 5=0/\s2=s1t)\/(0<Zci q 5/\Zod n g k R2 s1t s2))
theorem Zv0 (C:Nat->Nat) (o:Int):lsV C o=Zhk\/∃l:Nat,l<5/\lsV C o=.tuple #[iV l,.bool true]/\o<=(l:Int)/\0<C l:=by
 unfold lsV;cases e:(List.range 5).find? (Zf5 C o)with
 |none=>exact .inl rfl
 |some l=>
  have h1:=List.find?_some e;have h2:=List.mem_range.1 (List.mem_of_find?_eq_some e);unfold Zf5 at h1;simp only[Bool.and_eq_true,decide_eq_true_eq]at h1;exact .inr ⟨l,h2,rfl,h1.1,h1.2⟩
section
variable {Q B A n va g K:Nat} {s s':ASt} {w x y:World} {R:Zag} {q:Nat->List Nat} {L:List Blk}
theorem Evo.toT {i:Nat} {R R':Zag} {q q':Nat->List Nat} {m m':Nat->UInt8} (h:Evo va R R' q q' m m') (hi:∀k,R i=some (k,true)->InQ q (1+i)):Yjp va i R R' q q' m m':=
 ⟨fun j k e c=>by
  obtain⟨a1,a2,a3⟩:=h.ow j k e c
  exact⟨fun d=>by subst d;exact c (hi k e),a1,a2,a3⟩,fun p h1 _ h2 h3=>h.nt p h1 h2 h3⟩
theorem Yd0 (h:Rcy n g R va q K s) {k:Nat} {l i:Nat} {rest:List Nat} (hl:l<5) (hv:lsV (Zlq q) (k:Int)=.tuple #[iV l,.bool true]) (e:q l=(1+i)::rest) (f:R i=some (l,true)):
 Fnd n va g K R q s i l g R (Zde q l rest) {s with mm:=Zhg s.mm va l (1+i)}/\Zyf n va g K k R q s i l g R (Zde q l rest) {s with mm:=Zhg s.mm va l (1+i)}:=by
 obtain⟨p1,p2,p3,p4⟩:=h.pop hl e;have hp:InQ q (1+i):=⟨l,hl,by rw[e];exact List.mem_cons_self ..⟩;have hsub:∀r∈rest,r∈q l:=fun r hr=>by rw[e];exact List.mem_cons_of_mem _ hr
 have hof:=h.Zds hp;have p0:=Zae l
 refine⟨⟨p1,⟨fun j k e' c=>?_,fun p h1 h2 h3 h4=>?_⟩,f,p4,h.off f hp⟩,.inl ⟨rest,hl,hv,e,rfl,rfl,rfl,rfl⟩⟩
 · have hne:j≠i:=fun d=>by subst d;exact c hp
   refine⟨hne,e',fun d=>c (Zjq hsub d),fun a a1 a2 a3=>?_⟩
   have hap:=Zid h.bu.ti f e' (fun d=>hne d.symm);have b1:=a1;have b2:=a2
   simp only[Za2]at hap b1 b2;exact Zee (by omega) (by omega)
 · rcases h4 with c|c
   · exact .inl fun j hj=>(Zee (by omega) (by omega)).trans (c j hj)
   · exact .inr (Zlw e c h2)
theorem Yd1 (h:Rcy n g R va q K s) {k g2 i:Nat} {R2:Zag} {s2:ASt} (hv:lsV (Zlq q) (k:Int)=Zhk) (hn:Zk1 n g k R s g2 i R2 s2):
 Fnd n va g K R q s i k g2 R2 q s2/\Zyf n va g K k R q s i k g2 R2 q s2:=by
 obtain⟨r1,r2,r3,r4,r5,r6⟩:=h.new hn
 exact⟨⟨r1,r2.toT fun l c=>absurd c (r4 l),r3,r5,r6⟩,.inr (.inl ⟨hv,rfl,rfl,hn⟩)⟩
theorem Yak (h:Rcy n g R va q K s) {k g2 i:Nat} {s1 s1t s2:ASt} {R1 R2:Zag} {q2:Nat->List Nat} (hv:lsV (Zlq q) (k:Int)=Zhk) (hc:0<Zci q 5) (hn:Zod n g k R s s1) (hz:∀j,j<5->q2 j=[])
 (ht:TrS n va g K R q s1 R1 q2 s1t) (hw:Zk1 n g k R1 s1t g2 i R2 s2):
 Fnd n va g K R q s i k g2 R2 q2 s2/\Zyf n va g K k R q s i k g2 R2 q2 s2:=by
 obtain⟨r1,r2,r3,r4,r5,r6⟩:=ht.rc.new hw;obtain⟨_,em⟩:=h.no hn;have ev:=ht.ev;rw[em]at ev
 refine⟨⟨r1,(ev.trans r2).toT fun l c=>?_,r3,r5,r6⟩,.inr (.inr ⟨hv,rfl,hc,s1,R1,s1t,hn,hz,ht,hw⟩)⟩
 by_cases d:InQ q (1+i)
 · exact d
 · exact absurd (ev.ow i l c d).1 (r4 l)
def Yey (Q B A n va g K k:Nat) (R:Zag) (q:Nat->List Nat) (s:ASt) (w:World) (e:Ending) (w':World):Prop:=
 (∃(i l g2:Nat) (R2:Zag) (q2:Nat->List Nat) (s2:ASt),e=.returned (.tuple #[cV (adr i:Int) (l:Int) 0 0,iV 0])/\Fnd n va g K R q s i l g2 R2 q2 s2/\Zyf n va g K k R q s i l g2 R2 q2 s2/\RcV Q B A n va s2 w'/\Zam A w w')\/
 (∃R2 q2 s2,e=.returned (.tuple #[cV 0 0 0 0,iV 4])/\Yeu n va g K k R q s R2 q2 s2/\RcV Q B A n va s2 w'/\Zam A w w')
abbrev zCk:Array Value:=#[iV 0,iV 0,.int .u64 0,iV 0]
theorem Zl2 {i l k g2 O:Nat} {R2:Zag} {q2:Nat->List Nat} {s2:ASt} {c:Array Value} (hc:c.size=4) (hf:Fnd n va g K R q s i l g2 R2 q2 s2) (hh:Zyf n va g K k R q s i l g2 R2 q2 s2) {L2:List Blk}
 (hw:WkS Q B A n va s2 w (⟨O,c,71⟩::L2) x):Fr A w (ckB O (adr i:Int) (l:Int) 0 0::L2) (stR x O [iV (adr i:Int),iV l,.int .u64 0,iV 0] 0)/\
  Yey Q B A n va g K k R q s w (.returned (.tuple #[cV (adr i:Int) (l:Int) 0 0,iV 0])) (stR x O [iV (adr i:Int),iV l,.int .u64 0,iV 0] 0):=by
 match c,hc with
 |⟨[_,_,_,_]⟩,_=>
 have h:=hw.st0 [iV (adr i:Int),iV l,.int .u64 0,iV 0] 0
 exact⟨h.fr,.inl ⟨i,l,g2,R2,q2,s2,rfl,hf,hh,h.rv,h.fr.wt⟩⟩
theorem Zw3 {k O:Nat} {R2:Zag} {q2:Nat->List Nat} {s2:ASt} {c:Array Value} (hc:c.size=4) (hn:Yeu n va g K k R q s R2 q2 s2) {L2:List Blk}
 (hw:WkS Q B A n va s2 w (⟨O,c,71⟩::L2) x):Fr A w (ckB O 0 0 0 0::L2) (stR x O [iV 0,iV 0,.int .u64 0,iV 0] 0)/\
  Yey Q B A n va g K k R q s w (.returned (.tuple #[cV 0 0 0 0,iV 4])) (stR x O [iV 0,iV 0,.int .u64 0,iV 0] 0):=by
 match c,hc with
 |⟨[_,_,_,_]⟩,_=>
 have h:=hw.st0 [iV 0,iV 0,.int .u64 0,iV 0] 0
 exact⟨h.fr,.inr ⟨R2,q2,s2,rfl,hn,h.rv,h.fr.wt⟩⟩
end
end
end Go.Proofs.YtgcidfenjlmljaaGreat.Bt
