import Derived.Test.YtgcidfenjlmljaaGreatPg52
import Derived.Test.YtgcidfenjlmljaaGreatPg45
import Derived.Test.YtgcidfenjlmljaaGreatPg49
import Derived.Test.YtgcidfenjlmljaaGreatPgR
set_option linter.unusedVariables false
set_option linter.unusedSimpArgs false
set_option maxRecDepth 100000
set_option maxHeartbeats 16000000
namespace Go.Proofs.YtgcidfenjlmljaaGreat.Bt
section
open Go Go.RowKit Go.Shelf
def Tt (R:Zag) (q:Nat->List Nat) (Rt:Zag):Prop:=∀i l,Rt i=some (l,true)↔R i=some (l,true)/\¬InQ q (1+i)
def Fits (R:Zag) (k:Nat):Prop:=∃i l,R i=some (l,false)/\k<=l
theorem Ymy {g:Nat} {Rt:Zag} (hT:Til g Rt g) {b l k:Nat} (hl:l<=10) (hb:b%2^l=0) (hg:b+2^l<=g) (hf:∀p,b<=p->p<b+2^l->Zha Rt p) (hk:k<=l):Fits Rt k:=by
 obtain⟨i,l',e,h1,_⟩:=Ziq hT l b hl hb hg hf
 exact⟨i,l',e,Nat.le_trans hk h1⟩
section
variable {n g k va K:Nat} {R R1 R2 Rt:Zag} {q:Nat->List Nat} {s:ASt}
theorem Ymx (hT:Til g R g) {i l j m:Nat} {t u:Bool} (e:R i=some (l,t)) (f:R j=some (m,u)) (hne:i≠j) {p:Nat} (h1:i<=p) (h2:p<i+2^l):¬(j<=p/\p<j+2^m):=by
 rcases Nat.lt_trichotomy i j with c|c|c
 · have:=hT.dj _ _ _ _ _ _ e f c;omega
 · exact absurd c hne
 · have:=hT.dj _ _ _ _ _ _ f e c;omega
theorem Tt.fits (ht:Tt R q Rt) (hT:Til g R g) (hTt:Til g Rt g) (h:Fits R k):Fits Rt k:=by
 obtain⟨i,l,e,hk⟩:=h;obtain⟨a1,a2,a3⟩:=hT.al _ _ _ e;refine Ymy hTt a1 a2 a3 (fun p p1 p2 j m f=>?_) hk;have f2:=((ht j m).1 f).1;exact Ymx hT e f2 (fun c=>by subst c;rw[e]at f2;cases f2) p1 p2
theorem Tt.Ym6 (ht:Tt R q Rt) (hT:Til g R g) (hTt:Til g Rt g) {i l:Nat} (e:R i=some (l,true)) (hq:InQ q (1+i)) (hk:k<=l):Fits Rt k:=by
 obtain⟨a1,a2,a3⟩:=hT.al _ _ _ e;refine Ymy hTt a1 a2 a3 (fun p p1 p2 j m f=>?_) hk;have f2:=(ht j m).1 f;exact Ymx hT e f2.1 (fun c=>by subst c;exact f2.2 hq) p1 p2
theorem Tt.same (h1:Tt R q R1) (h2:Tt R q R2) (hT1:Til g R1 g) (hT2:Til g R2 g) (h:Fits R1 k):Fits R2 k:=by
 obtain⟨i,l,e,hk⟩:=h;obtain⟨a1,a2,a3⟩:=hT1.al _ _ _ e;refine Ymy hT2 a1 a2 a3 (fun p p1 p2 j m f=>?_) hk;have f2:=(h1 j m).2 ((h2 j m).1 f);exact Ymx hT1 e f2 (fun c=>by subst c;rw[e]at f2;cases f2) p1 p2
theorem TrS.tt {s0 s':ASt} {R':Zag} {q':Nat->List Nat} (h:TrS n va g K R q s0 R' q' s') (hz:∀j,j<5->q' j=[]):Tt R q R':=fun i l=>by
 have hn:¬InQ q' (1+i):=fun⟨j,hj,hm⟩=>by rw[hz j hj]at hm;cases hm
 exact⟨fun e=>⟨((h.tk i l).1 e).1,fun c=>hn (((h.tk i l).1 e).2 c)⟩,fun⟨e,c⟩=>(h.tk i l).2 ⟨e,fun d=>absurd d c⟩⟩
theorem Ym0 (hT:Til g Rt g):Zpr n g k Rt=true↔Fits Rt k\/upN g (2^k)+2^k<=n:=by
 unfold Zpr;rw[Bool.or_eq_true,Ym3 hT,decide_eq_true_iff];exact Iff.rfl
theorem Ym1 {g2 i:Nat} {R2:Zag} {s s2:ASt} (h:Zk1 n g k R s g2 i R2 s2):Fits R k\/upN g (2^k)+2^k<=n:=by
 obtain⟨l0,R1,s0,⟨p1,p2,p3,p4,p5,p6⟩,_⟩:=h;rcases p6 with⟨_,rfl,_⟩|⟨_,e,c,_⟩
 · exact .inl ⟨i,l0,p2,p1⟩
 · exact .inr (by omega)
theorem Ym5 (h:Rcy n g R va q K s) (hTt:Til g Rt g) (ht:Tt R q Rt) {i l g2:Nat} {q2:Nat->List Nat} {s2:ASt} (hh:Zyf n va g K k R q s i l g2 R2 q2 s2):Zpr n g k Rt=true/\k<=l:=by
 rw[Ym0 hTt];rcases hh with⟨rest,h1,h2,h3,_⟩|⟨_,rfl,_,h4⟩|⟨_,rfl,_,s1,R1,s1t,_,hz,h5,h6⟩
 · have hm:1+i∈q l:=by rw[h3];simp
   obtain⟨i',e,f⟩:=h.tk l h1 _ hm
   have:i'=i:=by omega
   subst this
   have hkl:k<=l:=by
    rcases Zv0 (Zlq q) (k:Int)with c|⟨l',_,c,c2,_⟩
    · rw[h2]at c;simp[Zhk]at c
    · rw[h2]at c
      simp at c;omega
   exact⟨.inl (ht.Ym6 h.bu.ti hTt f ⟨l,h1,hm⟩ hkl),hkl⟩
 · exact⟨(Ym1 h4).imp (ht.fits h.bu.ti hTt) id,Nat.le_refl _⟩
 · exact⟨(Ym1 h6).imp ((h5.tt hz).same ht h5.rc.bu.ti hTt) id,Nat.le_refl _⟩
theorem not_can (h:Rcy n g R va q K s) (hr:Zd7 s=false) (hTt:Til g Rt g) (ht:Tt R q Rt) {q2:Nat->List Nat} {s2:ASt} (hn:Yeu n va g K k R q s R2 q2 s2):Zpr n g k Rt=false:=by
 obtain⟨_,s1,s1t,⟨h1,h2⟩,hz,h3,h4⟩:=hn
 have e1:n<upN g (2^k)+2^k/\s1=s:=by
  rcases h2 with c|⟨_,c,_⟩
  · exact c
  · rw[hr]at c;cases c
 obtain⟨hlt,rfl⟩:=e1
 have hnf:¬Fits R2 k:=by
  rcases h4 with⟨c,_⟩|⟨_,c,_⟩
  · rintro f
    have hq:∀j,j<5->q j=[]:=Zxm c
    have hR:Tt R q R:=fun i l=>⟨fun e=>⟨e,fun⟨j,hj,hm⟩=>by rw[hq j hj]at hm;cases hm⟩,fun e=>e.1⟩
    obtain⟨i,l,e,hk⟩:=(h3.tt hz).same hR h3.rc.bu.ti h.bu.ti f
    have:=h1 i l e
    omega
  · rintro ⟨i,l,e,hk⟩
    have:=c i l e
    omega
 cases e:Zpr n g k Rt with
 |false=>rfl
 |true=>
  rcases(Ym0 hTt).1 e with c|c
  · exact absurd (ht.same (h3.tt hz) hTt h3.rc.bu.ti c) hnf
  · omega
end
end
section
open Go Go.RowKit Go.Shelf
theorem Ymz {A2:Nat} {s:ASt} {x y z z2:World} (ho:On A2 s y) (hb:Below x.heap.size x y) (hown:∀k,Zpx A2 y k->x.heap.size<=k) (hz:Below y.heap.size y z) (hg:Zam A2 z z2):Below x.heap.size x z2:=by
 have h1:=hb.trans (hz.mono hb.size);refine h1.trans ⟨hg.os,hg.tape,hg.output,hg.size,fun i hi=>hg.block i (Nat.lt_of_lt_of_le hi h1.size) fun c=>?_⟩
 rcases(Zam.Zad ho hz).news i c with c|c
 · have:=hown i c;omega
 · have:=hb.size;omega
theorem Ym2 (cap:Int) (hcap: -9223372036854775808<=cap/\cap<=9223372036854775807) (p0:Option Addr) (c0:Nat) (acts:List Ycg) (hlen:acts.length<=9223372036854775807) (order:Int) (hord: -9223372036854775808<=order/\order<=9223372036854775807) (w:World) (h:Zpz w p0 acts):
 Calls Tryz.prog 5 #[iV cap,.slice p0 acts.length c0,iV order] w fun e w'=>e=.returned (.bool true)/\Below w.heap.size w w':=by
 have HACT:=hid h;clear h;go_enter Tryz.func5,Tryz.ntmps5;go_wp2_with fail
 refine(Yeq _).mono ?_
 rintro e w0 ⟨rfl,hb⟩;have HB0:=hid hb;clear hb;by_cases h60:(60:Int)<(acts.length:Int)
 · go_wp2_with fail
   go_ret
   exact⟨rfl,HB0.out⟩
 by_cases hlo:order<0
 · go_wp2_with fail
   go_ret
   exact⟨rfl,HB0.out⟩
 by_cases hhi:10<order
 · go_wp2_with fail
   go_ret
   exact⟨rfl,HB0.out⟩
 obtain⟨k,rfl⟩:=Int.eq_ofNat_of_zero_le (show 0<=order by omega);have hk10:k<=10:=by omega
 have hlo2:¬((k:Int)<0):=by omega
 have HK10:=hid hk10;obtain⟨M,hM⟩:=eX ((if 60<cap then 60 else cap):Int);obtain⟨N,hN,hN3,hN60⟩:∃N:Nat,(if 3<M then M else 3)=(N:Int)/\3<=N/\N<=60:=⟨(if 3<M then M else 3).toNat,by split<;>omega,by split<;>omega,by split at hM<;>split<;>omega⟩
 have HLO:=hid fun X=>Ygh N hN3 hN60 X
 clear hN3 hN60;go_upto_region 6 with fail
 refine(HLO.out _).mono ?_
 rintro e w1 ⟨Q,B,A,n,R,s,v,hn,rfl,hl,hrf,hbs⟩;obtain⟨u,c,P,nn,C,op,on,oc,rfl, -⟩:=hl.dw;have HP0:=hid (PR.start hl (hbs.Zhz HB0.out) rfl);obtain⟨ln,ht⟩:=eX ((tkT R 1).length);obtain⟨ri,hri⟩:=eX (rfI s);rw[ht,hri]at HP0⊢;clear ht hri hl hrf hbs hn HLO hN hM;go_upto_region 6 with fail;change Code.wp _ _ _ _ (w1.alloc (.cells (rqA (n:Int) ((1:Nat):Int) ri ((16:Nat):Int) (.slice u ln c) P nn C (.slice op on oc)) 33));obtain⟨x1,hx1⟩:∃x,w1.alloc (.cells (rqA (n:Int) ((1:Nat):Int) ri ((16:Nat):Int) (.slice u ln c) P nn C (.slice op on oc)) 33)=x:=⟨_,rfl⟩
 obtain⟨D,hD⟩:=eX w1.heap.size;rw[hx1,hD]at HP0;rw[hx1,hD];clear hx1 hD;have HST:=hid HP0.out;clear HP0;obtain⟨len,hle⟩:=eX acts.length;have HL:=hid hle;rw[hle]at hlen h60⊢;clear hle;go_wp2_with fail
 go_loopw[46] (fun s46 wr=>∃i g K R q hs s cs,i<=len/\s46=iV ((i:Nat):Int)/\PR D n Q B A g K R q hs s cs w wr/\Zci q 5<=K) (fun s46 _=>len-(intOf s46).toNat)
 case atStart=>exact⟨0,_,_,_,_,_,_,_,Nat.zero_le _,rfl,HST.out,by rw[Zl4];omega⟩
 case round=>
  clear HST;obtain⟨i,g0,K0,R0,q0,hs0,s0,cs0,hi,rfl,hv,hcq0⟩:=hrel;have HV:=hid hv;have HC0:=hid hcq0;clear hv hcq0;by_cases hlt:i<len
  · obtain⟨b,off,rfl,hbl,d,k,nn,hc0,hc1,hc2,hkk⟩:∃b off,p0=some (aD b off)/\b<w.heap.size/\∃d k nn,w.cell? (aD b (off+i*3))=some (.int .u8 d)/\w.cell? (aD b (off+i*3+1))=some (iV k)/\w.cell? (aD b (off+i*3+2))=some (iV nn)/\(0<=d/\d<=255)/\(-9223372036854775808<=k/\k<=9223372036854775807)/\(-9223372036854775808<=nn/\nn<=9223372036854775807):=by
     rcases HACT.out with he|⟨b,off,e,hbl,hc⟩
     · have:=HL.out;rw[he]at this;simp at this;omega
     · obtain⟨⟨x0,x1,x2⟩,hok⟩:=hc i (by rw[HL.out];exact hlt)
       exact⟨b,off,e,hbl,_,_,_,x0,x1,x2,⟨hok.d0,hok.d1⟩,⟨hok.k0,hok.k1⟩,⟨hok.n0,hok.n1⟩⟩
    have HKK:=hid hkk;have HIL:Hid (i+1<=len):=hid hlt;have kk:∀j,wr.cell? (aD b j)=w.cell? (aD b j):=fun j=>World.cell?_of_block (HV.out.bs.bel.block _ hbl)
    have c0':=(kk _).trans hc0;have c1':=(kk _).trans hc1;have c2':=(kk _).trans hc2;clear kk hc0 hc1 hc2 hkk;go_upto_region 11 with fail;change Code.wp _ _ _ _ (wr.alloc (.cells #[.int .u8 d,iV k,iV nn] 44));have hpb:=HV.out.below (Zaj wr (.cells #[.int .u8 d,iV k,iV nn] 44));have hca:=Zab wr (.cells #[.int .u8 d,iV k,iV nn] 44);obtain⟨y1,hy⟩:∃y,wr.alloc (.cells #[.int .u8 d,iV k,iV nn] 44)=y:=⟨_,rfl⟩
    obtain⟨E,hE⟩:=eX wr.heap.size;rw[hE,hy]at hca;rw[hy]at hpb;rw[hE,hy];clear hE hy c0' c1' c2' HV;have HP:=hid hpb;have HC:=hid hca;clear hpb hca;obtain⟨u0,t0,P0,nn0,C0,op0,on0,oc0,he0, -⟩:=HP.out.dw;have hc0:=Value.agg.inj he0;subst hc0;clear he0;obtain⟨ln0,hl0⟩:∃ln,(tkT R0 g0).length=ln:=⟨_,rfl⟩
    obtain⟨ri0,hr0⟩:∃ri,rfI s0=ri:=⟨_,rfl⟩
    rw[hl0,hr0]at HP;have HDO:=hid (ldo HP.out.rv HP.out.py HP.out.lt HP.out.dw d k nn HKK.out.1.1 HKK.out.1.2 HKK.out.2.1.1 HKK.out.2.1.2 HKK.out.2.2.1 HKK.out.2.2.2);clear hl0 hr0;obtain⟨q0',q1',q2',q3',q4',q5',q6',q7',q8',q9',q10',q11'⟩:=Zaf HP.out.fr.at0;have c0:=(Zaa HC.out 0).1;have c1:=(Zaa HC.out 1).1;have c2:=(Zaa HC.out 2).1
    simp only[List.getElem?_toArray,List.getElem?_cons_zero,List.getElem?_cons_succ]at c0 c1 c2;go_upto_region 12 with fail;refine HDO.out.mono ?_;rintro e x2 ⟨g2,K2,R2,q2,hs2,s2,v2,rfl,hv2,hp2,hd2,hg2,hcq2⟩;obtain⟨u2,t2,P2,nn2,C2,op2,on2,oc2,rfl,hx2⟩:=hd2;have HCQ:=hid (hcq2 HC0.out);have HP2:=hid (HP.out.act hv2 hp2 ⟨u2,t2,P2,nn2,C2,op2,on2,oc2,rfl,hx2⟩ hg2);obtain⟨ln2,hl2⟩:∃ln,(tkT R2 g2).length=ln:=⟨_,rfl⟩
    obtain⟨ri2,hr2⟩:∃ri,rfI s2=ri:=⟨_,rfl⟩
    rw[hl2,hr2]at HP2⊢;clear hl2 hr2 hv2 hp2 hx2 hg2 hcq2 HP HDO HC q0' q1' q2' q3' q4' q5' q6' q7' q8' q9' q10' q11' c0 c1 c2;obtain⟨o0,o1,o2,o3,o4,o5,o6,o7,o8,o9,o10,o11⟩:=Zaf HP2.out.fr.at0;obtain⟨z0,z1,z2,z3,z4,z5,z6,z7,z8,z9,z10,z11⟩:=Zap HP2.out.fr.at0;have HP5:=hid (HP2.out.store (vs:=(rqL (n:Int) (g2:Int) ri2 (K2:Int) (.slice u2 ln2 t2) P2 nn2 C2 (.slice op2 on2 oc2))) rfl o2);clear HP2;go_upto_region 12 with fail;change Code.wp _ _ _ _ (stR x2 D (rqL (n:Int) (g2:Int) ri2 (K2:Int) (.slice u2 ln2 t2) P2 nn2 C2 (.slice op2 on2 oc2)) 0);obtain⟨x5,hx5⟩:=eX (stR x2 D (rqL (n:Int) (g2:Int) ri2 (K2:Int) (.slice u2 ln2 t2) P2 nn2 C2 (.slice op2 on2 oc2)) 0);rw[hx5]at HP5⊢;clear hx5 o0 o1 o2 o3 o4 o5 o6 o7 o8 o9 o10 o11 z0 z1 z2 z3 z4 z5 z6 z7 z8 z9 z10 z11;go_wp2_with fail;go_roundw
    case rel=>exact⟨i+1,_,_,_,_,_,_,_,HIL.out,by go_num,HP5.out,HCQ.out⟩
    case measure=>have:=HIL.out;simp[intOf];omega
  · have hnl:¬(i:Int)<(len:Int):=by omega
    have HRV:=hid HV.out.rv;have HPY:=hid HV.out.py;have HBS:=hid HV.out.bs
    obtain⟨⟨k0,k1,k2,k3,k4⟩, -⟩:=HRV.out.all;clear HV HC0;go_wp2_with fail
    refine(Zsl HRV.out.1.1).mono ?_
    rintro e x7 ⟨A2,rfl,hx,hb, -,hown,hedg⟩;have HX7:=hid (And.intro hx (And.intro hb hown));clear hx hb hown hedg k0 k1 k2 k3 k4;go_wp2_with fail
    refine(Zxt HX7.out.1 HPY.out.rc.bu).mono ?_
    rintro e x8 ⟨B2,rfl,hB, -,hb⟩;have HX8:Hid ((RcV Q B A n 4096 s0 x8/\BV B2 A2 n s0 x8)/\Below x7.heap.size x7 x8):=hid ⟨⟨(HRV.out.below HX7.out.2.1).below hb,HX7.out.1.below hb,HRV.out.1.2.1,hB⟩,hb⟩;clear hB hb;have hth:Zac s0.L s0.es (4096:Int) 64=0:=HPY.out.rc.th;have HOV:=hid fun X (hX:On A2 s0 X)=>Zgw hX 4096 64 (by omega)
    unfold ofV at HOV;rw[hth,if_pos rfl]at HOV;have HRO:=hid fun X (hX:BV B2 A2 n s0 X)=>Zm5 hX 4096 64 (by omega) (by omega) (by omega) HPY.out.rc.th
    have HN80:Hid (n<=80):=hid (by have:=HPY.out.rc.bu.c2;omega);clear hth;go_upto_region 16 with fail
    go_cut[14,15] (fun s14 s15 wx=>∃V,s14=pT V/\s15=iV 0/\Hid (wx.heap[V]?=some (.cells #[pT A2,iV 4096,iV 64] 40 (0,0)))/\Hid (Below x8.drew.heap.size x8.drew wx))
    case first=>
     as_aux_lemma=>
     have hx0:=And.intro (HX8.out.1.1.below (Below.refl _ _).drew) (HX8.out.1.2.below (Below.refl _ _).drew);refine wp_region_held_drew (S:=fun X=>RcV Q B A n 4096 s0 X/\BV B2 A2 n s0 X) (by kernel_rfl) hx0 (fun hHeld=>?_);clear HX8;generalize x8.drew=x0 at*
     have HX0:=hid hx0;have HB0_:=hid (Below.refl x0.heap.size x0);clear hx0;refine tk 0 (Zcv B2) rfl hHeld (fun X hS=>by skip;go_simp) ?_;refine tk 1 (Zcv B2) rfl hHeld (fun X hS=>by skip;go_simp) ?_;refine tk 2 (pT B2) rfl hHeld (fun X hS=>by skip;go_simp) ?_;refine tk 3 (pT A2) rfl hHeld (fun X hS=>by obtain⟨⟨c0,c1,c2,c3,c4⟩, -⟩:=hS.1.all;have b0:=hS.2.all.1;go_simp) ?_;refine tk 4 (rcP Q) rfl hHeld (fun X hS=>by skip;go_simp) ?_;refine tk 5 (rcP Q) rfl hHeld (fun X hS=>by skip;go_simp) ?_;refine tk 6 (pT Q) rfl hHeld (fun X hS=>by skip;go_simp) ?_;refine tk 7 (Zcv B) rfl hHeld (fun X hS=>by obtain⟨⟨c0,c1,c2,c3,c4⟩, -⟩:=hS.1.all;have b0:=hS.2.all.1;go_simp) ?_;refine rd [8,14] (AllReadyH.cons rfl (fun K1 hK1=>?_) (AllReadyH.cons rfl (fun K1 hK1=>?_) AllReadyH.nil))
     · go_simp
       refine(Zn7 (HX0.out.1.below HB0_.out).1 HN80.out).mono ?_
       rintro e x1 ⟨rfl,hb⟩;have HB1:=hid (HB0_.out.trans (hb.mono HB0_.out.size));clear hHeld hb HB0_;refine hK1.out _ _ ⟨HX0.out.1.below HB1.out,HX0.out.2.below HB1.out⟩ (fun hHeld=>?_);clear hK1
       try simp only[Act.put,apu]
       refine tk 9 (iV 4096) rfl hHeld (fun X hS=>by have hw:IntKind.i64.wrap 4096=4096:=(by decide);go_simp) ?_;refine rd [10,14] (AllReadyH.cons rfl (fun K1 hK1=>?_) (AllReadyH.cons rfl (fun K1 hK1=>?_) AllReadyH.nil))
       focus
        go_simp
        refine(HOV.out _ (HX0.out.2.below HB1.out).1).mono ?_
        rintro e x2 ⟨rfl,hb⟩;have HB2:=hid (HB1.out.trans (hb.mono HB1.out.size));clear hHeld hb HB1;refine hK1.out _ _ ⟨HX0.out.1.below HB2.out,HX0.out.2.below HB2.out⟩ (fun hHeld=>?_);clear hK1
        try simp only[Act.put,apu]
        refine tk 11 (.tuple #[.agg #[pT A2,iV 4096,iV 64],iV 0]) rfl hHeld (fun X hS=>by skip;go_simp) ?_;refine tk 12 (.agg #[pT A2,iV 4096,iV 64]) rfl hHeld (fun X hS=>by skip;go_simp) ?_;refine tk 13 (iV 0) rfl hHeld (fun X hS=>by skip;go_simp) ?_;refine rd [14] (AllReadyH.cons rfl (fun K1 hK1=>?_) AllReadyH.nil);go_simp;have hv:=Zab x2 (.cells #[.pointer none,iV 0,iV 0] 40);have hbv:=HB2.out.trans ((Zaj x2 (.cells #[.pointer none,iV 0,iV 0] 40)).mono HB2.out.size);change K1 _ (x2.alloc (.cells #[.pointer none,iV 0,iV 0] 40));obtain⟨x3,hxv⟩:∃z,x2.alloc (.cells #[.pointer none,iV 0,iV 0] 40)=z:=⟨_,rfl⟩
        obtain⟨V,hV⟩:=eX x2.heap.size;have hvs:x0.heap.size<=V:=by have:=HB2.out.size;omega
        rw[hxv]at hv hbv⊢;rw[hV]at hv⊢;have HB3:=hid hbv;have HV3:=hid (And.intro hv hvs);clear hHeld hv hbv hvs hxv hV HB2;refine hK1.out _ _ ⟨HX0.out.1.below HB3.out,HX0.out.2.below HB3.out⟩ (fun hHeld=>?_);clear hK1
        try simp only[Act.put,apu]
        refine rd [15] (AllReadyH.cons rfl (fun K1 hK1=>?_) AllReadyH.nil);have o0:=(Zaa HV3.out.1 0).1;have o1:=(Zaa HV3.out.1 1).1;have o2:=(Zaa HV3.out.1 2).1
        have f0:=(Zaa HV3.out.1 0).2;have f1:=(Zaa HV3.out.1 1).2;have f2:=(Zaa HV3.out.1 2).2
        go_simp;have hst:(stR x3 V [pT A2,iV 4096,iV 64] 0).heap[V]?=some (.cells #[pT A2,iV 4096,iV 64] 40 (0,0)):=heap_set (heap_set (heap_set HV3.out.1 (pT A2)) (iV 4096)) (iV 64);have hbz:Below x0.heap.size x0 (stR x3 V [pT A2,iV 4096,iV 64] 0):=Zfu HB3.out HV3.out.2 _ _;change K1 _ (stR x3 V [pT A2,iV 4096,iV 64] 0);obtain⟨xz,hxz⟩:∃z,stR x3 V [pT A2,iV 4096,iV 64] 0=z:=⟨_,rfl⟩
        rw[hxz]at hst hbz⊢;have HVz:=hid hst;have HBz:=hid hbz;clear hHeld o0 o1 o2 f0 f1 f2 hxz hst hbz HV3 HB3
       rotate_left
       focus
        go_simp;have hv:=Zab x1 (.cells #[.pointer none,iV 0,iV 0] 40);have hbv:=HB1.out.trans ((Zaj x1 (.cells #[.pointer none,iV 0,iV 0] 40)).mono HB1.out.size);change K1 _ (x1.alloc (.cells #[.pointer none,iV 0,iV 0] 40));obtain⟨x4,hxv⟩:∃z,x1.alloc (.cells #[.pointer none,iV 0,iV 0] 40)=z:=⟨_,rfl⟩
        obtain⟨V,hV⟩:=eX x1.heap.size;have hvs:x0.heap.size<=V:=by have:=HB1.out.size;omega
        rw[hxv]at hv hbv⊢;rw[hV]at hv⊢;have HB4:=hid hbv;have HV4:=hid (And.intro hv hvs);clear hHeld hv hbv hvs hxv hV HB1;refine hK1.out _ _ ⟨HX0.out.1.below HB4.out,HX0.out.2.below HB4.out⟩ (fun hHeld=>?_);clear hK1
        try simp only[Act.put,apu]
        refine rd [10] (AllReadyH.cons rfl (fun K1 hK1=>?_) AllReadyH.nil);go_simp
        refine(HOV.out _ (HX0.out.2.below HB4.out).1).mono ?_
        rintro e x5 ⟨rfl,hb⟩;have HB5:=hid (HB4.out.trans (hb.mono HB4.out.size));have HV5:=hid (And.intro (Zba hb HV4.out.1) HV4.out.2);clear HV4;clear hHeld hb HB4;refine hK1.out _ _ ⟨HX0.out.1.below HB5.out,HX0.out.2.below HB5.out⟩ (fun hHeld=>?_);clear hK1
        try simp only[Act.put,apu]
        refine tk 11 (.tuple #[.agg #[pT A2,iV 4096,iV 64],iV 0]) rfl hHeld (fun X hS=>by skip;go_simp) ?_;refine tk 12 (.agg #[pT A2,iV 4096,iV 64]) rfl hHeld (fun X hS=>by skip;go_simp) ?_;refine tk 13 (iV 0) rfl hHeld (fun X hS=>by skip;go_simp) ?_;refine rd [15] (AllReadyH.cons rfl (fun K1 hK1=>?_) AllReadyH.nil);have o0:=(Zaa HV5.out.1 0).1;have o1:=(Zaa HV5.out.1 1).1;have o2:=(Zaa HV5.out.1 2).1
        have f0:=(Zaa HV5.out.1 0).2;have f1:=(Zaa HV5.out.1 1).2;have f2:=(Zaa HV5.out.1 2).2
        go_simp;have hst:(stR x5 V [pT A2,iV 4096,iV 64] 0).heap[V]?=some (.cells #[pT A2,iV 4096,iV 64] 40 (0,0)):=heap_set (heap_set (heap_set HV5.out.1 (pT A2)) (iV 4096)) (iV 64);have hbz:Below x0.heap.size x0 (stR x5 V [pT A2,iV 4096,iV 64] 0):=Zfu HB5.out HV5.out.2 _ _;change K1 _ (stR x5 V [pT A2,iV 4096,iV 64] 0);obtain⟨xz,hxz⟩:∃z,stR x5 V [pT A2,iV 4096,iV 64] 0=z:=⟨_,rfl⟩
        rw[hxz]at hst hbz⊢;have HVz:=hid hst;have HBz:=hid hbz;clear hHeld o0 o1 o2 f0 f1 f2 hxz hst hbz HV5 HB5
       all_goals
        refine hK1.out _ _ ⟨HX0.out.1.below HBz.out,HX0.out.2.below HBz.out⟩ (fun hHeld=>?_);clear hK1
        try simp only[Act.put,apu]
        refine tk 16 (iV 0) rfl hHeld (fun X hS=>by skip;go_simp) ?_;refine wpAnyH_done (by kernel_rfl) ?_ _;clear hHeld;go_wp2_with fail
        go_meet
        exact⟨V,rfl,rfl,HVz,HBz⟩
     · go_simp
       have hv:=Zab x0 (.cells #[.pointer none,iV 0,iV 0] 40);have hbv:=HB0_.out.trans ((Zaj x0 (.cells #[.pointer none,iV 0,iV 0] 40)).mono HB0_.out.size);change K1 _ (x0.alloc (.cells #[.pointer none,iV 0,iV 0] 40));obtain⟨x6,hxv⟩:∃z,x0.alloc (.cells #[.pointer none,iV 0,iV 0] 40)=z:=⟨_,rfl⟩
       obtain⟨V,hV⟩:=eX x0.heap.size;have hvs:x0.heap.size<=V:=by have:=HB0_.out.size;omega
       rw[hxv]at hv hbv⊢;rw[hV]at hv⊢;have HB6:=hid hbv;have HV6:=hid (And.intro hv hvs);clear hHeld hv hbv hvs hxv hV HB0_;refine hK1.out _ _ ⟨HX0.out.1.below HB6.out,HX0.out.2.below HB6.out⟩ (fun hHeld=>?_);clear hK1
       try simp only[Act.put,apu]
       refine rd [8] (AllReadyH.cons rfl (fun K1 hK1=>?_) AllReadyH.nil);go_simp
       refine(Zn7 (HX0.out.1.below HB6.out).1 HN80.out).mono ?_
       rintro e x7 ⟨rfl,hb⟩;have HB7:=hid (HB6.out.trans (hb.mono HB6.out.size));have HV7:=hid (And.intro (Zba hb HV6.out.1) HV6.out.2);clear HV6;clear hHeld hb HB6;refine hK1.out _ _ ⟨HX0.out.1.below HB7.out,HX0.out.2.below HB7.out⟩ (fun hHeld=>?_);clear hK1
       try simp only[Act.put,apu]
       refine tk 9 (iV 4096) rfl hHeld (fun X hS=>by have hw:IntKind.i64.wrap 4096=4096:=(by decide);go_simp) ?_;refine rd [10] (AllReadyH.cons rfl (fun K1 hK1=>?_) AllReadyH.nil);go_simp
       refine(HOV.out _ (HX0.out.2.below HB7.out).1).mono ?_
       rintro e x8 ⟨rfl,hb⟩;have HB8:=hid (HB7.out.trans (hb.mono HB7.out.size));have HV8:=hid (And.intro (Zba hb HV7.out.1) HV7.out.2);clear HV7;clear hHeld hb HB7;refine hK1.out _ _ ⟨HX0.out.1.below HB8.out,HX0.out.2.below HB8.out⟩ (fun hHeld=>?_);clear hK1
       try simp only[Act.put,apu]
       refine tk 11 (.tuple #[.agg #[pT A2,iV 4096,iV 64],iV 0]) rfl hHeld (fun X hS=>by skip;go_simp) ?_;refine tk 12 (.agg #[pT A2,iV 4096,iV 64]) rfl hHeld (fun X hS=>by skip;go_simp) ?_;refine tk 13 (iV 0) rfl hHeld (fun X hS=>by skip;go_simp) ?_;refine rd [15] (AllReadyH.cons rfl (fun K1 hK1=>?_) AllReadyH.nil);have o0:=(Zaa HV8.out.1 0).1;have o1:=(Zaa HV8.out.1 1).1;have o2:=(Zaa HV8.out.1 2).1
       have f0:=(Zaa HV8.out.1 0).2;have f1:=(Zaa HV8.out.1 1).2;have f2:=(Zaa HV8.out.1 2).2
       go_simp;have hst:(stR x8 V [pT A2,iV 4096,iV 64] 0).heap[V]?=some (.cells #[pT A2,iV 4096,iV 64] 40 (0,0)):=heap_set (heap_set (heap_set HV8.out.1 (pT A2)) (iV 4096)) (iV 64);have hbz:Below x0.heap.size x0 (stR x8 V [pT A2,iV 4096,iV 64] 0):=Zfu HB8.out HV8.out.2 _ _;change K1 _ (stR x8 V [pT A2,iV 4096,iV 64] 0);obtain⟨xz,hxz⟩:∃z,stR x8 V [pT A2,iV 4096,iV 64] 0=z:=⟨_,rfl⟩
       rw[hxz]at hst hbz⊢;have HVz:=hid hst;have HBz:=hid hbz;clear hHeld o0 o1 o2 f0 f1 f2 hxz hst hbz HV8 HB8;refine hK1.out _ _ ⟨HX0.out.1.below HBz.out,HX0.out.2.below HBz.out⟩ (fun hHeld=>?_);clear hK1
       try simp only[Act.put,apu]
       refine tk 16 (iV 0) rfl hHeld (fun X hS=>by skip;go_simp) ?_;refine wpAnyH_done (by kernel_rfl) ?_ _;clear hHeld;go_wp2_with fail
       go_meet
       exact⟨V,rfl,rfl,HVz,HBz⟩
    case rest=>
     obtain⟨V,rfl,rfl,HVV,HBV⟩:=hcut;have hz:x8.drew.heap.size=x8.heap.size:=rfl;have hbx:Below x8.heap.size x8 wc:=((Below.refl _ _).drew).trans (HBV.out.mono (Nat.le_of_eq hz.symm));have HX9:Hid ((RcV Q B A n 4096 s0 wc/\BV B2 A2 n s0 wc)/\Below x7.heap.size x7 wc):=hid ⟨⟨HX8.out.1.1.below hbx,HX8.out.1.2.below hbx⟩,HX8.out.2.trans (hbx.mono HX8.out.2.size)⟩;clear hz hbx HBV HX8 HOV;have v0:=(Zaa HVV.out 0).1;have v1:=(Zaa HVV.out 1).1;have v2:=(Zaa HVV.out 2).1
     go_wp2_with fail
     refine(HRO.out _ HX9.out.1.2).mono ?_
     rintro e xa ⟨Q2,rfl,hrv,hb, -⟩;have HXa:=hid (And.intro (HX9.out.1.1.below hb) (And.intro (HX9.out.2.trans (hb.mono HX9.out.2.size)) hrv));clear hrv hb HX9 HRO HVV v0 v1 v2;go_wp2_with fail
     refine(Yc0 HXa.out.2.2 HPY.out.rc).mono ?_
     rintro e xb ⟨rfl,Rt,qt,st,hz,htr,hvt,hgt⟩;have HBb:Hid (Below wr.heap.size wr xb):=hid (Ymz HX7.out.1 HX7.out.2.1 HX7.out.2.2 HXa.out.2.1 hgt);have HTT:=hid (And.intro (htr.tt hz) htr.rc.bu.ti);have HCA:=hid fun X (hX:RcV Q2 B2 A2 n 4096 st X)=>Yje hX.1 htr.rc.bu k HK10.out
     have HVT:=hid hvt;obtain⟨tr,htr2⟩:∃x:Int,((Zci q0 5:Nat):Int)=x:=⟨_,rfl⟩
     obtain⟨cb,hcb⟩:∃b,Zpr n g0 k Rt=b:=⟨_,rfl⟩
     rw[hcb]at HCA;have HCB:=hid hcb;rw[htr2];clear hz htr hvt hgt htr2 HXa hcb;obtain⟨⟨c0,c1,c2,c3,c4⟩, -⟩:=HVT.out.all;go_wp2_with fail
     refine(HCA.out _ HVT.out).mono ?_
     rintro e xc ⟨rfl,hb⟩;have HRc:=hid (HRV.out.below (HBb.out.trans (hb.mono HBb.out.size)));have HBc:=hid (HBS.out.below HRV.out.1.1 (HBb.out.trans (hb.mono HBb.out.size)));clear hb HBb HVT HCA c0 c1 c2 c3 c4 HRV HX7;obtain⟨⟨c0,c1,c2,c3,c4⟩, -⟩:=HRc.out.all;go_wp2_with fail
     refine(Zsk HRc.out.1.1 2 (by omega)).mono ?_
     rintro e xd ⟨rfl,ho,hg⟩;have HRd:=hid (HRc.out.Zaq ho hg rfl);have HWd:=hid (HBc.out.Zaq hg);have HPd:=hid (HPY.out.refuse true (2:Int).toNat);clear ho hg c0 c1 c2 c3 c4;go_wp2_with fail
     refine(Yib HRd.out HPd.out.rc k 9 HK10.out (by omega) (by omega)).mono ?_
     rintro e xk hp;rcases hp with⟨i2,l,g2,R2,q2,s2,rfl, -,hh, -,hgk⟩|⟨R2,q2,s2,rfl,hnf, -,hgk⟩
     · have HRB:=hid (HWd.out.Zaq hgk).bel
       obtain⟨hc,hkl⟩:=Ym5 HPd.out.rc HTT.out.2 HTT.out.1 hh
       have:=HCB.out
       rw[hc]at this;subst this;clear hh hc hgk HCB HTT HPd HRd HWd HRc HBc;have HBE:=hid (HRB.out.alloc HRB.out.size (.cells (cC (adr i2:Int) (l:Int) ((9:Nat):Int) 0) 71));have hch:=Zcq xk (adr i2:Int) (l:Int) ((9:Nat):Int) 0;clear HRB;unfold cV;go_upto_region 22 with fail;change Code.wp _ _ _ _ (xk.alloc (.cells (cC (adr i2:Int) (l:Int) ((9:Nat):Int) 0) 71));obtain⟨xl,hxl⟩:∃x,xk.alloc (.cells (cC (adr i2:Int) (l:Int) ((9:Nat):Int) 0) 71)=x:=⟨_,rfl⟩
       obtain⟨E,hE⟩:=eX xk.heap.size;rw[hxl]at HBE hch;rw[hE]at hch;rw[hxl,hE];clear hxl hE;obtain⟨e0,e1,e2,e3⟩:=hch.all;clear hch;have hkl2:(k:Int)<=(l:Int):=by omega
       go_wp2_with fail
       go_ret
       exact⟨rfl,HBE.out⟩
     · have HRB:=hid (HWd.out.Zaq hgk).bel
       have hc:=not_can HPd.out.rc rfl HTT.out.2 HTT.out.1 hnf
       have:=HCB.out
       rw[hc]at this;subst this;clear hnf hc hgk HCB HTT HPd HRd HWd HRc HBc;have HBE:=hid (HRB.out.alloc HRB.out.size (.cells (cC 0 0 0 0) 71));have hch:=Zcq xk 0 0 0 0;clear HRB;unfold cV;go_upto_region 22 with fail;change Code.wp _ _ _ _ (xk.alloc (.cells (cC 0 0 0 0) 71));obtain⟨xl,hxl⟩:∃x,xk.alloc (.cells (cC 0 0 0 0) 71)=x:=⟨_,rfl⟩
       obtain⟨E,hE⟩:=eX xk.heap.size;rw[hxl]at HBE hch;rw[hE]at hch;rw[hxl,hE];clear hxl hE;obtain⟨e0,e1,e2,e3⟩:=hch.all;clear hch;go_wp2_with fail
       go_ret
       exact⟨rfl,HBE.out⟩
end
end Go.Proofs.YtgcidfenjlmljaaGreat.Bt
