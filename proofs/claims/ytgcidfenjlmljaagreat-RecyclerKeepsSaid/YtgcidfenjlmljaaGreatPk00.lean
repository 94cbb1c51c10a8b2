import Derived.Test.YtgcidfenjlmljaaGreatPn50
import Derived.Test.YtgcidfenjlmljaaGreatPmR
set_option linter.unusedVariables false
set_option linter.unusedSimpArgs false
set_option maxRecDepth 100000
set_option maxHeartbeats 16000000
namespace Go.Proofs.YtgcidfenjlmljaaGreat.Bt
section
open Go Go.RowKit Go.Shelf
theorem Yl3 {m:Nat->UInt8} {i k a:Nat} {x:Int} (h1:adr i+32<=a) (h2:a<4096+8*k\/4096+8*k+8<=a):Yj2 m 4096 i k x a=m a:=by
 unfold Yj2
 rw[Zfv (.inr (by unfold adr at h1;omega)) h2]
 exact Zdx _ _ _ _ _ _ _ (by omega)
section
variable {Q B A n g K:Nat} {R:Zag} {q:Nat->List Nat} {hs:List Hd} {s:ASt} {w y:World}
theorem PyS.fill (h:PyS n g K R q hs s) {i k u:Nat} (hc:(⟨(adr i:Int),(k:Int),(u:Int),0⟩:Hd)∈hs) {m:Nat->UInt8} (hm:∀a,(a<adr i+32\/adr i+4096<=a)->m a=s.mm a):PyS n g K R q hs {s with mm:=m}:=by
 obtain⟨i',k',u',e,f1,f2,f3,f4,f5,f6⟩:=h.ow _ hc
 simp only[Hd.mk.injEq]at e
 have hi:i'=i:=(Zmc e.1).symm
 subst hi
 have hp1:=Zae k'
 have hrun:∀j l,R j=some (l,true)->j≠i'->∀a,adr j<=a->a<adr (j+2^l)->m a=s.mm a:=fun j l f hne a a1 a2=>hm a (by
  have:=Zid h.rc.bu.ti f2 f (fun c=>hne c.symm)
  unfold adr at this a1 a2⊢
  omega)
 have hbu:Bud (n+1) g g R g {s with mm:=m}:=h.rc.bu.write fun a ha=>hm a (by
  have:=ha i' k' f2
  unfold adr at this⊢
  omega)
 have hrc:Rcy n g R 4096 q K {s with mm:=m}:=h.rc.to hbu fun j l f hj=>⟨f,fun a a1 a2=>hrun j l f (fun c=>by
  subst c
  rcases hj with hj|⟨h1,h2⟩
  · exact f3 hj
  · unfold adr at h1;omega) a a1 a2⟩
 refine{rc:=hrc,v0:=h.v0,vq:=h.vq,ow:=fun c hc2=>?_,nd:=h.nd,al:=h.al,nt:=fun p hp=>?_}
 · obtain⟨j,l,v,rfl,d1,d2,d3,d4,d5,d6⟩:=h.ow c hc2
   refine⟨j,l,v,rfl,d1,d2,d3,d4,d5,d6.same fun a a1 a2=>?_⟩
   by_cases e2:j=i'
   · subst e2;exact hm a (.inl a2)
   · have:=Zae l
     exact hrun j l d2 e2 a a1 (by unfold adr at a2⊢;omega)
 · by_cases e2:p=1+i'
   · subst e2
     exact .inr (.inr ⟨_,hc,Za2 i'▸rfl⟩)
   · rcases h.nt p hp with d|d
     · exact .inl fun j hj=>(hm _ (by unfold adr;omega)).trans (d j hj)
     · exact .inr d
theorem PyS.Yme (h:PyS n g K R q hs s) {c:Hd} (hc:c∈hs):rdV s c.a=.tuple #[cV c.a c.o c.u c.x,iV 0]:=by
 have ht:=(h.Yf3 hc).1
 obtain⟨i,k,u,rfl,f2,f3,f4,f5,f6,f7⟩:=h.ow c hc
 show rdV s (adr i:Int)=.tuple #[cV (adr i:Int) (k:Int) (u:Int) 0,iV 0]
 unfold rdV
 rw[if_pos ht,if_pos f7.s,Int.toNat_natCast,f7.o,f7.u,f7.x]
theorem Ymt (hv:RcV Q B A n 4096 s w) (h:PyS n g K R q hs s) {i k u:Nat} (hc:(⟨(adr i:Int),(k:Int),(u:Int),0⟩:Hd)∈hs):
 Calls Tryz.prog 28 #[rcP Q,iV (adr i:Int)] w fun e w'=>e=.returned (iV 0)/\
  ((k<=4/\Zci q 5+2^k<=K/\PyS n g K R (Zde q k ((1+i)::q k)) (wo hs (adr i:Int)) (Ygx s 4096 i k 0)/\RcV Q B A n 4096 (Ygx s 4096 i k 0) w'/\Zam A w w')\/
   ((4<k\/K<Zci q 5+2^k)/\∃R' s',RcV Q B A n 4096 s' w'/\Zam A w w'/\PyS n g K R' q (wo hs (adr i:Int)) s')):=by
 have hr:=h.Yme hc
 obtain⟨i',k',u',e,f1,f2,f3,f4,f5,f6⟩:=h.ow _ hc
 simp only[Hd.mk.injEq]at e
 have hi:i'=i:=(Zmc e.1).symm
 subst hi
 have hk:k'=k:=by omega
 have hu:u'=u:=by omega
 subst hk;subst hu
 refine(Zvb hv h.rc f2 (h.off f2 f1) f3 f4 hr (Int.le_refl 0) (by show(0:Int)<=9223372036854775807;omega)).mono ?_
 rintro e w' ⟨rfl,⟨⟨k1,k2⟩,h2,h3⟩|⟨k1,R',s',h2,h3,h4,h5,h6,h7,h8⟩⟩
 · exact⟨rfl,.inl ⟨k1,k2,h.cache f2 f1 f3 (by omega) (Int.le_refl 0) (by omega),h2,h3⟩⟩
 · exact⟨rfl,.inr ⟨k1,R',s',h2,h4,h.gone f2 f1 f3 h3 h5 h6⟩⟩
theorem Yms (hv:RcV Q B A n 4096 s w) (h:PyS n g K R q hs s) {i k:Nat} {rest:List Nat} (hk:k<5) (e:q k=(1+i)::rest) (u:Nat) (hu0:0<u) (hu:u<18446744073709551616):
 Calls Tryz.prog 27 #[rcP Q,iV k,.int .u64 (u:Int)] w fun e w'=>e=.returned (.tuple #[cV (adr i:Int) (k:Int) (u:Int) 0,iV 0])/\RcV Q B A n 4096 (Zyd {s with mm:=Zhg s.mm 4096 k (1+i)} i k u) w'/\Zam A w w'/\Rcy n g R 4096 (Zde q k rest) K (Zyd {s with mm:=Zhg s.mm 4096 k (1+i)} i k u):=by
 have hl:lsV (Zlq q) (k:Int)=.tuple #[iV k,.bool true]:=Ybv hk (by unfold Zf5 Zlq;rw[e];simp) fun j hj=>by unfold Zf5;rw[decide_eq_false (by omega)];rfl
 have hn:lsV (Zlq q) (k:Int)≠Zhk:=by rw[hl];intro c;simp[Zhk]at c
 have hr:=Zi9 hv.1.1
 refine(Yib hv h.rc k u (by omega) hu0 hu).mono ?_
 rintro e' w' (⟨i2,l,g2,R2,q2,s2,rfl,hf,hh,h1,h2⟩|⟨R2,q2,s2,rfl,hnf,h1,h2⟩)
 · obtain⟨q',a1,a2⟩:=h.Zuh hr hf hh (by omega) hu
   rcases hh with⟨rest2,b1,b2,b3,rfl,rfl,rfl,rfl⟩|⟨c,_⟩|⟨c,_⟩
   · rw[hl]at b2
     have hkl:k=l:=by simp at b2;omega
     subst hkl
     rw[e]at b3
     have hi:i=i2:=by simp at b3;omega
     subst hi
     have hre:rest=rest2:=by simp at b3;exact b3
     subst hre
     have hq:∀j,j<5->q' j=Zde q k rest j:=fun j hj=>by
      rcases a2 with⟨r3,_,_,d1,rfl,_⟩|⟨c,_⟩|⟨c,_⟩
      · rw[e]at d1
        have:rest=r3:=by simp at d1;exact d1
        rw[this]
      · exact absurd c hn
      · exact absurd c hn
     exact⟨rfl,h1,h2,(a1.congr fun j hj=>(hq j hj).symm).rc⟩
   · exact absurd c hn
   · exact absurd c hn
 · exact absurd hnf.1 hn
end
end
section
open Go Go.RowKit Go.Shelf
theorem Ymg {n g K:Nat} {R:Zag} {q:Nat->List Nat} {hs:List Hd} {s:ASt} (h:PyS n g K R q hs s) {i k u:Nat} (hc:(⟨(adr i:Int),(k:Int),(u:Int),0⟩:Hd)∈hs):
 Zac s.L s.es ((adr i:Int)+32) 4064=0/\Zg3 s ((adr i:Int)+32) 4064 9={s with mm:=Zb8 s.mm (adr i+32) (List.replicate 4064 9)}/\PyS n g K R q hs {s with mm:=Zb8 s.mm (adr i+32) (List.replicate 4064 9)}:=by
 obtain⟨i',k',u',e,f1,f2,f3,f4,f5,f6⟩:=h.ow _ hc
 simp only[Hd.mk.injEq]at e
 have hi:i'=i:=(Zmc e.1).symm
 subst hi
 have h1:=h.rc.bu.addr f2
 have h2:=h.rc.bu.c2;have h3:=h.rc.bu.gG
 have ht:Zac s.L s.es ((adr i':Int)+32) 4064=0:=h.rc.bu.there (by omega) (by omega) (by unfold adr;omega)
 refine⟨ht,?_,h.fill hc fun a ha=>Zbt _ _ _ (by rw[List.length_replicate];omega)⟩
 unfold Zg3
 rw[if_pos ht,show((adr i':Int)+32).toNat=adr i'+32 by omega]
 rfl
theorem Ymf {m m':Nat->UInt8} {a n:Nat} (h:∀b,a<=b->b<a+n->m' b=m b):getM m' a n=getM m a n:=by
 unfold getM
 exact List.map_congr_left fun i hi=>h _ (by omega) (by have:=List.mem_range.1 hi;omega)
theorem Ymq {s s':ASt} {a:Nat} (hL:s'.L=s.L) (he:s'.es=s.es) (h:∀b,a<=b->b<a+4064->s'.mm b=s.mm b):byV s' (a:Int) 4064=byV s (a:Int) 4064:=by
 unfold byV
 rw[hL,he]
 split
 · rw[Int.toNat_natCast]
   exact congrArg Zup (Ymf h)
 · rfl
theorem Yly (cap:Int) (hcap: -9223372036854775808<=cap/\cap<=9223372036854775807) (p0:Option Addr) (c0:Nat) (acts:List Ycg) (hlen:acts.length<=9223372036854775807) (order:Int) (hord: -9223372036854775808<=order/\order<=9223372036854775807) (w:World) (h:Zpz w p0 acts):
 Calls Tryz.prog 7 #[iV cap,.slice p0 acts.length c0,iV order] w fun e w'=>e=.returned (.bool true)/\Below w.heap.size w w':=by
 have HACT:=hid h
 clear h
 go_enter Tryz.func7,Tryz.ntmps7
 go_wp2_with fail
 refine(Yeq _).mono ?_
 rintro e w0 ⟨rfl,hb⟩
 have HB0:=hid hb
 clear hb
 by_cases h60:(60:Int)<(acts.length:Int)
 · go_wp2_with fail
   go_ret
   exact⟨rfl,HB0.out⟩
 by_cases hq0:order<0
 · go_wp2_with fail
   go_ret
   exact⟨rfl,HB0.out⟩
 by_cases hq4:4<order
 · go_wp2_with fail
   go_ret
   exact⟨rfl,HB0.out⟩
 have HOR:Hid (0<=order/\order<=4):=hid (by omega)
 obtain⟨M,hM⟩:=eX ((if 60<cap then 60 else cap):Int)
 obtain⟨N,hN,hN3,hN60⟩:∃N:Nat,(if 3<M then M else 3)=(N:Int)/\3<=N/\N<=60:=⟨(if 3<M then M else 3).toNat,by split<;>omega,by split<;>omega,by split at hM<;>split<;>omega⟩
 have HLO:=hid fun X=>Ygh N hN3 hN60 X
 clear hN3 hN60
 go_upto_region 6 with fail
 refine(HLO.out _).mono ?_
 rintro e w1 ⟨Q,B,A,n,R,s,v,hn,rfl,hl,hrf,hbs⟩
 obtain⟨u,c,P,nn,C,op,on,oc,rfl, -⟩:=hl.dw
 have HP0:=hid (PR.start hl (hbs.Zhz HB0.out) rfl)
 obtain⟨ln,ht⟩:=eX ((tkT R 1).length)
 obtain⟨ri,hri⟩:=eX (rfI s)
 rw[ht,hri]at HP0⊢
 clear ht hri hl hrf hbs hn HLO hN hM hq0 hq4
 go_upto_region 6 with fail
 change Code.wp _ _ _ _ (w1.alloc (.cells (rqA (n:Int) ((1:Nat):Int) ri ((16:Nat):Int) (.slice u ln c) P nn C (.slice op on oc)) 33))
 obtain⟨x1,hx1⟩:∃x,w1.alloc (.cells (rqA (n:Int) ((1:Nat):Int) ri ((16:Nat):Int) (.slice u ln c) P nn C (.slice op on oc)) 33)=x:=⟨_,rfl⟩
 obtain⟨D,hD⟩:=eX w1.heap.size
 rw[hx1,hD]at HP0
 rw[hx1,hD]
 clear hx1 hD
 have HST:=hid HP0.out
 clear HP0
 obtain⟨len,hle⟩:=eX acts.length
 have HL:=hid hle
 rw[hle]at hlen h60⊢
 clear hle
 go_wp2_with fail
 go_loopw[46] (fun s46 wr=>∃i g K R q hs s cs,i<=len/\s46=iV ((i:Nat):Int)/\PR D n Q B A g K R q hs s cs w wr/\Zci q 5<=K) (fun s46 _=>len-(intOf s46).toNat)
 case atStart=>exact⟨0,_,_,_,_,_,_,_,Nat.zero_le _,rfl,HST.out,by rw[Zl4];omega⟩
 case round=>
  clear HST
  obtain⟨i,g0,K0,R0,q0,hs0,s0,cs0,hi,rfl,hv,hcq0⟩:=hrel
  have HV:=hid hv
  have HC0:=hid hcq0
  clear hv hcq0
  by_cases hlt:i<len
  · obtain⟨b,off,rfl,hbl,d,k,nn,hc0,hc1,hc2,hkk⟩:∃b off,p0=some (aD b off)/\b<w.heap.size/\∃d k nn,w.cell? (aD b (off+i*3))=some (.int .u8 d)/\w.cell? (aD b (off+i*3+1))=some (iV k)/\w.cell? (aD b (off+i*3+2))=some (iV nn)/\(0<=d/\d<=255)/\(-9223372036854775808<=k/\k<=9223372036854775807)/\(-9223372036854775808<=nn/\nn<=9223372036854775807):=by
     rcases HACT.out with he|⟨b,off,e,hbl,hc⟩
     · have:=HL.out;rw[he]at this;simp at this;omega
     · obtain⟨⟨x0,x1,x2⟩,hok⟩:=hc i (by rw[HL.out];exact hlt)
       exact⟨b,off,e,hbl,_,_,_,x0,x1,x2,⟨hok.d0,hok.d1⟩,⟨hok.k0,hok.k1⟩,⟨hok.n0,hok.n1⟩⟩
    have HKK:=hid hkk
    have HIL:Hid (i+1<=len):=hid hlt
    have kk:∀j,wr.cell? (aD b j)=w.cell? (aD b j):=fun j=>World.cell?_of_block (HV.out.bs.bel.block _ hbl)
    have c0':=(kk _).trans hc0
    have c1':=(kk _).trans hc1
    have c2':=(kk _).trans hc2
    clear kk hc0 hc1 hc2 hkk
    go_upto_region 11 with fail
    change Code.wp _ _ _ _ (wr.alloc (.cells #[.int .u8 d,iV k,iV nn] 44))
    have hpb:=HV.out.below (Zaj wr (.cells #[.int .u8 d,iV k,iV nn] 44))
    have hca:=Zab wr (.cells #[.int .u8 d,iV k,iV nn] 44)
    obtain⟨y1,hy⟩:∃y,wr.alloc (.cells #[.int .u8 d,iV k,iV nn] 44)=y:=⟨_,rfl⟩
    obtain⟨E,hE⟩:=eX wr.heap.size
    rw[hE,hy]at hca
    rw[hy]at hpb
    rw[hE,hy]
    clear hE hy c0' c1' c2' HV
    have HP:=hid hpb
    have HC:=hid hca
    clear hpb hca
    obtain⟨u0,t0,P0,nn0,C0,op0,on0,oc0,he0, -⟩:=HP.out.dw
    have hc0:=Value.agg.inj he0
    subst hc0
    clear he0
    obtain⟨ln0,hl0⟩:∃ln,(tkT R0 g0).length=ln:=⟨_,rfl⟩
    obtain⟨ri0,hr0⟩:∃ri,rfI s0=ri:=⟨_,rfl⟩
    rw[hl0,hr0]at HP
    have HDO:=hid (ldo HP.out.rv HP.out.py HP.out.lt HP.out.dw d k nn HKK.out.1.1 HKK.out.1.2 HKK.out.2.1.1 HKK.out.2.1.2 HKK.out.2.2.1 HKK.out.2.2.2)
    clear hl0 hr0
    have qQq:=Zaf HP.out.fr.at0
    have c0:=(Zaa HC.out 0).1;have c1:=(Zaa HC.out 1).1;have c2:=(Zaa HC.out 2).1
    simp only[List.getElem?_toArray,List.getElem?_cons_zero,List.getElem?_cons_succ]at c0 c1 c2
    go_upto_region 12 with fail
    refine HDO.out.mono ?_
    rintro e x2 ⟨g2,K2,R2,q2,hs2,s2,v2,rfl,hv2,hp2,hd2,hg2,hcq2⟩
    obtain⟨u2,t2,P2,nn2,C2,op2,on2,oc2,rfl,hx2⟩:=hd2
    have HCQ:=hid (hcq2 HC0.out)
    have HP2:=hid (HP.out.act hv2 hp2 ⟨u2,t2,P2,nn2,C2,op2,on2,oc2,rfl,hx2⟩ hg2)
    obtain⟨ln2,hl2⟩:∃ln,(tkT R2 g2).length=ln:=⟨_,rfl⟩
    obtain⟨ri2,hr2⟩:∃ri,rfI s2=ri:=⟨_,rfl⟩
    rw[hl2,hr2]at HP2⊢
    clear hl2 hr2 hv2 hp2 hx2 hg2 hcq2 HP HDO HC qQq c0 c1 c2
    have oQ:=Zaf HP2.out.fr.at0
    have zQ:=Zap HP2.out.fr.at0
    have HP5:=hid (HP2.out.store (vs:=(rqL (n:Int) (g2:Int) ri2 (K2:Int) (.slice u2 ln2 t2) P2 nn2 C2 (.slice op2 on2 oc2))) rfl oQ.2.2.1)
    clear HP2
    go_upto_region 12 with fail
    change Code.wp _ _ _ _ (stR x2 D (rqL (n:Int) (g2:Int) ri2 (K2:Int) (.slice u2 ln2 t2) P2 nn2 C2 (.slice op2 on2 oc2)) 0)
    obtain⟨x5,hx5⟩:=eX (stR x2 D (rqL (n:Int) (g2:Int) ri2 (K2:Int) (.slice u2 ln2 t2) P2 nn2 C2 (.slice op2 on2 oc2)) 0)
    rw[hx5]at HP5⊢
    clear hx5 oQ zQ
    go_wp2_with fail
    refine(Zo0 HP5.out.rv HP5.out.py.rc).mono ?_
    rintro e xa ⟨rfl,hb⟩
    have HP6:=hid (HP5.out.below hb)
    clear hb
    go_wp2_with fail
    refine(Ybm HP6.out.rv HP6.out.py.rc).mono ?_
    rintro e xb ⟨rfl,hb⟩
    have HP7:=hid (HP6.out.below hb)
    have hle:¬((K2:Int)<((Zci q2 5:Nat):Int)):=by have:=HCQ.out;omega
    clear hb HP5 HP6
    go_wp2_with fail
    go_roundw
    case rel=>exact⟨i+1,_,_,_,_,_,_,_,HIL.out,by go_num,HP7.out,HCQ.out⟩
    case measure=>have:=HIL.out;simp[intOf];omega
  · have hnl:¬(i:Int)<(len:Int):=by omega
    obtain⟨u2,t2,P2,nn2,C2,op2,on2,oc2,he,hi2, -⟩:=HV.out.dw
    have HBS:=hid HV.out.bs
    have HTK:=hid fun X (hX:RcV Q B A n 4096 s0 X)=>Yc8 hX HV.out.py order 7 (by omega)
    have HX0:=hid (WkS.start HV.out.rv)
    clear he hi2 HV
    go_wp2_with fail
    refine(HTK.out _ HX0.out.rv).mono ?_
    rintro e w2 ⟨r0,r1,r2,er,g1,R1,q1,hs1,s1,rfl,hv2,hg2,hp2,ht⟩
    rcases ht with⟨h1,_⟩|⟨kn,hkn,_,_,⟨ic,l,hic,rfl,rfl,rfl,rfl,rfl,hhow⟩|⟨rfl,rfl,rfl,rfl,_⟩⟩
    · have:=HOR.out;omega
    · have hmem:(⟨(adr ic:Int),(l:Int),((7:Nat):Int),0⟩:Hd)∈hs0++[⟨(adr ic:Int),(l:Int),((7:Nat):Int),0⟩]:=by simp
      obtain⟨ft,fe,fp⟩:=Ymg hp2 hmem
      obtain⟨sf,hsf⟩:=eX (({s1 with mm:=Zb8 s1.mm (adr ic+32) (List.replicate 4064 9)}:ASt))
      rw[hsf]at fe fp
      have hsL:sf.L=s1.L:=by rw[<-hsf]
      have hse:sf.es=s1.es:=by rw[<-hsf]
      have HFI:=hid fun X (hX:On A s1 X)=>Zzo hX ((adr ic:Int)+32) 4064 (by unfold adr;omega) 9
      rw[ft,fe,show(((9:UInt8).toNat:Nat):Int)=9 from rfl]at HFI
      have HBY:=hid fun X (hX:On A sf X)=>Zvq hX ((adr ic:Int)+32) 4064 (by unfold adr;omega)
      have HGV:=hid fun X (hX:RcV Q B A n 4096 sf X)=>Ymt hX fp hmem
      have HB7:Hid (l<5->∀s7:ASt,s7=Zyd {Ygx sf 4096 ic l 0 with mm:=Zhg (Ygx sf 4096 ic l 0).mm 4096 l (1+ic)} ic l 8->byV s7 ((adr ic:Int)+32) 4064=byV sf ((adr ic:Int)+32) 4064):=hid (by
       rintro hl5 s7 rfl
       refine Ymq (a:=adr ic+32) rfl rfl fun b b1 b2=>?_
       show wrM (Zhg (Yj2 sf.mm 4096 ic l 0) 4096 l (1+ic)) (adr ic) (adr ic:Int) (l:Int) ((8:Nat):Int) 0 b=sf.mm b
       have hi0:ic≠0:=by
        obtain⟨j,k,v,e,f1,_⟩:=fp.ow _ hmem
        simp only[Hd.mk.injEq]at e
        have:=Zmc e.1
        omega
       have had:8192<=adr ic:=by unfold adr;omega
       rw[Zdx _ _ _ _ _ _ _ (by omega),Zee (.inr (by unfold adr at b1;omega)) (.inr (by omega)),Yl3 (by omega) (.inr (by omega))])
      have HIC:=hid hic
      have HFP:=hid fp
      obtain⟨a,ha⟩:=eX ((adr ic:Int):Int)
      have HA:=hid ha
      have HAB:Hid (0<=a/\a<=1000000):=hid (by rw[<-ha];unfold adr;omega)
      obtain⟨a2,ha2⟩:=eX (a+32:Int)
      have HW:Hid (IntKind.i64.wrap (a+32)=a2/\wrap64 (a+32)=a2):=hid ⟨by rw[IntKind.wrap_i64];have:=HAB.out;omega,(IntWalk.wrap64_in _ ⟨by have:=HAB.out;omega,by have:=HAB.out;omega⟩).trans ha2⟩
      rw[ha,ha2]at HFI HBY HB7
      rw[ha]at HGV⊢
      have HX1:=hid ((HX0.out.Zf9 hv2 hg2).new (cC a (l:Int) ((7:Nat):Int) 0) 71 (by unfold Zc7;decide))
      clear ft fe fp hmem ha ha2 hv2 hg2 hp2 hhow HTK HX0 hic hsf
      unfold cV
      go_upto_region 16 with fail
      change Code.wp _ _ _ _ (w2.alloc (.cells (cC a (l:Int) ((7:Nat):Int) 0) 71))
      obtain⟨x2,hx2⟩:∃x,w2.alloc (.cells (cC a (l:Int) ((7:Nat):Int) 0) 71)=x:=⟨_,rfl⟩
      obtain⟨Cb,hCb⟩:∃C,w2.heap.size=C:=⟨_,rfl⟩
      rw[hx2,hCb]at HX1
      rw[hx2,hCb]
      clear hx2 hCb
      go_upto_region 18 with fail
      have hw1:=HW.out.1;have hw2:=HW.out.2
      go_region_held3 (fun X=>X.cell? (aD Q 0)=some (Zcv B)/\X.cell? (aD B 0)=some (pT A)/\X.cell? (aD Cb 0)=some (iV a))
       (first|(have q:=HX1.out.below (Below.refl _ _).drew;exact⟨q.rv.all.1.1,q.rv.all.1.2.2.2.2,(Zal q.fr.at0).1⟩)|assumption)
       ((go_at_call 33;refine(HFI.out _ (HX1.out.below (Below.refl _ _).drew).rv.1.1).mono ?_;rintro e w3 ⟨rfl,ho,hg⟩;have hx3:=(HX1.out.below (Below.refl _ _).drew).Zf9 ((HX1.out.below (Below.refl _ _).drew).rv.Zaq ho hg hsL) hg;have kk:=And.intro hx3.rv.all.1.1 (And.intro hx3.rv.all.1.2.2.2.2 (Zal hx3.fr.at0).1)))
      have HX3:=hid hx3
      clear hx3 ho hg kk HX1 HFI
      go_upto_region 19 with fail
      go_region_held3 (fun X=>X.cell? (aD Q 0)=some (Zcv B)/\X.cell? (aD B 0)=some (pT A)/\X.cell? (aD Cb 0)=some (iV a))
       (first|(have q:=HX3.out.below (Below.refl _ _).drew;exact⟨q.rv.all.1.1,q.rv.all.1.2.2.2.2,(Zal q.fr.at0).1⟩)|assumption)
       ((go_at_call 34;refine(HBY.out _ (HX3.out.below (Below.refl _ _).drew).rv.1.1).mono ?_;rintro e w4 ⟨rfl,hb⟩;have hx4:=(HX3.out.below (Below.refl _ _).drew).below hb;have kk:=And.intro hx4.rv.all.1.1 (And.intro hx4.rv.all.1.2.2.2.2 (Zal hx4.fr.at0).1)))
      have HX4:=hid hx4
      clear hx4 hb kk HX3 HBY hw1 hw2
      obtain⟨by1,hby⟩:∃b,byV sf a2 4064=b:=⟨_,rfl⟩
      have HBE:=hid hby
      rw[hby]at HB7⊢
      obtain⟨er2,her2⟩:∃z,Zac s1.L s1.es a2 4064=z:=⟨_,rfl⟩
      try rw[her2]
      obtain⟨er3,her3⟩:∃z,Zac sf.L sf.es a2 4064=z:=⟨_,rfl⟩
      try rw[her3]
      clear hby her2 her3
      go_wp2_with fail
      refine(Zo0 HX4.out.rv HFP.out.rc).mono ?_
      rintro e w5 ⟨rfl,hb⟩
      have HX5:=hid (HX4.out.below hb)
      clear hb HX4
      obtain⟨c0', -⟩:=Zal HX5.out.fr.at0
      obtain⟨cq,hcq⟩:=eX (Zci q1 5)
      have HCQ1:=hid hcq
      rw[hcq]at HGV⊢
      go_wp2_with fail
      refine(HGV.out _ HX5.out.rv).mono ?_
      rintro e w6 ⟨rfl,⟨k1,k2,hp6,hv6,hg6⟩|⟨k1,R6,s6,hv6,hg6,hp6⟩⟩
      · have HX6:=hid (HX5.out.Zf9 hv6 hg6)
        have HL5:Hid (l<5):=hid (by omega)
        have hcn:=Ykh q1 l ((1+ic)::q1 l) 5
        rw[if_pos (by omega),if_pos (by omega),List.length_cons,Nat.add_mul,HCQ1.out]at hcn
        have HP6:=hid hp6
        have HC6:=hid fun X (hX:RcV Q B A n 4096 (Ygx sf 4096 ic l 0) X)=>Zo0 hX hp6.rc
        have HT7:=hid fun X (hX:RcV Q B A n 4096 (Ygx sf 4096 ic l 0) X)=>Yms hX hp6 (i:=ic) (k:=l) (rest:=q1 l) (by omega) (Za1 _ _ _) 8 (by omega) (by omega)
        rw[HA.out]at HT7
        obtain⟨cr,hcr⟩:=eX (Zci (Zde q1 l ((1+ic)::q1 l)) 5)
        rw[hcr]at HC6 hcn
        have hp2:=Zae l
        have HNE:Hid (¬((cr:Int)=(cq:Int))):=hid (by omega)
        have hb7:=HB7.out HL5.out _ rfl
        obtain⟨s7,hs7⟩:=eX (Zyd {Ygx sf 4096 ic l 0 with mm:=Zhg (Ygx sf 4096 ic l 0).mm 4096 l (1+ic)} ic l 8)
        rw[hs7]at hb7 HT7
        have HY7:=hid fun X (hX:On A s7 X)=>Zvq hX a2 4064 (by have:=HAB.out;have:=HW.out.1;rw[IntKind.wrap_i64]at this;omega)
        rw[hb7]at HY7
        clear hcn hp2 hb7 hs7 hv6 hg6 hp6 HX5 HGV c0' hcr
        obtain⟨c0',c1', -⟩:=Zal HX6.out.fr.at0
        have hne:=HNE.out
        go_wp2_with fail
        refine(HC6.out _ HX6.out.rv).mono ?_
        rintro e w7 ⟨rfl,hb⟩
        have HX7:=hid (HX6.out.below hb)
        clear hb HX6 HC6 c0' c1'
        obtain⟨c0',c1', -⟩:=Zal HX7.out.fr.at0
        go_wp2_with fail
        refine(HT7.out _ HX7.out.rv).mono ?_
        rintro e w8 ⟨rfl,hv8,hg8,hr8⟩
        have HX8:=hid ((HX7.out.Zf9 hv8 hg8).new (cC a (l:Int) ((8:Nat):Int) 0) 71 (by unfold Zc7;decide))
        have HR8:=hid hr8
        clear hv8 hg8 hr8 HX7 HT7 hne c0' c1'
        unfold cV
        go_upto_region 26 with fail
        change Code.wp _ _ _ _ (w8.alloc (.cells (cC a (l:Int) ((8:Nat):Int) 0) 71))
        obtain⟨x8,hx8⟩:∃x,w8.alloc (.cells (cC a (l:Int) ((8:Nat):Int) 0) 71)=x:=⟨_,rfl⟩
        obtain⟨Db,hDb⟩:∃C,w8.heap.size=C:=⟨_,rfl⟩
        rw[hx8,hDb]at HX8
        rw[hx8,hDb]
        clear hx8 hDb
        have hw1:=HW.out.1;have hw2:=HW.out.2
        go_region_held3 (fun X=>X.cell? (aD Q 0)=some (Zcv B)/\X.cell? (aD B 0)=some (pT A)/\X.cell? (aD Cb 0)=some (iV a))
         (first|(have q:=HX8.out.below (Below.refl _ _).drew;exact⟨q.rv.all.1.1,q.rv.all.1.2.2.2.2,(Zal q.fr.at1).1⟩)|assumption)
         ((go_at_call 34;refine(HY7.out _ (HX8.out.below (Below.refl _ _).drew).rv.1.1).mono ?_;rintro e w9 ⟨rfl,hb⟩;have hx9:=(HX8.out.below (Below.refl _ _).drew).below hb;have kk:=And.intro hx9.rv.all.1.1 (And.intro hx9.rv.all.1.2.2.2.2 (Zal hx9.fr.at1).1)))
        have HX9:=hid hx9
        clear hx9 hb kk HX8 HY7 hw1 hw2
        obtain⟨er4,her4⟩:∃z,Zac s7.L s7.es a2 4064=z:=⟨_,rfl⟩
        try rw[her4]
        clear her4
        have HC9:=hid fun X (hX:RcV Q B A n 4096 s7 X)=>Zo0 hX HR8.out
        have hce:Zci (Zde (Zde q1 l ((1+ic)::q1 l)) l (q1 l)) 5=cq:=by
         have h1:=Ykh (Zde q1 l ((1+ic)::q1 l)) l (q1 l) 5
         have h2:=Ykh q1 l ((1+ic)::q1 l) 5
         have:=HL5.out
         rw[if_pos (by omega),if_pos (by omega),Za1]at h1
         rw[if_pos (by omega),if_pos (by omega),HCQ1.out]at h2
         omega
        rw[hce]at HC9
        clear hce
        obtain⟨c0',c1', -⟩:=Zal HX9.out.fr.at1
        obtain⟨d0',d1',d2', -⟩:=Zal HX9.out.fr.at0
        go_wp2_with fail
        refine(HC9.out _ HX9.out.rv).mono ?_
        rintro e wa ⟨rfl,hb⟩
        have HXa:=hid (HX9.out.below hb)
        clear hb HX9 HC9 c0' c1' d0' d1' d2'
        go_wp2_with fail
        go_ret
        exact⟨rfl,(HBS.out.Zaq HXa.out.fr.wt).bel⟩
      · have HX6:=hid (HX5.out.Zf9 hv6 hg6)
        have HP6:=hid hp6
        have HC6:=hid fun X (hX:RcV Q B A n 4096 s6 X)=>Zo0 hX hp6.rc
        rw[HCQ1.out]at HC6
        have HK6:=hid fun X (hX:RcV Q B A n 4096 s6 X)=>Ybm hX hp6.rc
        have HK1:=hid k1
        clear hv6 hg6 hp6 HX5 HGV c0' k1
        go_wp2_with fail
        refine(HC6.out _ HX6.out.rv).mono ?_
        rintro e w7 ⟨rfl,hb⟩
        have HX7:=hid (HX6.out.below hb)
        clear hb HX6 HC6
        have HK7:=hid fun X (hX:RcV Q B A n 4096 s6 X)=>Ybm hX HP6.out.rc
        have hcb:=Ygv HP6.out.rc
        rw[HCQ1.out]at hcb
        obtain⟨P,hP⟩:=eX (2^l)
        have h2k:((2:Int)^l)=(P:Int):=by rw[<-hP];push_cast;rfl
        have hk1:=HK1.out
        rw[hP]at hk1
        have hPb:l<=4->P<=16:=fun h=>by rw[<-hP];exact Nat.pow_le_pow_right (by decide) h
        by_cases hl4:4<l
        · have hl4c:4<(l:Int):=by omega
          have hdt:decide (4<(l:Int))=true:=decide_eq_true hl4c
          clear hk1 hPb h2k hP hcb
          go_upto_region 24 with fail
          refine wp_region_held_drew (S:=fun X:World=>RcV Q B A n 4096 s6 X/\X.heap[Cb]?=some (.cells (cC a (l:Int) ((7:Nat):Int) 0) 71 (0,0))) (by kernel_rfl) ⟨(HX7.out.below (Below.refl _ _).drew).rv,(HX7.out.below (Below.refl _ _).drew).fr.at0⟩ (fun hHeld=>?_)
          have HX8:=hid (HX7.out.below (Below.refl _ _).drew)
          clear HX7
          generalize w7.drew=y8 at*
          refine tk 0 (.pointer (some (aD Cb 1))) rfl hHeld (fun X hS=>by obtain⟨e0,e1,e2,e3⟩:=Zal hS.2;clear hS;go_simp) ?_
          refine tk 1 (iV l) rfl hHeld (fun X hS=>by obtain⟨e0,e1,e2,e3⟩:=Zal hS.2;clear hS;go_simp) ?_
          refine tk 2 (.bool true) rfl hHeld (fun X hS=>by obtain⟨e0,e1,e2,e3⟩:=Zal hS.2;clear hS;go_simp) ?_
          refine tk 3 (.bool true) rfl hHeld (fun X hS=>by obtain⟨e0,e1,e2,e3⟩:=Zal hS.2;clear hS;go_simp) ?_
          refine tu 4 rfl hHeld ?_
          refine tu 5 rfl hHeld ?_
          refine tu 6 rfl hHeld ?_
          refine tu 7 rfl hHeld ?_
          refine tu 8 rfl hHeld ?_
          refine tu 9 rfl hHeld ?_
          refine tu 10 rfl hHeld ?_
          refine tu 11 rfl hHeld ?_
          refine tk 12 (.bool true) rfl hHeld (fun X hS=>by obtain⟨e0,e1,e2,e3⟩:=Zal hS.2;clear hS;go_simp) ?_
          refine tk 13 (.bool true) rfl hHeld (fun X hS=>by obtain⟨e0,e1,e2,e3⟩:=Zal hS.2;clear hS;go_simp) ?_
          refine wpAnyH_done (by kernel_rfl) ?_ _
          clear hHeld
          go_wp2_with fail
          go_ret
          exact⟨rfl,(HBS.out.Zaq HX8.out.fr.wt).bel⟩
        · have hl4c:¬4<(l:Int):=by omega
          have hdt:decide (4<(l:Int))=false:=decide_eq_false hl4c
          have hPb2:=hPb (by omega)
          have HSH:Hid (IntKind.i64.wrap ((2:Int)^l)=(P:Int)/\IntKind.i64.wrap ((2:Int)^min l 64)=(P:Int)):=hid ⟨by rw[h2k,IntKind.wrap_i64];omega,by rw[show min l 64=l by omega,h2k,IntKind.wrap_i64];omega⟩
          have HSU:Hid (IntKind.i64.wrap ((cq:Int)+(P:Int))=((cq+P:Nat):Int)/\wrap64 ((cq:Int)+(P:Int))=((cq+P:Nat):Int)):=hid ⟨by rw[IntKind.wrap_i64];omega,(IntWalk.wrap64_in _ ⟨by omega,by omega⟩).trans (by omega)⟩
          obtain⟨cp,hcp⟩:=eX (((cq+P:Nat):Int):Int)
          rw[hcp]at HSU
          have HGT:Hid ((K0:Int)<cp):=hid (by omega)
          clear hk1 hPb hPb2 h2k hP hcb hcp
          go_upto_region 24 with fail
          refine wp_region_held_drew (S:=fun X:World=>RcV Q B A n 4096 s6 X/\X.heap[Cb]?=some (.cells (cC a (l:Int) ((7:Nat):Int) 0) 71 (0,0))) (by kernel_rfl) ⟨(HX7.out.below (Below.refl _ _).drew).rv,(HX7.out.below (Below.refl _ _).drew).fr.at0⟩ (fun hHeld=>?_)
          have HX8:=hid (HX7.out.below (Below.refl _ _).drew)
          clear HX7
          generalize w7.drew=y8 at*
          refine tk 0 (.pointer (some (aD Cb 1))) rfl hHeld (fun X hS=>by obtain⟨e0,e1,e2,e3⟩:=Zal hS.2;clear hS;go_simp) ?_
          refine tk 1 (iV l) rfl hHeld (fun X hS=>by obtain⟨e0,e1,e2,e3⟩:=Zal hS.2;clear hS;go_simp) ?_
          refine tk 2 (.bool false) rfl hHeld (fun X hS=>by obtain⟨e0,e1,e2,e3⟩:=Zal hS.2;clear hS;go_simp) ?_
          refine tk 3 (.bool false) rfl hHeld (fun X hS=>by obtain⟨e0,e1,e2,e3⟩:=Zal hS.2;clear hS;go_simp) ?_
          refine tk 4 (iV cq) rfl hHeld (fun X hS=>by obtain⟨e0,e1,e2,e3⟩:=Zal hS.2;clear hS;go_simp) ?_
          refine tk 5 (.pointer (some (aD Cb 1))) rfl hHeld (fun X hS=>by obtain⟨e0,e1,e2,e3⟩:=Zal hS.2;clear hS;go_simp) ?_
          refine tk 6 (iV l) rfl hHeld (fun X hS=>by obtain⟨e0,e1,e2,e3⟩:=Zal hS.2;clear hS;go_simp) ?_
          refine tk 7 (iV P) rfl hHeld (fun X hS=>by obtain⟨e0,e1,e2,e3⟩:=Zal hS.2;clear hS;have hsh:=HSH.out.1;have hsh2:=HSH.out.2;go_simp) ?_
          refine tk 8 (iV cp) rfl hHeld (fun X hS=>by obtain⟨e0,e1,e2,e3⟩:=Zal hS.2;clear hS;have hsu:=HSU.out.1;have hsu2:=HSU.out.2;go_simp) ?_
          refine tk 9 (rcP Q) rfl hHeld (fun X hS=>by obtain⟨e0,e1,e2,e3⟩:=Zal hS.2;clear hS;go_simp) ?_
          refine rd [10] (AllReadyH.cons rfl (fun K1 hK1=>?_) AllReadyH.nil)
          go_simp
          have HH:=hid hHeld
          clear hHeld
          refine(HK7.out _ HH.out.1).mono ?_
          rintro e y9 ⟨rfl,hb⟩
          have HX9:=hid (HX8.out.below hb)
          have hn:=And.intro HX9.out.rv HX9.out.fr.at0
          clear HH hb HX8
          refine hK1.out _ _ hn (fun hHeld=>?_)
          clear hK1
          try simp only[Act.put,List.getElem_toArray,List.getElem_cons_zero,List.getElem_cons_succ,List.setIfInBounds_toArray,List.set_cons_zero,List.set_cons_succ]
          refine tk 11 (.bool true) rfl hHeld (fun X hS=>by obtain⟨e0,e1,e2,e3⟩:=Zal hS.2;clear hS;have hgt:=HGT.out;have hgd:decide ((K0:Int)<cp)=true:=decide_eq_true hgt;go_simp) ?_
          refine tk 12 (.bool true) rfl hHeld (fun X hS=>by obtain⟨e0,e1,e2,e3⟩:=Zal hS.2;clear hS;go_simp) ?_
          refine tk 13 (.bool true) rfl hHeld (fun X hS=>by obtain⟨e0,e1,e2,e3⟩:=Zal hS.2;clear hS;go_simp) ?_
          refine wpAnyH_done (by kernel_rfl) ?_ _
          clear hHeld
          go_wp2_with fail
          go_ret
          exact⟨rfl,(HBS.out.Zaq HX9.out.fr.wt).bel⟩
    · have HX1:=hid ((HX0.out.Zf9 hv2 hg2).new zCk 71 (by unfold Zc7;decide))
      clear hv2 hg2 hp2 HTK HX0
      unfold cV
      go_upto_region 16 with fail
      change Code.wp _ _ _ _ (w2.alloc (.cells zCk 71))
      obtain⟨x2,hx2⟩:∃x,w2.alloc (.cells zCk 71)=x:=⟨_,rfl⟩
      rw[hx2]at HX1⊢
      clear hx2
      go_wp2_with fail
      go_ret
      exact⟨rfl,(HBS.out.Zaq HX1.out.fr.wt).bel⟩
end
end Go.Proofs.YtgcidfenjlmljaaGreat.Bt
