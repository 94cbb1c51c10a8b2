import Derived.Test.YtgcidfenjlmljaaGreatPm50
import Derived.Test.YtgcidfenjlmljaaGreatPmR
set_option linter.unusedVariables false
set_option linter.unusedSimpArgs false
set_option maxRecDepth 100000
set_option maxHeartbeats 16000000
namespace Go.Proofs.YtgcidfenjlmljaaGreat.Bt
section
open Go Go.RowKit Go.Shelf
theorem Zyx (cap:Int) (hcap: -9223372036854775808<=cap/\cap<=9223372036854775807) (p0:Option Addr) (c0:Nat) (acts:List Ycg) (hlen:acts.length<=9223372036854775807) (again:Int) (hag:0<=again/\again<=255) (w:World) (h:Zpz w p0 acts):
 Calls Tryz.prog 3 #[iV cap,.slice p0 acts.length c0,.int .u8 again] w fun e w'=>e=.returned (.bool true)/\Below w.heap.size w w':=by
 have HACT:=hid h
 clear h
 go_enter Tryz.func3,Tryz.ntmps3
 go_wp2_with fail
 refine(Yeq _).mono ?_
 rintro e w0 ⟨rfl,hb⟩
 have HB0:=hid hb
 clear hb
 by_cases h60:(60:Int)<(acts.length:Int)
 · go_wp2_with fail
   go_ret
   exact⟨rfl,HB0.out⟩
 obtain⟨M,hM⟩:=eX ((if 60<cap then 60 else cap):Int)
 obtain⟨N,hN,hN3,hN60⟩:∃N:Nat,(if 3<M then M else 3)=(N:Int)/\3<=N/\N<=60:=⟨(if 3<M then M else 3).toNat,by split<;>omega,by split<;>omega,by split at hM<;>split<;>omega⟩
 go_upto_region 6 with fail
 clear hN hM
 have HLO:=hid fun X=>Ygh N hN3 hN60 X
 clear hN3 hN60
 go_upto_region 7 with fail
 refine(HLO.out _).mono ?_
 rintro e w1 ⟨Q,B,A,n,R,s,v,hn,rfl,hl,hrf,hbs⟩
 obtain⟨u,c,P,nn,C,op,on,oc,rfl, -⟩:=hl.dw
 have HP0:=hid (PR.start hl (hbs.Zhz HB0.out) rfl)
 have HNN:Hid (n+1<=60\/True):=hid (.inr trivial)
 obtain⟨ln,ht⟩:=eX ((tkT R 1).length)
 obtain⟨ri,hri⟩:=eX (rfI s)
 rw[ht,hri]at HP0⊢
 clear ht hri hl hrf hbs hn HLO
 go_upto_region 7 with fail
 change Code.wp _ _ _ _ (w1.alloc (.cells (rqA (n:Int) ((1:Nat):Int) ri ((16:Nat):Int) (.slice u ln c) P nn C (.slice op on oc)) 33))
 obtain⟨x1,hx1⟩:∃x,w1.alloc (.cells (rqA (n:Int) ((1:Nat):Int) ri ((16:Nat):Int) (.slice u ln c) P nn C (.slice op on oc)) 33)=x:=⟨_,rfl⟩
 obtain⟨D,hD⟩:=eX w1.heap.size
 rw[hx1,hD]at HP0
 rw[hx1,hD]
 clear hx1 hD
 obtain⟨⟨k0,k1,k2,k3,k4⟩, -⟩:=HP0.out.rv.all
 go_wp2_with fail
 have hu:=HP0.out.py.rc.bu
 refine(Zn7 HP0.out.rv.1 (by have:=hu.c2;omega)).mono ?_
 rintro e x2 ⟨rfl,hb⟩
 have HST:=hid (HP0.out.below hb)
 clear hb HP0 k0 k1 k2 k3 k4 hu
 obtain⟨len,hle⟩:=eX acts.length
 have HL:=hid hle
 rw[hle]at hlen h60⊢
 clear hle
 have HAG:=hid hag
 go_wp2_with fail
 go_loopw[8,44] (fun s8 s44 wr=>∃i Q B A g K R q hs s cs,i<=len/\s8=rcP Q/\s44=iV ((i:Nat):Int)/\PR D n Q B A g K R q hs s cs w wr) (fun _ s44 _=>len-(intOf s44).toNat)
 case atStart=>exact⟨0,_,_,_,_,_,_,_,_,_,_,Nat.zero_le _,rfl,rfl,HST.out⟩
 case round=>
  clear HST
  obtain⟨i,Q0,B0,A0,g0,K0,R0,q0,hs0,s0,cs0,hi,rfl,rfl,hv⟩:=hrel
  have HV:=hid hv
  clear hv
  by_cases hlt:i<len
  · obtain⟨b,off,rfl,hbl,d,k,nn,hc0,hc1,hc2,hkk⟩:∃b off,p0=some (aD b off)/\b<w.heap.size/\∃d k nn,w.cell? (aD b (off+i*3))=some (.int .u8 d)/\w.cell? (aD b (off+i*3+1))=some (iV k)/\w.cell? (aD b (off+i*3+2))=some (iV nn)/\(0<=d/\d<=255)/\(-9223372036854775808<=k/\k<=9223372036854775807)/\(-9223372036854775808<=nn/\nn<=9223372036854775807):=by
     rcases HACT.out with he|⟨b,off,e,hbl,hc⟩
     · have:=HL.out;rw[he]at this;simp at this;omega
     · obtain⟨⟨x0,x1,x2⟩,hok⟩:=hc i (by rw[HL.out];exact hlt)
       exact⟨b,off,e,hbl,_,_,_,x0,x1,x2,⟨hok.d0,hok.d1⟩,⟨hok.k0,hok.k1⟩,⟨hok.n0,hok.n1⟩⟩
    have HKK:=hid hkk
    have HIL:Hid (i+1<=len):=hid hlt
    have kk:∀j,wr.cell? (aD b j)=w.cell? (aD b j):=fun j=>World.cell?_of_block (HV.out.bs.bel.block _ hbl)
    have c0':=(kk _).trans hc0
    have c1':=(kk _).trans hc1
    have c2':=(kk _).trans hc2
    clear kk hc0 hc1 hc2 hkk
    go_upto_region 13 with fail
    change Code.wp _ _ _ _ (wr.alloc (.cells #[.int .u8 d,iV k,iV nn] 44))
    have hpb:=HV.out.below (Zaj wr (.cells #[.int .u8 d,iV k,iV nn] 44))
    have hca:=Zab wr (.cells #[.int .u8 d,iV k,iV nn] 44)
    obtain⟨y1,hy⟩:∃y,wr.alloc (.cells #[.int .u8 d,iV k,iV nn] 44)=y:=⟨_,rfl⟩
    obtain⟨E,hE⟩:=eX wr.heap.size
    rw[hE,hy]at hca
    rw[hy]at hpb
    rw[hE,hy]
    clear hE hy c0' c1' c2' HV
    have QP:IntKind.i64.wrap again=again:=IntWalk.i64_in _ (by have:=HAG.out;omega)
    have QP2:wrap64 again=again:=IntWalk.wrap64_in _ ⟨by have:=HAG.out;omega,by have:=HAG.out;omega⟩
    by_cases hia:(i:Int)=again
    focus
     have HP0:=hid hpb
     have HC0:=hid hca
     clear hpb hca
     obtain⟨⟨k0,k1,k2,k3,k4⟩, -⟩:=HP0.out.rv.all
     go_wp2_with fail
     refine(Zsl HP0.out.rv.1.1).mono ?_
     rintro e x7 ⟨A2,rfl,hx,hb, -,hown,hedg⟩
     have HX7:=hid (And.intro hx (And.intro hb (And.intro hown hedg)))
     have HC7:=hid ((hb.block _ (Array.getElem?_eq_some_iff.1 HC0.out).1).trans HC0.out)
     clear hx hb hown hedg k0 k1 k2 k3 k4 HC0
     go_wp2_with fail
     refine(Zxt HX7.out.1 HP0.out.py.rc.bu).mono ?_
     rintro e x8 ⟨B2,rfl,hB, -,hb⟩
     have HX8:Hid (BV B2 A2 n s0 x8/\Below x7.heap.size x7 x8):=hid ⟨⟨HX7.out.1.below hb,HP0.out.rv.1.2.1,hB⟩,hb⟩
     have HC8:=hid ((hb.block _ (Array.getElem?_eq_some_iff.1 HC7.out).1).trans HC7.out)
     clear hB hb HC7
     have hth:Zac s0.L s0.es (4096:Int) 64=0:=HP0.out.py.rc.th
     have HOV:=hid fun X (hX:On A2 s0 X)=>Zgw hX 4096 64 (by omega)
     unfold ofV at HOV
     rw[hth,if_pos rfl]at HOV
     have HRO:=hid fun X (hX:BV B2 A2 n s0 X)=>Zm5 hX 4096 64 (by omega) (by omega) (by omega) HP0.out.py.rc.th
     clear hth
     obtain⟨b0,_⟩:=HX8.out.1.all
     go_upto_region 18 with fail
     refine(HOV.out _ HX8.out.1.1).mono ?_
     rintro e x9 ⟨rfl,hb⟩
     have hb9:=hb.trans ((Zaj x9 (.cells #[pT A2,iV 4096,iV 64] 40)).mono hb.size)
     have hv9:=Zab x9 (.cells #[pT A2,iV 4096,iV 64] 40)
     clear b0 hb HOV
     go_upto_region 18 with fail
     change Code.wp _ _ _ _ (x9.alloc (.cells #[pT A2,iV 4096,iV 64] 40))
     obtain⟨x10,hx10⟩:∃x,x9.alloc (.cells #[pT A2,iV 4096,iV 64] 40)=x:=⟨_,rfl⟩
     obtain⟨V,hV⟩:=eX x9.heap.size
     rw[hx10]at hb9 hv9
     rw[hV]at hv9
     rw[hx10,hV]
     have HX10:Hid (BV B2 A2 n s0 x10/\Below x7.heap.size x7 x10):=hid ⟨HX8.out.1.below hb9,HX8.out.2.trans (hb9.mono HX8.out.2.size)⟩
     have HC10:=hid ((hb9.block _ (Array.getElem?_eq_some_iff.1 HC8.out).1).trans HC8.out)
     have v0:=(Zaa hv9 0).1;have v1:=(Zaa hv9 1).1;have v2:=(Zaa hv9 2).1
     simp only[List.getElem?_toArray,List.getElem?_cons_zero,List.getElem?_cons_succ]at v0 v1 v2
     clear hx10 hV hb9 hv9 HX8 HC8
     go_upto_region 19 with fail
     refine(HRO.out _ HX10.out.1).mono ?_
     rintro e x11 ⟨Q2,rfl,hrv,hb,hQ⟩
     have HP:=hid (HP0.out.clone HX7.out.1 HX7.out.2.1 HX7.out.2.2.1 HX7.out.2.2.2 (HX10.out.2.trans (hb.mono HX10.out.2.size)) hrv)
     have HC:=hid ((hb.block _ (Array.getElem?_eq_some_iff.1 HC10.out).1).trans HC10.out)
     clear hrv hb hQ HX7 HX10 HC10 HRO HP0 v0 v1 v2
    rotate_left
    focus
     have HP:=hid hpb
     have HC:=hid hca
     clear hpb hca
    all_goals
     go_upto_region 21 with fail
     obtain⟨u0,t0,P0,nn0,C0,op0,on0,oc0,he0, -⟩:=HP.out.dw
     have hc0:=Value.agg.inj he0
     subst hc0
     clear he0
     obtain⟨ln0,hl0⟩:∃ln,(tkT R0 g0).length=ln:=⟨_,rfl⟩
     obtain⟨ri0,hr0⟩:∃ri,rfI s0=ri:=⟨_,rfl⟩
     rw[hl0,hr0]at HP
     have HDO:=hid (ldo HP.out.rv HP.out.py HP.out.lt HP.out.dw d k nn HKK.out.1.1 HKK.out.1.2 HKK.out.2.1.1 HKK.out.2.1.2 HKK.out.2.2.1 HKK.out.2.2.2)
     clear hl0 hr0
     have qQq:=Zaf HP.out.fr.at0
     have c0:=(Zaa HC.out 0).1;have c1:=(Zaa HC.out 1).1;have c2:=(Zaa HC.out 2).1
     simp only[List.getElem?_toArray,List.getElem?_cons_zero,List.getElem?_cons_succ]at c0 c1 c2
     go_upto_region 22 with fail
     refine HDO.out.mono ?_
     rintro e x2 ⟨g2,K2,R2,q2,hs2,s2,v2,rfl,hv2,hp2,hd2,hg2⟩
     obtain⟨u2,t2,P2,nn2,C2,op2,on2,oc2,rfl,hx2⟩:=hd2
     have HP2:=hid (HP.out.act hv2 hp2 ⟨u2,t2,P2,nn2,C2,op2,on2,oc2,rfl,hx2⟩ hg2)
     obtain⟨ln2,hl2⟩:∃ln,(tkT R2 g2).length=ln:=⟨_,rfl⟩
     obtain⟨ri2,hr2⟩:∃ri,rfI s2=ri:=⟨_,rfl⟩
     rw[hl2,hr2]at HP2⊢
     clear hl2 hr2 hv2 hp2 hx2 hg2 HP HDO HC qQq c0 c1 c2
     have HP3:=hid (HP2.out.below (Zaj x2 (.cells (rqA (n:Int) (g2:Int) ri2 (K2:Int) (.slice u2 ln2 t2) P2 nn2 C2 (.slice op2 on2 oc2)) 33)))
     have hG:=Zab x2 (.cells (rqA (n:Int) (g2:Int) ri2 (K2:Int) (.slice u2 ln2 t2) P2 nn2 C2 (.slice op2 on2 oc2)) 33)
     go_upto_region 22 with fail
     change Code.wp _ _ _ _ (x2.alloc (.cells (rqA (n:Int) (g2:Int) ri2 (K2:Int) (.slice u2 ln2 t2) P2 nn2 C2 (.slice op2 on2 oc2)) 33))
     obtain⟨x3,hx3⟩:=eX (x2.alloc (.cells (rqA (n:Int) (g2:Int) ri2 (K2:Int) (.slice u2 ln2 t2) P2 nn2 C2 (.slice op2 on2 oc2)) 33))
     obtain⟨G,hG0⟩:=eX x2.heap.size
     rw[hx3]at HP3 hG⊢
     rw[hG0]at hG⊢
     clear hx3 hG0 HP2
     have HG:=hid hG
     have qQq:=Zaf hG
     clear hG
     have HTO:=hid (Yik HP3.out.lw)
     go_upto_region 24 with fail
     refine HTO.out.mono ?_
     rintro e x4 ⟨rfl,hb⟩
     have HP4:=hid (HP3.out.below hb)
     have hG:=(hb.block _ (Array.getElem?_eq_some_iff.1 HG.out).1).trans HG.out
     clear hb HP3 HTO HG qQq
     have qQq:=Zaf hG
     have oQ:=Zaf HP4.out.fr.at0
     have zQ:=Zap HP4.out.fr.at0
     have HP5:=hid (HP4.out.store (vs:=(rqL (n:Int) (g2:Int) ri2 (K2:Int) (.slice u2 ln2 t2) P2 nn2 C2 (.slice op2 on2 oc2))) rfl oQ.2.2.1)
     clear hG HP4
     go_upto_region 25 with fail
     change Code.wp _ _ _ _ (stR x4 D (rqL (n:Int) (g2:Int) ri2 (K2:Int) (.slice u2 ln2 t2) P2 nn2 C2 (.slice op2 on2 oc2)) 0)
     obtain⟨x5,hx5⟩:=eX (stR x4 D (rqL (n:Int) (g2:Int) ri2 (K2:Int) (.slice u2 ln2 t2) P2 nn2 C2 (.slice op2 on2 oc2)) 0)
     rw[hx5]at HP5⊢
     clear hx5 qQq oQ zQ
     go_wp2_with fail
     go_roundw
     case rel=>exact⟨i+1,_,_,_,_,_,_,_,_,_,_,HIL.out,rfl,by go_num,HP5.out⟩
     case measure=>have:=HIL.out;simp[intOf];omega
  · have hnl:¬(i:Int)<(len:Int):=by omega
    go_wp2_with fail
    go_ret
    exact⟨rfl,HV.out.bs.bel⟩
end
end Go.Proofs.YtgcidfenjlmljaaGreat.Bt
