import Derived.Test.YtgcidfenjlmljaaGreatPg33
import Derived.Deep.RegionHeld3
import Derived.Test.YtgcidfenjlmljaaGreatPgR
set_option linter.unusedVariables false
set_option linter.unusedSimpArgs false
set_option maxRecDepth 100000
set_option maxHeartbeats 16000000
namespace Go.Proofs.YtgcidfenjlmljaaGreat.Bt
section
open Go Go.RowKit Go.Shelf
section
variable {Q B A n va g K:Nat} {s s':ASt} {w x y:World} {R:Zag} {q:Nat->List Nat} {L:List Blk}
theorem Yic (h:RcV Q B A n va s w) (hR:Rcy n g R va q K s) (k:Nat) (hk:k<=10):Calls Tryz.prog 89 #[rcP Q,iV k] w (Yey Q B A n va g K k R q s w):=by
 have HRR:=hid hR;have HX0:=hid ((WkS.start h).new zCk 71 (by unfold Zc7;decide));have HB:=hid fun X (hX:RcV Q B A n va s X)=>Zvc hX
 have HL:=hid fun X (hX:RcV Q B A n va s X)=>Yfq hX.1.1 hR (k:Int)
 clear h hR;go_enter Tryz.func89,Tryz.ntmps89;go_upto_region 1 with fail;change Code.wp _ _ _ _ (w.alloc (.cells zCk 71));obtain⟨x,hx⟩:=eX (w.alloc (.cells zCk 71));obtain⟨O,hO⟩:=eX w.heap.size;rw[hx,hO]at HX0;rw[hx,hO];clear hx hO;go_wp2_with fail
 refine(HB.out _ HX0.out.rv).mono ?_
 rintro e w1 ⟨rfl,hb⟩;have HX1:=hid (HX0.out.below hb);clear hb HX0;go_wp2_with fail
 refine(HL.out _ HX1.out.rv).mono ?_
 rintro e w2 ⟨rfl,hb⟩;have HX2:=hid (HX1.out.below hb);clear hb HX1 HL;have hcs:=Zv0 (Zlq q) (k:Int);change lsV (Zlq q) (k:Int)=Zhk\/_ at hcs;rcases hcs with hv|⟨l,hl,hv, -,hlq⟩
 · have HV:=hid hv
   have e2:lsV (fun k=>(q k).length) (k:Int)=.tuple #[iV 0,.bool false]:=hv;rw[e2];clear hv e2;obtain⟨⟨c0,c1,c2,c3,c4⟩, -⟩:=HX2.out.rv.all;have HA:=hid (Ybo HX2.out.rv HRR.out k hk);go_wp2_with fail;refine HA.out.mono ?_;rintro e w3 (⟨g2,i,R2,s2,rfl,hn,hv3,hg⟩|⟨s1,rfl,hn,hv3,hg⟩)
   · have HFD:=hid (Yd1 HRR.out HV.out hn)
     have HX3:=hid (HX2.out.Zf9 hv3 hg);have HE:=hid (Zl2 rfl HFD.out.1 HFD.out.2 HX3.out);have z0:=HX3.out.fr.Za5 0;have z1:=HX3.out.fr.Za5 1;have z2:=HX3.out.fr.Za5 2;have z3:=HX3.out.fr.Za5 3
     have o0:=HX3.out.fr.cell0 0 rfl;have o1:=HX3.out.fr.cell0 1 rfl;have o2:=HX3.out.fr.cell0 2 rfl;have o3:=HX3.out.fr.cell0 3 rfl
     clear hn hv3 hg HX3 HX2 HA HB c0 c1 c2 c3 c4;go_wp2_with fail;change bodyPost _ _ _ _ _ (stR w3 O [iV (adr i:Int),iV k,.int .u64 0,iV 0] 0);have g0:=HE.out.1.cell0 0 rfl;have g1:=HE.out.1.cell0 1 rfl;have g2:=HE.out.1.cell0 2 rfl;have g3:=HE.out.1.cell0 3 rfl
     obtain⟨z,hz⟩:=eX (stR w3 O [iV (adr i:Int),iV k,.int .u64 0,iV 0] 0);rw[hz]at HE g0 g1 g2 g3⊢;exact bodyPost_ret (v:=.tuple #[cV (adr i:Int) (k:Int) 0 0,iV 0]) (by simp[results,Tryz.results89,go_sem,cV,g0,g1,g2,g3]) rfl HE.out.2
   · have HN:=hid hn
     have HX3:=hid (HX2.out.Zf9 hv3 hg);have HR3:=hid (HRR.out.no hn);have HT:=hid (Yc0 HX3.out.rv HR3.out.1);clear hn hv3 hg HX2 HA c0 c1 c2 c3 c4;go_wp2_with fail;refine HT.out.mono ?_;rintro e w4 ⟨rfl,R1,q1,s1t,hz,ht,hv4,hg⟩;have HZ:=hid hz;have HTS:=hid ht;have HX4:=hid (HX3.out.Zf9 hv4 hg);clear hz ht hv4 hg HX3 HT;by_cases hc:0<Zci q 5
     · have hc2:(0:Int)<((Zci q 5:Nat):Int):=by omega
       have HC:=hid hc;clear hc;obtain⟨⟨c0,c1,c2,c3,c4⟩, -⟩:=HX4.out.rv.all;have HA:=hid (Ybo HX4.out.rv HTS.out.rc k hk);go_wp2_with fail;refine HA.out.mono ?_;rintro e w5 (⟨g2,i,R2,s2,rfl,hn,hv3,hg⟩|⟨s2,rfl,hn,hv3,hg⟩)
       · have HFD:=hid (Yak HRR.out HV.out HC.out HN.out HZ.out HTS.out hn)
         have HX3:=hid (HX4.out.Zf9 hv3 hg);have HE:=hid (Zl2 rfl HFD.out.1 HFD.out.2 HX3.out);have z0:=HX3.out.fr.Za5 0;have z1:=HX3.out.fr.Za5 1;have z2:=HX3.out.fr.Za5 2;have z3:=HX3.out.fr.Za5 3
         have o0:=HX3.out.fr.cell0 0 rfl;have o1:=HX3.out.fr.cell0 1 rfl;have o2:=HX3.out.fr.cell0 2 rfl;have o3:=HX3.out.fr.cell0 3 rfl
         clear hn hv3 hg HX3 HX4 HA HB c0 c1 c2 c3 c4 hc2;go_wp2_with fail;change bodyPost _ _ _ _ _ (stR w5 O [iV (adr i:Int),iV k,.int .u64 0,iV 0] 0);have g0:=HE.out.1.cell0 0 rfl;have g1:=HE.out.1.cell0 1 rfl;have g2:=HE.out.1.cell0 2 rfl;have g3:=HE.out.1.cell0 3 rfl
         obtain⟨z,hz⟩:=eX (stR w5 O [iV (adr i:Int),iV k,.int .u64 0,iV 0] 0);rw[hz]at HE g0 g1 g2 g3⊢;exact bodyPost_ret (v:=.tuple #[cV (adr i:Int) (k:Int) 0 0,iV 0]) (by simp[results,Tryz.results89,go_sem,cV,g0,g1,g2,g3]) rfl HE.out.2
       · have HX5:=hid (HX4.out.Zf9 hv3 hg)
         have HNF:Hid (Yeu n va g K k R q s R1 q1 s2):=hid ⟨HV.out,s1,s1t,HN.out,HZ.out,HTS.out,.inr ⟨HC.out,hn⟩⟩;have HE:=hid (Zw3 rfl HNF.out HX5.out);have z0:=HX5.out.fr.Za5 0;have z1:=HX5.out.fr.Za5 1;have z2:=HX5.out.fr.Za5 2;have z3:=HX5.out.fr.Za5 3
         have o0:=HX5.out.fr.cell0 0 rfl;have o1:=HX5.out.fr.cell0 1 rfl;have o2:=HX5.out.fr.cell0 2 rfl;have o3:=HX5.out.fr.cell0 3 rfl
         clear HX4 HX5 HA HB hn hv3 hg c0 c1 c2 c3 c4 hc2;go_wp2_with fail;change bodyPost _ _ _ _ _ (stR w5 O [iV 0,iV 0,.int .u64 0,iV 0] 0);have g0:=HE.out.1.cell0 0 rfl;have g1:=HE.out.1.cell0 1 rfl;have g2:=HE.out.1.cell0 2 rfl;have g3:=HE.out.1.cell0 3 rfl
         obtain⟨z,hz⟩:=eX (stR w5 O [iV 0,iV 0,.int .u64 0,iV 0] 0);rw[hz]at HE g0 g1 g2 g3⊢;exact bodyPost_ret (v:=.tuple #[cV 0 0 0 0,iV 4]) (by simp[results,Tryz.results89,go_sem,cV,g0,g1,g2,g3]) rfl HE.out.2
     · have hc2:¬(0:Int)<((Zci q 5:Nat):Int):=by omega
       have HNF:Hid (Yeu n va g K k R q s R1 q1 s1t):=hid ⟨HV.out,s1,s1t,HN.out,HZ.out,HTS.out,.inl ⟨by omega,rfl⟩⟩;have HE:=hid (Zw3 rfl HNF.out HX4.out);have z0:=HX4.out.fr.Za5 0;have z1:=HX4.out.fr.Za5 1;have z2:=HX4.out.fr.Za5 2;have z3:=HX4.out.fr.Za5 3
       have o0:=HX4.out.fr.cell0 0 rfl;have o1:=HX4.out.fr.cell0 1 rfl;have o2:=HX4.out.fr.cell0 2 rfl;have o3:=HX4.out.fr.cell0 3 rfl
       have hd:decide (0<Zci q 5)=false:=decide_eq_false hc;clear HX4 HB hc2;go_wp2_with fail;change bodyPost _ _ _ _ _ (stR w4 O [iV 0,iV 0,.int .u64 0,iV 0] 0);have g0:=HE.out.1.cell0 0 rfl;have g1:=HE.out.1.cell0 1 rfl;have g2:=HE.out.1.cell0 2 rfl;have g3:=HE.out.1.cell0 3 rfl
       obtain⟨z,hz⟩:=eX (stR w4 O [iV 0,iV 0,.int .u64 0,iV 0] 0);rw[hz]at HE g0 g1 g2 g3⊢;exact bodyPost_ret (v:=.tuple #[cV 0 0 0 0,iV 4]) (by simp[results,Tryz.results89,go_sem,cV,g0,g1,g2,g3]) rfl HE.out.2
 · have HV:=hid hv
   have HHL:=hid hl
   obtain⟨p,rest,e⟩:∃p rest,q l=p::rest:=by
    unfold Zlq at hlq;cases e:q l with
    |nil=>rw[e]at hlq;cases hlq
    |cons p rest=>exact⟨p,rest,rfl⟩
   obtain⟨i,rfl,f⟩:=HRR.out.tk l hl p (by rw[e];exact List.mem_cons_self ..);have HPP:=hid fun X (hX:RcV Q B A n va s X)=>Zqc hX.1.1 HRR.out hl e
   have HFD:=hid (Yd0 HRR.out hl hv e f);have ea:((4096*(1+i):Nat):Int)=(adr i:Int):=by rw[Za2]
   rw[ea]at HPP;unfold cV at HPP;have e2:lsV (fun k=>(q k).length) (k:Int)=.tuple #[iV l,.bool true]:=hv;rw[e2];clear hv hl hlq e f ea e2;go_wp2_with fail
   refine(HB.out _ HX2.out.rv).mono ?_
   rintro e w3 ⟨rfl,hb⟩;have HX3:=hid (HX2.out.below hb);clear hb HX2;go_wp2_with fail
   refine(HPP.out _ HX3.out.rv).mono ?_
   rintro e w4 ⟨rfl,ho,hg⟩;have HX4:=hid ((HX3.out.Zf9 (HX3.out.rv.Zaq ho hg rfl) hg).new #[iV (adr i:Int),iV l,.int .u64 0,iV 0] 71 (by unfold Zc7;decide));clear ho hg HX3 HPP;go_upto_region 4 with fail;change Code.wp _ _ _ _ (w4.alloc (.cells #[iV (adr i:Int),iV l,.int .u64 0,iV 0] 71));obtain⟨x5,hx⟩:=eX (w4.alloc (.cells #[iV (adr i:Int),iV l,.int .u64 0,iV 0] 71));obtain⟨D,hD⟩:=eX w4.heap.size;rw[hx,hD]at HX4;rw[hx,hD];clear hx hD;have d0:=HX4.out.fr.cell0 0 rfl;have d1:=HX4.out.fr.cell0 1 rfl;have d2:=HX4.out.fr.cell0 2 rfl;have d3:=HX4.out.fr.cell0 3 rfl
   have z0:=HX4.out.fr.Zda 0;have z1:=HX4.out.fr.Zda 1;have z2:=HX4.out.fr.Zda 2;have z3:=HX4.out.fr.Zda 3
   have o0:=HX4.out.fr.Zak 0 rfl;have o1:=HX4.out.fr.Zak 1 rfl;have o2:=HX4.out.fr.Zak 2 rfl;have o3:=HX4.out.fr.Zak 3 rfl
   have HE:=hid (Zl2 rfl HFD.out.1 HFD.out.2 (show WkS Q B A n va _ w [⟨O,zCk,71⟩] x5 from⟨HX4.out.rv,HX4.out.fr.Zia⟩));clear HX4 HFD HB;go_wp2_with fail;change bodyPost _ _ _ _ _ (stR x5 O [iV (adr i:Int),iV l,.int .u64 0,iV 0] 0);have g0:=HE.out.1.cell0 0 rfl;have g1:=HE.out.1.cell0 1 rfl;have g2:=HE.out.1.cell0 2 rfl;have g3:=HE.out.1.cell0 3 rfl
   obtain⟨z,hz⟩:=eX (stR x5 O [iV (adr i:Int),iV l,.int .u64 0,iV 0] 0);rw[hz]at HE g0 g1 g2 g3⊢;exact bodyPost_ret (v:=.tuple #[cV (adr i:Int) (l:Int) 0 0,iV 0]) (by simp[results,Tryz.results89,go_sem,cV,g0,g1,g2,g3]) rfl HE.out.2
end
end
section
open Go Go.RowKit Go.Shelf
def Zyd (s2:ASt) (i l u:Nat):ASt:={s2 with mm:=wrM s2.mm (adr i) (adr i:Int) (l:Int) (u:Int) 0}
section
variable {Q B A n va g K:Nat} {s s':ASt} {w x y:World} {R:Zag} {q:Nat->List Nat} {L:List Blk}
def Yes (Q B A n va g K k u:Nat) (R:Zag) (q:Nat->List Nat) (s:ASt) (w:World) (e:Ending) (w':World):Prop:=
 (∃(i l g2:Nat) (R2:Zag) (q2:Nat->List Nat) (s2:ASt),e=.returned (.tuple #[cV (adr i:Int) (l:Int) (u:Int) 0,iV 0])/\Fnd n va g K R q s i l g2 R2 q2 s2/\Zyf n va g K k R q s i l g2 R2 q2 s2/\RcV Q B A n va (Zyd s2 i l u) w'/\Zam A w w')\/
 (∃R2 q2 s2,e=.returned (.tuple #[cV 0 0 0 0,iV 4])/\Yeu n va g K k R q s R2 q2 s2/\RcV Q B A n va s2 w'/\Zam A w w')
theorem Yfk {i l g2 u:Nat} {R2:Zag} {q2:Nat->List Nat} {s2:ASt} (h:On A s2 w) (hR:Rcy n g2 R2 va q2 K s2) (f:R2 i=some (l,true)) (hu:u<18446744073709551616):
 Calls Tryz.prog 90 #[pT A,.agg #[iV (adr i:Int),iV l,.int .u64 (u:Int),iV 0]] w (Ret A (Zyd s2 i l u) (iV 0) w):=by
 have a:=hR.bu.addr f
 have:=hR.bu.gG;have:=hR.bu.c2
 have p0:=Zae l
 have:=Zic h (adr i:Int) (l:Int) (u:Int) 0 (by unfold adr;omega) (by omega) (by omega) ((Zdt _ _ _).2 ⟨by omega,by unfold adr;omega,by omega,by omega⟩) (hR.bu.there (by omega) (by omega) (by unfold adr;omega))
 rw[Int.toNat_natCast]at this;exact this
theorem Zu3 (h:RcV Q B A n va s w) (k:Int) (u:Nat) (hk:k<0\/10<k\/u=0):Calls Tryz.prog 27 #[rcP Q,iV k,.int .u64 (u:Int)] w fun e w'=>e=.returned (.tuple #[cV 0 0 0 0,iV 2])/\RcV Q B A n va s w'/\Below w.heap.size w w':=by
 have HX0:=hid ((WkS.start h).new zCk 71 (by unfold Zc7;decide));have HB0:=hid (Zaj w (.cells zCk 71));have HKK:=hid hk;clear h hk;go_enter Tryz.func27,Tryz.ntmps27;go_upto_region 1 with fail;change Code.wp _ _ _ _ (w.alloc (.cells zCk 71));obtain⟨x,hx⟩:=eX (w.alloc (.cells zCk 71));obtain⟨O,hO⟩:=eX w.heap.size;have HWO:=hid hO;rw[hx]at HB0;rw[hx,hO]at HX0;rw[hx,hO];clear hx hO;have z0:=HX0.out.fr.Za5 0;have o0:=HX0.out.fr.cell0 0 rfl
 have z1:=HX0.out.fr.Za5 1;have o1:=HX0.out.fr.cell0 1 rfl
 have z2:=HX0.out.fr.Za5 2;have o2:=HX0.out.fr.cell0 2 rfl
 have z3:=HX0.out.fr.Za5 3;have o3:=HX0.out.fr.cell0 3 rfl
 have hd:(if k<0 then true else if 10<k then true else decide (u=0))=true:=by
  have:=HKK.out
  by_cases c1:k<0
  · rw[if_pos c1]
  · rw[if_neg c1]
    by_cases c2:10<k
    · rw[if_pos c2]
    · rw[if_neg c2];exact decide_eq_true (by omega)
 by_cases c1:k<0
 · go_wp2_with fail
   have HX5:=hid (show WkS Q B A n va s w [ckB O 0 0 0 0] (stR x O [iV 0,iV 0,.int .u64 0,iV 0] 0)from HX0.out.st0 [iV 0,iV 0,.int .u64 0,iV 0] 0);change bodyPost _ _ _ _ _ (stR x O [iV 0,iV 0,.int .u64 0,iV 0] 0);have y0:=HX5.out.fr.cell0 0 rfl;have y1:=HX5.out.fr.cell0 1 rfl;have y2:=HX5.out.fr.cell0 2 rfl;have y3:=HX5.out.fr.cell0 3 rfl
   have HPO:=hid (And.intro HX5.out.rv (Zfu HB0.out (show w.heap.size<=O by have:=HWO.out;omega) [iV 0,iV 0,.int .u64 0,iV 0] 0));obtain⟨z,hz⟩:=eX (stR x O [iV 0,iV 0,.int .u64 0,iV 0] 0);rw[hz]at HPO y0 y1 y2 y3⊢;exact bodyPost_ret (v:=.tuple #[cV 0 0 0 0,iV 2]) (by simp[results,Tryz.results27,go_sem,cV,y0,y1,y2,y3]) rfl ⟨rfl,HPO.out⟩
 · by_cases c2:10<k
   rotate_left
   focus
    have c3:u=0:=by have:=HKK.out;omega
    subst c3
   all_goals
    go_wp2_with fail;have HX5:=hid (show WkS Q B A n va s w [ckB O 0 0 0 0] (stR x O [iV 0,iV 0,.int .u64 0,iV 0] 0)from HX0.out.st0 [iV 0,iV 0,.int .u64 0,iV 0] 0);change bodyPost _ _ _ _ _ (stR x O [iV 0,iV 0,.int .u64 0,iV 0] 0);have y0:=HX5.out.fr.cell0 0 rfl;have y1:=HX5.out.fr.cell0 1 rfl;have y2:=HX5.out.fr.cell0 2 rfl;have y3:=HX5.out.fr.cell0 3 rfl
    have HPO:=hid (And.intro HX5.out.rv (Zfu HB0.out (show w.heap.size<=O by have:=HWO.out;omega) [iV 0,iV 0,.int .u64 0,iV 0] 0));obtain⟨z,hz⟩:=eX (stR x O [iV 0,iV 0,.int .u64 0,iV 0] 0);rw[hz]at HPO y0 y1 y2 y3⊢;exact bodyPost_ret (v:=.tuple #[cV 0 0 0 0,iV 2]) (by simp[results,Tryz.results27,go_sem,cV,y0,y1,y2,y3]) rfl ⟨rfl,HPO.out⟩
theorem Yib (h:RcV Q B A n va s w) (hR:Rcy n g R va q K s) (k u:Nat) (hk:k<=10) (hu0:0<u) (hu:u<18446744073709551616):Calls Tryz.prog 27 #[rcP Q,iV k,.int .u64 (u:Int)] w (Yes Q B A n va g K k u R q s w):=by
 have HX0:=hid ((WkS.start h).new zCk 71 (by unfold Zc7;decide));have HF:=hid fun X (hX:RcV Q B A n va s X)=>Yic hX hR k hk
 have HU:=hid hu;have k0:¬(k:Int)<0:=by omega
 have k1:¬10<(k:Int):=by omega
 have k2:((u:Int)==0)=false:=by simp;omega
 have k3:decide ((u:Int)=0)=false:=decide_eq_false (by omega);have k4:¬u=0:=by omega
 clear h hR hu;go_enter Tryz.func27,Tryz.ntmps27;go_upto_region 1 with fail;change Code.wp _ _ _ _ (w.alloc (.cells zCk 71));obtain⟨x,hx⟩:=eX (w.alloc (.cells zCk 71));obtain⟨O,hO⟩:=eX w.heap.size;rw[hx,hO]at HX0;rw[hx,hO];clear hx hO;go_wp2_with fail
 refine(HF.out _ HX0.out.rv).mono ?_
 rintro e w1 (⟨i,l,g2,R2,q2,s2,rfl,hf,hh,hv,hg⟩|⟨R2,q2,s2,rfl,hn,hv,hg⟩)<;>unfold cV
 · have HFD:=hid hf
   have HHW:=hid hh;have HX1:=hid ((HX0.out.Zf9 hv hg).new #[iV (adr i:Int),iV l,.int .u64 0,iV 0] 71 (by unfold Zc7;decide));clear hf hh hv hg HX0 HF k0 k1 k2 k3 k4;go_upto_region 6 with fail;change Code.wp _ _ _ _ (w1.alloc (.cells #[iV (adr i:Int),iV l,.int .u64 0,iV 0] 71));obtain⟨x2,hx⟩:=eX (w1.alloc (.cells #[iV (adr i:Int),iV l,.int .u64 0,iV 0] 71));obtain⟨D,hD⟩:=eX w1.heap.size;rw[hx,hD]at HX1;rw[hx,hD];clear hx hD;have z2:=HX1.out.fr.Za5 2;have d2:=HX1.out.fr.cell0 2 rfl
   go_upto_region 9 with fail;change Code.wp _ _ _ _ (stR x2 D [.int .u64 (u:Int)] 2);have hx3:WkS Q B A n va s2 w [ckB D (adr i:Int) (l:Int) (u:Int) 0,ckB O 0 0 0 0] (stR x2 D [.int .u64 (u:Int)] 2):=HX1.out.st0 [.int .u64 (u:Int)] 2;obtain⟨x3,hx⟩:=eX (stR x2 D [.int .u64 (u:Int)] 2);rw[hx]at hx3⊢;have HX3:=hid hx3;clear hx hx3 z2 d2 HX1;have HW:=hid fun X (hX:On A s2 X)=>Yfk hX HFD.out.rc HFD.out.tk HU.out
   go_region_held3 (fun X=>X.cell? (aD Q 0)=some (Zcv B)/\X.cell? (aD B 0)=some (pT A)/\X.cell? (aD D 0)=some (iV (adr i:Int))/\X.cell? (aD D 1)=some (iV l)/\X.cell? (aD D 2)=some (.int .u64 (u:Int))/\X.cell? (aD D 3)=some (iV 0))
    (first|(have q:=HX3.out.below (Below.refl _ _).drew;exact⟨q.rv.all.1.1,q.rv.all.1.2.2.2.2,q.fr.cell0 0 rfl,q.fr.cell0 1 rfl,q.fr.cell0 2 rfl,q.fr.cell0 3 rfl⟩)|assumption)
    ((go_at_call 90;refine(HW.out _ (HX3.out.below (Below.refl _ _).drew).rv.1.1).mono ?_;rintro e w4 ⟨rfl,ho,hg⟩;have hx4:=(HX3.out.below (Below.refl _ _).drew).Zf9 ((HX3.out.below (Below.refl _ _).drew).rv.Zaq ho hg rfl) hg;have kk:=And.intro hx4.rv.all.1.1 (And.intro hx4.rv.all.1.2.2.2.2 (And.intro (hx4.fr.cell0 0 rfl) (And.intro (hx4.fr.cell0 1 rfl) (And.intro (hx4.fr.cell0 2 rfl) (hx4.fr.cell0 3 rfl)))))))
   have HX4:=hid hx4;clear hx4 ho hg kk HX3 HW;have d0:=HX4.out.fr.cell0 0 rfl;have d1:=HX4.out.fr.cell0 1 rfl;have d2:=HX4.out.fr.cell0 2 rfl;have d3:=HX4.out.fr.cell0 3 rfl
   have z0:=HX4.out.fr.Zda 0;have o0:=HX4.out.fr.Zak 0 rfl
   have z1:=HX4.out.fr.Zda 1;have o1:=HX4.out.fr.Zak 1 rfl
   have z2:=HX4.out.fr.Zda 2;have o2:=HX4.out.fr.Zak 2 rfl
   have z3:=HX4.out.fr.Zda 3;have o3:=HX4.out.fr.Zak 3 rfl
   go_wp2_with fail;have hx5:WkS Q B A n va (Zyd s2 i l u) w [ckB O (adr i:Int) (l:Int) (u:Int) 0] (stR w4 O [iV (adr i:Int),iV l,.int .u64 (u:Int),iV 0] 0):=(show WkS Q B A n va (Zyd s2 i l u) w [ckB O 0 0 0 0] _ from⟨HX4.out.rv,HX4.out.fr.Zia⟩).st0 [iV (adr i:Int),iV l,.int .u64 (u:Int),iV 0] 0;have HX5:=hid hx5;clear hx5;change bodyPost _ _ _ _ _ (stR w4 O [iV (adr i:Int),iV l,.int .u64 (u:Int),iV 0] 0);have y0:=HX5.out.fr.cell0 0 rfl;have y1:=HX5.out.fr.cell0 1 rfl;have y2:=HX5.out.fr.cell0 2 rfl;have y3:=HX5.out.fr.cell0 3 rfl
   have HPO:=hid ((.inl ⟨i,l,g2,R2,q2,s2,rfl,HFD.out,HHW.out,HX5.out.rv,HX5.out.fr.wt⟩:Yes Q B A n va g K k u R q s w (.returned (.tuple #[cV (adr i:Int) (l:Int) (u:Int) 0,iV 0])) _));obtain⟨z,hz⟩:=eX (stR w4 O [iV (adr i:Int),iV l,.int .u64 (u:Int),iV 0] 0);rw[hz]at HPO y0 y1 y2 y3⊢;exact bodyPost_ret (v:=.tuple #[cV (adr i:Int) (l:Int) (u:Int) 0,iV 0]) (by simp[results,Tryz.results27,go_sem,cV,y0,y1,y2,y3]) rfl HPO.out
 · have HNF:=hid hn
   have HX1:=hid ((HX0.out.Zf9 hv hg).new zCk 71 (by unfold Zc7;decide));clear hn hv hg HX0 HF k0 k1 k2 k3 k4;go_upto_region 6 with fail;change Code.wp _ _ _ _ (w1.alloc (.cells zCk 71));obtain⟨x2,hx⟩:=eX (w1.alloc (.cells zCk 71));obtain⟨D,hD⟩:=eX w1.heap.size;rw[hx,hD]at HX1;rw[hx,hD];clear hx hD;have HX2:=hid (show WkS Q B A n va s2 w [ckB O 0 0 0 0] x2 from⟨HX1.out.rv,HX1.out.fr.Zia⟩);clear HX1;have z0:=HX2.out.fr.Za5 0;have o0:=HX2.out.fr.cell0 0 rfl
   have z1:=HX2.out.fr.Za5 1;have o1:=HX2.out.fr.cell0 1 rfl
   have z2:=HX2.out.fr.Za5 2;have o2:=HX2.out.fr.cell0 2 rfl
   have z3:=HX2.out.fr.Za5 3;have o3:=HX2.out.fr.cell0 3 rfl
   go_wp2_with fail;have HX5:=hid (show WkS Q B A n va s2 w [ckB O 0 0 0 0] (stR x2 O [iV 0,iV 0,.int .u64 0,iV 0] 0)from HX2.out.st0 [iV 0,iV 0,.int .u64 0,iV 0] 0);change bodyPost _ _ _ _ _ (stR x2 O [iV 0,iV 0,.int .u64 0,iV 0] 0);have y0:=HX5.out.fr.cell0 0 rfl;have y1:=HX5.out.fr.cell0 1 rfl;have y2:=HX5.out.fr.cell0 2 rfl;have y3:=HX5.out.fr.cell0 3 rfl
   have HPO:=hid ((.inr ⟨R2,q2,s2,rfl,HNF.out,HX5.out.rv,HX5.out.fr.wt⟩:Yes Q B A n va g K k u R q s w (.returned (.tuple #[cV 0 0 0 0,iV 4])) _));obtain⟨z,hz⟩:=eX (stR x2 O [iV 0,iV 0,.int .u64 0,iV 0] 0);rw[hz]at HPO y0 y1 y2 y3⊢;exact bodyPost_ret (v:=.tuple #[cV 0 0 0 0,iV 4]) (by simp[results,Tryz.results27,go_sem,cV,y0,y1,y2,y3]) rfl HPO.out
end
end
section
open Go Go.RowKit Go.Shelf
def Yj2 (m:Nat->UInt8) (va i k:Nat) (x:Int):Nat->UInt8:=Zfj (wrM m (adr i) (adr i:Int) (k:Int) 0 x) va k (1+i)
def Ygx (s:ASt) (va i k:Nat) (x:Int):ASt:={s with mm:=Yj2 s.mm va i k x}
section
variable {Q B A n va g K:Nat} {s s':ASt} {w x y:World} {R:Zag} {q:Nat->List Nat} {L:List Blk}
theorem Rcy.cache (h:Rcy n g R va q K s) {i k:Nat} {nx:Int} (f:R i=some (k,true)) (hk:k<5) (ho:Zme va i k) (hq:¬InQ q (1+i)) (hx:0<=nx) (hx2:nx<=9223372036854775807):
 Rcy n g R va q K {s with mm:=wrM s.mm (adr i) (adr i:Int) (k:Int) 0 nx}/\Zj6 s.L s.es (wrM s.mm (adr i) (adr i:Int) (k:Int) 0 nx) (1+i) k/\Rcy n g R va (Zde q k ((1+i)::q k)) K (Ygx s va i k nx):=by
 have a:=h.bu.addr f;have p0:=Zae k;have r1:=h.write f ho hq (m:=wrM s.mm (adr i) (adr i:Int) (k:Int) 0 nx) fun b hb=>Zdx _ _ _ _ _ _ _ (by unfold adr at*;omega)
 have c1:Zj6 s.L s.es (wrM s.mm (adr i) (adr i:Int) (k:Int) 0 nx) (1+i) k:=by
  rw[Za2]
  exact(Zt0 s.mm hk hx hx2 (h.bu.there (by omega) (by omega) (by omega))).1
 exact⟨r1,c1,r1.push f hk ho hq c1⟩
def Yj9 (Q B A n va K i k:Nat) (nx:Int) (q:Nat->List Nat) (s:ASt) (w:World) (e:Ending) (w':World):Prop:=
 ((4<k\/K<Zci q 5+2^k)/\e=.returned (.bool false)/\RcV Q B A n va s w'/\Zam A w w')\/
 ((k<=4/\Zci q 5+2^k<=K)/\e=.returned (.bool true)/\RcV Q B A n va (Ygx s va i k nx) w'/\Zam A w w')
theorem Ygv (h:Rcy n g R va q K s):Zci q 5<=2511:=by
 have h0:=h.len (j:=0) (by omega);have h1:=h.len (j:=1) (by omega);have h2:=h.len (j:=2) (by omega);have h3:=h.len (j:=3) (by omega);have h4:=h.len (j:=4) (by omega)
 simp only[Zci];omega
def CaR (Q B A n va:Nat) (s:ASt) (w:World) (L:List Blk) (b:Bool) (s18:Value) (wx:World):Prop:=s18=.bool b/\WkS Q B A n va s w L wx
theorem Yft (h:RcV Q B A n va s w) (hR:Rcy n g R va q K s) {i k:Nat} {u:Nat} {nx:Int} (f:R i=some (k,true)) (ho:Zme va i k) (hq:¬InQ q (1+i)) (hx:0<=nx) (hx2:nx<=9223372036854775807):
 Calls Tryz.prog 91 #[rcP Q,cV (adr i:Int) (k:Int) (u:Int) nx] w (Yj9 Q B A n va K i k nx q s w):=by
 have HF:=hid f;have HO:=hid ho;have HQ:=hid hq;have HNX:=hid (And.intro hx hx2)
 have HRR:=hid hR;have hcb:=Ygv hR;have hkb:=hR.kb;have hk10:=(hR.bu.addr f).1;have HX0:=hid ((WkS.start h).new #[iV (adr i:Int),iV k,.int .u64 (u:Int),iV nx] 71 (by unfold Zc7;decide));have HC:=hid fun X (hX:RcV Q B A n va s X)=>Zo0 hX hR
 have HK:=hid fun X (hX:RcV Q B A n va s X)=>Ybm hX hR
 clear h hR f ho hq hx hx2;unfold cV;go_enter Tryz.func91,Tryz.ntmps91;go_upto_region 1 with fail;change Code.wp _ _ _ _ (w.alloc (.cells #[iV (adr i:Int),iV k,.int .u64 (u:Int),iV nx] 71));obtain⟨x,hx⟩:=eX (w.alloc (.cells #[iV (adr i:Int),iV k,.int .u64 (u:Int),iV nx] 71));obtain⟨D,hD⟩:=eX w.heap.size;rw[hx,hD]at HX0;rw[hx,hD];clear hx hD;have d1:=HX0.out.fr.cell0 1 rfl;by_cases hk4:k<=4
 · have k4:¬4<(k:Int):=by omega
   obtain⟨P,hP⟩:=eX (2^k);have hPb:P<=1024:=by rw[<-hP];exact Nat.le_trans (Nat.pow_le_pow_right (by decide) hk10) (by decide)
   have hN:=(Zli k (by omega)).1;rw[hP]at hN;have hs:IntKind.i64.wrap (((Zci q 5:Nat):Int)+(P:Int))=((Zci q 5+P:Nat):Int):=by rw[IntKind.wrap_i64];omega
   obtain⟨b,hb⟩:=eX (decide (K<Zci q 5+P));have hb2:decide ((K:Int)<((Zci q 5:Nat):Int)+(P:Int))=b:=by rw[<-hb];exact decide_eq_decide.2 (by omega)
   go_cut[18] (fun s18 wx=>CaR Q B A n va s w [ckB D (adr i:Int) (k:Int) (u:Int) nx] b s18 wx)
   case first=>
    as_aux_lemma=>
    go_region_held3 (fun X=>X.cell? (aD D 1)=some (iV k))
     (first|exact d1|(exact(HX0.out.below (Below.refl _ _).drew).fr.cell0 1 rfl)|assumption)
     (first|(go_at_call 22
             first|refine(HC.out _ hxk.rv).mono ?_|refine(HC.out _ (HX0.out.below (Below.refl _ _).drew).rv).mono ?_
             rintro e w' ⟨rfl,hb⟩;have hxc:WkS Q B A n va s w [ckB D (adr i:Int) (k:Int) (u:Int) nx] w':=by first|exact hxk.below hb|exact(HX0.out.below (Below.refl _ _).drew).below hb
             have kc:=hxc.fr.cell0 1 rfl)
           |(go_at_call 29
             first|refine(HK.out _ hxc.rv).mono ?_|refine(HK.out _ (HX0.out.below (Below.refl _ _).drew).rv).mono ?_
             rintro e w' ⟨rfl,hb⟩;have hxk:WkS Q B A n va s w [ckB D (adr i:Int) (k:Int) (u:Int) nx] w':=by first|exact hxc.below hb|exact(HX0.out.below (Below.refl _ _).drew).below hb
             have kk:=hxk.fr.cell0 1 rfl))
    all_goals
     have hxf:WkS Q B A n va s w [ckB D (adr i:Int) (k:Int) (u:Int) nx] w':=by first|exact hxk|exact hxc
     have HXF:=hid hxf;clear hxf hxk hxc kk kc HC HK HX0;go_wp2_with fail
     go_meet
     exact⟨rfl,HXF.out⟩
   case rest=>
    clear HC HK hs hN k4 d1 hb2;obtain⟨rfl,hx1⟩:=hcut;have HX1:=hid hx1;clear hx1 HX0;cases b with
    |true=>
     have HKB:=hid (of_decide_eq_true hb);clear hb;go_wp2_with fail
     go_ret
     exact .inl ⟨.inr (by rw[hP];exact HKB.out),rfl,HX1.out.rv,HX1.out.fr.wt⟩
    |false=>
     have HKB:=hid (of_decide_eq_false hb);have HC3:=hid (HRR.out.cache HF.out (show k<5 by omega) HO.out HQ.out HNX.out.1 HNX.out.2);have HW:=hid fun X (hX:On A s X)=>(Zic hX (adr i:Int) (k:Int) 0 nx (by have:=HRR.out.bu.addr HF.out;have:=HRR.out.bu.gG;have:=HRR.out.bu.c2;unfold adr;omega) (by omega) HNX.out.2 ((Zdt _ _ _).2 ⟨by omega,by unfold adr;omega,by omega,HNX.out.1⟩) (HRR.out.bu.there (by omega) (by omega) (by have:=HRR.out.bu.addr HF.out;have:=Zae k;unfold adr;omega)))
     have HPU:=hid fun X (hX:On A {s with mm:=wrM s.mm (adr i) (adr i:Int) (k:Int) 0 nx} X)=>Zrp hX va 64 (1+i) k (by have:=HRR.out.Ybh;omega) (by omega) (by omega) (by omega) HC3.out.1.bn.view HC3.out.2.1 (by rw[HC3.out.1.bn.many k (by omega)];have:=HC3.out.1.len (j:=k) (by omega);omega) (by have:=HRR.out.bu.addr HF.out;have:=HRR.out.bu.gG;have:=HRR.out.bu.c2;have:=Zae k;omega)
     rw[Int.toNat_natCast]at HW;have ea:((4096*(1+i):Nat):Int)=(adr i:Int):=by rw[Za2]
     rw[ea]at HPU;have HBB:=hid fun X (hX:RcV Q B A n va {s with mm:=wrM s.mm (adr i) (adr i:Int) (k:Int) 0 nx} X)=>Zvc hX
     unfold cV at HW;have z2:=HX1.out.fr.Za5 2;have d2:=HX1.out.fr.cell0 2 rfl
     clear hb ea;go_upto_region 4 with fail;change Code.wp _ _ _ _ (stR wc D [.int .u64 0] 2);have hx3:WkS Q B A n va s w [ckB D (adr i:Int) (k:Int) 0 nx] (stR wc D [.int .u64 0] 2):=HX1.out.st0 [.int .u64 0] 2;obtain⟨x3,hx⟩:=eX (stR wc D [.int .u64 0] 2);rw[hx]at hx3⊢;have HX3:=hid hx3;clear hx hx3 z2 d2 HX1
     go_region_held3 (fun X=>X.cell? (aD Q 0)=some (Zcv B)/\X.cell? (aD B 0)=some (pT A)/\X.cell? (aD D 0)=some (iV (adr i:Int))/\X.cell? (aD D 1)=some (iV k)/\X.cell? (aD D 2)=some (.int .u64 0)/\X.cell? (aD D 3)=some (iV nx))
      (first|(have q:=HX3.out.below (Below.refl _ _).drew;exact⟨q.rv.all.1.1,q.rv.all.1.2.2.2.2,q.fr.cell0 0 rfl,q.fr.cell0 1 rfl,q.fr.cell0 2 rfl,q.fr.cell0 3 rfl⟩)|assumption)
      (first|(go_at_call 90
              refine(HW.out _ (HX3.out.below (Below.refl _ _).drew).rv.1.1).mono ?_
              rintro e w4 ⟨rfl,ho,hg⟩;have hx4:=(HX3.out.below (Below.refl _ _).drew).Zf9 ((HX3.out.below (Below.refl _ _).drew).rv.Zaq ho hg rfl) hg;have kk:=And.intro hx4.rv.all.1.1 (And.intro hx4.rv.all.1.2.2.2.2 (And.intro (hx4.fr.cell0 0 rfl) (And.intro (hx4.fr.cell0 1 rfl) (And.intro (hx4.fr.cell0 2 rfl) (hx4.fr.cell0 3 rfl))))))
            |(go_at_call 31
              refine(HBB.out _ hx4.rv).mono ?_
              rintro e w5 ⟨rfl,hb⟩;have hx5:=hx4.below hb;have kk5:=And.intro hx5.rv.all.1.1 (And.intro hx5.rv.all.1.2.2.2.2 (And.intro (hx5.fr.cell0 0 rfl) (And.intro (hx5.fr.cell0 1 rfl) (And.intro (hx5.fr.cell0 2 rfl) (hx5.fr.cell0 3 rfl))))))
            |(go_at_call 159
              refine(HPU.out _ hx5.rv.1.1).mono ?_
              rintro e w6 ⟨rfl,ho6,hg6⟩;have hx6:=hx5.Zf9 (hx5.rv.Zaq ho6 hg6 rfl) hg6;have kk6:=And.intro hx6.rv.all.1.1 (And.intro hx6.rv.all.1.2.2.2.2 (And.intro (hx6.fr.cell0 0 rfl) (And.intro (hx6.fr.cell0 1 rfl) (And.intro (hx6.fr.cell0 2 rfl) (hx6.fr.cell0 3 rfl)))))))
     have HX6:=hid hx6;clear hx6 hx5 hx4 kk kk5 kk6 ho hg hb ho6 hg6 HX3;go_wp2_with fail
     go_ret
     exact .inr ⟨⟨hk4,by rw[hP];have:=HKB.out;omega⟩,rfl,HX6.out.rv,HX6.out.fr.wt⟩
 · have k4:4<(k:Int):=by omega
   have k5:4<k:=by omega
   have k6:decide (4<(k:Int))=true:=decide_eq_true k4;clear hk4;refine wp_region_held_drew (S:=fun X:World=>X.cell? (aD D 1)=some (iV k)) (by kernel_rfl) ((HX0.out.below (Below.refl x.heap.size x).drew).fr.cell0 1 rfl) (fun hHeld=>?_);have HX1:=hid (HX0.out.below (Below.refl x.heap.size x).drew);clear HX0 d1;generalize x.drew=x1 at*
   refine tk 0 (.pointer (some (aD D 1))) rfl hHeld (fun X hS=>by have s0:=hS;go_simp) ?_;refine tk 1 (iV k) rfl hHeld (fun X hS=>by have s0:=hS;go_simp) ?_;refine tk 2 (.bool true) rfl hHeld (fun X hS=>by have s0:=hS;go_simp) ?_;refine tk 3 (.bool true) rfl hHeld (fun X hS=>by have s0:=hS;go_simp) ?_;refine tu 4 rfl hHeld ?_;refine tu 5 rfl hHeld ?_;refine tu 6 rfl hHeld ?_;refine tu 7 rfl hHeld ?_;refine tu 8 rfl hHeld ?_;refine tu 9 rfl hHeld ?_;refine tu 10 rfl hHeld ?_;refine tu 11 rfl hHeld ?_;refine tu 12 rfl hHeld ?_;refine tk 13 (.bool true) rfl hHeld (fun X hS=>by have s0:=hS;go_simp) ?_;refine wpAnyH_done (by kernel_rfl) ?_ _;clear hHeld;go_wp2_with fail
   go_ret
   exact .inl ⟨.inl (by omega),rfl,HX1.out.rv,HX1.out.fr.wt⟩
end
end
end Go.Proofs.YtgcidfenjlmljaaGreat.Bt
