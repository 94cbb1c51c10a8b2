import Derived.Test.YtgcidfenjlmljaaGreatPm48
import Derived.Test.YtgcidfenjlmljaaGreatPmR
set_option linter.unusedVariables false
set_option linter.unusedSimpArgs false
set_option maxRecDepth 100000
set_option maxHeartbeats 16000000
namespace Go.Proofs.YtgcidfenjlmljaaGreat.Bt
section
open Go Go.RowKit Go.Shelf
section
variable {Q B A n g K:Nat} {R:Zag} {q:Nat->List Nat} {hs:List Hd} {s:ASt} {v:Value} {w y:World}
theorem DWo.Yjw {A:Nat} {n g r K:Int} {L:List (Nat × Nat × Bool)} {q:Nat->List Nat} {hs:List Hd} {Ds:List Nat} {w:World} {U:Value} {P:Nat->Option Addr} {nn C:Nat->Nat} {O:Value} (h:DWo A n g r K L q hs (rqV n g r K U P nn C O) Ds w) (r':Int):DWo A n g r' K L q hs (rqV n g r' K U P nn C O) Ds w:=by
 obtain⟨u',c',P',nn',C',op',on',oc',h1,h2⟩:=h
 refine⟨u',c',P',nn',C',op',on',oc',?_,h2⟩
 simp only[rqV,rqA,Value.agg.injEq,Array.mk.injEq,List.cons.injEq]at h1⊢
 simpa using h1
theorem Ydn (hrv:RcV Q B A n 4096 s w) (hpy:PyS n g K R q hs s) {Ds:List Nat} (hDz:∀z∈Ds,z<w.heap.size) (hdw:DWo A (n:Int) (g:Int) (rfI s) (K:Int) (tkT R g) q hs v Ds w) (d k m:Int) (d0:0<=d) (d1:d<=255) (k0: -9223372036854775808<=k) (k1:k<=9223372036854775807) (m0: -9223372036854775808<=m) (m1:m<=9223372036854775807) (e8:200<=d):
 Calls Tryz.prog 19 #[rcP Q,v,.agg #[.int .u8 d,iV k,iV m]] w (Zom Q B A n Ds w):=by
 have HPY:=hid hpy
 have HRV:=hid hrv
 have HDZ:=hid hDz
 have hw0:=hdw
 have hX0:=WkS.start hrv
 have HO:=hid hrv.1.1
 have HRL:=hid (Zi9 hrv.1.1)
 obtain⟨u,c,P,nn,C,op,on,oc,rfl,HI0, -⟩:=hdw
 obtain⟨ln,ht⟩:=eX ((tkT R g).length)
 obtain⟨ri,hri⟩:=eX (rfI s)
 have hX1:=((hX0.new (rqA (n:Int) (g:Int) ri (K:Int) (.slice u ln c) P nn C (.slice op on oc)) 33 Za3).new #[.int .u8 d,iV k,iV m] 44 Zez).new rqZ 33 Za3
 have HI:=hid (And.intro HI0.ho (And.intro HI0.hn HI0.hl))
 rw[ht,hri]at hw0
 rw[ht,hri]
 have HRI:=hid hri
 clear ht hri hrv hpy hDz hX0 HI0
 have HMM:=hid (show -9223372036854775808<=m/\m<=9223372036854775807 from⟨m0,m1⟩)
 have HKK:=hid (show -9223372036854775808<=k/\k<=9223372036854775807 from⟨k0,k1⟩)
 go_enter Tryz.func19,Tryz.ntmps19
 go_upto_region 1 with fail
 change Code.wp _ _ _ _ (((w.alloc (.cells (rqA (n:Int) (g:Int) ri (K:Int) (.slice u ln c) P nn C (.slice op on oc)) 33)).alloc (.cells #[.int .u8 d,iV k,iV m] 44)).alloc (.cells rqZ 33))
 have hE1:(w.alloc (.cells (rqA (n:Int) (g:Int) ri (K:Int) (.slice u ln c) P nn C (.slice op on oc)) 33)).heap.size=w.heap.size+1:=by simp
 have hF1:((w.alloc (.cells (rqA (n:Int) (g:Int) ri (K:Int) (.slice u ln c) P nn C (.slice op on oc)) 33)).alloc (.cells #[.int .u8 d,iV k,iV m] 44)).heap.size=w.heap.size+1+1:=by simp
 obtain⟨x,hx⟩:=eX ((((w.alloc (.cells (rqA (n:Int) (g:Int) ri (K:Int) (.slice u ln c) P nn C (.slice op on oc)) 33)).alloc (.cells #[.int .u8 d,iV k,iV m] 44)).alloc (.cells rqZ 33)))
 rw[hx,hE1,hF1]at hX1
 obtain⟨F,hF⟩:=eX (w.heap.size+1+1)
 obtain⟨E,hE⟩:=eX (w.heap.size+1)
 obtain⟨D,hD⟩:=eX w.heap.size
 have hDF:∀z∈[D,F],w.heap.size<=z:=fun z hz=>by simp at hz;omega
 rw[hF,hE,hD]at hX1
 rw[hx]
 try rw[hF]
 try rw[hE]
 try rw[hD]
 have HX:=hid hX1
 have HDO:=hid ((hw0.more hDF).Zaq HO.out hX1.fr.wt)
 have HIX:=hid (HI.out.1.Zaq HO.out hX1.fr.wt)
 clear hx hE1 hF1 hE hD hF hX1 hw0 hDF HO
 obtain⟨⟨p0,p1,p2,p3,p4⟩, -⟩:=HX.out.rv.all
 have a0:x.cell? (aD E 0)=some (.int .u8 d):=HX.out.fr.Zak 0 rfl
 have a1:x.cell? (aD E 1)=some (iV k):=HX.out.fr.Zak 1 rfl
 have a2:x.cell? (aD E 2)=some (iV m):=HX.out.fr.Zak 2 rfl
 have HRF:=hid fun X (hX:On A s X)=>Zsk hX m HMM.out.2
 obtain⟨mq,hmq⟩:=eX (m.toNat:Nat)
 have hq1:(if m<0 then 0 else m)=(mq:Int):=by split<;>omega
 have hq2:(if 0<m then m else 0)=(mq:Int):=by split<;>omega
 have hq3:max m 0=(mq:Int):=by omega
 rw[hmq]at HRF
 clear hmq
 go_upto_region 2 with fail
 go_region_held3 (fun X=>X.cell? (aD Q 0)=some (Zcv B)/\X.cell? (aD B 0)=some (pT A)/\X.cell? (aD E 2)=some (iV m))
  (first|(have q:=HX.out.below (Below.refl _ _).drew;exact⟨q.rv.all.1.1,q.rv.all.1.2.2.2.2,q.fr.Zak 2 rfl⟩)|assumption)
  ((go_at_call 26;refine(HRF.out _ (HX.out.below (Below.refl _ _).drew).rv.1.1).mono ?_;rintro e w2 ⟨rfl,ho,hg⟩;have hx2:=(HX.out.below (Below.refl _ _).drew).Zf9 ((HX.out.below (Below.refl _ _).drew).rv.Zaq ho hg rfl) hg;have hd2:=HDO.out.Zaq HX.out.rv.1.1 ((Zam.Zad HX.out.rv.1.1 (Below.refl _ _).drew).trans hg);have kk:=And.intro hx2.rv.all.1.1 (And.intro hx2.rv.all.1.2.2.2.2 (hx2.fr.Zak 2 rfl))))
 have HX2:=hid hx2
 have HD2:=hid (hd2.Yjw (mq:Int))
 have HP2:=hid (HPY.out.refuse true mq)
 have HRR:Hid (rfI {s with rf:=true,lf:=mq}=(mq:Int)):=hid rfl
 clear hx2 hd2 ho hg kk HX HDO HRF p0 p1 p2 p3 p4 a0 a1 a2
 have cQ:=Zaf HX2.out.fr.at2
 have yQ:=Zap HX2.out.fr.at2
 have a2:=HX2.out.fr.Zak 2 rfl
 have hx3:WkS Q B A n 4096 {s with rf:=true,lf:=mq} w [⟨F,rqZ,33⟩,⟨E,#[.int .u8 d,iV k,iV m],44⟩,⟨D,rqA (n:Int) (g:Int) (mq:Int) (K:Int) (.slice u ln c) P nn C (.slice op on oc),33⟩] (stR w2 D [iV mq] 3):=HX2.out.st2 [iV mq] 3
 have hd3:=HD2.out.stR HX2.out.rv.1.1 HX2.out.fr.at2 (by decide) cQ.2.2.1 HX2.out.fr.Yij (by simp) [iV mq] 3
 have HX3:=hid hx3
 have HD3:=hid hd3
 clear hx3 hd3
 go_upto_region 4 with fail
 change Code.wp _ _ _ _ (stR w2 D [iV mq] 3)
 obtain⟨w3,hw3⟩:=eX (stR w2 D [iV mq] 3)
 rw[hw3]at HX3 HD3⊢
 clear hw3 HX2 HD2 cQ yQ a2
 have cQ:=Zaf HX3.out.fr.at2
 have zQ:=Zap HX3.out.fr.at0
 have oQ:=Zbl HX3.out.fr.at0
 have HXF:=hid (HX3.out.Zd9 (rqL (n:Int) (g:Int) (mq:Int) (K:Int) (.slice u ln c) P nn C (.slice op on oc)) rfl)
 have HDF:=hid (HD3.out.stR HX3.out.rv.1.1 HX3.out.fr.at0 (by decide) oQ.2.2.1 HX3.out.fr.Zji (by simp) (rqL (n:Int) (g:Int) (mq:Int) (K:Int) (.slice u ln c) P nn C (.slice op on oc)) 0)
 go_wp2_with fail
 change bodyPost _ _ _ _ _ (stR w3 F (rqL (n:Int) (g:Int) (mq:Int) (K:Int) (.slice u ln c) P nn C (.slice op on oc)) 0)
 have yQ:=Zaf HXF.out.fr.at0
 have HPO:=hid ((⟨g,K,R,q,hs,{s with rf:=true,lf:=mq},_,rfl,HXF.out.rv,HP2.out,by rw[HRR.out];exact HDF.out.sub (fun z hz=>List.mem_append_right _ hz),HXF.out.fr.wt⟩:Zom Q B A n Ds w (.returned (.tuple #[.agg (rqA (n:Int) (g:Int) (mq:Int) (K:Int) (.slice u ln c) P nn C (.slice op on oc)),.bool true])) (stR w3 F (rqL (n:Int) (g:Int) (mq:Int) (K:Int) (.slice u ln c) P nn C (.slice op on oc)) 0)))
 obtain⟨z,hz⟩:=eX (stR w3 F (rqL (n:Int) (g:Int) (mq:Int) (K:Int) (.slice u ln c) P nn C (.slice op on oc)) 0)
 rw[hz]at HPO yQ⊢
 exact bodyPost_ret (v:=.tuple #[.agg (rqA (n:Int) (g:Int) (mq:Int) (K:Int) (.slice u ln c) P nn C (.slice op on oc)),.bool true]) (by simp[results,Tryz.results19,go_sem,yQ]) rfl HPO.out
end
end
section
open Go Go.RowKit Go.Shelf
section
variable {Q B A n g K:Nat} {R:Zag} {q:Nat->List Nat} {hs:List Hd} {s:ASt} {v:Value} {w y:World}
theorem Zvo {n g K:Nat} {R:Zag} {q:Nat->List Nat} {hs:List Hd} {s:ASt} (h:PyS n g K R q hs s) (m:Int): -9223372036854775808<=Zzj hs m/\Zzj hs m<=9223372036854775807:=by
 unfold Zzj
 by_cases hz:hs=[]
 · rw[if_pos hz];omega
 · rw[if_neg hz]
   have hl:0<hs.length:=List.length_pos_iff.2 hz
   have hj:m.toNat%hs.length<hs.length:=Nat.mod_lt _ hl
   have hm:hs.getD (m.toNat%hs.length) hdZ∈hs:=by rw[List.getD_eq_getElem?_getD,List.getElem?_eq_getElem hj];exact List.getElem_mem _
   obtain⟨i,k,u,e,_,f,_⟩:=h.ow _ hm
   rw[e]
   have:=h.rc.bu.addr f
   have h1:=h.rc.bu.c2;have h2:=h.rc.bu.gG
   show -9223372036854775808<=(adr i:Int)/\(adr i:Int)<=9223372036854775807
   unfold adr
   omega
theorem Ydo (hrv:RcV Q B A n 4096 s w) (hpy:PyS n g K R q hs s) {Ds:List Nat} (hDz:∀z∈Ds,z<w.heap.size) (hdw:DWo A (n:Int) (g:Int) (rfI s) (K:Int) (tkT R g) q hs v Ds w) (d k m:Int) (d0:0<=d) (d1:d<=255) (k0: -9223372036854775808<=k) (k1:k<=9223372036854775807) (m0: -9223372036854775808<=m) (m1:m<=9223372036854775807) (e8:¬200<=d/\(d%8=3\/d%8=4)):
 Calls Tryz.prog 19 #[rcP Q,v,.agg #[.int .u8 d,iV k,iV m]] w (Zom Q B A n Ds w):=by
 have HPY:=hid hpy
 have HRV:=hid hrv
 have HDZ:=hid hDz
 have hw0:=hdw
 have hX0:=WkS.start hrv
 have HO:=hid hrv.1.1
 have HRL:=hid (Zi9 hrv.1.1)
 obtain⟨u,c,P,nn,C,op,on,oc,rfl,HI0, -⟩:=hdw
 obtain⟨ln,ht⟩:=eX ((tkT R g).length)
 obtain⟨ri,hri⟩:=eX (rfI s)
 have hX1:=((hX0.new (rqA (n:Int) (g:Int) ri (K:Int) (.slice u ln c) P nn C (.slice op on oc)) 33 Za3).new #[.int .u8 d,iV k,iV m] 44 Zez).new rqZ 33 Za3
 have HI:=hid (And.intro HI0.ho (And.intro HI0.hn HI0.hl))
 rw[ht,hri]at hw0
 rw[ht,hri]
 have HRI:=hid hri
 clear ht hri hrv hpy hDz hX0 HI0
 have HMM:=hid (show -9223372036854775808<=m/\m<=9223372036854775807 from⟨m0,m1⟩)
 have HKK:=hid (show -9223372036854775808<=k/\k<=9223372036854775807 from⟨k0,k1⟩)
 go_enter Tryz.func19,Tryz.ntmps19
 go_upto_region 1 with fail
 change Code.wp _ _ _ _ (((w.alloc (.cells (rqA (n:Int) (g:Int) ri (K:Int) (.slice u ln c) P nn C (.slice op on oc)) 33)).alloc (.cells #[.int .u8 d,iV k,iV m] 44)).alloc (.cells rqZ 33))
 have hE1:(w.alloc (.cells (rqA (n:Int) (g:Int) ri (K:Int) (.slice u ln c) P nn C (.slice op on oc)) 33)).heap.size=w.heap.size+1:=by simp
 have hF1:((w.alloc (.cells (rqA (n:Int) (g:Int) ri (K:Int) (.slice u ln c) P nn C (.slice op on oc)) 33)).alloc (.cells #[.int .u8 d,iV k,iV m] 44)).heap.size=w.heap.size+1+1:=by simp
 obtain⟨x,hx⟩:=eX ((((w.alloc (.cells (rqA (n:Int) (g:Int) ri (K:Int) (.slice u ln c) P nn C (.slice op on oc)) 33)).alloc (.cells #[.int .u8 d,iV k,iV m] 44)).alloc (.cells rqZ 33)))
 rw[hx,hE1,hF1]at hX1
 obtain⟨F,hF⟩:=eX (w.heap.size+1+1)
 obtain⟨E,hE⟩:=eX (w.heap.size+1)
 obtain⟨D,hD⟩:=eX w.heap.size
 have hDF:∀z∈[D,F],w.heap.size<=z:=fun z hz=>by simp at hz;omega
 rw[hF,hE,hD]at hX1
 rw[hx]
 try rw[hF]
 try rw[hE]
 try rw[hD]
 have HX:=hid hX1
 have HDO:=hid ((hw0.more hDF).Zaq HO.out hX1.fr.wt)
 have HIX:=hid (HI.out.1.Zaq HO.out hX1.fr.wt)
 clear hx hE1 hF1 hE hD hF hX1 hw0 hDF HO
 obtain⟨⟨p0,p1,p2,p3,p4⟩, -⟩:=HX.out.rv.all
 have a0:x.cell? (aD E 0)=some (.int .u8 d):=HX.out.fr.Zak 0 rfl
 have a1:x.cell? (aD E 1)=some (iV k):=HX.out.fr.Zak 1 rfl
 have a2:x.cell? (aD E 2)=some (iV m):=HX.out.fr.Zak 2 rfl
 have c200:¬200<=d:=e8.1
 obtain⟨-,e8⟩:=e8
 rcases e8 with e8|e8
 all_goals
  have hDs0:∀z∈[D,F]++Ds,z<x.heap.size:=fun z hz=>by
   have h0:=(Array.getElem?_eq_some_iff.1 HX.out.fr.at0).1;have h1:=(Array.getElem?_eq_some_iff.1 HX.out.fr.at2).1
   rcases List.mem_append.1 hz with hz|hz
   · simp only[List.mem_cons,List.not_mem_nil,or_false]at hz
     rcases hz with rfl|rfl<;>assumption
   · exact Nat.lt_of_lt_of_le (HDZ.out z hz) HX.out.fr.wt.size
  have HDS:=hid hDs0
  have HBO:=hid (Zvo HPY.out m)
  have HLO:=hid fun X (hX:Zof X (.slice op on oc) hs)=>Ygg (w:=X) (u:=u) (L:=List.replicate ln (0,0,false)) (P:=P) (nn:=nn) (C:=C) (n:Int) (g:Int) ri (K:Int) c hX HI.out.2.1 HI.out.2.2 m HMM.out.1 HMM.out.2
  rw[List.length_replicate]at HLO
  have HLG:=hid fun X (hX:RcV Q B A n 4096 s X) hDs (hD:DWo A (n:Int) (g:Int) (rfI s) (K:Int) (tkT R g) q hs (rqV (n:Int) (g:Int) ri (K:Int) (.slice u ln c) P nn C (.slice op on oc)) ([D,F]++Ds) X)=>Ygj (Ds:=[D,F]++Ds) (w:=X) hDs hX HPY.out hD (Zzj hs m) HBO.out.1 HBO.out.2
  rw[HRI.out]at HLG
  obtain⟨oa,hoa⟩:=eX (Zzj hs m)
  rw[hoa]at HLO HLG
  clear hDs0 hoa HBO
  go_upto_region 8 with fail
  refine wp_region_held_drew (S:=fun X:World=>X.heap[D]?=some (.cells (rqA (n:Int) (g:Int) ri (K:Int) (.slice u ln c) P nn C (.slice op on oc)) 33 (0,0))/\X.heap[E]?=some (.cells #[.int .u8 d,iV k,iV m] 44 (0,0))) (by kernel_rfl) ⟨(HX.out.below (Below.refl x.heap.size x).drew).fr.at2,(HX.out.below (Below.refl x.heap.size x).drew).fr.at1⟩ (fun hHeld=>?_)
  have HX1:=hid (HX.out.below (Below.refl x.heap.size x).drew)
  have HD1:=hid (HDO.out.Zaq HX.out.rv.1.1 (Zam.Zad HX.out.rv.1.1 (Below.refl x.heap.size x).drew))
  have HH1:=hid (HIX.out.Zaq HX.out.rv.1.1 (Zam.Zad HX.out.rv.1.1 (Below.refl x.heap.size x).drew))
  have HS1:Hid (x.heap.size=x.drew.heap.size):=hid (by simp)
  rw[HS1.out]at HDS
  clear HX HDO HIX HS1 p0 p1 p2 p3 p4 a0 a1 a2
  generalize x.drew=x1 at*
  refine tk 0 (rcP Q) rfl hHeld (fun X hS=>by have s0:=hS;go_simp) ?_
  refine tk 1 (.agg (rqA (n:Int) (g:Int) ri (K:Int) (.slice u ln c) P nn C (.slice op on oc))) rfl hHeld (fun X hS=>by obtain⟨s0,s1,s2,s3,s4,s5,s6,s7,s8,s9,s10,s11⟩:=Zaf hS.1;go_simp) ?_
  refine tk 2 (.agg (rqA (n:Int) (g:Int) ri (K:Int) (.slice u ln c) P nn C (.slice op on oc))) rfl hHeld (fun X hS=>by obtain⟨s0,s1,s2,s3,s4,s5,s6,s7,s8,s9,s10,s11⟩:=Zaf hS.1;go_simp) ?_
  refine tk 3 (.pointer (some (aD E 2))) rfl hHeld (fun X hS=>by have s0:=hS;go_simp) ?_
  refine tk 4 (iV m) rfl hHeld (fun X hS=>by have e2:=(Zaa hS.2 2).1;go_simp) ?_
  refine rd [5] (AllReadyH.cons rfl (fun K1 hK1=>?_) AllReadyH.nil)
  go_simp
  have HH:=hid hHeld
  clear hHeld
  refine(HLO.out _ HH1.out).mono ?_
  rintro e x2 ⟨rfl,hb⟩
  have HX2:=hid (HX1.out.below hb)
  have HD2:=hid (HD1.out.Zaq HX1.out.rv.1.1 (Zam.Zad HX1.out.rv.1.1 hb))
  have HDS2:=hid (fun z hz=>Nat.lt_of_lt_of_le (HDS.out z hz) hb.size)
  have hrb:=And.intro HX2.out.fr.at2 HX2.out.fr.at1
  clear HH hb HX1 HD1 HH1 HLO HDS
  refine hK1.out _ _ hrb (fun hHeld=>?_)
  clear hK1
  try simp only[Act.put,List.getElem_toArray,List.getElem_cons_zero,List.getElem_cons_succ,List.setIfInBounds_toArray,List.set_cons_zero,List.set_cons_succ]
  clear hrb
  refine rd [6] (AllReadyH.cons rfl (fun K1 hK1=>?_) AllReadyH.nil)
  go_simp
  have HH:=hid hHeld
  clear hHeld
  refine(HLG.out _ HX2.out.rv HDS2.out HD2.out).mono ?_
  rintro e w3 ⟨g2,K2,R',q',hs',s',v',rfl,hv2,hp2,hd3,hg2⟩
  obtain⟨ri2,hr2⟩:=eX (rfI s')
  rw[hr2]at hd3
  have HRR:=hid hr2
  have HX3:=hid (HX2.out.Zf9 hv2 hg2)
  have HP2:=hid hp2
  clear hv2 hg2 hp2 hr2 HX2 HD2 HDS2 HLG HH
  have HD3:=hid hd3
  obtain⟨u2,t2,P2,nn2,C2,op2,on2,oc2,rfl, -⟩:=hd3
  obtain⟨ln2,hln2⟩:=eX ((tkT R' g2).length)
  rw[hln2]at HD3⊢
  clear hln2
  have hrb:=And.intro HX3.out.fr.at2 HX3.out.fr.at1
  refine hK1.out _ _ hrb (fun hHeld=>?_)
  clear hK1
  try simp only[Act.put,List.getElem_toArray,List.getElem_cons_zero,List.getElem_cons_succ,List.setIfInBounds_toArray,List.set_cons_zero,List.set_cons_succ]
  clear hrb
  refine tk 7 (.agg (rqA (n:Int) (g2:Int) ri2 (K2:Int) (.slice u2 ln2 t2) P2 nn2 C2 (.slice op2 on2 oc2))) rfl hHeld (fun X hS=>by have s0:=hS;go_simp) ?_
  refine tk 8 (.bool true) rfl hHeld (fun X hS=>by have s0:=hS;go_simp) ?_
  have HXF:=hid (HX3.out.Zd9 (rqL (n:Int) (g2:Int) ri2 (K2:Int) (.slice u2 ln2 t2) P2 nn2 C2 (.slice op2 on2 oc2)) rfl)
  obtain⟨o0,o1,o2,o3,o4,o5,o6,o7,o8,o9,o10,o11⟩:=Zbl HX3.out.fr.at0
  have HDF:=hid (HD3.out.stR HX3.out.rv.1.1 HX3.out.fr.at0 (by decide) o2 HX3.out.fr.Zji (by simp) (rqL (n:Int) (g2:Int) ri2 (K2:Int) (.slice u2 ln2 t2) P2 nn2 C2 (.slice op2 on2 oc2)) 0)
  obtain⟨z0,z1,z2,z3,z4,z5,z6,z7,z8,z9,z10,z11⟩:=Zap HX3.out.fr.at0
  refine rd [9] (AllReadyH.cons rfl (fun K1 hK1=>?_) AllReadyH.nil)
  go_simp
  refine hK1.out _ (stR w3 F (rqL (n:Int) (g2:Int) ri2 (K2:Int) (.slice u2 ln2 t2) P2 nn2 C2 (.slice op2 on2 oc2)) 0) ⟨HXF.out.fr.at2,HXF.out.fr.at1⟩ (fun hHeld=>?_)
  clear hK1 o0 o1 o2 o3 o4 o5 o6 o7 o8 o9 o10 o11 z0 z1 z2 z3 z4 z5 z6 z7 z8 z9 z10 z11
  obtain⟨y0,y1,y2,y3,y4,y5,y6,y7,y8,y9,y10,y11⟩:=Zaf HXF.out.fr.at0
  have HPO:=hid ((⟨g2,K2,R',q',hs',s',_,rfl,HXF.out.rv,HP2.out,by rw[HRR.out];exact HDF.out.sub (fun z hz=>List.mem_append_right _ hz),HXF.out.fr.wt⟩:Zom Q B A n Ds w (.returned (.tuple #[.agg (rqA (n:Int) (g2:Int) ri2 (K2:Int) (.slice u2 ln2 t2) P2 nn2 C2 (.slice op2 on2 oc2)),.bool true])) (stR w3 F (rqL (n:Int) (g2:Int) ri2 (K2:Int) (.slice u2 ln2 t2) P2 nn2 C2 (.slice op2 on2 oc2)) 0)))
  obtain⟨z,hz⟩:=eX (stR w3 F (rqL (n:Int) (g2:Int) ri2 (K2:Int) (.slice u2 ln2 t2) P2 nn2 C2 (.slice op2 on2 oc2)) 0)
  rw[hz]at HPO hHeld y0 y1 y2 y3 y4 y5 y6 y7 y8 y9 y10 y11⊢
  clear hz HXF HDF HX3 HD3
  try simp only[Act.put,List.getElem_toArray,List.getElem_cons_zero,List.getElem_cons_succ,List.setIfInBounds_toArray,List.set_cons_zero,List.set_cons_succ]
  refine tk 10 (.bool true) rfl hHeld (fun X hS=>by have s0:=hS;go_simp) ?_
  refine wpAnyH_done (by kernel_rfl) ?_ _
  clear hHeld
  go_wp2_with fail
  exact bodyPost_ret (v:=.tuple #[.agg (rqA (n:Int) (g2:Int) ri2 (K2:Int) (.slice u2 ln2 t2) P2 nn2 C2 (.slice op2 on2 oc2)),.bool true]) (by simp[results,Tryz.results19,go_sem,y0,y1,y2,y3,y4,y5,y6,y7,y8,y9,y10,y11]) rfl HPO.out
end
end
section
open Go Go.RowKit Go.Shelf
section
variable {Q B A n g K:Nat} {R:Zag} {q:Nat->List Nat} {hs:List Hd} {s:ASt} {v:Value} {w y:World}
theorem WkS.Zs2 {Q B A n va:Nat} {s:ASt} {w x:World} {a0 a1 a2:Blk} {R:Nat} {c:Array Value} {t:TypeId} {L2:List Blk} (h:WkS Q B A n va s w (a0::a1::a2::⟨R,c,t⟩::L2) x) (vs:List Value) (hc:c.size=vs.length):WkS Q B A n va s w (a0::a1::a2::⟨R,vs.toArray,t⟩::L2) (Bt.stR x R vs 0):=
 ⟨h.rv.stR (L1:=[a0,a1,a2]) h.fr vs 0,h.fr.Zs2 h.rv.1.1 vs hc⟩
theorem Zal {H:Nat} {a o u x:Int} {t:TypeId} {X:World} (h:X.heap[H]?=some (.cells (cC a o u x) t (0,0))):X.cell? (aD H 0)=some (iV a)/\X.cell? (aD H 1)=some (iV o)/\X.cell? (aD H 2)=some (.int .u64 u)/\X.cell? (aD H 3)=some (iV x):=by
 refine⟨?_,?_,?_,?_⟩<;>(rw[(Zaa h _).1];rfl)
theorem Zz7 (hrv:RcV Q B A n 4096 s w) (hpy:PyS n g K R q hs s) {Ds:List Nat} (hDz:∀z∈Ds,z<w.heap.size) (hdw:DWo A (n:Int) (g:Int) (rfI s) (K:Int) (tkT R g) q hs v Ds w) (d k m:Int) (d0:0<=d) (d1:d<=255) (k0: -9223372036854775808<=k) (k1:k<=9223372036854775807) (m0: -9223372036854775808<=m) (m1:m<=9223372036854775807) (e8:¬200<=d/\(d%8=0\/d%8=1\/d%8=2)):
 Calls Tryz.prog 19 #[rcP Q,v,.agg #[.int .u8 d,iV k,iV m]] w (Zom Q B A n Ds w):=by
 have HPY:=hid hpy
 have HRV:=hid hrv
 have HDZ:=hid hDz
 have hw0:=hdw
 have hX0:=WkS.start hrv
 have HO:=hid hrv.1.1
 have HRL:=hid (Zi9 hrv.1.1)
 obtain⟨u,c,P,nn,C,op,on,oc,rfl,HI0, -⟩:=hdw
 obtain⟨ln,ht⟩:=eX ((tkT R g).length)
 obtain⟨ri,hri⟩:=eX (rfI s)
 have hX1:=((hX0.new (rqA (n:Int) (g:Int) ri (K:Int) (.slice u ln c) P nn C (.slice op on oc)) 33 Za3).new #[.int .u8 d,iV k,iV m] 44 Zez).new rqZ 33 Za3
 have HI:=hid (And.intro HI0.ho (And.intro HI0.hn HI0.hl))
 rw[ht,hri]at hw0
 rw[ht,hri]
 have HRI:=hid hri
 clear ht hri hrv hpy hDz hX0 HI0
 have HMM:=hid (show -9223372036854775808<=m/\m<=9223372036854775807 from⟨m0,m1⟩)
 have HKK:=hid (show -9223372036854775808<=k/\k<=9223372036854775807 from⟨k0,k1⟩)
 go_enter Tryz.func19,Tryz.ntmps19
 go_upto_region 1 with fail
 change Code.wp _ _ _ _ (((w.alloc (.cells (rqA (n:Int) (g:Int) ri (K:Int) (.slice u ln c) P nn C (.slice op on oc)) 33)).alloc (.cells #[.int .u8 d,iV k,iV m] 44)).alloc (.cells rqZ 33))
 have hE1:(w.alloc (.cells (rqA (n:Int) (g:Int) ri (K:Int) (.slice u ln c) P nn C (.slice op on oc)) 33)).heap.size=w.heap.size+1:=by simp
 have hF1:((w.alloc (.cells (rqA (n:Int) (g:Int) ri (K:Int) (.slice u ln c) P nn C (.slice op on oc)) 33)).alloc (.cells #[.int .u8 d,iV k,iV m] 44)).heap.size=w.heap.size+1+1:=by simp
 obtain⟨x,hx⟩:=eX ((((w.alloc (.cells (rqA (n:Int) (g:Int) ri (K:Int) (.slice u ln c) P nn C (.slice op on oc)) 33)).alloc (.cells #[.int .u8 d,iV k,iV m] 44)).alloc (.cells rqZ 33)))
 rw[hx,hE1,hF1]at hX1
 obtain⟨F,hF⟩:=eX (w.heap.size+1+1)
 obtain⟨E,hE⟩:=eX (w.heap.size+1)
 obtain⟨D,hD⟩:=eX w.heap.size
 have hDF:∀z∈[D,F],w.heap.size<=z:=fun z hz=>by simp at hz;omega
 rw[hF,hE,hD]at hX1
 rw[hx]
 try rw[hF]
 try rw[hE]
 try rw[hD]
 have HX:=hid hX1
 have HDO:=hid ((hw0.more hDF).Zaq HO.out hX1.fr.wt)
 have HIX:=hid (HI.out.1.Zaq HO.out hX1.fr.wt)
 clear hx hE1 hF1 hE hD hF hX1 hw0 hDF HO
 obtain⟨⟨p0,p1,p2,p3,p4⟩, -⟩:=HX.out.rv.all
 have a0:x.cell? (aD E 0)=some (.int .u8 d):=HX.out.fr.Zak 0 rfl
 have a1:x.cell? (aD E 1)=some (iV k):=HX.out.fr.Zak 1 rfl
 have a2:x.cell? (aD E 2)=some (iV m):=HX.out.fr.Zak 2 rfl
 have c200:¬200<=d:=e8.1
 obtain⟨-,e8⟩:=e8
 obtain⟨mu,hmu⟩:∃mu:Nat,IntKind.u64.wrap m=(mu:Int):=⟨(m%18446744073709551616).toNat,by rw[IntKind.wrap_u64];omega⟩
 have hmb:mu<18446744073709551616:=by rw[IntKind.wrap_u64]at hmu;omega
 have HMB:=hid hmb
 have HMU:=hid hmu
 have HPT:=hid fun X (hX:RcV Q B A n 4096 s X)=>Yc8 hX HPY.out k mu hmb
 rw[<-hmu]at HPT
 clear hmu hmb
 go_upto_region 19 with fail
 refine(HPT.out _ HX.out.rv).mono ?_
 rintro e w2 ⟨r0,r1,r2,er,g2,R',q',hs',s',rfl,hv2,hg2,hp2,ht⟩
 obtain⟨ri2,hr2⟩:=eX (rfI s')
 have HRR:=hid hr2
 have HX2:=hid (HX.out.Zf9 hv2 hg2)
 have HD2:=hid (HDO.out.Zaq HX.out.rv.1.1 hg2)
 have HP2:=hid hp2
 have HT2:=hid ht
 clear hv2 hg2 hp2 ht hr2 HX HDO HPT p0 p1 p2 p3 p4 a0 a1 a2
 unfold cV
 have HX3:=hid (HX2.out.new (cC r0 r1 r2 0) 71 (by unfold Zc7;decide))
 have HD3:=hid (HD2.out.Zaq HX2.out.rv.1.1 (Zam.Zad HX2.out.rv.1.1 (Zaj w2 (.cells (cC r0 r1 r2 0) 71))))
 go_upto_region 19 with fail
 change Code.wp _ _ _ _ (w2.alloc (.cells (cC r0 r1 r2 0) 71))
 obtain⟨w3,hw3⟩:=eX (w2.alloc (.cells (cC r0 r1 r2 0) 71))
 obtain⟨H1,hH1⟩:=eX w2.heap.size
 rw[hw3]at HX3 HD3⊢
 rw[hH1]at HX3⊢
 clear hw3 hH1 HX2 HD2
 obtain⟨c0,c1,c2,c3,c4,c5,c6,c7,c8,c9,c10,c11⟩:=Zaf HX3.out.fr.at3
 have a0:=HX3.out.fr.Zce 0 rfl;have a1:=HX3.out.fr.Zce 1 rfl;have a2:=HX3.out.fr.Zce 2 rfl
 have hDs:∀z∈[D,F]++Ds,z<w3.heap.size:=fun z hz=>by
  have h0:=(Array.getElem?_eq_some_iff.1 HX3.out.fr.at1).1;have h1:=(Array.getElem?_eq_some_iff.1 HX3.out.fr.at3).1
  rcases List.mem_append.1 hz with hz|hz
  · simp only[List.mem_cons,List.not_mem_nil,or_false]at hz
    rcases hz with rfl|rfl<;>assumption
  · exact Nat.lt_of_lt_of_le (HDZ.out z hz) HX3.out.fr.wt.size
 have hdt:=Zvz HPY.out HRL.out HX3.out.rv.1.1 k mu HMB.out HP2.out HT2.out hDs (by rw[HRI.out];exact HD3.out)
 rw[<-HMU.out,HRR.out]at hdt
 have HDT:=hid hdt
 clear hDs hdt HMU HT2
 go_upto_region 20 with fail
 refine HDT.out.mono ?_
 rintro e w4 ⟨v',rfl,hd4,hb⟩
 have HX4:=hid (HX3.out.below hb)
 clear hb HX3 HD3 HDT
 have HD4:=hid hd4
 obtain⟨u2,t2,P2,nn2,C2,op2,on2,oc2,rfl, -⟩:=hd4
 obtain⟨ln2,hln2⟩:=eX ((tkT R' g2).length)
 rw[hln2]at HD4⊢
 clear hln2
 unfold cV
 have HX5:=hid ((HX4.out.new (rqA (n:Int) (g2:Int) ri2 (K:Int) (.slice u2 ln2 t2) P2 nn2 C2 (.slice op2 on2 oc2)) 33 Za3).new (cC r0 r1 r2 0) 65 (by unfold Zc7;decide))
 have hE5:(w4.alloc (.cells (rqA (n:Int) (g2:Int) ri2 (K:Int) (.slice u2 ln2 t2) P2 nn2 C2 (.slice op2 on2 oc2)) 33)).heap.size=w4.heap.size+1:=by simp
 have hb5:=(Zaj w4 (.cells (rqA (n:Int) (g2:Int) ri2 (K:Int) (.slice u2 ln2 t2) P2 nn2 C2 (.slice op2 on2 oc2)) 33)).trans ((Zaj (w4.alloc (.cells (rqA (n:Int) (g2:Int) ri2 (K:Int) (.slice u2 ln2 t2) P2 nn2 C2 (.slice op2 on2 oc2)) 33)) (.cells (cC r0 r1 r2 0) 65)).mono (Zaj w4 (.cells (rqA (n:Int) (g2:Int) ri2 (K:Int) (.slice u2 ln2 t2) P2 nn2 C2 (.slice op2 on2 oc2)) 33)).size)
 have HD5:=hid (HD4.out.Zaq HX4.out.rv.1.1 (Zam.Zad HX4.out.rv.1.1 hb5))
 clear hb5
 go_upto_region 20 with fail
 change Code.wp _ _ _ _ ((w4.alloc (.cells (rqA (n:Int) (g2:Int) ri2 (K:Int) (.slice u2 ln2 t2) P2 nn2 C2 (.slice op2 on2 oc2)) 33)).alloc (.cells (cC r0 r1 r2 0) 65))
 obtain⟨x5,hx5⟩:=eX ((w4.alloc (.cells (rqA (n:Int) (g2:Int) ri2 (K:Int) (.slice u2 ln2 t2) P2 nn2 C2 (.slice op2 on2 oc2)) 33)).alloc (.cells (cC r0 r1 r2 0) 65))
 obtain⟨G5,hG5⟩:=eX (w4.heap.size+1)
 obtain⟨G4,hG4⟩:=eX w4.heap.size
 rw[hE5,hx5]at HX5
 rw[hx5]at HD5⊢
 rw[hG5,hG4]at HX5⊢
 clear hE5 hx5 hG5 hG4 HX4 HD4 c0 c1 c2 c3 c4 c5 c6 c7 c8 c9 c10 c11 a0 a1 a2
 refine wp_region_held_drew (S:=fun X:World=>X.heap[G4]?=some (.cells (rqA (n:Int) (g2:Int) ri2 (K:Int) (.slice u2 ln2 t2) P2 nn2 C2 (.slice op2 on2 oc2)) 33 (0,0))/\X.heap[G5]?=some (.cells (cC r0 r1 r2 0) 65 (0,0))/\X.heap[H1]?=some (.cells (cC r0 r1 r2 0) 71 (0,0))) (by kernel_rfl) ⟨(HX5.out.below (Below.refl x5.heap.size x5).drew).fr.at1,(HX5.out.below (Below.refl x5.heap.size x5).drew).fr.at0,(HX5.out.below (Below.refl x5.heap.size x5).drew).fr.at2⟩ (fun hHeld=>?_)
 have HX6:=hid (HX5.out.below (Below.refl x5.heap.size x5).drew)
 have HD6:=hid (HD5.out.Zaq HX5.out.rv.1.1 (Zam.Zad HX5.out.rv.1.1 (Below.refl x5.heap.size x5).drew))
 clear HX5 HD5
 generalize x5.drew=x6 at*
 refine tk 0 (.agg (rqA (n:Int) (g2:Int) ri2 (K:Int) (.slice u2 ln2 t2) P2 nn2 C2 (.slice op2 on2 oc2))) rfl hHeld (fun X hS=>by obtain⟨s0,s1,s2,s3,s4,s5,s6,s7,s8,s9,s10,s11⟩:=Zaf hS.1;obtain⟨u0,u1,u2,u3⟩:=Zal hS.2.1;obtain⟨v0,v1,v2,v3⟩:=Zal hS.2.2;clear hS;go_simp) ?_
 refine tk 1 (iV er) rfl hHeld (fun X hS=>by obtain⟨s0,s1,s2,s3,s4,s5,s6,s7,s8,s9,s10,s11⟩:=Zaf hS.1;obtain⟨u0,u1,u2,u3⟩:=Zal hS.2.1;obtain⟨v0,v1,v2,v3⟩:=Zal hS.2.2;clear hS;go_simp) ?_
 refine tk 2 (iV er) rfl hHeld (fun X hS=>by obtain⟨s0,s1,s2,s3,s4,s5,s6,s7,s8,s9,s10,s11⟩:=Zaf hS.1;obtain⟨u0,u1,u2,u3⟩:=Zal hS.2.1;obtain⟨v0,v1,v2,v3⟩:=Zal hS.2.2;clear hS;go_simp) ?_
 refine tk 3 (.bool true) rfl hHeld (fun X hS=>by obtain⟨s0,s1,s2,s3,s4,s5,s6,s7,s8,s9,s10,s11⟩:=Zaf hS.1;obtain⟨u0,u1,u2,u3⟩:=Zal hS.2.1;obtain⟨v0,v1,v2,v3⟩:=Zal hS.2.2;clear hS;go_simp) ?_
 refine tk 4 (.bool true) rfl hHeld (fun X hS=>by obtain⟨s0,s1,s2,s3,s4,s5,s6,s7,s8,s9,s10,s11⟩:=Zaf hS.1;obtain⟨u0,u1,u2,u3⟩:=Zal hS.2.1;obtain⟨v0,v1,v2,v3⟩:=Zal hS.2.2;clear hS;go_simp) ?_
 refine tk 5 (.agg #[iV r0,iV r1,.int .u64 r2,iV 0]) rfl hHeld (fun X hS=>by obtain⟨s0,s1,s2,s3,s4,s5,s6,s7,s8,s9,s10,s11⟩:=Zaf hS.1;obtain⟨u0,u1,u2,u3⟩:=Zal hS.2.1;obtain⟨v0,v1,v2,v3⟩:=Zal hS.2.2;clear hS;go_simp) ?_
 refine tk 6 (.agg #[iV r0,iV r1,.int .u64 r2,iV 0]) rfl hHeld (fun X hS=>by obtain⟨s0,s1,s2,s3,s4,s5,s6,s7,s8,s9,s10,s11⟩:=Zaf hS.1;obtain⟨u0,u1,u2,u3⟩:=Zal hS.2.1;obtain⟨v0,v1,v2,v3⟩:=Zal hS.2.2;clear hS;go_simp) ?_
 refine tk 7 (.bool true) rfl hHeld (fun X hS=>by obtain⟨s0,s1,s2,s3,s4,s5,s6,s7,s8,s9,s10,s11⟩:=Zaf hS.1;obtain⟨u0,u1,u2,u3⟩:=Zal hS.2.1;obtain⟨v0,v1,v2,v3⟩:=Zal hS.2.2;clear hS;go_simp) ?_
 refine tk 8 (.bool true) rfl hHeld (fun X hS=>by obtain⟨s0,s1,s2,s3,s4,s5,s6,s7,s8,s9,s10,s11⟩:=Zaf hS.1;obtain⟨u0,u1,u2,u3⟩:=Zal hS.2.1;obtain⟨v0,v1,v2,v3⟩:=Zal hS.2.2;clear hS;go_simp) ?_
 have hf3:Fr A w _ x6:=HX6.out.fr
 have HXF:=hid (HX6.out.Zs2 (rqL (n:Int) (g2:Int) ri2 (K:Int) (.slice u2 ln2 t2) P2 nn2 C2 (.slice op2 on2 oc2)) rfl)
 have HX7:Hid (WkS Q B A n 4096 s' w _ x6):=hid ⟨HX6.out.rv,HX6.out.fr.Zia.Zia.Zia⟩
 obtain⟨o0,o1,o2,o3,o4,o5,o6,o7,o8,o9,o10,o11⟩:=Zbl HX7.out.fr.at0
 have HDF:=hid (HD6.out.stR HX7.out.rv.1.1 HX7.out.fr.at0 (by decide) o2 HX7.out.fr.Zji (by simp) (rqL (n:Int) (g2:Int) ri2 (K:Int) (.slice u2 ln2 t2) P2 nn2 C2 (.slice op2 on2 oc2)) 0)
 obtain⟨z0,z1,z2,z3,z4,z5,z6,z7,z8,z9,z10,z11⟩:=Zap HX7.out.fr.at0
 clear hf3
 refine rd [9] (AllReadyH.cons rfl (fun K1 hK1=>?_) AllReadyH.nil)
 go_simp
 refine hK1.out _ (stR x6 F (rqL (n:Int) (g2:Int) ri2 (K:Int) (.slice u2 ln2 t2) P2 nn2 C2 (.slice op2 on2 oc2)) 0) ⟨HXF.out.fr.at1,HXF.out.fr.at0,HXF.out.fr.at2⟩ (fun hHeld=>?_)
 clear hK1 o0 o1 o2 o3 o4 o5 o6 o7 o8 o9 o10 o11 z0 z1 z2 z3 z4 z5 z6 z7 z8 z9 z10 z11
 obtain⟨y0,y1,y2,y3,y4,y5,y6,y7,y8,y9,y10,y11⟩:=Zaf HXF.out.fr.at3
 have HPO:=hid ((⟨g2,K,R',q',hs',s',_,rfl,HXF.out.rv,HP2.out,by rw[HRR.out];exact HDF.out.sub (fun z hz=>List.mem_append_right _ hz),HXF.out.fr.wt⟩:Zom Q B A n Ds w (.returned (.tuple #[.agg (rqA (n:Int) (g2:Int) ri2 (K:Int) (.slice u2 ln2 t2) P2 nn2 C2 (.slice op2 on2 oc2)),.bool true])) (stR x6 F (rqL (n:Int) (g2:Int) ri2 (K:Int) (.slice u2 ln2 t2) P2 nn2 C2 (.slice op2 on2 oc2)) 0)))
 obtain⟨z,hz⟩:=eX (stR x6 F (rqL (n:Int) (g2:Int) ri2 (K:Int) (.slice u2 ln2 t2) P2 nn2 C2 (.slice op2 on2 oc2)) 0)
 rw[hz]at HPO hHeld y0 y1 y2 y3 y4 y5 y6 y7 y8 y9 y10 y11⊢
 clear hz HXF HDF HX6 HX7 HD6
 try simp only[Act.put,List.getElem_toArray,List.getElem_cons_zero,List.getElem_cons_succ,List.setIfInBounds_toArray,List.set_cons_zero,List.set_cons_succ]
 refine tk 10 (.bool true) rfl hHeld (fun X hS=>by have s0:=hS;go_simp) ?_
 refine wpAnyH_done (by kernel_rfl) ?_ _
 clear hHeld
 go_wp2_with fail
 exact bodyPost_ret (v:=.tuple #[.agg (rqA (n:Int) (g2:Int) ri2 (K:Int) (.slice u2 ln2 t2) P2 nn2 C2 (.slice op2 on2 oc2)),.bool true]) (by simp[results,Tryz.results19,go_sem,y0,y1,y2,y3,y4,y5,y6,y7,y8,y9,y10,y11]) rfl HPO.out
end
end
end Go.Proofs.YtgcidfenjlmljaaGreat.Bt
