import Derived.Test.YtpkaehpllldcmaaGreatDoorMoV
namespace Go.Proofs.YtpkaehpllldcmaaGreatDoor.Bt
open Go Go.RowKit Go.Shelf
set_option linter.unusedVariables false
set_option linter.unusedSimpArgs false
set_option maxRecDepth 100000
section
variable {A vs:Nat} {m:Nat→UInt8} {w:World} {L:List Lk}
set_option maxHeartbeats 2000000 in
theorem cadd_arg (e:Lk) (hz:e.i=0∨e.x=0):Calls Tryz.prog 11 #[vwV A 40 vs,lV e] w (Gives (.int .i64 2) w):=by
 by_cases h0:e.i=0
 · have d1:((e.i:Int)==0)=true:=by simp[h0]
   clear h0 hz
   have HF0:=Lib.hid (((Fb.start w).new (vwC A 40 vs) 34).new #[.int .u64 (e.i:Int),.int .u64 (e.x:Int)] 39)
   go_enter Tryz.func11,Tryz.ntmps11
   go_upto_region 1 with fail
   change Code.wp _ _ _ _ ((w.alloc (.cells (vwC A 40 vs) 34)).alloc (.cells #[.int .u64 (e.i:Int),.int .u64 (e.x:Int)] 39))
   obtain⟨y,hy⟩:∃y,((w.alloc (.cells (vwC A 40 vs) 34)).alloc (.cells #[.int .u64 (e.i:Int),.int .u64 (e.x:Int)] 39))=y:=⟨_,rfl⟩
   obtain⟨B0,hB0⟩:∃B,w.heap.size=B:=⟨_,rfl⟩
   obtain⟨B1,hB1⟩:∃B,(w.alloc (.cells (vwC A 40 vs) 34)).heap.size=B:=⟨_,rfl⟩
   have hC1:w.heap.size+1=B1:=by rw[←hB1];simp
   have hf:=HF0.out
   rw[hy,hB1,hB0]at hf
   rw[hy,hC1,hB0]
   have HF:=Lib.hid hf
   clear hf HF0 hy hB0 hB1 hC1
   have c0:=HF.out.cell1 0 rfl;have c1:=HF.out.cell1 1 rfl;have c2:=HF.out.cell1 2 rfl
   have e0:=HF.out.cell0 0 rfl;have e1:=HF.out.cell0 1 rfl
   go_wp2_with fail
   go_ret
   exact⟨rfl,HF.out.be⟩
 · have h1:e.x=0:=by omega
   have hz1:¬((e.i:Int)=0):=by omega
   have d1:((e.i:Int)==0)=false:=by simpa using hz1
   have d3:((e.x:Int)==0)=true:=by simp[h1]
   clear h0 hz h1 hz1
   have HF0:=Lib.hid (((Fb.start w).new (vwC A 40 vs) 34).new #[.int .u64 (e.i:Int),.int .u64 (e.x:Int)] 39)
   go_enter Tryz.func11,Tryz.ntmps11
   go_upto_region 1 with fail
   change Code.wp _ _ _ _ ((w.alloc (.cells (vwC A 40 vs) 34)).alloc (.cells #[.int .u64 (e.i:Int),.int .u64 (e.x:Int)] 39))
   obtain⟨y,hy⟩:∃y,((w.alloc (.cells (vwC A 40 vs) 34)).alloc (.cells #[.int .u64 (e.i:Int),.int .u64 (e.x:Int)] 39))=y:=⟨_,rfl⟩
   obtain⟨B0,hB0⟩:∃B,w.heap.size=B:=⟨_,rfl⟩
   obtain⟨B1,hB1⟩:∃B,(w.alloc (.cells (vwC A 40 vs) 34)).heap.size=B:=⟨_,rfl⟩
   have hC1:w.heap.size+1=B1:=by rw[←hB1];simp
   have hf:=HF0.out
   rw[hy,hB1,hB0]at hf
   rw[hy,hC1,hB0]
   have HF:=Lib.hid hf
   clear hf HF0 hy hB0 hB1 hC1
   have c0:=HF.out.cell1 0 rfl;have c1:=HF.out.cell1 1 rfl;have c2:=HF.out.cell1 2 rfl
   have e0:=HF.out.cell0 0 rfl;have e1:=HF.out.cell0 1 rfl
   go_wp2_with fail
   go_ret
   exact⟨rfl,HF.out.be⟩
set_option maxHeartbeats 4000000 in
theorem cadd_there (h:On A (cS m) w) (hv:vs≤400) (hL:Ls m (vs/16) L) (e:Lk) (h0:0<e.i) (h1:0<e.x) (hi:ixE L e.i<L.length):Calls Tryz.prog 11 #[vwV A 40 vs,lV e] w (Gives (.int .i64 9) w):=by
 have HO:=Lib.hid h
 have HH:=Lib.hid fun X (hX:On A (cS m) X)=>chas hX hv hL e.i
 have hb:hasL L e.i=true:=decide_eq_true hi
 rw[hb]at HH
 have hz1:¬((e.i:Int)=0):=by omega
 have d1:((e.i:Int)==0)=false:=by simpa using hz1
 have hz2:¬((e.x:Int)=0):=by omega
 have d2:((e.x:Int)==0)=false:=by simpa using hz2
 clear h hL hb hi h0 h1 hz1 hz2
 have HF0:=Lib.hid (((Fb.start w).new (vwC A 40 vs) 34).new #[.int .u64 (e.i:Int),.int .u64 (e.x:Int)] 39)
 go_enter Tryz.func11,Tryz.ntmps11
 go_upto_region 1 with fail
 change Code.wp _ _ _ _ ((w.alloc (.cells (vwC A 40 vs) 34)).alloc (.cells #[.int .u64 (e.i:Int),.int .u64 (e.x:Int)] 39))
 obtain⟨y,hy⟩:∃y,((w.alloc (.cells (vwC A 40 vs) 34)).alloc (.cells #[.int .u64 (e.i:Int),.int .u64 (e.x:Int)] 39))=y:=⟨_,rfl⟩
 obtain⟨B0,hB0⟩:∃B,w.heap.size=B:=⟨_,rfl⟩
 obtain⟨B1,hB1⟩:∃B,(w.alloc (.cells (vwC A 40 vs) 34)).heap.size=B:=⟨_,rfl⟩
 have hC1:w.heap.size+1=B1:=by rw[←hB1];simp
 have hf:=HF0.out
 rw[hy,hB1,hB0]at hf
 rw[hy,hC1,hB0]
 have HF:=Lib.hid hf
 clear hf HF0 hy hB0 hB1 hC1
 have c0:=HF.out.cell1 0 rfl;have c1:=HF.out.cell1 1 rfl;have c2:=HF.out.cell1 2 rfl
 have e0:=HF.out.cell0 0 rfl;have e1:=HF.out.cell0 1 rfl
 go_wp2_with fail
 refine(HH.out _ (HO.out.below HF.out.be)).mono ?_
 rintro en w1 ⟨rfl,hb⟩
 have HF1:=Lib.hid (HF.out.below hb)
 clear hb HF HH c0 c1 c2 e0 e1
 go_wp2_with fail
 go_ret
 exact⟨rfl,HF1.out.be⟩
set_option maxHeartbeats 4000000 in
theorem cadd_full (h:On A (cS m) w) (hv:vs≤400) (hL:Ls m (vs/16) L) (e:Lk) (h0:0<e.i) (h1:0<e.x) (hi:¬ixE L e.i<L.length) (hf:L.length=vs/16):Calls Tryz.prog 11 #[vwV A 40 vs,lV e] w (Gives (.int .i64 10) w):=by
 have HO:=Lib.hid h
 have HH:=Lib.hid fun X (hX:On A (cS m) X)=>chas hX hv hL e.i
 have hb:hasL L e.i=false:=decide_eq_false hi
 rw[hb]at HH
 have hz1:¬((e.i:Int)=0):=by omega
 have d1:((e.i:Int)==0)=false:=by simpa using hz1
 have hz2:¬((e.x:Int)=0):=by omega
 have d2:((e.x:Int)==0)=false:=by simpa using hz2
 have HFU:=Lib.hid fun X (hX:On A (cS m) X)=>cfull hX hv hL true (decide_eq_true hf)
 clear h hL hb hi h0 h1 hz1 hz2 hf
 have HF0:=Lib.hid (((Fb.start w).new (vwC A 40 vs) 34).new #[.int .u64 (e.i:Int),.int .u64 (e.x:Int)] 39)
 go_enter Tryz.func11,Tryz.ntmps11
 go_upto_region 1 with fail
 change Code.wp _ _ _ _ ((w.alloc (.cells (vwC A 40 vs) 34)).alloc (.cells #[.int .u64 (e.i:Int),.int .u64 (e.x:Int)] 39))
 obtain⟨y,hy⟩:∃y,((w.alloc (.cells (vwC A 40 vs) 34)).alloc (.cells #[.int .u64 (e.i:Int),.int .u64 (e.x:Int)] 39))=y:=⟨_,rfl⟩
 obtain⟨B0,hB0⟩:∃B,w.heap.size=B:=⟨_,rfl⟩
 obtain⟨B1,hB1⟩:∃B,(w.alloc (.cells (vwC A 40 vs) 34)).heap.size=B:=⟨_,rfl⟩
 have hC1:w.heap.size+1=B1:=by rw[←hB1];simp
 have hf:=HF0.out
 rw[hy,hB1,hB0]at hf
 rw[hy,hC1,hB0]
 have HF:=Lib.hid hf
 clear hf HF0 hy hB0 hB1 hC1
 have c0:=HF.out.cell1 0 rfl;have c1:=HF.out.cell1 1 rfl;have c2:=HF.out.cell1 2 rfl
 have e0:=HF.out.cell0 0 rfl;have e1:=HF.out.cell0 1 rfl
 go_wp2_with fail
 refine(HH.out _ (HO.out.below HF.out.be)).mono ?_
 rintro en w1 ⟨rfl,hb⟩
 have HF1:=Lib.hid (HF.out.below hb)
 clear hb HF HH c0 c1 c2 e0 e1
 have c0:=HF1.out.cell1 0 rfl;have c1:=HF1.out.cell1 1 rfl;have c2:=HF1.out.cell1 2 rfl
 go_wp2_with fail
 refine(HFU.out _ (HO.out.below HF1.out.be)).mono ?_
 rintro en w2 ⟨rfl,hb⟩
 have HF2:=Lib.hid (HF1.out.below hb)
 clear hb HF1 HFU c0 c1 c2
 go_wp2_with fail
 go_ret
 exact⟨rfl,HF2.out.be⟩
set_option maxHeartbeats 4000000 in
theorem cadd_ok (h:On A (cS m) w) (hv:vs≤400) (hL:Ls m (vs/16) L) (e:Lk) (he:e.ok) (h0:0<e.i) (h1:0<e.x) (hi:¬ixE L e.i<L.length) (hf:L.length<vs/16):Calls Tryz.prog 11 #[vwV A 40 vs,lV e] w (Ret A (cS (inE m (kx L e.x) L.length e)) (.int .i64 0) w):=by
 have HO:=Lib.hid h
 have HH:=Lib.hid fun X (hX:On A (cS m) X)=>chas hX hv hL e.i
 have hb:hasL L e.i=false:=decide_eq_false hi
 rw[hb]at HH
 have hz1:¬((e.i:Int)=0):=by omega
 have d1:((e.i:Int)==0)=false:=by simpa using hz1
 have hz2:¬((e.x:Int)=0):=by omega
 have d2:((e.x:Int)==0)=false:=by simpa using hz2
 have HFU:=Lib.hid fun X (hX:On A (cS m) X)=>cfull hX hv hL false (decide_eq_false (by omega))
 have HIN:=Lib.hid fun X (hX:On A (cS m) X)=>cinsert hX hv hL e he hf
 obtain⟨S,hS⟩:∃S,cS (inE m (kx L e.x) L.length e)=S:=⟨_,rfl⟩
 rw[hS]at HIN
 rw[hS]
 clear h hL hb hi h0 h1 hz1 hz2 hf hS he
 have HF0:=Lib.hid (((Fb.start w).new (vwC A 40 vs) 34).new #[.int .u64 (e.i:Int),.int .u64 (e.x:Int)] 39)
 go_enter Tryz.func11,Tryz.ntmps11
 go_upto_region 1 with fail
 change Code.wp _ _ _ _ ((w.alloc (.cells (vwC A 40 vs) 34)).alloc (.cells #[.int .u64 (e.i:Int),.int .u64 (e.x:Int)] 39))
 obtain⟨y,hy⟩:∃y,((w.alloc (.cells (vwC A 40 vs) 34)).alloc (.cells #[.int .u64 (e.i:Int),.int .u64 (e.x:Int)] 39))=y:=⟨_,rfl⟩
 obtain⟨B0,hB0⟩:∃B,w.heap.size=B:=⟨_,rfl⟩
 obtain⟨B1,hB1⟩:∃B,(w.alloc (.cells (vwC A 40 vs) 34)).heap.size=B:=⟨_,rfl⟩
 have hC1:w.heap.size+1=B1:=by rw[←hB1];simp
 have hf:=HF0.out
 rw[hy,hB1,hB0]at hf
 rw[hy,hC1,hB0]
 have HF:=Lib.hid hf
 clear hf HF0 hy hB0 hB1 hC1
 have c0:=HF.out.cell1 0 rfl;have c1:=HF.out.cell1 1 rfl;have c2:=HF.out.cell1 2 rfl
 have e0:=HF.out.cell0 0 rfl;have e1:=HF.out.cell0 1 rfl
 go_wp2_with fail
 refine(HH.out _ (HO.out.below HF.out.be)).mono ?_
 rintro en w1 ⟨rfl,hb⟩
 have HF1:=Lib.hid (HF.out.below hb)
 clear hb HF HH c0 c1 c2 e0 e1
 have c0:=HF1.out.cell1 0 rfl;have c1:=HF1.out.cell1 1 rfl;have c2:=HF1.out.cell1 2 rfl
 have e0:=HF1.out.cell0 0 rfl;have e1:=HF1.out.cell0 1 rfl
 go_wp2_with fail
 refine(HFU.out _ (HO.out.below HF1.out.be)).mono ?_
 rintro en w2 ⟨rfl,hb⟩
 have HF2:=Lib.hid (HF1.out.below hb)
 clear hb HF1 HFU c0 c1 c2 e0 e1
 have c0:=HF2.out.cell1 0 rfl;have c1:=HF2.out.cell1 1 rfl;have c2:=HF2.out.cell1 2 rfl
 have e0:=HF2.out.cell0 0 rfl;have e1:=HF2.out.cell0 1 rfl
 go_wp2_with fail
 refine(HIN.out _ (HO.out.below HF2.out.be)).mono ?_
 rintro en w3 ⟨rfl,ho,hg⟩
 have HW:=Lib.hid (And.intro ho ((Went.of_below HO.out HF2.out.be).trans hg))
 clear ho hg HF2 HIN c0 c1 c2 e0 e1
 go_wp2_with fail
 go_ret
 exact⟨rfl,HW.out.1,HW.out.2⟩
set_option maxHeartbeats 4000000 in
theorem cdrop_none (h:On A (cS m) w) (hv:vs≤400) (hL:Ls m (vs/16) L) (id:Nat) (hi:¬ixE L id<L.length):Calls Tryz.prog 9 #[vwV A 40 vs,.int .u64 (id:Int)] w (Gives (.int .i64 8) w):=by
 have HO:=Lib.hid h
 have hlb:L.length≤25:=by have:=hL.len;omega
 have HLB:=Lib.hid hlb
 have HAL:=Lib.hid fun X (hX:On A (cS m) X)=>call hX hv hL
 have hr:ixV L id= -1:=by unfold ixV;rw[if_neg hi]
 have HR:=Lib.hid hr
 obtain⟨n,hn⟩:∃n,L.length=n:=⟨_,rfl⟩
 have HN:=Lib.hid hn
 clear h hL hr hn hi hlb
 have HF0:=Lib.hid ((Fb.start w).new (vwC A 40 vs) 34)
 go_enter Tryz.func9,Tryz.ntmps9
 go_upto_region 1 with fail
 change Code.wp _ _ _ _ (w.alloc (.cells (vwC A 40 vs) 34))
 obtain⟨y,hy⟩:∃y,(w.alloc (.cells (vwC A 40 vs) 34))=y:=⟨_,rfl⟩
 obtain⟨B0,hB0⟩:∃B,w.heap.size=B:=⟨_,rfl⟩
 have hf:=HF0.out
 rw[hy,hB0]at hf
 rw[hy,hB0]
 have HF:=Lib.hid hf
 clear hf HF0 hy hB0
 have c0:=HF.out.cell0 0 rfl;have c1:=HF.out.cell0 1 rfl;have c2:=HF.out.cell0 2 rfl
 go_wp2_with fail
 refine(HAL.out _ (HO.out.below HF.out.be)).mono ?_
 rintro en w1 ⟨p,cap,rfl,hcap,hrow,hb⟩
 have HF1:=Lib.hid (HF.out.below hb)
 have HRW:=Lib.hid hrow
 clear hb HF c0 c1 c2 HAL hrow hcap
 have HFI:=Lib.hid (cfind (w:=w1) p cap id HRW.out (by have:=HLB.out;omega))
 rw[HR.out,HN.out]at HFI
 rw[HN.out]
 go_wp2_with fail
 refine HFI.out.mono ?_
 rintro en w2 ⟨rfl,hb⟩
 have HF2:=Lib.hid (HF1.out.below hb)
 clear hb HF1 HFI HRW
 go_wp2_with fail
 go_ret
 exact⟨rfl,HF2.out.be⟩
set_option maxHeartbeats 4000000 in
theorem cdrop_yes (h:On A (cS m) w) (hv:vs≤400) (hL:Ls m (vs/16) L) (id i:Nat) (hix:ixE L id=i) (hi:i<L.length):Calls Tryz.prog 9 #[vwV A 40 vs,.int .u64 (id:Int)] w (Ret A (cS (rmE m i L.length)) (.int .i64 0) w):=by
 have HO:=Lib.hid h
 have hlb:L.length≤25:=by have:=hL.len;omega
 have HLB:=Lib.hid hlb
 have HAL:=Lib.hid fun X (hX:On A (cS m) X)=>call hX hv hL
 have hr:ixV L id=(i:Int):=by unfold ixV;rw[hix,if_pos hi]
 have HR:=Lib.hid hr
 obtain⟨n,hn⟩:∃n,L.length=n:=⟨_,rfl⟩
 have HN:=Lib.hid hn
 have HRM:=Lib.hid fun X (hX:On A (cS m) X)=>cremove hX hv hL i hi
 rw[hn]at HRM hi hlb
 rw[hn]
 have hi0:(0:Int)≤(i:Int):=by omega
 have hi1:¬((i:Int)<0):=by omega
 have hi2:(i:Int)≤25:=by omega
 clear h hL hr hn hi hlb hix
 have HF0:=Lib.hid ((Fb.start w).new (vwC A 40 vs) 34)
 go_enter Tryz.func9,Tryz.ntmps9
 go_upto_region 1 with fail
 change Code.wp _ _ _ _ (w.alloc (.cells (vwC A 40 vs) 34))
 obtain⟨y,hy⟩:∃y,(w.alloc (.cells (vwC A 40 vs) 34))=y:=⟨_,rfl⟩
 obtain⟨B0,hB0⟩:∃B,w.heap.size=B:=⟨_,rfl⟩
 have hf:=HF0.out
 rw[hy,hB0]at hf
 rw[hy,hB0]
 have HF:=Lib.hid hf
 clear hf HF0 hy hB0
 have c0:=HF.out.cell0 0 rfl;have c1:=HF.out.cell0 1 rfl;have c2:=HF.out.cell0 2 rfl
 go_wp2_with fail
 refine(HAL.out _ (HO.out.below HF.out.be)).mono ?_
 rintro en w1 ⟨p,cap,rfl,hcap,hrow,hb⟩
 have HF1:=Lib.hid (HF.out.below hb)
 have HRW:=Lib.hid hrow
 clear hb HF c0 c1 c2 HAL hrow hcap
 have HFI:=Lib.hid (cfind (w:=w1) p cap id HRW.out (by have:=HLB.out;omega))
 rw[HR.out,HN.out]at HFI
 rw[HN.out]
 go_wp2_with fail
 refine HFI.out.mono ?_
 rintro en w2 ⟨rfl,hb⟩
 have HF2:=Lib.hid (HF1.out.below hb)
 clear hb HF1 HFI HRW
 have c0:=HF2.out.cell0 0 rfl;have c1:=HF2.out.cell0 1 rfl;have c2:=HF2.out.cell0 2 rfl
 go_wp2_with fail
 refine(HRM.out _ (HO.out.below HF2.out.be)).mono ?_
 rintro en w3 ⟨rfl,ho,hg⟩
 have HW:=Lib.hid (And.intro ho ((Went.of_below HO.out HF2.out.be).trans hg))
 clear ho hg HF2 HRM c0 c1 c2
 go_wp2_with fail
 go_ret
 exact⟨rfl,HW.out.1,HW.out.2⟩
def CAct (A vs:Nat) (M:List Lk) (r:Value) (w:World) (e:Ending) (w':World):Prop:=∃m',e=.returned r∧On A (cS m') w'∧Ls m' (vs/16) M∧Went A w w'
theorem CAct.same {r:Value} {e:Ending} {w':World} (h:On A (cS m) w) (hL:Ls m (vs/16) L) (k:Gives r w e w'):CAct A vs L r w e w':=⟨m,k.1,h.below k.2,hL,Went.of_below h k.2⟩
theorem cAdd (h:On A (cS m) w) (hv:vs≤400) (hL:Ls m (vs/16) L) (e:Lk) (he:e.ok):Calls Tryz.prog 11 #[vwV A 40 vs,lV e] w (CAct A vs (addL L (vs/16) e) (.int .i64 (addE L (vs/16) e)) w):=by
 have hl:=hL.len
 unfold addL
 by_cases h0:e.i=0∨e.x=0
 · have ha:addE L (vs/16) e=2:=by unfold addE;rw[if_pos h0]
   rw[ha,if_neg (by decide)]
   exact(cadd_arg e h0).mono fun _ _ k=> .same h hL k
 · by_cases hx:ixE L e.i<L.length
   · have ha:addE L (vs/16) e=9:=by unfold addE;rw[if_neg h0,if_pos hx]
     rw[ha,if_neg (by decide)]
     exact(cadd_there h hv hL e (by omega) (by omega) hx).mono fun _ _ k=> .same h hL k
   · by_cases hf:L.length=vs/16
     · have ha:addE L (vs/16) e=10:=by unfold addE;rw[if_neg h0,if_neg hx,if_pos hf]
       rw[ha,if_neg (by decide)]
       exact(cadd_full h hv hL e (by omega) (by omega) hx hf).mono fun _ _ k=> .same h hL k
     · have ha:addE L (vs/16) e=0:=by unfold addE;rw[if_neg h0,if_neg hx,if_neg hf]
       rw[ha,if_pos rfl]
       exact(cadd_ok h hv hL e he (by omega) (by omega) hx (by omega)).mono fun _ _ k=>⟨_,k.1,k.2.1,hL.insert _ (kx_le _ _) (by omega) e he (by omega) (by omega),k.2.2⟩
theorem cDrop (h:On A (cS m) w) (hv:vs≤400) (hL:Ls m (vs/16) L) (id:Nat):Calls Tryz.prog 9 #[vwV A 40 vs,.int .u64 (id:Int)] w (CAct A vs (drL L id) (.int .i64 (drR L id)) w):=by
 by_cases c:ixE L id<L.length
 · unfold drR drL
   rw[if_pos c]
   exact(cdrop_yes h hv hL id _ rfl c).mono fun _ _ k=>⟨_,k.1,k.2.1,hL.remove _ c,k.2.2⟩
 · rw[drL_none c]
   unfold drR
   rw[if_neg c]
   exact(cdrop_none h hv hL id c).mono fun _ _ k=> .same h hL k
end
end Go.Proofs.YtpkaehpllldcmaaGreatDoor.Bt
