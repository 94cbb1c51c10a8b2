import Derived.Test.YtpkaehpllldcmaaGreatDoorMoA
import Derived.Test.YtpkaehpllldcmaaGreatDoorMoU
namespace Go.Proofs.YtpkaehpllldcmaaGreatDoor.Bt
open Go Go.RowKit Go.Shelf
set_option linter.unusedVariables false
set_option linter.unusedSimpArgs false
set_option maxRecDepth 100000
section
variable {A vs:Nat} {m:Nat→UInt8} {w:World} {L:List Lk}
set_option maxHeartbeats 16000000 in
theorem cinsert (h:On A (cS m) w) (hv:vs≤400) (hL:Ls m (vs/16) L) (e:Lk) (he:e.ok) (hl:L.length<vs/16):Calls Tryz.prog 34 #[vwV A 40 vs,lV e] w (Ret A (cS (inE m (kx L e.x) L.length e)) (.tuple #[]) w):=by
 have HAL:=Lib.hid fun X (hX:On A (cS m) X)=>call hX hv hL
 have HIX:=Lib.hid fun X p cap F (hR:RowG 39 eL 2 p L X) (hF:X.heap[F]?=some (.cells #[.int .u64 (e.i:Int),.int .u64 (e.x:Int)] 39 (0,0)))=>cinsix (w:=X) p cap e F hR hF (by have:=hL.len;omega)
 have HOK:=Lib.hid he
 have hkl:=kx_le L e.x
 obtain⟨k,hk⟩:∃k,kx L e.x=k:=⟨_,rfl⟩
 rw[hk]at hkl
 have hkv:kxV L e.x=if k<L.length then(k:Int)else -1:=by unfold kxV;rw[hk]
 rw[hkv]at HIX
 rw[hk]
 obtain⟨n,hnn⟩:∃n,L.length=n:=⟨_,rfl⟩
 have HN:=Lib.hid hnn
 rw[hnn]at hl hkl HIX
 rw[hnn]
 have HSL:=Lib.hid fun X (hX:On A (cS (upE m k n)) X)=>cslot hX hv k (by omega)
 have e1:addrV 40 vs (((k:Int)+1)*16) (((n:Int)-(k:Int))*16)=((40+16*(k+1):Nat):Int):=by rw[addr_in (by omega)];push_cast;omega
 have e2:addrV 40 vs ((k:Int)*16) (((n:Int)-(k:Int))*16)=((40+16*k:Nat):Int):=by rw[addr_in (by omega)];push_cast;omega
 have HCP:Hid (∀X,On A (cS m) X→Calls Tryz.prog 55 #[vwV A 40 vs,.int .i64 (((k:Int)+1)*16),.int .i64 ((k:Int)*16),.int .i64 (((n:Int)-(k:Int))*16)] X (Ret A (cS (upE m k n)) (.int .i64 0) X)):=Lib.hid fun X hX=>by
  have:=on_copy hX 40 vs (by omega) (by omega) (((k:Int)+1)*16) ((k:Int)*16) (((n:Int)-(k:Int))*16) (by omega) (by omega)
  have ce:copyE (cS m) ((40+16*(k+1):Nat):Int) ((40+16*k:Nat):Int) (((n:Int)-(k:Int))*16)=0:=by
   unfold copyE
   rw[cS_there (by omega) (by omega) (by omega),if_neg (by simp),if_neg (by omega),cS_there (by omega) (by omega) (by omega)]
  have cs:copyS (cS m) ((40+16*(k+1):Nat):Int) ((40+16*k:Nat):Int) (((n:Int)-(k:Int))*16)=cS (upE m k n):=by
   unfold copyS
   rw[ce,if_pos rfl,if_neg (by omega),Int.toNat_natCast,Int.toNat_natCast,show((((n:Int)-(k:Int))*16).toNat)=16*(n-k) by omega]
   rfl
  rw[e1,e2,ce,cs]at this
  exact this
 have HNB:Hid (k≤24):=Lib.hid (by omega)
 have hb1:(k:Int)≤(n:Int):=by omega
 have hb2:(n:Int)≤24:=by omega
 clear e1 e2 hnn hk hkv hl hv hL he
 have f0_:=Fr.start A w
 have f1_:=f0_.new h (vwC A 40 vs) 34 (by unfold NotAr;decide)
 have h1_:=h.below (bel1 _ (.cells (vwC A 40 vs) 34))
 have f2_:=f1_.new h1_ #[.int .u64 (e.i:Int),.int .u64 (e.x:Int)] 39 (by unfold NotAr;decide)
 have h2_:=h1_.below (bel1 _ (.cells #[.int .u64 (e.i:Int),.int .u64 (e.x:Int)] 39))
 have HF0:=Lib.hid (And.intro f2_ h2_)
 clear f0_ f1_ f2_ h1_ h2_ h
 go_enter Tryz.func34,Tryz.ntmps34
 go_upto_region 1 with fail
 change Code.wp _ _ _ _ ((w.alloc (.cells (vwC A 40 vs) 34)).alloc (.cells #[.int .u64 (e.i:Int),.int .u64 (e.x:Int)] 39))
 obtain⟨y,hy⟩:∃y,((w.alloc (.cells (vwC A 40 vs) 34)).alloc (.cells #[.int .u64 (e.i:Int),.int .u64 (e.x:Int)] 39))=y:=⟨_,rfl⟩
 obtain⟨B0,hB0⟩:∃B,w.heap.size=B:=⟨_,rfl⟩
 obtain⟨B1,hB1⟩:∃B,(w.alloc (.cells (vwC A 40 vs) 34)).heap.size=B:=⟨_,rfl⟩
 have hC1:w.heap.size+1=B1:=by rw[←hB1];simp
 have hf:=HF0.out
 rw[hy,hB1,hB0]at hf
 rw[hy,hC1,hB0]
 have HF:=Lib.hid hf
 clear hf HF0 hy hB0 hB1 hC1
 have c0:=HF.out.1.cell1 0 rfl;have c1:=HF.out.1.cell1 1 rfl;have c2:=HF.out.1.cell1 2 rfl
 go_wp2_with fail
 refine(HAL.out _ HF.out.2).mono ?_
 rintro e1 w1 ⟨p,cap,rfl,hcap,hrow,hb⟩
 have HF1:=Lib.hid (And.intro (HF.out.1.below HF.out.2 hb) (HF.out.2.below hb))
 have HIX1:=Lib.hid (HIX.out _ p cap B1 hrow HF1.out.1.at0)
 rw[HN.out]
 clear hb HF c0 c1 c2 HAL hrow hcap HIX
 by_cases hkn:k<n
 · rw[if_pos hkn]at HIX1
   have hkn2:¬((k:Int)<0):=by omega
   clear hkn hkl
   go_wp2_with fail
   refine HIX1.out.mono ?_
   rintro e2 w2 ⟨rfl,hb⟩
   have HF2:=Lib.hid (And.intro (HF1.out.1.below HF1.out.2 hb) (HF1.out.2.below hb))
   clear hb HF1 HIX1
   have c0:=HF2.out.1.cell1 0 rfl;have c1:=HF2.out.1.cell1 1 rfl;have c2:=HF2.out.1.cell1 2 rfl
   go_wp2_with fail
   refine(HCP.out _ HF2.out.2).mono ?_
   rintro e3 w3 ⟨rfl,ho,hg⟩
   have HF3:=Lib.hid (And.intro (HF2.out.1.went HF2.out.2 hg) ho)
   clear ho hg HF2 c0 c1 c2 HCP
   go_upto_region 6 with fail
   have hf3:=And.intro (HF3.out.1.below HF3.out.2 (Below.refl _ _).drew) (HF3.out.2.below (Below.refl _ _).drew)
   refine wp_region_held_drew (S:=fun X=>X.heap[B1]?=some (.cells #[.int .u64 (e.i:Int),.int .u64 (e.x:Int)] 39 (0,0))∧X.heap[B0]?=some (.cells (vwC A 40 vs) 34 (0,0))) (by kernel_rfl) ⟨hf3.1.at0,hf3.1.at1⟩ (fun hHeld=>?_)
   clear HF3
   generalize w3.drew=x3 at*
   have HF3:=Lib.hid hf3
   clear hf3
   refine tk 1 (vwV A 40 vs) rfl hHeld (fun X hS=>by have s0:=(cell_blk hS.2 0).1;have s1:=(cell_blk hS.2 1).1;have s2:=(cell_blk hS.2 2).1;go_simp) ?_
   refine tk 2 (.int .i64 (k:Int)) rfl hHeld (fun X hS=>by skip;go_simp) ?_
   refine tk 4 (.pointer (some ⟨B1,0,none⟩)) rfl hHeld (fun X hS=>by skip;go_simp) ?_
   refine tk 5 (.int .u64 (e.i:Int)) rfl hHeld (fun X hS=>by have s0:=(cell_blk hS.1 0).1;have s1:=(cell_blk hS.1 1).1;go_simp) ?_
   refine tk 6 (.pointer (some ⟨B1,1,none⟩)) rfl hHeld (fun X hS=>by skip;go_simp) ?_
   refine tk 7 (.int .u64 (e.x:Int)) rfl hHeld (fun X hS=>by have s0:=(cell_blk hS.1 0).1;have s1:=(cell_blk hS.1 1).1;go_simp) ?_
   refine rd [0,8] (AllReadyH.cons rfl (fun K1 hK1=>?_) (AllReadyH.cons rfl (fun K1 hK1=>?_) AllReadyH.nil))
   · go_simp
     refine(clayout _).mono ?_
     rintro e4 x4 ⟨rfl,hb⟩
     have HF4:=Lib.hid (And.intro (HF3.out.1.below HF3.out.2 hb) (HF3.out.2.below hb))
     clear hHeld hb HF3
     refine hK1.out _ _ ⟨HF4.out.1.at0,HF4.out.1.at1⟩ (fun hHeld=>?_)
     clear hK1
     try simp only[Act.put,List.getElem_toArray,List.getElem_cons_zero,List.getElem_cons_succ,List.setIfInBounds_toArray,List.set_cons_zero,List.set_cons_succ]
     refine rd [3,8] (AllReadyH.cons rfl (fun K1 hK1=>?_) (AllReadyH.cons rfl (fun K1 hK1=>?_) AllReadyH.nil))
     · go_simp
       refine(HSL.out _ HF4.out.2).mono ?_
       rintro e5 x5 ⟨rfl,hb⟩
       have HF5:=Lib.hid (And.intro (HF4.out.1.below HF4.out.2 hb) (HF4.out.2.below hb))
       clear hHeld hb HF4 HSL
       refine hK1.out _ _ ⟨HF5.out.1.at0,HF5.out.1.at1⟩ (fun hHeld=>?_)
       clear hK1
       try simp only[Act.put,List.getElem_toArray,List.getElem_cons_zero,List.getElem_cons_succ,List.setIfInBounds_toArray,List.set_cons_zero,List.set_cons_succ]
       refine rd [8] (AllReadyH.cons rfl (fun K1 hK1=>?_) AllReadyH.nil)
       go_simp
       have hNS:=lX_ns (w:=x5) e
       have hMine:=Mine.new HF5.out.2 (.cells #[.int .u64 (e.i:Int),.int .u64 (e.x:Int)] 37)
       have hF6:=And.intro (HF5.out.1.below HF5.out.2 (bel1 x5 (.cells #[.int .u64 (e.i:Int),.int .u64 (e.x:Int)] 37))) (HF5.out.2.below (bel1 x5 (.cells #[.int .u64 (e.i:Int),.int .u64 (e.x:Int)] 37)))
       obtain⟨x6,hx6⟩:∃x6,x5.alloc (.cells #[.int .u64 (e.i:Int),.int .u64 (e.x:Int)] 37)=x6:=⟨_,rfl⟩
       obtain⟨Z,hZ⟩:∃Z,x5.heap.size=Z:=⟨_,rfl⟩
       rw[hx6]at hNS hMine hF6⊢
       rw[hZ]at hNS hMine⊢
       have HF6:=Lib.hid hF6
       have HM6:=Lib.hid (And.intro hNS hMine)
       clear hHeld hx6 hZ HF5 hF6 hNS hMine
       refine hK1.out _ _ ⟨HF6.out.1.at0,HF6.out.1.at1⟩ (fun hHeld=>?_)
       clear hK1
       try simp only[Act.put,List.getElem_toArray,List.getElem_cons_zero,List.getElem_cons_succ,List.setIfInBounds_toArray,List.set_cons_zero,List.set_cons_succ]
       refine rd [9] (AllReadyH.cons rfl (fun K1 hK1=>?_) AllReadyH.nil)
       go_simp
       refine(fputn_yes HF6.out.2 2 F2 rec2 (40+16*k) 16 (by have:=HNB.out;omega) (by omega) (some ⟨Z,0,none⟩) 2 (lX e) rfl HM6.out.1 (lX_bd HOK.out) (lX_short HOK.out) (fun b off e=>by cases e;exact HM6.out.2.own) (40+16*k) (addr_sl _) (by rw[addr_sl,F2_at.2.2];have:=HNB.out;exact cS_there (by omega) (by omega) (by omega))).mono ?_
       rintro e7 xe ⟨rfl,hO7,hG7⟩
       have hS7:=And.intro (hG7.keep HF6.out.2 HF6.out.1.at0 (by decide) (by decide) (by decide)) (hG7.keep HF6.out.2 HF6.out.1.at1 (by decide) (by decide) (by decide))
       have HW7:=Lib.hid (And.intro hO7 (HF6.out.1.wt.trans hG7))
       clear hHeld hO7 hG7 HF6 HM6
       refine hK1.out _ _ hS7 (fun hHeld=>?_)
       clear hK1
       try simp only[Act.put,List.getElem_toArray,List.getElem_cons_zero,List.getElem_cons_succ,List.setIfInBounds_toArray,List.set_cons_zero,List.set_cons_succ]
       refine wpAnyH_done (by kernel_rfl) ?_ _
       clear hHeld
       go_wp2_with fail
       exact bodyPost_ret (v:=.tuple #[]) (by simp[results,Tryz.results34,go_sem]) rfl ⟨rfl,HW7.out.1,HW7.out.2⟩
     · go_simp
       have hNS:=lX_ns (w:=x4) e
       have hMine:=Mine.new HF4.out.2 (.cells #[.int .u64 (e.i:Int),.int .u64 (e.x:Int)] 37)
       have hF6:=And.intro (HF4.out.1.below HF4.out.2 (bel1 x4 (.cells #[.int .u64 (e.i:Int),.int .u64 (e.x:Int)] 37))) (HF4.out.2.below (bel1 x4 (.cells #[.int .u64 (e.i:Int),.int .u64 (e.x:Int)] 37)))
       obtain⟨x7,hx6⟩:∃x6,x4.alloc (.cells #[.int .u64 (e.i:Int),.int .u64 (e.x:Int)] 37)=x6:=⟨_,rfl⟩
       obtain⟨Z,hZ⟩:∃Z,x4.heap.size=Z:=⟨_,rfl⟩
       rw[hx6]at hNS hMine hF6⊢
       rw[hZ]at hNS hMine⊢
       have HF7:=Lib.hid hF6
       have HM7:=Lib.hid (And.intro hNS hMine)
       clear hHeld hx6 hZ HF4 hF6 hNS hMine
       refine hK1.out _ _ ⟨HF7.out.1.at0,HF7.out.1.at1⟩ (fun hHeld=>?_)
       clear hK1
       try simp only[Act.put,List.getElem_toArray,List.getElem_cons_zero,List.getElem_cons_succ,List.setIfInBounds_toArray,List.set_cons_zero,List.set_cons_succ]
       refine rd [3] (AllReadyH.cons rfl (fun K1 hK1=>?_) AllReadyH.nil)
       go_simp
       refine(HSL.out _ HF7.out.2).mono ?_
       rintro e8 x8 ⟨rfl,hb⟩
       have HF8:=Lib.hid (And.intro (HF7.out.1.below HF7.out.2 hb) (HF7.out.2.below hb))
       have HM8:=Lib.hid (And.intro (HM7.out.1.below hb) (HM7.out.2.went (Went.of_below HF7.out.2 hb)))
       clear HM7
       clear hHeld hb HF7 HSL
       refine hK1.out _ _ ⟨HF8.out.1.at0,HF8.out.1.at1⟩ (fun hHeld=>?_)
       clear hK1
       try simp only[Act.put,List.getElem_toArray,List.getElem_cons_zero,List.getElem_cons_succ,List.setIfInBounds_toArray,List.set_cons_zero,List.set_cons_succ]
       refine rd [9] (AllReadyH.cons rfl (fun K1 hK1=>?_) AllReadyH.nil)
       go_simp
       refine(fputn_yes HF8.out.2 2 F2 rec2 (40+16*k) 16 (by have:=HNB.out;omega) (by omega) (some ⟨Z,0,none⟩) 2 (lX e) rfl HM8.out.1 (lX_bd HOK.out) (lX_short HOK.out) (fun b off e=>by cases e;exact HM8.out.2.own) (40+16*k) (addr_sl _) (by rw[addr_sl,F2_at.2.2];have:=HNB.out;exact cS_there (by omega) (by omega) (by omega))).mono ?_
       rintro e7 xe ⟨rfl,hO7,hG7⟩
       have hS7:=And.intro (hG7.keep HF8.out.2 HF8.out.1.at0 (by decide) (by decide) (by decide)) (hG7.keep HF8.out.2 HF8.out.1.at1 (by decide) (by decide) (by decide))
       have HW7:=Lib.hid (And.intro hO7 (HF8.out.1.wt.trans hG7))
       clear hHeld hO7 hG7 HF8 HM8
       refine hK1.out _ _ hS7 (fun hHeld=>?_)
       clear hK1
       try simp only[Act.put,List.getElem_toArray,List.getElem_cons_zero,List.getElem_cons_succ,List.setIfInBounds_toArray,List.set_cons_zero,List.set_cons_succ]
       refine wpAnyH_done (by kernel_rfl) ?_ _
       clear hHeld
       go_wp2_with fail
       exact bodyPost_ret (v:=.tuple #[]) (by simp[results,Tryz.results34,go_sem]) rfl ⟨rfl,HW7.out.1,HW7.out.2⟩
   · go_simp
     have hNS:=lX_ns (w:=x3) e
     have hMine:=Mine.new HF3.out.2 (.cells #[.int .u64 (e.i:Int),.int .u64 (e.x:Int)] 37)
     have hF6:=And.intro (HF3.out.1.below HF3.out.2 (bel1 x3 (.cells #[.int .u64 (e.i:Int),.int .u64 (e.x:Int)] 37))) (HF3.out.2.below (bel1 x3 (.cells #[.int .u64 (e.i:Int),.int .u64 (e.x:Int)] 37)))
     obtain⟨x9,hx6⟩:∃x6,x3.alloc (.cells #[.int .u64 (e.i:Int),.int .u64 (e.x:Int)] 37)=x6:=⟨_,rfl⟩
     obtain⟨Z,hZ⟩:∃Z,x3.heap.size=Z:=⟨_,rfl⟩
     rw[hx6]at hNS hMine hF6⊢
     rw[hZ]at hNS hMine⊢
     have HF9:=Lib.hid hF6
     have HM9:=Lib.hid (And.intro hNS hMine)
     clear hHeld hx6 hZ HF3 hF6 hNS hMine
     refine hK1.out _ _ ⟨HF9.out.1.at0,HF9.out.1.at1⟩ (fun hHeld=>?_)
     clear hK1
     try simp only[Act.put,List.getElem_toArray,List.getElem_cons_zero,List.getElem_cons_succ,List.setIfInBounds_toArray,List.set_cons_zero,List.set_cons_succ]
     refine rd [0] (AllReadyH.cons rfl (fun K1 hK1=>?_) AllReadyH.nil)
     go_simp
     refine(clayout _).mono ?_
     rintro e10 x10 ⟨rfl,hb⟩
     have HF10:=Lib.hid (And.intro (HF9.out.1.below HF9.out.2 hb) (HF9.out.2.below hb))
     have HM10:=Lib.hid (And.intro (HM9.out.1.below hb) (HM9.out.2.went (Went.of_below HF9.out.2 hb)))
     clear HM9
     clear hHeld hb HF9
     refine hK1.out _ _ ⟨HF10.out.1.at0,HF10.out.1.at1⟩ (fun hHeld=>?_)
     clear hK1
     try simp only[Act.put,List.getElem_toArray,List.getElem_cons_zero,List.getElem_cons_succ,List.setIfInBounds_toArray,List.set_cons_zero,List.set_cons_succ]
     refine rd [3] (AllReadyH.cons rfl (fun K1 hK1=>?_) AllReadyH.nil)
     go_simp
     refine(HSL.out _ HF10.out.2).mono ?_
     rintro e11 x11 ⟨rfl,hb⟩
     have HF11:=Lib.hid (And.intro (HF10.out.1.below HF10.out.2 hb) (HF10.out.2.below hb))
     have HM11:=Lib.hid (And.intro (HM10.out.1.below hb) (HM10.out.2.went (Went.of_below HF10.out.2 hb)))
     clear HM10
     clear hHeld hb HF10 HSL
     refine hK1.out _ _ ⟨HF11.out.1.at0,HF11.out.1.at1⟩ (fun hHeld=>?_)
     clear hK1
     try simp only[Act.put,List.getElem_toArray,List.getElem_cons_zero,List.getElem_cons_succ,List.setIfInBounds_toArray,List.set_cons_zero,List.set_cons_succ]
     refine rd [9] (AllReadyH.cons rfl (fun K1 hK1=>?_) AllReadyH.nil)
     go_simp
     refine(fputn_yes HF11.out.2 2 F2 rec2 (40+16*k) 16 (by have:=HNB.out;omega) (by omega) (some ⟨Z,0,none⟩) 2 (lX e) rfl HM11.out.1 (lX_bd HOK.out) (lX_short HOK.out) (fun b off e=>by cases e;exact HM11.out.2.own) (40+16*k) (addr_sl _) (by rw[addr_sl,F2_at.2.2];have:=HNB.out;exact cS_there (by omega) (by omega) (by omega))).mono ?_
     rintro e7 xe ⟨rfl,hO7,hG7⟩
     have hS7:=And.intro (hG7.keep HF11.out.2 HF11.out.1.at0 (by decide) (by decide) (by decide)) (hG7.keep HF11.out.2 HF11.out.1.at1 (by decide) (by decide) (by decide))
     have HW7:=Lib.hid (And.intro hO7 (HF11.out.1.wt.trans hG7))
     clear hHeld hO7 hG7 HF11 HM11
     refine hK1.out _ _ hS7 (fun hHeld=>?_)
     clear hK1
     try simp only[Act.put,List.getElem_toArray,List.getElem_cons_zero,List.getElem_cons_succ,List.setIfInBounds_toArray,List.set_cons_zero,List.set_cons_succ]
     refine wpAnyH_done (by kernel_rfl) ?_ _
     clear hHeld
     go_wp2_with fail
     exact bodyPost_ret (v:=.tuple #[]) (by simp[results,Tryz.results34,go_sem]) rfl ⟨rfl,HW7.out.1,HW7.out.2⟩
 · rw[if_neg hkn]at HIX1
   obtain rfl:k=n:=by omega
   have h0:((k:Int)-(k:Int))*16=0:=by omega
   rw[h0]at HCP
   clear hkn hkl h0
   go_wp2_with fail
   refine HIX1.out.mono ?_
   rintro e2 w2 ⟨rfl,hb⟩
   have HF2:=Lib.hid (And.intro (HF1.out.1.below HF1.out.2 hb) (HF1.out.2.below hb))
   clear hb HF1 HIX1
   have c0:=HF2.out.1.cell1 0 rfl;have c1:=HF2.out.1.cell1 1 rfl;have c2:=HF2.out.1.cell1 2 rfl
   go_wp2_with fail
   refine(HCP.out _ HF2.out.2).mono ?_
   rintro e3 w3 ⟨rfl,ho,hg⟩
   have HF3:=Lib.hid (And.intro (HF2.out.1.went HF2.out.2 hg) ho)
   clear ho hg HF2 c0 c1 c2 HCP
   go_upto_region 6 with fail
   have hf3:=And.intro (HF3.out.1.below HF3.out.2 (Below.refl _ _).drew) (HF3.out.2.below (Below.refl _ _).drew)
   refine wp_region_held_drew (S:=fun X=>X.heap[B1]?=some (.cells #[.int .u64 (e.i:Int),.int .u64 (e.x:Int)] 39 (0,0))∧X.heap[B0]?=some (.cells (vwC A 40 vs) 34 (0,0))) (by kernel_rfl) ⟨hf3.1.at0,hf3.1.at1⟩ (fun hHeld=>?_)
   clear HF3
   generalize w3.drew=x3 at*
   have HF3:=Lib.hid hf3
   clear hf3
   refine tk 1 (vwV A 40 vs) rfl hHeld (fun X hS=>by have s0:=(cell_blk hS.2 0).1;have s1:=(cell_blk hS.2 1).1;have s2:=(cell_blk hS.2 2).1;go_simp) ?_
   refine tk 2 (.int .i64 (k:Int)) rfl hHeld (fun X hS=>by skip;go_simp) ?_
   refine tk 4 (.pointer (some ⟨B1,0,none⟩)) rfl hHeld (fun X hS=>by skip;go_simp) ?_
   refine tk 5 (.int .u64 (e.i:Int)) rfl hHeld (fun X hS=>by have s0:=(cell_blk hS.1 0).1;have s1:=(cell_blk hS.1 1).1;go_simp) ?_
   refine tk 6 (.pointer (some ⟨B1,1,none⟩)) rfl hHeld (fun X hS=>by skip;go_simp) ?_
   refine tk 7 (.int .u64 (e.x:Int)) rfl hHeld (fun X hS=>by have s0:=(cell_blk hS.1 0).1;have s1:=(cell_blk hS.1 1).1;go_simp) ?_
   refine rd [0,8] (AllReadyH.cons rfl (fun K1 hK1=>?_) (AllReadyH.cons rfl (fun K1 hK1=>?_) AllReadyH.nil))
   · go_simp
     refine(clayout _).mono ?_
     rintro e4 x4 ⟨rfl,hb⟩
     have HF4:=Lib.hid (And.intro (HF3.out.1.below HF3.out.2 hb) (HF3.out.2.below hb))
     clear hHeld hb HF3
     refine hK1.out _ _ ⟨HF4.out.1.at0,HF4.out.1.at1⟩ (fun hHeld=>?_)
     clear hK1
     try simp only[Act.put,List.getElem_toArray,List.getElem_cons_zero,List.getElem_cons_succ,List.setIfInBounds_toArray,List.set_cons_zero,List.set_cons_succ]
     refine rd [3,8] (AllReadyH.cons rfl (fun K1 hK1=>?_) (AllReadyH.cons rfl (fun K1 hK1=>?_) AllReadyH.nil))
     · go_simp
       refine(HSL.out _ HF4.out.2).mono ?_
       rintro e5 x5 ⟨rfl,hb⟩
       have HF5:=Lib.hid (And.intro (HF4.out.1.below HF4.out.2 hb) (HF4.out.2.below hb))
       clear hHeld hb HF4 HSL
       refine hK1.out _ _ ⟨HF5.out.1.at0,HF5.out.1.at1⟩ (fun hHeld=>?_)
       clear hK1
       try simp only[Act.put,List.getElem_toArray,List.getElem_cons_zero,List.getElem_cons_succ,List.setIfInBounds_toArray,List.set_cons_zero,List.set_cons_succ]
       refine rd [8] (AllReadyH.cons rfl (fun K1 hK1=>?_) AllReadyH.nil)
       go_simp
       have hNS:=lX_ns (w:=x5) e
       have hMine:=Mine.new HF5.out.2 (.cells #[.int .u64 (e.i:Int),.int .u64 (e.x:Int)] 37)
       have hF6:=And.intro (HF5.out.1.below HF5.out.2 (bel1 x5 (.cells #[.int .u64 (e.i:Int),.int .u64 (e.x:Int)] 37))) (HF5.out.2.below (bel1 x5 (.cells #[.int .u64 (e.i:Int),.int .u64 (e.x:Int)] 37)))
       obtain⟨x6,hx6⟩:∃x6,x5.alloc (.cells #[.int .u64 (e.i:Int),.int .u64 (e.x:Int)] 37)=x6:=⟨_,rfl⟩
       obtain⟨Z,hZ⟩:∃Z,x5.heap.size=Z:=⟨_,rfl⟩
       rw[hx6]at hNS hMine hF6⊢
       rw[hZ]at hNS hMine⊢
       have HF6:=Lib.hid hF6
       have HM6:=Lib.hid (And.intro hNS hMine)
       clear hHeld hx6 hZ HF5 hF6 hNS hMine
       refine hK1.out _ _ ⟨HF6.out.1.at0,HF6.out.1.at1⟩ (fun hHeld=>?_)
       clear hK1
       try simp only[Act.put,List.getElem_toArray,List.getElem_cons_zero,List.getElem_cons_succ,List.setIfInBounds_toArray,List.set_cons_zero,List.set_cons_succ]
       refine rd [9] (AllReadyH.cons rfl (fun K1 hK1=>?_) AllReadyH.nil)
       go_simp
       refine(fputn_yes HF6.out.2 2 F2 rec2 (40+16*k) 16 (by have:=HNB.out;omega) (by omega) (some ⟨Z,0,none⟩) 2 (lX e) rfl HM6.out.1 (lX_bd HOK.out) (lX_short HOK.out) (fun b off e=>by cases e;exact HM6.out.2.own) (40+16*k) (addr_sl _) (by rw[addr_sl,F2_at.2.2];have:=HNB.out;exact cS_there (by omega) (by omega) (by omega))).mono ?_
       rintro e7 xe ⟨rfl,hO7,hG7⟩
       have hS7:=And.intro (hG7.keep HF6.out.2 HF6.out.1.at0 (by decide) (by decide) (by decide)) (hG7.keep HF6.out.2 HF6.out.1.at1 (by decide) (by decide) (by decide))
       have HW7:=Lib.hid (And.intro hO7 (HF6.out.1.wt.trans hG7))
       clear hHeld hO7 hG7 HF6 HM6
       refine hK1.out _ _ hS7 (fun hHeld=>?_)
       clear hK1
       try simp only[Act.put,List.getElem_toArray,List.getElem_cons_zero,List.getElem_cons_succ,List.setIfInBounds_toArray,List.set_cons_zero,List.set_cons_succ]
       refine wpAnyH_done (by kernel_rfl) ?_ _
       clear hHeld
       go_wp2_with fail
       exact bodyPost_ret (v:=.tuple #[]) (by simp[results,Tryz.results34,go_sem]) rfl ⟨rfl,HW7.out.1,HW7.out.2⟩
     · go_simp
       have hNS:=lX_ns (w:=x4) e
       have hMine:=Mine.new HF4.out.2 (.cells #[.int .u64 (e.i:Int),.int .u64 (e.x:Int)] 37)
       have hF6:=And.intro (HF4.out.1.below HF4.out.2 (bel1 x4 (.cells #[.int .u64 (e.i:Int),.int .u64 (e.x:Int)] 37))) (HF4.out.2.below (bel1 x4 (.cells #[.int .u64 (e.i:Int),.int .u64 (e.x:Int)] 37)))
       obtain⟨x7,hx6⟩:∃x6,x4.alloc (.cells #[.int .u64 (e.i:Int),.int .u64 (e.x:Int)] 37)=x6:=⟨_,rfl⟩
       obtain⟨Z,hZ⟩:∃Z,x4.heap.size=Z:=⟨_,rfl⟩
       rw[hx6]at hNS hMine hF6⊢
       rw[hZ]at hNS hMine⊢
       have HF7:=Lib.hid hF6
       have HM7:=Lib.hid (And.intro hNS hMine)
       clear hHeld hx6 hZ HF4 hF6 hNS hMine
       refine hK1.out _ _ ⟨HF7.out.1.at0,HF7.out.1.at1⟩ (fun hHeld=>?_)
       clear hK1
       try simp only[Act.put,List.getElem_toArray,List.getElem_cons_zero,List.getElem_cons_succ,List.setIfInBounds_toArray,List.set_cons_zero,List.set_cons_succ]
       refine rd [3] (AllReadyH.cons rfl (fun K1 hK1=>?_) AllReadyH.nil)
       go_simp
       refine(HSL.out _ HF7.out.2).mono ?_
       rintro e8 x8 ⟨rfl,hb⟩
       have HF8:=Lib.hid (And.intro (HF7.out.1.below HF7.out.2 hb) (HF7.out.2.below hb))
       have HM8:=Lib.hid (And.intro (HM7.out.1.below hb) (HM7.out.2.went (Went.of_below HF7.out.2 hb)))
       clear HM7
       clear hHeld hb HF7 HSL
       refine hK1.out _ _ ⟨HF8.out.1.at0,HF8.out.1.at1⟩ (fun hHeld=>?_)
       clear hK1
       try simp only[Act.put,List.getElem_toArray,List.getElem_cons_zero,List.getElem_cons_succ,List.setIfInBounds_toArray,List.set_cons_zero,List.set_cons_succ]
       refine rd [9] (AllReadyH.cons rfl (fun K1 hK1=>?_) AllReadyH.nil)
       go_simp
       refine(fputn_yes HF8.out.2 2 F2 rec2 (40+16*k) 16 (by have:=HNB.out;omega) (by omega) (some ⟨Z,0,none⟩) 2 (lX e) rfl HM8.out.1 (lX_bd HOK.out) (lX_short HOK.out) (fun b off e=>by cases e;exact HM8.out.2.own) (40+16*k) (addr_sl _) (by rw[addr_sl,F2_at.2.2];have:=HNB.out;exact cS_there (by omega) (by omega) (by omega))).mono ?_
       rintro e7 xe ⟨rfl,hO7,hG7⟩
       have hS7:=And.intro (hG7.keep HF8.out.2 HF8.out.1.at0 (by decide) (by decide) (by decide)) (hG7.keep HF8.out.2 HF8.out.1.at1 (by decide) (by decide) (by decide))
       have HW7:=Lib.hid (And.intro hO7 (HF8.out.1.wt.trans hG7))
       clear hHeld hO7 hG7 HF8 HM8
       refine hK1.out _ _ hS7 (fun hHeld=>?_)
       clear hK1
       try simp only[Act.put,List.getElem_toArray,List.getElem_cons_zero,List.getElem_cons_succ,List.setIfInBounds_toArray,List.set_cons_zero,List.set_cons_succ]
       refine wpAnyH_done (by kernel_rfl) ?_ _
       clear hHeld
       go_wp2_with fail
       exact bodyPost_ret (v:=.tuple #[]) (by simp[results,Tryz.results34,go_sem]) rfl ⟨rfl,HW7.out.1,HW7.out.2⟩
   · go_simp
     have hNS:=lX_ns (w:=x3) e
     have hMine:=Mine.new HF3.out.2 (.cells #[.int .u64 (e.i:Int),.int .u64 (e.x:Int)] 37)
     have hF6:=And.intro (HF3.out.1.below HF3.out.2 (bel1 x3 (.cells #[.int .u64 (e.i:Int),.int .u64 (e.x:Int)] 37))) (HF3.out.2.below (bel1 x3 (.cells #[.int .u64 (e.i:Int),.int .u64 (e.x:Int)] 37)))
     obtain⟨x9,hx6⟩:∃x6,x3.alloc (.cells #[.int .u64 (e.i:Int),.int .u64 (e.x:Int)] 37)=x6:=⟨_,rfl⟩
     obtain⟨Z,hZ⟩:∃Z,x3.heap.size=Z:=⟨_,rfl⟩
     rw[hx6]at hNS hMine hF6⊢
     rw[hZ]at hNS hMine⊢
     have HF9:=Lib.hid hF6
     have HM9:=Lib.hid (And.intro hNS hMine)
     clear hHeld hx6 hZ HF3 hF6 hNS hMine
     refine hK1.out _ _ ⟨HF9.out.1.at0,HF9.out.1.at1⟩ (fun hHeld=>?_)
     clear hK1
     try simp only[Act.put,List.getElem_toArray,List.getElem_cons_zero,List.getElem_cons_succ,List.setIfInBounds_toArray,List.set_cons_zero,List.set_cons_succ]
     refine rd [0] (AllReadyH.cons rfl (fun K1 hK1=>?_) AllReadyH.nil)
     go_simp
     refine(clayout _).mono ?_
     rintro e10 x10 ⟨rfl,hb⟩
     have HF10:=Lib.hid (And.intro (HF9.out.1.below HF9.out.2 hb) (HF9.out.2.below hb))
     have HM10:=Lib.hid (And.intro (HM9.out.1.below hb) (HM9.out.2.went (Went.of_below HF9.out.2 hb)))
     clear HM9
     clear hHeld hb HF9
     refine hK1.out _ _ ⟨HF10.out.1.at0,HF10.out.1.at1⟩ (fun hHeld=>?_)
     clear hK1
     try simp only[Act.put,List.getElem_toArray,List.getElem_cons_zero,List.getElem_cons_succ,List.setIfInBounds_toArray,List.set_cons_zero,List.set_cons_succ]
     refine rd [3] (AllReadyH.cons rfl (fun K1 hK1=>?_) AllReadyH.nil)
     go_simp
     refine(HSL.out _ HF10.out.2).mono ?_
     rintro e11 x11 ⟨rfl,hb⟩
     have HF11:=Lib.hid (And.intro (HF10.out.1.below HF10.out.2 hb) (HF10.out.2.below hb))
     have HM11:=Lib.hid (And.intro (HM10.out.1.below hb) (HM10.out.2.went (Went.of_below HF10.out.2 hb)))
     clear HM10
     clear hHeld hb HF10 HSL
     refine hK1.out _ _ ⟨HF11.out.1.at0,HF11.out.1.at1⟩ (fun hHeld=>?_)
     clear hK1
     try simp only[Act.put,List.getElem_toArray,List.getElem_cons_zero,List.getElem_cons_succ,List.setIfInBounds_toArray,List.set_cons_zero,List.set_cons_succ]
     refine rd [9] (AllReadyH.cons rfl (fun K1 hK1=>?_) AllReadyH.nil)
     go_simp
     refine(fputn_yes HF11.out.2 2 F2 rec2 (40+16*k) 16 (by have:=HNB.out;omega) (by omega) (some ⟨Z,0,none⟩) 2 (lX e) rfl HM11.out.1 (lX_bd HOK.out) (lX_short HOK.out) (fun b off e=>by cases e;exact HM11.out.2.own) (40+16*k) (addr_sl _) (by rw[addr_sl,F2_at.2.2];have:=HNB.out;exact cS_there (by omega) (by omega) (by omega))).mono ?_
     rintro e7 xe ⟨rfl,hO7,hG7⟩
     have hS7:=And.intro (hG7.keep HF11.out.2 HF11.out.1.at0 (by decide) (by decide) (by decide)) (hG7.keep HF11.out.2 HF11.out.1.at1 (by decide) (by decide) (by decide))
     have HW7:=Lib.hid (And.intro hO7 (HF11.out.1.wt.trans hG7))
     clear hHeld hO7 hG7 HF11 HM11
     refine hK1.out _ _ hS7 (fun hHeld=>?_)
     clear hK1
     try simp only[Act.put,List.getElem_toArray,List.getElem_cons_zero,List.getElem_cons_succ,List.setIfInBounds_toArray,List.set_cons_zero,List.set_cons_succ]
     refine wpAnyH_done (by kernel_rfl) ?_ _
     clear hHeld
     go_wp2_with fail
     exact bodyPost_ret (v:=.tuple #[]) (by simp[results,Tryz.results34,go_sem]) rfl ⟨rfl,HW7.out.1,HW7.out.2⟩
end
end Go.Proofs.YtpkaehpllldcmaaGreatDoor.Bt
