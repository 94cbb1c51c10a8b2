/- FdK, FdFm, FdM. -/
import Derived.Test.YtpkaehpllldcmaaGreatDoorMoA
import Derived.Test.YtpkaehpllldcmaaGreatDoorMoQ
import Derived.Test.YtpkaehpllldcmaaGreatDoorMoP
section
namespace Go.Proofs.YtpkaehpllldcmaaGreatDoor.Bt
open Go Go.RowKit Go.Shelf
set_option linter.unusedVariables false
set_option linter.unusedSimpArgs false
def numC (n:Nat) (vf:Nat→Int) (j:Nat):Array Value:=((List.range n).map fun k=>Value.int .u64 (if k<j then vf k else 0)).toArray
theorem numC_size (n:Nat) (vf:Nat→Int) (j:Nat):(numC n vf j).size=n:=by simp[numC]
theorem numC_get (n:Nat) (vf:Nat→Int) (j k:Nat) (hk:k<n):(numC n vf j)[k]?=some (.int .u64 (if k<j then vf k else 0)):=by simp[numC,hk]
theorem numC_at (n:Nat) (vf:Nat→Int) (j k:Nat) (hk:k<n) (h:j≤k):(numC n vf j)[k]?=some (.int .u64 0):=by rw[numC_get _ _ _ _ hk,if_neg (by omega)]
theorem numC_step (n:Nat) (vf:Nat→Int) (j:Nat) (hj:j<n):(numC n vf j).setIfInBounds j (.int .u64 (vf j))=numC n vf (j+1):=by
 apply Array.ext_getElem?
 intro k
 by_cases hk:k<n
 · rw[numC_get _ _ _ _ hk,Array.getElem?_setIfInBounds]
   by_cases e:j=k
   · subst e;rw[if_pos rfl,numC_size,if_pos hj,if_pos (by omega)]
   · rw[if_neg e,numC_get _ _ _ _ hk]
     by_cases h:k<j
     · rw[if_pos h,if_pos (by omega)]
     · rw[if_neg h,if_neg (by omega)]
 · rw[Array.getElem?_eq_none (by rw[Array.size_setIfInBounds,numC_size];omega),Array.getElem?_eq_none (by rw[numC_size];omega)]
theorem Tryz.infoU64:(Tryz.prog.info? 37).map (fun i=>(i.zero,i.size,i.bytes))=some (some (.int .u64 0),1,8):=by kernel_rfl
theorem made_num (n:Nat) (vf:Nat→Int):madeCells (Value.int .u64 0).cells (n*1)=numC n vf 0:=by
 apply Array.ext_getElem?
 intro j
 by_cases hj:j<n
 · rw[numC_get _ _ _ _ hj];simp[madeCells,hj,Value.cells,Nat.mod_one]
 · rw[Array.getElem?_eq_none (by rw[size_madeCells];omega),Array.getElem?_eq_none (by rw[numC_size];omega)]
theorem run_nums (n:Nat) (vf:Nat→Int) (hn:n≤1000) (w:World):
 (Instr.makeSlice 129 (.int .i64 (n:Int)) (.int .i64 (n:Int))).run Tryz.prog w=.ok (.slice (some ⟨w.heap.size,0,none⟩) n n) (w.alloc (.cells (numC n vf 0) 37)):=by
 obtain⟨i0,hi,hz0,hz1,hz2⟩:=info_parts Tryz.infoU64
 have h:=run_make (P:=Tryz.prog) w 129 37 i0 (.int .u64 0) Tryz.underlying129 hi hz0 .i64 .i64 (n:Int) n (by omega) (Int.le_refl _) (by rw[hz2];omega) (by omega)
 rw[Int.toNat_natCast,hz1,made_num n vf]at h
 exact h
def allV (s:ASt) (an:Nat) (f:Nat→Nat) (k:Nat):Int:=(numV s.mm (an+f k) (f (k+1)-f k):Nat)
def AllPf (n:Nat) (vf:Nat→Int) (w:World) (e:Ending) (w':World):Prop:=
 ∃N,e=.returned (.tuple #[.slice (some ⟨N,0,none⟩) n n,.int .i64 0])∧w'.heap[N]?=some (.cells (numC n vf n) 37 (0,0))∧w.heap.size≤N∧Below w.heap.size w w'
section
variable {A:Nat} {s:ASt} {w:World}
set_option maxRecDepth 100000 in
set_option maxHeartbeats 8000000 in
theorem fall_on (h:On A s w) (n:Nat) (f:Nat→Nat) (hr:Rec n f) (va vs:Nat) (h1_:va≤4294967296) (h2_:vs≤4294967296)
 (an:Nat) (han:addrV va vs 0 (f n:Nat)=an) (he:thereE s.L s.es (addrV va vs 0 (f n:Nat)) (f n:Nat)=0):
 Calls Tryz.prog 65 #[.agg (recC n f),vwV A va vs] w (AllPf n (allV s an f) w):=by
 have HV:=Lib.hid (rv_new n f A va vs w)
 have hn32:=hr.n32
 have HO:=Lib.hid h
 rw[han]at he
 have han32:an≤4294967296:=by
  have hh:=(there_iff h.good an (f n:Nat)).1 (by unfold thereE at he;cases hq:thereB s.L s.es an (f n:Nat)with
   |true=>rfl
   |false=>rw[hq]at he;cases he)
  have:=h.good.small
  omega
 have HST:Hid (∀j,j<n→ldV s (addrV an (f n) (f j:Nat) (f (j+1)-f j:Nat)) (f (j+1)-f j:Nat)=allV s an f j∧numE s.L s.es (addrV an (f n) (f j:Nat) (f (j+1)-f j:Nat)) (f (j+1)-f j:Nat)=0):=Lib.hid (fun j hj=>by
  have hle:=hr.le (show j+1≤n by omega) (Nat.le_refl n)
  have hmo:=hr.mono j hj
  have ha:addrV an (f n) (f j:Nat) (f (j+1)-f j:Nat)=((an+f j:Nat):Int):=by unfold addrV;rw[if_pos (by omega)];omega
  have hnu:numE s.L s.es ((an+f j:Nat):Int) (f (j+1)-f j:Nat)=0:=by
   unfold numE;rw[hr.whole j hj,if_pos rfl];exact there_part h.good he (by omega) (by omega) (by omega)
  rw[ha]
  refine⟨?_,hnu⟩
  unfold ldV
  rw[if_pos hnu,Int.toNat_natCast,Int.toNat_natCast]
  rfl)
 have HA:=Lib.hid han;have HE:=Lib.hid he
 have HVO:Hid (∀pu a k,ofV pu a k 0=.agg #[.pointer pu,.int .i64 a,.int .i64 k]):=Lib.hid fun pu a k=>by unfold ofV;rw[if_pos rfl]
 have HZ:Hid ((Tryz.prog.info? 122).map (·.size)=some (recC n f).size):=Lib.hid (by rw[recC_size];exact Tryz.infoRec)
 have hu:=Tryz.underlying122
 have hi:(Tryz.prog.info? 122).map (·.size)=some (recC n f).toList.length:=by rw[Array.length_toList];exact HZ.out
 have HR:=Lib.hid hr
 obtain⟨vf,hvf⟩:∃vf,allV s an f=vf:=⟨_,rfl⟩
 rw[hvf]at HST⊢
 have HMK:=run_nums n vf (by omega)
 have HW:=Lib.hid (below2 w (.cells (recC n f) 122) (.cells #[.pointer (some ⟨A,0,none⟩),.int .i64 (va:Int),.int .i64 (vs:Int)] 30))
 clear hr h han he hvf
 go_enter Tryz.func65,Tryz.ntmps65
 go_wp2_with fail
 obtain⟨wr,hy⟩:∃y,(w.alloc (.cells (recC n f) 122)).alloc (.cells #[.pointer (some ⟨A,0,none⟩),.int .i64 (va:Int),.int .i64 (vs:Int)] 30)=y:=⟨_,rfl⟩
 obtain⟨B,hB⟩:∃B,w.heap.size=B:=⟨_,rfl⟩
 obtain⟨V,hVV⟩:∃V,B+1=V:=⟨_,rfl⟩
 rw[hy]at HV HW⊢
 rw[hB]at HV⊢
 rw[hVV]at HV⊢
 clear hy hB hVV
 have HVJ:=HV;have HBJ:=HW
 clear HV HW
 refine wp_region_held_drew (S:=RVS B V n f A va vs w) (by kernel_rfl) (rvs_mk (RV.below HVJ.out (Below.refl _ _).drew) HBJ.out.drew) (fun hHeld=>?_)
 refine tk 0 (.agg #[.pointer (some ⟨A,0,none⟩),.int .i64 (va:Int),.int .i64 (vs:Int)]) rfl hHeld (fun X hS=>by obtain⟨s1,s2,s3,_,_,_⟩:=hS;go_simp) ?_
 refine wpAnyH_take (i:=1) (v:=.agg (recC n f)) rfl (by kernel_rfl) (by kernel_rfl) (by kernel_rfl) (fun _ _ _ h=>h) (yieldsIf_load_mid (by rfl) 122 (.tmp 2) rfl B 0 rfl (recC n f).toList _ (fun X hS=>hS.2.2.2.1) hu rfl hi) hHeld ?_
 try simp only[Act.put,List.getElem_toArray,List.getElem_cons_zero,List.getElem_cons_succ,List.setIfInBounds_toArray,List.set_cons_zero,List.set_cons_succ]
 refine wpAnyH_ready (rs:=[2,7]) (by kernel_rfl) (by simp) ?_
 refine(AllReadyH.cons rfl (fun K hK=>?_) (AllReadyH.cons rfl (fun K hK=>?_) AllReadyH.nil))
 · go_simp
   refine(fsize_any n f hn32 _).mono ?_
   rintro e x1 ⟨rfl,hb1⟩
   have h1:=rvs_below hHeld hb1
   clear hHeld
   refine hK.out _ _ h1 (fun hHeld=>?_)
   clear hK h1
   try simp only[Act.put,List.getElem_toArray,List.getElem_cons_zero,List.getElem_cons_succ,List.setIfInBounds_toArray,List.set_cons_zero,List.set_cons_succ]
   refine wpAnyH_ready (rs:=[3,7]) (by kernel_rfl) (by simp) ?_
   refine(AllReadyH.cons rfl (fun K hK=>?_) (AllReadyH.cons rfl (fun K hK=>?_) AllReadyH.nil))
   · go_simp
     refine(on_part (HO.out.below hHeld.2.2.2.2.2) va vs h1_ h2_ 0 ((f n:Nat):Int) (by omega)).mono ?_
     rintro e x2 ⟨rfl,hb2⟩
     rw[HA.out,HE.out,HVO.out]
     have h1:=rvs_below hHeld hb2
     refine hK.out _ _ h1 (fun hHeld2=>?_)
     clear hK h1
     try simp only[Act.put,List.getElem_toArray,List.getElem_cons_zero,List.getElem_cons_succ,List.setIfInBounds_toArray,List.set_cons_zero,List.set_cons_succ]
     have hHeld3:=hHeld2
     clear hHeld
     have hHeld:=hHeld3
     clear hHeld2 hHeld3
     refine tk 4 (.tuple #[.agg #[.pointer (some ⟨A,0,none⟩),.int .i64 (an:Int),.int .i64 ((f n:Nat):Int)],.int .i64 0]) rfl hHeld (fun X hS=>by obtain⟨s1,s2,s3,_,_,_⟩:=hS;go_simp) ?_
     refine tk 5 (.agg #[.pointer (some ⟨A,0,none⟩),.int .i64 (an:Int),.int .i64 ((f n:Nat):Int)]) rfl hHeld (fun X hS=>by obtain⟨s1,s2,s3,_,_,_⟩:=hS;go_simp) ?_
     refine tk 6 (.int .i64 0) rfl hHeld (fun X hS=>by obtain⟨s1,s2,s3,_,_,_⟩:=hS;go_simp) ?_
     refine wpAnyH_ready (rs:=[7]) (by kernel_rfl) (by simp) ?_
     refine(AllReadyH.cons rfl (fun K hK=>?_) AllReadyH.nil)
     go_simp
     refine hK.out _ _ (rvs_below hHeld (bel1 _ _)) (fun hHeld2=>?_)
     clear hK
     try simp only[Act.put,List.getElem_toArray,List.getElem_cons_zero,List.getElem_cons_succ,List.setIfInBounds_toArray,List.set_cons_zero,List.set_cons_succ]
     refine wpAnyH_ready (rs:=[8]) (by kernel_rfl) (by simp) ?_
     refine(AllReadyH.cons rfl (fun K hK=>?_) AllReadyH.nil)
     go_simp
     have hF:=rvs_below hHeld (bel1 x2 (.cells #[.pointer (some ⟨A,0,none⟩),.int .i64 (an:Int),.int .i64 ((f n:Nat):Int)] 30))
     refine hK.out _ _ hF (fun hHeld3=>?_)
     clear hK hHeld2
     try simp only[Act.put,List.getElem_toArray,List.getElem_cons_zero,List.getElem_cons_succ,List.setIfInBounds_toArray,List.set_cons_zero,List.set_cons_succ]
     have VC9:VC x2.heap.size (some ⟨A,0,none⟩) an (f n) (x2.alloc (.cells #[.pointer (some ⟨A,0,none⟩),.int .i64 (an:Int),.int .i64 ((f n:Nat):Int)] 30)):=heap_new _ _
     clear hHeld
     have hHeld:=hHeld3
     clear hHeld3 hF
     refine tk 9 (.int .i64 0) rfl hHeld (fun X hS=>by obtain⟨s1,s2,s3,_,_,_⟩:=hS;go_simp) ?_
     refine wpAnyH_done (by kernel_rfl) ?_ _
     obtain⟨wF,hwF⟩:∃x,x2.alloc (.cells #[.pointer (some ⟨A,0,none⟩),.int .i64 (an:Int),.int .i64 ((f n:Nat):Int)] 30)=x:=⟨_,rfl⟩
     obtain⟨R,hRR⟩:∃x,x2.heap.size=x:=⟨_,rfl⟩
     rw[hwF]at VC9 hHeld⊢
     rw[hRR]at VC9⊢
     clear hwF hRR
     have HRV:=Lib.hid hHeld.2.2.2.2.1;have HVC:=Lib.hid VC9;have HBF:=Lib.hid hHeld.2.2.2.2.2
     have c0:=HRV.out.1.n
     clear hHeld VC9
     go_wp2_with fail
     have HNB:=Lib.hid (heap_new wF (.cells (numC n vf 0) 37))
     have HRV1:=Lib.hid (HRV.out.below (bel1 wF (.cells (numC n vf 0) 37)));have HVC1:=Lib.hid (HVC.out.below (bel1 wF (.cells (numC n vf 0) 37)));have HBF1:=Lib.hid (HBF.out.alloc HBF.out.size (.cells (numC n vf 0) 37))
     have HNE:Hid (B≠wF.heap.size∧V≠wF.heap.size∧R≠wF.heap.size∧w.heap.size≤wF.heap.size):=Lib.hid (by
      have h1:=(Array.getElem?_eq_some_iff.1 HRV.out.1).1
      have h2:=(Array.getElem?_eq_some_iff.1 HRV.out.2).1
      have h3:=(Array.getElem?_eq_some_iff.1 HVC.out).1
      have h4:=HBF.out.size
      omega)
     obtain⟨N,hNN⟩:∃x,wF.heap.size=x:=⟨_,rfl⟩
     obtain⟨wN,hwN⟩:∃x,wF.alloc (.cells (numC n vf 0) 37)=x:=⟨_,rfl⟩
     rw[hwN]at HNB HRV1 HVC1 HBF1⊢
     rw[hNN]at HNB HNE⊢
     clear hNN hwN HRV HVC HBF c0
     go_loopw[25] (fun v wr2=>∃j:Nat,j≤n∧v=.int .i64 (j:Int)∧wr2.heap[N]?=some (.cells (numC n vf j) 37 (0,0))∧RV B V n f A va vs wr2∧VC R (some ⟨A,0,none⟩) an (f n) wr2∧Below w.heap.size w wr2) (fun v _=>n-(intOf v).toNat)
     case atStart=>exact⟨0,Nat.zero_le _,rfl,HNB.out,HRV1.out,HVC1.out,HBF1.out⟩
     case round=>
      obtain⟨j,hj,rfl,ho,hv,hvc,hg⟩:=hrel
      have HN2:=Lib.hid ho;have HV2:=Lib.hid hv;have HC2:=Lib.hid hvc;have HG2:=Lib.hid hg
      clear ho hv hvc hg HNB HRV1 HVC1 HBF1
      by_cases hlt:j<n
      · have HSJ:=Lib.hid (HST.out j hlt)
        have c0:=(cell_blk HC2.out 0).1;have c1:=(cell_blk HC2.out 1).1;have c2:=(cell_blk HC2.out 2).1
        go_wp2_with (refine wpList_load_row rfl 122 (.tmp 2) rfl B rfl 122 (recC n f) (0,0) _ HV2.out.1 Tryz.underlying122 rfl HZ.out ?_)
        refine(fget_on (HO.out.below HG2.out) n f an (f n) han32 (by have:=HR.out.small (k:=n) (Nat.le_refl _);omega) hn32 j hlt (HR.out.mono j hlt) (by have:=HR.out.small (k:=j+1) (by omega);omega)).mono ?_
        rintro e w3 ⟨rfl,hb3⟩
        rw[HSJ.out.1,HSJ.out.2]
        have HN3:=Lib.hid (blk_at hb3 HN2.out)
        have HV3:=Lib.hid (HV2.out.below hb3)
        have HC3:=Lib.hid (HC2.out.below hb3)
        have HG3:=Lib.hid (HG2.out.trans (hb3.mono HG2.out.size))
        clear hb3 c0 c1 c2
        have e0:w3.cell? ⟨N,j,none⟩=some (.int .u64 0):=(cell_blk HN3.out j).1.trans (numC_at n vf j j hlt (Nat.le_refl _))
        have e1:=(cell_blk HN3.out j).2
        go_wp2_with fail
        go_roundw
        case rel=>
         refine⟨j+1,by omega,by go_num,?_,⟨(set_other _ HNE.out.1).trans HV3.out.1,(set_other _ HNE.out.2.1).trans HV3.out.2⟩,(set_other _ HNE.out.2.2.1).trans HC3.out,HG3.out.setCell (p:=⟨N,j,none⟩) HNE.out.2.2.2 _⟩
         rw[heap_set HN3.out,numC_step n vf j hlt]
        case measure=>simp[intOf];omega
      · obtain rfl:j=n:=by omega
        go_wp2_with fail
        go_ret2
        exact⟨N,rfl,HN2.out,HNE.out.2.2.2,HG2.out⟩
   · go_simp
     have hR:=heap_new x1 (.cells #[.pointer none,.int .i64 0,.int .i64 0] 30)
     have hne:B≠x1.heap.size∧V≠x1.heap.size:=rvs_ne hHeld
     have hRw:w.heap.size≤x1.heap.size:=hHeld.2.2.2.2.2.size
     have h1:=rvs_below hHeld (bel1 x1 (.cells #[.pointer none,.int .i64 0,.int .i64 0] 30))
     clear hHeld
     refine hK.out _ _ h1 (fun hHeld=>?_)
     clear hK h1
     try simp only[Act.put,List.getElem_toArray,List.getElem_cons_zero,List.getElem_cons_succ,List.setIfInBounds_toArray,List.set_cons_zero,List.set_cons_succ]
     refine wpAnyH_ready (rs:=[3]) (by kernel_rfl) (by simp) ?_
     refine(AllReadyH.cons rfl (fun K hK=>?_) AllReadyH.nil)
     go_simp
     refine(on_part (HO.out.below hHeld.2.2.2.2.2) va vs h1_ h2_ 0 ((f n:Nat):Int) (by omega)).mono ?_
     rintro e x2 ⟨rfl,hb2⟩
     rw[HA.out,HE.out,HVO.out]
     have h1:=rvs_below hHeld hb2
     refine hK.out _ _ h1 (fun hHeld2=>?_)
     clear hK h1
     try simp only[Act.put,List.getElem_toArray,List.getElem_cons_zero,List.getElem_cons_succ,List.setIfInBounds_toArray,List.set_cons_zero,List.set_cons_succ]
     have hR2:=(hb2.block _ (Array.getElem?_eq_some_iff.1 hR).1).trans hR
     clear hR
     obtain⟨R,hRR⟩:∃x,x1.heap.size=x:=⟨_,rfl⟩
     rw[hRR]at hR2 hne hRw⊢
     clear hRR
     have hHeld3:=hHeld2
     clear hHeld
     have hHeld:=hHeld3
     clear hHeld2 hHeld3
     refine tk 4 (.tuple #[.agg #[.pointer (some ⟨A,0,none⟩),.int .i64 (an:Int),.int .i64 ((f n:Nat):Int)],.int .i64 0]) rfl hHeld (fun X hS=>by obtain⟨s1,s2,s3,_,_,_⟩:=hS;go_simp) ?_
     refine tk 5 (.agg #[.pointer (some ⟨A,0,none⟩),.int .i64 (an:Int),.int .i64 ((f n:Nat):Int)]) rfl hHeld (fun X hS=>by obtain⟨s1,s2,s3,_,_,_⟩:=hS;go_simp) ?_
     refine tk 6 (.int .i64 0) rfl hHeld (fun X hS=>by obtain⟨s1,s2,s3,_,_,_⟩:=hS;go_simp) ?_
     refine wpAnyH_ready (rs:=[8]) (by kernel_rfl) (by simp) ?_
     refine(AllReadyH.cons rfl (fun K hK=>?_) AllReadyH.nil)
     have r0:=(cell_blk hR2 0).1;have r1:=(cell_blk hR2 1).1;have r2:=(cell_blk hR2 2).1;have f0:=(cell_blk hR2 0).2;have f1:=(cell_blk hR2 1).2;have f2:=(cell_blk hR2 2).2
     have HR2:=Lib.hid hR2
     clear hR2
     go_simp
     have hF:=rvs_far hHeld hne (.pointer (some ⟨A,0,none⟩)) (.int .i64 (an:Int)) (.int .i64 ((f n:Nat):Int)) hRw
     refine hK.out _ _ hF (fun hHeld3=>?_)
     clear hK r0 r1 r2 f0 f1 f2
     try simp only[Act.put,List.getElem_toArray,List.getElem_cons_zero,List.getElem_cons_succ,List.setIfInBounds_toArray,List.set_cons_zero,List.set_cons_succ]
     have VC9:VC R (some ⟨A,0,none⟩) an (f n) _:=three_set HR2.out rfl (.pointer (some ⟨A,0,none⟩)) (.int .i64 (an:Int)) (.int .i64 ((f n:Nat):Int))
     clear hHeld
     have hHeld:=hHeld3
     clear hHeld3 hF
     refine tk 9 (.int .i64 0) rfl hHeld (fun X hS=>by obtain⟨s1,s2,s3,_,_,_⟩:=hS;go_simp) ?_
     refine wpAnyH_done (by kernel_rfl) ?_ _
     obtain⟨wF,hwF⟩:∃x,(((x2.setCell ⟨R,0,none⟩ (.pointer (some ⟨A,0,none⟩))).setCell ⟨R,1,none⟩ (.int .i64 (an:Int))).setCell ⟨R,2,none⟩ (.int .i64 ((f n:Nat):Int)))=x:=⟨_,rfl⟩
     rw[hwF]at VC9 hHeld⊢
     clear hwF
     have HRV:=Lib.hid hHeld.2.2.2.2.1;have HVC:=Lib.hid VC9;have HBF:=Lib.hid hHeld.2.2.2.2.2
     have c0:=HRV.out.1.n
     clear hHeld VC9
     go_wp2_with fail
     have HNB:=Lib.hid (heap_new wF (.cells (numC n vf 0) 37))
     have HRV1:=Lib.hid (HRV.out.below (bel1 wF (.cells (numC n vf 0) 37)));have HVC1:=Lib.hid (HVC.out.below (bel1 wF (.cells (numC n vf 0) 37)));have HBF1:=Lib.hid (HBF.out.alloc HBF.out.size (.cells (numC n vf 0) 37))
     have HNE:Hid (B≠wF.heap.size∧V≠wF.heap.size∧R≠wF.heap.size∧w.heap.size≤wF.heap.size):=Lib.hid (by
      have h1:=(Array.getElem?_eq_some_iff.1 HRV.out.1).1
      have h2:=(Array.getElem?_eq_some_iff.1 HRV.out.2).1
      have h3:=(Array.getElem?_eq_some_iff.1 HVC.out).1
      have h4:=HBF.out.size
      omega)
     obtain⟨N,hNN⟩:∃x,wF.heap.size=x:=⟨_,rfl⟩
     obtain⟨wN,hwN⟩:∃x,wF.alloc (.cells (numC n vf 0) 37)=x:=⟨_,rfl⟩
     rw[hwN]at HNB HRV1 HVC1 HBF1⊢
     rw[hNN]at HNB HNE⊢
     clear hNN hwN HRV HVC HBF c0
     go_loopw[25] (fun v wr2=>∃j:Nat,j≤n∧v=.int .i64 (j:Int)∧wr2.heap[N]?=some (.cells (numC n vf j) 37 (0,0))∧RV B V n f A va vs wr2∧VC R (some ⟨A,0,none⟩) an (f n) wr2∧Below w.heap.size w wr2) (fun v _=>n-(intOf v).toNat)
     case atStart=>exact⟨0,Nat.zero_le _,rfl,HNB.out,HRV1.out,HVC1.out,HBF1.out⟩
     case round=>
      obtain⟨j,hj,rfl,ho,hv,hvc,hg⟩:=hrel
      have HN2:=Lib.hid ho;have HV2:=Lib.hid hv;have HC2:=Lib.hid hvc;have HG2:=Lib.hid hg
      clear ho hv hvc hg HNB HRV1 HVC1 HBF1
      by_cases hlt:j<n
      · have HSJ:=Lib.hid (HST.out j hlt)
        have c0:=(cell_blk HC2.out 0).1;have c1:=(cell_blk HC2.out 1).1;have c2:=(cell_blk HC2.out 2).1
        go_wp2_with (refine wpList_load_row rfl 122 (.tmp 2) rfl B rfl 122 (recC n f) (0,0) _ HV2.out.1 Tryz.underlying122 rfl HZ.out ?_)
        refine(fget_on (HO.out.below HG2.out) n f an (f n) han32 (by have:=HR.out.small (k:=n) (Nat.le_refl _);omega) hn32 j hlt (HR.out.mono j hlt) (by have:=HR.out.small (k:=j+1) (by omega);omega)).mono ?_
        rintro e w3 ⟨rfl,hb3⟩
        rw[HSJ.out.1,HSJ.out.2]
        have HN3:=Lib.hid (blk_at hb3 HN2.out)
        have HV3:=Lib.hid (HV2.out.below hb3)
        have HC3:=Lib.hid (HC2.out.below hb3)
        have HG3:=Lib.hid (HG2.out.trans (hb3.mono HG2.out.size))
        clear hb3 c0 c1 c2
        have e0:w3.cell? ⟨N,j,none⟩=some (.int .u64 0):=(cell_blk HN3.out j).1.trans (numC_at n vf j j hlt (Nat.le_refl _))
        have e1:=(cell_blk HN3.out j).2
        go_wp2_with fail
        go_roundw
        case rel=>
         refine⟨j+1,by omega,by go_num,?_,⟨(set_other _ HNE.out.1).trans HV3.out.1,(set_other _ HNE.out.2.1).trans HV3.out.2⟩,(set_other _ HNE.out.2.2.1).trans HC3.out,HG3.out.setCell (p:=⟨N,j,none⟩) HNE.out.2.2.2 _⟩
         rw[heap_set HN3.out,numC_step n vf j hlt]
        case measure=>simp[intOf];omega
      · obtain rfl:j=n:=by omega
        go_wp2_with fail
        go_ret2
        exact⟨N,rfl,HN2.out,HNE.out.2.2.2,HG2.out⟩
 · go_simp
   have hR:=heap_new wr (.cells #[.pointer none,.int .i64 0,.int .i64 0] 30)
   have hne:B≠wr.heap.size∧V≠wr.heap.size:=rvs_ne (rvs_mk HVJ.out HBJ.out)
   have hRw:w.heap.size≤wr.heap.size:=HBJ.out.size
   have h1:=rvs_below (rvs_mk HVJ.out HBJ.out) ((bel1 wr (.cells #[.pointer none,.int .i64 0,.int .i64 0] 30)).drew)
   clear hHeld
   refine hK.out _ _ h1 (fun hHeld=>?_)
   clear hK h1
   try simp only[Act.put,List.getElem_toArray,List.getElem_cons_zero,List.getElem_cons_succ,List.setIfInBounds_toArray,List.set_cons_zero,List.set_cons_succ]
   refine wpAnyH_ready (rs:=[2]) (by kernel_rfl) (by simp) ?_
   refine(AllReadyH.cons rfl (fun K hK=>?_) AllReadyH.nil)
   go_simp
   refine(fsize_any n f hn32 _).mono ?_
   rintro e x1 ⟨rfl,hb1⟩
   have h1:=rvs_below hHeld hb1
   clear hHeld
   refine hK.out _ _ h1 (fun hHeld=>?_)
   clear hK h1
   try simp only[Act.put,List.getElem_toArray,List.getElem_cons_zero,List.getElem_cons_succ,List.setIfInBounds_toArray,List.set_cons_zero,List.set_cons_succ]
   have hR1:=(hb1.block wr.heap.size (by simp)).trans hR
   clear hR
   refine wpAnyH_ready (rs:=[3]) (by kernel_rfl) (by simp) ?_
   refine(AllReadyH.cons rfl (fun K hK=>?_) AllReadyH.nil)
   go_simp
   refine(on_part (HO.out.below hHeld.2.2.2.2.2) va vs h1_ h2_ 0 ((f n:Nat):Int) (by omega)).mono ?_
   rintro e x2 ⟨rfl,hb2⟩
   rw[HA.out,HE.out,HVO.out]
   have h1:=rvs_below hHeld hb2
   refine hK.out _ _ h1 (fun hHeld2=>?_)
   clear hK h1
   try simp only[Act.put,List.getElem_toArray,List.getElem_cons_zero,List.getElem_cons_succ,List.setIfInBounds_toArray,List.set_cons_zero,List.set_cons_succ]
   have hR2:=(hb2.block _ (Array.getElem?_eq_some_iff.1 hR1).1).trans hR1
   clear hR1
   obtain⟨R,hRR⟩:∃x,wr.heap.size=x:=⟨_,rfl⟩
   rw[hRR]at hR2 hne hRw⊢
   clear hRR
   have hHeld3:=hHeld2
   clear hHeld
   have hHeld:=hHeld3
   clear hHeld2 hHeld3
   refine tk 4 (.tuple #[.agg #[.pointer (some ⟨A,0,none⟩),.int .i64 (an:Int),.int .i64 ((f n:Nat):Int)],.int .i64 0]) rfl hHeld (fun X hS=>by obtain⟨s1,s2,s3,_,_,_⟩:=hS;go_simp) ?_
   refine tk 5 (.agg #[.pointer (some ⟨A,0,none⟩),.int .i64 (an:Int),.int .i64 ((f n:Nat):Int)]) rfl hHeld (fun X hS=>by obtain⟨s1,s2,s3,_,_,_⟩:=hS;go_simp) ?_
   refine tk 6 (.int .i64 0) rfl hHeld (fun X hS=>by obtain⟨s1,s2,s3,_,_,_⟩:=hS;go_simp) ?_
   refine wpAnyH_ready (rs:=[8]) (by kernel_rfl) (by simp) ?_
   refine(AllReadyH.cons rfl (fun K hK=>?_) AllReadyH.nil)
   have r0:=(cell_blk hR2 0).1;have r1:=(cell_blk hR2 1).1;have r2:=(cell_blk hR2 2).1;have f0:=(cell_blk hR2 0).2;have f1:=(cell_blk hR2 1).2;have f2:=(cell_blk hR2 2).2
   have HR2:=Lib.hid hR2
   clear hR2
   go_simp
   have hF:=rvs_far hHeld hne (.pointer (some ⟨A,0,none⟩)) (.int .i64 (an:Int)) (.int .i64 ((f n:Nat):Int)) hRw
   refine hK.out _ _ hF (fun hHeld3=>?_)
   clear hK r0 r1 r2 f0 f1 f2
   try simp only[Act.put,List.getElem_toArray,List.getElem_cons_zero,List.getElem_cons_succ,List.setIfInBounds_toArray,List.set_cons_zero,List.set_cons_succ]
   have VC9:VC R (some ⟨A,0,none⟩) an (f n) _:=three_set HR2.out rfl (.pointer (some ⟨A,0,none⟩)) (.int .i64 (an:Int)) (.int .i64 ((f n:Nat):Int))
   clear hHeld
   have hHeld:=hHeld3
   clear hHeld3 hF
   refine tk 9 (.int .i64 0) rfl hHeld (fun X hS=>by obtain⟨s1,s2,s3,_,_,_⟩:=hS;go_simp) ?_
   refine wpAnyH_done (by kernel_rfl) ?_ _
   obtain⟨wF,hwF⟩:∃x,(((x2.setCell ⟨R,0,none⟩ (.pointer (some ⟨A,0,none⟩))).setCell ⟨R,1,none⟩ (.int .i64 (an:Int))).setCell ⟨R,2,none⟩ (.int .i64 ((f n:Nat):Int)))=x:=⟨_,rfl⟩
   rw[hwF]at VC9 hHeld⊢
   clear hwF
   have HRV:=Lib.hid hHeld.2.2.2.2.1;have HVC:=Lib.hid VC9;have HBF:=Lib.hid hHeld.2.2.2.2.2
   have c0:=HRV.out.1.n
   clear hHeld VC9
   go_wp2_with fail
   have HNB:=Lib.hid (heap_new wF (.cells (numC n vf 0) 37))
   have HRV1:=Lib.hid (HRV.out.below (bel1 wF (.cells (numC n vf 0) 37)));have HVC1:=Lib.hid (HVC.out.below (bel1 wF (.cells (numC n vf 0) 37)));have HBF1:=Lib.hid (HBF.out.alloc HBF.out.size (.cells (numC n vf 0) 37))
   have HNE:Hid (B≠wF.heap.size∧V≠wF.heap.size∧R≠wF.heap.size∧w.heap.size≤wF.heap.size):=Lib.hid (by
    have h1:=(Array.getElem?_eq_some_iff.1 HRV.out.1).1
    have h2:=(Array.getElem?_eq_some_iff.1 HRV.out.2).1
    have h3:=(Array.getElem?_eq_some_iff.1 HVC.out).1
    have h4:=HBF.out.size
    omega)
   obtain⟨N,hNN⟩:∃x,wF.heap.size=x:=⟨_,rfl⟩
   obtain⟨wN,hwN⟩:∃x,wF.alloc (.cells (numC n vf 0) 37)=x:=⟨_,rfl⟩
   rw[hwN]at HNB HRV1 HVC1 HBF1⊢
   rw[hNN]at HNB HNE⊢
   clear hNN hwN HRV HVC HBF c0
   go_loopw[25] (fun v wr2=>∃j:Nat,j≤n∧v=.int .i64 (j:Int)∧wr2.heap[N]?=some (.cells (numC n vf j) 37 (0,0))∧RV B V n f A va vs wr2∧VC R (some ⟨A,0,none⟩) an (f n) wr2∧Below w.heap.size w wr2) (fun v _=>n-(intOf v).toNat)
   case atStart=>exact⟨0,Nat.zero_le _,rfl,HNB.out,HRV1.out,HVC1.out,HBF1.out⟩
   case round=>
    obtain⟨j,hj,rfl,ho,hv,hvc,hg⟩:=hrel
    have HN2:=Lib.hid ho;have HV2:=Lib.hid hv;have HC2:=Lib.hid hvc;have HG2:=Lib.hid hg
    clear ho hv hvc hg HNB HRV1 HVC1 HBF1
    by_cases hlt:j<n
    · have HSJ:=Lib.hid (HST.out j hlt)
      have c0:=(cell_blk HC2.out 0).1;have c1:=(cell_blk HC2.out 1).1;have c2:=(cell_blk HC2.out 2).1
      go_wp2_with (refine wpList_load_row rfl 122 (.tmp 2) rfl B rfl 122 (recC n f) (0,0) _ HV2.out.1 Tryz.underlying122 rfl HZ.out ?_)
      refine(fget_on (HO.out.below HG2.out) n f an (f n) han32 (by have:=HR.out.small (k:=n) (Nat.le_refl _);omega) hn32 j hlt (HR.out.mono j hlt) (by have:=HR.out.small (k:=j+1) (by omega);omega)).mono ?_
      rintro e w3 ⟨rfl,hb3⟩
      rw[HSJ.out.1,HSJ.out.2]
      have HN3:=Lib.hid (blk_at hb3 HN2.out)
      have HV3:=Lib.hid (HV2.out.below hb3)
      have HC3:=Lib.hid (HC2.out.below hb3)
      have HG3:=Lib.hid (HG2.out.trans (hb3.mono HG2.out.size))
      clear hb3 c0 c1 c2
      have e0:w3.cell? ⟨N,j,none⟩=some (.int .u64 0):=(cell_blk HN3.out j).1.trans (numC_at n vf j j hlt (Nat.le_refl _))
      have e1:=(cell_blk HN3.out j).2
      go_wp2_with fail
      go_roundw
      case rel=>
       refine⟨j+1,by omega,by go_num,?_,⟨(set_other _ HNE.out.1).trans HV3.out.1,(set_other _ HNE.out.2.1).trans HV3.out.2⟩,(set_other _ HNE.out.2.2.1).trans HC3.out,HG3.out.setCell (p:=⟨N,j,none⟩) HNE.out.2.2.2 _⟩
       rw[heap_set HN3.out,numC_step n vf j hlt]
      case measure=>simp[intOf];omega
    · obtain rfl:j=n:=by omega
      go_wp2_with fail
      go_ret2
      exact⟨N,rfl,HN2.out,HNE.out.2.2.2,HG2.out⟩
end
end Go.Proofs.YtpkaehpllldcmaaGreatDoor.Bt
end
section
namespace Go.Proofs.YtpkaehpllldcmaaGreatDoor.Bt
open Go Go.RowKit Go.Shelf
set_option linter.unusedVariables false
set_option linter.unusedSimpArgs false
end Go.Proofs.YtpkaehpllldcmaaGreatDoor.Bt
end
section
namespace Go.Proofs.YtpkaehpllldcmaaGreatDoor.Bt
open Go Go.RowKit Go.Shelf
set_option linter.unusedVariables false
theorem put_val {n:Nat} {f:Nat→Nat} (hr:Rec n f) (m:Nat→UInt8) (an:Nat) (xs:List Int):∀j,j≤n→∀k,k<j→numV (putR m an f xs j) (an+f k) (f (k+1)-f k)=(xs.getD k 0).toNat%2^(8*(f (k+1)-f k)):=by
 intro j
 induction j with
 |zero=>intro _ k hk;omega
 |succ j ih=>
  intro hj k hk
  by_cases e:k=j
  · subst e;exact numV_store _ _ _ _
  · rw[←ih (by omega) k (by omega)]
    apply numV_congr
    intro i hi
    show putM (putR m an f xs j) (an+f j) _ _=_
    have h1:=hr.le (show k+1≤j by omega) (by omega)
    have h2:=hr.mono k (by omega)
    exact putM_out _ _ _ (.inl (by omega))
theorem rec_fP {ws:List Int} {n:Nat} (hn:n=ws.length) (hl:n≤32) (ha:ws.all wOk=true):Rec n (fP ws n):=by
 have hf:∀k,k≤n→fP ws n k=sumW ws k:=fun k hk=>by unfold fP;rw[if_pos hk]
 have hst:∀k,k<n→sumW ws (k+1)=sumW ws k+(ws.getD k 0).toNat∧(ws.getD k 0=1∨ws.getD k 0=2∨ws.getD k 0=4∨ws.getD k 0=8):=fun k hk=>by
  refine⟨sumW_succ ws k (by omega),?_⟩
  rw[List.all_eq_true]at ha
  have h2:=ha (ws.getD k 0) (by rw[List.getD_eq_getElem?_getD,List.getElem?_eq_getElem (by omega)];exact List.getElem_mem (by omega))
  unfold wOk at h2;simpa using h2
 refine⟨hl,by rw[hf 0 (by omega)];rfl,fun k hk=>?_,fun k hk=>?_,fun k hk=>?_⟩
 · rw[hf k (by omega),hf (k+1) (by omega),(hst k hk).1];omega
 · rw[hf k (by omega),hf (k+1) (by omega),(hst k hk).1];have:=(hst k hk).2;omega
 · rw[hf k (by omega),hf (k+1) (by omega),(hst k hk).1]
   rcases(hst k hk).2 with h|h|h|h<;>rw[h,Nat.add_sub_cancel_left]<;>rfl
end Go.Proofs.YtpkaehpllldcmaaGreatDoor.Bt
end
