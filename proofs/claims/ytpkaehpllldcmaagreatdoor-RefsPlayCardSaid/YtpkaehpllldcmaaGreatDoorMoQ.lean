import Derived.Test.YtpkaehpllldcmaaGreatDoorMoA
import Derived.Test.YtpkaehpllldcmaaGreatDoorMoP
namespace Go.Proofs.YtpkaehpllldcmaaGreatDoor.Bt
open Go Go.RowKit Go.Shelf
set_option linter.unusedVariables false
set_option linter.unusedSimpArgs false
def RVS (B V n:Nat) (f:Nat→Nat) (A va vs:Nat) (w x:World):Prop:=
 x.cell? ⟨V,0,none⟩=some (.pointer (some ⟨A,0,none⟩))∧x.cell? ⟨V,1,none⟩=some (.int .i64 (va:Int))∧x.cell? ⟨V,2,none⟩=some (.int .i64 (vs:Int))∧x.rangeAt B 0 (recC n f).toList∧RV B V n f A va vs x∧Below w.heap.size w x
theorem rvs_mk {B V n:Nat} {f:Nat→Nat} {A va vs:Nat} {w x:World} (h:RV B V n f A va vs x) (hb:Below w.heap.size w x):RVS B V n f A va vs w x:=
 ⟨(cell_blk h.2 0).1,(cell_blk h.2 1).1,(cell_blk h.2 2).1,h.1.range,h,hb⟩
theorem rvs_below {B V n:Nat} {f:Nat→Nat} {A va vs:Nat} {w x y:World} (h:RVS B V n f A va vs w x) (hb:Below x.heap.size x y):RVS B V n f A va vs w y:=
 rvs_mk (h.2.2.2.2.1.below hb) (h.2.2.2.2.2.trans (hb.mono h.2.2.2.2.2.size))
theorem rvs_ne {B V n:Nat} {f:Nat→Nat} {A va vs:Nat} {w x:World} (h:RVS B V n f A va vs w x):B≠x.heap.size∧V≠x.heap.size:=by
 have h1:=(Array.getElem?_eq_some_iff.1 h.2.2.2.2.1.1).1
 have h2:=(Array.getElem?_eq_some_iff.1 h.2.2.2.2.1.2).1
 omega
theorem rvs_far {B V n:Nat} {f:Nat→Nat} {A va vs:Nat} {w x:World} (h:RVS B V n f A va vs w x) {R:Nat} (hne:B≠R∧V≠R) (u v z:Value) (hR:w.heap.size≤R):RVS B V n f A va vs w (((x.setCell ⟨R,0,none⟩ u).setCell ⟨R,1,none⟩ v).setCell ⟨R,2,none⟩ z):=
 rvs_mk ⟨(heap_far3 hne.1 u v z).trans h.2.2.2.2.1.1,(heap_far3 hne.2 u v z).trans h.2.2.2.2.1.2⟩ (((h.2.2.2.2.2.setCell (p:=⟨R,0,none⟩) hR u).setCell (p:=⟨R,1,none⟩) hR v).setCell (p:=⟨R,2,none⟩) hR z)
section
variable {A:Nat} {s:ASt} {w:World}
set_option maxRecDepth 100000 in
set_option maxHeartbeats 8000000 in
theorem fputn_yes (h:On A s w) (n:Nat) (f:Nat→Nat) (hr:Rec n f) (va vs:Nat) (h1_:va≤4294967296) (h2_:vs≤4294967296) (p:Option Addr) (c:Nat) (xs:List Int) (hx:xs.length=n) (hxs:NsAt w p xs) (hb:∀k,k<n→0≤xs.getD k 0∧xs.getD k 0<18446744073709551616) (hsh:allShort f xs n)
 (hown:∀b off,p=some ⟨b,off,none⟩→¬OwnW A w b) (an:Nat) (han:addrV va vs 0 (f n:Nat)=an) (he:thereE s.L s.es (addrV va vs 0 (f n:Nat)) (f n:Nat)=0):
 Calls Tryz.prog 59 #[.agg (recC n f),vwV A va vs,.slice p n c] w (Ret A {s with mm:=putR s.mm an f xs n} (.int .i64 0) w):=by
 have HV:=Lib.hid (rv_new n f A va vs w)
 have c0:=HV.out.1.n
 have d1:((n:Int) !=(n:Int))=false:=by simp
 have hn32:=hr.n32
 have HO:=Lib.hid h
 rw[han]at he
 have han32:an≤4294967296:=by
  have hh:=(there_iff h.good an (f n:Nat)).1 (by unfold thereE at he;cases hq:thereB s.L s.es an (f n:Nat)with
   |true=>rfl
   |false=>rw[hq]at he;cases he)
  have:=h.good.small
  omega
 have HOW:=Lib.hid hown
 have HST:Hid (∀j,j<n→storeS {s with mm:=putR s.mm an f xs j} (addrV an (f n) (f j:Nat) (f (j+1)-f j:Nat)) (f (j+1)-f j:Nat) (xs.getD j 0)={s with mm:=putR s.mm an f xs (j+1)}∧numE s.L s.es (addrV an (f n) (f j:Nat) (f (j+1)-f j:Nat)) (f (j+1)-f j:Nat)=0):=Lib.hid (fun j hj=>by
  have hle:=hr.le (show j+1≤n by omega) (Nat.le_refl n)
  have hmo:=hr.mono j hj
  have ha:addrV an (f n) (f j:Nat) (f (j+1)-f j:Nat)=((an+f j:Nat):Int):=by unfold addrV;rw[if_pos (by omega)];omega
  have hnu:numE s.L s.es ((an+f j:Nat):Int) (f (j+1)-f j:Nat)=0:=by
   unfold numE;rw[hr.whole j hj,if_pos rfl];exact there_part h.good he (by omega) (by omega) (by omega)
  rw[ha]
  refine⟨?_,hnu⟩
  unfold storeS
  rw[show numE ({s with mm:=putR s.mm an f xs j}:ASt).L ({s with mm:=putR s.mm an f xs j}:ASt).es ((an+f j:Nat):Int) (f (j+1)-f j:Nat)=0 from hnu,if_pos rfl,Int.toNat_natCast,Int.toNat_natCast]
  rfl)
 have HA:=Lib.hid han;have HE:=Lib.hid he
 have HVO:Hid (∀pu a k,ofV pu a k 0=.agg #[.pointer pu,.int .i64 a,.int .i64 k]):=Lib.hid fun pu a k=>by unfold ofV;rw[if_pos rfl]
 have HZ:Hid ((Tryz.prog.info? 122).map (·.size)=some (recC n f).size):=Lib.hid (by rw[recC_size];exact Tryz.infoRec)
 have hu:=Tryz.underlying122
 have hi:(Tryz.prog.info? 122).map (·.size)=some (recC n f).toList.length:=by rw[Array.length_toList];exact HZ.out
 have HR:=Lib.hid hr;have HX:=Lib.hid hx;have HXS:=Lib.hid hxs;have HB:=Lib.hid hb;have HSH:=Lib.hid hsh
 have HW:=Lib.hid (below2 w (.cells (recC n f) 122) (.cells #[.pointer (some ⟨A,0,none⟩),.int .i64 (va:Int),.int .i64 (vs:Int)] 30))
 clear hr hx hxs hb hsh h han he hown
 go_enter Tryz.func59,Tryz.ntmps59
 go_wp2_with fail
 obtain⟨y,hy⟩:∃y,(w.alloc (.cells (recC n f) 122)).alloc (.cells #[.pointer (some ⟨A,0,none⟩),.int .i64 (va:Int),.int .i64 (vs:Int)] 30)=y:=⟨_,rfl⟩
 obtain⟨B,hB⟩:∃B,w.heap.size=B:=⟨_,rfl⟩
 obtain⟨V,hVV⟩:∃V,B+1=V:=⟨_,rfl⟩
 rw[hy]at HV HW c0⊢
 rw[hB]at HV c0⊢
 rw[hVV]at HV⊢
 clear hy hB c0 hVV
 go_loopw[21] (fun v wr=>∃j:Nat,j≤n∧v=.int .i64 (j:Int)∧RV B V n f A va vs wr∧Below w.heap.size w wr) (fun v _=>n-(intOf v).toNat)
 case atStart=>exact⟨0,Nat.zero_le _,rfl,HV.out,HW.out⟩
 case round=>
  obtain⟨j,hj,rfl,hv,hbw⟩:=hrel
  have HVJ:=Lib.hid hv;have HBJ:=Lib.hid hbw
  clear hv hbw HV HW
  by_cases hlt:j<n
  · obtain⟨b,off,rfl,hlt0,hc⟩:∃b off,p=some ⟨b,off,none⟩∧b<w.heap.size∧∀i,i<xs.length→w.cell? ⟨b,off+i,none⟩=some (.int .u64 (xs.getD i 0)):=by
     rcases HXS.out with h|h
     · have:=HX.out;omega
     · exact h
    have hcj:wr.cell? ⟨b,off+j,none⟩=some (.int .u64 (xs.getD j 0)):=(HBJ.out.cell (p:=⟨b,off+j,none⟩) hlt0).trans (hc j (by have:=HX.out;omega))
    have hbd:=HB.out j hlt
    obtain⟨hb0,hb1⟩:=hbd
    have HAJ:=Lib.hid (HSH.out j hlt)
    generalize xs.getD j 0=g at*
    clear hc
    go_wp2_with (refine wpList_load_row rfl 122 (.tmp 3) rfl B rfl 122 (recC n f) (0,0) _ HVJ.out.1 Tryz.underlying122 rfl HZ.out ?_)
    refine(flong_any n f hn32 j hlt (HR.out.mono j hlt) (by have:=HR.out.small (k:=j+1) (by omega);omega) (HR.out.wide j hlt) g hb0 hb1 _).mono ?_
    rintro e w2 ⟨rfl,hb⟩
    rw[HAJ.out]
    have HV2:=Lib.hid (HVJ.out.below hb)
    have HB2:=Lib.hid (HBJ.out.trans (hb.mono HBJ.out.size))
    clear hb hcj HAJ
    go_wp2_with fail
    go_roundw
    case rel=>exact⟨j+1,by omega,by go_num,HV2.out,HB2.out⟩
    case measure=>simp[intOf];omega
  · clear hj
    go_wp2_with fail
    refine wp_region_held_drew (S:=RVS B V n f A va vs w) (by kernel_rfl) (rvs_mk (RV.below HVJ.out (Below.refl _ _).drew) HBJ.out.drew) (fun hHeld=>?_)
    refine tk 0 (.agg #[.pointer (some ⟨A,0,none⟩),.int .i64 (va:Int),.int .i64 (vs:Int)]) rfl hHeld (fun X hS=>by obtain⟨s1,s2,s3,_,_,_⟩:=hS;go_simp) ?_
    refine wpAnyH_take (i:=1) (v:=.agg (recC n f)) rfl (by kernel_rfl) (by kernel_rfl) (by kernel_rfl) (fun _ _ _ h=>h) (yieldsIf_load_mid (by rfl) 122 (.tmp 3) rfl B 0 rfl (recC n f).toList _ (fun X hS=>hS.2.2.2.1) hu rfl hi) hHeld ?_
    try simp only[Act.put,List.getElem_toArray,List.getElem_cons_zero,List.getElem_cons_succ,List.setIfInBounds_toArray,List.set_cons_zero,List.set_cons_succ]
    refine wpAnyH_ready (rs:=[2,7]) (by kernel_rfl) (by simp) ?_
    refine(AllReadyH.cons rfl (fun K hK=>?_) (AllReadyH.cons rfl (fun K hK=>?_) AllReadyH.nil))
    · go_simp
      refine(fsize_any n f hn32 _).mono ?_
      rintro e x1 ⟨rfl,hb1⟩
      have h1:=rvs_below hHeld hb1
      clear hHeld
      refine hK.out _ _ h1 (fun hHeld=>?_)
      clear hK h1
      try simp only[Act.put,List.getElem_toArray,List.getElem_cons_zero,List.getElem_cons_succ,List.setIfInBounds_toArray,List.set_cons_zero,List.set_cons_succ]
      refine wpAnyH_ready (rs:=[3,7]) (by kernel_rfl) (by simp) ?_
      refine(AllReadyH.cons rfl (fun K hK=>?_) (AllReadyH.cons rfl (fun K hK=>?_) AllReadyH.nil))
      · go_simp
        refine(on_part (HO.out.below hHeld.2.2.2.2.2) va vs h1_ h2_ 0 ((f n:Nat):Int) (by omega)).mono ?_
        rintro e x2 ⟨rfl,hb2⟩
        rw[HA.out,HE.out,HVO.out]
        have h1:=rvs_below hHeld hb2
        refine hK.out _ _ h1 (fun hHeld2=>?_)
        clear hK h1
        try simp only[Act.put,List.getElem_toArray,List.getElem_cons_zero,List.getElem_cons_succ,List.setIfInBounds_toArray,List.set_cons_zero,List.set_cons_succ]
        have hHeld3:=hHeld2
        clear hHeld
        have hHeld:=hHeld3
        clear hHeld2 hHeld3
        refine tk 4 (.tuple #[.agg #[.pointer (some ⟨A,0,none⟩),.int .i64 (an:Int),.int .i64 ((f n:Nat):Int)],.int .i64 0]) rfl hHeld (fun X hS=>by obtain⟨s1,s2,s3,_,_,_⟩:=hS;go_simp) ?_
        refine tk 5 (.agg #[.pointer (some ⟨A,0,none⟩),.int .i64 (an:Int),.int .i64 ((f n:Nat):Int)]) rfl hHeld (fun X hS=>by obtain⟨s1,s2,s3,_,_,_⟩:=hS;go_simp) ?_
        refine tk 6 (.int .i64 0) rfl hHeld (fun X hS=>by obtain⟨s1,s2,s3,_,_,_⟩:=hS;go_simp) ?_
        refine wpAnyH_ready (rs:=[7]) (by kernel_rfl) (by simp) ?_
        refine(AllReadyH.cons rfl (fun K hK=>?_) AllReadyH.nil)
        go_simp
        refine hK.out _ _ (rvs_below hHeld (bel1 _ _)) (fun hHeld2=>?_)
        clear hK
        try simp only[Act.put,List.getElem_toArray,List.getElem_cons_zero,List.getElem_cons_succ,List.setIfInBounds_toArray,List.set_cons_zero,List.set_cons_succ]
        refine wpAnyH_ready (rs:=[8]) (by kernel_rfl) (by simp) ?_
        refine(AllReadyH.cons rfl (fun K hK=>?_) AllReadyH.nil)
        go_simp
        have hF:=rvs_below hHeld (bel1 x2 (.cells #[.pointer (some ⟨A,0,none⟩),.int .i64 (an:Int),.int .i64 ((f n:Nat):Int)] 30))
        refine hK.out _ _ hF (fun hHeld3=>?_)
        clear hK hHeld2
        try simp only[Act.put,List.getElem_toArray,List.getElem_cons_zero,List.getElem_cons_succ,List.setIfInBounds_toArray,List.set_cons_zero,List.set_cons_succ]
        have VC9:VC x2.heap.size (some ⟨A,0,none⟩) an (f n) (x2.alloc (.cells #[.pointer (some ⟨A,0,none⟩),.int .i64 (an:Int),.int .i64 ((f n:Nat):Int)] 30)):=heap_new _ _
        clear hHeld
        have hHeld:=hHeld3
        clear hHeld3 hF
        refine tk 9 (.int .i64 0) rfl hHeld (fun X hS=>by obtain⟨s1,s2,s3,_,_,_⟩:=hS;go_simp) ?_
        refine wpAnyH_done (by kernel_rfl) ?_ _
        obtain⟨wF,hwF⟩:∃x,x2.alloc (.cells #[.pointer (some ⟨A,0,none⟩),.int .i64 (an:Int),.int .i64 ((f n:Nat):Int)] 30)=x:=⟨_,rfl⟩
        obtain⟨R,hRR⟩:∃x,x2.heap.size=x:=⟨_,rfl⟩
        rw[hwF]at VC9 hHeld⊢
        rw[hRR]at VC9⊢
        clear hwF hRR
        have HRV:=Lib.hid hHeld.2.2.2.2.1;have HVC:=Lib.hid VC9;have HBF:=Lib.hid hHeld.2.2.2.2.2
        clear hHeld VC9
        have HON:=Lib.hid (HO.out.below HBF.out);have HWN:=Lib.hid (Went.of_below HO.out HBF.out)
        go_wp2_with fail
        go_loopw[43] (fun v wr2=>∃j:Nat,j≤n∧v=.int .i64 (j:Int)∧On A {s with mm:=putR s.mm an f xs j} wr2∧RV B V n f A va vs wr2∧VC R (some ⟨A,0,none⟩) an (f n) wr2∧Went A w wr2) (fun v _=>n-(intOf v).toNat)
        case atStart=>exact⟨0,Nat.zero_le _,rfl,HON.out,HRV.out,HVC.out,HWN.out⟩
        case round=>
         obtain⟨j,hj,rfl,ho,hv,hvc,hg⟩:=hrel
         have HOJ:=Lib.hid ho;have HV2:=Lib.hid hv;have HC2:=Lib.hid hvc;have HG2:=Lib.hid hg
         clear ho hv hvc hg HON HRV HVC HBF HWN
         by_cases hlt:j<n
         · obtain⟨b,off,rfl,hlt0,hc⟩:∃b off,p=some ⟨b,off,none⟩∧b<w.heap.size∧∀i,i<xs.length→w.cell? ⟨b,off+i,none⟩=some (.int .u64 (xs.getD i 0)):=by
            rcases HXS.out with h|h
            · have:=HX.out;omega
            · exact h
           have hcj:wr.cell? ⟨b,off+j,none⟩=some (.int .u64 (xs.getD j 0)):=by
            have h2:=hc j (by have:=HX.out;omega)
            unfold World.cell? at h2⊢
            rw[HG2.out.block b hlt0 (HOW.out b off rfl)];exact h2
           have hbd:=HB.out j hlt
           obtain⟨hb0,hb1⟩:=hbd
           have HSJ:=Lib.hid (HST.out j hlt)
           have HAJ:=Lib.hid (HSH.out j hlt)
           generalize xs.getD j 0=g at*
           clear hc
           have c0:=(cell_blk HC2.out 0).1;have c1:=(cell_blk HC2.out 1).1;have c2:=(cell_blk HC2.out 2).1
           go_wp2_with (refine wpList_load_row rfl 122 (.tmp 3) rfl B rfl 122 (recC n f) (0,0) _ HV2.out.1 Tryz.underlying122 rfl HZ.out ?_)
           refine(fset_on HOJ.out n f an (f n) han32 (by have:=HR.out.small (k:=n) (Nat.le_refl _);omega) hn32 j hlt (HR.out.mono j hlt) (by have:=HR.out.small (k:=j+1) (by omega);omega) (HR.out.wide j hlt) g hb0 hb1 HAJ.out).mono ?_
           rintro e w3 ⟨rfl,hx3,hg3⟩
           rw[HSJ.out.1]at hx3
           rw[HSJ.out.2]
           have HX3:=Lib.hid hx3
           have HV3:=Lib.hid (HV2.out.went HOJ.out hg3)
           have HC3:=Lib.hid (hg3.keep HOJ.out HC2.out (by decide) (by decide) (by decide))
           have HG3:=Lib.hid (HG2.out.trans hg3)
           clear hx3 hg3 c0 c1 c2 hcj
           go_wp2_with fail
           go_roundw
           case rel=>exact⟨j+1,by omega,by go_num,HX3.out,HV3.out,HC3.out,HG3.out⟩
           case measure=>simp[intOf];omega
         · obtain rfl:j=n:=by omega
           go_wp2_with fail
           go_ret
           exact⟨rfl,HOJ.out,HG2.out⟩
      · go_simp
        have hR:=heap_new x1 (.cells #[.pointer none,.int .i64 0,.int .i64 0] 30)
        have hne:B≠x1.heap.size∧V≠x1.heap.size:=rvs_ne hHeld
        have hRw:w.heap.size≤x1.heap.size:=hHeld.2.2.2.2.2.size
        have h1:=rvs_below hHeld (bel1 x1 (.cells #[.pointer none,.int .i64 0,.int .i64 0] 30))
        clear hHeld
        refine hK.out _ _ h1 (fun hHeld=>?_)
        clear hK h1
        try simp only[Act.put,List.getElem_toArray,List.getElem_cons_zero,List.getElem_cons_succ,List.setIfInBounds_toArray,List.set_cons_zero,List.set_cons_succ]
        refine wpAnyH_ready (rs:=[3]) (by kernel_rfl) (by simp) ?_
        refine(AllReadyH.cons rfl (fun K hK=>?_) AllReadyH.nil)
        go_simp
        refine(on_part (HO.out.below hHeld.2.2.2.2.2) va vs h1_ h2_ 0 ((f n:Nat):Int) (by omega)).mono ?_
        rintro e x2 ⟨rfl,hb2⟩
        rw[HA.out,HE.out,HVO.out]
        have h1:=rvs_below hHeld hb2
        refine hK.out _ _ h1 (fun hHeld2=>?_)
        clear hK h1
        try simp only[Act.put,List.getElem_toArray,List.getElem_cons_zero,List.getElem_cons_succ,List.setIfInBounds_toArray,List.set_cons_zero,List.set_cons_succ]
        have hR2:=(hb2.block _ (Array.getElem?_eq_some_iff.1 hR).1).trans hR
        clear hR
        obtain⟨R,hRR⟩:∃x,x1.heap.size=x:=⟨_,rfl⟩
        rw[hRR]at hR2 hne hRw⊢
        clear hRR
        have hHeld3:=hHeld2
        clear hHeld
        have hHeld:=hHeld3
        clear hHeld2 hHeld3
        refine tk 4 (.tuple #[.agg #[.pointer (some ⟨A,0,none⟩),.int .i64 (an:Int),.int .i64 ((f n:Nat):Int)],.int .i64 0]) rfl hHeld (fun X hS=>by obtain⟨s1,s2,s3,_,_,_⟩:=hS;go_simp) ?_
        refine tk 5 (.agg #[.pointer (some ⟨A,0,none⟩),.int .i64 (an:Int),.int .i64 ((f n:Nat):Int)]) rfl hHeld (fun X hS=>by obtain⟨s1,s2,s3,_,_,_⟩:=hS;go_simp) ?_
        refine tk 6 (.int .i64 0) rfl hHeld (fun X hS=>by obtain⟨s1,s2,s3,_,_,_⟩:=hS;go_simp) ?_
        refine wpAnyH_ready (rs:=[8]) (by kernel_rfl) (by simp) ?_
        refine(AllReadyH.cons rfl (fun K hK=>?_) AllReadyH.nil)
        have r0:=(cell_blk hR2 0).1;have r1:=(cell_blk hR2 1).1;have r2:=(cell_blk hR2 2).1;have f0:=(cell_blk hR2 0).2;have f1:=(cell_blk hR2 1).2;have f2:=(cell_blk hR2 2).2
        have HR2:=Lib.hid hR2
        clear hR2
        go_simp
        have hF:=rvs_far hHeld hne (.pointer (some ⟨A,0,none⟩)) (.int .i64 (an:Int)) (.int .i64 ((f n:Nat):Int)) hRw
        refine hK.out _ _ hF (fun hHeld3=>?_)
        clear hK r0 r1 r2 f0 f1 f2
        try simp only[Act.put,List.getElem_toArray,List.getElem_cons_zero,List.getElem_cons_succ,List.setIfInBounds_toArray,List.set_cons_zero,List.set_cons_succ]
        have VC9:VC R (some ⟨A,0,none⟩) an (f n) _:=three_set HR2.out rfl (.pointer (some ⟨A,0,none⟩)) (.int .i64 (an:Int)) (.int .i64 ((f n:Nat):Int))
        clear hHeld
        have hHeld:=hHeld3
        clear hHeld3 hF
        refine tk 9 (.int .i64 0) rfl hHeld (fun X hS=>by obtain⟨s1,s2,s3,_,_,_⟩:=hS;go_simp) ?_
        refine wpAnyH_done (by kernel_rfl) ?_ _
        obtain⟨wF,hwF⟩:∃x,(((x2.setCell ⟨R,0,none⟩ (.pointer (some ⟨A,0,none⟩))).setCell ⟨R,1,none⟩ (.int .i64 (an:Int))).setCell ⟨R,2,none⟩ (.int .i64 ((f n:Nat):Int)))=x:=⟨_,rfl⟩
        rw[hwF]at VC9 hHeld⊢
        clear hwF
        have HRV:=Lib.hid hHeld.2.2.2.2.1;have HVC:=Lib.hid VC9;have HBF:=Lib.hid hHeld.2.2.2.2.2
        clear hHeld VC9
        have HON:=Lib.hid (HO.out.below HBF.out);have HWN:=Lib.hid (Went.of_below HO.out HBF.out)
        go_wp2_with fail
        go_loopw[43] (fun v wr2=>∃j:Nat,j≤n∧v=.int .i64 (j:Int)∧On A {s with mm:=putR s.mm an f xs j} wr2∧RV B V n f A va vs wr2∧VC R (some ⟨A,0,none⟩) an (f n) wr2∧Went A w wr2) (fun v _=>n-(intOf v).toNat)
        case atStart=>exact⟨0,Nat.zero_le _,rfl,HON.out,HRV.out,HVC.out,HWN.out⟩
        case round=>
         obtain⟨j,hj,rfl,ho,hv,hvc,hg⟩:=hrel
         have HOJ:=Lib.hid ho;have HV2:=Lib.hid hv;have HC2:=Lib.hid hvc;have HG2:=Lib.hid hg
         clear ho hv hvc hg HON HRV HVC HBF HWN
         by_cases hlt:j<n
         · obtain⟨b,off,rfl,hlt0,hc⟩:∃b off,p=some ⟨b,off,none⟩∧b<w.heap.size∧∀i,i<xs.length→w.cell? ⟨b,off+i,none⟩=some (.int .u64 (xs.getD i 0)):=by
            rcases HXS.out with h|h
            · have:=HX.out;omega
            · exact h
           have hcj:wr.cell? ⟨b,off+j,none⟩=some (.int .u64 (xs.getD j 0)):=by
            have h2:=hc j (by have:=HX.out;omega)
            unfold World.cell? at h2⊢
            rw[HG2.out.block b hlt0 (HOW.out b off rfl)];exact h2
           have hbd:=HB.out j hlt
           obtain⟨hb0,hb1⟩:=hbd
           have HSJ:=Lib.hid (HST.out j hlt)
           have HAJ:=Lib.hid (HSH.out j hlt)
           generalize xs.getD j 0=g at*
           clear hc
           have c0:=(cell_blk HC2.out 0).1;have c1:=(cell_blk HC2.out 1).1;have c2:=(cell_blk HC2.out 2).1
           go_wp2_with (refine wpList_load_row rfl 122 (.tmp 3) rfl B rfl 122 (recC n f) (0,0) _ HV2.out.1 Tryz.underlying122 rfl HZ.out ?_)
           refine(fset_on HOJ.out n f an (f n) han32 (by have:=HR.out.small (k:=n) (Nat.le_refl _);omega) hn32 j hlt (HR.out.mono j hlt) (by have:=HR.out.small (k:=j+1) (by omega);omega) (HR.out.wide j hlt) g hb0 hb1 HAJ.out).mono ?_
           rintro e w3 ⟨rfl,hx3,hg3⟩
           rw[HSJ.out.1]at hx3
           rw[HSJ.out.2]
           have HX3:=Lib.hid hx3
           have HV3:=Lib.hid (HV2.out.went HOJ.out hg3)
           have HC3:=Lib.hid (hg3.keep HOJ.out HC2.out (by decide) (by decide) (by decide))
           have HG3:=Lib.hid (HG2.out.trans hg3)
           clear hx3 hg3 c0 c1 c2 hcj
           go_wp2_with fail
           go_roundw
           case rel=>exact⟨j+1,by omega,by go_num,HX3.out,HV3.out,HC3.out,HG3.out⟩
           case measure=>simp[intOf];omega
         · obtain rfl:j=n:=by omega
           go_wp2_with fail
           go_ret
           exact⟨rfl,HOJ.out,HG2.out⟩
    · go_simp
      have hR:=heap_new wr (.cells #[.pointer none,.int .i64 0,.int .i64 0] 30)
      have hne:B≠wr.heap.size∧V≠wr.heap.size:=rvs_ne (rvs_mk HVJ.out HBJ.out)
      have hRw:w.heap.size≤wr.heap.size:=HBJ.out.size
      have h1:=rvs_below (rvs_mk HVJ.out HBJ.out) ((bel1 wr (.cells #[.pointer none,.int .i64 0,.int .i64 0] 30)).drew)
      clear hHeld
      refine hK.out _ _ h1 (fun hHeld=>?_)
      clear hK h1
      try simp only[Act.put,List.getElem_toArray,List.getElem_cons_zero,List.getElem_cons_succ,List.setIfInBounds_toArray,List.set_cons_zero,List.set_cons_succ]
      refine wpAnyH_ready (rs:=[2]) (by kernel_rfl) (by simp) ?_
      refine(AllReadyH.cons rfl (fun K hK=>?_) AllReadyH.nil)
      go_simp
      refine(fsize_any n f hn32 _).mono ?_
      rintro e x1 ⟨rfl,hb1⟩
      have h1:=rvs_below hHeld hb1
      clear hHeld
      refine hK.out _ _ h1 (fun hHeld=>?_)
      clear hK h1
      try simp only[Act.put,List.getElem_toArray,List.getElem_cons_zero,List.getElem_cons_succ,List.setIfInBounds_toArray,List.set_cons_zero,List.set_cons_succ]
      have hR1:=(hb1.block wr.heap.size (by simp)).trans hR
      clear hR
      refine wpAnyH_ready (rs:=[3]) (by kernel_rfl) (by simp) ?_
      refine(AllReadyH.cons rfl (fun K hK=>?_) AllReadyH.nil)
      go_simp
      refine(on_part (HO.out.below hHeld.2.2.2.2.2) va vs h1_ h2_ 0 ((f n:Nat):Int) (by omega)).mono ?_
      rintro e x2 ⟨rfl,hb2⟩
      rw[HA.out,HE.out,HVO.out]
      have h1:=rvs_below hHeld hb2
      refine hK.out _ _ h1 (fun hHeld2=>?_)
      clear hK h1
      try simp only[Act.put,List.getElem_toArray,List.getElem_cons_zero,List.getElem_cons_succ,List.setIfInBounds_toArray,List.set_cons_zero,List.set_cons_succ]
      have hR2:=(hb2.block _ (Array.getElem?_eq_some_iff.1 hR1).1).trans hR1
      clear hR1
      obtain⟨R,hRR⟩:∃x,wr.heap.size=x:=⟨_,rfl⟩
      rw[hRR]at hR2 hne hRw⊢
      clear hRR
      have hHeld3:=hHeld2
      clear hHeld
      have hHeld:=hHeld3
      clear hHeld2 hHeld3
      refine tk 4 (.tuple #[.agg #[.pointer (some ⟨A,0,none⟩),.int .i64 (an:Int),.int .i64 ((f n:Nat):Int)],.int .i64 0]) rfl hHeld (fun X hS=>by obtain⟨s1,s2,s3,_,_,_⟩:=hS;go_simp) ?_
      refine tk 5 (.agg #[.pointer (some ⟨A,0,none⟩),.int .i64 (an:Int),.int .i64 ((f n:Nat):Int)]) rfl hHeld (fun X hS=>by obtain⟨s1,s2,s3,_,_,_⟩:=hS;go_simp) ?_
      refine tk 6 (.int .i64 0) rfl hHeld (fun X hS=>by obtain⟨s1,s2,s3,_,_,_⟩:=hS;go_simp) ?_
      refine wpAnyH_ready (rs:=[8]) (by kernel_rfl) (by simp) ?_
      refine(AllReadyH.cons rfl (fun K hK=>?_) AllReadyH.nil)
      have r0:=(cell_blk hR2 0).1;have r1:=(cell_blk hR2 1).1;have r2:=(cell_blk hR2 2).1;have f0:=(cell_blk hR2 0).2;have f1:=(cell_blk hR2 1).2;have f2:=(cell_blk hR2 2).2
      have HR2:=Lib.hid hR2
      clear hR2
      go_simp
      have hF:=rvs_far hHeld hne (.pointer (some ⟨A,0,none⟩)) (.int .i64 (an:Int)) (.int .i64 ((f n:Nat):Int)) hRw
      refine hK.out _ _ hF (fun hHeld3=>?_)
      clear hK r0 r1 r2 f0 f1 f2
      try simp only[Act.put,List.getElem_toArray,List.getElem_cons_zero,List.getElem_cons_succ,List.setIfInBounds_toArray,List.set_cons_zero,List.set_cons_succ]
      have VC9:VC R (some ⟨A,0,none⟩) an (f n) _:=three_set HR2.out rfl (.pointer (some ⟨A,0,none⟩)) (.int .i64 (an:Int)) (.int .i64 ((f n:Nat):Int))
      clear hHeld
      have hHeld:=hHeld3
      clear hHeld3 hF
      refine tk 9 (.int .i64 0) rfl hHeld (fun X hS=>by obtain⟨s1,s2,s3,_,_,_⟩:=hS;go_simp) ?_
      refine wpAnyH_done (by kernel_rfl) ?_ _
      obtain⟨wF,hwF⟩:∃x,(((x2.setCell ⟨R,0,none⟩ (.pointer (some ⟨A,0,none⟩))).setCell ⟨R,1,none⟩ (.int .i64 (an:Int))).setCell ⟨R,2,none⟩ (.int .i64 ((f n:Nat):Int)))=x:=⟨_,rfl⟩
      rw[hwF]at VC9 hHeld⊢
      clear hwF
      have HRV:=Lib.hid hHeld.2.2.2.2.1;have HVC:=Lib.hid VC9;have HBF:=Lib.hid hHeld.2.2.2.2.2
      clear hHeld VC9
      have HON:=Lib.hid (HO.out.below HBF.out);have HWN:=Lib.hid (Went.of_below HO.out HBF.out)
      go_wp2_with fail
      go_loopw[43] (fun v wr2=>∃j:Nat,j≤n∧v=.int .i64 (j:Int)∧On A {s with mm:=putR s.mm an f xs j} wr2∧RV B V n f A va vs wr2∧VC R (some ⟨A,0,none⟩) an (f n) wr2∧Went A w wr2) (fun v _=>n-(intOf v).toNat)
      case atStart=>exact⟨0,Nat.zero_le _,rfl,HON.out,HRV.out,HVC.out,HWN.out⟩
      case round=>
       obtain⟨j,hj,rfl,ho,hv,hvc,hg⟩:=hrel
       have HOJ:=Lib.hid ho;have HV2:=Lib.hid hv;have HC2:=Lib.hid hvc;have HG2:=Lib.hid hg
       clear ho hv hvc hg HON HRV HVC HBF HWN
       by_cases hlt:j<n
       · obtain⟨b,off,rfl,hlt0,hc⟩:∃b off,p=some ⟨b,off,none⟩∧b<w.heap.size∧∀i,i<xs.length→w.cell? ⟨b,off+i,none⟩=some (.int .u64 (xs.getD i 0)):=by
          rcases HXS.out with h|h
          · have:=HX.out;omega
          · exact h
         have hcj:wr.cell? ⟨b,off+j,none⟩=some (.int .u64 (xs.getD j 0)):=by
          have h2:=hc j (by have:=HX.out;omega)
          unfold World.cell? at h2⊢
          rw[HG2.out.block b hlt0 (HOW.out b off rfl)];exact h2
         have hbd:=HB.out j hlt
         obtain⟨hb0,hb1⟩:=hbd
         have HSJ:=Lib.hid (HST.out j hlt)
         have HAJ:=Lib.hid (HSH.out j hlt)
         generalize xs.getD j 0=g at*
         clear hc
         have c0:=(cell_blk HC2.out 0).1;have c1:=(cell_blk HC2.out 1).1;have c2:=(cell_blk HC2.out 2).1
         go_wp2_with (refine wpList_load_row rfl 122 (.tmp 3) rfl B rfl 122 (recC n f) (0,0) _ HV2.out.1 Tryz.underlying122 rfl HZ.out ?_)
         refine(fset_on HOJ.out n f an (f n) han32 (by have:=HR.out.small (k:=n) (Nat.le_refl _);omega) hn32 j hlt (HR.out.mono j hlt) (by have:=HR.out.small (k:=j+1) (by omega);omega) (HR.out.wide j hlt) g hb0 hb1 HAJ.out).mono ?_
         rintro e w3 ⟨rfl,hx3,hg3⟩
         rw[HSJ.out.1]at hx3
         rw[HSJ.out.2]
         have HX3:=Lib.hid hx3
         have HV3:=Lib.hid (HV2.out.went HOJ.out hg3)
         have HC3:=Lib.hid (hg3.keep HOJ.out HC2.out (by decide) (by decide) (by decide))
         have HG3:=Lib.hid (HG2.out.trans hg3)
         clear hx3 hg3 c0 c1 c2 hcj
         go_wp2_with fail
         go_roundw
         case rel=>exact⟨j+1,by omega,by go_num,HX3.out,HV3.out,HC3.out,HG3.out⟩
         case measure=>simp[intOf];omega
       · obtain rfl:j=n:=by omega
         go_wp2_with fail
         go_ret
         exact⟨rfl,HOJ.out,HG2.out⟩
end
end Go.Proofs.YtpkaehpllldcmaaGreatDoor.Bt
