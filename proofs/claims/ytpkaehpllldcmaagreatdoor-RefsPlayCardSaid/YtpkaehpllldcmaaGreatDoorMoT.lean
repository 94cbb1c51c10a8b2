/- RkA, RkB, RwR. -/
import Derived.Test.YtpkaehpllldcmaaGreatDoorMoS
import Derived.Test.YtpkaehpllldcmaaGreatDoorMoM
import Derived.Test.YtpkaehpllldcmaaGreatDoorMoR
import Derived.Test.YtpkaehpllldcmaaGreatDoorMoA
import Derived.Deep.MidRow
import Derived.Test.YtpkaehpllldcmaaGreatDoorMoP
import Derived.Laws.AppendOwn
section
namespace Go.Proofs.YtpkaehpllldcmaaGreatDoor.Bt
open Go Go.RowKit Go.Shelf
set_option linter.unusedVariables false
set_option linter.unusedSimpArgs false
abbrev cS (m:Nat→UInt8):ASt:=fullS 1 m
theorem cS_there {m:Nat→UInt8} {a k:Int} (h0:0≤a) (h1:0≤k) (h2:a+k≤4096):thereE (cS m).L (cS m).es a k=0:=by
 show thereE 1 [0,1] a k=0
 rw[thereE_full (by omega) (by omega),if_pos (by omega)]
theorem ofV_ok (pu:Option Addr) (a k:Int):ofV pu a k 0=.agg #[.pointer pu,.int .i64 a,.int .i64 k]:=by unfold ofV;rw[if_pos rfl]
theorem addr_in {va vs:Nat} {a k:Int} (h:0≤a∧0≤k∧k≤(vs:Int)-a):addrV va vs a k=(va:Int)+a:=by unfold addrV;rw[if_pos h]
abbrev vwC (A a k:Nat):Array Value:=#[.pointer (some ⟨A,0,none⟩),.int .i64 (a:Int),.int .i64 (k:Int)]
abbrev zvC:Array Value:=#[.pointer none,.int .i64 0,.int .i64 0]
set_option maxHeartbeats 2000000 in
theorem searchN (g:Nat) (lb:Array Value) (eg:∀args w,(callFunc g args).run Tryz.prog w=.ok (.enter g args) w) (n:Nat) (hn:n≤1000) (w:World)
 (hp:∀X (i:Nat),Below w.heap.size w X→i<n→Calls Tryz.prog g (#[.int .i64 (i:Int)]++lb) X (Gives (.bool false) X)):
 Calls Tryz.prog 61 #[.int .i64 (n:Int),.func (.func g) #[] lb] w (Gives (.int .i64 (n:Int)) w):=by
 have HP:=Lib.hid hp
 clear hp
 go_enter Tryz.func61,Tryz.ntmps61
 go_wp2_with fail
 go_loopw[5,6] (fun s5 s6 wr=>∃j:Nat,j≤n∧s5=.int .i64 (j:Int)∧s6=.int .i64 (n:Int)∧Hid (Below w.heap.size w wr)) (fun s5 _ _=>n-(intOf s5).toNat)
 case atStart=>exact⟨0,Nat.zero_le _,rfl,rfl,Lib.hid (Below.refl _ _)⟩
 case round=>
  obtain⟨j,hj,rfl,rfl,HB⟩:=hrel
  by_cases hjn:j<n
  · have hjn2:(j:Int)<(n:Int):=by omega
    obtain⟨k,hk⟩:∃k,(j+n)/2=k:=⟨_,rfl⟩
    have hk2:k<n:=by omega
    have hjk:j≤k:=by omega
    have q1:IntKind.u64.wrap ((j:Int)+(n:Int))=(j:Int)+(n:Int):=by rw[IntKind.wrap_u64];omega
    have q2:((j:Int)+(n:Int))/2=(k:Int):=by omega
    have q3:IntKind.i64.wrap (k:Int)=(k:Int):=by rw[IntKind.wrap_i64];omega
    have q4:IntKind.u64.wrap (k:Int)=(k:Int):=by rw[IntKind.wrap_u64];omega
    have HC:=Lib.hid fun X (hX:Below w.heap.size w X)=>HP.out X k hX hk2
    have HK:=Lib.hid (And.intro hk2 hjk)
    clear hk hk2 hjk
    go_wp2_with fail
    refine(HC.out _ HB.out).mono ?_
    rintro e w' ⟨rfl,hb'⟩
    have HB2:=Lib.hid (HB.out.trans (hb'.mono HB.out.size))
    have hk2:=HK.out.1
    have hk3:=HK.out.2
    clear hb' HB HC HK q1 q2 q3 q4
    go_wp2_with fail
    go_roundw
    case rel=>exact⟨k+1,by omega,by go_num,rfl,HB2⟩
    case measure=>simp[intOf];omega
  · obtain rfl:j=n:=by omega
    have hjn2:¬((j:Int)<(j:Int)):=by omega
    go_wp2_with fail
    go_ret
    exact⟨rfl,HB.out⟩
section
variable {A vs:Nat} {m:Nat→UInt8} {w:World}
theorem cslots1 (h:On A (cS m) w) (hv:vs≤400) (F:Nat) (hF:w.heap[F]?=some (.cells (vwC A 40 vs) 34 (0,0))) (i:Nat) (hi:i<vs/16):
 Calls Tryz.prog 63 (#[.int .i64 (i:Int)]++#[.pointer (some ⟨F,0,none⟩)]) w (Gives (.bool false) w):=by
 have hp:Hid (∀X,On A (cS m) X→Calls Tryz.prog 64 #[vwV A 40 vs,.int .i64 0,.int .i64 (((i:Int)+1)*16)] X (Gives (.tuple #[.agg #[.pointer (some ⟨A,0,none⟩),.int .i64 40,.int .i64 (((i:Int)+1)*16)],.int .i64 0]) X)):=Lib.hid fun X hX=>by
  have:=on_part hX 40 vs (by omega) (by omega) 0 (((i:Int)+1)*16) (by omega)
  rw[addr_in (by omega),cS_there (by omega) (by omega) (by omega),ofV_ok]at this
  exact this
 have c0:=(cell_blk hF 0).1;have c1:=(cell_blk hF 1).1;have c2:=(cell_blk hF 2).1
 have hi2:(i:Int)≤25:=by omega
 have HO:=Lib.hid h
 clear hi hF h
 go_enter Tryz.func63,Tryz.ntmps63
 go_wp2_with fail
 refine(hp.out _ HO.out).mono ?_
 rintro e w1 ⟨rfl,hb⟩
 have HB:=Lib.hid hb
 clear hb c0 c1 c2
 go_wp2_with fail
 go_ret
 exact⟨rfl,HB.out.alloc HB.out.size _⟩
set_option maxHeartbeats 1000000 in
theorem cslots (h:On A (cS m) w) (hv:vs≤400):Calls Tryz.prog 35 #[vwV A 40 vs] w (Gives (.int .i64 ((vs/16:Nat):Int)) w):=by
 have eg:∀args w,(callFunc 63 args).run Tryz.prog w=.ok (.enter 63 args) w:=enters_of Tryz.func63 (by kernel_rfl) rfl
 have q1:IntKind.i64.wrap ((vs:Int).tdiv 16)=((vs/16:Nat):Int):=by rw[Int.tdiv_eq_ediv_of_nonneg (by omega),IntWalk.i64_in _ (by omega)];omega
 have q2:(vs:Int).tdiv 16=((vs/16:Nat):Int):=by rw[Int.tdiv_eq_ediv_of_nonneg (by omega)];omega
 have q5:(vs:Int)/16=((vs/16:Nat):Int):=by omega
 obtain⟨d,hd⟩:∃d,vs/16=d:=⟨_,rfl⟩
 have hd17:d≤25:=by omega
 have HS:=Lib.hid fun(X:World) (F:Nat) (hX:On A (cS m) X) (hF:X.heap[F]?=some (.cells (vwC A 40 vs) 34 (0,0)))=>
  searchN 63 #[.pointer (some ⟨F,0,none⟩)] eg d (by omega) X fun Y i hY hi=>cslots1 (hX.below hY) hv F ((hY.block _ (Array.getElem?_eq_some_iff.1 hF).1).trans hF) i (by omega)
 rw[hd]at q1 q2 q5
 rw[hd]
 have q4:wrap64 (d:Int)=(d:Int):=IntWalk.wrap64_in _ ⟨by omega,by omega⟩
 have HQ:=Lib.hid (And.intro q1 (And.intro q2 (And.intro q4 q5)))
 clear q1 q2 q4 q5 hd hd17 eg
 have HF:=Lib.hid (And.intro (heap_new w (.cells (vwC A 40 vs) 34)) (And.intro (h.below (bel1 w (.cells (vwC A 40 vs) 34))) (bel1 w (.cells (vwC A 40 vs) 34))))
 clear h
 go_enter Tryz.func35,Tryz.ntmps35
 go_upto_region 1 with fail
 change Code.wp _ _ _ _ (w.alloc (.cells (vwC A 40 vs) 34))
 obtain⟨y,hy⟩:∃y,w.alloc (.cells (vwC A 40 vs) 34)=y:=⟨_,rfl⟩
 obtain⟨F,hFF⟩:∃F,w.heap.size=F:=⟨_,rfl⟩
 have hf:=HF.out
 rw[hy,hFF]at hf
 rw[hy,hFF]
 have HWF:=Lib.hid hFF
 have HG:=Lib.hid hf
 clear hy hFF hf HF
 have c0:=(cell_blk HG.out.1 0).1;have c1:=(cell_blk HG.out.1 1).1;have c2:=(cell_blk HG.out.1 2).1
 go_wp2_with fail
 refine(vsize_any (some ⟨A,0,none⟩) 40 vs _).mono ?_
 rintro e w1 ⟨rfl,hb⟩
 have HG1:Hid (w1.heap[F]?=some (.cells (vwC A 40 vs) 34 (0,0))∧On A (cS m) w1∧Below w.heap.size w w1):=Lib.hid ⟨blk_at hb HG.out.1,HG.out.2.1.below hb,(HWF.out▸HG.out.2.2).trans (hb.mono (by have:=HG.out.2.2.size;omega))⟩
 clear hb c0 c1 c2 HG
 obtain⟨q1,q2,q4,q5⟩:=HQ.out
 go_wp2_with fail
 refine(HS.out _ _ HG1.out.2.1 HG1.out.1).mono ?_
 rintro e w2 ⟨rfl,hb⟩
 have HB2:=Lib.hid (HG1.out.2.2.trans (hb.mono HG1.out.2.2.size))
 clear hb
 go_wp2_with fail
 go_ret
 exact⟨rfl,HB2.out⟩
theorem cslot (h:On A (cS m) w) (hv:vs≤400) (i:Nat) (hi:i<vs/16):Calls Tryz.prog 60 #[vwV A 40 vs,.int .i64 (i:Int)] w (Gives (vwV A (40+16*i) 16) w):=by
 have e:addrV 40 vs ((i:Int)*16) 16=((40+16*i:Nat):Int):=by rw[addr_in (by omega)];push_cast;omega
 have hp:Hid (∀X,On A (cS m) X→Calls Tryz.prog 64 #[vwV A 40 vs,.int .i64 ((i:Int)*16),.int .i64 16] X (Gives (.tuple #[vwV A (40+16*i) 16,.int .i64 0]) X)):=Lib.hid fun X hX=>by
  have:=on_part hX 40 vs (by omega) (by omega) ((i:Int)*16) 16 (by omega)
  rw[e,cS_there (by omega) (by omega) (by omega),ofV_ok]at this
  exact this
 have hi2:(i:Int)≤25:=by omega
 clear hi e
 have HF:=Lib.hid (((Fb.start w).new (vwC A 40 vs) 34).new zvC 30)
 have HO:=Lib.hid h
 clear h
 go_enter Tryz.func60,Tryz.ntmps60
 go_upto_region 1 with fail
 change Code.wp _ _ _ _ ((w.alloc (.cells (vwC A 40 vs) 34)).alloc (.cells zvC 30))
 obtain⟨y,hy⟩:∃y,(w.alloc (.cells (vwC A 40 vs) 34)).alloc (.cells zvC 30)=y:=⟨_,rfl⟩
 obtain⟨C,hC⟩:∃C,w.heap.size=C:=⟨_,rfl⟩
 obtain⟨O,hO⟩:∃O,(w.alloc (.cells (vwC A 40 vs) 34)).heap.size=O:=⟨_,rfl⟩
 have hO2:w.heap.size+1=O:=by rw[←hO];simp
 have hf:=HF.out
 rw[hy,hO,hC]at hf
 rw[hy,hO2,hC]
 have HG:=Lib.hid hf
 clear hy hC hO hO2 hf HF
 have c0:=HG.out.cell1 0 rfl;have c1:=HG.out.cell1 1 rfl;have c2:=HG.out.cell1 2 rfl
 go_wp2_with fail
 refine(hp.out _ (HO.out.below HG.out.be)).mono ?_
 rintro e w1 ⟨rfl,hb⟩
 have HG1:=Lib.hid (HG.out.below hb)
 clear hb HG c0 c1 c2
 go_upto_region 2 with fail
 have HG2:=Lib.hid (HG1.out.new (vwC A (40+16*i) 16) 30)
 change Code.wp _ _ _ _ (w1.alloc (.cells (vwC A (40+16*i) 16) 30))
 obtain⟨w2,hw2⟩:∃y,w1.alloc (.cells (vwC A (40+16*i) 16) 30)=y:=⟨_,rfl⟩
 obtain⟨V,hV⟩:∃F,w1.heap.size=F:=⟨_,rfl⟩
 rw[hw2,hV]at HG2
 rw[hw2,hV]
 clear hw2 hV HG1
 have v0:=HG2.out.cell0 0 rfl;have v1:=HG2.out.cell0 1 rfl;have v2:=HG2.out.cell0 2 rfl
 have r0:=HG2.out.cell1 0 rfl;have r1:=HG2.out.cell1 1 rfl;have r2:=HG2.out.cell1 2 rfl
 have f0:=HG2.out.free1 0;have f1:=HG2.out.free1 1;have f2:=HG2.out.free1 2
 go_wp2_with fail
 change bodyPost _ _ _ _ _ (stR w2 O [.pointer (some ⟨A,0,none⟩),.int .i64 ((40+16*i:Nat):Int),.int .i64 ((16:Nat):Int)] 0)
 have hz:=HG2.out.stores1 [.pointer (some ⟨A,0,none⟩),.int .i64 ((40+16*i:Nat):Int),.int .i64 ((16:Nat):Int)] 0
 obtain⟨z,hzz⟩:∃z,stR w2 O [.pointer (some ⟨A,0,none⟩),.int .i64 ((40+16*i:Nat):Int),.int .i64 ((16:Nat):Int)] 0=z:=⟨_,rfl⟩
 rw[hzz]at hz⊢
 have hz:Fb w [⟨V,vwC A (40+16*i) 16,30⟩,⟨O,vwC A (40+16*i) 16,30⟩,⟨C,vwC A 40 vs,34⟩] z:=hz
 have g0:=hz.cell1 0 rfl;have g1:=hz.cell1 1 rfl;have g2:=hz.cell1 2 rfl
 exact bodyPost_ret (v:=vwV A (40+16*i) 16) (by simp[results,Tryz.results60,go_sem,g0,g1,g2]) rfl ⟨rfl,hz.be⟩
end
end Go.Proofs.YtpkaehpllldcmaaGreatDoor.Bt
end
section
namespace Go.Proofs.YtpkaehpllldcmaaGreatDoor.Bt
open Go Go.RowKit Go.Shelf
set_option linter.unusedVariables false
set_option linter.unusedSimpArgs false
set_option maxRecDepth 100000
theorem clayout (w:World):Calls Tryz.prog 58 #[] w (Gives (.agg (recC 2 F2)) w):=by
 have HSZ:Hid (∀f,(Tryz.prog.info? 122).map (·.size)=some (recC 2 f).size):=Lib.hid (fun f=>by rw[recC_size];exact Tryz.infoRec)
 have HX:=Lib.hid ok2
 go_enter Tryz.func58,Tryz.ntmps58
 go_upto_region 1 with fail
 obtain⟨x,hx⟩:∃x,w.alloc (.cells rec0 122)=x:=⟨_,rfl⟩
 have hR:x.heap[w.heap.size]?=some (.cells rec0 122 (0,0)):=by rw[←hx];exact heap_new _ _
 have bx:Below w.heap.size w x:=by rw[←hx];exact bel1 _ _
 change Code.wp _ _ _ _ (w.alloc (.cells rec0 122))
 rw[hx]
 obtain⟨R,hRR⟩:∃R,w.heap.size=R:=⟨_,rfl⟩
 rw[hRR]at hR⊢
 have HR:=Lib.hid hR;have BX:=Lib.hid bx;have HRR:=Lib.hid (show w.heap.size≤R by omega)
 clear hR bx hx hRR
 go_wp2_with fail
 have hws:WsAt (x.alloc (.cells #[.int .i64 8,.int .i64 8] 3)) (some ⟨x.heap.size,0,none⟩) [8,8]:=by
  refine .inr ⟨x.heap.size,0,rfl,by simp,fun i hi=>?_⟩
  rw[(cell_blk (heap_new x _) _).1,Nat.zero_add]
  have:i=0∨i=1:=by simp at hi;omega
  rcases this with rfl|rfl<;>rfl
 refine(of_in _ 2 2 [8,8] rfl (by omega) (by omega) _ hws).mono ?_
 rintro e w1 ⟨rfl,hb⟩
 rw[HX.out]
 have b1:=(bel1 x (.cells #[.int .i64 8,.int .i64 8] 3)).trans (hb.mono (by simp))
 have HR1:=Lib.hid (blk_at b1 HR.out)
 have B1:=Lib.hid (BX.out.trans (b1.mono BX.out.size))
 clear hws hb b1 HR BX
 go_upto_region 2 with(refine wpList_store_row rfl 122 (.tmp 1) (.tmp 6) rfl w1.heap.size (recC 2 F2) rfl rfl 122 rec0 (heap_new _ _) (HSZ.out _) (by rw[rec0_size,recC_size]) (rec_one _ _) ?_;simp only[Act.put,List.setIfInBounds_toArray,List.set_cons_zero,List.set_cons_succ])
 obtain⟨y,hy⟩:∃y,(w1.alloc (.cells rec0 122)).setRow w1.heap.size (recC 2 F2)=y:=⟨_,rfl⟩
 obtain⟨R1,hR1⟩:∃B,w1.heap.size=B:=⟨_,rfl⟩
 have hv:y.heap[R1]?=some (.cells (recC 2 F2) 122 (0,0)):=by rw[←hy,←hR1];exact setRow_ad (heap_new _ _) _
 have by_:Below w.heap.size w y:=by rw[←hy];exact below_setRow (B1.out.alloc B1.out.size _) B1.out.size _
 have hr:y.heap[R]?=some (.cells rec0 122 (0,0)):=by
  have hlt:=(Array.getElem?_eq_some_iff.1 HR1.out).1
  rw[←hy,setRow_other _ _ _ _ (by omega)]
  exact(Below.heap_alloc _ _ _ hlt).trans HR1.out
 change Code.wp _ _ _ _ ((w1.alloc (.cells rec0 122)).setRow w1.heap.size (recC 2 F2))
 rw[hy,hR1]
 have HV:=Lib.hid hv;have BY:=Lib.hid by_;have HR2:=Lib.hid hr
 clear hv by_ hy hR1 hr B1 HR1
 go_wp2_with (first|(refine wpList_load_row rfl 122 (.tmp 1) rfl R1 rfl 122 (recC 2 F2) (0,0) _ HV.out Tryz.underlying122 rfl (HSZ.out _) ?_)|(refine wpList_store_row rfl 122 (.tmp 0) (.tmp 8) rfl R (recC 2 F2) rfl rfl 122 rec0 HR2.out (HSZ.out _) (by rw[rec0_size,recC_size]) (rec_one _ _) ?_))
 have hl:=run_loadVar_row (P:=Tryz.prog) (y.setRow R (recC 2 F2)) R 122 122 (recC 2 F2) (0,0) _ (setRow_ad HR2.out _) Tryz.underlying122 rfl (HSZ.out _)
 exact bodyPost_ret (v:=.agg (recC 2 F2)) (by simp[results,Tryz.results58,asAddr,hl,Act.put]) rfl ⟨rfl,below_setRow BY.out HRR.out _⟩
theorem Fb.plus {w0 x y:World} {L:List Blk} {N:Nat} {c:Array Value} {T:TypeId} (h:Fb w0 L x) (hb:Below x.heap.size x y) (hN:y.heap[N]?=some (.cells c T (0,0))) (hl:x.heap.size≤N):Fb w0 (⟨N,c,T⟩::L) y:=by
 have h2:=h.below hb
 refine⟨fun z hz=>?_,List.pairwise_cons.2 ⟨fun z hz=>?_,h2.nd⟩,h2.be⟩
 · rcases List.mem_cons.1 hz with rfl|hz
   · exact⟨hN,Nat.le_trans h.be.size hl⟩
   · exact h2.bs z hz
 · have:=(Array.getElem?_eq_some_iff.1 (h.bs z hz).1).1
   show N≠z.r
   omega
section
variable {A vs:Nat} {m:Nat→UInt8} {w:World}
theorem addr_sl (an:Nat):addrV an 16 0 (F2 2:Nat)=an:=by rw[F2_at.2.2,addr_in (by omega)];omega
theorem nums_e (m:Nat→UInt8) (an:Nat):numC 2 (allV (cS m) an F2) 2=#[.int .u64 ((rdE m an).i:Int),.int .u64 ((rdE m an).x:Int)]:=rfl
def NumP (A vs O C:Nat) (w:World) (e:Lk) (s5:Value) (x:World):Prop:=
 ∃N,s5=.slice (some ⟨N,0,none⟩) 2 2∧Hid (Fb w [⟨N,#[.int .u64 (e.i:Int),.int .u64 (e.x:Int)],37⟩,⟨O,lC lZ,39⟩,⟨C,vwC A 40 vs,34⟩] x)
set_option maxRecDepth 100000 in
set_option maxHeartbeats 4000000 in
theorem cload (h:On A (cS m) w) (hv:vs≤400) (i:Nat) (hi:i<vs/16):Calls Tryz.prog 36 #[vwV A 40 vs,.int .i64 (i:Int)] w (Gives (lV (rdE m (40+16*i))) w):=by
 have HSL:=Lib.hid fun X (hX:On A (cS m) X)=>cslot hX hv i hi
 have han:40+16*i+16≤4096:=by omega
 have HAL:Hid (∀X,On A (cS m) X→Calls Tryz.prog 65 #[.agg (recC 2 F2),vwV A (40+16*i) 16] X (AllPf 2 (allV (cS m) (40+16*i) F2) X)):=Lib.hid fun X hX=>by
  refine fall_on hX 2 F2 rec2 (40+16*i) 16 (by omega) (by omega) (40+16*i) (addr_sl _) ?_
  rw[addr_sl,F2_at.2.2]
  exact cS_there (by omega) (by omega) (by omega)
 have hne:=nums_e m (40+16*i)
 obtain⟨b0,b1⟩:=rdE_ok m (40+16*i)
 unfold AllPf at HAL
 rw[hne]at HAL
 obtain⟨E,hE⟩:∃E,rdE m (40+16*i)=E:=⟨_,rfl⟩
 rw[hE]at HAL b0 b1
 rw[hE]
 have HO:=Lib.hid h
 have HF:=Lib.hid (((Fb.start w).new (vwC A 40 vs) 34).new (lC lZ) 39)
 clear h hi han hne hE b0 b1
 go_enter Tryz.func36,Tryz.ntmps36
 go_upto_region 1 with fail
 change Code.wp _ _ _ _ ((w.alloc (.cells (vwC A 40 vs) 34)).alloc (.cells (lC lZ) 39))
 obtain⟨y,hy⟩:∃y,(w.alloc (.cells (vwC A 40 vs) 34)).alloc (.cells (lC lZ) 39)=y:=⟨_,rfl⟩
 obtain⟨C,hC⟩:∃C,w.heap.size=C:=⟨_,rfl⟩
 obtain⟨O,hO⟩:∃O,(w.alloc (.cells (vwC A 40 vs) 34)).heap.size=O:=⟨_,rfl⟩
 have hO2:w.heap.size+1=O:=by rw[←hO];simp
 have hf:=HF.out
 rw[hy,hO,hC]at hf
 rw[hy,hO2,hC]
 have HG:=Lib.hid hf
 clear hy hC hO hO2 hf HF
 go_cut[5,6] (fun s5 s6 wx=>s6=.int .i64 0∧NumP A vs O C w E s5 wx)
 case first=>
  as_aux_lemma=>
  have HB0:=Lib.hid (show Below w.heap.size w y.drew from HG.out.be.drew)
  refine wp_region_held_drew (S:=Fb w [⟨O,lC lZ,39⟩,⟨C,vwC A 40 vs,34⟩]) (by kernel_rfl) (HG.out.below (Below.refl _ _).drew) (fun hHeld=>?_)
  clear HG
  refine tk 1 (vwV A 40 vs) rfl hHeld (fun X hS=>by have s0:=hS.cell1 0 rfl;have s1:=hS.cell1 1 rfl;have s2:=hS.cell1 2 rfl;go_simp) ?_
  refine tk 2 (.int .i64 (i:Int)) rfl hHeld (fun X hS=>by skip;go_simp) ?_
  refine rd [0] (AllReadyH.cons rfl (fun K1 hK1=>?_) AllReadyH.nil)
  go_simp
  refine(clayout _).mono ?_
  rintro e x1 ⟨rfl,hb⟩
  have HB1:=Lib.hid (HB0.out.trans (hb.mono HB0.out.size))
  have hS1:=hHeld.below hb
  clear hHeld hb HB0
  refine hK1.out _ _ hS1 (fun hHeld=>?_)
  clear hK1 hS1
  try simp only[Act.put,List.getElem_toArray,List.getElem_cons_zero,List.getElem_cons_succ,List.setIfInBounds_toArray,List.set_cons_zero,List.set_cons_succ]
  refine rd [3] (AllReadyH.cons rfl (fun K2 hK2=>?_) AllReadyH.nil)
  go_simp
  refine(HSL.out _ (HO.out.below HB1.out)).mono ?_
  rintro e x2 ⟨rfl,hb⟩
  have HB2:=Lib.hid (HB1.out.trans (hb.mono HB1.out.size))
  have hS2:=hHeld.below hb
  clear hHeld hb HB1 HSL
  refine hK2.out _ _ hS2 (fun hHeld=>?_)
  clear hK2 hS2
  try simp only[Act.put,List.getElem_toArray,List.getElem_cons_zero,List.getElem_cons_succ,List.setIfInBounds_toArray,List.set_cons_zero,List.set_cons_succ]
  refine rd [4] (AllReadyH.cons rfl (fun K3 hK3=>?_) AllReadyH.nil)
  go_simp
  refine(HAL.out _ (HO.out.below HB2.out)).mono ?_
  rintro e x3 ⟨N,rfl,hN,hNl,hb3⟩
  have hS3:=hHeld.below hb3
  have HF3:=Lib.hid (hHeld.plus hb3 hN hNl)
  clear hHeld hb3 hN hNl HAL HB2
  refine hK3.out _ _ hS3 (fun hHeld=>?_)
  clear hK3 hS3
  try simp only[Act.put,List.getElem_toArray,List.getElem_cons_zero,List.getElem_cons_succ,List.setIfInBounds_toArray,List.set_cons_zero,List.set_cons_succ]
  refine tk 5 (.tuple #[.slice (some ⟨N,0,none⟩) 2 2,.int .i64 0]) rfl hHeld (fun X hS=>by skip;go_simp) ?_
  refine tk 6 (.slice (some ⟨N,0,none⟩) 2 2) rfl hHeld (fun X hS=>by skip;go_simp) ?_
  refine tk 7 (.int .i64 0) rfl hHeld (fun X hS=>by skip;go_simp) ?_
  refine tk 8 (.slice (some ⟨N,0,none⟩) 2 2) rfl hHeld (fun X hS=>by skip;go_simp) ?_
  refine tk 9 (.int .i64 0) rfl hHeld (fun X hS=>by skip;go_simp) ?_
  refine wpAnyH_done (by kernel_rfl) ?_ _
  clear hHeld
  go_wp2_with fail
  go_meet
  exact⟨rfl,_,rfl,HF3⟩
 case rest=>
  as_aux_lemma=>
  clear HG HAL HSL
  obtain⟨rfl,N,rfl,HF⟩:=hcut
  go_upto_region 4 with fail
  have HF4:=Lib.hid (HF.out.below (Below.refl _ _).drew)
  have hs0:=HF4.out.drop1.drop1
  refine wp_region_held_drew (S:=Fb w [⟨N,#[.int .u64 (E.i:Int),.int .u64 (E.x:Int)],37⟩]) (by kernel_rfl) hs0 (fun hHeld=>?_)
  clear HF hs0
  generalize wc.drew=x4 at*
  refine tk 0 (.slice (some ⟨N,0,none⟩) 2 2) rfl hHeld (fun X hS=>by have n0:=hS.cell0 0 rfl;have n1:=hS.cell0 1 rfl;go_simp) ?_
  refine tk 1 (.pointer (some ⟨N,0,none⟩)) rfl hHeld (fun X hS=>by have n0:=hS.cell0 0 rfl;have n1:=hS.cell0 1 rfl;go_simp) ?_
  refine tk 2 (.int .u64 (E.i:Int)) rfl hHeld (fun X hS=>by have n0:=hS.cell0 0 rfl;have n1:=hS.cell0 1 rfl;go_simp) ?_
  refine tk 3 (.slice (some ⟨N,0,none⟩) 2 2) rfl hHeld (fun X hS=>by have n0:=hS.cell0 0 rfl;have n1:=hS.cell0 1 rfl;go_simp) ?_
  refine tk 4 (.pointer (some ⟨N,1,none⟩)) rfl hHeld (fun X hS=>by have n0:=hS.cell0 0 rfl;have n1:=hS.cell0 1 rfl;go_simp) ?_
  refine tk 5 (.int .u64 (E.x:Int)) rfl hHeld (fun X hS=>by have n0:=hS.cell0 0 rfl;have n1:=hS.cell0 1 rfl;go_simp) ?_
  refine tk 6 (.agg #[.int .u64 (E.i:Int),.int .u64 (E.x:Int)]) rfl hHeld (fun X hS=>by have n0:=hS.cell0 0 rfl;have n1:=hS.cell0 1 rfl;go_simp) ?_
  refine rd [7] (AllReadyH.cons rfl (fun K1 hK1=>?_) AllReadyH.nil)
  clear hHeld
  have HH:=HF4
  have o0:=HH.out.cell1 0 rfl;have o1:=HH.out.cell1 1 rfl
  have f0:=HH.out.free1 0;have f1:=HH.out.free1 1
  go_simp
  have hst:=HH.out.stores1 [.int .u64 (E.i:Int),.int .u64 (E.x:Int)] 0
  obtain⟨z,hzz⟩:∃z,stR x4 O [.int .u64 (E.i:Int),.int .u64 (E.x:Int)] 0=z:=⟨_,rfl⟩
  change K1 _ (stR x4 O [.int .u64 (E.i:Int),.int .u64 (E.x:Int)] 0)
  rw[hzz]at hst⊢
  have hst:Fb w [⟨N,#[.int .u64 (E.i:Int),.int .u64 (E.x:Int)],37⟩,⟨O,#[.int .u64 (E.i:Int),.int .u64 (E.x:Int)],39⟩,⟨C,vwC A 40 vs,34⟩] z:=hst
  have HZ:=Lib.hid hst
  clear hzz hst HH HF4 o0 o1 f0 f1
  refine hK1.out _ _ HZ.out.drop1.drop1 (fun hHeld=>?_)
  clear hK1 hHeld
  try simp only[Act.put,List.getElem_toArray,List.getElem_cons_zero,List.getElem_cons_succ,List.setIfInBounds_toArray,List.set_cons_zero,List.set_cons_succ]
  refine wpAnyH_done (by kernel_rfl) ?_ _
  have hz:=HZ.out
  have g0:=hz.cell1 0 rfl;have g1:=hz.cell1 1 rfl
  go_wp2_with fail
  exact bodyPost_ret (v:=.agg #[.int .u64 (E.i:Int),.int .u64 (E.x:Int)]) (by simp[results,Tryz.results36,go_sem,g0,g1]) rfl ⟨rfl,HZ.out.be⟩
end
end Go.Proofs.YtpkaehpllldcmaaGreatDoor.Bt
end
section
namespace Go.Proofs.YtpkaehpllldcmaaGreatDoor.Bt
open Go Go.RowKit Go.Shelf
set_option linter.unusedVariables false
set_option linter.unusedSimpArgs false
section
variable {α:Type}
def flG (enc:α→List Value):List α→List Value
 |[]=>[]
 |y::l=>enc y++flG enc l
theorem flG_append (enc:α→List Value) (l l':List α):flG enc (l++l')=flG enc l++flG enc l':=by
 induction l with
 |nil=>rfl
 |cons c l ih=>show enc c++flG enc (l++l')=(enc c++flG enc l)++flG enc l';rw[ih,List.append_assoc]
theorem flG_one (enc:α→List Value) (l:List α) (y:α):flG enc (l++[y])=flG enc l++enc y:=by rw[flG_append];simp[flG]
theorem flG_get {enc:α→List Value} {k:Nat} (hk:∀y,(enc y).length=k) (l:List α) (j:Nat) (y:α) (h:l[j]?=some y) (i:Nat) (hi:i<k):(flG enc l)[j*k+i]?=(enc y)[i]?:=by
 induction l generalizing j with
 |nil=>simp at h
 |cons c l ih=>
  show(enc c++flG enc l)[j*k+i]?=_
  rcases j with _|j
  · simp at h
    subst h
    rw[List.getElem?_append_left (by rw[hk];omega)];simp
  · rw[List.getElem?_append_right (by rw[hk,Nat.succ_mul];omega)]
    have e:(j+1)*k+i-(enc c).length=j*k+i:=by rw[hk,Nat.succ_mul];omega
    rw[e]
    exact ih j (by simpa using h)
def RowG (T:TypeId) (enc:α→List Value) (k:Nat) (p:Option Addr) (L:List α) (w:World):Prop:=
 L=[]∨∃g cur,p=some ⟨g,0,none⟩∧w.heap[g]?=some (.cells cur T (0,0))∧∀j y,L[j]?=some y→∀i v,(enc y)[i]?=some v→cur[j*k+i]?=some v
theorem RowG.nil (T:TypeId) (enc:α→List Value) (k:Nat) (p:Option Addr) (w:World):RowG T enc k p [] w:=.inl rfl
theorem RowG.below {T:TypeId} {enc:α→List Value} {k:Nat} {p:Option Addr} {L:List α} {x y:World} (h:RowG T enc k p L x) (hb:Below x.heap.size x y):RowG T enc k p L y:=by
 rcases h with h|⟨g,cur,hp,hg,hc⟩
 · exact .inl h
 · exact .inr ⟨g,cur,hp,blk_at hb hg,hc⟩
theorem RowG.went {T:TypeId} {enc:α→List Value} {k:Nat} {p:Option Addr} {L:List α} {A:Nat} {s:ASt} {x y:World} (h:RowG T enc k p L x) (hT:NotAr T) (ho:On A s x) (hg:Went A x y):RowG T enc k p L y:=by
 rcases h with h|⟨g,cur,hp,hgg,hc⟩
 · exact .inl h
 · exact .inr ⟨g,cur,hp,hg.keep ho hgg hT.1 hT.2.1 hT.2.2,hc⟩
theorem RowG.cell {T:TypeId} {enc:α→List Value} {k:Nat} {p:Option Addr} {L:List α} {w:World} (h:RowG T enc k p L w) {j:Nat} {y:α} (hj:L[j]?=some y):
 ∃g,p=some ⟨g,0,none⟩∧g<w.heap.size∧∀i v,(enc y)[i]?=some v→w.cell? ⟨g,j*k+i,none⟩=some v:=by
 rcases h with rfl|⟨g,cur,hp,hg,hc⟩
 · simp at hj
 · exact⟨g,hp,(Array.getElem?_eq_some_iff.1 hg).1,fun i v hi=>(cell_blk hg _).1.trans (hc j y hj i v hi)⟩
structure RwG (T:TypeId) (enc:α→List Value) (k b0:Nat) (L:List α) (v:Value) (x y:World):Prop where
 ow:y.ownsRow b0 T k v L.length (flG enc L)
 bl:Below b0 x y
 sz:b0≤y.heap.size
theorem RwG.start (T:TypeId) (enc:α→List Value) (k:Nat) {b0:Nat} (x:World) (h:x.heap.size=b0):RwG T enc k b0 [] (.slice none 0 0) x x:=
 ⟨World.ownsRow_nil _ _ _ _,Below.refl _ _,by omega⟩
theorem RwG.below {T:TypeId} {enc:α→List Value} {k b0:Nat} {L:List α} {v:Value} {x y y':World} (h:RwG T enc k b0 L v x y) (hb:Below y.heap.size y y'):RwG T enc k b0 L v x y':=
 ⟨h.ow.kept (show y.grownBy y' none from⟨hb.os,hb.tape,hb.output,hb.size,fun k hk _=>hb.block k hk⟩) (by cases e:v.ownBlock with
  |none=>exact .inl rfl
  |some g=>exact .inr (by simp)),h.bl.trans (hb.mono h.sz),Nat.le_trans h.sz hb.size⟩
theorem rowG_grow {W w1 w:World} {base n k:Nat} {e:TypeId} {v:Value} {xs:List Value} (hrow:W.ownsRow base e k v n xs) (hgrow:W.grownBy w1 v.ownBlock) (hs:base≤W.heap.size) (hb:Below base w W):Below base w w1:=
 hb.grown hgrow (by omega) fun j ej=>by
  rcases hrow.2 with⟨rfl,_⟩|⟨g,cap,cur,rfl,h,_⟩
  · simp[Value.ownBlock]at ej
  · obtain rfl:g=j:=by simpa[Value.ownBlock]using ej
    exact h
theorem RwG.app {T:TypeId} {enc:α→List Value} {k b0:Nat} {L:List α} {v v':Value} {x y y':World} (h:RwG T enc k b0 L v x y) (u:α) (hg:y.grownBy y' v.ownBlock)
 (ho:y'.ownsRow b0 T k v' (L.length+1) (flG enc L++enc u)):RwG T enc k b0 (L++[u]) v' x y':=by
 have hz:=h.sz
 have hs:=hg.size
 exact⟨by rw[List.length_append,flG_one];exact ho,rowG_grow h.ow hg h.sz h.bl,by omega⟩
theorem RwG.row {T:TypeId} {enc:α→List Value} {k b0:Nat} {L:List α} {v:Value} {x y:World} (hk:∀y,(enc y).length=k) (h:RwG T enc k b0 L v x y):∃p cap,v=.slice p L.length cap∧L.length≤cap∧RowG T enc k p L y:=by
 rcases h.ow.2 with⟨rfl,h0⟩|⟨g,cap,cur,rfl,_,hg,hnc,_,hcs,htk⟩
 · exact⟨none,0,by rw[h0],by omega,.inl (List.eq_nil_of_length_eq_zero h0)⟩
 · refine⟨_,cap,rfl,by omega,.inr ⟨g,cur,rfl,hg,fun j y hj i v hi=>?_⟩⟩
   have hjl:=(List.getElem?_eq_some_iff.1 hj).1
   have hik:i<k:=by rw[←hk y];exact(List.getElem?_eq_some_iff.1 hi).1
   have h2:=flG_get hk L j y hj i hik
   have hlt:j*k+i<L.length*k:=by
    have:(j+1)*k≤L.length*k:=Nat.mul_le_mul_right _ hjl
    rw[Nat.succ_mul]at this
    omega
   rw[hi,←htk,List.getElem?_take,if_pos hlt]at h2
   simpa using h2
theorem RwG.row2 {T:TypeId} {enc:α→List Value} {k b0:Nat} {L:List α} {v:Value} {x y:World} (hk:∀y,(enc y).length=k) (h:RwG T enc k b0 L v x y):∃p cap,v=.slice p L.length cap∧L.length≤cap∧(p=none→cap=0)∧RowG T enc k p L y:=by
 obtain⟨p,cap,rfl,h1,h2⟩:=h.row hk
 refine⟨p,cap,rfl,h1,fun e=>?_,h2⟩
 subst e
 rcases h.ow.2 with⟨e,h0⟩|⟨g,cap',cur,e,_⟩
 · exact((Value.slice.injEq _ _ _ _ _ _).mp e).2.2
 · have:=((Value.slice.injEq _ _ _ _ _ _).mp e).1
   cases this
theorem encG_new {w:World} {c:Array Value} (T:TypeId) (l:List Value) (hl:c=l.toArray) {g:Nat} (hg:w.heap.size=g):∀j u,l[j]?=some u→(w.alloc (.cells c T)).cell? ((⟨g,0,none⟩:Addr).add j)=some u:=fun j u h=>by
 subst hg
 have e:(⟨w.heap.size,0,none⟩:Addr).add j=⟨w.heap.size,j,none⟩:=by simp only[Addr.add];split<;>simp_all
 rw[e,(cell_blk (heap_new w _) _).1,←h,hl]
 simp
end
end Go.Proofs.YtpkaehpllldcmaaGreatDoor.Bt
end
