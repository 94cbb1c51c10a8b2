/- RkH, RkJ. -/
import Derived.Test.YtpkaehpllldcmaaGreatDoorMoX
import Derived.Test.YtpkaehpllldcmaaGreatDoorMoW
import Derived.Test.YtpkaehpllldcmaaGreatDoorMoE
import Derived.Lib.SmallJoins
import Derived.Deep.Slices
import Derived.Deep.Strs
import Derived.ChangeSame
import Derived.OpenShut
import Derived.WideShapes
import Derived.WalkSmall
section
namespace Go.Proofs.YtpkaehpllldcmaaGreatDoor.Bt
open Go Go.RowKit Go.Shelf
set_option linter.unusedVariables false
set_option linter.unusedSimpArgs false
set_option maxRecDepth 100000
section
variable {w:World} {L:List Lk}
set_option maxHeartbeats 4000000 in
theorem requal23 (u v:Option Addr) (ca cb:Nat) (hL:L.length≤100) (hu:DocE u ca L w) (hv:DocE v cb L w):
 Calls Tryz.prog 13 #[.slice u L.length ca,.slice v L.length cb] w (Gives (.bool true) w):=by
 obtain⟨n,hn⟩:∃n,L.length=n:=⟨_,rfl⟩
 have HN:=Lib.hid hn
 have d1:((n:Int) !=(n:Int))=false:=by simp
 have HU:=Lib.hid hu;have HV:=Lib.hid hv
 rw[hn]at hL⊢
 clear hu hv hn
 go_enter Tryz.func13,Tryz.ntmps13
 go_wp2_with fail
 go_loopw[13] (fun i wr=>∃j:Nat,j≤n∧i=.int .i64 (j:Int)∧Hid (Below w.heap.size w wr)) (fun i _=>n-(intOf i).toNat)
 case atStart=>exact⟨0,Nat.zero_le _,rfl,Lib.hid (Below.refl _ _)⟩
 case round=>
  obtain⟨j,hj,rfl,HW⟩:=hrel
  by_cases hlt:j<n
  · obtain⟨E,hE⟩:∃E,L[j]?=some E:=⟨_,List.getElem?_eq_getElem (by have:=HN.out;omega)⟩
    obtain⟨gu,rfl, -,p0,p1⟩:=(HU.out.below HW.out).cells hE
    obtain⟨gv,rfl, -,q0,q1⟩:=(HV.out.below HW.out).cells hE
    obtain⟨y1,y4⟩:=E
    simp only at p0 p1 q0 q1
    have i0:0≤(j:Int):=by omega
    have i1:(j:Int)<(n:Int):=by omega
    clear hE
    go_wp2_with fail
    go_region
    go_wp2_with fail
    refine⟨⟨j+1,by omega,by go_num,Lib.hid HW.out.drew⟩,by simp[intOf];omega⟩
  · have i1:¬(j:Int)<(n:Int):=by omega
    go_wp2_with fail
    go_ret
    exact⟨rfl,HW.out⟩
def DRow (L:List Lk) (w:World) (e:Ending) (w':World):Prop:=∃p cap,e=.returned (.slice p L.length cap)∧DocE p cap L w'∧Below w.heap.size w w'
set_option maxHeartbeats 4000000 in
theorem of23 (p:Option Addr) (cap:Nat) (hL:L.length≤100) (hR:RowG 39 eL 2 p L w):Calls Tryz.prog 14 #[.slice p L.length cap] w (DRow L w):=by
 obtain⟨i0,hi,hz0,hz1,hz2⟩:=info_parts Tryz.infoRefL
 have HI:=Lib.hid hi;have HZ0:=Lib.hid hz0;have HZ1:=Lib.hid hz1;have HZ2:=Lib.hid hz2
 clear hi hz0 hz1 hz2
 have HR:=Lib.hid hR
 obtain⟨n,hn⟩:∃n,L.length=n:=⟨_,rfl⟩
 have HN:=Lib.hid hn
 obtain⟨b0,hb0⟩:∃b0,w.heap.size=b0:=⟨_,rfl⟩
 have HB0:=Lib.hid hb0
 have HST:=Lib.hid (RwG.start 47 eL 2 w hb0)
 rw[hn]at hL⊢
 clear hR hn hb0
 go_enter Tryz.func14,Tryz.ntmps14
 go_wp2_with fail
 go_loopw[3,8] (fun s3 s8 wr=>∃(j:Nat) (v3:Value),j≤n∧v3=s3∧s8=.int .i64 (j:Int)∧Hid (RwG 47 eL 2 b0 (L.take j) v3 w wr)) (fun _ s8 _=>n-(intOf s8).toNat)
 case atStart=>exact⟨0,_,Nat.zero_le _,rfl,rfl,HST⟩
 case round=>
  clear HST
  obtain⟨j,v3,hj,rfl,rfl,HG⟩:=hrel
  by_cases hjn:j<n
  · have hjn2:(j:Int)<(n:Int):=by omega
    obtain⟨E,hE⟩:∃E,L[j]?=some E:=⟨_,List.getElem?_eq_getElem (by have:=HN.out;omega)⟩
    have hbw:Below w.heap.size w wr:=by rw[HB0.out];exact HG.out.bl
    obtain⟨g,rfl,hg,q0,q1⟩:=rowE_cell (HR.out.below hbw) hE
    have HTK:=Lib.hid (take_next hE)
    have hlen:(L.take j).length≤100:=by rw[List.length_take];omega
    have HR4:=Lib.hid ((HG.out.below (bel1 wr (.cells #[.int .u64 (E.i:Int),.int .u64 (E.x:Int)] 39))).below (bel1 _ (.cells #[.int .u64 (E.i:Int),.int .u64 (E.x:Int)] 47)))
    have hsz:=HG.out.sz
    clear hE hbw hg
    go_wp2_with (at_builtin;refine wpList_append_own _ rfl _ _ 36 rfl b0 47 i0 (.agg #[.int .u64 0,.int .u64 0]) 2 16 Tryz.underlying36 HI.out HZ0.out HZ1.out HZ2.out rfl (by decide) _ _ _ rfl HR4.out.ow ⟨_,0,none⟩ 1 1 (eL E) rfl rfl (encG_new _ _ rfl (by simp)) (by simp[eL,Value.oneCell']) (by unfold maxLen;omega) (by omega) (by first|omega|(simp;omega)) ?_;intro v' w6 hown' hgrow _)
    have HF:Hid (RwG 47 eL 2 b0 (L.take (j+1)) v' w w6):=Lib.hid (by
     rw[HTK.out]
     exact HR4.out.app E hgrow hown')
    clear hown' hgrow HG HR4
    go_wp2_with fail
    go_roundw
    case rel=>exact⟨j+1,_,by omega,rfl,by go_num,HF⟩
    case measure=>simp[intOf];omega
  · have hjn2:¬(j:Int)<(n:Int):=by omega
    have hw:=HG.out
    rw[List.take_of_length_le (by have:=HN.out;omega)]at hw
    have HB:=Lib.hid (show Below w.heap.size w wr by rw[HB0.out];exact hw.bl)
    obtain⟨p',cap',rfl,h1,h2,h3⟩:=hw.row2 eL_len
    have HRE:=Lib.hid (show DocE p' cap' L wr from⟨h3,h1,h2⟩)
    rw[HN.out]
    clear h1 h2 h3 hw HG
    go_wp2_with fail
    go_ret
    exact⟨p',cap',by rw[HN.out];rfl,HRE.out,HB.out⟩
set_option maxHeartbeats 4000000 in
theorem ddrop23_none (p:Option Addr) (cap id:Nat) (hD:DocE p cap L w) (hn:L.length≤100) (hi:¬ixE L id<L.length):
 Calls Tryz.prog 10 #[.slice p L.length cap,.int .u64 (id:Int)] w (DTwo L #[.int .i64 8] w):=by
 have HD:=Lib.hid hD
 have HH:=Lib.hid fun(X:World) (hX:Below w.heap.size w X)=>dhas23 (w:=X) p cap id (hD.below hX) hn
 have hb:hasL L id=false:=decide_eq_false hi
 rw[hb]at HH
 obtain⟨n,hnn⟩:∃n,L.length=n:=⟨_,rfl⟩
 have HN:=Lib.hid hnn
 rw[hnn]at HH
 rw[hnn]
 clear hD hn hi hb hnn
 go_enter Tryz.func10,Tryz.ntmps10
 go_wp2_with fail
 refine(HH.out _ (Below.refl _ _)).mono ?_
 rintro e1 w1 ⟨rfl,hb⟩
 have HB:=Lib.hid hb
 clear hb HH
 go_wp2_with fail
 go_ret2
 exact⟨p,cap,by rw[HN.out];rfl,HD.out.below HB.out,HB.out⟩
set_option maxHeartbeats 8000000 in
theorem ddrop23_yes (p:Option Addr) (cap id:Nat) (hD:DocE p cap L w) (hn:L.length≤100) (hi:ixE L id<L.length):
 Calls Tryz.prog 10 #[.slice p L.length cap,.int .u64 (id:Int)] w (DTwo (L.filter fun y=>y.i !=id) #[.int .i64 0] w):=by
 obtain⟨i0,hi,hz0,hz1,hz2⟩:=info_parts Tryz.infoRefL
 have HI:=Lib.hid hi;have HZ0:=Lib.hid hz0;have HZ1:=Lib.hid hz1;have HZ2:=Lib.hid hz2
 clear hi hz0 hz1 hz2
 have HD:=Lib.hid hD
 have HH:=Lib.hid fun(X:World) (hX:Below w.heap.size w X)=>dhas23 (w:=X) p cap id (hD.below hX) hn
 have hb:hasL L id=true:=decide_eq_true hi
 rw[hb]at HH
 obtain⟨n,hnn⟩:∃n,L.length=n:=⟨_,rfl⟩
 have HN:=Lib.hid hnn
 rw[hnn]at HH hn
 rw[hnn]
 clear hD hi hb hnn
 go_enter Tryz.func10,Tryz.ntmps10
 go_wp2_with fail
 refine(HH.out _ (Below.refl _ _)).mono ?_
 rintro e1 w1 ⟨rfl,hb⟩
 have HB:=Lib.hid hb
 clear hb HH
 obtain⟨b0,hb0⟩:∃b0,w1.heap.size=b0:=⟨_,rfl⟩
 have HB0:=Lib.hid hb0
 have HST:=Lib.hid (RwG.start 47 eL 2 w1 hb0)
 clear hb0
 go_wp2_with fail
 go_loopw[6,16] (fun s6 s16 wr=>∃(j:Nat) (v:Value),j≤n∧v=s6∧s16=.int .i64 (j:Int)∧Hid (RwG 47 eL 2 b0 ((L.take j).filter fun y=>y.i !=id) v w1 wr)) (fun _ s16 _=>n-(intOf s16).toNat)
 case atStart=>exact⟨0,_,Nat.zero_le _,rfl,rfl,HST⟩
 case round=>
  clear HST
  obtain⟨j,v,hj,rfl,rfl,HG⟩:=hrel
  have HBW:Hid (Below w.heap.size w wr):=Lib.hid (HB.out.trans (HG.out.bl.mono (by rw[←HB0.out];exact HB.out.size)))
  by_cases hjn:j<n
  · have hjn2:(j:Int)<(n:Int):=by omega
    obtain⟨Y,hY⟩:∃E,L[j]?=some E:=⟨_,List.getElem?_eq_getElem (by have:=HN.out;omega)⟩
    obtain⟨g,rfl,hg,q0,q1⟩:=(HD.out.below HBW.out).cells hY
    have HTK:=Lib.hid (fl_next (id:=id) hY)
    have hlen:((L.take j).filter fun y=>y.i !=id).length≤100:=by
     have h1:=List.length_filter_le (fun y:Lk=>y.i !=id) (L.take j)
     rw[List.length_take]at h1
     omega
    have hsz:=HG.out.sz
    by_cases hji:Y.i=id
    · have d:((Y.i:Int) !=(id:Int))=false:=by simp;omega
      have d2:decide ((Y.i:Int)≠(id:Int))=false:=by simp;omega
      have htk:=HTK.out
      rw[if_pos hji]at htk
      have HTK2:=Lib.hid htk
      have HR4:=Lib.hid (HG.out.below (bel1 wr (.cells #[.int .u64 (Y.i:Int),.int .u64 (Y.x:Int)] 47)))
      clear hY hg hji htk
      go_wp2_with fail
      go_roundw
      case rel=>exact⟨j+1,_,by omega,rfl,by go_num,by rw[HTK2.out];exact HR4⟩
      case measure=>simp[intOf];omega
    · have d:((Y.i:Int) !=(id:Int))=true:=by simp;omega
      have d2:decide ((Y.i:Int)≠(id:Int))=true:=by simp;omega
      have htk:=HTK.out
      rw[if_neg hji]at htk
      have HTK2:=Lib.hid htk
      have HR4:=Lib.hid ((HG.out.below (bel1 wr (.cells #[.int .u64 (Y.i:Int),.int .u64 (Y.x:Int)] 47))).below (bel1 _ (.cells #[.int .u64 (Y.i:Int),.int .u64 (Y.x:Int)] 47)))
      clear hY hg hji htk
      go_wp2_with (at_builtin;refine wpList_append_own _ rfl _ _ 36 rfl b0 47 i0 (.agg #[.int .u64 0,.int .u64 0]) 2 16 Tryz.underlying36 HI.out HZ0.out HZ1.out HZ2.out rfl (by decide) _ _ _ rfl HR4.out.ow ⟨_,0,none⟩ 1 1 (eL Y) rfl rfl (encG_new _ _ rfl (by simp)) (by simp[eL,Value.oneCell']) (by unfold maxLen;omega) (by omega) (by first|omega|(simp;omega)) ?_;intro v' w6 hown' hgrow _)
      have HF:Hid (RwG 47 eL 2 b0 ((L.take (j+1)).filter fun y=>y.i !=id) v' w1 w6):=Lib.hid (by
       rw[HTK2.out]
       exact HR4.out.app Y hgrow hown')
      clear hown' hgrow HG HR4
      go_wp2_with fail
      go_roundw
      case rel=>exact⟨j+1,_,by omega,rfl,by go_num,HF⟩
      case measure=>simp[intOf];omega
  · have hjn2:¬(j:Int)<(n:Int):=by omega
    have hw:=HG.out
    rw[List.take_of_length_le (by have:=HN.out;omega)]at hw
    obtain⟨p',cap',rfl,h1,h2,h3⟩:=hw.row2 eL_len
    have HRE:=Lib.hid (show DocE p' cap' (L.filter fun y=>y.i !=id) wr from⟨h3,h1,h2⟩)
    obtain⟨l',hl'⟩:∃l',(L.filter fun y=>y.i !=id).length=l':=⟨_,rfl⟩
    have HLE:=Lib.hid hl'
    rw[hl']
    clear h1 h2 h3 hw HG hl'
    go_wp2_with fail
    go_ret2
    exact⟨p',cap',by rw[HLE.out];rfl,HRE.out,HBW.out⟩
theorem dDrop23 (p:Option Addr) (cap id:Nat) (hD:DocE p cap L w) (hu:Uq L) (hn:L.length≤100):
 Calls Tryz.prog 10 #[.slice p L.length cap,.int .u64 (id:Int)] w (DTwo (drL L id) #[.int .i64 (drR L id)] w):=by
 by_cases c:ixE L id<L.length
 · have e1:drR L id=0:=by unfold drR;rw[if_pos c]
   have e2:drL L id=L.filter fun y=>y.i !=id:=(hu.filter id).symm
   rw[e1,e2]
   exact ddrop23_yes p cap id hD hn c
 · have e1:drR L id=8:=by unfold drR;rw[if_neg c]
   rw[e1,drL_none c]
   exact ddrop23_none p cap id hD hn c
end
end Go.Proofs.YtpkaehpllldcmaaGreatDoor.Bt
end
section
namespace Go.Proofs.YtpkaehpllldcmaaGreatDoor.Bt
open Go Go.RowKit Go.Shelf Go.Deep
open Go.ChangeShapes Go.WideShapes Go.ChangeAt
set_option linter.unusedVariables false
set_option linter.unusedSimpArgs false
theorem copen (pa:Option Addr) (va vs:Nat) (w:World):Calls Tryz.prog 8 #[.agg #[.pointer pa,.int .i64 (va:Int),.int .i64 (vs:Int)]] w (Gives (.agg #[.pointer pa,.int .i64 (va:Int),.int .i64 (vs:Int)]) w):=by
 go_enter Tryz.func8,Tryz.ntmps8
 go_wp2_with fail
 exact bodyPost_ret (v:=.agg #[.pointer pa,.int .i64 (va:Int),.int .i64 (vs:Int)]) (by simp[results,Tryz.results8,go_sem]) rfl ⟨rfl,below2 _ _ _⟩
structure ClS (C A vs:Nat) (m:Nat→UInt8) (w x:World):Prop where
 c:x.heap[C]?=some (.cells (vwC A 40 vs) 34 (0,0))
 on:On A (cS m) x
 bs:Base A w x
section
variable {C A vs:Nat} {m m':Nat→UInt8} {w x z:World}
theorem ClS.below (h:ClS C A vs m w x) (hb:Below x.heap.size x z):ClS C A vs m w z:=
 ⟨blk_at hb h.c,h.on.below hb,h.bs.below h.on hb⟩
theorem ClS.went (h:ClS C A vs m w x) (ho:On A (cS m') z) (hg:Went A x z):ClS C A vs m' w z:=
 ⟨hg.keep h.on h.c (by decide) (by decide) (by decide),ho,h.bs.went hg⟩
theorem ClS.start (ho:On A (cS m) x) (hb:Base A w x):ClS x.heap.size A vs m w (x.alloc (.cells (vwC A 40 vs) 34)):=⟨heap_new _ _,ho.below (bel1 _ _),hb.below ho (bel1 _ _)⟩
theorem ClS.all (h:ClS C A vs m w x):x.cell? ⟨C,0,none⟩=some (.pointer (some ⟨A,0,none⟩))∧x.cell? ⟨C,1,none⟩=some (.int .i64 40)∧x.cell? ⟨C,2,none⟩=some (.int .i64 (vs:Int)):=
 ⟨(cell_blk h.c 0).1,(cell_blk h.c 1).1,(cell_blk h.c 2).1⟩
end
structure Act23 where
 o:Bool
 e:Lk
def Act23Cells (w:World) (b off:Nat) (a:Act23):Prop:=
 w.cell? ⟨b,off,none⟩=some (.bool a.o)∧w.cell? ⟨b,off+1,none⟩=some (.int .u64 (a.e.i:Int))∧w.cell? ⟨b,off+2,none⟩=some (.int .u64 (a.e.x:Int))
def Acts23At (w:World) (p:Option Addr) (acts:List Act23):Prop:=
 (acts=[])∨∃b off,p=some ⟨b,off,none⟩∧b<w.heap.size∧∀i (h:i<acts.length),Act23Cells w b (off+i*3) acts[i]∧acts[i].e.ok
theorem Tryz.cellsAct23:Tryz.prog.cellsOf 41=3:=by kernel_rfl
theorem Tryz.cellsBoolr:Tryz.prog.cellsOf 4=1:=by kernel_rfl
theorem Tryz.cellsU64r:Tryz.prog.cellsOf 37=1:=by kernel_rfl
theorem Tryz.cellsLnkr:Tryz.prog.cellsOf 39=2:=by kernel_rfl
theorem u64_bnd {n:Int} (h:(Lit.int .u64 n).wf=true):0≤n∧n<18446744073709551616:=by
 have h2:IntKind.u64.min≤n∧n≤IntKind.u64.max:=by simpa[Lit.wf]using h
 have e1:IntKind.u64.min=0:=by decide
 have e2:IntKind.u64.max=18446744073709551615:=by decide
 omega
section
variable {H:Type} {enc:TypeId × Value→H} {P:Program} {w:World} {base:Nat} {spare:Nat→Bool} {held:Bool}
theorem trod_struct2c {t:TypeId} {f0 f1:Field} {fuel:Nat} {cs:List Value} {x:DataW H × List MemPlace} (ht:P.underlying t=some (.struct #[f0,f1])) (h:DataW.trod enc P w base spare held fuel t cs=some x):
 ∃y0 y1 n,cs.length=P.cellsOf t∧DataW.trod enc P w base spare held n f0.type ((cs.drop f0.offset).take (P.cellsOf f0.type))=some y0∧
  DataW.trod enc P w base spare held n f1.type ((cs.drop f1.offset).take (P.cellsOf f1.type))=some y1:=by
 obtain⟨xs,n,_,rfl,hl,hlen,hf⟩:=DataW.trod_struct ht h
 match xs,hlen with
 |[y0,y1],_=>exact⟨y0,y1,n,hl,by simpa using hf 0 f0 rfl,by simpa using hf 1 f1 rfl⟩
end
set_option maxRecDepth 100000 in
theorem acts23_open {H:Type} {enc:TypeId × Value→H} {w:World} {fuel:Nat} {v:Value} {x:DataW H × List MemPlace} {a:Option Addr} {len cap:Nat} (hv:v=.slice a len cap)
 (h:DataW.trod enc Tryz.prog w 0 (fun _=>true) true fuel 23 v.cells.toList=some x):∃acts:List Act23,acts.length=len∧len≤9223372036854775807∧Acts23At w a acts:=by
 subst hv
 rcases open_slice Tryz.underlying23 h with⟨h1,_⟩|⟨ad,len',cap',m,n,D,Pl,h1,_,hl,hm,hmm,_,hi⟩
 · simp[Value.cells]at h1
   exact⟨[],by simp[h1.2.1],by omega,.inl rfl⟩
 · simp[Value.cells]at h1
   obtain⟨rfl,rfl,rfl⟩:=h1
   unfold maxLen at hm
   have hlm:len≤m:=by rw[hmm];simp;omega
   have key:∀i,i<len→∃act:Act23,act.e.ok∧w.cell? (ad.add (i*3))=some (.bool act.o)∧w.cell? (ad.add (i*3+1))=some (.int .u64 (act.e.i:Int))∧w.cell? (ad.add (i*3+2))=some (.int .u64 (act.e.x:Int)):=by
    intro i hilt
    obtain⟨cs',hc,ht⟩:=hi i (by omega)
    rw[Tryz.cellsAct23]at hc
    obtain⟨_,hcl,hat⟩:=World.cells?_some hc
    obtain⟨y0,y1,k,_,e0,e1⟩:=trod_struct2c Tryz.underlying41 ht
    match cs',hcl with
    |[c0,c1,c2],_=>
     simp only[Tryz.cellsBoolr,Tryz.cellsLnkr,List.drop_zero,List.drop_succ_cons,List.take_succ_cons,List.take_zero]at e0 e1
     obtain⟨z0,z1,k2,_,g0,g1⟩:=trod_struct2c Tryz.underlying39 e1
     simp only[Tryz.cellsU64r,List.drop_zero,List.drop_succ_cons,List.take_succ_cons,List.take_zero]at g0 g1
     obtain⟨d,hd,_⟩:=DataW.trod_bool Tryz.underlying4 e0
     obtain⟨f,hf,_,wf⟩:=DataW.trod_int Tryz.underlying37 g0
     obtain⟨bb,hb,_,wb⟩:=DataW.trod_int Tryz.underlying37 g1
     simp only[List.cons.injEq,and_true]at hd hf hb
     subst hd hf hb
     have b1:=u64_bnd wf
     have b4:=u64_bnd wb
     have a0:=hat 0 (by omega)
     have a1:=hat 1 (by omega)
     have a2:=hat 2 (by omega)
     rw[add_add]at a0 a1 a2
     refine⟨⟨d,⟨f.toNat,bb.toNat⟩⟩,⟨by show f.toNat<_;omega,by show bb.toNat<_;omega⟩,by simpa using a0,?_,?_⟩
     · show _=some (Value.int .u64 ((f.toNat:Nat):Int));rw[Int.toNat_of_nonneg b1.1];simpa using a1
     · show _=some (Value.int .u64 ((bb.toNat:Nat):Int));rw[Int.toNat_of_nonneg b4.1];simpa using a2
   refine⟨(List.range len).attach.map fun i=>Classical.choose (key i.1 (List.mem_range.1 i.2)),by simp,by omega,?_⟩
   by_cases h0:len=0
   · subst h0;exact .inl rfl
   · have k0:=(Classical.choose_spec (key 0 (by omega))).2.1
     obtain⟨b,off,spot⟩:=ad
     have hspot:spot=none:=by simpa[Addr.add]using World.cell?_spot k0
     subst hspot
     refine .inr ⟨b,off,rfl,World.block_lt_of_cell? _ _ (by simpa[Addr.add]using k0),fun i hil=>?_⟩
     have hil':i<len:=by simpa using hil
     have ks:=Classical.choose_spec (key i hil')
     have eA:∀j,(⟨b,off,none⟩:Addr).add j=⟨b,off+j,none⟩:=fun j=>by
      simp only[Addr.add];split<;>simp_all
     simp only[List.getElem_map,List.getElem_attach,List.getElem_range]
     exact⟨⟨(congrArg w.cell? (eA _).symm).trans ks.2.1,(congrArg w.cell? (eA (i*3+1)).symm).trans ks.2.2.1,(congrArg w.cell? (eA (i*3+2)).symm).trans ks.2.2.2⟩,ks.1⟩
theorem Acts23At.below {p:Option Addr} {l:List Act23} {w y:World} (h:Acts23At w p l) (hb:Below w.heap.size w y):Acts23At y p l:=by
 rcases h with e|⟨b,off,e,hl,hc⟩
 · exact .inl e
 · have k:∀j,y.cell? ⟨b,j,none⟩=w.cell? ⟨b,j,none⟩:=fun j=>World.cell?_of_block (hb.block _ hl)
   refine .inr ⟨b,off,e,Nat.lt_of_lt_of_le hl hb.size,fun i hi=>⟨?_,(hc i hi).2⟩⟩
   obtain⟨c0,c1,c2⟩:=(hc i hi).1
   exact⟨(k _).trans c0,(k _).trans c1,(k _).trans c2⟩
def AcW (D:Nat) (a:Act23) (x:World):Prop:=x.heap[D]?=some (.cells #[.bool a.o,.int .u64 (a.e.i:Int),.int .u64 (a.e.x:Int)] 41 (0,0))
theorem AcW.below {D:Nat} {a:Act23} {x z:World} (h:AcW D a x) (hb:Below x.heap.size x z):AcW D a z:=blk_at hb h
theorem AcW.went {D A:Nat} {a:Act23} {s:ASt} {x z:World} (h:AcW D a x) (hx:On A s x) (hg:Went A x z):AcW D a z:=hg.keep hx (show x.heap[D]?=_ from h) (by decide) (by decide) (by decide)
theorem AcW.all {D:Nat} {a:Act23} {x:World} (h:AcW D a x):x.cell? ⟨D,0,none⟩=some (.bool a.o)∧x.cell? ⟨D,1,none⟩=some (.int .u64 (a.e.i:Int))∧x.cell? ⟨D,2,none⟩=some (.int .u64 (a.e.x:Int)):=by
 refine⟨?_,?_,?_⟩<;>(rw[(cell_blk h _).1];rfl)
end Go.Proofs.YtpkaehpllldcmaaGreatDoor.Bt
end
