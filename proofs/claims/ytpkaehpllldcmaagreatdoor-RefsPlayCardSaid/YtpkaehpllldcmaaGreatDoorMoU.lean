/- RkC, RkD. -/
import Derived.Test.YtpkaehpllldcmaaGreatDoorMoT
import Derived.Test.YtpkaehpllldcmaaGreatDoorMoA
section
namespace Go.Proofs.YtpkaehpllldcmaaGreatDoor.Bt
open Go Go.RowKit Go.Shelf
set_option linter.unusedVariables false
set_option linter.unusedSimpArgs false
def eL (e:Lk):List Value:=[.int .u64 (e.i:Int),.int .u64 (e.x:Int)]
theorem eL_len (e:Lk):(eL e).length=2:=rfl
theorem Tryz.infoLnk:(Tryz.prog.info? 39).map (fun i=>(i.zero,i.size,i.bytes))=some (some (.agg #[.int .u64 0,.int .u64 0]),2,16):=by kernel_rfl
def RowE (L:List Lk) (w:World) (e:Ending) (w':World):Prop:=∃p cap,e=.returned (.slice p L.length cap)∧L.length≤cap∧RowG 39 eL 2 p L w'∧Below w.heap.size w w'
theorem rowE_cell {p:Option Addr} {L:List Lk} {w:World} (h:RowG 39 eL 2 p L w) {j:Nat} {e:Lk} (hj:L[j]?=some e):
 ∃g,p=some ⟨g,0,none⟩∧g<w.heap.size∧w.cell? ⟨g,j*2,none⟩=some (.int .u64 (e.i:Int))∧w.cell? ⟨g,j*2+1,none⟩=some (.int .u64 (e.x:Int)):=by
 obtain⟨g,hp,hg,hc⟩:=h.cell hj
 exact⟨g,hp,hg,hc 0 _ rfl,hc 1 _ rfl⟩
theorem take_next {L:List Lk} {j:Nat} {e:Lk} (h:L[j]?=some e):L.take (j+1)=L.take j++[e]:=by rw[List.take_add_one,h];rfl
section
variable {A vs:Nat} {m:Nat→UInt8} {w:World} {L:List Lk}
set_option maxRecDepth 100000 in
set_option maxHeartbeats 4000000 in
theorem call (h:On A (cS m) w) (hv:vs≤400) (hL:Ls m (vs/16) L):Calls Tryz.prog 15 #[vwV A 40 vs] w (RowE L w):=by
 obtain⟨i0,hi,hz0,hz1,hz2⟩:=info_parts Tryz.infoLnk
 have HI:=Lib.hid hi;have HZ0:=Lib.hid hz0;have HZ1:=Lib.hid hz1;have HZ2:=Lib.hid hz2
 clear hi hz0 hz1 hz2
 have HSN:=Lib.hid fun X (hX:On A (cS m) X)=>cslots hX hv
 have HLO:=Lib.hid fun X (hX:On A (cS m) X) i (hi:i<vs/16)=>cload hX hv i hi
 obtain⟨d,hd⟩:∃d,vs/16=d:=⟨_,rfl⟩
 have hd17:d≤25:=by omega
 rw[hd]at HSN HLO hL
 have hld:=hL.len
 have HL:=Lib.hid hL
 have HO:=Lib.hid h
 have HF:=Lib.hid (And.intro (heap_new w (.cells (vwC A 40 vs) 34)) (bel1 w (.cells (vwC A 40 vs) 34)))
 clear hd h hL
 go_enter Tryz.func15,Tryz.ntmps15
 go_upto_region 2 with fail
 change Code.wp _ _ _ _ (w.alloc (.cells (vwC A 40 vs) 34))
 obtain⟨y,hy⟩:∃y,w.alloc (.cells (vwC A 40 vs) 34)=y:=⟨_,rfl⟩
 obtain⟨C,hC⟩:∃C,w.heap.size=C:=⟨_,rfl⟩
 have hf:=HF.out
 have hcw:=hf.2
 rw[hy]at hf hcw
 rw[hC]at hf
 rw[hy,hC]
 have HG:Hid (y.heap[C]?=some (.cells (vwC A 40 vs) 34 (0,0))∧Below w.heap.size w y):=Lib.hid ⟨hf.1,hcw⟩
 clear hy hC hf hcw HF
 have c0:=(cell_blk HG.out.1 0).1;have c1:=(cell_blk HG.out.1 1).1;have c2:=(cell_blk HG.out.1 2).1
 go_wp2_with fail
 refine(HSN.out _ (HO.out.below HG.out.2)).mono ?_
 rintro e w1 ⟨rfl,hb⟩
 have HG1:Hid (w1.heap[C]?=some (.cells (vwC A 40 vs) 34 (0,0))∧Below w.heap.size w w1):=Lib.hid ⟨blk_at hb HG.out.1,HG.out.2.trans (hb.mono HG.out.2.size)⟩
 clear hb c0 c1 c2 HG HSN
 obtain⟨b0,hb0⟩:∃b0,w1.heap.size=b0:=⟨_,rfl⟩
 have HCB:Hid (C<b0):=Lib.hid (by have:=(Array.getElem?_eq_some_iff.1 HG1.out.1).1;omega)
 have HST:=Lib.hid (RwG.start 39 eL 2 w1 hb0)
 have HB0:=Lib.hid hb0
 clear hb0
 go_wp2_with fail
 go_loopw[3,8] (fun s3 s8 wr=>∃(j:Nat) (v3:Value),j≤L.length∧v3=s3∧s8=.int .i64 (j:Int)∧Hid (RwG 39 eL 2 b0 (L.take j) v3 w1 wr)) (fun _ s8 _=>d-(intOf s8).toNat)
 case atStart=>exact⟨0,_,Nat.zero_le _,rfl,rfl,HST⟩
 case round=>
  clear HST
  obtain⟨j,v3,hj,rfl,rfl,HR⟩:=hrel
  have hcr:=(HR.out.bl.block _ HCB.out).trans HG1.out.1
  have HBW:Hid (Below w.heap.size w wr):=Lib.hid (HG1.out.2.trans (HR.out.bl.mono (by rw[←HB0.out];exact HG1.out.2.size)))
  have HEND:j=L.length→Hid (∃p cap,v3=.slice p L.length cap∧L.length≤cap∧RowG 39 eL 2 p L wr):=fun e=>Lib.hid (by
   have:=HR.out.row eL_len
   rw[e,List.take_length]at this
   exact this)
  by_cases hjn:j<d
  · have hjn2:(j:Int)<(d:Int):=by omega
    have c0:=(cell_blk hcr 0).1;have c1:=(cell_blk hcr 1).1;have c2:=(cell_blk hcr 2).1
    have HLJ:=Lib.hid fun X (hX:On A (cS m) X)=>HLO.out X hX j hjn
    by_cases hjl:j<L.length
    · obtain⟨E,hE⟩:∃E,L[j]?=some E:=⟨_,List.getElem?_eq_getElem hjl⟩
      have hrd:=HL.out.rd j E hE
      rw[hrd.1]at HLJ
      have hz:¬((E.i:Int)=0):=by have:=hrd.2;omega
      have hz2:((E.i:Int)==0)=false:=by simpa using hz
      have hx:¬((E.x:Int)=0):=by have:=hrd.2;omega
      have hx2:((E.x:Int)==0)=false:=by simpa using hx
      have HTK:=Lib.hid (take_next hE)
      have hlen:(L.take j).length≤25:=by rw[List.length_take];omega
      have HLEN:=Lib.hid hlen
      clear hE hrd hcr hlen HEND hz hx
      go_wp2_with fail
      refine(HLJ.out _ (HO.out.below HBW.out)).mono ?_
      rintro e w2 ⟨rfl,hb⟩
      have HR2:=Lib.hid (HR.out.below hb)
      have HR4:=Lib.hid ((HR2.out.below (bel1 w2 (.cells #[.int .u64 (E.i:Int),.int .u64 (E.x:Int)] 39))).below (bel1 _ (.cells #[.int .u64 (E.i:Int),.int .u64 (E.x:Int)] 39)))
      have hsz:=HR2.out.sz
      have hlen:=HLEN.out
      clear hb c0 c1 c2
      go_wp2_with (at_builtin;refine wpList_append_own _ rfl _ _ 50 rfl b0 39 i0 (.agg #[.int .u64 0,.int .u64 0]) 2 16 Tryz.underlying50 HI.out HZ0.out HZ1.out HZ2.out rfl (by decide) _ _ _ rfl HR4.out.ow ⟨_,0,none⟩ 1 1 (eL E) rfl rfl (encG_new _ _ rfl (by simp)) (by simp[eL,Value.oneCell']) (by unfold maxLen;omega) (by omega) (by simp;omega) ?_;intro v' w6 hown' hgrow _)
      have HF:Hid (RwG 39 eL 2 b0 (L.take (j+1)) v' w1 w6):=Lib.hid (by
       rw[HTK.out]
       exact HR4.out.app E hgrow hown')
      clear hown' hgrow HR HR2 HR4
      go_wp2_with fail
      go_roundw
      case rel=>exact⟨j+1,_,by omega,rfl,by go_num,HF⟩
      case measure=>simp[intOf];omega
    · have hje:j=L.length:=by omega
      have hrd:=HL.out.fin j (by omega) hjn
      rw[hrd]at HLJ
      have HE:=HEND hje
      obtain⟨p,cap,rfl,hcap,hrow⟩:=HE.out
      have HRW:=Lib.hid (And.intro hcap hrow)
      clear hrd hcr HEND HE hcap hrow HR hje hjl
      go_wp2_with fail
      refine(HLJ.out _ (HO.out.below HBW.out)).mono ?_
      rintro e w2 ⟨rfl,hb⟩
      have HRW2:=Lib.hid (And.intro HRW.out.1 (And.intro (HRW.out.2.below hb) (HBW.out.trans (hb.mono HBW.out.size))))
      clear hb c0 c1 c2
      unfold lZ
      go_wp2_with fail
      go_ret
      exact⟨p,cap,rfl,HRW2.out.1,HRW2.out.2.1.below (bel1 _ _),HRW2.out.2.2.alloc HRW2.out.2.2.size _⟩
  · have hje:j=L.length:=by omega
    have hjn2:¬(j:Int)<(d:Int):=by omega
    have HE:=HEND hje
    obtain⟨p,cap,rfl,hcap,hrow⟩:=HE.out
    have HRW:=Lib.hid (And.intro hcap hrow)
    clear hcr HEND HE hcap hrow HR hje
    go_wp2_with fail
    go_ret
    exact⟨p,cap,rfl,HRW.out.1,HRW.out.2,HBW.out⟩
theorem cfind1 (F id:Nat) (hF:w.heap[F]?=some (.cells #[.int .u64 (id:Int)] 37 (0,0))) (e:Lk) (b:Bool) (hb:(e.i==id)=b):
 Calls Tryz.prog 54 (#[lV e]++#[.pointer (some ⟨F,0,none⟩)]) w (Gives (.bool b) w):=by
 have d:((e.i:Int)==(id:Int))=b:=by rw[←hb,Bool.eq_iff_iff];simp;omega
 have d2:decide ((e.i:Int)=(id:Int))=b:=by rw[←hb,Bool.eq_iff_iff];simp;omega
 have hF1:=blk_at (bel1 w (.cells #[.int .u64 (e.i:Int),.int .u64 (e.x:Int)] 39)) hF
 have c0:=(cell_blk hF1 0).1
 clear hb hF hF1
 go_enter Tryz.func54,Tryz.ntmps54
 go_wp2_with fail
 go_ret
 exact⟨by rfl,bel1 _ _⟩
set_option maxHeartbeats 2000000 in
theorem cindex (p:Option Addr) (cap id F:Nat) (hR:RowG 39 eL 2 p L w) (hF:w.heap[F]?=some (.cells #[.int .u64 (id:Int)] 37 (0,0))) (hn:L.length≤100):
 Calls Tryz.prog 53 #[.slice p L.length cap,.func (.func 54) #[] #[.pointer (some ⟨F,0,none⟩)]] w (Gives (.int .i64 (ixV L id)) w):=by
 have eg:∀args w,(callFunc 54 args).run Tryz.prog w=.ok (.enter 54 args) w:=enters_of Tryz.func54 (by kernel_rfl) rfl
 have HP:=Lib.hid fun(X:World) (hX:Below w.heap.size w X) (e:Lk) (b:Bool) (hb:(e.i==id)=b)=>cfind1 (w:=X) F id (blk_at hX hF) e b hb
 have HR:=Lib.hid hR
 obtain⟨n,hnn⟩:∃n,L.length=n:=⟨_,rfl⟩
 have HN:=Lib.hid hnn
 rw[hnn]at hn
 rw[hnn]
 clear hR hF hnn
 go_enter Tryz.func53,Tryz.ntmps53
 go_wp2_with fail
 go_loopw[5,8] (fun _ s8 wr=>∃j:Nat,j≤n∧s8=.int .i64 (j:Int)∧Hid (j≤ixE L id)∧Hid (Below w.heap.size w wr)) (fun _ s8 _=>n-(intOf s8).toNat)
 case atStart=>exact⟨0,Nat.zero_le _,rfl,Lib.hid (Nat.zero_le _),Lib.hid (Below.refl _ _)⟩
 case round=>
  obtain⟨j,hj,rfl,HJ,HB⟩:=hrel
  by_cases hjn:j<n
  · have hjn2:(j:Int)<(n:Int):=by omega
    obtain⟨E,hE⟩:∃E,L[j]?=some E:=⟨_,List.getElem?_eq_getElem (by have:=HN.out;omega)⟩
    obtain⟨g,rfl,hg,q0,q1⟩:=rowE_cell (HR.out.below HB.out) hE
    have HE:=Lib.hid hE
    clear hE
    by_cases hid:E.i=id
    · have HX:Hid (ixV L id=(j:Int)):=Lib.hid (by
       have h1:=ixE_at HE.out HJ.out hid
       unfold ixV
       rw[h1,if_pos (by have:=HN.out;omega)])
      have HPJ:=Lib.hid fun X hX=>HP.out X hX E true (by simp[hid])
      clear hid
      go_wp2_with (go_at_fn 54;refine(HPJ.out _ HB.out).mono ?_;rintro e w' ⟨rfl,hb'⟩)
      go_ret
      exact⟨by rw[HX.out];rfl,HB.out.trans (hb'.mono HB.out.size)⟩
    · have HX:=Lib.hid (ixE_next HE.out HJ.out hid)
      have HPJ:=Lib.hid fun X hX=>HP.out X hX E false (by simp[hid])
      clear hid
      go_wp2_with (go_at_fn 54;refine(HPJ.out _ HB.out).mono ?_;rintro e w' ⟨rfl,hb'⟩)
      go_roundw
      case rel=>exact⟨j+1,by omega,by go_num,HX,Lib.hid (HB.out.trans (hb'.mono HB.out.size))⟩
      case measure=>simp[intOf];omega
  · have hjn2:¬(j:Int)<(n:Int):=by omega
    have HX:Hid (ixV L id= -1):=Lib.hid (by
     unfold ixV
     rw[if_neg (by have:=HJ.out;have:=HN.out;omega)])
    go_wp2_with fail
    go_ret
    exact⟨by rw[HX.out];rfl,HB.out⟩
theorem cfind (p:Option Addr) (cap id:Nat) (hR:RowG 39 eL 2 p L w) (hn:L.length≤100):
 Calls Tryz.prog 31 #[.slice p L.length cap,.int .u64 (id:Int)] w (Gives (.int .i64 (ixV L id)) w):=by
 have HX:=Lib.hid (cindex (w:=w.alloc (.cells #[.int .u64 (id:Int)] 37)) p cap id w.heap.size (hR.below (bel1 _ _)) (heap_new _ _) hn)
 clear hR hn
 go_enter Tryz.func31,Tryz.ntmps31
 go_wp2_with fail
 refine HX.out.mono ?_
 rintro e w1 ⟨rfl,hb⟩
 go_wp2_with fail
 go_ret
 exact⟨rfl,(bel1 _ _).trans (hb.mono (by simp))⟩
theorem chas_find (L:List Lk) (id:Nat):decide ((0:Int)≤ixV L id)=hasL L id:=by
 unfold ixV hasL
 by_cases c:ixE L id<L.length
 · rw[if_pos c];simp[c]
 · rw[if_neg c];simp[c]
set_option maxHeartbeats 2000000 in
theorem chas (h:On A (cS m) w) (hv:vs≤400) (hL:Ls m (vs/16) L) (id:Nat):Calls Tryz.prog 16 #[vwV A 40 vs,.int .u64 (id:Int)] w (Gives (.bool (hasL L id)) w):=by
 have hlb:L.length≤25:=by have:=hL.len;omega
 have HLB:=Lib.hid hlb
 have HAL:=Lib.hid fun X (hX:On A (cS m) X)=>call hX hv hL
 have HO:=Lib.hid h
 have hq:=chas_find L id
 obtain⟨r,hr⟩:∃r,ixV L id=r:=⟨_,rfl⟩
 obtain⟨b,hb⟩:∃b,hasL L id=b:=⟨_,rfl⟩
 rw[hr,hb]at hq
 rw[hb]
 have HR:=Lib.hid hr
 have HQ:=Lib.hid hq
 clear h hL hr hb hq hlb
 have HF0:=Lib.hid ((Fb.start w).new (vwC A 40 vs) 34)
 go_enter Tryz.func16,Tryz.ntmps16
 go_upto_region 1 with fail
 change Code.wp _ _ _ _ (w.alloc (.cells (vwC A 40 vs) 34))
 obtain⟨y,hy⟩:∃y,(w.alloc (.cells (vwC A 40 vs) 34))=y:=⟨_,rfl⟩
 obtain⟨B0,hB0⟩:∃B,w.heap.size=B:=⟨_,rfl⟩
 have hf:=HF0.out
 rw[hy,hB0]at hf
 rw[hy,hB0]
 have HF:=Lib.hid hf
 clear hf HF0 hy hB0
 have c0:=HF.out.cell0 0 rfl;have c1:=HF.out.cell0 1 rfl;have c2:=HF.out.cell0 2 rfl
 go_wp2_with fail
 refine(HAL.out _ (HO.out.below HF.out.be)).mono ?_
 rintro e1 w1 ⟨p,cap,rfl,hcap,hrow,hb⟩
 have HF1:=Lib.hid (HF.out.below hb)
 have HRW:=Lib.hid hrow
 clear hb HF c0 c1 c2 HAL hrow hcap
 have HFI:=Lib.hid (cfind (w:=w1) p cap id HRW.out (by have:=HLB.out;omega))
 rw[HR.out]at HFI
 obtain⟨n,hn⟩:∃n,L.length=n:=⟨_,rfl⟩
 rw[hn]at HFI
 rw[hn]
 clear hn
 go_wp2_with fail
 refine HFI.out.mono ?_
 rintro e2 w2 ⟨rfl,hb⟩
 have HF2:=Lib.hid (HF1.out.below hb)
 have hq:=HQ.out
 clear hb HF1 HFI HRW
 go_wp2_with fail
 go_ret
 exact⟨rfl,HF2.out.be⟩
end
end Go.Proofs.YtpkaehpllldcmaaGreatDoor.Bt
end
section
namespace Go.Proofs.YtpkaehpllldcmaaGreatDoor.Bt
open Go Go.RowKit Go.Shelf
set_option linter.unusedVariables false
set_option linter.unusedSimpArgs false
set_option maxRecDepth 100000
section
variable {A vs:Nat} {m:Nat→UInt8} {w:World} {L:List Lk}
set_option maxHeartbeats 4000000 in
theorem cremove (h:On A (cS m) w) (hv:vs≤400) (hL:Ls m (vs/16) L) (i:Nat) (hi:i<L.length):Calls Tryz.prog 32 #[vwV A 40 vs,.int .i64 (i:Int)] w (Ret A (cS (rmE m i L.length)) (.tuple #[]) w):=by
 have HAL:=Lib.hid fun X (hX:On A (cS m) X)=>call hX hv hL
 have hn:=hL.len
 obtain⟨n,hnn⟩:∃n,L.length=n:=⟨_,rfl⟩
 have HN:=Lib.hid hnn
 rw[hnn]at hi hn
 rw[hnn]
 have e1:addrV 40 vs ((i:Int)*16) (((n:Int)-1-(i:Int))*16)=((40+16*i:Nat):Int):=by rw[addr_in (by omega)];push_cast;omega
 have e2:addrV 40 vs (((i:Int)+1)*16) (((n:Int)-1-(i:Int))*16)=((40+16*(i+1):Nat):Int):=by rw[addr_in (by omega)];push_cast;omega
 have e3:addrV 40 vs (((n:Int)-1)*16) 16=((40+16*(n-1):Nat):Int):=by rw[addr_in (by omega)];omega
 have HC:Hid (∀X,On A (cS m) X→Calls Tryz.prog 55 #[vwV A 40 vs,.int .i64 ((i:Int)*16),.int .i64 (((i:Int)+1)*16),.int .i64 (((n:Int)-1-(i:Int))*16)] X (Ret A (cS (mvE m i n)) (.int .i64 0) X)):=Lib.hid fun X hX=>by
  have:=on_copy hX 40 vs (by omega) (by omega) ((i:Int)*16) (((i:Int)+1)*16) (((n:Int)-1-(i:Int))*16) (by omega) (by omega)
  have ce:copyE (cS m) ((40+16*i:Nat):Int) ((40+16*(i+1):Nat):Int) (((n:Int)-1-(i:Int))*16)=0:=by
   unfold copyE
   rw[cS_there (by omega) (by omega) (by omega),if_neg (by simp),if_neg (by omega),cS_there (by omega) (by omega) (by omega)]
  have cs:copyS (cS m) ((40+16*i:Nat):Int) ((40+16*(i+1):Nat):Int) (((n:Int)-1-(i:Int))*16)=cS (mvE m i n):=by
   unfold copyS
   rw[ce,if_pos rfl,if_neg (by omega),Int.toNat_natCast,Int.toNat_natCast,show((((n:Int)-1-(i:Int))*16).toNat)=16*(n-1-i) by omega]
   rfl
  rw[e1,e2,ce,cs]at this
  exact this
 have HFI:Hid (∀X,On A (cS (mvE m i n)) X→Calls Tryz.prog 56 #[vwV A 40 vs,.int .i64 (((n:Int)-1)*16),.int .i64 16,.int .u8 0] X (Ret A (cS (rmE m i n)) (.int .i64 0) X)):=Lib.hid fun X hX=>by
  have:=on_fill hX 40 vs (by omega) (by omega) (((n:Int)-1)*16) 16 (by omega) 0
  have te:thereE (cS (mvE m i n)).L (cS (mvE m i n)).es ((40+16*(n-1):Nat):Int) 16=0:=cS_there (by omega) (by omega) (by omega)
  have fs:fillS (cS (mvE m i n)) ((40+16*(n-1):Nat):Int) 16 0=cS (rmE m i n):=by
   unfold fillS
   rw[te,if_pos rfl,Int.toNat_natCast]
   rfl
  rw[e3,te,fs]at this
  exact this
 have hb1:(i:Int)+1≤(n:Int):=by omega
 have hb2:(n:Int)≤25:=by omega
 clear e1 e2 e3 hi hn hv hnn hL
 have f0_:=Fr.start A w
 have f1_:=f0_.new h (vwC A 40 vs) 34 (by unfold NotAr;decide)
 have h1_:=h.below (bel1 _ (.cells (vwC A 40 vs) 34))
 have HF0:=Lib.hid (And.intro f1_ h1_)
 clear f0_ f1_ h1_ h
 go_enter Tryz.func32,Tryz.ntmps32
 go_upto_region 1 with fail
 change Code.wp _ _ _ _ (w.alloc (.cells (vwC A 40 vs) 34))
 obtain⟨y,hy⟩:∃y,(w.alloc (.cells (vwC A 40 vs) 34))=y:=⟨_,rfl⟩
 obtain⟨B0,hB0⟩:∃B,w.heap.size=B:=⟨_,rfl⟩
 have hf:=HF0.out
 rw[hy,hB0]at hf
 rw[hy,hB0]
 have HF:=Lib.hid hf
 clear hf HF0 hy hB0
 have c0:=HF.out.1.cell0 0 rfl;have c1:=HF.out.1.cell0 1 rfl;have c2:=HF.out.1.cell0 2 rfl
 go_wp2_with fail
 refine(HAL.out _ HF.out.2).mono ?_
 rintro e0 w0 ⟨p,cap,rfl, -, -,hb⟩
 have HF0:=Lib.hid (And.intro (HF.out.1.below HF.out.2 hb) (HF.out.2.below hb))
 rw[HN.out]
 clear hb HF HAL c0 c1 c2
 have c0:=HF0.out.1.cell0 0 rfl;have c1:=HF0.out.1.cell0 1 rfl;have c2:=HF0.out.1.cell0 2 rfl
 go_wp2_with fail
 refine(HC.out _ HF0.out.2).mono ?_
 rintro e w1 ⟨rfl,ho,hg⟩
 have HF1:=Lib.hid (And.intro (HF0.out.1.went HF0.out.2 hg) ho)
 clear ho hg HF0 c0 c1 c2 HC
 have c0:=HF1.out.1.cell0 0 rfl;have c1:=HF1.out.1.cell0 1 rfl;have c2:=HF1.out.1.cell0 2 rfl
 go_wp2_with fail
 refine(HFI.out _ HF1.out.2).mono ?_
 rintro e w2 ⟨rfl,ho,hg⟩
 have HF2:=Lib.hid (And.intro (HF1.out.1.went HF1.out.2 hg) ho)
 clear ho hg HF1 c0 c1 c2 HFI
 go_wp2_with fail
 exact bodyPost_ret (v:=.tuple #[]) (by simp[results,Tryz.results32,go_sem]) rfl ⟨rfl,HF2.out.2,HF2.out.1.wt⟩
set_option maxHeartbeats 4000000 in
theorem cfull (h:On A (cS m) w) (hv:vs≤400) (hL:Ls m (vs/16) L) (b:Bool) (hbb:decide (L.length=vs/16)=b):Calls Tryz.prog 33 #[vwV A 40 vs] w (Gives (.bool b) w):=by
 have HSN:=Lib.hid fun X (hX:On A (cS m) X)=>cslots hX hv
 have HAL:=Lib.hid fun X (hX:On A (cS m) X)=>call hX hv hL
 obtain⟨d,hd⟩:∃d,vs/16=d:=⟨_,rfl⟩
 rw[hd]at HSN hbb
 obtain⟨n,hn⟩:∃n,L.length=n:=⟨_,rfl⟩
 rw[hn]at hbb
 have HN:=Lib.hid hn
 have q1:((n:Int)==(d:Int))=b:=by rw[←hbb,Bool.eq_iff_iff];simp;omega
 have q2:decide ((n:Int)=(d:Int))=b:=by rw[←hbb,Bool.eq_iff_iff];simp;omega
 have HQ:=Lib.hid (And.intro q1 q2)
 have HO:=Lib.hid h
 clear h hL hd hn q1 q2 hbb
 have HF0:=Lib.hid ((Fb.start w).new (vwC A 40 vs) 34)
 go_enter Tryz.func33,Tryz.ntmps33
 go_upto_region 1 with fail
 change Code.wp _ _ _ _ (w.alloc (.cells (vwC A 40 vs) 34))
 obtain⟨y,hy⟩:∃y,(w.alloc (.cells (vwC A 40 vs) 34))=y:=⟨_,rfl⟩
 obtain⟨B0,hB0⟩:∃B,w.heap.size=B:=⟨_,rfl⟩
 have hf:=HF0.out
 rw[hy,hB0]at hf
 rw[hy,hB0]
 have HF:=Lib.hid hf
 clear hf HF0 hy hB0
 have HB0:=Lib.hid (show Below w.heap.size w y.drew from HF.out.be.drew)
 refine wp_region_held_drew (S:=Fb w [⟨B0,vwC A 40 vs,34⟩]) (by kernel_rfl) (HF.out.below (Below.refl _ _).drew) (fun hHeld=>?_)
 clear HF
 refine tk 0 (vwV A 40 vs) rfl hHeld (fun X hS=>by have s0:=hS.cell0 0 rfl;have s1:=hS.cell0 1 rfl;have s2:=hS.cell0 2 rfl;go_simp) ?_
 refine tk 3 (vwV A 40 vs) rfl hHeld (fun X hS=>by have s0:=hS.cell0 0 rfl;have s1:=hS.cell0 1 rfl;have s2:=hS.cell0 2 rfl;go_simp) ?_
 refine rd [1] (AllReadyH.cons rfl (fun K2 hK2=>?_) AllReadyH.nil)
 go_simp
 refine(HAL.out _ (HO.out.below HB0.out)).mono ?_
 rintro e x1 ⟨p,cap,rfl, -, -,hb⟩
 rw[HN.out]
 have HB1:=Lib.hid (HB0.out.trans (hb.mono HB0.out.size))
 have hS1:=hHeld.below hb
 clear hHeld hb HB0 HAL
 refine hK2.out _ _ hS1 (fun hHeld=>?_)
 clear hK2 hS1
 try simp only[Act.put,List.getElem_toArray,List.getElem_cons_zero,List.getElem_cons_succ,List.setIfInBounds_toArray,List.set_cons_zero,List.set_cons_succ]
 refine tk 2 (.int .i64 (n:Int)) rfl hHeld (fun X hS=>by skip;go_simp) ?_
 refine rd [4] (AllReadyH.cons rfl (fun K2 hK2=>?_) AllReadyH.nil)
 go_simp
 refine(HSN.out _ (HO.out.below HB1.out)).mono ?_
 rintro e x2 ⟨rfl,hb⟩
 have HB2:=Lib.hid (HB1.out.trans (hb.mono HB1.out.size))
 have hS2:=hHeld.below hb
 clear hHeld hb HB1 HSN
 refine hK2.out _ _ hS2 (fun hHeld=>?_)
 clear hK2 hS2
 try simp only[Act.put,List.getElem_toArray,List.getElem_cons_zero,List.getElem_cons_succ,List.setIfInBounds_toArray,List.set_cons_zero,List.set_cons_succ]
 refine tk 5 (.bool b) rfl hHeld (fun X hS=>by obtain⟨q1,q2⟩:=HQ.out;go_simp) ?_
 refine tk 6 (.bool b) rfl hHeld (fun X hS=>by skip;go_simp) ?_
 refine wpAnyH_done (by kernel_rfl) ?_ _
 clear hHeld
 go_wp2_with fail
 go_ret
 exact⟨rfl,HB2.out⟩
theorem cins1 (F:Nat) (e0:Lk) (hF:w.heap[F]?=some (.cells #[.int .u64 (e0.i:Int),.int .u64 (e0.x:Int)] 39 (0,0))) (e:Lk) (b:Bool) (hb:decide (e0.x<e.x)=b):
 Calls Tryz.prog 57 (#[lV e]++#[.pointer (some ⟨F,0,none⟩)]) w (Gives (.bool b) w):=by
 have hF1:=blk_at (bel1 w (.cells #[.int .u64 (e.i:Int),.int .u64 (e.x:Int)] 39)) hF
 have c0:=(cell_blk hF1 0).1;have c1:=(cell_blk hF1 1).1
 clear hF hF1
 go_enter Tryz.func57,Tryz.ntmps57
 go_wp2_with fail
 go_ret
 exact⟨by rfl,bel1 _ _⟩
set_option maxHeartbeats 2000000 in
theorem cinsix (p:Option Addr) (cap:Nat) (e0:Lk) (F:Nat) (hR:RowG 39 eL 2 p L w) (hF:w.heap[F]?=some (.cells #[.int .u64 (e0.i:Int),.int .u64 (e0.x:Int)] 39 (0,0))) (hn:L.length≤100):
 Calls Tryz.prog 53 #[.slice p L.length cap,.func (.func 57) #[] #[.pointer (some ⟨F,0,none⟩)]] w (Gives (.int .i64 (kxV L e0.x)) w):=by
 have eg:∀args w,(callFunc 57 args).run Tryz.prog w=.ok (.enter 57 args) w:=enters_of Tryz.func57 (by kernel_rfl) rfl
 have HP:=Lib.hid fun(X:World) (hX:Below w.heap.size w X) (e:Lk) (b:Bool) (hb:decide (e0.x<e.x)=b)=>cins1 (w:=X) F e0 (blk_at hX hF) e b hb
 have HR:=Lib.hid hR
 obtain⟨n,hnn⟩:∃n,L.length=n:=⟨_,rfl⟩
 have HN:=Lib.hid hnn
 rw[hnn]at hn
 rw[hnn]
 clear hR hF hnn
 go_enter Tryz.func53,Tryz.ntmps53
 go_wp2_with fail
 go_loopw[5,8] (fun _ s8 wr=>∃j:Nat,j≤n∧s8=.int .i64 (j:Int)∧Hid (j≤kx L e0.x)∧Hid (Below w.heap.size w wr)) (fun _ s8 _=>n-(intOf s8).toNat)
 case atStart=>exact⟨0,Nat.zero_le _,rfl,Lib.hid (Nat.zero_le _),Lib.hid (Below.refl _ _)⟩
 case round=>
  obtain⟨j,hj,rfl,HJ,HB⟩:=hrel
  by_cases hjn:j<n
  · have hjn2:(j:Int)<(n:Int):=by omega
    obtain⟨E,hE⟩:∃E,L[j]?=some E:=⟨_,List.getElem?_eq_getElem (by have:=HN.out;omega)⟩
    obtain⟨g,rfl,hg,q0,q1⟩:=rowE_cell (HR.out.below HB.out) hE
    have HE:=Lib.hid hE
    clear hE
    by_cases hid:e0.x<E.x
    · have HX:Hid (kxV L e0.x=(j:Int)):=Lib.hid (by
       have h1:=kx_at HE.out HJ.out hid
       unfold kxV
       rw[h1,if_pos (by have:=HN.out;omega)])
      have HPJ:=Lib.hid fun X hX=>HP.out X hX E true (by simp[hid])
      clear hid
      go_wp2_with (go_at_fn 57;refine(HPJ.out _ HB.out).mono ?_;rintro e w' ⟨rfl,hb'⟩)
      go_ret
      exact⟨by rw[HX.out];rfl,HB.out.trans (hb'.mono HB.out.size)⟩
    · have HX:=Lib.hid (kx_next HE.out HJ.out hid)
      have HPJ:=Lib.hid fun X hX=>HP.out X hX E false (by simp[hid])
      clear hid
      go_wp2_with (go_at_fn 57;refine(HPJ.out _ HB.out).mono ?_;rintro e w' ⟨rfl,hb'⟩)
      go_roundw
      case rel=>exact⟨j+1,by omega,by go_num,HX,Lib.hid (HB.out.trans (hb'.mono HB.out.size))⟩
      case measure=>simp[intOf];omega
  · have hjn2:¬(j:Int)<(n:Int):=by omega
    have HX:Hid (kxV L e0.x= -1):=Lib.hid (by
     unfold kxV
     rw[if_neg (by have:=HJ.out;have:=HN.out;omega)])
    go_wp2_with fail
    go_ret
    exact⟨by rw[HX.out];rfl,HB.out⟩
theorem lX_ns {w:World} (e:Lk):NsAt (w.alloc (.cells #[.int .u64 (e.i:Int),.int .u64 (e.x:Int)] 37)) (some ⟨w.heap.size,0,none⟩) (lX e):=by
 refine .inr ⟨w.heap.size,0,rfl,by simp,fun i hi=>?_⟩
 rw[(cell_blk (heap_new w _) _).1,Nat.zero_add]
 have:i=0∨i=1:=by simp[lX]at hi;omega
 rcases this with rfl|rfl<;>rfl
theorem lX_bd {e:Lk} (he:e.ok) (k:Nat) (hk:k<2):0≤(lX e).getD k 0∧(lX e).getD k 0<18446744073709551616:=by
 obtain⟨b0,b1⟩:=he
 have:k=0∨k=1:=by omega
 rcases this with rfl|rfl<;>simp only[lX,List.getD_cons_zero,List.getD_cons_succ]<;>omega
theorem lX_short {e:Lk} (he:e.ok):allShort F2 (lX e) 2:=fun k hk=>by
 obtain⟨b0,b1⟩:=he
 obtain⟨h0,h1,h2⟩:=F2_at
 have:k=0∨k=1:=by omega
 rcases this with rfl|rfl<;>simp only[lX,List.getD_cons_zero,List.getD_cons_succ,h0,h1,h2,Nat.reduceAdd,Nat.reduceSub,Nat.sub_zero]<;>unfold longB<;>simp<;>omega
end
end Go.Proofs.YtpkaehpllldcmaaGreatDoor.Bt
end
