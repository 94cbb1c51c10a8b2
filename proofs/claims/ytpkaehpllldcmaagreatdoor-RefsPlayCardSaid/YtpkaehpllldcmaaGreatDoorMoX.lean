import Derived.Test.YtpkaehpllldcmaaGreatDoorMoU
namespace Go.Proofs.YtpkaehpllldcmaaGreatDoor.Bt
open Go Go.RowKit Go.Shelf
set_option linter.unusedVariables false
set_option linter.unusedSimpArgs false
set_option maxRecDepth 100000
theorem Tryz.infoRefL:(Tryz.prog.info? 47).map (fun i=>(i.zero,i.size,i.bytes))=some (some (.agg #[.int .u64 0,.int .u64 0]),2,16):=by kernel_rfl
theorem notRef:NotAr 47:=by unfold NotAr;decide
structure DocE (p:Option Addr) (cap:Nat) (L:List Lk) (w:World):Prop where
 row:RowG 47 eL 2 p L w
 cp:L.length≤cap
 nl:p=none→cap=0
theorem DocE.below {p:Option Addr} {cap:Nat} {L:List Lk} {x y:World} (h:DocE p cap L x) (hb:Below x.heap.size x y):DocE p cap L y:=⟨h.row.below hb,h.cp,h.nl⟩
theorem DocE.went {p:Option Addr} {cap:Nat} {L:List Lk} {A:Nat} {s:ASt} {x y:World} (h:DocE p cap L x) (ho:On A s x) (hg:Went A x y):DocE p cap L y:=⟨h.row.went notRef ho hg,h.cp,h.nl⟩
theorem DocE.cells {p:Option Addr} {cap:Nat} {L:List Lk} {w:World} (h:DocE p cap L w) {j:Nat} {e:Lk} (hj:L[j]?=some e):
 ∃g,p=some ⟨g,0,none⟩∧g<w.heap.size∧w.cell? ⟨g,j*2,none⟩=some (.int .u64 (e.i:Int))∧w.cell? ⟨g,j*2+1,none⟩=some (.int .u64 (e.x:Int)):=by
 obtain⟨g,hp,hg,hc⟩:=h.row.cell hj
 exact⟨g,hp,hg,hc 0 _ rfl,hc 1 _ rfl⟩
theorem DocE.empty (w:World):DocE none 0 [] w:=⟨RowG.nil _ _ _ _ _,Nat.le_refl _,fun _=>rfl⟩
def DTwo (M:List Lk) (r:Array Value) (w:World) (e:Ending) (w':World):Prop:=∃p cap,e=.returned (.tuple (#[.slice p M.length cap]++r))∧DocE p cap M w'∧Below w.heap.size w w'
section
variable {w:World} {L:List Lk}
theorem has_yes {L:List Lk} {j id:Nat} {e:Lk} (h:L[j]?=some e) (he:e.i=id):hasL L id=true:=by
 unfold hasL
 refine decide_eq_true ?_
 unfold ixE
 rw[List.findIdx_lt_length]
 exact⟨e,List.mem_of_getElem? h,by simp[he]⟩
theorem has_no {L:List Lk} {id:Nat} (h:L.length≤ixE L id):hasL L id=false:=by
 unfold hasL
 exact decide_eq_false (by omega)
set_option maxHeartbeats 2000000 in
theorem dhas23 (p:Option Addr) (cap id:Nat) (hD:DocE p cap L w) (hn:L.length≤100):
 Calls Tryz.prog 17 #[.slice p L.length cap,.int .u64 (id:Int)] w (Gives (.bool (hasL L id)) w):=by
 have HR:=Lib.hid hD
 obtain⟨n,hnn⟩:∃n,L.length=n:=⟨_,rfl⟩
 have HN:=Lib.hid hnn
 rw[hnn]at hn
 rw[hnn]
 clear hD hnn
 go_enter Tryz.func17,Tryz.ntmps17
 go_wp2_with fail
 go_loopw[9] (fun s9 wr=>∃j:Nat,j≤n∧s9=.int .i64 (j:Int)∧Hid (j≤ixE L id)∧Hid (Below w.heap.size w wr)) (fun s9 _=>n-(intOf s9).toNat)
 case atStart=>exact⟨0,Nat.zero_le _,rfl,Lib.hid (Nat.zero_le _),Lib.hid (Below.refl _ _)⟩
 case round=>
  obtain⟨j,hj,rfl,HJ,HB⟩:=hrel
  by_cases hjn:j<n
  · have hjn2:(j:Int)<(n:Int):=by omega
    obtain⟨E,hE⟩:∃E,L[j]?=some E:=⟨_,List.getElem?_eq_getElem (by have:=HN.out;omega)⟩
    obtain⟨g,rfl,hg,q0,q1⟩:=(HR.out.below HB.out).cells hE
    have HE:=Lib.hid hE
    have HB2:=Lib.hid (HB.out.alloc HB.out.size (.cells #[.int .u64 (E.i:Int),.int .u64 (E.x:Int)] 47))
    clear hE
    by_cases hid:E.i=id
    · have HX:=Lib.hid (has_yes HE.out hid)
      have d:((E.i:Int)==(id:Int))=true:=by simp[hid]
      have d2:decide ((E.i:Int)=(id:Int))=true:=by simp[hid]
      clear hid
      go_wp2_with fail
      go_ret
      exact⟨by rw[HX.out];rfl,HB2.out⟩
    · have HX:=Lib.hid (ixE_next HE.out HJ.out hid)
      have d:((E.i:Int)==(id:Int))=false:=by simp;omega
      have d2:decide ((E.i:Int)=(id:Int))=false:=by simp;omega
      clear hid
      go_wp2_with fail
      go_roundw
      case rel=>exact⟨j+1,by omega,by go_num,HX,HB2⟩
      case measure=>simp[intOf];omega
  · have hjn2:¬(j:Int)<(n:Int):=by omega
    have HX:Hid (hasL L id=false):=Lib.hid (has_no (by have:=HJ.out;have:=HN.out;omega))
    go_wp2_with fail
    go_ret
    exact⟨by rw[HX.out];rfl,HB.out⟩
theorem kx_lt {L:List Lk} {x j:Nat} {y:Lk} (hj:L[j]?=some y) (h:j<kx L x):¬x<y.x:=by
 have:=List.not_of_lt_findIdx h
 simp at this
 rw[(List.getElem?_eq_some_iff.1 hj).2]at this
 omega
theorem kx_is {L:List Lk} {x:Nat} {y:Lk} (hj:L[kx L x]?=some y):x<y.x:=by
 have hlt:=(List.getElem?_eq_some_iff.1 hj).1
 have:=kx_get hlt
 rw[(List.getElem?_eq_some_iff.1 hj).2]at this
 exact this
theorem addL_no {L:List Lk} {n:Nat} {e:Lk} (h:addE L n e≠0):addL L n e=L:=by unfold addL;rw[if_neg h]
theorem addL_ok {L:List Lk} {n:Nat} {e:Lk} (h:addE L n e=0):addL L n e=inL L (kx L e.x) e:=by unfold addL;rw[if_pos h]
set_option maxHeartbeats 4000000 in
theorem dadd23_arg (p:Option Addr) (cap n:Nat) (e:Lk) (hD:DocE p cap L w) (hz:e.i=0∨e.x=0):
 Calls Tryz.prog 12 #[.slice p L.length cap,.int .i64 (n:Int),lV e] w (DTwo L #[.int .i64 2] w):=by
 have HD:=Lib.hid hD
 obtain⟨l,hl⟩:∃l,L.length=l:=⟨_,rfl⟩
 have HL:=Lib.hid hl
 rw[hl]
 clear hD hl
 by_cases h0:e.i=0
 · have d1:((e.i:Int)==0)=true:=by simp[h0]
   clear h0 hz
   have HF0:=Lib.hid ((Fb.start w).new #[.int .u64 (e.i:Int),.int .u64 (e.x:Int)] 47)
   go_enter Tryz.func12,Tryz.ntmps12
   go_upto_region 1 with fail
   change Code.wp _ _ _ _ (w.alloc (.cells #[.int .u64 (e.i:Int),.int .u64 (e.x:Int)] 47))
   obtain⟨y,hy⟩:∃y,(w.alloc (.cells #[.int .u64 (e.i:Int),.int .u64 (e.x:Int)] 47))=y:=⟨_,rfl⟩
   obtain⟨B0,hB0⟩:∃B,w.heap.size=B:=⟨_,rfl⟩
   have hf:=HF0.out
   rw[hy,hB0]at hf
   rw[hy,hB0]
   have HF:=Lib.hid hf
   clear hf HF0 hy hB0
   have c0:=HF.out.cell0 0 rfl;have c1:=HF.out.cell0 1 rfl
   go_wp2_with fail
   go_ret2
   exact⟨p,cap,by rw[HL.out];rfl,HD.out.below HF.out.be,HF.out.be⟩
 · have h1:e.x=0:=by omega
   have hz1:¬((e.i:Int)=0):=by omega
   have d1:((e.i:Int)==0)=false:=by simpa using hz1
   have d3:((e.x:Int)==0)=true:=by simp[h1]
   clear h0 hz h1 hz1
   have HF0:=Lib.hid ((Fb.start w).new #[.int .u64 (e.i:Int),.int .u64 (e.x:Int)] 47)
   go_enter Tryz.func12,Tryz.ntmps12
   go_upto_region 1 with fail
   change Code.wp _ _ _ _ (w.alloc (.cells #[.int .u64 (e.i:Int),.int .u64 (e.x:Int)] 47))
   obtain⟨y,hy⟩:∃y,(w.alloc (.cells #[.int .u64 (e.i:Int),.int .u64 (e.x:Int)] 47))=y:=⟨_,rfl⟩
   obtain⟨B0,hB0⟩:∃B,w.heap.size=B:=⟨_,rfl⟩
   have hf:=HF0.out
   rw[hy,hB0]at hf
   rw[hy,hB0]
   have HF:=Lib.hid hf
   clear hf HF0 hy hB0
   have c0:=HF.out.cell0 0 rfl;have c1:=HF.out.cell0 1 rfl
   go_wp2_with fail
   go_ret2
   exact⟨p,cap,by rw[HL.out];rfl,HD.out.below HF.out.be,HF.out.be⟩
set_option maxHeartbeats 4000000 in
theorem dadd23_there (p:Option Addr) (cap n:Nat) (e:Lk) (hD:DocE p cap L w) (hn:L.length≤100) (h0:0<e.i) (h1:0<e.x) (hx:ixE L e.i<L.length):
 Calls Tryz.prog 12 #[.slice p L.length cap,.int .i64 (n:Int),lV e] w (DTwo L #[.int .i64 9] w):=by
 have HD:=Lib.hid hD
 have HH:=Lib.hid fun(X:World) (hX:Below w.heap.size w X)=>dhas23 (w:=X) p cap e.i (hD.below hX) hn
 have hb:hasL L e.i=true:=decide_eq_true hx
 rw[hb]at HH
 have hz1:¬((e.i:Int)=0):=by omega
 have d1:((e.i:Int)==0)=false:=by simpa using hz1
 have hz2:¬((e.x:Int)=0):=by omega
 have d2:((e.x:Int)==0)=false:=by simpa using hz2
 obtain⟨l,hl⟩:∃l,L.length=l:=⟨_,rfl⟩
 have HL:=Lib.hid hl
 rw[hl]at HH
 rw[hl]
 clear hD hl hb hx h0 h1 hz1 hz2 hn
 have HF0:=Lib.hid ((Fb.start w).new #[.int .u64 (e.i:Int),.int .u64 (e.x:Int)] 47)
 go_enter Tryz.func12,Tryz.ntmps12
 go_upto_region 1 with fail
 change Code.wp _ _ _ _ (w.alloc (.cells #[.int .u64 (e.i:Int),.int .u64 (e.x:Int)] 47))
 obtain⟨y,hy⟩:∃y,(w.alloc (.cells #[.int .u64 (e.i:Int),.int .u64 (e.x:Int)] 47))=y:=⟨_,rfl⟩
 obtain⟨B0,hB0⟩:∃B,w.heap.size=B:=⟨_,rfl⟩
 have hf:=HF0.out
 rw[hy,hB0]at hf
 rw[hy,hB0]
 have HF:=Lib.hid hf
 clear hf HF0 hy hB0
 have c0:=HF.out.cell0 0 rfl;have c1:=HF.out.cell0 1 rfl
 go_wp2_with fail
 refine(HH.out _ HF.out.be).mono ?_
 rintro e1 w1 ⟨rfl,hb⟩
 have HF1:=Lib.hid (HF.out.below hb)
 clear hb HF HH c0 c1
 go_wp2_with fail
 go_ret2
 exact⟨p,cap,by rw[HL.out];rfl,HD.out.below HF1.out.be,HF1.out.be⟩
set_option maxHeartbeats 4000000 in
theorem dadd23_full (p:Option Addr) (cap n:Nat) (e:Lk) (hD:DocE p cap L w) (hn:L.length≤100) (h0:0<e.i) (h1:0<e.x) (hx:¬ixE L e.i<L.length) (hf:L.length=n):
 Calls Tryz.prog 12 #[.slice p L.length cap,.int .i64 (n:Int),lV e] w (DTwo L #[.int .i64 10] w):=by
 have HD:=Lib.hid hD
 have HH:=Lib.hid fun(X:World) (hX:Below w.heap.size w X)=>dhas23 (w:=X) p cap e.i (hD.below hX) hn
 have hb:hasL L e.i=false:=decide_eq_false hx
 rw[hb]at HH
 have hz1:¬((e.i:Int)=0):=by omega
 have d1:((e.i:Int)==0)=false:=by simpa using hz1
 have hz2:¬((e.x:Int)=0):=by omega
 have d2:((e.x:Int)==0)=false:=by simpa using hz2
 have HL:=Lib.hid hf
 rw[hf]at HH
 rw[hf]
 have hnn:(n:Int)≤(n:Int):=Int.le_refl _
 clear hD hf hb hx h0 h1 hz1 hz2 hn
 have HF0:=Lib.hid ((Fb.start w).new #[.int .u64 (e.i:Int),.int .u64 (e.x:Int)] 47)
 go_enter Tryz.func12,Tryz.ntmps12
 go_upto_region 1 with fail
 change Code.wp _ _ _ _ (w.alloc (.cells #[.int .u64 (e.i:Int),.int .u64 (e.x:Int)] 47))
 obtain⟨y,hy⟩:∃y,(w.alloc (.cells #[.int .u64 (e.i:Int),.int .u64 (e.x:Int)] 47))=y:=⟨_,rfl⟩
 obtain⟨B0,hB0⟩:∃B,w.heap.size=B:=⟨_,rfl⟩
 have hf:=HF0.out
 rw[hy,hB0]at hf
 rw[hy,hB0]
 have HF:=Lib.hid hf
 clear hf HF0 hy hB0
 have c0:=HF.out.cell0 0 rfl;have c1:=HF.out.cell0 1 rfl
 go_wp2_with fail
 refine(HH.out _ HF.out.be).mono ?_
 rintro e1 w1 ⟨rfl,hb⟩
 have HF1:=Lib.hid (HF.out.below hb)
 clear hb HF HH c0 c1
 go_wp2_with fail
 go_ret2
 exact⟨p,cap,by rw[HL.out];rfl,HD.out.below HF1.out.be,HF1.out.be⟩
theorem RwG.own_lt {T:TypeId} {α:Type} {enc:α→List Value} {k b0:Nat} {M:List α} {v:Value} {x y:World} (h:RwG T enc k b0 M v x y) {g:Nat} (hg:v.ownBlock=some g):g<y.heap.size:=by
 rcases h.ow.2 with⟨rfl,_⟩|⟨g',cap,cur,rfl,h1,h2,_⟩
 · simp[Value.ownBlock]at hg
 · obtain rfl:g'=g:=by simpa[Value.ownBlock]using hg
   exact(Array.getElem?_eq_some_iff.1 h2).1
theorem grown_keep {y w6:World} {V:Nat} {c o:Obj} {v:Value} (hV:y.heap[V]?=some o) (hn:∀g,v.ownBlock=some g→g<V) (hg:(y.alloc c).grownBy w6 v.ownBlock):w6.heap[V]?=some o:=by
 have hb:=bel1 y c
 have hlt:V<y.heap.size:=(Array.getElem?_eq_some_iff.1 hV).1
 exact(hg.block V (Nat.lt_of_lt_of_le hlt hb.size) (fun hc=>by have:=hn V hc.symm;omega)).trans ((hb.block V hlt).trans hV)
set_option maxHeartbeats 16000000 in
theorem dadd23_ok (p:Option Addr) (cap n:Nat) (e:Lk) (hD:DocE p cap L w) (hn:L.length<n) (hn2:n≤100) (h0:0<e.i) (h1:0<e.x) (hx:¬ixE L e.i<L.length):
 Calls Tryz.prog 12 #[.slice p L.length cap,.int .i64 (n:Int),lV e] w (DTwo (inL L (kx L e.x) e) #[.int .i64 0] w):=by
 obtain⟨i0,hi,hz0,hz1,hz2⟩:=info_parts Tryz.infoRefL
 have HI:=Lib.hid hi;have HZ0:=Lib.hid hz0;have HZ1:=Lib.hid hz1;have HZ2:=Lib.hid hz2
 clear hi hz0 hz1 hz2
 have HD:=Lib.hid hD
 have HH:=Lib.hid fun(X:World) (hX:Below w.heap.size w X)=>dhas23 (w:=X) p cap e.i (hD.below hX) (by omega)
 have hb:hasL L e.i=false:=decide_eq_false hx
 rw[hb]at HH
 have hz1:¬((e.i:Int)=0):=by omega
 have d1:((e.i:Int)==0)=false:=by simpa using hz1
 have hz2:¬((e.x:Int)=0):=by omega
 have d2:((e.x:Int)==0)=false:=by simpa using hz2
 have HKL:=Lib.hid (kx_le L e.x)
 obtain⟨k,hk⟩:∃k,kx L e.x=k:=⟨_,rfl⟩
 have HK:=Lib.hid hk
 obtain⟨l,hl⟩:∃l,L.length=l:=⟨_,rfl⟩
 have HL:=Lib.hid hl
 rw[hl]at HH hn
 rw[hl,hk]
 have hnn:decide (n≤l)=false:=decide_eq_false (by omega)
 have hl100:l≤100:=by omega
 clear hD hl hb hx h0 h1 hz1 hz2 hn hk
 have HF0:=Lib.hid ((Fb.start w).new #[.int .u64 (e.i:Int),.int .u64 (e.x:Int)] 47)
 go_enter Tryz.func12,Tryz.ntmps12
 go_upto_region 1 with fail
 change Code.wp _ _ _ _ (w.alloc (.cells #[.int .u64 (e.i:Int),.int .u64 (e.x:Int)] 47))
 obtain⟨y,hy⟩:∃y,(w.alloc (.cells #[.int .u64 (e.i:Int),.int .u64 (e.x:Int)] 47))=y:=⟨_,rfl⟩
 obtain⟨B0,hB0⟩:∃B,w.heap.size=B:=⟨_,rfl⟩
 have hf:=HF0.out
 rw[hy,hB0]at hf
 rw[hy,hB0]
 have HF:=Lib.hid hf
 clear hf HF0 hy hB0
 have c0:=HF.out.cell0 0 rfl;have c1:=HF.out.cell0 1 rfl
 go_wp2_with fail
 refine(HH.out _ HF.out.be).mono ?_
 rintro e1 w1 ⟨rfl,hb⟩
 have HF1:=Lib.hid (HF.out.below hb)
 clear hb HF HH c0 c1
 obtain⟨b0,hb0⟩:∃b0,w1.heap.size=b0:=⟨_,rfl⟩
 have HB0:=Lib.hid hb0
 have HST:=Lib.hid (RwG.start 47 eL 2 w1 hb0)
 clear hb0
 go_wp2_with fail
 go_loopw[8,9,33] (fun so sd si wr=>∃(j:Nat) (v:Value),j≤l∧v=so∧sd=.bool (decide (k<j))∧si=.int .i64 (j:Int)∧Hid (RwG 47 eL 2 b0 (inJ L k j e) v w1 wr)) (fun _ _ si _=>l-(intOf si).toNat)
 case atStart=>exact⟨0,_,Nat.zero_le _,rfl,rfl,rfl,by rw[inJ_zero];exact HST⟩
 case round=>
  clear HST
  obtain⟨j,v,hj,rfl,rfl,rfl,HG⟩:=hrel
  have HFW:Hid (Fb w [⟨B0,#[.int .u64 (e.i:Int),.int .u64 (e.x:Int)],47⟩] wr):=Lib.hid (HF1.out.below (by rw[HB0.out];exact HG.out.bl))
  have c0:=HFW.out.cell0 0 rfl;have c1:=HFW.out.cell0 1 rfl
  have hlen:(inJ L k j e).length≤101:=by have:=inJ_length (L:=L) (k:=k) (j:=j) (e:=e);omega
  by_cases hjn:j<l
  · have hjn2:(j:Int)<(l:Int):=by omega
    obtain⟨Y,hY⟩:∃E,L[j]?=some E:=⟨_,List.getElem?_eq_getElem (by have:=HL.out;omega)⟩
    obtain⟨g,rfl,hg,q0,q1⟩:=(HD.out.below HFW.out.be).cells hY
    have hgy:=HG.out.below (bel1 wr (.cells #[.int .u64 (Y.i:Int),.int .u64 (Y.x:Int)] 47))
    have hwy:=HFW.out.below (bel1 wr (.cells #[.int .u64 (Y.i:Int),.int .u64 (Y.x:Int)] 47))
    have hnv:∀g,v.ownBlock=some g→g<wr.heap.size:=fun g hg=>HG.out.own_lt hg
    have hyy:=heap_new wr (.cells #[.int .u64 (Y.i:Int),.int .u64 (Y.x:Int)] 47)
    have HQ0:=Lib.hid (And.intro hgy (And.intro hwy (And.intro hnv hyy)))
    have HY:=Lib.hid hY
    clear hY hg hgy hwy hnv hyy c0 c1 HG HFW
    go_upto_region 12 with fail
    change Code.wp _ _ _ _ (wr.alloc (.cells #[.int .u64 (Y.i:Int),.int .u64 (Y.x:Int)] 47))
    obtain⟨y3,hy3⟩:∃y,wr.alloc (.cells #[.int .u64 (Y.i:Int),.int .u64 (Y.x:Int)] 47)=y:=⟨_,rfl⟩
    obtain⟨V,hV⟩:∃V,wr.heap.size=V:=⟨_,rfl⟩
    rw[hy3,hV]at HQ0
    rw[hy3,hV]
    have HG3:=Lib.hid HQ0.out.1
    have HW3:=Lib.hid HQ0.out.2.1
    have HV3:=Lib.hid HQ0.out.2.2
    have hsz:=HG3.out.sz
    have c0:=HW3.out.cell0 0 rfl;have c1:=HW3.out.cell0 1 rfl
    have v0:=(cell_blk HV3.out.2 0).1;have v1:=(cell_blk HV3.out.2 1).1
    clear hy3 hV HQ0 q0 q1
    rcases Nat.lt_trichotomy j k with hlt|heq|hgt
    · have hdn:decide (k<j)=false:=decide_eq_false (by omega)
      have hd2:decide (k<j+1)=false:=decide_eq_false (by omega)
      have HNX:=Lib.hid (inJ_lt (e:=e) HY.out hlt)
      have hnx:decide (e.x<Y.x)=false:=decide_eq_false (kx_lt (x:=e.x) HY.out (by have:=HK.out;omega))
      have HR4:=Lib.hid (HG3.out.below (bel1 y3 (.cells #[.int .u64 (Y.i:Int),.int .u64 (Y.x:Int)] 47)))
      rw[hdn]
      clear hlt hdn
      go_wp2_with (at_builtin;refine wpList_append_own _ rfl _ _ 36 rfl b0 47 i0 (.agg #[.int .u64 0,.int .u64 0]) 2 16 Tryz.underlying36 HI.out HZ0.out HZ1.out HZ2.out rfl (by decide) _ _ _ rfl HR4.out.ow ⟨_,0,none⟩ 1 1 (eL Y) rfl rfl (encG_new _ _ rfl (by simp)) (by simp[eL,Value.oneCell']) (by unfold maxLen;omega) (by omega) (by first|omega|(simp;omega)) ?_;intro v' w6 hown' hgrow _)
      have HF:Hid (RwG 47 eL 2 b0 (inJ L k (j+1) e) v' w1 w6):=Lib.hid (by
       rw[HNX.out]
       exact HR4.out.app Y hgrow hown')
      clear hown' hgrow HR4 HG3 HW3 HV3 c0 c1 v0 v1
      go_wp2_with fail
      go_roundw
      case rel=>exact⟨j+1,_,by omega,rfl,by rw[hd2],by go_num,HF⟩
      case measure=>simp[intOf];omega
    · subst heq
      have hdn:decide (j<j)=false:=decide_eq_false (by omega)
      have hd2:decide (j<j+1)=true:=decide_eq_true (by omega)
      have HNX:=Lib.hid (inJ_at (e:=e) HY.out)
      have hnx:decide (e.x<Y.x)=true:=decide_eq_true (by
       have h1:=HK.out
       have h2:L[kx L e.x]?=some Y:=by rw[h1];exact HY.out
       exact kx_is h2)
      have HR4:=Lib.hid (HG3.out.below (bel1 y3 (.cells #[.int .u64 (e.i:Int),.int .u64 (e.x:Int)] 47)))
      rw[hdn]
      clear hdn
      have hlen6:(inJ L j j e++[e]).length≤102:=by rw[List.length_append];simp;omega
      go_wp2_with (at_builtin;first|(refine wpList_append_own _ rfl _ _ 36 rfl b0 47 i0 (.agg #[.int .u64 0,.int .u64 0]) 2 16 Tryz.underlying36 HI.out HZ0.out HZ1.out HZ2.out rfl (by decide) _ _ _ rfl HR4.out.ow ⟨_,0,none⟩ 1 1 (eL e) rfl rfl (encG_new _ _ rfl (by simp)) (by simp[eL,Value.oneCell']) (by unfold maxLen;omega) (by omega) (by first|omega|(simp;omega)) ?_;intro v' w6 hown' hgrow _;have HG6:Hid (RwG 47 eL 2 b0 (inJ L j j e++[e]) v' w1 w6):=Lib.hid (HR4.out.app e hgrow hown');have HV6:=Lib.hid (grown_keep (v:=v) HV3.out.2 HV3.out.1 hgrow);have v0:w6.cell? ⟨V,0,none⟩=some (.int .u64 (Y.i:Int)):=(cell_blk HV6.out 0).1;have v1:w6.cell? ⟨V,1,none⟩=some (.int .u64 (Y.x:Int)):=(cell_blk HV6.out 1).1;have HR7:=Lib.hid (HG6.out.below (bel1 w6 (.cells #[.int .u64 (Y.i:Int),.int .u64 (Y.x:Int)] 47)));have hsz6:=HG6.out.sz;clear hown' hgrow HR4 HG3 HV3 HW3 HG6 HV6)|(refine wpList_append_own _ rfl _ _ 36 rfl b0 47 i0 (.agg #[.int .u64 0,.int .u64 0]) 2 16 Tryz.underlying36 HI.out HZ0.out HZ1.out HZ2.out rfl (by decide) _ _ _ rfl HR7.out.ow ⟨_,0,none⟩ 1 1 (eL Y) rfl rfl (encG_new _ _ rfl (by simp)) (by simp[eL,Value.oneCell']) (by unfold maxLen;omega) (by omega) (by first|omega|(simp;omega)) ?_;intro v7 w7 hown' hgrow _))
      have HF:Hid (RwG 47 eL 2 b0 (inJ L j (j+1) e) v7 w1 w7):=Lib.hid (by
       rw[HNX.out]
       exact HR7.out.app Y hgrow hown')
      clear hown' hgrow HR7
      go_wp2_with fail
      go_roundw
      case rel=>exact⟨j+1,_,by omega,rfl,by rw[hd2],by go_num,HF⟩
      case measure=>simp[intOf];omega
    · have hdn:decide (k<j)=true:=decide_eq_true (by omega)
      have hd2:decide (k<j+1)=true:=decide_eq_true (by omega)
      have HNX:=Lib.hid (inJ_gt (e:=e) HY.out hgt)
      have HR4:=Lib.hid (HG3.out.below (bel1 y3 (.cells #[.int .u64 (Y.i:Int),.int .u64 (Y.x:Int)] 47)))
      rw[hdn]
      clear hgt hdn
      go_wp2_with (at_builtin;refine wpList_append_own _ rfl _ _ 36 rfl b0 47 i0 (.agg #[.int .u64 0,.int .u64 0]) 2 16 Tryz.underlying36 HI.out HZ0.out HZ1.out HZ2.out rfl (by decide) _ _ _ rfl HR4.out.ow ⟨_,0,none⟩ 1 1 (eL Y) rfl rfl (encG_new _ _ rfl (by simp)) (by simp[eL,Value.oneCell']) (by unfold maxLen;omega) (by omega) (by first|omega|(simp;omega)) ?_;intro v' w6 hown' hgrow _)
      have HF:Hid (RwG 47 eL 2 b0 (inJ L k (j+1) e) v' w1 w6):=Lib.hid (by
       rw[HNX.out]
       exact HR4.out.app Y hgrow hown')
      clear hown' hgrow HR4 HG3 HW3 HV3 c0 c1 v0 v1
      go_wp2_with fail
      go_roundw
      case rel=>exact⟨j+1,_,by omega,rfl,by rw[hd2],by go_num,HF⟩
      case measure=>simp[intOf];omega
  · have hjn2:¬(j:Int)<(l:Int):=by omega
    obtain rfl:j=l:=by omega
    have hw:=HG.out
    rw[←HL.out,inJ_end k (by have:=HKL.out;have:=HK.out;omega)]at hw
    have HEQ:=Lib.hid hw
    clear hw HG hj hlen
    by_cases hkl:k=L.length
    · have hw:=HEQ.out
      rw[if_pos hkl]at hw
      have hkj:k=j:=by rw[hkl,HL.out]
      have hdn:decide (k<j)=false:=decide_eq_false (by omega)
      have HR4:=Lib.hid (hw.below (bel1 wr (.cells #[.int .u64 (e.i:Int),.int .u64 (e.x:Int)] 47)))
      have how:=HR4.out.ow
      rw[HL.out]at how
      have HIE:Hid (inL L k e=L++[e]):=Lib.hid (by rw[hkl,inL_end])
      have hsz4:=HR4.out.sz
      rw[hdn]
      clear hw HEQ hkl hdn hkj
      go_wp2_with (at_builtin;refine wpList_append_own _ rfl _ _ 36 rfl b0 47 i0 (.agg #[.int .u64 0,.int .u64 0]) 2 16 Tryz.underlying36 HI.out HZ0.out HZ1.out HZ2.out rfl (by decide) _ _ _ rfl how ⟨_,0,none⟩ 1 1 (eL e) rfl rfl (encG_new _ _ rfl (by simp)) (by simp[eL,Value.oneCell']) (by unfold maxLen;omega) (by omega) (by first|omega|(simp;omega)|(simpa using hsz4)) ?_;intro v' w6 hown' hgrow _)
      have HF:Hid (RwG 47 eL 2 b0 (inL L k e) v' w1 w6):=Lib.hid (by
       rw[HIE.out]
       exact HR4.out.app e hgrow (by rw[HL.out];exact hown'))
      clear hown' hgrow HR4 how
      have HBW:Hid (Below w.heap.size w w6):=Lib.hid (HF1.out.be.trans (HF.out.bl.mono (by rw[←HB0.out];exact HF1.out.be.size)))
      obtain⟨p',cap',rfl,h1,h2,h3⟩:=HF.out.row2 eL_len
      have HRE:=Lib.hid (show DocE p' cap' (inL L k e) w6 from⟨h3,h1,h2⟩)
      obtain⟨l',hl'⟩:∃l',(inL L k e).length=l':=⟨_,rfl⟩
      have HLE:=Lib.hid hl'
      rw[hl']
      clear h1 h2 h3 HF hl'
      go_wp2_with fail
      go_ret2
      exact⟨p',cap',by rw[HLE.out];rfl,HRE.out,HBW.out⟩
    · have hw:=HEQ.out
      rw[if_neg hkl]at hw
      have hkj:k<j:=by have:=HKL.out;have:=HK.out;have:=HL.out;omega
      have hdn:decide (k<j)=true:=decide_eq_true hkj
      have HBW:Hid (Below w.heap.size w wr):=Lib.hid HFW.out.be
      obtain⟨p',cap',rfl,h1,h2,h3⟩:=hw.row2 eL_len
      have HRE:=Lib.hid (show DocE p' cap' (inL L k e) wr from⟨h3,h1,h2⟩)
      obtain⟨l',hl'⟩:∃l',(inL L k e).length=l':=⟨_,rfl⟩
      have HLE:=Lib.hid hl'
      rw[hl',hdn]
      clear h1 h2 h3 hw HEQ hl' hkl hdn hkj
      go_wp2_with fail
      go_ret2
      exact⟨p',cap',by rw[HLE.out];rfl,HRE.out,HBW.out⟩
theorem dAdd23 (p:Option Addr) (cap n:Nat) (e:Lk) (hD:DocE p cap L w) (hn:L.length≤n) (hn2:n≤100):
 Calls Tryz.prog 12 #[.slice p L.length cap,.int .i64 (n:Int),lV e] w (DTwo (addL L n e) #[.int .i64 (addE L n e)] w):=by
 by_cases hz:e.i=0∨e.x=0
 · have ha:addE L n e=2:=by unfold addE;rw[if_pos hz]
   rw[addL_no (by rw[ha];decide),ha]
   exact dadd23_arg p cap n e hD hz
 · by_cases hx:ixE L e.i<L.length
   · have ha:addE L n e=9:=by unfold addE;rw[if_neg hz,if_pos hx]
     rw[addL_no (by rw[ha];decide),ha]
     exact dadd23_there p cap n e hD (by omega) (by omega) (by omega) hx
   · by_cases hf:L.length=n
     · have ha:addE L n e=10:=by unfold addE;rw[if_neg hz,if_neg hx,if_pos hf]
       rw[addL_no (by rw[ha];decide),ha]
       exact dadd23_full p cap n e hD (by omega) (by omega) (by omega) hx hf
     · have ha:addE L n e=0:=by unfold addE;rw[if_neg hz,if_neg hx,if_neg hf]
       rw[addL_ok ha,ha]
       exact dadd23_ok p cap n e hD (by omega) hn2 (by omega) (by omega) hx
end
end Go.Proofs.YtpkaehpllldcmaaGreatDoor.Bt
