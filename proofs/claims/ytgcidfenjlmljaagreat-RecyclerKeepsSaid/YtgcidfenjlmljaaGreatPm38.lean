import Derived.Test.YtgcidfenjlmljaaGreatPm37
import Derived.Test.YtgcidfenjlmljaaGreatPm21
import Derived.BigRegion
import Derived.Deep.DeepCutAuto
import Derived.Test.YtgcidfenjlmljaaGreatPm35
import Derived.Test.YtgcidfenjlmljaaGreatPm26
import Derived.Test.YtgcidfenjlmljaaGreatPmR
set_option linter.unusedVariables false
set_option linter.unusedSimpArgs false
set_option maxRecDepth 100000
set_option maxHeartbeats 16000000
namespace Go.Proofs.YtgcidfenjlmljaaGreat.Bt
section
open Go Go.RowKit Go.Shelf
theorem Yfp {A:Nat} {s:ASt} {x:World} (h:On A s x) {u:Option Addr} {L:List (Nat × Nat × Bool)} (hr:Zcg x u L) (hL:L≠[]) {g:Nat} (hu:u=some (aD g 0)):¬Zpx A x g:=by
 obtain⟨P,ps,p,n,cap,hx⟩:=h
 intro ho
 rcases hr with e|⟨g',e,hg,hc⟩
 · exact hL e
 rw[hu]at e
 simp at e
 subst e
 have hl:0<L.length:=List.length_pos_iff.2 hL
 obtain⟨c0,c1,c2⟩:=hc 0 hl
 rw[Nat.zero_mul]at c0 c1 c2
 rcases(Za0 hx g).1 ho with rfl|rfl|⟨i,hi⟩
 · rw[(Zaa hx.hd _).1]at c1
   simp[Zly]at c1
 · rw[(Zaa hx.row _).1,Zk8]at c0
   cases hps:ps[0]? with
   |none=>rw[hps]at c0;cases c0
   |some v=>rw[hps]at c0;cases v<;>simp[Zie]at c0
 · rw[(Zaa (hx.pg i g hi) _).1]at c0
   simp[Zat]at c0
theorem Zcg.Zaq {A:Nat} {s:ASt} {x y:World} (h:On A s x) (k:Zam A x y) {u:Option Addr} {L:List (Nat × Nat × Bool)} (hr:Zcg x u L):Zcg y u L:=by
 by_cases hL:L=[]
 · exact .inl hL
 refine hr.far k.size fun g hg=>?_
 have hlt:g<x.heap.size:=by
  rcases hr with e|⟨g',e,hl,_⟩
  · exact absurd e hL
  · rw[hg]at e;simp at e;omega
 exact k.block g hlt (Yfp h hr hL hg)
def rfI (s:ASt):Int:=if s.rf=true then(s.lf:Int)else -1
theorem Zcr {s t:ASt} (h1:t.rf=s.rf) (h2:t.lf=s.lf):rfI t=rfI s:=by unfold rfI;rw[h1,h2]
theorem Zle (s:ASt):rfI (Zbs s)=Znz (rfI s):=by
 cases h:s.rf with
 |false=>
  have e:Zbs s=s:=by unfold Zbs;rw[h];rfl
  rw[e];unfold rfI Znz;rw[h];simp
 |true=>
  by_cases c:s.lf=0
  · have e:Zbs s={s with rf:=false}:=by unfold Zbs;rw[h,if_pos rfl,if_pos c]
    rw[e];unfold rfI Znz;rw[h];simp[c]
  · have e:Zbs s={s with lf:=s.lf-1}:=by unfold Zbs;rw[h,if_pos rfl,if_neg c]
    rw[e];unfold rfI Znz;simp only[h,if_true]
    rw[if_neg (by omega),if_pos (by omega)]
    omega
theorem Yc2 (s:ASt):(Zd7 s=true->Zn0 (rfI s)=4)/\(Zd7 s=false->Zn0 (rfI s)=0):=by
 unfold Zd7 rfI Zn0
 cases h:s.rf with
 |false=>simp
 |true=>by_cases c:s.lf=0<;>simp[c]
theorem On.lfB {A:Nat} {s:ASt} {w:World} (h:On A s w):s.lf<=9223372036854775807:=by obtain⟨P,ps,p,n,cap,h⟩:=h;exact h.lfb
theorem Zi9 {A:Nat} {s:ASt} {w:World} (h:On A s w):rfI s<=9223372036854775807:=by have:=h.lfB;unfold rfI;split<;>omega
theorem Yfc {R R':Zag} {g i a b:Nat} (h:Til g R a) (h1:Til g R' b) (t:Zh6 R R' i):wr8 (tkT R g) (i:Int)=tkT R' g:=by
 unfold wr8 tkT
 rw[Zyq (R:=R) (S:=R') (g:=g) (f:=g) (x:=i) fun j l=>⟨fun q=>⟨((t j l).1 q.2).1,h.lt ((t j l).1 q.2).2,((t j l).1 q.2).2⟩,fun q=>⟨h.lt q.2.2,(t j l).2 ⟨q.1,q.2.2⟩⟩⟩,List.filter_map]
 congr 1
 refine List.filter_congr fun y _=>?_
 simp only[Function.comp_def,decide_eq_decide]
 omega
end
section
open Go Go.RowKit Go.Shelf
def RbV (T:Nat) (y:Nat × Nat × Bool) (x:World):Prop:=x.heap[T]?=some (.cells (rnA y) 200 (0,0))
theorem RbV.below {T:Nat} {y:Nat × Nat × Bool} {x z:World} (h:RbV T y x) (hb:Below x.heap.size x z):RbV T y z:=(hb.block _ (Array.getElem?_eq_some_iff.1 h).1).trans h
theorem RbV.all {T:Nat} {y:Nat × Nat × Bool} {x:World} (h:RbV T y x):x.cell? (aD T 0)=some (iV (y.1:Int))/\x.cell? (aD T 1)=some (iV (y.2.1:Int))/\x.cell? (aD T 2)=some (.bool y.2.2):=by
 refine⟨?_,?_,?_⟩<;>(rw[(Zaa h _).1];rfl)
structure RGr (b0:Nat) (w:World) (L:List (Nat × Nat × Bool)) (v:Value) (x:World):Prop where
 ow:x.ownsRow b0 140 3 v L.length (rnL L)
 be:Below b0 w x
 sz:b0<=x.heap.size
theorem RGr.below {b0:Nat} {w x y:World} {L:List (Nat × Nat × Bool)} {v:Value} (h:RGr b0 w L v x) (hb:Below x.heap.size x y):RGr b0 w L v y:=
 ⟨Zgi h.ow hb,h.be.trans (hb.mono h.sz),Nat.le_trans h.sz hb.size⟩
theorem Zpv {L:List (Nat × Nat × Bool)} {j:Nat} (h:j<L.length):(adL L).getD j r0=(adr (L.getD j r0).1,(L.getD j r0).2.1,(L.getD j r0).2.2):=by
 rw[List.getD_eq_getElem?_getD,List.getD_eq_getElem?_getD]
 unfold adL
 rw[List.getElem?_map,List.getElem?_eq_getElem h]
 rfl
section
variable {B A n g:Nat} {R:Zag} {s:ASt} {w:World}
theorem Yei (h:BV B A n s w) (hB:Bud (n+1) g g R g s):Calls Tryz.prog 76 #[Zcv B] w (Yhc (Zbi R g) w):=by
 obtain⟨i0,hi0,hz0,hz1,hz2⟩:=info_parts Tryz.Zq0
 have HI:=hid hi0;have HZ0:=hid hz0;have HZ1:=hid hz1;have HZ2:=hid hz2
 clear hi0 hz0 hz1 hz2
 have HZ:=hid (hB.sz h.2.1)
 have HGB:Hid (g<=80):=hid (by have:=hB.sz h.2.1;omega)
 have HRU:=hid (Zj1 h hB)
 have HV:=hid h
 have HT:=hid hB.ti
 clear h hB
 go_enter Tryz.func76,Tryz.ntmps76
 go_wp2_with fail
 refine HRU.out.mono ?_
 rintro e w1 ⟨u,cap,rfl,hru,huf,hb⟩
 obtain⟨nl,hnl⟩:=eX ((Zbi R g).length)
 have HNL:=hid hnl
 have hnl80:nl<=80:=by have:=Zdq R g;have:=HGB.out;omega
 obtain⟨b0,hb0⟩:=eX w1.heap.size
 have HBW:Hid (w.heap.size<=b0/\b0=w1.heap.size/\Below w.heap.size w w1):=hid ⟨by rw[<-hb0];exact hb.size,hb0.symm,hb⟩
 have HR1:=hid hru
 have HG0:Hid (RGr b0 w1 ((Zbi R g).take 0) (.slice none 0 0) w1):=hid ⟨World.ownsRow_nil _ _ _ _,by rw[<-hb0];exact Below.refl _ _,by omega⟩
 rw[Zen,hnl]
 clear hru huf hb hb0 HRU hnl
 go_wp2_with fail
 go_loopw[3,9] (fun v s9 wr=>∃j:Nat,j<=nl/\s9=iV j/\Hid (RGr b0 w1 ((Zbi R g).take j) v wr)) (fun _ s9 _=>nl-(intOf s9).toNat)
 case atStart=>exact⟨0,Nat.zero_le _,rfl,HG0⟩
 case round=>
  clear HG0
  obtain⟨j,hj,rfl,HRG⟩:=hrel
  have HWr:Hid (Below w1.heap.size w1 wr):=hid (by rw[<-HBW.out.2.1];exact HRG.out.be)
  by_cases hjn:j<nl
  · have hjn2:(j:Int)<(nl:Int):=by omega
    have hjL:j<(Zbi R g).length:=by rw[HNL.out];exact hjn
    rcases HR1.out.below HWr.out with e|⟨gb,rfl,hgl,hcc⟩
    · have:=congrArg List.length e;rw[Zen,HNL.out]at this;simp at this;omega
    obtain⟨q0,q1,q2⟩:=hcc j (by rw[Zen];exact hjL)
    obtain⟨y,hy⟩:=eX ((Zbi R g).getD j r0)
    rw[Zpv hjL,hy]at q0 q1 q2
    have hm:=Zdp.1 (show(y.1,y.2.1,y.2.2)∈Zbi R g by rw[<-hy];exact Zej hjL)
    have hib:y.1<g:=hm.1
    have HTK:=hid (Zdy hjL)
    rw[hy]at HTK
    obtain⟨i,k,t⟩:=y
    simp only at q0 q1 q2 hib
    have hbb:=HGB.out
    clear hcc hjL hgl hy hm
    go_upto_region 5 with fail
    have HTT:Hid (RbV wr.heap.size (adr i,k,t) (wr.alloc (.cells #[iV (adr i:Int),iV k,.bool t] 200))):=hid (Zab wr _)
    have HRG4:=hid (HRG.out.below (Zaj wr (.cells #[iV (adr i:Int),iV k,.bool t] 200)))
    have HVT:=hid ((HV.out.below HBW.out.2.2).below (HWr.out.alloc HWr.out.size (.cells #[iV (adr i:Int),iV k,.bool t] 200)))
    obtain⟨w4,hw4⟩:∃z,wr.alloc (.cells #[iV (adr i:Int),iV k,.bool t] 200)=z:=⟨_,rfl⟩
    obtain⟨T,hTT⟩:=eX wr.heap.size
    rw[hw4]at HTT HRG4 HVT⊢
    rw[hTT]at HTT⊢
    clear hw4 hTT q0 q1 q2 HRG
    have hst0:=(HTT.out.below (Below.refl w4.heap.size w4).drew).all
    have hq1:IntKind.i64.wrap (Int.tdiv (adr i:Int) 4096)=1+(i:Int):=by rw[Zhs,IntKind.wrap_i64];omega
    have hq2:IntKind.i64.wrap (1+(i:Int)-1)=(i:Int):=by rw[IntKind.wrap_i64];omega
    have hq3:Int.tdiv (adr i:Int) 4096=1+(i:Int):=by rw[Zhs];omega
    have hq4:IntKind.i64.wrap (1+(i:Int))=1+(i:Int):=by rw[IntKind.wrap_i64];omega
    have HBA:=hid fun X (hX:BV B A n s X)=>Zn7 hX HZ.out.2.1
    refine wp_region_held_drew (S:=fun X:World=>X.cell? (aD T 0)=some (iV (adr i:Int))/\X.cell? (aD T 1)=some (iV k)/\X.cell? (aD T 2)=some (.bool t)) (by kernel_rfl) hst0 (fun hHeld=>?_)
    refine tk 0 u3 rfl hHeld (fun X hS=>by obtain⟨s0,s1,s2⟩:=hS;go_simp) ?_
    refine tk 1 (pT T) rfl hHeld (fun X hS=>by obtain⟨s0,s1,s2⟩:=hS;go_simp) ?_
    refine tk 2 (iV (adr i:Int)) rfl hHeld (fun X hS=>by obtain⟨s0,s1,s2⟩:=hS;go_simp) ?_
    refine tk 3 (iV (1+(i:Int))) rfl hHeld (fun X hS=>by obtain⟨s0,s1,s2⟩:=hS;go_simp) ?_
    refine tk 4 (Zcv B) rfl hHeld (fun X hS=>by obtain⟨s0,s1,s2⟩:=hS;go_simp) ?_
    refine tk 7 (.pointer (some (aD T 1))) rfl hHeld (fun X hS=>by obtain⟨s0,s1,s2⟩:=hS;go_simp) ?_
    refine tk 8 (iV k) rfl hHeld (fun X hS=>by obtain⟨s0,s1,s2⟩:=hS;go_simp) ?_
    refine tk 9 (.pointer (some (aD T 2))) rfl hHeld (fun X hS=>by obtain⟨s0,s1,s2⟩:=hS;go_simp) ?_
    refine tk 10 (.bool t) rfl hHeld (fun X hS=>by obtain⟨s0,s1,s2⟩:=hS;go_simp) ?_
    refine rd [5] (AllReadyH.cons rfl (fun K1 hK1=>?_) AllReadyH.nil)
    go_simp
    refine(HBA.out _ (HVT.out.below (Below.refl _ _).drew)).mono ?_
    rintro e w5 ⟨rfl,hb⟩
    have hb5:Below w4.heap.size w4 w5:=(Below.refl _ _).drew.trans hb
    have hst5:=(HTT.out.below hb5).all
    refine hK1.out _ _ hst5 (fun hHeld=>?_)
    clear hK1
    try simp only[Act.put,List.getElem_toArray,List.getElem_cons_zero,List.getElem_cons_succ,List.setIfInBounds_toArray,List.set_cons_zero,List.set_cons_succ]
    have HB5:=hid hb5
    clear hb hb5 hst5
    refine tk 6 (iV i) rfl hHeld (fun X hS=>by obtain⟨s0,s1,s2⟩:=hS;go_simp) ?_
    refine tk 11 (.agg #[iV i,iV k,.bool t]) rfl hHeld (fun X hS=>by obtain⟨s0,s1,s2⟩:=hS;go_simp) ?_
    refine rd [12] (AllReadyH.cons rfl (fun K2 hK2=>?_) AllReadyH.nil)
    go_simp
    have hst6:=(HTT.out.below (HB5.out.alloc HB5.out.size (.cells #[iV i,iV k,.bool t] 140))).all
    have hrg6:=(HRG4.out.below HB5.out).below (Zaj w5 (.cells #[iV i,iV k,.bool t] 140))
    have hrow2:=hrg6.ow
    have hsz2:=hrg6.sz
    have HRG6:=hid hrg6
    have HLN:Hid ((Zbi R g).length<=80):=hid (Nat.le_trans (Zdq R g) HGB.out)
    have HLJ:Hid (((Zbi R g).take j).length<=80):=hid (by rw[List.length_take];have:=HLN.out;omega)
    clear hrg6 hHeld
    refine hK2.out _ _ hst6 (fun hHeld=>?_)
    clear hK2 hst6
    try simp only[Act.put,List.getElem_toArray,List.getElem_cons_zero,List.getElem_cons_succ,List.setIfInBounds_toArray,List.set_cons_zero,List.set_cons_succ]
    refine rd [13] (AllReadyH.cons rfl (fun K3 hK3=>?_) AllReadyH.nil)
    rw[if_pos (by rfl)]
    refine wp_append_own _ (.tmp 13) (.tmp 25) 25 rfl b0 140 i0 (.agg #[iV 0,iV 0,.bool false]) 3 24 Tryz.underlying25 HI.out HZ0.out HZ1.out HZ2.out rfl (by decide) u3 _ _ rfl hrow2 ⟨_,0,none⟩ 1 1 (rnC (i,k,t)) rfl rfl (Zi8 (i,k,t) _ rfl) (by simp[rnC,Value.oneCell']) (by unfold maxLen;have:=HLJ.out;omega) (by have:=HLJ.out;omega) hsz2 ?_
    intro v2 w7 hown' hgrow _
    have hBW:=Zgf hrow2 hgrow hsz2 HRG6.out.be
    have HT6:=HTT.out.below (HB5.out.alloc HB5.out.size (.cells #[iV i,iV k,.bool t] 140))
    have hT7:w7.heap[T]?=_:=(hgrow.block T (Array.getElem?_eq_some_iff.1 HT6).1 (Ybr hrow2 HT6 (by decide))).trans HT6
    have hst7:=RbV.all hT7
    have HRG7:Hid (RGr b0 w1 ((Zbi R g).take (j+1)) v2 w7):=hid ⟨by rw[HTK.out,Zdc,List.length_append];simpa[rnL]using hown',hBW,Nat.le_trans hsz2 hgrow.size⟩
    clear hown' hgrow hBW hrow2 hsz2 hHeld HT6 hT7
    refine hK3.out _ _ hst7 (fun hHeld=>?_)
    clear hst7 hK3
    try simp only[Act.put,List.getElem_toArray,List.getElem_cons_zero,List.getElem_cons_succ,List.setIfInBounds_toArray,List.set_cons_zero,List.set_cons_succ]
    refine tk 14 v2 rfl hHeld (fun X hS=>by obtain⟨s0,s1,s2⟩:=hS;go_simp) ?_
    refine wpAnyH_done (by kernel_rfl) ?_ _
    clear hHeld hst0
    go_wp2_with fail
    go_roundw
    case rel=>exact⟨j+1,by omega,by go_num,HRG7⟩
    case measure=>simp[intOf];omega
  · obtain rfl:j=nl:=by omega
    have HRG2:Hid (RGr b0 w1 (Zbi R g) _ wr):=hid (by have:=HRG.out;rw[List.take_of_length_le (by rw[HNL.out];exact Nat.le_refl _)]at this;exact this)
    obtain⟨q',cap',hv,hr,hq⟩:=Zlk HRG2.out.ow
    subst hv
    have HF:Hid (Zcg wr q' (Zbi R g)/\(∀j,q'=some (aD j 0)->w.heap.size<=j)/\Below w.heap.size w wr):=hid ⟨hr,fun j hj=>Nat.le_trans HBW.out.1 (hq j hj),HBW.out.2.2.trans (HWr.out.mono HBW.out.2.2.size)⟩
    clear hr hq
    go_wp2_with fail
    go_ret
    exact⟨q',cap',rfl,HF.out.1,HF.out.2.1,HF.out.2.2⟩
end
end
section
open Go Go.RowKit Go.Shelf
theorem Zsd (u v:Option Addr) (ca cb:Nat) (L:List (Nat × Nat × Bool)) (hL:L.length<=2000) (w:World) (hu:Zcg w u L) (hv:Zcg w v L):
 Calls Tryz.prog 75 #[.slice u L.length ca,.slice v L.length cb] w (Zan (.bool true) w):=by
 obtain⟨n,hn⟩:=eX L.length
 have HN:=hid hn
 have d1:((n:Int) !=(n:Int))=false:=by simp
 have HU:=hid hu;have HV:=hid hv
 rw[hn]at hL⊢
 clear hu hv hn
 go_enter Tryz.func75,Tryz.ntmps75
 go_wp2_with fail
 go_loopw[13] (fun i wr=>∃j:Nat,j<=n/\i=iV j/\Hid (Below w.heap.size w wr)) (fun i _=>n-(intOf i).toNat)
 case atStart=>exact⟨0,Nat.zero_le _,rfl,hid (Below.refl _ _)⟩
 case round=>
  obtain⟨j,hj,rfl,HW⟩:=hrel
  by_cases hlt:j<n
  · have hjL:j<L.length:=by rw[HN.out];exact hlt
    rcases HU.out.below HW.out with e|⟨gu,rfl,hgu,hcu⟩
    · rw[e]at hjL;simp at hjL
    rcases HV.out.below HW.out with e|⟨gv,rfl,hgv,hcv⟩
    · rw[e]at hjL;simp at hjL
    obtain⟨p0,p1,p2⟩:=hcu j hjL
    obtain⟨q0,q1,q2⟩:=hcv j hjL
    obtain⟨y,hy⟩:=eX (L.getD j r0)
    rw[hy]at p0 p1 p2 q0 q1 q2
    obtain⟨y1,y2,y3⟩:=y
    simp only at p0 p1 p2 q0 q1 q2
    have i0:0<=(j:Int):=by omega
    have i1:(j:Int)<(n:Int):=by omega
    clear hcu hcv hjL hy hgu hgv
    go_wp2_with fail
    go_region
    go_wp2_with fail
    refine⟨⟨j+1,by omega,by go_num,hid HW.out.drew⟩,by simp[intOf];omega⟩
  · go_wp2_with fail
    go_ret
    exact⟨rfl,HW.out⟩
def pk (L:List (Nat × Nat × Bool)):List Int:=(L.filter fun y=>y.2.2).map fun y=>((adr y.1:Nat):Int)
section
variable {B A n g:Nat} {R:Zag} {s:ASt} {w:World}
end
end
section
open Go Go.RowKit Go.Shelf
structure DP (A B n g:Nat) (R:Zag) (s:ASt) (u:Option Addr) (x:World):Prop where
 bv:BV B A n s x
 bu:Bud (n+1) g g R g s
 rn:Zcg x u (tkT R g)
section
variable {A B C D E n g:Nat} {R:Zag} {s s':ASt} {u:Option Addr} {x y w:World} {gv r d k nn:Int} {v:Value}
end
end
section
open Go Go.RowKit Go.Shelf

end
section
open Go Go.RowKit Go.Shelf
theorem Zsk {A:Nat} {s:ASt} {w:World} (h:On A s w) (k:Int) (hk:k<=9223372036854775807):
 Calls Tryz.prog 26 #[pT A,iV k] w (Ret A {s with rf:=true,lf:=k.toNat} (.tuple #[]) w):=by
 obtain⟨P,ps,p,n,cap,h⟩:=h
 obtain⟨c0,c1,c2,c3,c4⟩:=h.head
 have f3:=h.free 3
 have f4:=h.free 4
 have hF:ArX A {s with rf:=true,lf:=k.toNat} P ps p n cap ((w.setCell (aD A 3) (.bool true)).setCell (aD A 4) (iV (k.toNat:Int)))/\Step A P ps ps w ((w.setCell (aD A 3) (.bool true)).setCell (aD A 4) (iV (k.toNat:Int))):=
  Zwi h rfl rfl rfl (by show k.toNat<=_;omega) (by rw[Zc1,Zc1]) rfl rfl rfl (by rw[heap_set (heap_set h.hd _) _];rfl) fun j hj=>(Below.heap_setCell _ _ _ _ (by exact hj)).trans (Below.heap_setCell _ _ _ _ (by exact hj))
 obtain⟨g1,g2⟩:=Zam.Znb h ⟨ps,p,n,cap,hF.1,hF.2,fun b off e=> .inl rfl⟩
 have HG:=hid (And.intro g1 g2)
 clear h hF g1 g2
 by_cases h0:0<=k
 · obtain⟨kn,rfl⟩:=Int.eq_ofNat_of_zero_le h0
   rw[Int.toNat_natCast]at HG
   go_enter Tryz.func26,Tryz.ntmps26
   go_wp2_with fail
   go_end0
   exact⟨rfl,HG.out.1,HG.out.2⟩
 · have e:k.toNat=0:=by omega
   rw[e]at HG
   go_enter Tryz.func26,Tryz.ntmps26
   go_wp2_with fail
   go_end0
   refine⟨by rfl,?_,HG.out.2⟩
   first|exact HG.out.1|(rw[e];exact HG.out.1)
end
section
open Go Go.RowKit Go.Shelf

end
section
open Go Go.RowKit Go.Shelf

end
section
open Go Go.RowKit Go.Shelf
abbrev rqA (n g r K:Int) (T:Value) (P:Nat->Option Addr) (nn C:Nat->Nat) (O:Value):Array Value:=
 #[iV 1,iV n,iV g,iV r,T,.slice (P 0) (nn 0) (C 0),.slice (P 1) (nn 1) (C 1),.slice (P 2) (nn 2) (C 2),.slice (P 3) (nn 3) (C 3),.slice (P 4) (nn 4) (C 4),iV K,O]
abbrev rqL (n g r K:Int) (T:Value) (P:Nat->Option Addr) (nn C:Nat->Nat) (O:Value):List Value:=
 [iV 1,iV n,iV g,iV r,T,.slice (P 0) (nn 0) (C 0),.slice (P 1) (nn 1) (C 1),.slice (P 2) (nn 2) (C 2),.slice (P 3) (nn 3) (C 3),.slice (P 4) (nn 4) (C 4),iV K,O]
abbrev rqZ:Array Value:=#[iV 0,iV 0,iV 0,iV 0,.slice none 0 0,.slice none 0 0,.slice none 0 0,.slice none 0 0,.slice none 0 0,.slice none 0 0,iV 0,.slice none 0 0]
abbrev rqV (n g r K:Int) (T:Value) (P:Nat->Option Addr) (nn C:Nat->Nat) (O:Value):Value:=.agg (rqA n g r K T P nn C O)
abbrev rqB (D:Nat) (n g r K:Int) (T:Value) (P:Nat->Option Addr) (nn C:Nat->Nat) (O:Value):Blk:=⟨D,rqA n g r K T P nn C O,33⟩
theorem Zaf {D:Nat} {n g r K:Int} {T:Value} {P:Nat->Option Addr} {nn C:Nat->Nat} {O:Value} {t:TypeId} {x:World} (h:x.heap[D]?=some (.cells (rqA n g r K T P nn C O) t (0,0))):
 x.cell? (aD D 0)=some (iV 1)/\x.cell? (aD D 1)=some (iV n)/\x.cell? (aD D 2)=some (iV g)/\x.cell? (aD D 3)=some (iV r)/\x.cell? (aD D 4)=some T/\
 x.cell? (aD D 5)=some (.slice (P 0) (nn 0) (C 0))/\x.cell? (aD D 6)=some (.slice (P 1) (nn 1) (C 1))/\x.cell? (aD D 7)=some (.slice (P 2) (nn 2) (C 2))/\x.cell? (aD D 8)=some (.slice (P 3) (nn 3) (C 3))/\x.cell? (aD D 9)=some (.slice (P 4) (nn 4) (C 4))/\
 x.cell? (aD D 10)=some (iV K)/\x.cell? (aD D 11)=some O:=by
 refine⟨?_,?_,?_,?_,?_,?_,?_,?_,?_,?_,?_,?_⟩<;>(rw[(Zaa h _).1];rfl)
theorem Zap {D:Nat} {c:Array Value} {t:TypeId} {x:World} (h:x.heap[D]?=some (.cells c t (0,0))):
 x.frozen? (aD D 0)=false/\x.frozen? (aD D 1)=false/\x.frozen? (aD D 2)=false/\x.frozen? (aD D 3)=false/\x.frozen? (aD D 4)=false/\
 x.frozen? (aD D 5)=false/\x.frozen? (aD D 6)=false/\x.frozen? (aD D 7)=false/\x.frozen? (aD D 8)=false/\x.frozen? (aD D 9)=false/\
 x.frozen? (aD D 10)=false/\x.frozen? (aD D 11)=false:=by
 refine⟨?_,?_,?_,?_,?_,?_,?_,?_,?_,?_,?_,?_⟩<;>exact(Zaa h _).2
theorem Zbl {D:Nat} {t:TypeId} {x:World} (h:x.heap[D]?=some (.cells rqZ t (0,0))):
 x.cell? (aD D 0)=some (iV 0)/\x.cell? (aD D 1)=some (iV 0)/\x.cell? (aD D 2)=some (iV 0)/\x.cell? (aD D 3)=some (iV 0)/\x.cell? (aD D 4)=some (.slice none 0 0)/\
 x.cell? (aD D 5)=some (.slice none 0 0)/\x.cell? (aD D 6)=some (.slice none 0 0)/\x.cell? (aD D 7)=some (.slice none 0 0)/\x.cell? (aD D 8)=some (.slice none 0 0)/\x.cell? (aD D 9)=some (.slice none 0 0)/\
 x.cell? (aD D 10)=some (iV 0)/\x.cell? (aD D 11)=some (.slice none 0 0):=by
 refine⟨?_,?_,?_,?_,?_,?_,?_,?_,?_,?_,?_,?_⟩<;>(rw[(Zaa h _).1];rfl)
theorem Yel (o q g r:Int) (p:Option Addr) (tc:Nat) (L:List (Nat × Nat × Bool)) (hL:L.length<=2000) (a:Int) (w:World) (h:Zcg w p L):
 Calls Tryz.prog 191 #[bqV o q g r (.slice p L.length tc),iV a] w fun e w'=>∃u c er,e=.returned (.tuple #[bqV o q g r (.slice u (wr8 L a).length c),iV er])/\Zcg w' u (wr8 L a)/\Below w.heap.size w w':=by
 cases e:L.find? fun y=>decide ((y.1:Int)=a)with
 |some y=>
  refine(Yek o q g r p tc L hL a w h (y.2.1:Int) (by unfold Zna;rw[e])).mono ?_
  rintro e' w' ⟨u,c,rfl,h1,h2⟩
  exact⟨u,c,0,rfl,h1,h2⟩
 |none=>
  refine(Yg1 o q g r p tc L hL a w h (by unfold Zna;rw[e])).mono ?_
  rintro e' w' hp
  have hw:wr8 L a=L:=by
   unfold wr8
   rw[List.filter_eq_self]
   intro y hy
   have:=List.find?_eq_none.1 e y hy
   simpa using this
  rw[hw]
  obtain⟨u,c,rfl,h1,h2⟩:=hp
  exact⟨u,c,8,rfl,h1,h2⟩
def Yjq (n g r K:Int) (L:List (Nat × Nat × Bool)) (P:Nat->Option Addr) (nn C:Nat->Nat) (O:Value) (w:World) (e:Ending) (w':World):Prop:=
 ∃u c,e=.returned (rqV n g r K (.slice u L.length c) P nn C O)/\Zcg w' u L/\Below w.heap.size w w'
theorem Zm6 {x:World} {u:Option Addr} {L:List (Nat × Nat × Bool)} (h:Zcg x u L) {D:Nat} {v:Int} (hd:x.cell? (aD D 2)=some (iV v)):
 ∀j,u=some (aD j 0)->L=[]\/j≠D:=fun j hj=>by
 rcases h with h|⟨b,e,hb,hc⟩
 · exact .inl h
 · rw[hj]at e
   obtain rfl:j=b:=by cases e;rfl
   cases L with
   |nil=>exact .inl rfl
   |cons y L=>
    refine .inr fun c=>?_
    subst c
    have h2:=(hc 0 (by simp)).2.2
    rw[show 0*3+2=2 from rfl,hd]at h2
    cases h2
theorem Zcg.stR {x:World} {u:Option Addr} {L:List (Nat × Nat × Bool)} (h:Zcg x u L) {D:Nat} (hne:∀j,u=some (aD j 0)->L=[]\/j≠D) (vs:List Value) (k:Nat):Zcg (Bt.stR x D vs k) u L:=by
 by_cases hL:L=[]
 · exact .inl hL
 · exact h.far (by rw[Zgr];exact Nat.le_refl _) fun j hj=>Zcn (by
    rcases hne j hj with c|c
    · exact absurd c hL
    · exact c) vs k x
section
variable {w:World}
theorem Znx (n g r K:Int) (u:Option Addr) (tc:Nat) (L:List (Nat × Nat × Bool)) (hL:L.length<=2000) (P:Nat->Option Addr) (nn C:Nat->Nat) (op:Option Addr) (on oc:Nat) (p:Nat) (hp:1<=p/\p<=100000) (h:Zcg w u L):
 Calls Tryz.prog 136 #[rqV n g r K (.slice u L.length tc) P nn C (.slice op on oc),iV ((4096*p:Nat):Int)] w (Yjq n g r K (wr8 L ((p:Int)-1)) P nn C (.slice op on oc) w):=by
 have HF:=hid (((Fb.start w).new (rqA n g r K (.slice u L.length tc) P nn C (.slice op on oc)) 33).new rqZ 33)
 have HB:=hid fun X (hX:Zcg X u L)=>Yel 1 n g r u tc L hL ((p:Int)-1) X hX
 have HR:=hid h
 obtain⟨LL,hLL⟩:=eX (wr8 L ((p:Int)-1))
 rw[hLL]at HB⊢
 obtain⟨ln,hln⟩:=eX L.length
 rw[hln]at HF HB⊢
 have q1:IntKind.i64.wrap ((p:Int)-1)=(p:Int)-1:=by rw[IntKind.wrap_i64];omega
 have q2:Int.tdiv ((4096*p:Nat):Int) 4096=(p:Int):=by rw[Int.tdiv_eq_ediv_of_nonneg (by omega)];omega
 have q3:IntKind.i64.wrap (p:Int)=(p:Int):=by rw[IntKind.wrap_i64];omega
 obtain⟨a,ha⟩:=eX (((4096*p:Nat):Int):Int)
 rw[ha]at q2⊢
 clear h hLL hln ha
 go_enter Tryz.func136,Tryz.ntmps136
 go_upto_region 1 with fail
 change Code.wp _ _ _ _ ((w.alloc (.cells (rqA n g r K (.slice u ln tc) P nn C (.slice op on oc)) 33)).alloc (.cells rqZ 33))
 obtain⟨x,hx⟩:=eX ((w.alloc (.cells (rqA n g r K (.slice u ln tc) P nn C (.slice op on oc)) 33)).alloc (.cells rqZ 33))
 have hE1:(w.alloc (.cells (rqA n g r K (.slice u ln tc) P nn C (.slice op on oc)) 33)).heap.size=w.heap.size+1:=by simp
 rw[hx,hE1]at HF
 obtain⟨E,hE⟩:=eX (w.heap.size+1)
 obtain⟨D,hD⟩:=eX w.heap.size
 rw[hE,hD]at HF
 rw[hx,hE,hD]
 clear hx hE1 hE hD
 obtain⟨c0,c1,c2,c3,c4, -⟩:=Zaf HF.out.at1
 go_wp2_with fail
 refine(HB.out _ (HR.out.below HF.out.be)).mono ?_
 rintro e w1 ⟨u2,t2,er,rfl,hr,hb⟩
 have HF1:=hid (HF.out.below hb)
 have HR1:=hid hr
 clear hr hb HF HB HR c0 c1 c2 c3 c4 q1 q2 q3
 have zQ:=Zap HF1.out.at1
 have cQ:=Zaf HF1.out.at1
 go_upto_region 2 with fail
 change Code.wp _ _ _ _ (stR w1 D [iV 1,iV n,iV g,iV r,.slice u2 LL.length t2] 0)
 have hf2:Fb w [⟨E,rqZ,33⟩,rqB D (n) (g) (r) (K) (.slice u2 LL.length t2) (P) (nn) (C) ((.slice op on oc))] (stR w1 D [iV 1,iV n,iV g,iV r,.slice u2 LL.length t2] 0):=HF1.out.Zft [iV 1,iV n,iV g,iV r,.slice u2 LL.length t2] 0
 have hr2:=HR1.out.stR (Zm6 HR1.out cQ.2.2.1) [iV 1,iV n,iV g,iV r,.slice u2 LL.length t2] 0
 obtain⟨x2,hx2⟩:=eX (stR w1 D [iV 1,iV n,iV g,iV r,.slice u2 LL.length t2] 0)
 rw[hx2]at hf2 hr2⊢
 have HF2:=hid hf2;have HR2:=hid hr2
 clear hx2 hf2 hr2 HF1 HR1 cQ zQ
 have cQ:=Zaf HF2.out.at1
 have zQ:=Zap HF2.out.at0
 have oQ:=Zbl HF2.out.at0
 have hf3:Fb w [rqB E (n) (g) (r) (K) (.slice u2 LL.length t2) (P) (nn) (C) ((.slice op on oc)),rqB D (n) (g) (r) (K) (.slice u2 LL.length t2) (P) (nn) (C) ((.slice op on oc))] (stR x2 E (rqL (n) (g) (r) (K) (.slice u2 LL.length t2) (P) (nn) (C) ((.slice op on oc))) 0):=HF2.out.Zd9 (rqL (n) (g) (r) (K) (.slice u2 LL.length t2) (P) (nn) (C) ((.slice op on oc))) rfl
 have hr3:Zcg (stR x2 E (rqL (n) (g) (r) (K) (.slice u2 LL.length t2) (P) (nn) (C) ((.slice op on oc))) 0) u2 LL:=HR2.out.stR (Zm6 HR2.out oQ.2.2.1) (rqL (n) (g) (r) (K) (.slice u2 LL.length t2) (P) (nn) (C) ((.slice op on oc))) 0
 have HF3:=hid hf3;have HR3:=hid hr3
 clear hf3 hr3 HF2 HR2
 go_wp2_with fail
 change bodyPost _ _ _ _ _ (stR x2 E (rqL (n) (g) (r) (K) (.slice u2 LL.length t2) (P) (nn) (C) ((.slice op on oc))) 0)
 have yQ:=Zaf HF3.out.at0
 have HPO:=hid ((⟨u2,t2,rfl,HR3.out,HF3.out.be⟩:Yjq n g r K LL P nn C (.slice op on oc) w (.returned (rqV n g r K (.slice u2 LL.length t2) P nn C (.slice op on oc))) _))
 obtain⟨z,hz⟩:=eX (stR x2 E (rqL (n) (g) (r) (K) (.slice u2 LL.length t2) (P) (nn) (C) ((.slice op on oc))) 0)
 rw[hz]at HPO yQ⊢
 exact bodyPost_ret (v:=.agg (rqA (n) (g) (r) (K) (.slice u2 LL.length t2) (P) (nn) (C) ((.slice op on oc)))) (by simp[results,Tryz.results136,go_sem,yQ]) rfl HPO.out
end
end
end Go.Proofs.YtgcidfenjlmljaaGreat.Bt
