import Derived.Test.YtpkaehpllldcmaaGreatDoorMoB
import Derived.Deep.RegionHeld3
import Derived.Deep.DeepMust
import Derived.OwnWalk
import Derived.Maps.AppendAt
namespace Go.Proofs.YtpkaehpllldcmaaGreatDoor.Bt
open Go Go.RowKit
structure Hold (w:World) (L:Nat) (p:Option Addr) (n cap:Nat) (es:List Nat) (x:World):Prop where
 c0:x.cell? ⟨w.heap.size,0,none⟩=some (.int .i64 (L:Int))
 c1:x.cell? ⟨w.heap.size,1,none⟩=some (.slice p n cap)
 r0:x.cell? ⟨w.heap.size+1,0,none⟩=some (.int .i64 0)
 r1:x.cell? ⟨w.heap.size+1,1,none⟩=some (.slice none 0 0)
 fz:x.frozen? ⟨w.heap.size+1,0,none⟩=false
 fz1:x.frozen? ⟨w.heap.size+1,1,none⟩=false
 sz:w.heap.size+2≤x.heap.size
 bl:Below w.heap.size w x
 row:RowAt x p es
theorem Hold.next2 {w:World} {L:Nat} {p:Option Addr} {n cap:Nat} {es:List Nat} {x y:World} (h:Hold w L p n cap es x) (hb:Below (w.heap.size+2) x y) (hrow:RowAt w p es):Hold w L p n cap es y:=by
 refine⟨?_,?_,?_,?_,?_,?_,Nat.le_trans h.sz hb.size,h.bl.trans (hb.mono (by omega)),hrow.below (h.bl.trans (hb.mono (by omega)))⟩
 · rw[hb.cell (p:=⟨w.heap.size,0,none⟩) (by show w.heap.size<_;omega)];exact h.c0
 · rw[hb.cell (p:=⟨w.heap.size,1,none⟩) (by show w.heap.size<_;omega)];exact h.c1
 · rw[hb.cell (p:=⟨w.heap.size+1,0,none⟩) (by show w.heap.size+1<_;omega)];exact h.r0
 · rw[hb.cell (p:=⟨w.heap.size+1,1,none⟩) (by show w.heap.size+1<_;omega)];exact h.r1
 · rw[hb.frozen (p:=⟨w.heap.size+1,0,none⟩) (by show w.heap.size+1<_;omega)];exact h.fz
 · rw[hb.frozen (p:=⟨w.heap.size+1,1,none⟩) (by show w.heap.size+1<_;omega)];exact h.fz1
theorem Hold.grown {w:World} {L:Nat} {p:Option Addr} {n cap:Nat} {es:List Nat} {x y:World} {row:Option Nat} (h:Hold w L p n cap es x) (hg:x.grownBy y row) (hr:∀k,row=some k→w.heap.size+2≤k) (hrow:RowAt w p es):Hold w L p n cap es y:=
 h.next2 ((Below.refl _ _).grown hg h.sz hr) hrow
theorem Hold.next {w:World} {L:Nat} {p:Option Addr} {n cap:Nat} {es:List Nat} {x y:World} (h:Hold w L p n cap es x) (hb:Below x.heap.size x y):Hold w L p n cap es y:=by
 have hs:=h.sz
 refine⟨?_,?_,?_,?_,?_,?_,Nat.le_trans h.sz hb.size,h.bl.trans (hb.mono (by omega)),h.row.below hb⟩
 · rw[hb.cell (p:=⟨w.heap.size,0,none⟩) (by show w.heap.size<_;omega)];exact h.c0
 · rw[hb.cell (p:=⟨w.heap.size,1,none⟩) (by show w.heap.size<_;omega)];exact h.c1
 · rw[hb.cell (p:=⟨w.heap.size+1,0,none⟩) (by show w.heap.size+1<_;omega)];exact h.r0
 · rw[hb.cell (p:=⟨w.heap.size+1,1,none⟩) (by show w.heap.size+1<_;omega)];exact h.r1
 · rw[hb.frozen (p:=⟨w.heap.size+1,0,none⟩) (by show w.heap.size+1<_;omega)];exact h.fz
 · rw[hb.frozen (p:=⟨w.heap.size+1,1,none⟩) (by show w.heap.size+1<_;omega)];exact h.fz1
def enc (l:List Nat):List Value:=l.map fun(e:Nat)=> .int .i64 (e:Int)
theorem enc_one {l:List Nat}:∀u∈enc l,u.oneCell'=true:=by
 intro u hu;obtain⟨e,_,rfl⟩:=List.mem_map.1 hu;rfl
theorem src_at {x:World} {p:Option Addr} {es:List Nat} (h:RowAt x p es) (s:Nat) (l:List Nat) (hl:∀j,j<l.length→s+j<es.length∧l.getD j 0=es.getD (s+j) 0):
 ∀ad,p=some ad→∀j u,(enc l)[j]?=some u→x.cell? ⟨ad.block,ad.off+s+j,none⟩=some u:=by
 intro ad had j u hu
 have hj:j<l.length:=by
  have:=(List.getElem?_eq_some_iff.1 hu).1;simpa[enc]using this
 rcases h with⟨rfl,_⟩|⟨b,off,rfl,_,hc⟩
 · cases had
 · cases had
   have:=hl j hj
   have e:=hc (s+j) this.1
   rw[←this.2]at e
   show x.cell? ⟨b,off+s+j,none⟩=some u
   rw[Nat.add_assoc,e]
   rw[←hu];simp[enc,List.getD_eq_getElem?_getD,List.getElem?_eq_getElem hj]
theorem Hold.drew {w:World} {L:Nat} {p:Option Addr} {n cap:Nat} {es:List Nat} {x:World} (h:Hold w L p n cap es x):Hold w L p n cap es x.drew:=h.next (Below.refl _ _).drew
theorem Hold.all {w:World} {L:Nat} {p:Option Addr} {n cap:Nat} {es:List Nat} {x:World} (h:Hold w L p n cap es x):x.cell? ⟨w.heap.size,0,none⟩=some (.int .i64 (L:Int))∧x.cell? ⟨w.heap.size,1,none⟩=some (.slice p n cap)∧Hold w L p n cap es x:=⟨h.c0,h.c1,h⟩
theorem Hold.next' {w:World} {L:Nat} {p:Option Addr} {n cap:Nat} {es:List Nat} {x y:World} (hb:Below x.heap.size x y) (h:x.cell? ⟨w.heap.size,0,none⟩=some (.int .i64 (L:Int))∧x.cell? ⟨w.heap.size,1,none⟩=some (.slice p n cap)∧Hold w L p n cap es x):Hold w L p n cap es y:=h.2.2.next hb
theorem Hold.row' {w:World} {L:Nat} {p:Option Addr} {n cap:Nat} {es:List Nat} {x:World} (h:x.cell? ⟨w.heap.size,0,none⟩=some (.int .i64 (L:Int))∧x.cell? ⟨w.heap.size,1,none⟩=some (.slice p n cap)∧Hold w L p n cap es x):RowAt x p es:=h.2.2.row
theorem src_take {x:World} {b off:Nat} {es:List Nat} {k:Nat} (h:RowAt x (some ⟨b,off,none⟩) es) (hk:k≤es.length):
 ∀ad,some (⟨b,off,none⟩:Addr)=some ad→∀j u,(enc (es.take k))[j]?=some u→x.cell? (ad.add j)=some u:=by
 intro ad had j u hu
 cases had
 have:=src_at h 0 (es.take k) (fun j hj=>by simp at hj;exact⟨by omega,by simp[List.getD_eq_getElem?_getD,show j<k by omega]⟩) _ rfl j u hu
 simp only[Addr.add]
 by_cases h0:j=0
 · subst h0;simpa using this
 · simpa[h0]using this
theorem src_drop {x:World} {b off:Nat} {es:List Nat} {k:Nat} {ao:Option Addr} (h:RowAt x (some ⟨b,off,none⟩) es) (hk:k≤es.length) (ha:k<es.length→ao=some ⟨b,off+k,none⟩):
 ∀ad,ao=some ad→∀j u,(enc (es.drop k))[j]?=some u→x.cell? (ad.add j)=some u:=by
 intro ad had j u hu
 have hj:j<(es.drop k).length:=by
  have:=(List.getElem?_eq_some_iff.1 hu).1;simpa[enc]using this
 simp at hj
 rw[ha (by omega)]at had
 cases had
 have:=src_at h k (es.drop k) (fun j hj=>by simp at hj;exact⟨by omega,by simp[List.getD_eq_getElem?_getD]⟩) _ rfl j u hu
 simp only[Addr.add]
 by_cases h0:j=0
 · subst h0;simpa using this
 · simpa[h0]using this
theorem one_at (w:World) (f:Nat) (t:TypeId):∀ad,some (⟨w.heap.size,0,none⟩:Addr)=some ad→∀j u,(enc [f])[j]?=some u→(w.alloc (.cells #[.int .i64 (f:Int)] t)).cell? (ad.add j)=some u:=by
 intro ad had;cases had;exact cell_one_new w (.int .i64 (f:Int)) t
theorem own_row {x:World} {B g n cap:Nat} {l:List Nat} {T:TypeId} (h:x.ownsRow B T 1 (.slice (some ⟨g,0,none⟩) n cap) n (enc l)) (hn:n=l.length) (y:World) (hy:y.heap[g]?=x.heap[g]?):RowAt y (some ⟨g,0,none⟩) l:=by
 have hlt:g<x.heap.size:=by
  rcases h.2 with⟨h',_⟩|⟨g',cap',cur,h',_,hg,_⟩
  · simp at h'
  · simp only[Value.slice.injEq,Option.some.injEq,Addr.mk.injEq,and_true,true_and]at h'
    rw[h'.1];exact(Array.getElem?_eq_some_iff.1 hg).1
 have hlt2:g<y.heap.size:=by
  have e:y.heap[g]?=some x.heap[g]:=by rw[hy,Array.getElem?_eq_getElem hlt]
  exact(Array.getElem?_eq_some_iff.1 e).1
 refine .inr ⟨g,0,rfl,hlt2,fun k hk=>?_⟩
 have e:y.cell? ⟨g,k,none⟩=x.cell? ⟨g,k,none⟩:=World.cell?_of_block (w:=x) (w':=y) hy
 rw[Nat.zero_add,e,h.cellAt k (by omega)]
 simp[enc,List.getD_eq_getElem?_getD,List.getElem?_eq_getElem hk]
def laidS (L:Nat) (es:List Nat) (fr n:Int) (inn:Bool):List Nat:=if withinB L fr n&&decide (n≠0)then laidE es fr.toNat n.toNat inn else es
def laidErr (L:Nat) (fr n:Int):Int:=if withinB L fr n then 0 else 3
def LaidPost (L:Nat) (p:Option Addr) (es:List Nat) (fr n:Int) (inn:Bool) (w:World) (e:Ending) (w':World):Prop:=
 ∃p' n' cap',e=.returned (.tuple #[.agg #[.int .i64 L,.slice p' n' cap'],.int .i64 (laidErr L fr n)])∧n'=(laidS L es fr n inn).length∧n'≤cap'∧(p'=none→cap'=0)∧RowAt w' p' (laidS L es fr n inn)∧(p'=p∨∃a,p'=some a∧w.heap.size≤a.block)∧Below w.heap.size w w'
theorem _root_.Go.Proofs.YtpkaehpllldcmaaGreatDoor.Tryz.info3:(Tryz.prog.info? 3).map (fun i=>(i.zero,i.size,i.bytes))=some (some (.int .i64 0),1,8):=by kernel_rfl
theorem two_set {x:World} {B:Nat} {a b:Value} (h0:x.cell? ⟨B,0,none⟩=some a) (h1:x.cell? ⟨B,1,none⟩=some b) (v u:Value):
 ((x.setCell ⟨B,0,none⟩ v).setCell ⟨B,1,none⟩ u).cell? ⟨B,0,none⟩=some v∧((x.setCell ⟨B,0,none⟩ v).setCell ⟨B,1,none⟩ u).cell? ⟨B,1,none⟩=some u:=by
 have g1:(x.setCell ⟨B,0,none⟩ v).cell? ⟨B,1,none⟩=some b:=by rw[World.cell?_setCell_other];exact h1;simp
 exact⟨by rw[World.cell?_setCell_other _ _ _ _ (by simp)];exact World.cell?_setCell_same' _ _ _ (by rw[h0];rfl),World.cell?_setCell_same' _ _ _ (by rw[g1];rfl)⟩
theorem laid_close {w wl:World} {L m cap g k:Nat} {p:Option Addr} {es l:List Nat} {fr n:Nat} {inn:Bool} {v0 v1:Value} (hown:wl.ownsRow (w.heap.size+2) 3 1 (.slice (some ⟨g,0,none⟩) k (m+2)) k (enc l))
 (hk:k=l.length) (hk2:k≤m+2) (H:Hold w L p m cap es wl) (hg:w.heap.size+2≤g) (hw:withinB L fr n=true) (hl:laidS L es fr n inn=l):
 LaidPost L p es fr n inn w (.returned (.tuple #[.agg #[.int .i64 L,.slice (some ⟨g,0,none⟩) k (m+2)],.int .i64 0])) ((wl.setCell ⟨w.heap.size+1,0,none⟩ v0).setCell ⟨w.heap.size+1,1,none⟩ v1):=by
 refine⟨some ⟨g,0,none⟩,k,m+2,by unfold laidErr;rw[hw];rfl,by rw[hl];exact hk,hk2,(fun h=>by cases h),?_,.inr ⟨_,rfl,by show w.heap.size≤g;omega⟩,(H.bl.setCell (p:=⟨w.heap.size+1,0,none⟩) (by show _≤w.heap.size+1;omega) _).setCell (p:=⟨w.heap.size+1,1,none⟩) (by show _≤w.heap.size+1;omega) _⟩
 rw[hl]
 refine own_row hown hk _ ?_
 rw[Below.heap_setCell _ ⟨w.heap.size+1,1,none⟩ _ _ (by show g≠w.heap.size+1;omega),Below.heap_setCell _ ⟨w.heap.size+1,0,none⟩ _ _ (by show g≠w.heap.size+1;omega)]
set_option maxHeartbeats 1000000 in
theorem laid_tt (L:Nat) (b off:Nat) (m cap:Nat) (es:List Nat) (fr n:Nat) (inn:Bool) (w:World) (g:Good L es) (hrow:RowAt w (some ⟨b,off,none⟩) es) (hm:m=es.length) (hcap:m≤cap)
 (hn0:0<n) (hnL:fr+n≤L) (hk1:insB (cnt es fr)= !inn) (hk2:insB (cnt es (fr+n+1))= !inn):
 Calls Tryz.prog 49 #[.agg #[.int .i64 L,.slice (some ⟨b,off,none⟩) m cap],.int .i64 fr,.int .i64 n,.bool inn] w (LaidPost L (some ⟨b,off,none⟩) es fr n inn w):=by
 have hL:=g.small
 have hgl:=good_len g
 have HM:=Lib.hid hm;clear hm
 have HW:Hid (withinB L fr n=true):=Lib.hid (by unfold withinB;simp;omega)
 have HE:Hid (laidS L es fr n inn=laidE es fr n inn):=Lib.hid (by unfold laidS;rw[HW.out,decide_eq_true (by omega)];simp)
 have HX:=Lib.hid hk1;have HY:=Lib.hid hk2;clear hk1 hk2
 have HRow:=Lib.hid hrow
 have hnz:((n:Int)==0)=false:=beq_eq_false_iff_ne.2 (by omega)
 go_enter Tryz.func49,Tryz.ntmps49
 go_wp2_with fail
 refine(within_any L hL (some ⟨b,off,none⟩) m cap _ _ (by omega) _).mono ?_
 rw[HW.out]
 rintro e w1 ⟨rfl,hb⟩
 have H1:Hold w L (some ⟨b,off,none⟩) m cap es w1:=by
  refine Hold.next (x:=(w.alloc (.cells #[.int .i64 L,.slice (some ⟨b,off,none⟩) m cap] 73)).alloc (.cells #[.int .i64 0,.slice none 0 0] 73)) ?_ (hb.mono (by simp))
  refine⟨by simp,by simp,by simp,by simp,by simp,by simp,by simp,((Below.refl _ _).alloc (Nat.le_refl _) _).alloc (by simp) _,?_⟩
  exact(hrow.below ((Below.refl _ _).alloc (Nat.le_refl _) _)).below ((Below.refl _ _).alloc (by simp) _)
 have hc0:=H1.c0
 have hc1:=H1.c1
 go_wp2_with fail
 have hw1:IntKind.i64.wrap ((fr:Int)+n)=fr+n:=IntWalk.i64_in _ (by omega)
 have hw2:IntKind.i64.wrap ((fr:Int)+n+1)=fr+n+1:=IntWalk.i64_in _ (by omega)
 go_region_held3 (fun x=>x.cell? ⟨w.heap.size,0,none⟩=some (.int .i64 (L:Int))∧x.cell? ⟨w.heap.size,1,none⟩=some (.slice (some ⟨b,off,none⟩) m cap)∧Hold w L (some ⟨b,off,none⟩) m cap es x)
  (first|exact H1.drew.all|assumption)
  (first|(go_at_call 89;refine(edges_any L (some ⟨b,off,none⟩) m cap es _ _ g.rising hgl ?_ HM.out).mono ?_;(exact Hold.row' (w:=w) (L:=L) (n:=m) (cap:=cap) (by assumption));rintro e w' ⟨rfl,hbb⟩;have hnx:=Hold.all (Hold.next' (w:=w) (L:=L) (p:=some ⟨b,off,none⟩) (n:=m) (cap:=cap) (es:=es) hbb (by assumption))))
 clear hw1 hw2
 obtain⟨hd0,hd1,H2⟩:=hnx
 have hq1:cnt es fr≤m:=by rw[HM.out];exact cnt_le es fr
 have hq2:=cnt_mono es (show(fr:Int)≤(fr:Int)+n+1 by omega)
 have hq3:cnt es (fr+n+1)≤m:=by rw[HM.out];exact cnt_le es (fr+n+1)
 have hm1:m≤1048577:=by rw[HM.out];exact hgl
 have hq4:=Nat.le_trans hq1 hcap
 have hq5:=Nat.le_trans hq3 hcap
 have hk1:=HX.out;have hk2:=HY.out
 generalize hb1:cnt es fr=b1 at*
 generalize hb2:cnt es (fr+n+1)=b2 at*
 have HB1:=Lib.hid hb1;have HB2:=Lib.hid hb2;clear hb1 hb2
 clear hrow HX HY
 have HL1:Hid ((enc (es.take b1)).length=b1*1):=Lib.hid (by have:=HM.out;simp[enc];omega)
 have HL2:Hid ((enc (es.drop b2)).length=(m-b2)*1):=Lib.hid (by have:=HM.out;simp[enc];omega)
 obtain⟨i0,hi,hz0,hz1,hz2⟩:=info_parts Tryz.info3
 have HQ:Hid (laidE es fr n inn=es.take b1++([fr]++([fr+n]++es.drop b2))):=Lib.hid (by unfold laidE;rw[HB1.out,HB2.out,hk1,hk2];cases inn<;>rfl)
 by_cases hcb:b2<cap
 · go_wp2_with (first|(at_make;refine wpList_make_own _ rfl _ _ 71 rfl (w.heap.size+2) 3 i0 (.int .i64 0) 1 Tryz.underlying71 hi hz0 hz1 .i64 .i64 _ (m+2) rfl rfl (by omega) (by rw[hz2];omega) (by unfold maxLen;omega) H2.sz ?_;intro w3 hown3 hgrow3;have H3:=H2.grown hgrow3 (fun k e=>by cases e) HRow.out;have f30:=H3.c0;have f31:=H3.c1)|(at_builtin;refine wpList_append_fits_any _ rfl (.tmp 36) (.tmp 40) 71 rfl (w.heap.size+2) 3 i0 1 Tryz.underlying71 hi hz1 w'.heap.size 0 (m+2) _ rfl hown3 _ b1 _ (enc (es.take b1)) rfl HL1.out (by intro h;cases h) (src_take H3.row (by rw[←HM.out];exact hq1)) enc_one (by omega) ?_;intro w4 hown4 hgrow4;simp only[Nat.zero_add,List.nil_append]at hown4;have H4:=H3.grown hgrow4 (fun k e=>by cases e;exact H2.sz) HRow.out;have f40:=H4.c0;have f41:=H4.c1;clear f30 f31)|(at_builtin;refine wpList_append_fits_any _ rfl (.tmp 46) (.tmp 48) 71 rfl (w.heap.size+2) 3 i0 1 Tryz.underlying71 hi hz1 w'.heap.size _ (m+2) _ rfl (hown4.alloc _) _ 1 _ (enc [fr]) rfl rfl (by intro h;cases h) (one_at _ _ _) enc_one (by omega) ?_;intro w5 hown5 hgrow5;have H5:=(H4.grown (World.grownBy_alloc _ _ none) (fun k e=>by cases e) HRow.out).grown hgrow5 (fun k e=>by cases e;exact H2.sz) HRow.out;have f50:=H5.c0;have f51:=H5.c1;clear f40 f41)|(at_builtin;refine wpList_append_fits_any _ rfl (.tmp 54) (.tmp 58) 71 rfl (w.heap.size+2) 3 i0 1 Tryz.underlying71 hi hz1 w'.heap.size _ (m+2) _ rfl (hown5.alloc _) _ 1 _ (enc [(fr+n)]) rfl rfl (by intro h;cases h) (one_at _ _ _) enc_one (by omega) ?_;intro w6 hown6 hgrow6;have H6:=(H5.grown (World.grownBy_alloc _ _ none) (fun k e=>by cases e) HRow.out).grown hgrow6 (fun k e=>by cases e;exact H2.sz) HRow.out;have f60:=H6.c0;have f61:=H6.c1;clear f50 f51)|(at_builtin;refine wpList_append_fits_any _ rfl (.tmp 60) (.tmp 64) 71 rfl (w.heap.size+2) 3 i0 1 Tryz.underlying71 hi hz1 w'.heap.size _ (m+2) _ rfl hown6 (some ⟨b,off+b2,none⟩) (m-b2) (cap-b2) (enc (es.drop b2)) rfl HL2.out (by intro h;cases h) (src_drop H6.row (by rw[←HM.out];exact hq3) (fun _=>rfl)) enc_one (by omega) ?_;intro w7 hown7 hgrow7;have H7:=H6.grown hgrow7 (fun k e=>by cases e;exact H2.sz) HRow.out;have f70:=H7.c0;have f71:=H7.c1;have f72:=H7.r0;have f73:=H7.r1;have f74:=H7.fz;have f75:=H7.fz1;clear f60 f61)|(go_at_call 90;refine(inside_any _ (by omega) _).mono ?_;rintro e w8 ⟨rfl,rfl⟩))
   exact bodyPost_ret (v:=.tuple #[.agg #[.int .i64 L,.slice (some ⟨w'.heap.size,0,none⟩) (b1+1+1+(m-b2)) (m+2)],.int .i64 0]) (by simp[results,Tryz.results49,go_sem,(two_set f72 f73 (.int .i64 L) (.slice (some ⟨w'.heap.size,0,none⟩) (b1+1+1+(m-b2)) (m+2))).1,(two_set f72 f73 (.int .i64 L) (.slice (some ⟨w'.heap.size,0,none⟩) (b1+1+1+(m-b2)) (m+2))).2]) rfl
    (laid_close (by have e:enc (es.take b1)++enc [fr]++enc [fr+n]++enc (es.drop b2)=enc (laidE es fr n inn):=(by rw[HQ.out];simp[enc]);rw[e]at hown7;exact hown7) (by rw[HQ.out];have:=HM.out;simp;omega) (by omega) H7 H2.sz HW.out HE.out)
 · have HNe:Hid (¬b2<es.length):=Lib.hid (by have:=HM.out;omega)
   go_wp2_with (first|(at_make;refine wpList_make_own _ rfl _ _ 71 rfl (w.heap.size+2) 3 i0 (.int .i64 0) 1 Tryz.underlying71 hi hz0 hz1 .i64 .i64 _ (m+2) rfl rfl (by omega) (by rw[hz2];omega) (by unfold maxLen;omega) H2.sz ?_;intro w3 hown3 hgrow3;have H3:=H2.grown hgrow3 (fun k e=>by cases e) HRow.out;have f30:=H3.c0;have f31:=H3.c1)|(at_builtin;refine wpList_append_fits_any _ rfl (.tmp 36) (.tmp 40) 71 rfl (w.heap.size+2) 3 i0 1 Tryz.underlying71 hi hz1 w'.heap.size 0 (m+2) _ rfl hown3 _ b1 _ (enc (es.take b1)) rfl HL1.out (by intro h;cases h) (src_take H3.row (by rw[←HM.out];exact hq1)) enc_one (by omega) ?_;intro w4 hown4 hgrow4;simp only[Nat.zero_add,List.nil_append]at hown4;have H4:=H3.grown hgrow4 (fun k e=>by cases e;exact H2.sz) HRow.out;have f40:=H4.c0;have f41:=H4.c1;clear f30 f31)|(at_builtin;refine wpList_append_fits_any _ rfl (.tmp 46) (.tmp 48) 71 rfl (w.heap.size+2) 3 i0 1 Tryz.underlying71 hi hz1 w'.heap.size _ (m+2) _ rfl (hown4.alloc _) _ 1 _ (enc [fr]) rfl rfl (by intro h;cases h) (one_at _ _ _) enc_one (by omega) ?_;intro w5 hown5 hgrow5;have H5:=(H4.grown (World.grownBy_alloc _ _ none) (fun k e=>by cases e) HRow.out).grown hgrow5 (fun k e=>by cases e;exact H2.sz) HRow.out;have f50:=H5.c0;have f51:=H5.c1;clear f40 f41)|(at_builtin;refine wpList_append_fits_any _ rfl (.tmp 54) (.tmp 58) 71 rfl (w.heap.size+2) 3 i0 1 Tryz.underlying71 hi hz1 w'.heap.size _ (m+2) _ rfl (hown5.alloc _) _ 1 _ (enc [(fr+n)]) rfl rfl (by intro h;cases h) (one_at _ _ _) enc_one (by omega) ?_;intro w6 hown6 hgrow6;have H6:=(H5.grown (World.grownBy_alloc _ _ none) (fun k e=>by cases e) HRow.out).grown hgrow6 (fun k e=>by cases e;exact H2.sz) HRow.out;have f60:=H6.c0;have f61:=H6.c1;clear f50 f51)|(at_builtin;refine wpList_append_fits_any _ rfl (.tmp 60) (.tmp 64) 71 rfl (w.heap.size+2) 3 i0 1 Tryz.underlying71 hi hz1 w'.heap.size _ (m+2) _ rfl hown6 (some ⟨b,off,none⟩) (m-b2) (cap-b2) (enc (es.drop b2)) rfl HL2.out (by intro h;cases h) (src_drop H6.row (by rw[←HM.out];exact hq3) (fun h=>absurd h HNe.out)) enc_one (by omega) ?_;intro w7 hown7 hgrow7;have H7:=H6.grown hgrow7 (fun k e=>by cases e;exact H2.sz) HRow.out;have f70:=H7.c0;have f71:=H7.c1;have f72:=H7.r0;have f73:=H7.r1;have f74:=H7.fz;have f75:=H7.fz1;clear f60 f61)|(go_at_call 90;refine(inside_any _ (by omega) _).mono ?_;rintro e w8 ⟨rfl,rfl⟩))
   exact bodyPost_ret (v:=.tuple #[.agg #[.int .i64 L,.slice (some ⟨w'.heap.size,0,none⟩) (b1+1+1+(m-b2)) (m+2)],.int .i64 0]) (by simp[results,Tryz.results49,go_sem,(two_set f72 f73 (.int .i64 L) (.slice (some ⟨w'.heap.size,0,none⟩) (b1+1+1+(m-b2)) (m+2))).1,(two_set f72 f73 (.int .i64 L) (.slice (some ⟨w'.heap.size,0,none⟩) (b1+1+1+(m-b2)) (m+2))).2]) rfl
    (laid_close (by have e:enc (es.take b1)++enc [fr]++enc [fr+n]++enc (es.drop b2)=enc (laidE es fr n inn):=(by rw[HQ.out];simp[enc]);rw[e]at hown7;exact hown7) (by rw[HQ.out];have:=HM.out;simp;omega) (by omega) H7 H2.sz HW.out HE.out)
set_option maxHeartbeats 1000000 in
theorem laid_tf (L:Nat) (b off:Nat) (m cap:Nat) (es:List Nat) (fr n:Nat) (inn:Bool) (w:World) (g:Good L es) (hrow:RowAt w (some ⟨b,off,none⟩) es) (hm:m=es.length) (hcap:m≤cap)
 (hn0:0<n) (hnL:fr+n≤L) (hk1:insB (cnt es fr)= !inn) (hk2:insB (cnt es (fr+n+1))=inn):
 Calls Tryz.prog 49 #[.agg #[.int .i64 L,.slice (some ⟨b,off,none⟩) m cap],.int .i64 fr,.int .i64 n,.bool inn] w (LaidPost L (some ⟨b,off,none⟩) es fr n inn w):=by
 have hL:=g.small
 have hgl:=good_len g
 have HM:=Lib.hid hm;clear hm
 have HW:Hid (withinB L fr n=true):=Lib.hid (by unfold withinB;simp;omega)
 have HE:Hid (laidS L es fr n inn=laidE es fr n inn):=Lib.hid (by unfold laidS;rw[HW.out,decide_eq_true (by omega)];simp)
 have HX:=Lib.hid hk1;have HY:=Lib.hid hk2;clear hk1 hk2
 have HRow:=Lib.hid hrow
 have hnz:((n:Int)==0)=false:=beq_eq_false_iff_ne.2 (by omega)
 go_enter Tryz.func49,Tryz.ntmps49
 go_wp2_with fail
 refine(within_any L hL (some ⟨b,off,none⟩) m cap _ _ (by omega) _).mono ?_
 rw[HW.out]
 rintro e w1 ⟨rfl,hb⟩
 have H1:Hold w L (some ⟨b,off,none⟩) m cap es w1:=by
  refine Hold.next (x:=(w.alloc (.cells #[.int .i64 L,.slice (some ⟨b,off,none⟩) m cap] 73)).alloc (.cells #[.int .i64 0,.slice none 0 0] 73)) ?_ (hb.mono (by simp))
  refine⟨by simp,by simp,by simp,by simp,by simp,by simp,by simp,((Below.refl _ _).alloc (Nat.le_refl _) _).alloc (by simp) _,?_⟩
  exact(hrow.below ((Below.refl _ _).alloc (Nat.le_refl _) _)).below ((Below.refl _ _).alloc (by simp) _)
 have hc0:=H1.c0
 have hc1:=H1.c1
 go_wp2_with fail
 have hw1:IntKind.i64.wrap ((fr:Int)+n)=fr+n:=IntWalk.i64_in _ (by omega)
 have hw2:IntKind.i64.wrap ((fr:Int)+n+1)=fr+n+1:=IntWalk.i64_in _ (by omega)
 go_region_held3 (fun x=>x.cell? ⟨w.heap.size,0,none⟩=some (.int .i64 (L:Int))∧x.cell? ⟨w.heap.size,1,none⟩=some (.slice (some ⟨b,off,none⟩) m cap)∧Hold w L (some ⟨b,off,none⟩) m cap es x)
  (first|exact H1.drew.all|assumption)
  (first|(go_at_call 89;refine(edges_any L (some ⟨b,off,none⟩) m cap es _ _ g.rising hgl ?_ HM.out).mono ?_;(exact Hold.row' (w:=w) (L:=L) (n:=m) (cap:=cap) (by assumption));rintro e w' ⟨rfl,hbb⟩;have hnx:=Hold.all (Hold.next' (w:=w) (L:=L) (p:=some ⟨b,off,none⟩) (n:=m) (cap:=cap) (es:=es) hbb (by assumption))))
 clear hw1 hw2
 obtain⟨hd0,hd1,H2⟩:=hnx
 have hq1:cnt es fr≤m:=by rw[HM.out];exact cnt_le es fr
 have hq2:=cnt_mono es (show(fr:Int)≤(fr:Int)+n+1 by omega)
 have hq3:cnt es (fr+n+1)≤m:=by rw[HM.out];exact cnt_le es (fr+n+1)
 have hm1:m≤1048577:=by rw[HM.out];exact hgl
 have hq4:=Nat.le_trans hq1 hcap
 have hq5:=Nat.le_trans hq3 hcap
 have hk1:=HX.out;have hk2:=HY.out
 generalize hb1:cnt es fr=b1 at*
 generalize hb2:cnt es (fr+n+1)=b2 at*
 have HB1:=Lib.hid hb1;have HB2:=Lib.hid hb2;clear hb1 hb2
 clear hrow HX HY
 have HL1:Hid ((enc (es.take b1)).length=b1*1):=Lib.hid (by have:=HM.out;simp[enc];omega)
 have HL2:Hid ((enc (es.drop b2)).length=(m-b2)*1):=Lib.hid (by have:=HM.out;simp[enc];omega)
 obtain⟨i0,hi,hz0,hz1,hz2⟩:=info_parts Tryz.info3
 have HQ:Hid (laidE es fr n inn=es.take b1++([fr]++([]++es.drop b2))):=Lib.hid (by unfold laidE;rw[HB1.out,HB2.out,hk1,hk2];cases inn<;>rfl)
 by_cases hcb:b2<cap
 · go_wp2_with (first|(at_make;refine wpList_make_own _ rfl _ _ 71 rfl (w.heap.size+2) 3 i0 (.int .i64 0) 1 Tryz.underlying71 hi hz0 hz1 .i64 .i64 _ (m+2) rfl rfl (by omega) (by rw[hz2];omega) (by unfold maxLen;omega) H2.sz ?_;intro w3 hown3 hgrow3;have H3:=H2.grown hgrow3 (fun k e=>by cases e) HRow.out;have f30:=H3.c0;have f31:=H3.c1)|(at_builtin;refine wpList_append_fits_any _ rfl (.tmp 36) (.tmp 40) 71 rfl (w.heap.size+2) 3 i0 1 Tryz.underlying71 hi hz1 w'.heap.size 0 (m+2) _ rfl hown3 _ b1 _ (enc (es.take b1)) rfl HL1.out (by intro h;cases h) (src_take H3.row (by rw[←HM.out];exact hq1)) enc_one (by omega) ?_;intro w4 hown4 hgrow4;simp only[Nat.zero_add,List.nil_append]at hown4;have H4:=H3.grown hgrow4 (fun k e=>by cases e;exact H2.sz) HRow.out;have f40:=H4.c0;have f41:=H4.c1;clear f30 f31)|(at_builtin;refine wpList_append_fits_any _ rfl (.tmp 46) (.tmp 48) 71 rfl (w.heap.size+2) 3 i0 1 Tryz.underlying71 hi hz1 w'.heap.size _ (m+2) _ rfl (hown4.alloc _) _ 1 _ (enc [fr]) rfl rfl (by intro h;cases h) (one_at _ _ _) enc_one (by omega) ?_;intro w5 hown5 hgrow5;have H5:=(H4.grown (World.grownBy_alloc _ _ none) (fun k e=>by cases e) HRow.out).grown hgrow5 (fun k e=>by cases e;exact H2.sz) HRow.out;have f50:=H5.c0;have f51:=H5.c1;clear f40 f41)|(at_builtin;refine wpList_append_fits_any _ rfl (.tmp 60) (.tmp 64) 71 rfl (w.heap.size+2) 3 i0 1 Tryz.underlying71 hi hz1 w'.heap.size _ (m+2) _ rfl hown5 (some ⟨b,off+b2,none⟩) (m-b2) (cap-b2) (enc (es.drop b2)) rfl HL2.out (by intro h;cases h) (src_drop H5.row (by rw[←HM.out];exact hq3) (fun _=>rfl)) enc_one (by omega) ?_;intro w6 hown6 hgrow6;have H6:=H5.grown hgrow6 (fun k e=>by cases e;exact H2.sz) HRow.out;have f60:=H6.c0;have f61:=H6.c1;have f62:=H6.r0;have f63:=H6.r1;have f64:=H6.fz;have f65:=H6.fz1;clear f50 f51)|(go_at_call 90;refine(inside_any _ (by omega) _).mono ?_;rintro e w8 ⟨rfl,rfl⟩))
   exact bodyPost_ret (v:=.tuple #[.agg #[.int .i64 L,.slice (some ⟨w'.heap.size,0,none⟩) (b1+1+(m-b2)) (m+2)],.int .i64 0]) (by simp[results,Tryz.results49,go_sem,(two_set f62 f63 (.int .i64 L) (.slice (some ⟨w'.heap.size,0,none⟩) (b1+1+(m-b2)) (m+2))).1,(two_set f62 f63 (.int .i64 L) (.slice (some ⟨w'.heap.size,0,none⟩) (b1+1+(m-b2)) (m+2))).2]) rfl
    (laid_close (by have e:enc (es.take b1)++enc [fr]++enc (es.drop b2)=enc (laidE es fr n inn):=(by rw[HQ.out];simp[enc]);rw[e]at hown6;exact hown6) (by rw[HQ.out];have:=HM.out;simp;omega) (by omega) H6 H2.sz HW.out HE.out)
 · have HNe:Hid (¬b2<es.length):=Lib.hid (by have:=HM.out;omega)
   go_wp2_with (first|(at_make;refine wpList_make_own _ rfl _ _ 71 rfl (w.heap.size+2) 3 i0 (.int .i64 0) 1 Tryz.underlying71 hi hz0 hz1 .i64 .i64 _ (m+2) rfl rfl (by omega) (by rw[hz2];omega) (by unfold maxLen;omega) H2.sz ?_;intro w3 hown3 hgrow3;have H3:=H2.grown hgrow3 (fun k e=>by cases e) HRow.out;have f30:=H3.c0;have f31:=H3.c1)|(at_builtin;refine wpList_append_fits_any _ rfl (.tmp 36) (.tmp 40) 71 rfl (w.heap.size+2) 3 i0 1 Tryz.underlying71 hi hz1 w'.heap.size 0 (m+2) _ rfl hown3 _ b1 _ (enc (es.take b1)) rfl HL1.out (by intro h;cases h) (src_take H3.row (by rw[←HM.out];exact hq1)) enc_one (by omega) ?_;intro w4 hown4 hgrow4;simp only[Nat.zero_add,List.nil_append]at hown4;have H4:=H3.grown hgrow4 (fun k e=>by cases e;exact H2.sz) HRow.out;have f40:=H4.c0;have f41:=H4.c1;clear f30 f31)|(at_builtin;refine wpList_append_fits_any _ rfl (.tmp 46) (.tmp 48) 71 rfl (w.heap.size+2) 3 i0 1 Tryz.underlying71 hi hz1 w'.heap.size _ (m+2) _ rfl (hown4.alloc _) _ 1 _ (enc [fr]) rfl rfl (by intro h;cases h) (one_at _ _ _) enc_one (by omega) ?_;intro w5 hown5 hgrow5;have H5:=(H4.grown (World.grownBy_alloc _ _ none) (fun k e=>by cases e) HRow.out).grown hgrow5 (fun k e=>by cases e;exact H2.sz) HRow.out;have f50:=H5.c0;have f51:=H5.c1;clear f40 f41)|(at_builtin;refine wpList_append_fits_any _ rfl (.tmp 60) (.tmp 64) 71 rfl (w.heap.size+2) 3 i0 1 Tryz.underlying71 hi hz1 w'.heap.size _ (m+2) _ rfl hown5 (some ⟨b,off,none⟩) (m-b2) (cap-b2) (enc (es.drop b2)) rfl HL2.out (by intro h;cases h) (src_drop H5.row (by rw[←HM.out];exact hq3) (fun h=>absurd h HNe.out)) enc_one (by omega) ?_;intro w6 hown6 hgrow6;have H6:=H5.grown hgrow6 (fun k e=>by cases e;exact H2.sz) HRow.out;have f60:=H6.c0;have f61:=H6.c1;have f62:=H6.r0;have f63:=H6.r1;have f64:=H6.fz;have f65:=H6.fz1;clear f50 f51)|(go_at_call 90;refine(inside_any _ (by omega) _).mono ?_;rintro e w8 ⟨rfl,rfl⟩))
   exact bodyPost_ret (v:=.tuple #[.agg #[.int .i64 L,.slice (some ⟨w'.heap.size,0,none⟩) (b1+1+(m-b2)) (m+2)],.int .i64 0]) (by simp[results,Tryz.results49,go_sem,(two_set f62 f63 (.int .i64 L) (.slice (some ⟨w'.heap.size,0,none⟩) (b1+1+(m-b2)) (m+2))).1,(two_set f62 f63 (.int .i64 L) (.slice (some ⟨w'.heap.size,0,none⟩) (b1+1+(m-b2)) (m+2))).2]) rfl
    (laid_close (by have e:enc (es.take b1)++enc [fr]++enc (es.drop b2)=enc (laidE es fr n inn):=(by rw[HQ.out];simp[enc]);rw[e]at hown6;exact hown6) (by rw[HQ.out];have:=HM.out;simp;omega) (by omega) H6 H2.sz HW.out HE.out)
set_option maxHeartbeats 1000000 in
theorem laid_ft (L:Nat) (b off:Nat) (m cap:Nat) (es:List Nat) (fr n:Nat) (inn:Bool) (w:World) (g:Good L es) (hrow:RowAt w (some ⟨b,off,none⟩) es) (hm:m=es.length) (hcap:m≤cap)
 (hn0:0<n) (hnL:fr+n≤L) (hk1:insB (cnt es fr)=inn) (hk2:insB (cnt es (fr+n+1))= !inn):
 Calls Tryz.prog 49 #[.agg #[.int .i64 L,.slice (some ⟨b,off,none⟩) m cap],.int .i64 fr,.int .i64 n,.bool inn] w (LaidPost L (some ⟨b,off,none⟩) es fr n inn w):=by
 have hL:=g.small
 have hgl:=good_len g
 have HM:=Lib.hid hm;clear hm
 have HW:Hid (withinB L fr n=true):=Lib.hid (by unfold withinB;simp;omega)
 have HE:Hid (laidS L es fr n inn=laidE es fr n inn):=Lib.hid (by unfold laidS;rw[HW.out,decide_eq_true (by omega)];simp)
 have HX:=Lib.hid hk1;have HY:=Lib.hid hk2;clear hk1 hk2
 have HRow:=Lib.hid hrow
 have hnz:((n:Int)==0)=false:=beq_eq_false_iff_ne.2 (by omega)
 go_enter Tryz.func49,Tryz.ntmps49
 go_wp2_with fail
 refine(within_any L hL (some ⟨b,off,none⟩) m cap _ _ (by omega) _).mono ?_
 rw[HW.out]
 rintro e w1 ⟨rfl,hb⟩
 have H1:Hold w L (some ⟨b,off,none⟩) m cap es w1:=by
  refine Hold.next (x:=(w.alloc (.cells #[.int .i64 L,.slice (some ⟨b,off,none⟩) m cap] 73)).alloc (.cells #[.int .i64 0,.slice none 0 0] 73)) ?_ (hb.mono (by simp))
  refine⟨by simp,by simp,by simp,by simp,by simp,by simp,by simp,((Below.refl _ _).alloc (Nat.le_refl _) _).alloc (by simp) _,?_⟩
  exact(hrow.below ((Below.refl _ _).alloc (Nat.le_refl _) _)).below ((Below.refl _ _).alloc (by simp) _)
 have hc0:=H1.c0
 have hc1:=H1.c1
 go_wp2_with fail
 have hw1:IntKind.i64.wrap ((fr:Int)+n)=fr+n:=IntWalk.i64_in _ (by omega)
 have hw2:IntKind.i64.wrap ((fr:Int)+n+1)=fr+n+1:=IntWalk.i64_in _ (by omega)
 go_region_held3 (fun x=>x.cell? ⟨w.heap.size,0,none⟩=some (.int .i64 (L:Int))∧x.cell? ⟨w.heap.size,1,none⟩=some (.slice (some ⟨b,off,none⟩) m cap)∧Hold w L (some ⟨b,off,none⟩) m cap es x)
  (first|exact H1.drew.all|assumption)
  (first|(go_at_call 89;refine(edges_any L (some ⟨b,off,none⟩) m cap es _ _ g.rising hgl ?_ HM.out).mono ?_;(exact Hold.row' (w:=w) (L:=L) (n:=m) (cap:=cap) (by assumption));rintro e w' ⟨rfl,hbb⟩;have hnx:=Hold.all (Hold.next' (w:=w) (L:=L) (p:=some ⟨b,off,none⟩) (n:=m) (cap:=cap) (es:=es) hbb (by assumption))))
 clear hw1 hw2
 obtain⟨hd0,hd1,H2⟩:=hnx
 have hq1:cnt es fr≤m:=by rw[HM.out];exact cnt_le es fr
 have hq2:=cnt_mono es (show(fr:Int)≤(fr:Int)+n+1 by omega)
 have hq3:cnt es (fr+n+1)≤m:=by rw[HM.out];exact cnt_le es (fr+n+1)
 have hm1:m≤1048577:=by rw[HM.out];exact hgl
 have hq4:=Nat.le_trans hq1 hcap
 have hq5:=Nat.le_trans hq3 hcap
 have hk1:=HX.out;have hk2:=HY.out
 generalize hb1:cnt es fr=b1 at*
 generalize hb2:cnt es (fr+n+1)=b2 at*
 have HB1:=Lib.hid hb1;have HB2:=Lib.hid hb2;clear hb1 hb2
 clear hrow HX HY
 have HL1:Hid ((enc (es.take b1)).length=b1*1):=Lib.hid (by have:=HM.out;simp[enc];omega)
 have HL2:Hid ((enc (es.drop b2)).length=(m-b2)*1):=Lib.hid (by have:=HM.out;simp[enc];omega)
 obtain⟨i0,hi,hz0,hz1,hz2⟩:=info_parts Tryz.info3
 have HQ:Hid (laidE es fr n inn=es.take b1++([]++([fr+n]++es.drop b2))):=Lib.hid (by unfold laidE;rw[HB1.out,HB2.out,hk1,hk2];cases inn<;>rfl)
 by_cases hcb:b2<cap
 · go_wp2_with (first|(at_make;refine wpList_make_own _ rfl _ _ 71 rfl (w.heap.size+2) 3 i0 (.int .i64 0) 1 Tryz.underlying71 hi hz0 hz1 .i64 .i64 _ (m+2) rfl rfl (by omega) (by rw[hz2];omega) (by unfold maxLen;omega) H2.sz ?_;intro w3 hown3 hgrow3;have H3:=H2.grown hgrow3 (fun k e=>by cases e) HRow.out;have f30:=H3.c0;have f31:=H3.c1)|(at_builtin;refine wpList_append_fits_any _ rfl (.tmp 36) (.tmp 40) 71 rfl (w.heap.size+2) 3 i0 1 Tryz.underlying71 hi hz1 w'.heap.size 0 (m+2) _ rfl hown3 _ b1 _ (enc (es.take b1)) rfl HL1.out (by intro h;cases h) (src_take H3.row (by rw[←HM.out];exact hq1)) enc_one (by omega) ?_;intro w4 hown4 hgrow4;simp only[Nat.zero_add,List.nil_append]at hown4;have H4:=H3.grown hgrow4 (fun k e=>by cases e;exact H2.sz) HRow.out;have f40:=H4.c0;have f41:=H4.c1;clear f30 f31)|(at_builtin;refine wpList_append_fits_any _ rfl (.tmp 54) (.tmp 58) 71 rfl (w.heap.size+2) 3 i0 1 Tryz.underlying71 hi hz1 w'.heap.size _ (m+2) _ rfl (hown4.alloc _) _ 1 _ (enc [(fr+n)]) rfl rfl (by intro h;cases h) (one_at _ _ _) enc_one (by omega) ?_;intro w5 hown5 hgrow5;have H5:=(H4.grown (World.grownBy_alloc _ _ none) (fun k e=>by cases e) HRow.out).grown hgrow5 (fun k e=>by cases e;exact H2.sz) HRow.out;have f50:=H5.c0;have f51:=H5.c1;clear f40 f41)|(at_builtin;refine wpList_append_fits_any _ rfl (.tmp 60) (.tmp 64) 71 rfl (w.heap.size+2) 3 i0 1 Tryz.underlying71 hi hz1 w'.heap.size _ (m+2) _ rfl hown5 (some ⟨b,off+b2,none⟩) (m-b2) (cap-b2) (enc (es.drop b2)) rfl HL2.out (by intro h;cases h) (src_drop H5.row (by rw[←HM.out];exact hq3) (fun _=>rfl)) enc_one (by omega) ?_;intro w6 hown6 hgrow6;have H6:=H5.grown hgrow6 (fun k e=>by cases e;exact H2.sz) HRow.out;have f60:=H6.c0;have f61:=H6.c1;have f62:=H6.r0;have f63:=H6.r1;have f64:=H6.fz;have f65:=H6.fz1;clear f50 f51)|(go_at_call 90;refine(inside_any _ (by omega) _).mono ?_;rintro e w8 ⟨rfl,rfl⟩))
   exact bodyPost_ret (v:=.tuple #[.agg #[.int .i64 L,.slice (some ⟨w'.heap.size,0,none⟩) (b1+1+(m-b2)) (m+2)],.int .i64 0]) (by simp[results,Tryz.results49,go_sem,(two_set f62 f63 (.int .i64 L) (.slice (some ⟨w'.heap.size,0,none⟩) (b1+1+(m-b2)) (m+2))).1,(two_set f62 f63 (.int .i64 L) (.slice (some ⟨w'.heap.size,0,none⟩) (b1+1+(m-b2)) (m+2))).2]) rfl
    (laid_close (by have e:enc (es.take b1)++enc [fr+n]++enc (es.drop b2)=enc (laidE es fr n inn):=(by rw[HQ.out];simp[enc]);rw[e]at hown6;exact hown6) (by rw[HQ.out];have:=HM.out;simp;omega) (by omega) H6 H2.sz HW.out HE.out)
 · have HNe:Hid (¬b2<es.length):=Lib.hid (by have:=HM.out;omega)
   go_wp2_with (first|(at_make;refine wpList_make_own _ rfl _ _ 71 rfl (w.heap.size+2) 3 i0 (.int .i64 0) 1 Tryz.underlying71 hi hz0 hz1 .i64 .i64 _ (m+2) rfl rfl (by omega) (by rw[hz2];omega) (by unfold maxLen;omega) H2.sz ?_;intro w3 hown3 hgrow3;have H3:=H2.grown hgrow3 (fun k e=>by cases e) HRow.out;have f30:=H3.c0;have f31:=H3.c1)|(at_builtin;refine wpList_append_fits_any _ rfl (.tmp 36) (.tmp 40) 71 rfl (w.heap.size+2) 3 i0 1 Tryz.underlying71 hi hz1 w'.heap.size 0 (m+2) _ rfl hown3 _ b1 _ (enc (es.take b1)) rfl HL1.out (by intro h;cases h) (src_take H3.row (by rw[←HM.out];exact hq1)) enc_one (by omega) ?_;intro w4 hown4 hgrow4;simp only[Nat.zero_add,List.nil_append]at hown4;have H4:=H3.grown hgrow4 (fun k e=>by cases e;exact H2.sz) HRow.out;have f40:=H4.c0;have f41:=H4.c1;clear f30 f31)|(at_builtin;refine wpList_append_fits_any _ rfl (.tmp 54) (.tmp 58) 71 rfl (w.heap.size+2) 3 i0 1 Tryz.underlying71 hi hz1 w'.heap.size _ (m+2) _ rfl (hown4.alloc _) _ 1 _ (enc [(fr+n)]) rfl rfl (by intro h;cases h) (one_at _ _ _) enc_one (by omega) ?_;intro w5 hown5 hgrow5;have H5:=(H4.grown (World.grownBy_alloc _ _ none) (fun k e=>by cases e) HRow.out).grown hgrow5 (fun k e=>by cases e;exact H2.sz) HRow.out;have f50:=H5.c0;have f51:=H5.c1;clear f40 f41)|(at_builtin;refine wpList_append_fits_any _ rfl (.tmp 60) (.tmp 64) 71 rfl (w.heap.size+2) 3 i0 1 Tryz.underlying71 hi hz1 w'.heap.size _ (m+2) _ rfl hown5 (some ⟨b,off,none⟩) (m-b2) (cap-b2) (enc (es.drop b2)) rfl HL2.out (by intro h;cases h) (src_drop H5.row (by rw[←HM.out];exact hq3) (fun h=>absurd h HNe.out)) enc_one (by omega) ?_;intro w6 hown6 hgrow6;have H6:=H5.grown hgrow6 (fun k e=>by cases e;exact H2.sz) HRow.out;have f60:=H6.c0;have f61:=H6.c1;have f62:=H6.r0;have f63:=H6.r1;have f64:=H6.fz;have f65:=H6.fz1;clear f50 f51)|(go_at_call 90;refine(inside_any _ (by omega) _).mono ?_;rintro e w8 ⟨rfl,rfl⟩))
   exact bodyPost_ret (v:=.tuple #[.agg #[.int .i64 L,.slice (some ⟨w'.heap.size,0,none⟩) (b1+1+(m-b2)) (m+2)],.int .i64 0]) (by simp[results,Tryz.results49,go_sem,(two_set f62 f63 (.int .i64 L) (.slice (some ⟨w'.heap.size,0,none⟩) (b1+1+(m-b2)) (m+2))).1,(two_set f62 f63 (.int .i64 L) (.slice (some ⟨w'.heap.size,0,none⟩) (b1+1+(m-b2)) (m+2))).2]) rfl
    (laid_close (by have e:enc (es.take b1)++enc [fr+n]++enc (es.drop b2)=enc (laidE es fr n inn):=(by rw[HQ.out];simp[enc]);rw[e]at hown6;exact hown6) (by rw[HQ.out];have:=HM.out;simp;omega) (by omega) H6 H2.sz HW.out HE.out)
set_option maxHeartbeats 1000000 in
theorem laid_ff (L:Nat) (b off:Nat) (m cap:Nat) (es:List Nat) (fr n:Nat) (inn:Bool) (w:World) (g:Good L es) (hrow:RowAt w (some ⟨b,off,none⟩) es) (hm:m=es.length) (hcap:m≤cap)
 (hn0:0<n) (hnL:fr+n≤L) (hk1:insB (cnt es fr)=inn) (hk2:insB (cnt es (fr+n+1))=inn):
 Calls Tryz.prog 49 #[.agg #[.int .i64 L,.slice (some ⟨b,off,none⟩) m cap],.int .i64 fr,.int .i64 n,.bool inn] w (LaidPost L (some ⟨b,off,none⟩) es fr n inn w):=by
 have hL:=g.small
 have hgl:=good_len g
 have HM:=Lib.hid hm;clear hm
 have HW:Hid (withinB L fr n=true):=Lib.hid (by unfold withinB;simp;omega)
 have HE:Hid (laidS L es fr n inn=laidE es fr n inn):=Lib.hid (by unfold laidS;rw[HW.out,decide_eq_true (by omega)];simp)
 have HX:=Lib.hid hk1;have HY:=Lib.hid hk2;clear hk1 hk2
 have HRow:=Lib.hid hrow
 have hnz:((n:Int)==0)=false:=beq_eq_false_iff_ne.2 (by omega)
 go_enter Tryz.func49,Tryz.ntmps49
 go_wp2_with fail
 refine(within_any L hL (some ⟨b,off,none⟩) m cap _ _ (by omega) _).mono ?_
 rw[HW.out]
 rintro e w1 ⟨rfl,hb⟩
 have H1:Hold w L (some ⟨b,off,none⟩) m cap es w1:=by
  refine Hold.next (x:=(w.alloc (.cells #[.int .i64 L,.slice (some ⟨b,off,none⟩) m cap] 73)).alloc (.cells #[.int .i64 0,.slice none 0 0] 73)) ?_ (hb.mono (by simp))
  refine⟨by simp,by simp,by simp,by simp,by simp,by simp,by simp,((Below.refl _ _).alloc (Nat.le_refl _) _).alloc (by simp) _,?_⟩
  exact(hrow.below ((Below.refl _ _).alloc (Nat.le_refl _) _)).below ((Below.refl _ _).alloc (by simp) _)
 have hc0:=H1.c0
 have hc1:=H1.c1
 go_wp2_with fail
 have hw1:IntKind.i64.wrap ((fr:Int)+n)=fr+n:=IntWalk.i64_in _ (by omega)
 have hw2:IntKind.i64.wrap ((fr:Int)+n+1)=fr+n+1:=IntWalk.i64_in _ (by omega)
 go_region_held3 (fun x=>x.cell? ⟨w.heap.size,0,none⟩=some (.int .i64 (L:Int))∧x.cell? ⟨w.heap.size,1,none⟩=some (.slice (some ⟨b,off,none⟩) m cap)∧Hold w L (some ⟨b,off,none⟩) m cap es x)
  (first|exact H1.drew.all|assumption)
  (first|(go_at_call 89;refine(edges_any L (some ⟨b,off,none⟩) m cap es _ _ g.rising hgl ?_ HM.out).mono ?_;(exact Hold.row' (w:=w) (L:=L) (n:=m) (cap:=cap) (by assumption));rintro e w' ⟨rfl,hbb⟩;have hnx:=Hold.all (Hold.next' (w:=w) (L:=L) (p:=some ⟨b,off,none⟩) (n:=m) (cap:=cap) (es:=es) hbb (by assumption))))
 clear hw1 hw2
 obtain⟨hd0,hd1,H2⟩:=hnx
 have hq1:cnt es fr≤m:=by rw[HM.out];exact cnt_le es fr
 have hq2:=cnt_mono es (show(fr:Int)≤(fr:Int)+n+1 by omega)
 have hq3:cnt es (fr+n+1)≤m:=by rw[HM.out];exact cnt_le es (fr+n+1)
 have hm1:m≤1048577:=by rw[HM.out];exact hgl
 have hq4:=Nat.le_trans hq1 hcap
 have hq5:=Nat.le_trans hq3 hcap
 have hk1:=HX.out;have hk2:=HY.out
 generalize hb1:cnt es fr=b1 at*
 generalize hb2:cnt es (fr+n+1)=b2 at*
 have HB1:=Lib.hid hb1;have HB2:=Lib.hid hb2;clear hb1 hb2
 clear hrow HX HY
 have HL1:Hid ((enc (es.take b1)).length=b1*1):=Lib.hid (by have:=HM.out;simp[enc];omega)
 have HL2:Hid ((enc (es.drop b2)).length=(m-b2)*1):=Lib.hid (by have:=HM.out;simp[enc];omega)
 obtain⟨i0,hi,hz0,hz1,hz2⟩:=info_parts Tryz.info3
 have HQ:Hid (laidE es fr n inn=es.take b1++([]++([]++es.drop b2))):=Lib.hid (by unfold laidE;rw[HB1.out,HB2.out,hk1,hk2];cases inn<;>rfl)
 by_cases hcb:b2<cap
 · go_wp2_with (first|(at_make;refine wpList_make_own _ rfl _ _ 71 rfl (w.heap.size+2) 3 i0 (.int .i64 0) 1 Tryz.underlying71 hi hz0 hz1 .i64 .i64 _ (m+2) rfl rfl (by omega) (by rw[hz2];omega) (by unfold maxLen;omega) H2.sz ?_;intro w3 hown3 hgrow3;have H3:=H2.grown hgrow3 (fun k e=>by cases e) HRow.out;have f30:=H3.c0;have f31:=H3.c1)|(at_builtin;refine wpList_append_fits_any _ rfl (.tmp 36) (.tmp 40) 71 rfl (w.heap.size+2) 3 i0 1 Tryz.underlying71 hi hz1 w'.heap.size 0 (m+2) _ rfl hown3 _ b1 _ (enc (es.take b1)) rfl HL1.out (by intro h;cases h) (src_take H3.row (by rw[←HM.out];exact hq1)) enc_one (by omega) ?_;intro w4 hown4 hgrow4;simp only[Nat.zero_add,List.nil_append]at hown4;have H4:=H3.grown hgrow4 (fun k e=>by cases e;exact H2.sz) HRow.out;have f40:=H4.c0;have f41:=H4.c1;clear f30 f31)|(at_builtin;refine wpList_append_fits_any _ rfl (.tmp 60) (.tmp 64) 71 rfl (w.heap.size+2) 3 i0 1 Tryz.underlying71 hi hz1 w'.heap.size _ (m+2) _ rfl hown4 (some ⟨b,off+b2,none⟩) (m-b2) (cap-b2) (enc (es.drop b2)) rfl HL2.out (by intro h;cases h) (src_drop H4.row (by rw[←HM.out];exact hq3) (fun _=>rfl)) enc_one (by omega) ?_;intro w5 hown5 hgrow5;have H5:=H4.grown hgrow5 (fun k e=>by cases e;exact H2.sz) HRow.out;have f50:=H5.c0;have f51:=H5.c1;have f52:=H5.r0;have f53:=H5.r1;have f54:=H5.fz;have f55:=H5.fz1;clear f40 f41)|(go_at_call 90;refine(inside_any _ (by omega) _).mono ?_;rintro e w8 ⟨rfl,rfl⟩))
   exact bodyPost_ret (v:=.tuple #[.agg #[.int .i64 L,.slice (some ⟨w'.heap.size,0,none⟩) (b1+(m-b2)) (m+2)],.int .i64 0]) (by simp[results,Tryz.results49,go_sem,(two_set f52 f53 (.int .i64 L) (.slice (some ⟨w'.heap.size,0,none⟩) (b1+(m-b2)) (m+2))).1,(two_set f52 f53 (.int .i64 L) (.slice (some ⟨w'.heap.size,0,none⟩) (b1+(m-b2)) (m+2))).2]) rfl
    (laid_close (by have e:enc (es.take b1)++enc (es.drop b2)=enc (laidE es fr n inn):=(by rw[HQ.out];simp[enc]);rw[e]at hown5;exact hown5) (by rw[HQ.out];have:=HM.out;simp;omega) (by omega) H5 H2.sz HW.out HE.out)
 · have HNe:Hid (¬b2<es.length):=Lib.hid (by have:=HM.out;omega)
   go_wp2_with (first|(at_make;refine wpList_make_own _ rfl _ _ 71 rfl (w.heap.size+2) 3 i0 (.int .i64 0) 1 Tryz.underlying71 hi hz0 hz1 .i64 .i64 _ (m+2) rfl rfl (by omega) (by rw[hz2];omega) (by unfold maxLen;omega) H2.sz ?_;intro w3 hown3 hgrow3;have H3:=H2.grown hgrow3 (fun k e=>by cases e) HRow.out;have f30:=H3.c0;have f31:=H3.c1)|(at_builtin;refine wpList_append_fits_any _ rfl (.tmp 36) (.tmp 40) 71 rfl (w.heap.size+2) 3 i0 1 Tryz.underlying71 hi hz1 w'.heap.size 0 (m+2) _ rfl hown3 _ b1 _ (enc (es.take b1)) rfl HL1.out (by intro h;cases h) (src_take H3.row (by rw[←HM.out];exact hq1)) enc_one (by omega) ?_;intro w4 hown4 hgrow4;simp only[Nat.zero_add,List.nil_append]at hown4;have H4:=H3.grown hgrow4 (fun k e=>by cases e;exact H2.sz) HRow.out;have f40:=H4.c0;have f41:=H4.c1;clear f30 f31)|(at_builtin;refine wpList_append_fits_any _ rfl (.tmp 60) (.tmp 64) 71 rfl (w.heap.size+2) 3 i0 1 Tryz.underlying71 hi hz1 w'.heap.size _ (m+2) _ rfl hown4 (some ⟨b,off,none⟩) (m-b2) (cap-b2) (enc (es.drop b2)) rfl HL2.out (by intro h;cases h) (src_drop H4.row (by rw[←HM.out];exact hq3) (fun h=>absurd h HNe.out)) enc_one (by omega) ?_;intro w5 hown5 hgrow5;have H5:=H4.grown hgrow5 (fun k e=>by cases e;exact H2.sz) HRow.out;have f50:=H5.c0;have f51:=H5.c1;have f52:=H5.r0;have f53:=H5.r1;have f54:=H5.fz;have f55:=H5.fz1;clear f40 f41)|(go_at_call 90;refine(inside_any _ (by omega) _).mono ?_;rintro e w8 ⟨rfl,rfl⟩))
   exact bodyPost_ret (v:=.tuple #[.agg #[.int .i64 L,.slice (some ⟨w'.heap.size,0,none⟩) (b1+(m-b2)) (m+2)],.int .i64 0]) (by simp[results,Tryz.results49,go_sem,(two_set f52 f53 (.int .i64 L) (.slice (some ⟨w'.heap.size,0,none⟩) (b1+(m-b2)) (m+2))).1,(two_set f52 f53 (.int .i64 L) (.slice (some ⟨w'.heap.size,0,none⟩) (b1+(m-b2)) (m+2))).2]) rfl
    (laid_close (by have e:enc (es.take b1)++enc (es.drop b2)=enc (laidE es fr n inn):=(by rw[HQ.out];simp[enc]);rw[e]at hown5;exact hown5) (by rw[HQ.out];have:=HM.out;simp;omega) (by omega) H5 H2.sz HW.out HE.out)
end Go.Proofs.YtpkaehpllldcmaaGreatDoor.Bt
