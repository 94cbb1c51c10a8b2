/- BitsWalksE, BitsWalksF, StillIn. -/
import Derived.Test.YtpkaehpllldcmaaGreatDoorMoC
import Derived.StillTail
import Derived.StillTailTactics
import Derived.OrdersIn
import Derived.TacticsIn
import Derived.ControlIn
import Derived.RangeFuncCalls
import Derived.WalkKit
section
namespace Go.Proofs.YtpkaehpllldcmaaGreatDoor.Bt
open Go Go.RowKit
theorem edges_nil (L:Nat) (x:Int) (w:World):
 Calls Tryz.prog 89 #[.agg #[.int .i64 L,.slice none 0 0],.int .i64 x] w fun e w'=>e=.returned (.int .i64 0)∧Below w.heap.size w w':=
 edges_any L none 0 0 [] x w List.Pairwise.nil (by simp) (.inl ⟨rfl,rfl⟩) rfl
set_option maxHeartbeats 1000000 in
theorem laid_nil_t (L:Nat) (fr n:Nat) (w:World) (g:Good L []) (hn0:0<n) (hnL:fr+n≤L):
 Calls Tryz.prog 49 #[.agg #[.int .i64 L,.slice none 0 0],.int .i64 fr,.int .i64 n,.bool true] w (LaidPost L none [] fr n true w):=by
 have hL:=g.small
 have hgl:=good_len g
 have HW:Hid (withinB L fr n=true):=Lib.hid (by unfold withinB;simp;omega)
 have HE:Hid (laidS L [] fr n true=laidE [] fr n true):=Lib.hid (by unfold laidS;rw[HW.out,decide_eq_true (by omega)];simp)
 have HRow:Hid (RowAt w none []):=Lib.hid (.inl ⟨rfl,rfl⟩)
 have hnz:((n:Int)==0)=false:=beq_eq_false_iff_ne.2 (by omega)
 go_enter Tryz.func49,Tryz.ntmps49
 go_wp2_with fail
 refine(within_any L hL none 0 0 _ _ (by omega) _).mono ?_
 rw[HW.out]
 rintro e w1 ⟨rfl,hb⟩
 have H1:Hold w L none 0 0 [] w1:=by
  refine Hold.next (x:=(w.alloc (.cells #[.int .i64 L,.slice none 0 0] 73)).alloc (.cells #[.int .i64 0,.slice none 0 0] 73)) ?_ (hb.mono (by simp))
  refine⟨by simp,by simp,by simp,by simp,by simp,by simp,by simp,((Below.refl _ _).alloc (Nat.le_refl _) _).alloc (by simp) _,?_⟩
  exact(HRow.out.below ((Below.refl _ _).alloc (Nat.le_refl _) _)).below ((Below.refl _ _).alloc (by simp) _)
 have hc0:=H1.c0
 have hc1:=H1.c1
 go_wp2_with fail
 have hw1:IntKind.i64.wrap ((fr:Int)+n)=fr+n:=IntWalk.i64_in _ (by omega)
 have hw2:IntKind.i64.wrap ((fr:Int)+n+1)=fr+n+1:=IntWalk.i64_in _ (by omega)
 go_region_held3 (fun x=>x.cell? ⟨w.heap.size,0,none⟩=some (.int .i64 (L:Int))∧x.cell? ⟨w.heap.size,1,none⟩=some (.slice none 0 0)∧Hold w L none 0 0 [] x)
  (first|exact H1.drew.all|assumption)
  (first|(go_at_call 89;refine(edges_nil L _ _).mono ?_;rintro e w' ⟨rfl,hbb⟩;have hnx:=Hold.all (Hold.next' (w:=w) (L:=L) (p:=none) (n:=0) (cap:=0) (es:=[]) hbb (by assumption))))
 clear hw1 hw2
 obtain⟨hd0,hd1,H2⟩:=hnx
 have i1:insB 0=false:=rfl
 have HQ:Hid (laidE [] fr n true=[fr,fr+n]):=Lib.hid (by unfold laidE;rw[cnt_nil,cnt_nil,i1];rfl)
 obtain⟨i0,hi,hz0,hz1,hz2⟩:=info_parts Tryz.info3
 go_wp2_with (first|(at_make;refine wpList_make_own _ rfl _ _ 71 rfl (w.heap.size+2) 3 i0 (.int .i64 0) 1 Tryz.underlying71 hi hz0 hz1 .i64 .i64 _ 2 rfl rfl rfl (by rw[hz2];omega) (by unfold maxLen;omega) H2.sz ?_;intro w3 hown3 hgrow3;have H3:=H2.grown hgrow3 (fun k e=>by cases e) HRow.out;have f30:=H3.c0;have f31:=H3.c1)|(at_builtin;refine wpList_append_fits_any _ rfl (.tmp 36) (.tmp 40) 71 rfl (w.heap.size+2) 3 i0 1 Tryz.underlying71 hi hz1 w'.heap.size 0 2 _ rfl hown3 none 0 0 [] rfl rfl (fun _=>⟨rfl,rfl⟩) (fun ad h=>by cases h) (fun u h=>by cases h) (by omega) ?_;intro w4 hown4 hgrow4;(try simp only[Nat.zero_add,List.nil_append]at hown4);have H4:=H3.grown hgrow4 (fun k e=>by cases e;exact H2.sz) HRow.out;have f40:=H4.c0;have f41:=H4.c1;clear f30 f31)|(at_builtin;refine wpList_append_fits_any _ rfl (.tmp 46) (.tmp 48) 71 rfl (w.heap.size+2) 3 i0 1 Tryz.underlying71 hi hz1 w'.heap.size 0 2 _ rfl (hown4.alloc _) _ 1 _ (enc [fr]) rfl rfl (by intro h;cases h) (one_at _ _ _) enc_one (by omega) ?_;intro w5 hown5 hgrow5;(try simp only[Nat.zero_add,List.nil_append]at hown5);have H5:=(H4.grown (World.grownBy_alloc _ _ none) (fun k e=>by cases e) HRow.out).grown hgrow5 (fun k e=>by cases e;exact H2.sz) HRow.out;have f50:=H5.c0;have f51:=H5.c1;clear f40 f41)|(at_builtin;refine wpList_append_fits_any _ rfl (.tmp 54) (.tmp 58) 71 rfl (w.heap.size+2) 3 i0 1 Tryz.underlying71 hi hz1 w'.heap.size 1 2 _ rfl (hown5.alloc _) _ 1 _ (enc [(fr+n)]) rfl rfl (by intro h;cases h) (one_at _ _ _) enc_one (by omega) ?_;intro w6 hown6 hgrow6;(try simp only[Nat.zero_add,List.nil_append]at hown6);have H6:=(H5.grown (World.grownBy_alloc _ _ none) (fun k e=>by cases e) HRow.out).grown hgrow6 (fun k e=>by cases e;exact H2.sz) HRow.out;have f60:=H6.c0;have f61:=H6.c1;clear f50 f51)|(at_builtin;refine wpList_append_fits_any _ rfl (.tmp 60) (.tmp 64) 71 rfl (w.heap.size+2) 3 i0 1 Tryz.underlying71 hi hz1 w'.heap.size 2 2 _ rfl hown6 none 0 0 [] rfl rfl (fun _=>⟨rfl,rfl⟩) (fun ad h=>by cases h) (fun u h=>by cases h) (by omega) ?_;intro w7 hown7 hgrow7;(try simp only[Nat.add_zero,List.append_nil]at hown7);have H7:=H6.grown hgrow7 (fun k e=>by cases e;exact H2.sz) HRow.out;have f70:=H7.c0;have f71:=H7.c1;have f72:=H7.r0;have f73:=H7.r1;have f74:=H7.fz;have f75:=H7.fz1;clear f60 f61)|(go_at_call 90;refine(inside_any 0 (by omega) _).mono ?_;rw[i1];rintro e w8 ⟨rfl,rfl⟩))
 exact bodyPost_ret (v:=.tuple #[.agg #[.int .i64 L,.slice (some ⟨w'.heap.size,0,none⟩) 2 2],.int .i64 0]) (by simp[results,Tryz.results49,go_sem,(two_set f72 f73 (.int .i64 L) (.slice (some ⟨w'.heap.size,0,none⟩) 2 2)).1,(two_set f72 f73 (.int .i64 L) (.slice (some ⟨w'.heap.size,0,none⟩) 2 2)).2]) rfl
  (laid_close (m:=0) (k:=2) (by have e:=HQ.out;rw[e];exact hown7) (by rw[HQ.out];rfl) (by omega) H7 H2.sz HW.out HE.out)
set_option maxHeartbeats 1000000 in
theorem laid_nil_f (L:Nat) (fr n:Nat) (w:World) (g:Good L []) (hn0:0<n) (hnL:fr+n≤L):
 Calls Tryz.prog 49 #[.agg #[.int .i64 L,.slice none 0 0],.int .i64 fr,.int .i64 n,.bool false] w (LaidPost L none [] fr n false w):=by
 have hL:=g.small
 have hgl:=good_len g
 have HW:Hid (withinB L fr n=true):=Lib.hid (by unfold withinB;simp;omega)
 have HE:Hid (laidS L [] fr n false=laidE [] fr n false):=Lib.hid (by unfold laidS;rw[HW.out,decide_eq_true (by omega)];simp)
 have HRow:Hid (RowAt w none []):=Lib.hid (.inl ⟨rfl,rfl⟩)
 have hnz:((n:Int)==0)=false:=beq_eq_false_iff_ne.2 (by omega)
 go_enter Tryz.func49,Tryz.ntmps49
 go_wp2_with fail
 refine(within_any L hL none 0 0 _ _ (by omega) _).mono ?_
 rw[HW.out]
 rintro e w1 ⟨rfl,hb⟩
 have H1:Hold w L none 0 0 [] w1:=by
  refine Hold.next (x:=(w.alloc (.cells #[.int .i64 L,.slice none 0 0] 73)).alloc (.cells #[.int .i64 0,.slice none 0 0] 73)) ?_ (hb.mono (by simp))
  refine⟨by simp,by simp,by simp,by simp,by simp,by simp,by simp,((Below.refl _ _).alloc (Nat.le_refl _) _).alloc (by simp) _,?_⟩
  exact(HRow.out.below ((Below.refl _ _).alloc (Nat.le_refl _) _)).below ((Below.refl _ _).alloc (by simp) _)
 have hc0:=H1.c0
 have hc1:=H1.c1
 go_wp2_with fail
 have hw1:IntKind.i64.wrap ((fr:Int)+n)=fr+n:=IntWalk.i64_in _ (by omega)
 have hw2:IntKind.i64.wrap ((fr:Int)+n+1)=fr+n+1:=IntWalk.i64_in _ (by omega)
 go_region_held3 (fun x=>x.cell? ⟨w.heap.size,0,none⟩=some (.int .i64 (L:Int))∧x.cell? ⟨w.heap.size,1,none⟩=some (.slice none 0 0)∧Hold w L none 0 0 [] x)
  (first|exact H1.drew.all|assumption)
  (first|(go_at_call 89;refine(edges_nil L _ _).mono ?_;rintro e w' ⟨rfl,hbb⟩;have hnx:=Hold.all (Hold.next' (w:=w) (L:=L) (p:=none) (n:=0) (cap:=0) (es:=[]) hbb (by assumption))))
 clear hw1 hw2
 obtain⟨hd0,hd1,H2⟩:=hnx
 have i1:insB 0=false:=rfl
 have HQ:Hid (laidE [] fr n false=[]):=Lib.hid (by unfold laidE;rw[cnt_nil,cnt_nil,i1];rfl)
 obtain⟨i0,hi,hz0,hz1,hz2⟩:=info_parts Tryz.info3
 go_wp2_with (first|(at_make;refine wpList_make_own _ rfl _ _ 71 rfl (w.heap.size+2) 3 i0 (.int .i64 0) 1 Tryz.underlying71 hi hz0 hz1 .i64 .i64 _ 2 rfl rfl rfl (by rw[hz2];omega) (by unfold maxLen;omega) H2.sz ?_;intro w3 hown3 hgrow3;have H3:=H2.grown hgrow3 (fun k e=>by cases e) HRow.out;have f30:=H3.c0;have f31:=H3.c1)|(at_builtin;refine wpList_append_fits_any _ rfl (.tmp 36) (.tmp 40) 71 rfl (w.heap.size+2) 3 i0 1 Tryz.underlying71 hi hz1 w'.heap.size 0 2 _ rfl hown3 none 0 0 [] rfl rfl (fun _=>⟨rfl,rfl⟩) (fun ad h=>by cases h) (fun u h=>by cases h) (by omega) ?_;intro w4 hown4 hgrow4;(try simp only[Nat.zero_add,List.nil_append]at hown4);have H4:=H3.grown hgrow4 (fun k e=>by cases e;exact H2.sz) HRow.out;have f40:=H4.c0;have f41:=H4.c1;clear f30 f31)|(at_builtin;refine wpList_append_fits_any _ rfl (.tmp 60) (.tmp 64) 71 rfl (w.heap.size+2) 3 i0 1 Tryz.underlying71 hi hz1 w'.heap.size 0 2 _ rfl hown4 none 0 0 [] rfl rfl (fun _=>⟨rfl,rfl⟩) (fun ad h=>by cases h) (fun u h=>by cases h) (by omega) ?_;intro w5 hown5 hgrow5;(try simp only[Nat.add_zero,List.append_nil]at hown5);have H5:=H4.grown hgrow5 (fun k e=>by cases e;exact H2.sz) HRow.out;have f50:=H5.c0;have f51:=H5.c1;have f52:=H5.r0;have f53:=H5.r1;have f54:=H5.fz;have f55:=H5.fz1;clear f40 f41)|(go_at_call 90;refine(inside_any 0 (by omega) _).mono ?_;rw[i1];rintro e w8 ⟨rfl,rfl⟩))
 exact bodyPost_ret (v:=.tuple #[.agg #[.int .i64 L,.slice (some ⟨w'.heap.size,0,none⟩) 0 2],.int .i64 0]) (by simp[results,Tryz.results49,go_sem,(two_set f52 f53 (.int .i64 L) (.slice (some ⟨w'.heap.size,0,none⟩) 0 2)).1,(two_set f52 f53 (.int .i64 L) (.slice (some ⟨w'.heap.size,0,none⟩) 0 2)).2]) rfl
  (laid_close (m:=0) (k:=0) (by have e:=HQ.out;rw[e];exact hown5) (by rw[HQ.out];rfl) (by omega) H5 H2.sz HW.out HE.out)
end Go.Proofs.YtpkaehpllldcmaaGreatDoor.Bt
end
section
namespace Go.Proofs.YtpkaehpllldcmaaGreatDoor.Bt
open Go Go.RowKit
theorem laid_same {L:Nat} {es:List Nat} {fr n:Int} {inn:Bool} (h:withinB L fr n=false∨n=0):laidS L es fr n inn=es:=by
 unfold laidS;rcases h with h|h
 · rw[h];rfl
 · subst h;simp
theorem laid_any (L:Nat) (p:Option Addr) (m cap:Nat) (es:List Nat) (fr n:Int) (inn:Bool) (w:World) (g:Good L es) (hrow:RowAt w p es) (hm:m=es.length) (hcap:m≤cap) (hcn:p=none→cap=0)
 (hf:fr≤9223372036854775807):
 Calls Tryz.prog 49 #[.agg #[.int .i64 L,.slice p m cap],.int .i64 fr,.int .i64 n,.bool inn] w (LaidPost L p es fr n inn w):=by
 have hL:=g.small
 have hgl:=good_len g
 cases hw:withinB L fr n with
 |false=>
  have HS:Hid (laidS L es fr n inn=es):=Lib.hid (laid_same (.inl hw))
  have HE:Hid (laidErr L fr n=3):=Lib.hid (by unfold laidErr;rw[hw];rfl)
  have HW:=Lib.hid hw;clear hw
  have HM:=Lib.hid hm;clear hm
  have HP:=Lib.hid hcn;clear hcn
  go_enter Tryz.func49,Tryz.ntmps49
  go_wp2_with fail
  refine(within_any L hL p m cap _ _ hf _).mono ?_
  rw[HW.out]
  rintro e w1 ⟨rfl,hb⟩
  have H1:Hold w L p m cap es w1:=by
   refine Hold.next (x:=(w.alloc (.cells #[.int .i64 L,.slice p m cap] 73)).alloc (.cells #[.int .i64 0,.slice none 0 0] 73)) ?_ (hb.mono (by simp))
   refine⟨by simp,by simp,by simp,by simp,by simp,by simp,by simp,((Below.refl _ _).alloc (Nat.le_refl _) _).alloc (by simp) _,?_⟩
   exact(hrow.below ((Below.refl _ _).alloc (Nat.le_refl _) _)).below ((Below.refl _ _).alloc (by simp) _)
  have hc0:=H1.c0;have hc1:=H1.c1;have f2:=H1.r0;have f3:=H1.r1;have f4:=H1.fz;have f5:=H1.fz1
  go_wp2_with fail
  exact bodyPost_ret (v:=.tuple #[.agg #[.int .i64 L,.slice p m cap],.int .i64 3]) (by simp[results,Tryz.results49,go_sem,(two_set f2 f3 (.int .i64 L) (.slice p m cap)).1,(two_set f2 f3 (.int .i64 L) (.slice p m cap)).2]) rfl
   ⟨p,m,cap,by rw[HE.out],by rw[HS.out];exact HM.out,hcap,HP.out,by
    rw[HS.out]
    exact hrow.below ((H1.bl.setCell (p:=⟨w.heap.size+1,0,none⟩) (by show _≤w.heap.size+1;omega) _).setCell (p:=⟨w.heap.size+1,1,none⟩) (by show _≤w.heap.size+1;omega) _),.inl rfl,
    (H1.bl.setCell (p:=⟨w.heap.size+1,0,none⟩) (by show _≤w.heap.size+1;omega) _).setCell (p:=⟨w.heap.size+1,1,none⟩) (by show _≤w.heap.size+1;omega) _⟩
 |true=>
  have hwi:0≤fr∧0≤n∧n≤L-fr:=by simpa[withinB]using hw
  by_cases hn:n=0
  · subst hn
    have HS:Hid (laidS L es fr 0 inn=es):=Lib.hid (laid_same (.inr rfl))
    have HE:Hid (laidErr L fr 0=0):=Lib.hid (by unfold laidErr;rw[hw];rfl)
    have HW:=Lib.hid hw;clear hw
    have HM:=Lib.hid hm;clear hm
    have HP:=Lib.hid hcn;clear hcn
    go_enter Tryz.func49,Tryz.ntmps49
    go_wp2_with fail
    refine(within_any L hL p m cap _ _ hf _).mono ?_
    rw[HW.out]
    rintro e w1 ⟨rfl,hb⟩
    have H1:Hold w L p m cap es w1:=by
     refine Hold.next (x:=(w.alloc (.cells #[.int .i64 L,.slice p m cap] 73)).alloc (.cells #[.int .i64 0,.slice none 0 0] 73)) ?_ (hb.mono (by simp))
     refine⟨by simp,by simp,by simp,by simp,by simp,by simp,by simp,((Below.refl _ _).alloc (Nat.le_refl _) _).alloc (by simp) _,?_⟩
     exact(hrow.below ((Below.refl _ _).alloc (Nat.le_refl _) _)).below ((Below.refl _ _).alloc (by simp) _)
    have hc0:=H1.c0;have hc1:=H1.c1;have f2:=H1.r0;have f3:=H1.r1;have f4:=H1.fz;have f5:=H1.fz1
    go_wp2_with fail
    exact bodyPost_ret (v:=.tuple #[.agg #[.int .i64 L,.slice p m cap],.int .i64 0]) (by simp[results,Tryz.results49,go_sem,(two_set f2 f3 (.int .i64 L) (.slice p m cap)).1,(two_set f2 f3 (.int .i64 L) (.slice p m cap)).2]) rfl
     ⟨p,m,cap,by rw[HE.out],by rw[HS.out];exact HM.out,hcap,HP.out,by
      rw[HS.out]
      exact hrow.below ((H1.bl.setCell (p:=⟨w.heap.size+1,0,none⟩) (by show _≤w.heap.size+1;omega) _).setCell (p:=⟨w.heap.size+1,1,none⟩) (by show _≤w.heap.size+1;omega) _),.inl rfl,
      (H1.bl.setCell (p:=⟨w.heap.size+1,0,none⟩) (by show _≤w.heap.size+1;omega) _).setCell (p:=⟨w.heap.size+1,1,none⟩) (by show _≤w.heap.size+1;omega) _⟩
  · obtain⟨f,rfl⟩:=Int.eq_ofNat_of_zero_le hwi.1
    obtain⟨k,rfl⟩:=Int.eq_ofNat_of_zero_le hwi.2.1
    have hk0:0<k:=by omega
    have hfk:f+k≤L:=by omega
    rcases hrow with⟨rfl,rfl⟩|⟨b,off,rfl,hlt,hc⟩
    · obtain rfl:cap=0:=hcn rfl
      obtain rfl:m=0:=hm
      cases inn
      · exact laid_nil_f L f k w g hk0 hfk
      · exact laid_nil_t L f k w g hk0 hfk
    · have hr:RowAt w (some ⟨b,off,none⟩) es:=.inr ⟨b,off,rfl,hlt,hc⟩
      by_cases h1:insB (cnt es f)=inn
      · by_cases h2:insB (cnt es (f+k+1))=inn
        · exact laid_ff L b off m cap es f k inn w g hr hm hcap hk0 hfk h1 h2
        · exact laid_ft L b off m cap es f k inn w g hr hm hcap hk0 hfk h1 (by revert h2;cases insB (cnt es (f+k+1))<;>cases inn<;>simp)
      · by_cases h2:insB (cnt es (f+k+1))=inn
        · exact laid_tf L b off m cap es f k inn w g hr hm hcap hk0 hfk (by revert h1;cases insB (cnt es f)<;>cases inn<;>simp) h2
        · exact laid_tt L b off m cap es f k inn w g hr hm hcap hk0 hfk (by revert h1;cases insB (cnt es f)<;>cases inn<;>simp) (by revert h2;cases insB (cnt es (f+k+1))<;>cases inn<;>simp)
theorem laidS_good {L:Nat} {es:List Nat} (g:Good L es) (fr n:Int) (inn:Bool):Good L (laidS L es fr n inn):=by
 unfold laidS
 by_cases h:(withinB L fr n&&decide (n≠0))=true
 · rw[if_pos h]
   have h':(0≤fr∧0≤n∧n≤L-fr)∧n≠0:=by simpa[withinB]using h
   exact laid_good g (by omega) (by omega) inn
 · rw[if_neg h];exact g
theorem row_set {w w0 w1:World} {p p':Option Addr} {es es':List Nat} {v0 v1:Value} (hrow:RowAt w p es) (hr':RowAt w1 p' es') (ha:p'=p∨∃a,p'=some a∧w0.heap.size≤a.block) (hs:w0.heap.size=w.heap.size+2):
 RowAt ((w1.setCell ⟨w.heap.size+1,0,none⟩ v0).setCell ⟨w.heap.size+1,1,none⟩ v1) p' es':=by
 rcases hr' with h|⟨b,off,rfl,hlt,hc⟩
 · exact .inl h
 · have hne:b≠w.heap.size+1:=by
    rcases ha with h|⟨a,h,h2⟩
    · subst h
      rcases hrow with⟨h,_⟩|⟨b',off',h,hlt',_⟩
      · cases h
      · cases h;omega
    · cases h;have h3:w0.heap.size≤b:=h2;omega
   have he:((w1.setCell ⟨w.heap.size+1,0,none⟩ v0).setCell ⟨w.heap.size+1,1,none⟩ v1).heap[b]?=w1.heap[b]?:=by
    rw[Below.heap_setCell _ ⟨w.heap.size+1,1,none⟩ _ _ (by exact hne),Below.heap_setCell _ ⟨w.heap.size+1,0,none⟩ _ _ (by exact hne)]
   have hl2:b<((w1.setCell ⟨w.heap.size+1,0,none⟩ v0).setCell ⟨w.heap.size+1,1,none⟩ v1).heap.size:=by
    have e:=he;rw[Array.getElem?_eq_getElem hlt]at e;exact(Array.getElem?_eq_some_iff.1 e).1
   refine .inr ⟨b,off,rfl,hl2,fun k hk=>?_⟩
   rw[World.cell?_of_block (w:=w1) (a:=⟨b,off+k,none⟩) he];exact hc k hk
theorem with_any (L:Nat) (p:Option Addr) (m cap:Nat) (es:List Nat) (fr n:Int) (w:World) (g:Good L es) (hrow:RowAt w p es) (hm:m=es.length) (hcap:m≤cap) (hcn:p=none→cap=0)
 (hf:fr≤9223372036854775807):
 Calls Tryz.prog 29 #[.agg #[.int .i64 L,.slice p m cap],.int .i64 fr,.int .i64 n] w (LaidPost L p es fr n true w):=by
 have HM:=Lib.hid hm;have HP:=Lib.hid hcn;clear hm hcn
 go_enter Tryz.func29,Tryz.ntmps29
 go_wp2_with fail
 refine(laid_any L p m cap es _ _ _ _ g ((hrow.below ((Below.refl _ _).alloc (Nat.le_refl _) _)).below ((Below.refl _ _).alloc (by simp) _)) HM.out hcap HP.out hf).mono ?_
 rintro e w1 ⟨p',n',cap',rfl,hn',hc',hp',hr',ha',hb⟩
 have HN:=Lib.hid hn';have HP2:=Lib.hid hp';clear hn' hp'
 have hb2:Below w.heap.size w w1:=(((Below.refl _ _).alloc (Nat.le_refl _) _).alloc (by simp) _).trans (hb.mono (by simp;omega))
 have f2:w1.cell? ⟨w.heap.size+1,0,none⟩=some (.int .i64 0):=by rw[hb.cell (p:=⟨w.heap.size+1,0,none⟩) (by simp)];simp
 have f3:w1.cell? ⟨w.heap.size+1,1,none⟩=some (.slice none 0 0):=by rw[hb.cell (p:=⟨w.heap.size+1,1,none⟩) (by simp)];simp
 have f4:w1.frozen? ⟨w.heap.size+1,0,none⟩=false:=by rw[hb.frozen (p:=⟨w.heap.size+1,0,none⟩) (by simp)];simp
 have f5:w1.frozen? ⟨w.heap.size+1,1,none⟩=false:=by rw[hb.frozen (p:=⟨w.heap.size+1,1,none⟩) (by simp)];simp
 go_wp2_with fail
 have hbf:Below w.heap.size w ((w1.setCell ⟨w.heap.size+1,0,none⟩ (.int .i64 L)).setCell ⟨w.heap.size+1,1,none⟩ (.slice p' n' cap')):=(hb2.setCell (p:=⟨w.heap.size+1,0,none⟩) (by show _≤w.heap.size+1;omega) _).setCell (p:=⟨w.heap.size+1,1,none⟩) (by show _≤w.heap.size+1;omega) _
 exact bodyPost_ret (v:=.tuple #[.agg #[.int .i64 L,.slice p' n' cap'],.int .i64 (laidErr L fr n)]) (by simp[results,Tryz.results29,go_sem,(two_set f2 f3 (.int .i64 L) (.slice p' n' cap')).1,(two_set f2 f3 (.int .i64 L) (.slice p' n' cap')).2]) rfl
  ⟨p',n',cap',rfl,HN.out,hc',HP2.out,row_set hrow hr' ha' (by simp),by rcases ha' with h|⟨a,h,h2⟩;exact .inl h;exact .inr ⟨a,h,by simp at h2;omega⟩,hbf⟩
end Go.Proofs.YtpkaehpllldcmaaGreatDoor.Bt
end
section
namespace Go.Proofs.YtpkaehpllldcmaaGreatDoor
open Go
section
variable {P:Program} {ops:Array Oper} {w:World} {n:Nat} {Q:Exit→Act→World→Prop}
theorem wide_of_stOp {i:Nat} {K:Act→Prop} {K':Act→World→Prop} {a:Act} (h:∀b,K b→K' b w) (hs:stOp P ops w i K a):wpOpIn Fence.wide n P ops Q i K' a w:=by
 unfold stOp at hs
 unfold wpOpIn
 cases ho:ops[i]? with
 |none=>rw[ho]at hs;exact h _ hs
 |some o=>
  rw[ho]at hs
  simp only at hs⊢
  by_cases hw:Region.wanted o (yielded ops a.tmps)=true
  · rw[if_pos hw]at hs⊢
    refine⟨fun _ _=>trivial,?_⟩
    rw[show Fence.wide.round=none from rfl,Oper.semAt_none]
    unfold Oper.still at hs
    generalize (execOp a.eval o).run P w=r at hs
    match r,hs with
    | .ok (.value v) w',⟨hx,hk⟩=>subst hx;exact h _ hk
    | .ok .skip w',⟨hx,hk⟩=>subst hx;exact h _ hk
    | .ok (.enter f args) w',⟨hx,v,hc,hk⟩=>
     subst hx
     exact⟨fun hd=>by simp[Fence.wide]at hd,callsIn_wide.2 (hc.mono fun e w2 ⟨he,hw2⟩=>by subst he;subst hw2;exact h _ hk)⟩
  · rw[if_neg hw]at hs⊢
    exact⟨fun _ _=>trivial,h _ hs⟩
theorem wide_of_head {m g:Nat} {L:Array Bool→Act→Prop} (hL:∀listed b,L listed b→wpAnyIn Fence.wide n P .any ops Q g listed b w):
 ∀(f:Nat) (listed:Array Bool) (b:Act),wpAnyL P .any ops w m L f listed b→wpAnyIn Fence.wide n P .any ops Q (g+f) listed b w:=by
 intro f
 induction f with
 |zero=>intro listed b h;exact hL _ _ h
 |succ f ih=>
  intro listed b h
  refine⟨fun he=>absurd he h.1,fun i hi=>?_⟩
  exact wide_of_stOp (fun c hc=>ih _ c hc) (h.2 i hi).2
theorem wide_of_seq:∀(t:List Oper) (k:Nat) (listed:Array Bool) (b:Act) (x:World),(∀j,t[j]?=ops[k+j]?)→Region.seqB .any ops t.length k listed=true→
 wpListIn Fence.wide n P ops Q t b x→wpAnyIn Fence.wide n P .any ops Q t.length listed b x:=by
 intro t
 induction t with
 |nil=>intro k listed b x _ hB h;exact⟨by simpa[Region.seqB]using hB,h⟩
 |cons o t ih=>
  intro k listed b x ht hB h
  have hk:ops[k]?=some o:=by have:=ht 0;simpa using this.symm
  simp only[List.length_cons,Region.seqB,Bool.and_eq_true,decide_eq_true_eq]at hB
  obtain⟨hB1,hB2⟩:=hB
  refine⟨fun he=>(by rw[hB1]at he;cases he),fun i hi=>?_⟩
  have hik:i=k:=by rw[hB1]at hi;simpa using hi
  subst hik
  have hop:wpOpIn Fence.wide n P ops Q i (wpListIn Fence.wide n P ops Q t) b x:=by unfold wpOpIn;rw[hk];exact h
  refine wpOpIn_mono (fun c y hc=>ih (i+1) _ c y (fun j=>?_) hB2 hc) hop
  have:=ht (j+1)
  rw[List.getElem?_cons_succ]at this
  rw[this];congr 1;omega
theorem wide_still_tail {id:Nat} {a:Act} {l:List Oper} (m:Nat) (hm:P.follows .mixedOrders=true) (hB:Region.lexTailB .any l.toArray m=true)
 (h:wpStill P l.toArray w.drew (fun b=>wpListIn Fence.wide n P l.toArray Q (l.drop m) b w.drew) (l.take m) a):
 (Code.region id l.toArray true).wpIn Fence.wide n P Q a w:=by
 have hB':=hB
 simp only[Region.lexTailB,Bool.and_eq_true,decide_eq_true_eq]at hB'
 obtain⟨⟨⟨⟨c1,c2⟩,c3⟩,c4⟩,c5⟩:=hB'
 have hlt:m<l.length:=by simpa using c2
 have e1:(l.take m).length=m:=by simp;omega
 have e2:(l.drop m).length=l.toArray.size-m:=by simp
 have start:HeadInv .any l.toArray m (Array.replicate l.toArray.size false):=
  ⟨by simp,fun j oj _ hl=>(by rw[getD_replicate_false]at hl;cases hl),fun t _ ht=>getD_in (by simpa using ht) (getD_replicate_false _ _)⟩
 have head:=wpAnyL_lex (md:=.any) (g:=l.toArray.size-m) c1 c3 c4 c2 (l.take m) 0 _ a
  (fun j hj=>by rw[e1]at hj;simp[hj]) (by simpa using e1) start (by rw[e1];exact c5) h
 rw[e1]at head
 refine wpIn_region_any hm ?_
 have all:=wide_of_head (n:=n) (Q:=Q) (g:=l.toArray.size-m) (fun listed b hb=>by
  have:=wide_of_seq (n:=n) (Q:=Q) (l.drop m) m listed b {w with drawn:=w.drawn+1} (fun j=>by simp[List.getElem?_drop]) (by rw[e2];exact hb.1) hb.2
  rwa [e2]at this) m _ a head
 rwa [show l.toArray.size-m+m=l.toArray.size from by omega]at all
def noDefer (ops:Array Oper):Bool:=ops.toList.all fun o=>match o.op with| .defer _=>false|_=>true
theorem noDefer_at {ops:Array Oper} (h:noDefer ops=true) {i:Nat} {o:Oper} (ho:ops[i]?=some o):∀c,o.op≠ .defer c:=by
 intro c hc
 have hm:o∈ops.toList:=by
  obtain⟨h1,h2⟩:=Array.getElem?_eq_some_iff.1 ho
  rw[←h2];simp
 have:=List.all_eq_true.1 h o hm
 rw[hc]at this
 cases this
theorem round_of_stOp {l i:Nat} (hnd:noDefer ops=true) {K:Act→Prop} {K':Act→World→Prop} {a:Act} (h:∀b,K b→K' b w) (hs:stOp P ops w i K a):wpOpIn (Fence.wide.inRound l) n P ops Q i K' a w:=by
 unfold stOp at hs
 unfold wpOpIn
 cases ho:ops[i]? with
 |none=>rw[ho]at hs;exact h _ hs
 |some o=>
  rw[ho]at hs
  simp only at hs⊢
  by_cases hw:Region.wanted o (yielded ops a.tmps)=true
  · rw[if_pos hw]at hs⊢
    refine⟨fun _ _=>trivial,?_⟩
    rw[show(Fence.wide.inRound l).round=some l from rfl,Oper.semAt_some _ _ _ (noDefer_at hnd ho)]
    unfold Oper.still at hs
    generalize (execOp a.eval o).run P w=r at hs
    match r,hs with
    | .ok (.value v) w',⟨hx,hk⟩=>subst hx;exact h _ hk
    | .ok .skip w',⟨hx,hk⟩=>subst hx;exact h _ hk
    | .ok (.enter f args) w',⟨hx,v,hc,hk⟩=>
     subst hx
     exact⟨fun hd=>by simp[Fence.inRound,Fence.wide]at hd,CallsIn.inRound l (callsIn_wide.2 (hc.mono fun e w2 ⟨he,hw2⟩=>by subst he;subst hw2;exact h _ hk))⟩
  · rw[if_neg hw]at hs⊢
    exact⟨fun _ _=>trivial,h _ hs⟩
theorem round_of_head {l m g:Nat} (hnd:noDefer ops=true) {L:Array Bool→Act→Prop} (hL:∀listed b,L listed b→wpAnyIn (Fence.wide.inRound l) n P .any ops Q g listed b w):
 ∀(f:Nat) (listed:Array Bool) (b:Act),wpAnyL P .any ops w m L f listed b→wpAnyIn (Fence.wide.inRound l) n P .any ops Q (g+f) listed b w:=by
 intro f
 induction f with
 |zero=>intro listed b h;exact hL _ _ h
 |succ f ih=>
  intro listed b h
  exact⟨fun he=>absurd he h.1,fun i hi=>round_of_stOp hnd (fun c hc=>ih _ c hc) (h.2 i hi).2⟩
theorem round_of_seq {l:Nat}:∀(t:List Oper) (k:Nat) (listed:Array Bool) (b:Act) (x:World),(∀j,t[j]?=ops[k+j]?)→Region.seqB .any ops t.length k listed=true→
 wpListIn (Fence.wide.inRound l) n P ops Q t b x→wpAnyIn (Fence.wide.inRound l) n P .any ops Q t.length listed b x:=by
 intro t
 induction t with
 |nil=>intro k listed b x _ hB h;exact⟨by simpa[Region.seqB]using hB,h⟩
 |cons o t ih=>
  intro k listed b x ht hB h
  have hk:ops[k]?=some o:=by have:=ht 0;simpa using this.symm
  simp only[List.length_cons,Region.seqB,Bool.and_eq_true,decide_eq_true_eq]at hB
  obtain⟨hB1,hB2⟩:=hB
  refine⟨fun he=>(by rw[hB1]at he;cases he),fun i hi=>?_⟩
  have hik:i=k:=by rw[hB1]at hi;simpa using hi
  subst hik
  have hop:wpOpIn (Fence.wide.inRound l) n P ops Q i (wpListIn (Fence.wide.inRound l) n P ops Q t) b x:=by unfold wpOpIn;rw[hk];exact h
  refine wpOpIn_mono (fun c y hc=>ih (i+1) _ c y (fun j=>?_) hB2 hc) hop
  have:=ht (j+1)
  rw[List.getElem?_cons_succ]at this
  rw[this];congr 1;omega
theorem round_still_tail {id r:Nat} {a:Act} {l:List Oper} (m:Nat) (hm:P.follows .mixedOrders=true) (hB:Region.lexTailB .any l.toArray m=true) (hnd:noDefer l.toArray=true)
 (h:wpStill P l.toArray w.drew (fun b=>wpListIn (Fence.wide.inRound r) n P l.toArray Q (l.drop m) b w.drew) (l.take m) a):
 (Code.region id l.toArray true).wpIn (Fence.wide.inRound r) n P Q a w:=by
 have hB':=hB
 simp only[Region.lexTailB,Bool.and_eq_true,decide_eq_true_eq]at hB'
 obtain⟨⟨⟨⟨c1,c2⟩,c3⟩,c4⟩,c5⟩:=hB'
 have hlt:m<l.length:=by simpa using c2
 have e1:(l.take m).length=m:=by simp;omega
 have e2:(l.drop m).length=l.toArray.size-m:=by simp
 have start:HeadInv .any l.toArray m (Array.replicate l.toArray.size false):=
  ⟨by simp,fun j oj _ hl=>(by rw[getD_replicate_false]at hl;cases hl),fun t _ ht=>getD_in (by simpa using ht) (getD_replicate_false _ _)⟩
 have head:=wpAnyL_lex (md:=.any) (g:=l.toArray.size-m) c1 c3 c4 c2 (l.take m) 0 _ a
  (fun j hj=>by rw[e1]at hj;simp[hj]) (by simpa using e1) start (by rw[e1];exact c5) h
 rw[e1]at head
 refine wpIn_region_any hm ?_
 have all:=round_of_head (n:=n) (Q:=Q) (l:=r) (g:=l.toArray.size-m) hnd (fun listed b hb=>by
  have:=round_of_seq (n:=n) (Q:=Q) (l:=r) (l.drop m) m listed b {w with drawn:=w.drawn+1} (fun j=>by simp[List.getElem?_drop]) (by rw[e2];exact hb.1) hb.2
  rwa [e2]at this) m _ a head
 rwa [show l.toArray.size-m+m=l.toArray.size from by omega]at all
end
end Go.Proofs.YtpkaehpllldcmaaGreatDoor
end
