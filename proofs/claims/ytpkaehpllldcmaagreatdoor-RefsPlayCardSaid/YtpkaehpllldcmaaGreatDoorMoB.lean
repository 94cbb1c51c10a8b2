import Derived.Test.YtpkaehpllldcmaaGreatDoorMoA
import Derived.WalkSmall
namespace Go.Proofs.YtpkaehpllldcmaaGreatDoor.Bt
open Go Go.RowKit
def fI (fr:Int):Int:=if fr<0 then 0 else fr
def firstB (L:Nat) (es:List Nat) (fr:Int) (inn:Bool):Bool:=
 decide (fI fr<L)&&(insB (cnt es (fI fr+1))==inn||(decide (cnt es (fI fr+1)<es.length)&&decide (es.getD (cnt es (fI fr+1)) 0<L)))
def firstV (L:Nat) (es:List Nat) (fr:Int) (inn:Bool):Int:=
 if firstB L es fr inn then(if insB (cnt es (fI fr+1))==inn then fI fr else es.getD (cnt es (fI fr+1)) 0)else 0
theorem first_any (L:Nat) (p:Option Addr) (n cap:Nat) (es:List Nat) (fr:Int) (inn:Bool) (w:World) (g:Good L es) (hrow:RowAt w p es) (hn:n=es.length):
 Calls Tryz.prog 91 #[.agg #[.int .i64 L,.slice p n cap],.int .i64 fr,.bool inn] w fun e w'=>e=.returned (.tuple #[.int .i64 (firstV L es fr inn),.bool (firstB L es fr inn)])∧Below w.heap.size w w':=by
 have hL:=g.small
 have hgl:=good_len g
 obtain⟨f,y,hf0,hff,hcase⟩:∃f y:Int,0≤f∧f=fI fr∧((fr<0∧f=0∧y=1)∨(0≤fr∧f=fr∧y=fr+1)):=by
  by_cases h:fr<0
  · exact⟨0,1,by omega,by unfold fI;rw[if_pos h],.inl ⟨h,rfl,rfl⟩⟩
  · exact⟨fr,fr+1,by omega,by unfold fI;rw[if_neg h],.inr ⟨by omega,rfl,rfl⟩⟩
 have hyf:y=fI fr+1:=by omega
 obtain⟨c,hc⟩:∃c,cnt es y=c:=⟨_,rfl⟩
 have hcl:c≤es.length:=by rw[←hc];exact cnt_le _ _
 have hB0:firstB L es fr inn=(decide (f<L)&&(insB c==inn||(decide (c<es.length)&&decide (es.getD c 0<L)))):=by unfold firstB;rw[←hyf,←hff,hc]
 have hV0:firstV L es fr inn=if firstB L es fr inn then(if insB c==inn then f else es.getD c 0)else 0:=by unfold firstV;rw[←hyf,←hff,hc]
 have HN:=Lib.hid hn
 have HC:=Lib.hid hc
 clear hff hyf hc hn
 by_cases h2:f<L
 · have hrow1:=hrow.below ((Below.refl w.heap.size w).alloc (Nat.le_refl _) (.cells #[.int .i64 L,.slice p n cap] 73))
   cases hi:(insB c==inn)with
   |true=>
    have HB:Hid (firstB L es fr inn=true):=Lib.hid (by rw[hB0,hi];simp[h2])
    have HV:Hid (firstV L es fr inn=f):=Lib.hid (by rw[hV0,HB.out,hi];simp)
    clear hB0 hV0
    rcases hcase with⟨hc,rfl,rfl⟩|⟨hc,rfl,rfl⟩
    all_goals
     go_enter Tryz.func91,Tryz.ntmps91
     go_wp2_with fail
     refine(edges_any L p n cap es _ _ g.rising hgl hrow1 HN.out).mono ?_
     rw[HC.out]
     rintro e w1 ⟨rfl,hb⟩
     have hb2:Below w.heap.size w w1:=((Below.refl _ _).alloc (Nat.le_refl _) _).trans (hb.mono (by simp))
     go_wp2_with fail
     refine(inside_any _ (by omega) _).mono ?_
     rintro e w2 ⟨rfl,rfl⟩
     go_wp2_with fail
     go_ret2
     exact⟨by rw[HB.out,HV.out];rfl,hb2⟩
   |false=>
    by_cases h3:c<es.length
    · obtain⟨v,hv⟩:∃v:Nat,es.getD c 0=v:=⟨_,rfl⟩
      obtain⟨b,off,hp,hlt,hcell⟩:∃b off,p=some ⟨b,off,none⟩∧b<w.heap.size∧w.cell? ⟨b,off+c,none⟩=some (.int .i64 (v:Int)):=by
       rcases hrow with⟨rfl,rfl⟩|⟨b,off,rfl,hlt,hc⟩
       · simp at h3
       · exact⟨b,off,rfl,hlt,by rw[hc c h3,hv]⟩
      subst hp
      have hnl:c<n:=by rw[HN.out];exact h3
      have hn2:n≤1048577:=by rw[HN.out];exact hgl
      by_cases h4:v<L
      · have HB:Hid (firstB L es fr inn=true):=Lib.hid (by rw[hB0,hi,hv];simp[h2,h3,h4])
        have HV:Hid (firstV L es fr inn=v):=Lib.hid (by rw[hV0,HB.out,hi,hv];simp)
        have d1:decide (c<n)=true:=by simpa using hnl
        have d2:decide (v<L)=true:=by simpa using h4
        clear hB0 hV0 hv
        rcases hcase with⟨hc,rfl,rfl⟩|⟨hc,rfl,rfl⟩
        all_goals
         go_enter Tryz.func91,Tryz.ntmps91
         go_wp2_with fail
         refine(edges_any L _ n cap es _ _ g.rising hgl hrow1 HN.out).mono ?_
         rw[HC.out]
         rintro e w1 ⟨rfl,hb⟩
         have hb2:Below w.heap.size w w1:=((Below.refl _ _).alloc (Nat.le_refl _) _).trans (hb.mono (by simp))
         have hbox0:w1.cell? ⟨w.heap.size,0,none⟩=some (.int .i64 L):=by rw[hb.cell (p:=⟨w.heap.size,0,none⟩) (by simp)];simp
         have hbox1:w1.cell? ⟨w.heap.size,1,none⟩=some (.slice (some ⟨b,off,none⟩) n cap):=by rw[hb.cell (p:=⟨w.heap.size,1,none⟩) (by simp)];simp
         have hcell1:w1.cell? ⟨b,off+c,none⟩=some (.int .i64 (v:Int)):=by rw[hb2.cell (p:=⟨b,off+c,none⟩) hlt];exact hcell
         go_wp2_with fail
         refine(inside_any _ (by omega) _).mono ?_
         rintro e w2 ⟨rfl,rfl⟩
         go_wp2_with fail
         go_quiet (fail)
         go_wp2_with fail
         go_ret2
         exact⟨by rw[HB.out,HV.out];rfl,by first|exact hb2|exact below_drewN hb2 _⟩
      · have HB:Hid (firstB L es fr inn=false):=Lib.hid (by rw[hB0,hi,hv];simp[h4])
        have HV:Hid (firstV L es fr inn=0):=Lib.hid (by rw[hV0,HB.out];simp)
        have d1:decide (c<n)=true:=by simpa using hnl
        have d2:decide (v<L)=false:=by simpa using h4
        clear hB0 hV0 hv
        rcases hcase with⟨hc,rfl,rfl⟩|⟨hc,rfl,rfl⟩
        all_goals
         go_enter Tryz.func91,Tryz.ntmps91
         go_wp2_with fail
         refine(edges_any L _ n cap es _ _ g.rising hgl hrow1 HN.out).mono ?_
         rw[HC.out]
         rintro e w1 ⟨rfl,hb⟩
         have hb2:Below w.heap.size w w1:=((Below.refl _ _).alloc (Nat.le_refl _) _).trans (hb.mono (by simp))
         have hbox0:w1.cell? ⟨w.heap.size,0,none⟩=some (.int .i64 L):=by rw[hb.cell (p:=⟨w.heap.size,0,none⟩) (by simp)];simp
         have hbox1:w1.cell? ⟨w.heap.size,1,none⟩=some (.slice (some ⟨b,off,none⟩) n cap):=by rw[hb.cell (p:=⟨w.heap.size,1,none⟩) (by simp)];simp
         have hcell1:w1.cell? ⟨b,off+c,none⟩=some (.int .i64 (v:Int)):=by rw[hb2.cell (p:=⟨b,off+c,none⟩) hlt];exact hcell
         go_wp2_with fail
         refine(inside_any _ (by omega) _).mono ?_
         rintro e w2 ⟨rfl,rfl⟩
         go_wp2_with fail
         go_quiet (fail)
         go_wp2_with fail
         go_ret2
         exact⟨by rw[HB.out,HV.out];rfl,by first|exact hb2|exact below_drewN hb2 _⟩
    · have HB:Hid (firstB L es fr inn=false):=Lib.hid (by rw[hB0,hi];simp[h3])
      have HV:Hid (firstV L es fr inn=0):=Lib.hid (by rw[hV0,HB.out];simp)
      have hnl:n≤c:=by rw[HN.out];omega
      have d1:decide (c<n)=false:=by simpa using hnl
      clear hB0 hV0
      rcases hcase with⟨hc,rfl,rfl⟩|⟨hc,rfl,rfl⟩
      all_goals
       go_enter Tryz.func91,Tryz.ntmps91
       go_wp2_with fail
       refine(edges_any L _ n cap es _ _ g.rising hgl hrow1 HN.out).mono ?_
       rw[HC.out]
       rintro e w1 ⟨rfl,hb⟩
       have hb2:Below w.heap.size w w1:=((Below.refl _ _).alloc (Nat.le_refl _) _).trans (hb.mono (by simp))
       have hbox0:w1.cell? ⟨w.heap.size,0,none⟩=some (.int .i64 L):=by rw[hb.cell (p:=⟨w.heap.size,0,none⟩) (by simp)];simp
       have hbox1:w1.cell? ⟨w.heap.size,1,none⟩=some (.slice p n cap):=by rw[hb.cell (p:=⟨w.heap.size,1,none⟩) (by simp)];simp
       go_wp2_with fail
       refine(inside_any _ (by omega) _).mono ?_
       rintro e w2 ⟨rfl,rfl⟩
       go_wp2_with fail
       go_quiet (fail)
       go_wp2_with fail
       go_ret2
       exact⟨by rw[HB.out,HV.out];rfl,by first|exact hb2|exact below_drewN hb2 _⟩
 · have HB:Hid (firstB L es fr inn=false):=Lib.hid (by rw[hB0];simp[h2])
   have HV:Hid (firstV L es fr inn=0):=Lib.hid (by rw[hV0,HB.out];simp)
   clear hB0 hV0
   rcases hcase with⟨hc,rfl,rfl⟩|⟨hc,rfl,rfl⟩
   · obtain rfl:L=0:=by omega
     go_enter Tryz.func91,Tryz.ntmps91
     go_wp2_with fail
     go_ret2
     exact⟨by rw[HB.out,HV.out];rfl,(Below.refl _ _).alloc (Nat.le_refl _) _⟩
   · go_enter Tryz.func91,Tryz.ntmps91
     go_wp2_with fail
     go_ret2
     exact⟨by rw[HB.out,HV.out];rfl,(Below.refl _ _).alloc (Nat.le_refl _) _⟩
end Go.Proofs.YtpkaehpllldcmaaGreatDoor.Bt
