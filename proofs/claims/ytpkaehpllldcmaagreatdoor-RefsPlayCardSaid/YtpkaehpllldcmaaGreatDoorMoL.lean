/- ArCopy, ArAwake, ArNil, VwA, VwB. -/
import Derived.Test.YtpkaehpllldcmaaGreatDoorMoK
import Derived.Test.YtpkaehpllldcmaaGreatDoorMoI
section
namespace Go.Proofs.YtpkaehpllldcmaaGreatDoor.Bt
open Go Go.RowKit Go.Shelf
set_option linter.unusedVariables false
theorem strL_size (l:List UInt8):(strL l).size=l.length:=rfl
theorem bytes_len (x:ByteArray):x.data.toList.length=x.size:=by rw[Array.length_toList];rfl
section
variable {A P n cap:Nat} {s:ASt} {ps:List (Option Nat)} {p:Option Addr} {w:World}
theorem put_no (h:ArX A s P ps p n cap w) (a:Int) (ha:a≤9223372036854775807) (x:ByteArray) (hx:x.size≤9223372036854775807) (hn:thereE s.L s.es a x.size≠0):
 Calls Tryz.prog 52 #[.pointer (some ⟨A,0,none⟩),.int .i64 a,.string x] w (PutPost A P s ps p a x.data.toList w):=by
 have hb0:(thereE s.L s.es a x.size !=0)=true:=by rw[bne_iff_ne];exact hn
 have HNE:=Lib.hid hn
 have HX:=Lib.hid h
 have HL:=Lib.hid (bytes_len x)
 clear hn h
 go_enter Tryz.func52,Tryz.ntmps52
 go_wp2_with fail
 have B0:Below w.heap.size w ((w.alloc (.cells #[.pointer (some ⟨A,0,none⟩)] 25)).alloc (.cells #[.string x] 9)):=((Below.refl w.heap.size w).alloc (Nat.le_refl _) _).alloc (by simp) _
 refine(there_any (HX.out.below B0) a x.size ha).mono ?_
 rintro e w1 ⟨rfl,hb⟩
 have B1:=B0.trans (hb.mono B0.size)
 clear hb
 go_wp2_with fail
 go_ret
 refine⟨by rw[HL.out];rfl,ps,p,n,cap,?_,Step.of_below B1,fun _ _ _=> .inl rfl⟩
 unfold putS
 rw[HL.out,if_neg HNE.out];exact HX.out.below B1
theorem put_any (h:ArX A s P ps p n cap w) (a:Int) (ha:a≤9223372036854775807) (x:ByteArray) (hx:x.size≤9223372036854775807):
 Calls Tryz.prog 52 #[.pointer (some ⟨A,0,none⟩),.int .i64 a,.string x] w (PutPost A P s ps p a x.data.toList w):=by
 by_cases hn:thereE s.L s.es a x.size=0
 · have ht:thereB s.L s.es a x.size=true:=by
    unfold thereE at hn
    cases hq:thereB s.L s.es a x.size with
    |true=>rfl
    |false=>rw[hq]at hn;cases hn
   obtain⟨t0,t1,t2,t3⟩:=(there_iff h.good a x.size).1 ht
   obtain⟨an,rfl⟩:∃an:Nat,a=an:=⟨a.toNat,by omega⟩
   exact callsIn_wide.1 (put_yes h an x hx hn)
 · exact put_no h a ha x hx hn
def copyE (s:ASt) (to fr k:Int):Int:=if thereE s.L s.es to k≠0 then 3 else if to=fr then 0 else thereE s.L s.es fr k
def copyS (s:ASt) (to fr k:Int):ASt:=if copyE s to fr k=0 then(if to=fr then s else{s with mm:=putM s.mm to.toNat (getM s.mm fr.toNat k.toNat)})else s
theorem thereE_or (L:Nat) (es:List Nat) (a k:Int):thereE L es a k=0∨thereE L es a k=3:=by unfold thereE;split;exact .inl rfl;exact .inr rfl
def CopyPost (A P:Nat) (s:ASt) (ps:List (Option Nat)) (p:Option Addr) (to fr k:Int) (w:World) (e:Ending) (w':World):Prop:=
 e=.returned (.int .i64 (copyE s to fr k))∧Turned A P ps p (copyS s to fr k) w w'
theorem copy_any (h:ArX A s P ps p n cap w) (to fr k:Int) (h1:to≤9223372036854775807) (h2:fr≤9223372036854775807):
 Calls Tryz.prog 30 #[.pointer (some ⟨A,0,none⟩),.int .i64 to,.int .i64 fr,.int .i64 k] w (CopyPost A P s ps p to fr k w):=by
 have HX:=Lib.hid h
 have g:=Lib.hid h.good
 clear h
 rcases thereE_or s.L s.es to k with ht|ht
 · have HT:=Lib.hid ht
   by_cases he:to=fr
   · have HE:Hid (copyE s to fr k=0∧copyS s to fr k=s):=Lib.hid (by
      have:copyE s to fr k=0:=by unfold copyE;rw[if_neg (by rw[ht];simp),if_pos he]
      exact⟨this,by unfold copyS;rw[if_pos this,if_pos he]⟩)
     have hd:(to==fr)=true:=by simpa using he
     have HC:=fun w (hw:ArX A s P ps p n cap w)=>there_any hw to k h1
     clear he ht
     go_enter Tryz.func30,Tryz.ntmps30
     go_wp2_with fail
     refine(HC _ HX.out).mono ?_
     rintro e w1 ⟨rfl,hb⟩
     rw[HT.out]
     clear HC
     go_wp2_with fail
     go_ret
     exact⟨by rw[HE.out.1];rfl,by rw[HE.out.2];exact⟨ps,p,n,cap,HX.out.below hb,Step.of_below hb,fun _ _ _=> .inl rfl⟩⟩
   · have hd:(to==fr)=false:=by simpa using he
     rcases thereE_or s.L s.es fr k with hf|hf
     · have hk:0≤k∧k≤4294967296:=by
        have hb:thereB s.L s.es fr k=true:=by
         unfold thereE at hf
         cases hq:thereB s.L s.es fr k with
         |true=>rfl
         |false=>rw[hq]at hf;cases hf
        obtain⟨t0,t1,t2,_⟩:=(there_iff g.out fr k).1 hb
        have:=g.out.small
        omega
       have hlen:((getM s.mm fr.toNat k.toNat).length:Int)=k:=by rw[getM_length];omega
       have HE:Hid (copyE s to fr k=0∧copyS s to fr k={s with mm:=putM s.mm to.toNat (getM s.mm fr.toNat k.toNat)}∧putS s to (getM s.mm fr.toNat k.toNat)=copyS s to fr k):=Lib.hid (by
        have h0:copyE s to fr k=0:=by unfold copyE;rw[if_neg (by rw[ht];simp),if_neg he,hf]
        have h1:copyS s to fr k={s with mm:=putM s.mm to.toNat (getM s.mm fr.toNat k.toNat)}:=by unfold copyS;rw[if_pos h0,if_neg he]
        exact⟨h0,h1,by rw[h1];unfold putS;rw[hlen,if_pos ht]⟩)
       have HF:=Lib.hid hf
       have HLEN:=Lib.hid hlen
       have HC:=fun w (hw:ArX A s P ps p n cap w)=>there_any hw to k h1
       have HB:=fun w (hw:ArX A s P ps p n cap w)=>bytes_any hw fr k h2
       have HP:=fun w (hw:ArX A s P ps p n cap w)=>put_any hw to h1 (strL (getM s.mm fr.toNat k.toNat)) (by rw[strL_size];omega)
       clear he ht hf hlen
       go_enter Tryz.func30,Tryz.ntmps30
       go_wp2_with fail
       refine(HC _ HX.out).mono ?_
       rintro e w1 ⟨rfl,hb⟩
       rw[HT.out]
       have HX1:=Lib.hid (HX.out.below hb)
       clear HC
       go_wp2_with fail
       refine(HB _ HX1.out).mono ?_
       rintro e w2 ⟨rfl,hb2⟩
       rw[HF.out,if_pos rfl]
       have HX2:=Lib.hid (HX1.out.below hb2)
       clear HB
       generalize hst:strL (getM s.mm fr.toNat k.toNat)=str at*
       have HST:=Lib.hid hst
       clear hst
       go_wp2_with fail
       refine(HP _ HX2.out).mono ?_
       rintro e w3 ⟨rfl,ht3⟩
       have hsl:str.data.toList=getM s.mm fr.toNat k.toNat:=by rw[←HST.out];rfl
       rw[hsl,HLEN.out,HT.out]
       rw[hsl,HE.out.2.2]at ht3
       have HT3:=Lib.hid ht3
       clear ht3 hsl HP
       go_wp2_with fail
       go_ret
       exact⟨by rw[HE.out.1];rfl,Turned.trans (s':=s) (Step.of_below (hb.trans (hb2.mono hb.size))) (fun _ _ _=> .inl rfl) HT3.out⟩
     · have HE:Hid (copyE s to fr k=3∧copyS s to fr k=s):=Lib.hid (by
        have h0:copyE s to fr k=3:=by unfold copyE;rw[if_neg (by rw[ht];simp),if_neg he,hf]
        exact⟨h0,by unfold copyS;rw[h0];rfl⟩)
       have HF:=Lib.hid hf
       have HC:=fun w (hw:ArX A s P ps p n cap w)=>there_any hw to k h1
       have HB:=fun w (hw:ArX A s P ps p n cap w)=>bytes_any hw fr k h2
       clear he ht hf
       go_enter Tryz.func30,Tryz.ntmps30
       go_wp2_with fail
       refine(HC _ HX.out).mono ?_
       rintro e w1 ⟨rfl,hb⟩
       rw[HT.out]
       have HX1:=Lib.hid (HX.out.below hb)
       clear HC
       go_wp2_with fail
       refine(HB _ HX1.out).mono ?_
       rintro e w2 ⟨rfl,hb2⟩
       rw[HF.out,if_neg (by decide)]
       have B2:=hb.trans (hb2.mono hb.size)
       clear HB
       go_wp2_with fail
       go_ret
       exact⟨by rw[HE.out.1];rfl,by rw[HE.out.2];exact⟨ps,p,n,cap,HX.out.below B2,Step.of_below B2,fun _ _ _=> .inl rfl⟩⟩
 · have HT:=Lib.hid ht
   have HE:Hid (copyE s to fr k=3∧copyS s to fr k=s):=Lib.hid (by
    have h0:copyE s to fr k=3:=by unfold copyE;rw[if_pos (by rw[ht];decide)]
    exact⟨h0,by unfold copyS;rw[h0];rfl⟩)
   have HC:=fun w (hw:ArX A s P ps p n cap w)=>there_any hw to k h1
   clear ht
   go_enter Tryz.func30,Tryz.ntmps30
   go_wp2_with fail
   refine(HC _ HX.out).mono ?_
   rintro e w1 ⟨rfl,hb⟩
   rw[HT.out]
   clear HC
   go_wp2_with fail
   go_ret
   exact⟨by rw[HE.out.1];rfl,by rw[HE.out.2];exact⟨ps,p,n,cap,HX.out.below hb,Step.of_below hb,fun _ _ _=> .inl rfl⟩⟩
end
end Go.Proofs.YtpkaehpllldcmaaGreatDoor.Bt
end
section
namespace Go.Proofs.YtpkaehpllldcmaaGreatDoor.Bt
open Go Go.RowKit Go.Shelf
set_option linter.unusedVariables false
end Go.Proofs.YtpkaehpllldcmaaGreatDoor.Bt
end
section
namespace Go.Proofs.YtpkaehpllldcmaaGreatDoor.Bt
open Go Go.RowKit Go.Shelf
set_option linter.unusedVariables false
end Go.Proofs.YtpkaehpllldcmaaGreatDoor.Bt
end
section
namespace Go.Proofs.YtpkaehpllldcmaaGreatDoor.Bt
open Go Go.RowKit Go.Shelf
set_option linter.unusedVariables false
def addrV (va vs:Nat) (a k:Int):Int:=if 0≤a∧0≤k∧k≤(vs:Int)-a then(va:Int)+a else -1
theorem addrV_le {va vs:Nat} (h1:va≤4294967296) (h2:vs≤4294967296) (a k:Int):addrV va vs a k≤9223372036854775807:=by unfold addrV;split<;>omega
theorem address_any (pa:Option Addr) (va vs:Nat) (h1:va≤4294967296) (h2:vs≤4294967296) (a k:Int) (ha:a≤9223372036854775807) (w:World):
 Calls Tryz.prog 93 #[.agg #[.pointer pa,.int .i64 (va:Int),.int .i64 (vs:Int)],.int .i64 a,.int .i64 k] w fun e w'=>e=.returned (.int .i64 (addrV va vs a k))∧Below w.heap.size w w':=by
 by_cases c1:a<0
 · have HR:Hid (addrV va vs a k= -1):=Lib.hid (by unfold addrV;rw[if_neg (by omega)])
   have d1:decide (a<0)=true:=by simpa using c1
   go_enter Tryz.func93,Tryz.ntmps93
   go_wp2_with fail
   go_ret
   exact⟨by rw[HR.out];rfl,(Below.refl _ _).alloc (Nat.le_refl _) _⟩
 have d1:decide (a<0)=false:=by simpa using c1
 by_cases c2:k<0
 · have HR:Hid (addrV va vs a k= -1):=Lib.hid (by unfold addrV;rw[if_neg (by omega)])
   have d2:decide (k<0)=true:=by simpa using c2
   go_enter Tryz.func93,Tryz.ntmps93
   go_wp2_with fail
   go_ret
   exact⟨by rw[HR.out];rfl,(Below.refl _ _).alloc (Nat.le_refl _) _⟩
 have d2:decide (k<0)=false:=by simpa using c2
 by_cases c3:(vs:Int)-a<k
 · have HR:Hid (addrV va vs a k= -1):=Lib.hid (by unfold addrV;rw[if_neg (by omega)])
   have d3:decide ((vs:Int)-a<k)=true:=by simpa using c3
   go_enter Tryz.func93,Tryz.ntmps93
   go_wp2_with fail
   go_ret
   exact⟨by rw[HR.out];rfl,(Below.refl _ _).alloc (Nat.le_refl _) _⟩
 · have HR:Hid (addrV va vs a k=(va:Int)+a):=Lib.hid (by unfold addrV;rw[if_pos (by omega)])
   have d3:decide ((vs:Int)-a<k)=false:=by simpa using c3
   go_enter Tryz.func93,Tryz.ntmps93
   go_wp2_with fail
   go_ret
   exact⟨by rw[HR.out];rfl,(Below.refl _ _).alloc (Nat.le_refl _) _⟩
theorem vsize_any (pa:Option Addr) (va vs:Nat) (w:World):Calls Tryz.prog 62 #[.agg #[.pointer pa,.int .i64 (va:Int),.int .i64 (vs:Int)]] w fun e w'=>e=.returned (.int .i64 (vs:Int))∧Below w.heap.size w w':=by
 go_enter Tryz.func62,Tryz.ntmps62
 go_wp2_with fail
 go_ret
 exact⟨rfl,(Below.refl _ _).alloc (Nat.le_refl _) _⟩
def VH (B:Nat) (pa:Option Addr) (va vs:Nat) (w x:World):Prop:=x.heap[B]?=some (.cells #[.pointer pa,.int .i64 (va:Int),.int .i64 (vs:Int)] 30 (0,0))∧Below w.heap.size w x
theorem VH.lt {B:Nat} {pa:Option Addr} {va vs:Nat} {w x:World} (h:VH B pa va vs w x):B<x.heap.size:=(Array.getElem?_eq_some_iff.1 h.1).1
theorem VH.below {B:Nat} {pa:Option Addr} {va vs:Nat} {w x y:World} (h:VH B pa va vs w x) (hb:Below x.heap.size x y):VH B pa va vs w y:=⟨(hb.block _ h.lt).trans h.1,h.2.trans (hb.mono h.2.size)⟩
theorem VH.all {B:Nat} {pa:Option Addr} {va vs:Nat} {w x:World} (h:VH B pa va vs w x):x.cell? ⟨B,0,none⟩=some (.pointer pa)∧x.cell? ⟨B,1,none⟩=some (.int .i64 (va:Int))∧x.cell? ⟨B,2,none⟩=some (.int .i64 (vs:Int))∧VH B pa va vs w x:=
 ⟨(cell_blk h.1 0).1,(cell_blk h.1 1).1,(cell_blk h.1 2).1,h⟩
theorem VH.new (pa:Option Addr) (va vs:Nat) (w:World):VH w.heap.size pa va vs w (w.alloc (.cells #[.pointer pa,.int .i64 (va:Int),.int .i64 (vs:Int)] 30)):=⟨heap_new _ _,(Below.refl _ _).alloc (Nat.le_refl _) _⟩
set_option maxHeartbeats 1000000 in
theorem vload_gen (pa:Option Addr) (va vs:Nat) (h1:va≤4294967296) (h2:vs≤4294967296) (a k:Int) (ha:a≤9223372036854775807) (w:World) (v er:Int)
 (HC:∀x,Below w.heap.size w x→Calls Tryz.prog 145 #[.pointer pa,.int .i64 (addrV va vs a k),.int .i64 k] x fun e x'=>e=.returned (.tuple #[.int .u64 v,.int .i64 er])∧Below x.heap.size x x'):
 Calls Tryz.prog 128 #[.agg #[.pointer pa,.int .i64 (va:Int),.int .i64 (vs:Int)],.int .i64 a,.int .i64 k] w fun e w'=>e=.returned (.tuple #[.int .u64 v,.int .i64 er])∧Below w.heap.size w w':=by
 have HC':=Lib.hid HC;clear HC
 go_enter Tryz.func128,Tryz.ntmps128
 go_wp2_with fail
 have HH:=VH.new pa va vs w
 obtain⟨w1,hw1⟩:∃w1,w.alloc (.cells #[.pointer pa,.int .i64 (va:Int),.int .i64 (vs:Int)] 30)=w1:=⟨_,rfl⟩
 rw[hw1]at HH⊢
 clear hw1
 obtain⟨B,hB⟩:∃B,w.heap.size=B:=⟨_,rfl⟩
 rw[hB]at HH⊢
 clear hB
 go_region_held3 (fun x=>x.cell? ⟨B,0,none⟩=some (.pointer pa)∧x.cell? ⟨B,1,none⟩=some (.int .i64 (va:Int))∧x.cell? ⟨B,2,none⟩=some (.int .i64 (vs:Int))∧VH B pa va vs w x)
  (first|exact(HH.below (Below.refl _ _).drew).all|assumption)
  (first|(go_at_call 93;refine(address_any pa va vs h1 h2 a k ha _).mono ?_;rintro e w' ⟨rfl,hbb⟩;have hnx:=((HH.below (Below.refl _ _).drew).below hbb).all)
        |(go_at_call 145;refine(HC'.out _ hnx.2.2.2.2).mono ?_;rintro e w'' ⟨rfl,hbc⟩;have hny:=(hnx.2.2.2.below hbc).all))
 have hf:=hny.2.2.2.2
 clear HH hnx hny
 go_wp2_with fail
 go_ret2
 exact⟨rfl,hf⟩
end Go.Proofs.YtpkaehpllldcmaaGreatDoor.Bt
end
section
namespace Go.Proofs.YtpkaehpllldcmaaGreatDoor.Bt
open Go Go.RowKit Go.Shelf
set_option linter.unusedVariables false
def VC (B:Nat) (pa:Option Addr) (va vs:Nat) (x:World):Prop:=x.heap[B]?=some (.cells #[.pointer pa,.int .i64 (va:Int),.int .i64 (vs:Int)] 30 (0,0))
theorem VC.below {B:Nat} {pa:Option Addr} {va vs:Nat} {x y:World} (h:VC B pa va vs x) (hb:Below x.heap.size x y):VC B pa va vs y:=(hb.block _ (Array.getElem?_eq_some_iff.1 h).1).trans h
theorem VC.all {B:Nat} {pa:Option Addr} {va vs:Nat} {x:World} (h:VC B pa va vs x):x.cell? ⟨B,0,none⟩=some (.pointer pa)∧x.cell? ⟨B,1,none⟩=some (.int .i64 (va:Int))∧x.cell? ⟨B,2,none⟩=some (.int .i64 (vs:Int))∧VC B pa va vs x:=
 ⟨(cell_blk h 0).1,(cell_blk h 1).1,(cell_blk h 2).1,h⟩
def Thru (er:Int) (Q:World→World→Prop) (w:World) (e:Ending) (w':World):Prop:=e=.returned (.int .i64 er)∧∃x,Below w.heap.size w x∧Q x w'
def KeepsV (w:World) (Q:World→World→Prop):Prop:=∀(x x':World) (B:Nat) (c:Array Value),Below w.heap.size w x→Q x x'→x.heap[B]?=some (.cells c 30 (0,0))→x'.heap[B]?=x.heap[B]?
set_option maxHeartbeats 1000000 in
theorem vstore_gen (pa:Option Addr) (va vs:Nat) (h1:va≤4294967296) (h2:vs≤4294967296) (a:Int) (ha:a≤9223372036854775807) (k x:Int) (w:World) (er:Int) (Q:World→World→Prop)
 (HC:∀X,Below w.heap.size w X→Calls Tryz.prog 147 #[.pointer pa,.int .i64 (addrV va vs a k),.int .i64 k,.int .u64 x] X fun e X'=>e=.returned (.int .i64 er)∧Q X X')
 (HK:KeepsV w Q):
 Calls Tryz.prog 113 #[.agg #[.pointer pa,.int .i64 (va:Int),.int .i64 (vs:Int)],.int .i64 a,.int .i64 k,.int .u64 x] w (Thru er Q w):=by
 have HC':=Lib.hid HC;have HK':=Lib.hid HK;clear HC HK
 go_enter Tryz.func113,Tryz.ntmps113
 go_wp2_with fail
 have HH:VC w.heap.size pa va vs (w.alloc (.cells #[.pointer pa,.int .i64 (va:Int),.int .i64 (vs:Int)] 30)):=heap_new _ _
 have HB:=(Below.refl w.heap.size w).alloc (Nat.le_refl _) (.cells #[.pointer pa,.int .i64 (va:Int),.int .i64 (vs:Int)] 30)
 obtain⟨w1,hw1⟩:∃w1,w.alloc (.cells #[.pointer pa,.int .i64 (va:Int),.int .i64 (vs:Int)] 30)=w1:=⟨_,rfl⟩
 rw[hw1]at HH HB⊢
 clear hw1
 obtain⟨B,hB⟩:∃B,w.heap.size=B:=⟨_,rfl⟩
 have HBh:=Lib.hid HB
 clear HB
 rw[hB]at HH⊢
 clear hB
 go_region_held3 (fun x=>x.cell? ⟨B,0,none⟩=some (.pointer pa)∧x.cell? ⟨B,1,none⟩=some (.int .i64 (va:Int))∧x.cell? ⟨B,2,none⟩=some (.int .i64 (vs:Int))∧VC B pa va vs x)
  (first|exact(HH.below (Below.refl _ _).drew).all|assumption)
  (first|(go_at_call 93;refine(address_any pa va vs h1 h2 a k ha _).mono ?_;rintro e w' ⟨rfl,hbb⟩;have hnx:=((HH.below (Below.refl _ _).drew).below hbb).all;have hbw:=(HBh.out.drew).trans (hbb.mono HBh.out.size))
        |(go_at_call 147;refine(HC'.out _ hbw).mono ?_;rintro e w'' ⟨rfl,hq⟩;have hny:=VC.all (B:=B) (pa:=pa) (va:=va) (vs:=vs) (x:=w'') ((HK'.out _ _ _ _ hbw hq hnx.2.2.2).trans hnx.2.2.2)))
 have HF:=Lib.hid (And.intro hbw hq)
 clear HH hnx hny hbw hq
 go_wp2_with fail
 go_ret
 exact⟨rfl,_,HF.out.1,HF.out.2⟩
set_option maxHeartbeats 1000000 in
theorem vfill_gen (pa:Option Addr) (va vs:Nat) (h1:va≤4294967296) (h2:vs≤4294967296) (a:Int) (ha:a≤9223372036854775807) (k b:Int) (w:World) (er:Int) (Q:World→World→Prop)
 (HC:∀X,Below w.heap.size w X→Calls Tryz.prog 94 #[.pointer pa,.int .i64 (addrV va vs a k),.int .i64 k,.int .u8 b] X fun e X'=>e=.returned (.int .i64 er)∧Q X X')
 (HK:KeepsV w Q):
 Calls Tryz.prog 56 #[.agg #[.pointer pa,.int .i64 (va:Int),.int .i64 (vs:Int)],.int .i64 a,.int .i64 k,.int .u8 b] w (Thru er Q w):=by
 have HC':=Lib.hid HC;have HK':=Lib.hid HK;clear HC HK
 go_enter Tryz.func56,Tryz.ntmps56
 go_wp2_with fail
 have HH:VC w.heap.size pa va vs (w.alloc (.cells #[.pointer pa,.int .i64 (va:Int),.int .i64 (vs:Int)] 30)):=heap_new _ _
 have HB:=(Below.refl w.heap.size w).alloc (Nat.le_refl _) (.cells #[.pointer pa,.int .i64 (va:Int),.int .i64 (vs:Int)] 30)
 obtain⟨w1,hw1⟩:∃w1,w.alloc (.cells #[.pointer pa,.int .i64 (va:Int),.int .i64 (vs:Int)] 30)=w1:=⟨_,rfl⟩
 rw[hw1]at HH HB⊢
 clear hw1
 obtain⟨B,hB⟩:∃B,w.heap.size=B:=⟨_,rfl⟩
 have HBh:=Lib.hid HB
 clear HB
 rw[hB]at HH⊢
 clear hB
 go_region_held3 (fun x=>x.cell? ⟨B,0,none⟩=some (.pointer pa)∧x.cell? ⟨B,1,none⟩=some (.int .i64 (va:Int))∧x.cell? ⟨B,2,none⟩=some (.int .i64 (vs:Int))∧VC B pa va vs x)
  (first|exact(HH.below (Below.refl _ _).drew).all|assumption)
  (first|(go_at_call 93;refine(address_any pa va vs h1 h2 a k ha _).mono ?_;rintro e w' ⟨rfl,hbb⟩;have hnx:=((HH.below (Below.refl _ _).drew).below hbb).all;have hbw:=(HBh.out.drew).trans (hbb.mono HBh.out.size))
        |(go_at_call 94;refine(HC'.out _ hbw).mono ?_;rintro e w'' ⟨rfl,hq⟩;have hny:=VC.all (B:=B) (pa:=pa) (va:=va) (vs:=vs) (x:=w'') ((HK'.out _ _ _ _ hbw hq hnx.2.2.2).trans hnx.2.2.2)))
 have HF:=Lib.hid (And.intro hbw hq)
 clear HH hnx hny hbw hq
 go_wp2_with fail
 go_ret
 exact⟨rfl,_,HF.out.1,HF.out.2⟩
set_option maxHeartbeats 1000000 in
theorem vput_gen (pa:Option Addr) (va vs:Nat) (h1:va≤4294967296) (h2:vs≤4294967296) (a:Int) (ha:a≤9223372036854775807) (x:ByteArray) (hx:x.size≤9223372036854775807) (w:World) (er:Int) (Q:World→World→Prop)
 (HC:∀X,Below w.heap.size w X→Calls Tryz.prog 52 #[.pointer pa,.int .i64 (addrV va vs a x.size),.string x] X fun e X'=>e=.returned (.int .i64 er)∧Q X X')
 (HK:KeepsV w Q):
 Calls Tryz.prog 222 #[.agg #[.pointer pa,.int .i64 (va:Int),.int .i64 (vs:Int)],.int .i64 a,.string x] w (Thru er Q w):=by
 have HC':=Lib.hid HC;have HK':=Lib.hid HK;clear HC HK
 go_enter Tryz.func222,Tryz.ntmps222
 go_wp2_with fail
 have HH:VC w.heap.size pa va vs (w.alloc (.cells #[.pointer pa,.int .i64 (va:Int),.int .i64 (vs:Int)] 30)):=heap_new _ _
 have HB:=(Below.refl w.heap.size w).alloc (Nat.le_refl _) (.cells #[.pointer pa,.int .i64 (va:Int),.int .i64 (vs:Int)] 30)
 obtain⟨w1,hw1⟩:∃w1,w.alloc (.cells #[.pointer pa,.int .i64 (va:Int),.int .i64 (vs:Int)] 30)=w1:=⟨_,rfl⟩
 rw[hw1]at HH HB⊢
 clear hw1
 obtain⟨B,hB⟩:∃B,w.heap.size=B:=⟨_,rfl⟩
 have HBh:=Lib.hid HB
 clear HB
 rw[hB]at HH⊢
 clear hB
 go_region_held3 (fun x=>x.cell? ⟨B,0,none⟩=some (.pointer pa)∧x.cell? ⟨B,1,none⟩=some (.int .i64 (va:Int))∧x.cell? ⟨B,2,none⟩=some (.int .i64 (vs:Int))∧VC B pa va vs x)
  (first|exact(HH.below (Below.refl _ _).drew).all|assumption)
  (first|(go_at_call 93;refine(address_any pa va vs h1 h2 a x.size ha _).mono ?_;rintro e w' ⟨rfl,hbb⟩;have hnx:=((HH.below (Below.refl _ _).drew).below hbb).all;have hbw:=(HBh.out.drew).trans (hbb.mono HBh.out.size))
        |(go_at_call 52;refine(HC'.out _ hbw).mono ?_;rintro e w'' ⟨rfl,hq⟩;have hny:=VC.all (B:=B) (pa:=pa) (va:=va) (vs:=vs) (x:=w'') ((HK'.out _ _ _ _ hbw hq hnx.2.2.2).trans hnx.2.2.2)))
 have HF:=Lib.hid (And.intro hbw hq)
 clear HH hnx hny hbw hq
 go_wp2_with fail
 go_ret
 exact⟨rfl,_,HF.out.1,HF.out.2⟩
set_option maxHeartbeats 1000000 in
theorem vbytes_gen (pa:Option Addr) (va vs:Nat) (h1:va≤4294967296) (h2:vs≤4294967296) (a k:Int) (ha:a≤9223372036854775807) (w:World) (v:ByteArray) (er:Int)
 (HC:∀x,Below w.heap.size w x→Calls Tryz.prog 51 #[.pointer pa,.int .i64 (addrV va vs a k),.int .i64 k] x fun e x'=>e=.returned (.tuple #[.string v,.int .i64 er])∧Below x.heap.size x x'):
 Calls Tryz.prog 240 #[.agg #[.pointer pa,.int .i64 (va:Int),.int .i64 (vs:Int)],.int .i64 a,.int .i64 k] w fun e w'=>e=.returned (.tuple #[.string v,.int .i64 er])∧Below w.heap.size w w':=by
 have HC':=Lib.hid HC;clear HC
 go_enter Tryz.func240,Tryz.ntmps240
 go_wp2_with fail
 have HH:=VH.new pa va vs w
 obtain⟨w1,hw1⟩:∃w1,w.alloc (.cells #[.pointer pa,.int .i64 (va:Int),.int .i64 (vs:Int)] 30)=w1:=⟨_,rfl⟩
 rw[hw1]at HH⊢
 clear hw1
 obtain⟨B,hB⟩:∃B,w.heap.size=B:=⟨_,rfl⟩
 rw[hB]at HH⊢
 clear hB
 go_region_held3 (fun x=>x.cell? ⟨B,0,none⟩=some (.pointer pa)∧x.cell? ⟨B,1,none⟩=some (.int .i64 (va:Int))∧x.cell? ⟨B,2,none⟩=some (.int .i64 (vs:Int))∧VH B pa va vs w x)
  (first|exact(HH.below (Below.refl _ _).drew).all|assumption)
  (first|(go_at_call 93;refine(address_any pa va vs h1 h2 a k ha _).mono ?_;rintro e w' ⟨rfl,hbb⟩;have hnx:=((HH.below (Below.refl _ _).drew).below hbb).all)
        |(go_at_call 51;refine(HC'.out _ hnx.2.2.2.2).mono ?_;rintro e w'' ⟨rfl,hbc⟩;have hny:=(hnx.2.2.2.below hbc).all))
 have hf:=hny.2.2.2.2
 clear HH hnx hny
 go_wp2_with fail
 go_ret2
 exact⟨rfl,hf⟩
set_option maxHeartbeats 2000000 in
theorem vcopy_gen (pa:Option Addr) (va vs:Nat) (h1:va≤4294967296) (h2:vs≤4294967296) (to fr k:Int) (ha:to≤9223372036854775807) (hf:fr≤9223372036854775807) (w:World) (er:Int) (Q:World→World→Prop)
 (HC:∀x,Below w.heap.size w x→Calls Tryz.prog 30 #[.pointer pa,.int .i64 (addrV va vs to k),.int .i64 (addrV va vs fr k),.int .i64 k] x fun e x'=>e=.returned (.int .i64 er)∧Q x x')
 (HK:KeepsV w Q):
 Calls Tryz.prog 55 #[.agg #[.pointer pa,.int .i64 (va:Int),.int .i64 (vs:Int)],.int .i64 to,.int .i64 fr,.int .i64 k] w (Thru er Q w):=by
 have HC':=Lib.hid HC;have HK':=Lib.hid HK;clear HC HK
 go_enter Tryz.func55,Tryz.ntmps55
 go_wp2_with fail
 have HH:VC w.heap.size pa va vs (w.alloc (.cells #[.pointer pa,.int .i64 (va:Int),.int .i64 (vs:Int)] 30)):=heap_new _ _
 have HB:=(Below.refl w.heap.size w).alloc (Nat.le_refl _) (.cells #[.pointer pa,.int .i64 (va:Int),.int .i64 (vs:Int)] 30)
 obtain⟨w1,hw1⟩:∃w1,w.alloc (.cells #[.pointer pa,.int .i64 (va:Int),.int .i64 (vs:Int)] 30)=w1:=⟨_,rfl⟩
 rw[hw1]at HH HB⊢
 clear hw1
 obtain⟨B,hB⟩:∃B,w.heap.size=B:=⟨_,rfl⟩
 have HBh:=Lib.hid HB
 clear HB
 rw[hB]at HH⊢
 clear hB
 have hAny:=fun(x:World) (v:Int) (hv:v=to∨v=fr)=>address_any pa va vs h1 h2 v k (by rcases hv with rfl|rfl<;>assumption) x
 have HAny:=Lib.hid hAny
 clear hAny
 go_region_held3 (fun x=>x.cell? ⟨B,0,none⟩=some (.pointer pa)∧x.cell? ⟨B,1,none⟩=some (.int .i64 (va:Int))∧x.cell? ⟨B,2,none⟩=some (.int .i64 (vs:Int))∧VC B pa va vs x)
  (first|exact(HH.below (Below.refl _ _).drew).all|assumption)
  (first|(go_at_call_of 93 (Value.int IntKind.i64 to);refine(HAny.out _ to (.inl rfl)).mono ?_;rintro e w' ⟨rfl,hbb⟩;have hnx:=((HH.below (Below.refl _ _).drew).below hbb).all;have hbw:=(HBh.out.drew).trans (hbb.mono HBh.out.size))
        |(go_at_call_of 93 (Value.int IntKind.i64 fr);refine(HAny.out _ fr (.inr rfl)).mono ?_;rintro e w'' ⟨rfl,hbb2⟩;have hnz:=(hnx.2.2.2.below hbb2).all;have hbz:=hbw.trans (hbb2.mono hbw.size))
        |(go_at_call 30;refine(HC'.out _ hbz).mono ?_;rintro e w3 ⟨rfl,hq⟩;have hny:=VC.all (B:=B) (pa:=pa) (va:=va) (vs:=vs) (x:=w3) ((HK'.out _ _ _ _ hbz hq hnz.2.2.2).trans hnz.2.2.2)))
 have HF:=Lib.hid (And.intro hbz hq)
 clear HH hnx hny hnz hbw hbz hq
 go_wp2_with fail
 go_ret
 exact⟨rfl,_,HF.out.1,HF.out.2⟩
end Go.Proofs.YtpkaehpllldcmaaGreatDoor.Bt
end
