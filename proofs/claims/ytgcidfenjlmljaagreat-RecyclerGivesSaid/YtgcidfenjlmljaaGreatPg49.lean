import Derived.Test.YtgcidfenjlmljaaGreatPg47
import Derived.Test.YtgcidfenjlmljaaGreatPg48
import Derived.Test.YtgcidfenjlmljaaGreatPg45
import Derived.Test.YtgcidfenjlmljaaGreatPg38
import Derived.Test.YtgcidfenjlmljaaGreatPg42
import Derived.Test.YtgcidfenjlmljaaGreatPgR
set_option linter.unusedVariables false
set_option linter.unusedSimpArgs false
set_option maxRecDepth 100000
set_option maxHeartbeats 16000000
namespace Go.Proofs.YtgcidfenjlmljaaGreat.Bt
section
open Go Go.RowKit Go.Shelf
theorem Zyv {k:Nat} (hk:k<=10):¬(Sz.Zou (k:Int)=0):=by
 have h:k=0\/k=1\/k=2\/k=3\/k=4\/k=5\/k=6\/k=7\/k=8\/k=9\/k=10:=by omega
 rcases h with rfl|rfl|rfl|rfl|rfl|rfl|rfl|rfl|rfl|rfl|rfl<;>decide
theorem Yhz (B:Nat) (w:World) (k:Int) (hk:k<0\/10<k):Calls Tryz.prog 25 #[Zcv B,iV k] w (Zan (.bool false) w):=by
 have HS:Hid (∀X,Calls Tryz.prog 85 #[iV k] X fun e w'=>e=.returned (iV 0)/\X=w'):=hid fun X=>Sz.Zi4 hk▸Sz.Zki k X
 clear hk;go_enter Tryz.func25,Tryz.ntmps25;go_wp2_with fail
 refine(HS.out _).mono ?_
 rintro e w1 ⟨rfl,rfl⟩;go_wp2_with fail
 go_ret
 exact⟨rfl,Below.refl _ _⟩
theorem Yje {A B n g:Nat} {R:Zag} {s:ASt} {w:World} (h:BV B A n s w) (hB:Bud (n+1) g g R g s) (k:Nat) (hk:k<=10):
 Calls Tryz.prog 25 #[Zcv B,iV k] w (Zan (.bool (Zpr n g k R)) w):=by
 have hz:=hB.sz h.2.1;have hgG:=hB.gG;obtain⟨sp,hsp⟩:=eX (Sz.Zou (k:Int));have hsn:¬(sp=0):=by rw[<-hsp];exact Zyv hk
 have HS:Hid (∀X,Calls Tryz.prog 85 #[iV k] X fun e w'=>e=.returned (iV sp)/\X=w'):=hid fun X=>hsp▸Sz.Zki (k:Int) X
 have HV:=hid h;have HLG:=hid fun X (hX:BV B A n s X)=>Ya0 hX hB
 have HGR:=hid fun X (hX:BV B A n s X)=>Zrr hX g (by omega) hB.front hB.gr
 have HBA:=hid fun X (hX:BV B A n s X)=>Zn7 hX (by omega)
 have hLn:=h.2.1
 have HCP:Hid (∀X,BV B A n s X->Calls Tryz.prog 60 #[pT A] X fun e w'=>e=.returned (iV ((n:Int)+1))/\X=w'):=hid fun X hX=>by
  have e:((n:Int)+1)=((s.L:Nat):Int):=by rw[hLn];push_cast;rfl
  rw[e];exact Zhj hX.1
 obtain⟨P,hP⟩:=eX (2^k);obtain⟨u1,u2⟩:=Yfd g k (by omega) hk;rw[hP]at u1 u2;obtain⟨U,hU⟩:=eX (upN g P);rw[hU]at u1;have hPb:P<=1024:=by rw[<-hP];exact Nat.pow_le_pow_right (by decide) hk
 have hUb:U<=4000:=by
  obtain⟨a1,a2,a3,a4⟩:=Zmp (g:=g) (Zae k);rw[hP,hU]at a2;omega
 have HPU:Hid (2^k=P/\upN g P=U):=hid ⟨hP,hU⟩
 have HUP:Hid (∀X,Calls Tryz.prog 87 #[iV g,iV P] X fun e w'=>e=.returned (.tuple #[iV U,.bool true])/\X=w'):=hid fun X=>by
  have:=Sz.Zk3 (g:Int) (P:Int) X
  rw[u1,u2]at this;exact this
 have h2k:((2:Int)^k)=(P:Int):=by rw[<-hP];push_cast;rfl
 have HM1:Hid (IntKind.i64.wrap ((2:Int)^min k 64)=(P:Int)/\IntKind.i64.wrap ((2:Int)^k)=(P:Int)):=hid ⟨by rw[show min k 64=k by omega,h2k,IntKind.wrap_i64];omega,by rw[h2k,IntKind.wrap_i64];omega⟩;have HM2:Hid (IntKind.i64.wrap (1+(U:Int))=1+(U:Int)/\IntKind.i64.wrap (1+(U:Int)+(P:Int))=1+(U:Int)+(P:Int)):=hid ⟨by rw[IntKind.wrap_i64];omega,by rw[IntKind.wrap_i64];omega⟩;have HTI:=hid hB.ti;clear h hB hz hgG hsp u1 u2 hU hUb hPb hP h2k hLn;have hk0:0<=(k:Int):=by omega
 go_enter Tryz.func25,Tryz.ntmps25;go_wp2_with fail
 refine(HS.out _).mono ?_
 rintro e w1 ⟨rfl,rfl⟩;go_wp2_with fail
 refine(HLG.out _ HV.out).mono ?_
 rintro e w2 ⟨rfl,hb⟩;have HV2:=hid (HV.out.below hb);have HB2:=hid hb;clear hb HV HS HLG;unfold lgV;have HFB:Hid (Ye1 g k R=(lgB (Zbi R g)&&decide (k<=lgM (Zbi R g)))):=hid rfl;obtain⟨M,hM⟩:=eX (lgM (Zbi R g));obtain⟨bb,hbb⟩:=eX (lgB (Zbi R g));rw[hM,hbb]at HFB;rw[hM,hbb];clear hM hbb hk;cases bb with
 |true=>
  by_cases hkm:k<=M
  · have hkm':(k:Int)<=(M:Int):=by omega
    have HCB:Hid (Zpr n g k R=true):=hid (by unfold Zpr;rw[HFB.out,decide_eq_true hkm];rfl);clear hkm;go_wp2_with fail
    go_ret
    exact⟨by first|(rw[HCB.out];rfl)|rw[HCB.out],HB2.out⟩
  · have hkm':¬(k:Int)<=(M:Int):=by omega
    have HFT:Hid (Ye1 g k R=false):=hid (by rw[HFB.out,decide_eq_false hkm];rfl);clear hkm HFB;go_upto_region 6 with fail;refine wp_region_held_drew (S:=fun X:World=>X.cell? (aD B 0)=some (pT A)/\X.cell? (aD B 1)=some (pT A)) (by kernel_rfl) ⟨(HV2.out.below (Below.refl w2.heap.size w2).drew).all.1,(HV2.out.below (Below.refl w2.heap.size w2).drew).all.2.1⟩ (fun hHeld=>?_);have HV2d:=hid (HV2.out.below (Below.refl w2.heap.size w2).drew);have HB2d:=hid (HB2.out.trans ((Below.refl w2.heap.size w2).drew.mono HB2.out.size));clear HV2 HB2;generalize w2.drew=w3 at*
    refine tk 0 (Zcv B) rfl hHeld (fun X hS=>by obtain⟨b0,b1⟩:=hS;go_simp) ?_;refine tk 2 (iV k) rfl hHeld (fun X hS=>by obtain⟨b0,b1⟩:=hS;go_simp) ?_;refine tk 3 (iV P) rfl hHeld (fun X hS=>by obtain⟨b0,b1⟩:=hS;obtain⟨hm1,hm2⟩:=HM1.out;go_simp) ?_;refine rd [1] (AllReadyH.cons rfl (fun K1 hK1=>?_) AllReadyH.nil);go_simp;have HH:=hid hHeld;clear hHeld
    refine(HGR.out _ HV2d.out).mono ?_
    rintro e w4 ⟨rfl,hb⟩;have hv4:=HV2d.out.below hb;have HV4:=hid hv4;have hrb:=And.intro hv4.all.1 hv4.all.2.1;have HB4:=hid (HB2d.out.trans (hb.mono HB2d.out.size));clear HH hb HV2d HB2d hv4;refine hK1.out _ _ hrb (fun hHeld=>?_);clear hK1
    try simp only[Act.put,apu]
    refine rd [4] (AllReadyH.cons rfl (fun K1 hK1=>?_) AllReadyH.nil);go_simp;have HH:=hid hHeld;clear hHeld
    refine(HUP.out _).mono ?_
    rintro e w5 ⟨rfl,rfl⟩;have hrb:=And.intro HV4.out.all.1 HV4.out.all.2.1;clear HH;refine hK1.out _ _ hrb (fun hHeld=>?_);clear hK1
    try simp only[Act.put,apu]
    refine tk 5 (.tuple #[iV U,.bool true]) rfl hHeld (fun X hS=>by obtain⟨b0,b1⟩:=hS;go_simp) ?_;refine tk 6 (iV U) rfl hHeld (fun X hS=>by obtain⟨b0,b1⟩:=hS;go_simp) ?_;refine tk 7 (.bool true) rfl hHeld (fun X hS=>by obtain⟨b0,b1⟩:=hS;go_simp) ?_;refine tk 8 (iV U) rfl hHeld (fun X hS=>by obtain⟨b0,b1⟩:=hS;go_simp) ?_;refine tk 9 (.bool true) rfl hHeld (fun X hS=>by obtain⟨b0,b1⟩:=hS;go_simp) ?_;refine wpAnyH_done (by kernel_rfl) ?_ _;clear hHeld;go_upto_region 7 with fail;refine wp_region_held_drew (S:=fun X:World=>X.cell? (aD B 0)=some (pT A)/\X.cell? (aD B 1)=some (pT A)) (by kernel_rfl) ⟨(HV4.out.below (Below.refl w4.heap.size w4).drew).all.1,(HV4.out.below (Below.refl w4.heap.size w4).drew).all.2.1⟩ (fun hHeld=>?_);have HV4d:=hid (HV4.out.below (Below.refl w4.heap.size w4).drew);have HB4d:=hid (HB4.out.trans ((Below.refl w4.heap.size w4).drew.mono HB4.out.size));clear HV4 HB4;generalize w4.drew=w6 at*
    refine tk 0 (.bool true) rfl hHeld (fun X hS=>by obtain⟨b0,b1⟩:=hS;go_simp) ?_;refine tk 1 (.bool true) rfl hHeld (fun X hS=>by obtain⟨b0,b1⟩:=hS;go_simp) ?_;refine tk 2 (Zcv B) rfl hHeld (fun X hS=>by obtain⟨b0,b1⟩:=hS;go_simp) ?_;refine tk 4 (iV U) rfl hHeld (fun X hS=>by obtain⟨b0,b1⟩:=hS;go_simp) ?_;refine tk 6 (iV k) rfl hHeld (fun X hS=>by obtain⟨b0,b1⟩:=hS;go_simp) ?_;refine tk 7 (iV P) rfl hHeld (fun X hS=>by obtain⟨b0,b1⟩:=hS;obtain⟨hm1,hm2⟩:=HM1.out;go_simp) ?_;refine tk 9 (Zcv B) rfl hHeld (fun X hS=>by obtain⟨b0,b1⟩:=hS;go_simp) ?_;refine tk 10 (Zcv B) rfl hHeld (fun X hS=>by obtain⟨b0,b1⟩:=hS;go_simp) ?_;refine tk 11 (pT B) rfl hHeld (fun X hS=>by obtain⟨b0,b1⟩:=hS;go_simp) ?_;refine tk 12 (pT A) rfl hHeld (fun X hS=>by obtain⟨b0,b1⟩:=hS;go_simp) ?_;refine rd [3] (AllReadyH.cons rfl (fun K1 hK1=>?_) AllReadyH.nil);go_simp;have HH:=hid hHeld;clear hHeld
    refine(HBA.out _ HV4d.out).mono ?_
    rintro e w7 ⟨rfl,hb⟩;have hv4:=HV4d.out.below hb;have HV7:=hid hv4;have hrb:=And.intro hv4.all.1 hv4.all.2.1;have HB7:=hid (HB4d.out.trans (hb.mono HB4d.out.size));clear HH hb HV4d HB4d hv4;refine hK1.out _ _ hrb (fun hHeld=>?_);clear hK1
    try simp only[Act.put,apu]
    refine tk 5 (iV (1+(U:Int))) rfl hHeld (fun X hS=>by obtain⟨b0,b1⟩:=hS;have hm1:=HM2.out.1;go_simp) ?_;refine tk 8 (iV (1+(U:Int)+(P:Int))) rfl hHeld (fun X hS=>by obtain⟨b0,b1⟩:=hS;have hm1:=HM2.out.2;go_simp) ?_;refine rd [13] (AllReadyH.cons rfl (fun K1 hK1=>?_) AllReadyH.nil);go_simp;have HH:=hid hHeld;clear hHeld
    refine(HCP.out _ HV7.out).mono ?_
    rintro e w8 ⟨rfl,rfl⟩;have hrb:=And.intro HV7.out.all.1 HV7.out.all.2.1;clear HH;refine hK1.out _ _ hrb (fun hHeld=>?_);clear hK1
    try simp only[Act.put,apu]
    by_cases hfit:U+P<=n
    · have hfi:1+(U:Int)+(P:Int)<=(n:Int)+1:=by omega
      have HCB:Hid (Zpr n g k R=true):=hid (by unfold Zpr;rw[HPU.out.1,HPU.out.2,decide_eq_true hfit];simp);refine tk 14 (.bool true) rfl hHeld (fun X hS=>by obtain⟨b0,b1⟩:=hS;go_simp) ?_;refine tk 15 (.bool true) rfl hHeld (fun X hS=>by obtain⟨b0,b1⟩:=hS;go_simp) ?_;refine tk 16 (.bool true) rfl hHeld (fun X hS=>by obtain⟨b0,b1⟩:=hS;go_simp) ?_;refine wpAnyH_done (by kernel_rfl) ?_ _;clear hHeld;go_wp2_with fail
      go_ret
      exact⟨by first|(rw[HCB.out];rfl)|rw[HCB.out],HB7.out⟩
    · have hfi:¬(1+(U:Int)+(P:Int)<=(n:Int)+1):=by omega
      have HCB:Hid (Zpr n g k R=false):=hid (by unfold Zpr;rw[HFT.out,HPU.out.1,HPU.out.2,decide_eq_false hfit];rfl);refine tk 14 (.bool false) rfl hHeld (fun X hS=>by obtain⟨b0,b1⟩:=hS;go_simp) ?_;refine tk 15 (.bool false) rfl hHeld (fun X hS=>by obtain⟨b0,b1⟩:=hS;go_simp) ?_;refine tk 16 (.bool false) rfl hHeld (fun X hS=>by obtain⟨b0,b1⟩:=hS;go_simp) ?_;refine wpAnyH_done (by kernel_rfl) ?_ _;clear hHeld;go_wp2_with fail
      go_ret
      exact⟨by first|(rw[HCB.out];rfl)|rw[HCB.out],HB7.out⟩
 |false=>
  have HFT:Hid (Ye1 g k R=false):=hid (by rw[HFB.out];rfl);clear HFB;go_upto_region 6 with fail;refine wp_region_held_drew (S:=fun X:World=>X.cell? (aD B 0)=some (pT A)/\X.cell? (aD B 1)=some (pT A)) (by kernel_rfl) ⟨(HV2.out.below (Below.refl w2.heap.size w2).drew).all.1,(HV2.out.below (Below.refl w2.heap.size w2).drew).all.2.1⟩ (fun hHeld=>?_);have HV2d:=hid (HV2.out.below (Below.refl w2.heap.size w2).drew);have HB2d:=hid (HB2.out.trans ((Below.refl w2.heap.size w2).drew.mono HB2.out.size));clear HV2 HB2;generalize w2.drew=w3 at*
  refine tk 0 (Zcv B) rfl hHeld (fun X hS=>by obtain⟨b0,b1⟩:=hS;go_simp) ?_;refine tk 2 (iV k) rfl hHeld (fun X hS=>by obtain⟨b0,b1⟩:=hS;go_simp) ?_;refine tk 3 (iV P) rfl hHeld (fun X hS=>by obtain⟨b0,b1⟩:=hS;obtain⟨hm1,hm2⟩:=HM1.out;go_simp) ?_;refine rd [1] (AllReadyH.cons rfl (fun K1 hK1=>?_) AllReadyH.nil);go_simp;have HH:=hid hHeld;clear hHeld
  refine(HGR.out _ HV2d.out).mono ?_
  rintro e w4 ⟨rfl,hb⟩;have hv4:=HV2d.out.below hb;have HV4:=hid hv4;have hrb:=And.intro hv4.all.1 hv4.all.2.1;have HB4:=hid (HB2d.out.trans (hb.mono HB2d.out.size));clear HH hb HV2d HB2d hv4;refine hK1.out _ _ hrb (fun hHeld=>?_);clear hK1
  try simp only[Act.put,apu]
  refine rd [4] (AllReadyH.cons rfl (fun K1 hK1=>?_) AllReadyH.nil);go_simp;have HH:=hid hHeld;clear hHeld
  refine(HUP.out _).mono ?_
  rintro e w5 ⟨rfl,rfl⟩;have hrb:=And.intro HV4.out.all.1 HV4.out.all.2.1;clear HH;refine hK1.out _ _ hrb (fun hHeld=>?_);clear hK1
  try simp only[Act.put,apu]
  refine tk 5 (.tuple #[iV U,.bool true]) rfl hHeld (fun X hS=>by obtain⟨b0,b1⟩:=hS;go_simp) ?_;refine tk 6 (iV U) rfl hHeld (fun X hS=>by obtain⟨b0,b1⟩:=hS;go_simp) ?_;refine tk 7 (.bool true) rfl hHeld (fun X hS=>by obtain⟨b0,b1⟩:=hS;go_simp) ?_;refine tk 8 (iV U) rfl hHeld (fun X hS=>by obtain⟨b0,b1⟩:=hS;go_simp) ?_;refine tk 9 (.bool true) rfl hHeld (fun X hS=>by obtain⟨b0,b1⟩:=hS;go_simp) ?_;refine wpAnyH_done (by kernel_rfl) ?_ _;clear hHeld;go_upto_region 7 with fail;refine wp_region_held_drew (S:=fun X:World=>X.cell? (aD B 0)=some (pT A)/\X.cell? (aD B 1)=some (pT A)) (by kernel_rfl) ⟨(HV4.out.below (Below.refl w4.heap.size w4).drew).all.1,(HV4.out.below (Below.refl w4.heap.size w4).drew).all.2.1⟩ (fun hHeld=>?_);have HV4d:=hid (HV4.out.below (Below.refl w4.heap.size w4).drew);have HB4d:=hid (HB4.out.trans ((Below.refl w4.heap.size w4).drew.mono HB4.out.size));clear HV4 HB4;generalize w4.drew=w6 at*
  refine tk 0 (.bool true) rfl hHeld (fun X hS=>by obtain⟨b0,b1⟩:=hS;go_simp) ?_;refine tk 1 (.bool true) rfl hHeld (fun X hS=>by obtain⟨b0,b1⟩:=hS;go_simp) ?_;refine tk 2 (Zcv B) rfl hHeld (fun X hS=>by obtain⟨b0,b1⟩:=hS;go_simp) ?_;refine tk 4 (iV U) rfl hHeld (fun X hS=>by obtain⟨b0,b1⟩:=hS;go_simp) ?_;refine tk 6 (iV k) rfl hHeld (fun X hS=>by obtain⟨b0,b1⟩:=hS;go_simp) ?_;refine tk 7 (iV P) rfl hHeld (fun X hS=>by obtain⟨b0,b1⟩:=hS;obtain⟨hm1,hm2⟩:=HM1.out;go_simp) ?_;refine tk 9 (Zcv B) rfl hHeld (fun X hS=>by obtain⟨b0,b1⟩:=hS;go_simp) ?_;refine tk 10 (Zcv B) rfl hHeld (fun X hS=>by obtain⟨b0,b1⟩:=hS;go_simp) ?_;refine tk 11 (pT B) rfl hHeld (fun X hS=>by obtain⟨b0,b1⟩:=hS;go_simp) ?_;refine tk 12 (pT A) rfl hHeld (fun X hS=>by obtain⟨b0,b1⟩:=hS;go_simp) ?_;refine rd [3] (AllReadyH.cons rfl (fun K1 hK1=>?_) AllReadyH.nil);go_simp;have HH:=hid hHeld;clear hHeld
  refine(HBA.out _ HV4d.out).mono ?_
  rintro e w7 ⟨rfl,hb⟩;have hv4:=HV4d.out.below hb;have HV7:=hid hv4;have hrb:=And.intro hv4.all.1 hv4.all.2.1;have HB7:=hid (HB4d.out.trans (hb.mono HB4d.out.size));clear HH hb HV4d HB4d hv4;refine hK1.out _ _ hrb (fun hHeld=>?_);clear hK1
  try simp only[Act.put,apu]
  refine tk 5 (iV (1+(U:Int))) rfl hHeld (fun X hS=>by obtain⟨b0,b1⟩:=hS;have hm1:=HM2.out.1;go_simp) ?_;refine tk 8 (iV (1+(U:Int)+(P:Int))) rfl hHeld (fun X hS=>by obtain⟨b0,b1⟩:=hS;have hm1:=HM2.out.2;go_simp) ?_;refine rd [13] (AllReadyH.cons rfl (fun K1 hK1=>?_) AllReadyH.nil);go_simp;have HH:=hid hHeld;clear hHeld
  refine(HCP.out _ HV7.out).mono ?_
  rintro e w8 ⟨rfl,rfl⟩;have hrb:=And.intro HV7.out.all.1 HV7.out.all.2.1;clear HH;refine hK1.out _ _ hrb (fun hHeld=>?_);clear hK1
  try simp only[Act.put,apu]
  by_cases hfit:U+P<=n
  · have hfi:1+(U:Int)+(P:Int)<=(n:Int)+1:=by omega
    have HCB:Hid (Zpr n g k R=true):=hid (by unfold Zpr;rw[HPU.out.1,HPU.out.2,decide_eq_true hfit];simp);refine tk 14 (.bool true) rfl hHeld (fun X hS=>by obtain⟨b0,b1⟩:=hS;go_simp) ?_;refine tk 15 (.bool true) rfl hHeld (fun X hS=>by obtain⟨b0,b1⟩:=hS;go_simp) ?_;refine tk 16 (.bool true) rfl hHeld (fun X hS=>by obtain⟨b0,b1⟩:=hS;go_simp) ?_;refine wpAnyH_done (by kernel_rfl) ?_ _;clear hHeld;go_wp2_with fail
    go_ret
    exact⟨by first|(rw[HCB.out];rfl)|rw[HCB.out],HB7.out⟩
  · have hfi:¬(1+(U:Int)+(P:Int)<=(n:Int)+1):=by omega
    have HCB:Hid (Zpr n g k R=false):=hid (by unfold Zpr;rw[HFT.out,HPU.out.1,HPU.out.2,decide_eq_false hfit];rfl);refine tk 14 (.bool false) rfl hHeld (fun X hS=>by obtain⟨b0,b1⟩:=hS;go_simp) ?_;refine tk 15 (.bool false) rfl hHeld (fun X hS=>by obtain⟨b0,b1⟩:=hS;go_simp) ?_;refine tk 16 (.bool false) rfl hHeld (fun X hS=>by obtain⟨b0,b1⟩:=hS;go_simp) ?_;refine wpAnyH_done (by kernel_rfl) ?_ _;clear hHeld;go_wp2_with fail
    go_ret
    exact⟨by first|(rw[HCB.out];rfl)|rw[HCB.out],HB7.out⟩
end
section
open Go Go.RowKit Go.Shelf
theorem Ztk (D E:Nat) (ca cb:Nat) (l:List Nat) (hL:l.length<=2000) (w:World) (hu:Zty D l w) (hv:Zty E l w):
 Calls Tryz.prog 170 #[.slice (some (aD D 0)) l.length ca,.slice (some (aD E 0)) l.length cb] w (Zan (.bool true) w):=by
 obtain⟨n,hn⟩:=eX l.length;have HN:=hid hn;have d1:((n:Int) !=(n:Int))=false:=by simp
 have HU:=hid hu;have HV:=hid hv
 rw[hn]at hL⊢;clear hu hv hn;go_enter Tryz.func170,Tryz.ntmps170;go_wp2_with fail
 go_loopw[13] (fun i wr=>∃j:Nat,j<=n/\i=iV j/\Hid (Below w.heap.size w wr)) (fun i _=>n-(intOf i).toNat)
 case atStart=>exact⟨0,Nat.zero_le _,rfl,hid (Below.refl _ _)⟩
 case round=>
  obtain⟨j,hj,rfl,HW⟩:=hrel;by_cases hlt:j<n
  · have hjL:j<l.length:=by rw[HN.out];exact hlt
    obtain⟨p0,_⟩:=(HU.out.below HW.out).cell hjL;obtain⟨q0,_⟩:=(HV.out.below HW.out).cell hjL;obtain⟨y,hy⟩:=eX (l.getD j 0);rw[hy]at p0 q0;have i0:0<=(j:Int):=by omega
    have i1:(j:Int)<(n:Int):=by omega
    clear hjL hy;go_wp2_with fail
    go_region
    go_wp2_with fail
    refine⟨⟨j+1,by omega,by go_num,hid HW.out.drew⟩,by simp[intOf];omega⟩
  · go_wp2_with fail
    go_ret
    exact⟨rfl,HW.out⟩
end
section
open Go Go.RowKit Go.Shelf
theorem Yea {A B:Nat} {s:ASt} {w w':World} {e:Ending} (hr:Zd7 s=false) (h:Zd6 B A 8 0 0 (fun _=>Option.none) s w e w'):
 ∃R' s',e=.returned (.tuple #[iV 4096,iV 0])/\BV B A 8 s' w'/\Bud 9 1 1 R' 1 s'/\Zam A w w'/\R' 0=some (0,true):=by
 have u:upN 0 (2^0)=0:=by decide
 rcases h with⟨g1,x,l,R1,s0,⟨p1,p2,p3,p4,p5,p6⟩,rfl,R',s',h1,h2,h3,h4,h5,h6,h7⟩|⟨_,_,⟨q1,_⟩|⟨_,q2,_⟩⟩
 · rcases p6 with⟨rfl,rfl,rfl⟩|⟨c1,c2,c3,c4,rfl⟩
   · cases p2
   · rw[u]at c2
     simp at c2;subst c2;have a:=p4.al _ _ _ p2;have hl:=Zae l;have hx:x=0:=by omega
     subst hx
     exact⟨R',s',rfl,h1,h2,h3,(h4 0 0).2 (.inl ⟨rfl,rfl⟩)⟩
 · rw[u]at q1;omega
 · rw[hr]at q2;cases q2
theorem Zpo {R:Zag} (hT:Til 1 R 1) (h:R 0=some (0,true)):Zbi R 1=[(0,0,true)]:=by
 have h1:=Zi6 hT.toTile h;exact h1
theorem Ygs {R:Zag} (hT:Til 1 R 1) (h:R 0=some (0,true)):stT R 1 8 (Zbi R 1).length=[1,3,0,0,0,0,0,0,0]:=by
 rw[show stT R 1 8 (Zbi R 1).length=stA R 1 8 from rfl,Yfi,Zpo hT h];rfl
theorem Yaq {R:Zag} (hT:Til 1 R 1) (h:R 0=some (0,true)):Zpr 8 1 3 R=false:=by
 unfold Zpr Ye1;rw[Zpo hT h];decide
theorem Yar {R:Zag} (hT:Til 1 R 1) (h:R 0=some (0,true)):Zpr 8 1 2 R=true:=by
 unfold Zpr Ye1;rw[Zpo hT h];decide
theorem Yg3 (w:World):Calls Tryz.prog 112 #[] w (Zan (.bool true) w):=by
 have L1:Hid (Zhl 9=9):=hid (by decide);go_enter Tryz.func112,Tryz.ntmps112;go_wp2_with fail
 refine(Zh3 9 _).mono ?_
 rintro e w1 ⟨A,rfl,hA,hx,hb,hm⟩;rw[L1.out]at hx;have HX1:=hid hx;have HB1:=hid hb;have HN:=hid (Yej hx (by show 9<=80;omega) ⟨rfl,rfl⟩);clear hx hb hm hA;go_wp2_with fail;refine HN.out.mono ?_;rintro e w2 (⟨q,_⟩|⟨_,q,_⟩|⟨n,B,hn,_,hr,rfl,hbv,hg,hBw⟩)
 · exact absurd q (by decide)
 · exact absurd q (by decide)
 have hn8:n=8:=by have:(Zco 9).L=9:=rfl;omega
 subst hn8;have HV2:=hid hbv;have HB2:=hid (HB1.out.Zaq hg);have hbu:Bud 9 0 0 (fun _=>Option.none) 0 (bS0 (Zco 9) 8):=Bud.start 8 (by omega) (by omega) _ _;have hrf:(bS0 (Zco 9) 8).rf=false:=rfl;have HA1:=hid (Zey hbv hbu 0 (by omega));have HRF:=hid hrf;clear hbv hg hBw hn hr hbu hrf HN;go_wp2_with fail;refine HA1.out.mono ?_;intro e w3 hap;obtain⟨R1,s1,rfl,hbv,hbu,hg,h0⟩:=Yea (Zox HRF.out) hap;have HV3:=hid hbv;have HB3:=hid (HB2.out.Zaq hg);have HST:=hid fun X (hX:BV B A 8 s1 X)=>Yed hX hbu
 have HC3:Hid (∀X,BV B A 8 s1 X->Calls Tryz.prog 25 #[Zcv B,iV 3] X (Zan (.bool false) X)):=hid fun X hX=>Yaq hbu.ti h0▸Yje hX hbu 3 (by omega)
 have HC2:Hid (∀X,BV B A 8 s1 X->Calls Tryz.prog 25 #[Zcv B,iV 2] X (Zan (.bool true) X)):=hid fun X hX=>Yar hbu.ti h0▸Yje hX hbu 2 (by omega)
 have HEX:=hid (Ygs hbu.ti h0);clear hap hbv hbu hg h0 HA1;go_wp2_with fail
 refine(Yj4 _).mono ?_
 rintro e w4 ⟨rfl,hb⟩;have HV4:=hid (HV3.out.below hb);have HB4:=hid (HB3.out.below HV3.out.1 hb);clear hb;go_wp2_with fail
 refine(HST.out _ HV4.out).mono ?_
 rintro e w5 ⟨D,rfl,hd,hD,hb⟩;have HV5:=hid (HV4.out.below hb);have HB5:=hid (HB4.out.below HV4.out.1 hb);rw[HEX.out]at hd;have HD:=hid hd;clear hb hd hD HST;go_wp2_with fail
 refine(Ztk D _ _ _ [1,3,0,0,0,0,0,0,0] (by decide) _ (HD.out.below (Zaj _ _)) (Zab _ _)).mono ?_
 rintro e w6 ⟨rfl,hb⟩;have hb2:=(Zaj w5 _).trans (hb.mono (Zaj w5 _).size);have HV6:=hid (HV5.out.below hb2);have HB6:=hid (HB5.out.below HV5.out.1 hb2);clear hb hb2;go_wp2_with fail
 refine(HC3.out _ HV6.out).mono ?_
 rintro e w7 ⟨rfl,hb⟩;have HV7:=hid (HV6.out.below hb);have HB7:=hid (HB6.out.below HV6.out.1 hb);clear hb;go_wp2_with fail
 refine(HC2.out _ HV7.out).mono ?_
 rintro e w8 ⟨rfl,hb⟩;have HB8:=hid (HB7.out.below HV7.out.1 hb);clear hb;go_wp2_with fail
 go_ret
 exact⟨rfl,HB8.out.bel⟩
end
section
open Go Go.RowKit Go.Shelf
section
variable {Q B A n g K:Nat} {R:Zag} {q:Nat->List Nat} {hs:List Hd} {s:ASt} {v:Value} {w y:World}
theorem Zez:Zc7 44:=by unfold Zc7;decide
theorem Zl4:∀k,Zci (fun _=>[]) k=0
 |0=>rfl
 |k+1=>by unfold Zci;rw[Zl4 k];simp
theorem Yhm.cq {g K2:Nat} {R:Zag} {q:Nat->List Nat} {R':Zag} {q':Nat->List Nat} (h:Yhm g K2 R q R' q'):Zci q' 5<=K2:=by
 rcases h with⟨h,_,rfl⟩|⟨_,rfl,_⟩
 · exact h
 · rw[Zl4];omega
theorem Yha.cq {n g:Nat} {R:Zag} {q:Nat->List Nat} {hs:List Hd} {s:ASt} {k:Int} {u g':Nat} {R':Zag} {q':Nat->List Nat} {hs':List Hd} {s':ASt} {c0 c1 c2 er:Int} {K:Nat} (h:Yha n g R q hs s k u g' R' q' hs' s' c0 c1 c2 er) (hc:Zci q 5<=K):Zci q' 5<=K:=by
 rcases h with⟨_,_,_,_,_,_,_,rfl,_⟩|⟨kn,_,_,_,⟨i,l,_,_,_,_,_,_,⟨rest,hl,_,e,rfl,_⟩|⟨_,_,rfl,_⟩|⟨_,_,_,_,_,_,_,_,_,_,rfl,_⟩⟩|⟨_,_,_,_,_,_,_,_,_,_,_,⟨_,_,_,rfl⟩|⟨_,_,_,_,_,_,_,rfl⟩⟩⟩
 · exact hc
 · have:=Ykh q l rest 5
   rw[if_pos hl,if_pos hl,e,List.length_cons,Nat.add_mul]at this;omega
 · exact hc
 · rw[Zl4];omega
 · exact hc
 · rw[Zl4];omega
theorem Zz9 (hrv:RcV Q B A n 4096 s w) (hpy:PyS n g K R q hs s) {Ds:List Nat} (hDz:∀z∈Ds,z<w.heap.size) (hdw:DWo A (n:Int) (g:Int) (rfI s) (K:Int) (tkT R g) q hs v Ds w) (d k m:Int) (d0:0<=d) (d1:d<=255) (k0: -9223372036854775808<=k) (k1:k<=9223372036854775807) (m0: -9223372036854775808<=m) (m1:m<=9223372036854775807) (e8:¬200<=d/\d%8=5):
 Calls Tryz.prog 19 #[rcP Q,v,.agg #[.int .u8 d,iV k,iV m]] w (Zom Q B A n Ds (Zci q 5<=K) w):=by
 have HPY:=hid hpy;have HRV:=hid hrv;have HDZ:=hid hDz;have hw0:=hdw;have hX0:=WkS.start hrv;have HO:=hid hrv.1.1;have HRL:=hid (Zi9 hrv.1.1);obtain⟨u,c,P,nn,C,op,on,oc,rfl,HI0, -⟩:=hdw;obtain⟨ln,ht⟩:=eX ((tkT R g).length);obtain⟨ri,hri⟩:=eX (rfI s);have hX1:=((hX0.new (rqA (n:Int) (g:Int) ri (K:Int) (.slice u ln c) P nn C (.slice op on oc)) 33 Za3).new #[.int .u8 d,iV k,iV m] 44 Zez).new rqZ 33 Za3;have HI:=hid (And.intro HI0.ho (And.intro HI0.hn HI0.hl));rw[ht,hri]at hw0;rw[ht,hri];have HRI:=hid hri;clear ht hri hrv hpy hDz hX0 HI0;have HMM:=hid (show -9223372036854775808<=m/\m<=9223372036854775807 from⟨m0,m1⟩);have HKK:=hid (show -9223372036854775808<=k/\k<=9223372036854775807 from⟨k0,k1⟩);go_enter Tryz.func19,Tryz.ntmps19;go_upto_region 1 with fail;change Code.wp _ _ _ _ (((w.alloc (.cells (rqA (n:Int) (g:Int) ri (K:Int) (.slice u ln c) P nn C (.slice op on oc)) 33)).alloc (.cells #[.int .u8 d,iV k,iV m] 44)).alloc (.cells rqZ 33));have hE1:(w.alloc (.cells (rqA (n:Int) (g:Int) ri (K:Int) (.slice u ln c) P nn C (.slice op on oc)) 33)).heap.size=w.heap.size+1:=by simp
 have hF1:((w.alloc (.cells (rqA (n:Int) (g:Int) ri (K:Int) (.slice u ln c) P nn C (.slice op on oc)) 33)).alloc (.cells #[.int .u8 d,iV k,iV m] 44)).heap.size=w.heap.size+1+1:=by simp
 obtain⟨x,hx⟩:=eX ((((w.alloc (.cells (rqA (n:Int) (g:Int) ri (K:Int) (.slice u ln c) P nn C (.slice op on oc)) 33)).alloc (.cells #[.int .u8 d,iV k,iV m] 44)).alloc (.cells rqZ 33)));rw[hx,hE1,hF1]at hX1;obtain⟨F,hF⟩:=eX (w.heap.size+1+1);obtain⟨E,hE⟩:=eX (w.heap.size+1);obtain⟨D,hD⟩:=eX w.heap.size;have hDF:∀z∈[D,F],w.heap.size<=z:=fun z hz=>by simp at hz;omega
 rw[hF,hE,hD]at hX1;rw[hx]
 try rw[hF]
 try rw[hE]
 try rw[hD]
 have HX:=hid hX1;have HDO:=hid ((hw0.more hDF).Zaq HO.out hX1.fr.wt);have HIX:=hid (HI.out.1.Zaq HO.out hX1.fr.wt);clear hx hE1 hF1 hE hD hF hX1 hw0 hDF HO;obtain⟨⟨p0,p1,p2,p3,p4⟩, -⟩:=HX.out.rv.all;have a0:x.cell? (aD E 0)=some (.int .u8 d):=HX.out.fr.Zak 0 rfl;have a1:x.cell? (aD E 1)=some (iV k):=HX.out.fr.Zak 1 rfl;have a2:x.cell? (aD E 2)=some (iV m):=HX.out.fr.Zak 2 rfl;have c200:¬200<=d:=e8.1;obtain⟨-,e8⟩:=e8
 have hDs:∀z∈[D,F]++Ds,z<x.heap.size:=fun z hz=>by
  have h0:=(Array.getElem?_eq_some_iff.1 HX.out.fr.at0).1;have h1:=(Array.getElem?_eq_some_iff.1 HX.out.fr.at2).1
  rcases List.mem_append.1 hz with hz|hz
  · simp only[List.mem_cons,List.not_mem_nil,or_false]at hz
    rcases hz with rfl|rfl<;>assumption
  · exact Nat.lt_of_lt_of_le (HDZ.out z hz) HX.out.fr.wt.size
 have HGV:=hid (Ygj hDs HX.out.rv HPY.out (by rw[HRI.out];exact HDO.out) m HMM.out.1 HMM.out.2);clear hDs;have cQ:=Zaf HX.out.fr.at2;go_wp2_with fail;refine HGV.out.mono ?_;rintro e w3 ⟨g2,K2,R',q',hs',s',v',rfl,hv2,hp2,hd3,hg2,hcq⟩;have HCQ:=hid hcq;clear hcq;obtain⟨ri2,hr2⟩:=eX (rfI s');rw[hr2]at hd3;have HRR:=hid hr2;have HX3:=hid (HX.out.Zf9 hv2 hg2);have HP2:=hid hp2;clear hv2 hg2 hp2 hr2 HX HDO HGV p0 p1 p2 p3 p4 a0 a1 a2;clear cQ;have HD3:=hid hd3;obtain⟨u2,t2,P2,nn2,C2,op2,on2,oc2,rfl, -⟩:=hd3;obtain⟨ln2,hln2⟩:=eX ((tkT R' g2).length);rw[hln2]at HD3⊢;clear hln2;have zQ:=Zap HX3.out.fr.at0;have oQ:=Zbl HX3.out.fr.at0;have HXF:=hid (HX3.out.Zd9 (rqL (n:Int) (g2:Int) ri2 (K2:Int) (.slice u2 ln2 t2) P2 nn2 C2 (.slice op2 on2 oc2)) rfl);have HDF:=hid (HD3.out.stR HX3.out.rv.1.1 HX3.out.fr.at0 (by decide) oQ.2.2.1 HX3.out.fr.Zji (by simp) (rqL (n:Int) (g2:Int) ri2 (K2:Int) (.slice u2 ln2 t2) P2 nn2 C2 (.slice op2 on2 oc2)) 0);go_wp2_with fail;change bodyPost _ _ _ _ _ (stR w3 F (rqL (n:Int) (g2:Int) ri2 (K2:Int) (.slice u2 ln2 t2) P2 nn2 C2 (.slice op2 on2 oc2)) 0);have yQ:=Zaf HXF.out.fr.at0;have HPO:=hid ((⟨g2,K2,R',q',hs',s',_,rfl,HXF.out.rv,HP2.out,by rw[HRR.out];exact HDF.out.sub (fun z hz=>List.mem_append_right _ hz),HXF.out.fr.wt,HCQ.out⟩:Zom Q B A n Ds (Zci q 5<=K) w (.returned (.tuple #[.agg (rqA (n:Int) (g2:Int) ri2 (K2:Int) (.slice u2 ln2 t2) P2 nn2 C2 (.slice op2 on2 oc2)),.bool true])) (stR w3 F (rqL (n:Int) (g2:Int) ri2 (K2:Int) (.slice u2 ln2 t2) P2 nn2 C2 (.slice op2 on2 oc2)) 0)));obtain⟨z,hz⟩:=eX (stR w3 F (rqL (n:Int) (g2:Int) ri2 (K2:Int) (.slice u2 ln2 t2) P2 nn2 C2 (.slice op2 on2 oc2)) 0);rw[hz]at HPO yQ⊢;exact bodyPost_ret (v:=.tuple #[.agg (rqA (n:Int) (g2:Int) ri2 (K2:Int) (.slice u2 ln2 t2) P2 nn2 C2 (.slice op2 on2 oc2)),.bool true]) (by simp[results,Tryz.results19,go_sem,yQ]) rfl HPO.out
theorem Zz6 (hrv:RcV Q B A n 4096 s w) (hpy:PyS n g K R q hs s) {Ds:List Nat} (hDz:∀z∈Ds,z<w.heap.size) (hdw:DWo A (n:Int) (g:Int) (rfI s) (K:Int) (tkT R g) q hs v Ds w) (d k m:Int) (d0:0<=d) (d1:d<=255) (k0: -9223372036854775808<=k) (k1:k<=9223372036854775807) (m0: -9223372036854775808<=m) (m1:m<=9223372036854775807) (e8:¬200<=d/\d%8=6):
 Calls Tryz.prog 19 #[rcP Q,v,.agg #[.int .u8 d,iV k,iV m]] w (Zom Q B A n Ds (Zci q 5<=K) w):=by
 have HPY:=hid hpy;have HRV:=hid hrv;have HDZ:=hid hDz;have hw0:=hdw;have hX0:=WkS.start hrv;have HO:=hid hrv.1.1;have HRL:=hid (Zi9 hrv.1.1);obtain⟨u,c,P,nn,C,op,on,oc,rfl,HI0, -⟩:=hdw;obtain⟨ln,ht⟩:=eX ((tkT R g).length);obtain⟨ri,hri⟩:=eX (rfI s);have hX1:=((hX0.new (rqA (n:Int) (g:Int) ri (K:Int) (.slice u ln c) P nn C (.slice op on oc)) 33 Za3).new #[.int .u8 d,iV k,iV m] 44 Zez).new rqZ 33 Za3;have HI:=hid (And.intro HI0.ho (And.intro HI0.hn HI0.hl));rw[ht,hri]at hw0;rw[ht,hri];have HRI:=hid hri;clear ht hri hrv hpy hDz hX0 HI0;have HMM:=hid (show -9223372036854775808<=m/\m<=9223372036854775807 from⟨m0,m1⟩);have HKK:=hid (show -9223372036854775808<=k/\k<=9223372036854775807 from⟨k0,k1⟩);go_enter Tryz.func19,Tryz.ntmps19;go_upto_region 1 with fail;change Code.wp _ _ _ _ (((w.alloc (.cells (rqA (n:Int) (g:Int) ri (K:Int) (.slice u ln c) P nn C (.slice op on oc)) 33)).alloc (.cells #[.int .u8 d,iV k,iV m] 44)).alloc (.cells rqZ 33));have hE1:(w.alloc (.cells (rqA (n:Int) (g:Int) ri (K:Int) (.slice u ln c) P nn C (.slice op on oc)) 33)).heap.size=w.heap.size+1:=by simp
 have hF1:((w.alloc (.cells (rqA (n:Int) (g:Int) ri (K:Int) (.slice u ln c) P nn C (.slice op on oc)) 33)).alloc (.cells #[.int .u8 d,iV k,iV m] 44)).heap.size=w.heap.size+1+1:=by simp
 obtain⟨x,hx⟩:=eX ((((w.alloc (.cells (rqA (n:Int) (g:Int) ri (K:Int) (.slice u ln c) P nn C (.slice op on oc)) 33)).alloc (.cells #[.int .u8 d,iV k,iV m] 44)).alloc (.cells rqZ 33)));rw[hx,hE1,hF1]at hX1;obtain⟨F,hF⟩:=eX (w.heap.size+1+1);obtain⟨E,hE⟩:=eX (w.heap.size+1);obtain⟨D,hD⟩:=eX w.heap.size;have hDF:∀z∈[D,F],w.heap.size<=z:=fun z hz=>by simp at hz;omega
 rw[hF,hE,hD]at hX1;rw[hx]
 try rw[hF]
 try rw[hE]
 try rw[hD]
 have HX:=hid hX1;have HDO:=hid ((hw0.more hDF).Zaq HO.out hX1.fr.wt);have HIX:=hid (HI.out.1.Zaq HO.out hX1.fr.wt);clear hx hE1 hF1 hE hD hF hX1 hw0 hDF HO;obtain⟨⟨p0,p1,p2,p3,p4⟩, -⟩:=HX.out.rv.all;have a0:x.cell? (aD E 0)=some (.int .u8 d):=HX.out.fr.Zak 0 rfl;have a1:x.cell? (aD E 1)=some (iV k):=HX.out.fr.Zak 1 rfl;have a2:x.cell? (aD E 2)=some (iV m):=HX.out.fr.Zak 2 rfl;have c200:¬200<=d:=e8.1;obtain⟨-,e8⟩:=e8;have HCQ:Hid (Zci q 5<=K->Zci (fun _=>[]) 5<=K):=hid fun _=>by rw[Zl4];omega
 go_upto_region 12 with fail;have HPT:=hid fun X (hX:RcV Q B A n 4096 s X)=>Yie hX HPY.out
 go_upto_region 13 with fail
 refine(HPT.out _ HX.out.rv).mono ?_
 rintro e w2 ⟨R',s',rfl,hv2,hg2,hp2,he,hr⟩;have HRR:=hid (hr.trans HRI.out);have HX2:=hid (HX.out.Zf9 hv2 hg2);have HD2:=hid (HDO.out.Zaq HX.out.rv.1.1 hg2);have HP2:=hid hp2;have HE2:=hid he;clear hv2 hg2 hp2 he hr HX HDO HPT;clear p0 p1 p2 p3 p4 a0 a1 a2;have cQ:=Zaf HX2.out.fr.at2;have a0:=HX2.out.fr.Zak 0 rfl;have a1:=HX2.out.fr.Zak 1 rfl;have a2:=HX2.out.fr.Zak 2 rfl
 have hDs:∀z∈[D,F]++Ds,z<w2.heap.size:=fun z hz=>by
  have h0:=(Array.getElem?_eq_some_iff.1 HX2.out.fr.at0).1;have h1:=(Array.getElem?_eq_some_iff.1 HX2.out.fr.at2).1
  rcases List.mem_append.1 hz with hz|hz
  · simp only[List.mem_cons,List.not_mem_nil,or_false]at hz
    rcases hz with rfl|rfl<;>assumption
  · exact Nat.lt_of_lt_of_le (HDZ.out z hz) HX2.out.fr.wt.size
 have HDT:=hid (Zvy HPY.out HX2.out.rv.1.1 HE2.out hDs HD2.out);clear hDs;obtain⟨cn,hcn⟩:=eX (((Zci q 5:Nat):Int):Int);rw[hcn]at HDT⊢;clear hcn;go_upto_region 14 with fail;refine HDT.out.mono ?_;rintro e w3 ⟨v',rfl,hd3,hb⟩;have HX3:=hid (HX2.out.below hb);clear hb HX2 HD2 HDT;clear cQ;have HD3:=hid hd3;obtain⟨u2,t2,P2,nn2,C2,op2,on2,oc2,rfl, -⟩:=hd3;obtain⟨ln2,hln2⟩:=eX ((tkT R' g).length);rw[hln2]at HD3⊢;clear hln2;go_upto_region 14 with fail;change Code.wp _ _ _ _ (w3.alloc (.cells (rqA (n:Int) (g:Int) ri (K:Int) (.slice u2 ln2 t2) P2 nn2 C2 (.slice op2 on2 oc2)) 33));have HX4:=hid (HX3.out.new (rqA (n:Int) (g:Int) ri (K:Int) (.slice u2 ln2 t2) P2 nn2 C2 (.slice op2 on2 oc2)) 33 Za3);have HD4:=hid (HD3.out.Zaq HX3.out.rv.1.1 (Zam.Zad HX3.out.rv.1.1 (Zaj w3 (.cells (rqA (n:Int) (g:Int) ri (K:Int) (.slice u2 ln2 t2) P2 nn2 C2 (.slice op2 on2 oc2)) 33))));obtain⟨w4,hw4⟩:=eX (w3.alloc (.cells (rqA (n:Int) (g:Int) ri (K:Int) (.slice u2 ln2 t2) P2 nn2 C2 (.slice op2 on2 oc2)) 33));obtain⟨H,hH⟩:=eX w3.heap.size;rw[hw4]at HX4 HD4⊢;rw[hH]at HX4⊢;clear hw4 hH HX3 HD3 a0 a1 a2;have cQ:=Zaf HX4.out.fr.at0;have zQ:=Zap HX4.out.fr.at1;have oQ:=Zbl HX4.out.fr.at1;have HXF:=hid (HX4.out.Zgk (rqL (n:Int) (g:Int) ri (K:Int) (.slice u2 ln2 t2) P2 nn2 C2 (.slice op2 on2 oc2)) rfl);have HDF:=hid (HD4.out.stR HX4.out.rv.1.1 HX4.out.fr.at1 (by decide) oQ.2.2.1 HX4.out.fr.Ygc (by simp) (rqL (n:Int) (g:Int) ri (K:Int) (.slice u2 ln2 t2) P2 nn2 C2 (.slice op2 on2 oc2)) 0);go_wp2_with fail;change bodyPost _ _ _ _ _ (stR w4 F (rqL (n:Int) (g:Int) ri (K:Int) (.slice u2 ln2 t2) P2 nn2 C2 (.slice op2 on2 oc2)) 0);have yQ:=Zaf HXF.out.fr.at1;have HPO:=hid ((⟨g,K,R',_,hs,s',_,rfl,HXF.out.rv,HP2.out,by rw[HRR.out];exact HDF.out.sub (fun z hz=>List.mem_append_right _ hz),HXF.out.fr.wt,HCQ.out⟩:Zom Q B A n Ds (Zci q 5<=K) w (.returned (.tuple #[.agg (rqA (n:Int) (g:Int) ri (K:Int) (.slice u2 ln2 t2) P2 nn2 C2 (.slice op2 on2 oc2)),.bool true])) (stR w4 F (rqL (n:Int) (g:Int) ri (K:Int) (.slice u2 ln2 t2) P2 nn2 C2 (.slice op2 on2 oc2)) 0)));obtain⟨z,hz⟩:=eX (stR w4 F (rqL (n:Int) (g:Int) ri (K:Int) (.slice u2 ln2 t2) P2 nn2 C2 (.slice op2 on2 oc2)) 0);rw[hz]at HPO yQ⊢;exact bodyPost_ret (v:=.tuple #[.agg (rqA (n:Int) (g:Int) ri (K:Int) (.slice u2 ln2 t2) P2 nn2 C2 (.slice op2 on2 oc2)),.bool true]) (by simp[results,Tryz.results19,go_sem,yQ]) rfl HPO.out
theorem Zz8 (hrv:RcV Q B A n 4096 s w) (hpy:PyS n g K R q hs s) {Ds:List Nat} (hDz:∀z∈Ds,z<w.heap.size) (hdw:DWo A (n:Int) (g:Int) (rfI s) (K:Int) (tkT R g) q hs v Ds w) (d k m:Int) (d0:0<=d) (d1:d<=255) (k0: -9223372036854775808<=k) (k1:k<=9223372036854775807) (m0: -9223372036854775808<=m) (m1:m<=9223372036854775807) (e8:¬200<=d/\d%8=7):
 Calls Tryz.prog 19 #[rcP Q,v,.agg #[.int .u8 d,iV k,iV m]] w (Zom Q B A n Ds (Zci q 5<=K) w):=by
 have HPY:=hid hpy;have HRV:=hid hrv;have HDZ:=hid hDz;have hw0:=hdw;have hX0:=WkS.start hrv;have HO:=hid hrv.1.1;have HRL:=hid (Zi9 hrv.1.1);obtain⟨u,c,P,nn,C,op,on,oc,rfl,HI0, -⟩:=hdw;obtain⟨ln,ht⟩:=eX ((tkT R g).length);obtain⟨ri,hri⟩:=eX (rfI s);have hX1:=((hX0.new (rqA (n:Int) (g:Int) ri (K:Int) (.slice u ln c) P nn C (.slice op on oc)) 33 Za3).new #[.int .u8 d,iV k,iV m] 44 Zez).new rqZ 33 Za3;have HI:=hid (And.intro HI0.ho (And.intro HI0.hn HI0.hl));rw[ht,hri]at hw0;rw[ht,hri];have HRI:=hid hri;clear ht hri hrv hpy hDz hX0 HI0;have HMM:=hid (show -9223372036854775808<=m/\m<=9223372036854775807 from⟨m0,m1⟩);have HKK:=hid (show -9223372036854775808<=k/\k<=9223372036854775807 from⟨k0,k1⟩);go_enter Tryz.func19,Tryz.ntmps19;go_upto_region 1 with fail;change Code.wp _ _ _ _ (((w.alloc (.cells (rqA (n:Int) (g:Int) ri (K:Int) (.slice u ln c) P nn C (.slice op on oc)) 33)).alloc (.cells #[.int .u8 d,iV k,iV m] 44)).alloc (.cells rqZ 33));have hE1:(w.alloc (.cells (rqA (n:Int) (g:Int) ri (K:Int) (.slice u ln c) P nn C (.slice op on oc)) 33)).heap.size=w.heap.size+1:=by simp
 have hF1:((w.alloc (.cells (rqA (n:Int) (g:Int) ri (K:Int) (.slice u ln c) P nn C (.slice op on oc)) 33)).alloc (.cells #[.int .u8 d,iV k,iV m] 44)).heap.size=w.heap.size+1+1:=by simp
 obtain⟨x,hx⟩:=eX ((((w.alloc (.cells (rqA (n:Int) (g:Int) ri (K:Int) (.slice u ln c) P nn C (.slice op on oc)) 33)).alloc (.cells #[.int .u8 d,iV k,iV m] 44)).alloc (.cells rqZ 33)));rw[hx,hE1,hF1]at hX1;obtain⟨F,hF⟩:=eX (w.heap.size+1+1);obtain⟨E,hE⟩:=eX (w.heap.size+1);obtain⟨D,hD⟩:=eX w.heap.size;have hDF:∀z∈[D,F],w.heap.size<=z:=fun z hz=>by simp at hz;omega
 rw[hF,hE,hD]at hX1;rw[hx]
 try rw[hF]
 try rw[hE]
 try rw[hD]
 have HX:=hid hX1;have HDO:=hid ((hw0.more hDF).Zaq HO.out hX1.fr.wt);have HIX:=hid (HI.out.1.Zaq HO.out hX1.fr.wt);clear hx hE1 hF1 hE hD hF hX1 hw0 hDF HO;obtain⟨⟨p0,p1,p2,p3,p4⟩, -⟩:=HX.out.rv.all;have a0:x.cell? (aD E 0)=some (.int .u8 d):=HX.out.fr.Zak 0 rfl;have a1:x.cell? (aD E 1)=some (iV k):=HX.out.fr.Zak 1 rfl;have a2:x.cell? (aD E 2)=some (iV m):=HX.out.fr.Zak 2 rfl;have c200:¬200<=d:=e8.1;obtain⟨-,e8⟩:=e8;have HPK:=hid fun X (hX:RcV Q B A n 4096 s X)=>Yig hX HPY.out m HMM.out.1 HMM.out.2
 go_upto_region 17 with fail
 refine(HPK.out _ HX.out.rv).mono ?_
 rintro e w2 ⟨R',q',s',rfl,hv2,hg2,hp2,he,hr⟩;have HRR:=hid (hr.trans HRI.out);have HX2:=hid (HX.out.Zf9 hv2 hg2);have HD2:=hid (HDO.out.Zaq HX.out.rv.1.1 hg2);have HP2:=hid hp2;have HE2:=hid he;have HCQ:Hid (Zci q 5<=K->Zci q' 5<=m.toNat):=hid fun _=>he.cq
 clear hv2 hg2 hp2 he hr HX HDO HPK;clear p0 p1 p2 p3 p4 a0 a1 a2;have cQ:=Zaf HX2.out.fr.at2;have a0:=HX2.out.fr.Zak 0 rfl;have a1:=HX2.out.fr.Zak 1 rfl;have a2:=HX2.out.fr.Zak 2 rfl
 have hDs:∀z∈[D,F]++Ds,z<w2.heap.size:=fun z hz=>by
  have h0:=(Array.getElem?_eq_some_iff.1 HX2.out.fr.at0).1;have h1:=(Array.getElem?_eq_some_iff.1 HX2.out.fr.at2).1
  rcases List.mem_append.1 hz with hz|hz
  · simp only[List.mem_cons,List.not_mem_nil,or_false]at hz
    rcases hz with rfl|rfl<;>assumption
  · exact Nat.lt_of_lt_of_le (HDZ.out z hz) HX2.out.fr.wt.size
 have HDT:=hid (Zv6 HPY.out HX2.out.rv.1.1 m HMM.out.1 HMM.out.2 HE2.out hDs HD2.out);clear hDs HE2;obtain⟨K2,hK2⟩:=eX m.toNat;rw[hK2]at HDT HP2 HCQ;clear hK2;go_wp2_with fail;refine HDT.out.mono ?_;rintro e w3 ⟨v',rfl,hd3,hb⟩;have HX3:=hid (HX2.out.below hb);clear hb HX2 HD2 HDT a0 a1 a2;clear cQ;have HD3:=hid hd3;obtain⟨u2,t2,P2,nn2,C2,op2,on2,oc2,rfl, -⟩:=hd3;obtain⟨ln2,hln2⟩:=eX ((tkT R' g).length);rw[hln2]at HD3⊢;clear hln2;have zQ:=Zap HX3.out.fr.at0;have oQ:=Zbl HX3.out.fr.at0;have HXF:=hid (HX3.out.Zd9 (rqL (n:Int) (g:Int) ri (K2:Int) (.slice u2 ln2 t2) P2 nn2 C2 (.slice op2 on2 oc2)) rfl);have HDF:=hid (HD3.out.stR HX3.out.rv.1.1 HX3.out.fr.at0 (by decide) oQ.2.2.1 HX3.out.fr.Zji (by simp) (rqL (n:Int) (g:Int) ri (K2:Int) (.slice u2 ln2 t2) P2 nn2 C2 (.slice op2 on2 oc2)) 0);go_wp2_with fail;change bodyPost _ _ _ _ _ (stR w3 F (rqL (n:Int) (g:Int) ri (K2:Int) (.slice u2 ln2 t2) P2 nn2 C2 (.slice op2 on2 oc2)) 0);have yQ:=Zaf HXF.out.fr.at0;have HPO:=hid ((⟨g,K2,R',q',hs,s',_,rfl,HXF.out.rv,HP2.out,by rw[HRR.out];exact HDF.out.sub (fun z hz=>List.mem_append_right _ hz),HXF.out.fr.wt,HCQ.out⟩:Zom Q B A n Ds (Zci q 5<=K) w (.returned (.tuple #[.agg (rqA (n:Int) (g:Int) ri (K2:Int) (.slice u2 ln2 t2) P2 nn2 C2 (.slice op2 on2 oc2)),.bool true])) (stR w3 F (rqL (n:Int) (g:Int) ri (K2:Int) (.slice u2 ln2 t2) P2 nn2 C2 (.slice op2 on2 oc2)) 0)));obtain⟨z,hz⟩:=eX (stR w3 F (rqL (n:Int) (g:Int) ri (K2:Int) (.slice u2 ln2 t2) P2 nn2 C2 (.slice op2 on2 oc2)) 0);rw[hz]at HPO yQ⊢;exact bodyPost_ret (v:=.tuple #[.agg (rqA (n:Int) (g:Int) ri (K2:Int) (.slice u2 ln2 t2) P2 nn2 C2 (.slice op2 on2 oc2)),.bool true]) (by simp[results,Tryz.results19,go_sem,yQ]) rfl HPO.out
end
end
end Go.Proofs.YtgcidfenjlmljaaGreat.Bt
