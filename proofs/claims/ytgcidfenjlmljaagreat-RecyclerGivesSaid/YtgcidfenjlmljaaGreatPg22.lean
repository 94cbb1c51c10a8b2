import Derived.Test.YtgcidfenjlmljaaGreatPg11
import Derived.Laws.Rows
import Derived.Deep.DeepCutAuto
import Derived.RegionTactic
import Derived.Deep.MidRow
import Derived.Test.YtgcidfenjlmljaaGreatPg08
import Derived.Laws.CopyRow
import Derived.Test.YtgcidfenjlmljaaGreatPgR
set_option linter.unusedVariables false
set_option linter.unusedSimpArgs false
set_option maxRecDepth 100000
set_option maxHeartbeats 16000000
namespace Go.Proofs.YtgcidfenjlmljaaGreat.Bt
section
open Go Go.RowKit Go.Shelf
def recC (n:Nat) (f:Nat->Nat):Array Value:=((iV n)::(List.range 33).map fun i=>Value.int .i64 ((f i:Nat):Int)).toArray
theorem Zay (n:Nat) (f:Nat->Nat):(recC n f).size=34:=by simp[recC]
theorem Zqe (n:Nat) (f:Nat->Nat):(recC n f)[0]?=some (iV n):=by simp[recC]
theorem Zjc (n:Nat) (f:Nat->Nat) (i:Nat) (h:i<33):(recC n f)[1+i]?=some (iV ((f i:Nat):Int)):=by
 rw[Nat.add_comm];simp[recC,h]
def VR (B n:Nat) (f:Nat->Nat) (x:World):Prop:=x.heap[B]?=some (.cells (recC n f) 195 (0,0))
theorem VR.below {B n:Nat} {f:Nat->Nat} {x y:World} (h:VR B n f x) (hb:Below x.heap.size x y):VR B n f y:=(hb.block _ (Array.getElem?_eq_some_iff.1 h).1).trans h
theorem VR.n {B n:Nat} {f:Nat->Nat} {x:World} (h:VR B n f x):x.cell? (aD B 0)=some (iV n):=(Zaa h 0).1.trans (Zqe n f)
theorem VR.f {B n:Nat} {f:Nat->Nat} {x:World} (h:VR B n f x) (i:Nat) (hi:i<33):x.cell? (aD B (1+i))=some (iV ((f i:Nat):Int)):=(Zaa h _).1.trans (Zjc n f i hi)
def Yaf (n:Nat) (i:Int):Bool:=decide (0<=i/\i<n)
theorem Zg4 (n:Nat) (f:Nat->Nat) (i:Int) (w:World):Calls Tryz.prog 211 #[.agg (recC n f),iV i] w (Zan (.bool (Yaf n i)) w):=by
 have hv:VR w.heap.size n f (w.alloc (.cells (recC n f) 195)):=Zab _ _;have c0:=hv.n;clear hv;by_cases h0:0<=i
 · by_cases h1:i<n
   · have HB:Hid (Yaf n i=true):=hid (decide_eq_true ⟨h0,h1⟩)
     go_enter Tryz.func211,Tryz.ntmps211;go_wp2_with fail
     go_ret
     exact⟨by rw[HB.out];rfl,Zaj _ _⟩
   · have HB:Hid (Yaf n i=false):=hid (decide_eq_false fun h=>h1 h.2)
     go_enter Tryz.func211,Tryz.ntmps211;go_wp2_with fail
     go_ret
     exact⟨by rw[HB.out];rfl,Zaj _ _⟩
 · have HB:Hid (Yaf n i=false):=hid (decide_eq_false fun h=>h0 h.1)
   go_enter Tryz.func211,Tryz.ntmps211;go_wp2_with fail
   go_ret
   exact⟨by rw[HB.out];rfl,Zaj _ _⟩
theorem Zg2 (n:Nat) (f:Nat->Nat) (hn:n<=32) (w:World):Calls Tryz.prog 193 #[.agg (recC n f)] w (Zan (iV ((f n:Nat):Int)) w):=by
 have hv:VR w.heap.size n f (w.alloc (.cells (recC n f) 195)):=Zab _ _;have c0:=hv.n;have c1:=hv.f n (by omega);clear hv;go_enter Tryz.func193,Tryz.ntmps193;go_wp2_with fail
 go_ret
 exact⟨rfl,Zaj _ _⟩
def atF (n:Nat) (f:Nat->Nat) (i:Int):Int:=if Yaf n i then((f i.toNat:Nat):Int)else 0
theorem Tryz.Zd3:(Tryz.prog.info? 195).map (·.size)=some 34:=by kernel_rfl
theorem Yd4 (n:Nat) (f:Nat->Nat) (hn:n<=32) (i:Int) (w:World):Calls Tryz.prog 235 #[.agg (recC n f),iV i] w (Zan (iV (atF n f i)) w):=by
 have hv:VR w.heap.size n f (w.alloc (.cells (recC n f) 195)):=Zab _ _;have HV:=hid hv;have HZ:Hid ((Tryz.prog.info? 195).map (·.size)=some (recC n f).size):=hid (by rw[Zay];exact Tryz.Zd3);cases hh:Yaf n i with
 |false=>
  have HH:=hid hh;have HA:Hid (atF n f i=0):=hid (by unfold atF;rw[hh];rfl);clear hh hv;go_enter Tryz.func235,Tryz.ntmps235
  go_wp2_with (refine wpList_load_row rfl 195 (.tmp 2) rfl w.heap.size rfl 195 (recC n f) (0,0) _ HV.out Tryz.underlying195 rfl HZ.out ?_)
  refine(Zg4 n f i _).mono ?_
  rintro e w1 ⟨rfl,hb⟩;rw[HH.out];have B1:=hid ((Zaj w (.cells (recC n f) 195)).trans (hb.mono (by simp)));clear hb;go_wp2_with fail
  go_ret
  exact⟨by rw[HA.out];rfl,B1.out⟩
 |true=>
  have hin:0<=i/\i<n:=of_decide_eq_true hh;obtain⟨k,rfl⟩:∃k:Nat,i=k:=⟨i.toNat,by omega⟩
  have hk:k<n:=by omega
  have HH:=hid hh;have HA:Hid (atF n f k=((f k:Nat):Int)):=hid (by unfold atF;rw[hh,if_pos rfl,Int.toNat_natCast]);clear hh hv hin;go_enter Tryz.func235,Tryz.ntmps235
  go_wp2_with (refine wpList_load_row rfl 195 (.tmp 2) rfl w.heap.size rfl 195 (recC n f) (0,0) _ HV.out Tryz.underlying195 rfl HZ.out ?_)
  refine(Zg4 n f k _).mono ?_
  rintro e w1 ⟨rfl,hb⟩;rw[HH.out];have B1:=hid ((Zaj w (.cells (recC n f) 195)).trans (hb.mono (by simp)));have c1:=(VR.below HV.out hb).f k (by omega);clear hb;go_wp2_with fail
  go_ret
  exact⟨by rw[HA.out];rfl,B1.out⟩
theorem Zhp (n:Nat) (f:Nat->Nat) (hn:n<=32) (k:Nat) (hk:k<n) (hm:f k<=f (k+1)) (hs:f (k+1)<=1000) (w:World):
 Calls Tryz.prog 212 #[.agg (recC n f),iV k] w (Zan (iV ((f (k+1)-f k:Nat):Int)) w):=by
 have hv:VR w.heap.size n f (w.alloc (.cells (recC n f) 195)):=Zab _ _;have c0:=hv.f k (by omega);have c1:=hv.f (k+1) (by omega);have HR:Hid (((f (k+1)-f k:Nat):Int)=(f (k+1):Int)-f k):=hid (by omega);have e1:((k:Int)+1).toNat=k+1:=by omega
 clear hv;go_enter Tryz.func212,Tryz.ntmps212;go_wp2_with fail
 go_region
 go_wp2_with fail
 go_ret
 exact⟨by rw[HR.out];rfl,(Zaj _ _).drew⟩
def Zv3 (x:Int) (W:Nat):Bool:=x/2^(8*W) !=0
theorem Zjw (n:Nat) (f:Nat->Nat) (hn:n<=32) (k:Nat) (hk:k<n) (hm:f k<=f (k+1)) (hs:f (k+1)<=1000) (hW:f (k+1)-f k<=8) (x:Int) (hx:0<=x) (hx2:x<18446744073709551616) (w:World):
 Calls Tryz.prog 200 #[.agg (recC n f),iV k,.int .u64 x] w (Zan (.bool (Zv3 x (f (k+1)-f k))) w):=by
 have hv:VR w.heap.size n f (w.alloc (.cells (recC n f) 195)):=Zab _ _;have HV:=hid hv;have HZ:Hid ((Tryz.prog.info? 195).map (·.size)=some (recC n f).size):=hid (by rw[Zay];exact Tryz.Zd3);clear hv;go_enter Tryz.func200,Tryz.ntmps200
 go_wp2_with (refine wpList_load_row rfl 195 (.tmp 3) rfl w.heap.size rfl 195 (recC n f) (0,0) _ HV.out Tryz.underlying195 rfl HZ.out ?_)
 refine(Zhp n f hn k hk hm hs _).mono ?_
 rintro e w1 ⟨rfl,hb⟩;have B1:=hid ((Zaj w (.cells (recC n f) 195)).trans (hb.mono (by simp)));clear hb;generalize f (k+1)-f k=W at*
 go_wp2_with fail
 go_ret
 exact⟨rfl,B1.out⟩
end
section
open Go Go.RowKit Go.Shelf
def RV (B V n:Nat) (f:Nat->Nat) (A va vs:Nat) (x:World):Prop:=VR B n f x/\VC V (some (aD A 0)) va vs x
theorem RV.below {B V n:Nat} {f:Nat->Nat} {A va vs:Nat} {x y:World} (h:RV B V n f A va vs x) (hb:Below x.heap.size x y):RV B V n f A va vs y:=⟨h.1.below hb,h.2.below hb⟩
theorem RV.Zaq {B V n:Nat} {f:Nat->Nat} {A va vs:Nat} {x y:World} {s:ASt} (h:RV B V n f A va vs x) (ho:On A s x) (hg:Zam A x y):RV B V n f A va vs y:=
 ⟨hg.Zdn ho h.1 (by decide) (by decide) (by decide),hg.Zdn ho h.2 (by decide) (by decide) (by decide)⟩
theorem VR.range {B n:Nat} {f:Nat->Nat} {x:World} (h:VR B n f x):x.rangeAt B 0 (recC n f).toList:=fun j v hv=>by
 rw[(Zaa h _).1,Nat.zero_add];simpa using hv
theorem RV.all {B V n:Nat} {f:Nat->Nat} {A va vs:Nat} {x:World} (h:RV B V n f A va vs x) (k:Nat) (hk:k<33):
 x.cell? (aD V 0)=some (pT A)/\x.cell? (aD V 1)=some (iV va)/\x.cell? (aD V 2)=some (iV vs)/\x.cell? (aD B (1+k))=some (iV ((f k:Nat):Int))/\x.rangeAt B 0 (recC n f).toList/\RV B V n f A va vs x:=
 ⟨(Zaa h.2 0).1,(Zaa h.2 1).1,(Zaa h.2 2).1,h.1.f k hk,h.1.range,h⟩
theorem Zmz (n:Nat) (f:Nat->Nat) (A va vs:Nat) (w:World):
 RV w.heap.size (w.heap.size+1) n f A va vs ((w.alloc (.cells (recC n f) 195)).alloc (.cells #[pT A,iV va,iV vs] 40)):=by
 obtain⟨q1,q2⟩:=Zbk w (recC n f) #[pT A,iV va,iV vs] 195 40
 exact⟨q1,q2⟩
section
variable {A:Nat} {s:ASt} {w:World}
theorem Zwr (n:Nat) (f:Nat->Nat) (va vs:Nat) (hn:n<=32) (k:Nat) (hk:k<n) (hm:f k<=f (k+1)) (hs:f (k+1)<=1000) (hW:f (k+1)-f k<=8) (x:Int) (hx:0<=x) (hx2:x<18446744073709551616) (hl:Zv3 x (f (k+1)-f k)=true):
 Calls Tryz.prog 201 #[.agg (recC n f),vwV A va vs,iV k,.int .u64 x] w (Zan (iV 16) w):=by
 have HH:Hid (Yaf n k=true):=hid (decide_eq_true ⟨by omega,by omega⟩);have HL:=hid hl;have HV:=hid (Zmz n f A va vs w);have HZ:Hid ((Tryz.prog.info? 195).map (·.size)=some (recC n f).size):=hid (by rw[Zay];exact Tryz.Zd3);clear hl;go_enter Tryz.func201,Tryz.ntmps201
 go_wp2_with (refine wpList_load_row rfl 195 (.tmp 4) rfl w.heap.size rfl 195 (recC n f) (0,0) _ HV.out.1 Tryz.underlying195 rfl HZ.out ?_)
 refine(Zg4 n f k _).mono ?_
 rintro e w1 ⟨rfl,hb⟩;rw[HH.out];have B1:=hid ((Zbm w (.cells (recC n f) 195) (.cells #[pT A,iV va,iV vs] 40)).trans (hb.mono (by simp;omega)));have HV1:=hid (HV.out.below hb);clear hb HV
 go_wp2_with (refine wpList_load_row rfl 195 (.tmp 4) rfl w.heap.size rfl 195 (recC n f) (0,0) _ HV1.out.1 Tryz.underlying195 rfl HZ.out ?_)
 refine(Zjw n f hn k hk hm hs hW x hx hx2 _).mono ?_
 rintro e w2 ⟨rfl,hb⟩;rw[HL.out];have B2:=hid (B1.out.trans (hb.mono B1.out.size));clear hb;go_wp2_with fail
 go_ret
 exact⟨rfl,B2.out⟩
theorem Zpk (h:On A s w) (n:Nat) (f:Nat->Nat) (va vs:Nat) (h1:va<=4294967296) (h2:vs<=4294967296) (hn:n<=32) (k:Nat) (hk:k<n) (hm:f k<=f (k+1)) (hs:f (k+1)<=1000) (hW:f (k+1)-f k<=8) (x:Int) (hx:0<=x) (hx2:x<18446744073709551616) (hl:Zv3 x (f (k+1)-f k)=false):
 Calls Tryz.prog 201 #[.agg (recC n f),vwV A va vs,iV k,.int .u64 x] w
  (Ret A (Zbx s (Zai va vs (f k:Nat) (f (k+1)-f k:Nat)) (f (k+1)-f k:Nat) x) (iV (Zb9 s.L s.es (Zai va vs (f k:Nat) (f (k+1)-f k:Nat)) (f (k+1)-f k:Nat))) w):=by
 have HO:=hid h;have HH:Hid (Yaf n k=true):=hid (decide_eq_true ⟨by omega,by omega⟩);have HL:=hid hl;have HV:=hid (Zmz n f A va vs w);have HZ:Hid ((Tryz.prog.info? 195).map (·.size)=some (recC n f).size):=hid (by rw[Zay];exact Tryz.Zd3);clear hl h;go_enter Tryz.func201,Tryz.ntmps201
 go_wp2_with (refine wpList_load_row rfl 195 (.tmp 4) rfl w.heap.size rfl 195 (recC n f) (0,0) _ HV.out.1 Tryz.underlying195 rfl HZ.out ?_)
 refine(Zg4 n f k _).mono ?_
 rintro e w1 ⟨rfl,hb⟩;rw[HH.out];have B1:=hid ((Zbm w (.cells (recC n f) 195) (.cells #[pT A,iV va,iV vs] 40)).trans (hb.mono (by simp;omega)));have HV1:=hid (HV.out.below hb);clear hb HV
 go_wp2_with (refine wpList_load_row rfl 195 (.tmp 4) rfl w.heap.size rfl 195 (recC n f) (0,0) _ HV1.out.1 Tryz.underlying195 rfl HZ.out ?_)
 refine(Zjw n f hn k hk hm hs hW x hx hx2 _).mono ?_
 rintro e w2 ⟨rfl,hb⟩;rw[HL.out];have B2:=hid (B1.out.trans (hb.mono B1.out.size));have HV2:=HV1.out.below hb;clear hb HV1 B1;go_wp2_with fail;obtain⟨B,hB⟩:=eX w.heap.size;obtain⟨V,hVV⟩:=eX (B+1);rw[hB]at HV2⊢;rw[hVV]at HV2⊢;clear hB hVV;have hu:=Tryz.underlying195;have hi:(Tryz.prog.info? 195).map (·.size)=some (recC n f).toList.length:=by rw[Array.length_toList];exact HZ.out
 have i0:0<=(k:Int):=by omega
 have i1:(k:Int)<33:=by omega
 refine wp_region_held_drew (S:=(fun x=>x.cell? (aD V 0)=some (pT A)/\x.cell? (aD V 1)=some (iV va)/\x.cell? (aD V 2)=some (iV vs)/\x.cell? (aD B (1+k))=some (iV ((f k:Nat):Int))/\x.rangeAt B 0 (recC n f).toList/\RV B V n f A va vs x)) (by kernel_rfl) ((HV2.below (Below.refl _ _).drew).all k (by omega)) (fun hHeld=>?_);refine tk 0 (.agg #[pT A,iV va,iV vs]) rfl hHeld (fun X hS=>by obtain⟨s1,s2,s3,s4,_,_⟩:=hS;go_simp) ?_;refine tk 1 (iV k) rfl hHeld (fun X hS=>by obtain⟨s1,s2,s3,s4,_,_⟩:=hS;go_simp) ?_;refine tk 2 (.pointer (some (aD B 1))) rfl hHeld (fun X hS=>by obtain⟨s1,s2,s3,s4,_,_⟩:=hS;go_simp) ?_;refine tk 3 (.pointer (some (aD B (1+k)))) rfl hHeld (fun X hS=>by obtain⟨s1,s2,s3,s4,_,_⟩:=hS;go_simp) ?_;refine tk 4 (iV ((f k:Nat):Int)) rfl hHeld (fun X hS=>by obtain⟨s1,s2,s3,s4,_,_⟩:=hS;go_simp) ?_;refine wpAnyH_take (i:=5) (v:=.agg (recC n f)) rfl (by kernel_rfl) (by kernel_rfl) (by kernel_rfl) (fun _ _ _ h=>h) (yieldsIf_load_mid (by rfl) 195 (.tmp 4) rfl B 0 rfl (recC n f).toList _ (fun X hS=>hS.2.2.2.2.1) hu rfl hi) hHeld ?_;simp only[Act.put,List.getElem_toArray,List.getElem_cons_zero,List.getElem_cons_succ,List.setIfInBounds_toArray,List.set_cons_zero,List.set_cons_succ];refine tk 6 (iV k) rfl hHeld (fun X hS=>by obtain⟨s1,s2,s3,s4,_,_⟩:=hS;go_simp) ?_;refine tk 8 (.int .u64 x) rfl hHeld (fun X hS=>by obtain⟨s1,s2,s3,s4,_,_⟩:=hS;go_simp) ?_;refine wpAnyH_ready (rs:=[7]) (by kernel_rfl) (by simp) ?_;refine AllReadyH.cons rfl (fun K hK=>?_) AllReadyH.nil;go_simp
 refine(Zhp n f hn k hk hm hs _).mono ?_
 rintro e x1 ⟨rfl,hb1⟩;have g1:=(HO.out.below (B2.out.trans ((Below.refl _ _).drew.mono B2.out.size))).below hb1;have k1:=((HV2.below (Below.refl _ _).drew).below hb1).all k (by omega);have W1:=(Zam.Zad HO.out (B2.out.trans (((Below.refl _ _).drew.trans hb1).mono B2.out.size)));refine hK.out _ _ k1 (fun hHeld=>?_);clear hK
 try simp only[Act.put,apu]
 refine wpAnyH_ready (rs:=[9]) (by kernel_rfl) (by simp) ?_;refine AllReadyH.cons rfl (fun K hK=>?_) AllReadyH.nil;go_simp
 refine(Zdr g1 va vs h1 h2 (f k:Nat) (f (k+1)-f k:Nat) x (by omega) hx).mono ?_
 rintro e x2 ⟨rfl,g2,hw2⟩;have k2:=(k1.2.2.2.2.2.Zaq g1 hw2).all k (by omega);have W2:=W1.trans hw2;refine hK.out _ _ k2 (fun hHeld=>?_);clear hK
 try simp only[Act.put,apu]
 refine tk 10 (iV (Zb9 s.L s.es (Zai va vs (f k:Nat) (f (k+1)-f k:Nat)) (f (k+1)-f k:Nat))) rfl hHeld (fun X hS=>by obtain⟨s1,s2,s3,s4,_,_⟩:=hS;go_simp) ?_;refine wpAnyH_done (by kernel_rfl) ?_ _;have HF:=hid (And.intro g2 W2);clear HV2 k1 k2 g1 g2 W1 W2 hw2;go_wp2_with fail
 go_ret
 exact⟨rfl,HF.out.1,HF.out.2⟩
end
end
section
open Go Go.RowKit Go.Shelf
def Zgg:Array Value:=recC 0 (fun _=>0)
theorem Zby {x:World} {O:Nat} {c:Array Value} {T:TypeId} (h:x.heap[O]?=some (.cells c T (0,0))) (d:Array Value):(x.setRow O d).heap[O]?=some (.cells d T (0,0)):=setRow_heap _ _ _ _ _ _ h
theorem Zer:Zgg.size=34:=Zay _ _
theorem Zhe (n:Nat) (f:Nat->Nat):(recC n f).all (·.oneCell')=true:=by
 rw[Array.all_eq_true];intro i hi;rw[Zay]at hi;rcases i with _|i
 · have:=Zqe n f;rw[Array.getElem?_eq_getElem (by rw[Zay];omega)]at this
   simp only[Option.some.injEq]at this;rw[this];rfl
 · have:=Zjc n f i (by omega);rw[Nat.add_comm,Array.getElem?_eq_getElem (by rw[Zay];omega)]at this
   simp only[Option.some.injEq]at this;rw[this];rfl
theorem Ygz:(Tryz.prog.built 195 []).getD #[]=Zgg:=by kernel_rfl
theorem Ygy (n:Nat):(Tryz.prog.built 195 [(0,iV n)]).getD #[]=recC n (fun _=>0):=by kernel_rfl
def Yiy (w:World) (p:Option Addr) (ws:List Int):Prop:=
 ws.length=0\/∃b off,p=some (aD b off)/\b<w.heap.size/\∀i,i<ws.length->w.cell? (aD b (off+i))=some (iV (ws.getD i 0))
def Ztt (ws:List Int) (i:Nat):Nat:=((ws.take i).map Int.toNat).sum
theorem Zi1 (ws:List Int) (i:Nat) (h:i<ws.length):Ztt ws (i+1)=Ztt ws i+(ws.getD i 0).toNat:=by
 unfold Ztt;rw[List.take_succ_eq_append_getElem h,List.map_append,List.sum_append];simp[List.getD_eq_getElem?_getD,h]
def fP (ws:List Int) (j i:Nat):Nat:=if i<=j then Ztt ws i else 0
def wOk (x:Int):Bool:=decide (x=1\/x=2\/x=4\/x=8)
theorem Yd6 (ws:List Int) (n:Nat):recC n (fP ws 0)=recC n (fun _=>0):=by
 have e:fP ws 0=fun _=>0:=by
  funext i
  unfold fP Ztt;by_cases h:i<=0
  · obtain rfl:i=0:=by omega
    simp
  · rw[if_neg h]
 rw[e]
theorem Yd7 (ws:List Int) (n j:Nat) (hj:j<ws.length) (h33:j+1<33) (v:Nat) (hv:v=Ztt ws (j+1)):(recC n (fP ws j)).setIfInBounds (1+(j+1)) (iV v)=recC n (fP ws (j+1)):=by
 subst hv
 apply Array.ext_getElem?
 intro i;rw[Array.getElem?_setIfInBounds];by_cases e:1+(j+1)=i
 · subst e
   rw[if_pos rfl,Zay,if_pos (by omega),Zjc _ _ _ h33];unfold fP;rw[if_pos (Nat.le_refl _)]
 · rw[if_neg e]
   rcases i with _|i
   · rw[Zqe,Zqe]
   · by_cases hi:i<33
     · rw[Nat.add_comm,Zjc _ _ _ hi,Zjc _ _ _ hi]
       unfold fP;by_cases h1:i<=j
       · rw[if_pos h1,if_pos (by omega)]
       · rw[if_neg h1,if_neg (by omega)]
     · rw[Array.getElem?_eq_none (by rw[Zay];omega),Array.getElem?_eq_none (by rw[Zay];omega)]
theorem Ycq {ws:List Int} {j:Nat} (h:(ws.take j).all wOk=true):∀i,i<j->i<ws.length->wOk (ws.getD i 0)=true:=fun i h1 h2=>by
 rw[List.all_eq_true]at h;refine h _ ?_;rw[List.getD_eq_getElem?_getD,List.getElem?_eq_getElem h2];exact List.mem_take_iff_getElem.2 ⟨i,by omega,rfl⟩
theorem Yct {ws:List Int} {j:Nat} (h:(ws.take j).all wOk=true) (hj:j<=ws.length):Ztt ws j<=8*j:=by
 induction j with
 |zero=>simp[Ztt]
 |succ j ih=>
  have h2:=Ycq h j (by omega) (by omega)
  have h3:(ws.take j).all wOk=true:=by
   rw[List.all_eq_true]at h⊢;intro x hx;exact h x ((List.take_prefix_take_left (by omega)).subset hx)
  rw[Zi1 ws j (by omega)]
  have:=ih h3 (by omega)
  have h4:ws.getD j 0=1\/ws.getD j 0=2\/ws.getD j 0=4\/ws.getD j 0=8:=by unfold wOk at h2;simpa using h2
  omega
theorem Zk5 {ws:List Int} {j:Nat} (h:(ws.take j).all wOk=true) (hj:j<ws.length) (h2:wOk (ws.getD j 0)=true):(ws.take (j+1)).all wOk=true:=by
 rw[List.take_succ_eq_append_getElem hj,List.all_append,h]
 simpa[List.getD_eq_getElem?_getD,hj]using h2
def okV (ws:List Int):Value:=if ws.all wOk then .tuple #[.agg (recC ws.length (fP ws ws.length)),iV 0]else .tuple #[.agg Zgg,iV 2]
structure Yi8 (R B n j:Nat) (ws:List Int) (w x:World):Prop where
 r:x.heap[R]?=some (.cells Zgg 195 (0,0))
 b:VR B n (fP ws j) x
 bel:Below w.heap.size w x
theorem Yf9 (p:Option Addr) (n c:Nat) (ws:List Int) (hn:n=ws.length) (h0:0<n) (h1:n<=32) (w:World) (hw:Yiy w p ws):
 Calls Tryz.prog 192 #[.slice p n c] w (Zan (okV ws) w):=by
 obtain⟨b,off,rfl,hlt0,hc⟩:∃b off,p=some (aD b off)/\b<w.heap.size/\∀i,i<ws.length->w.cell? (aD b (off+i))=some (iV (ws.getD i 0)):=by
  rcases hw with h|h
  · omega
  · exact h
 have HSZ:Hid ((Tryz.prog.info? 195).map (·.size)=some Zgg.size):=hid (by rw[Zer];exact Tryz.Zd3);have HSN:Hid (∀f,(Tryz.prog.info? 195).map (·.size)=some (recC n f).size):=hid (fun f=>by rw[Zay];exact Tryz.Zd3);have HB0:=hid Ygz;have HBN:=hid (Ygy n);have HCW:=hid hc;have HN:=hid hn;have d0:((n:Int)==0)=false:=by simp;omega
 have d1:decide (32<(n:Int))=false:=by simp;omega
 clear hw hc hn;go_enter Tryz.func192,Tryz.ntmps192;go_upto_region 5 with fail;obtain⟨x,hx⟩:=eX (w.alloc (.cells Zgg 195));have hR:x.heap[w.heap.size]?=some (.cells Zgg 195 (0,0)):=by rw[<-hx];exact Zab _ _
 have bx:Below w.heap.size w x:=by rw[<-hx];exact Zaj _ _
 have hs:x.heap.size=w.heap.size+1:=by rw[<-hx];simp
 have HR:=hid hR;have BX:=hid bx;have HS:=hid hs
 change Code.wp _ _ _ _ (w.alloc (.cells Zgg 195));rw[hx];clear hR bx hx hs;have hB:=Zab x (.cells Zgg 195);have HB:=hid hB;clear hB
 go_upto_region 6 with(first|(refine wpList_build rfl 195 #[(0,.tmp 16)] rfl (by kernel_rfl) ?_;simp only[List.map_toArray,List.map_nil,List.map_cons];rw[show _=recC n (fun _=>0)from HBN.out])|(refine wpList_store_row rfl 195 (.tmp 4) (.tmp 17) rfl x.heap.size (recC n (fun _=>0)) rfl rfl 195 Zgg HB.out (HSN.out _) (by rw[Zer,Zay]) (Zhe _ _) ?_;simp only[Act.put,List.setIfInBounds_toArray,List.set_cons_zero,List.set_cons_succ]))
 obtain⟨y,hy⟩:=eX ((x.alloc (.cells Zgg 195)).setRow x.heap.size (recC n (fun _=>0)));obtain⟨B,hBB⟩:=eX x.heap.size;obtain⟨R,hRR⟩:=eX w.heap.size;have hle:w.heap.size<=B/\R<B:=by have:=HS.out;omega
 have hO:Yi8 R B n 0 ws w y:=by
  have hb:=Zby HB.out (recC n (fun _=>0))
  refine⟨?_,?_,?_⟩
  · rw[<-hy,setRow_other _ _ _ _ (by omega),<-hRR];exact(Below.heap_alloc _ _ _ (by have:=HS.out;omega)).trans HR.out
  · unfold VR;rw[Yd6,<-hy,<-hBB];exact hb
  · rw[<-hy];exact below_setRow (BX.out.alloc BX.out.size _) (by omega) _
 change Code.wp _ _ _ _ ((x.alloc (.cells Zgg 195)).setRow x.heap.size (recC n (fun _=>0)));rw[hy,hBB,hRR];have HO:=hid hO;have HRR:=hid hRR
 clear hO hy hBB HB BX HR HS hRR;go_wp2_with fail
 go_loopw[20] (fun v wr=>∃j:Nat,j<=n/\v=iV j/\(ws.take j).all wOk=true/\Yi8 R B n j ws w wr) (fun v _=>n-(intOf v).toNat)
 case atStart=>exact⟨0,Nat.zero_le _,rfl,by simp,HO.out⟩
 case round=>
  obtain⟨j,hj,rfl,ha,ho⟩:=hrel;have HA:=hid ha;have HOJ:=hid ho
  clear ha ho HO;by_cases hlt:j<n
  · have hjw:j<ws.length:=by have:=HN.out;omega
    have hcj:wr.cell? (aD b (off+j))=some (iV (ws.getD j 0)):=(HOJ.out.bel.cell (p:=(aD b (off+j))) hlt0).trans (HCW.out j hjw);have hcf:=HOJ.out.b.f j (by omega);have hff:=(Zaa HOJ.out.b (1+(j+1))).2;have hcg:=HOJ.out.b.f (j+1) (by omega);cases hok:wOk (ws.getD j 0)with
    |true=>
     have HOK:=hid hok;obtain⟨g,hg⟩:=eX (ws.getD j 0);have HG:=hid hg;rw[hg]at hcj hok;have h4:g=1\/g=2\/g=4\/g=8:=by unfold wOk at hok;simpa using hok
     have hfb:((fP ws j j:Nat):Int)<=256:=by
      have:=Yct HA.out (by omega)
      unfold fP;rw[if_pos (Nat.le_refl _)];omega
     have hfs:∀k:Nat,g=k->fP ws j j+k=Ztt ws (j+1):=fun k hk=>by
      unfold fP;rw[if_pos (Nat.le_refl _),Zi1 ws j hjw,HG.out,hk,Int.toNat_natCast]
     have HFS:=hid hfs;have hrb:Below w.heap.size w wr:=HOJ.out.bel;clear hok hg hfs;have HRB:=hid hrb;clear hrb;rcases h4 with rfl|rfl|rfl|rfl
     all_goals
      go_wp2_with fail;go_roundw
      case rel=>
       refine⟨j+1,by omega,by go_num,Zk5 HA.out hjw HOK.out,(Zah _ (by omega)).trans HOJ.out.r,?_,HOJ.out.bel.setCell (p:=(aD B _)) hle.1 _⟩
       unfold VR;rw[<-Yd7 ws n j hjw (by omega) _ (HFS.out _ rfl)];exact heap_set HOJ.out.b _
      case measure=>simp[intOf];omega
    |false=>
     have HV:Hid (okV ws=.tuple #[.agg Zgg,iV 2]):=hid (by
      unfold okV;rw[if_neg]
      intro hall;rw[List.all_eq_true]at hall
      have:=hall (ws.getD j 0) (by rw[List.getD_eq_getElem?_getD,List.getElem?_eq_getElem hjw];exact List.getElem_mem hjw)
      rw[hok]at this;cases this)
     obtain⟨g,hg⟩:=eX (ws.getD j 0);rw[hg]at hcj hok;have h4:¬g=1/\¬g=2/\¬g=4/\¬g=8:=by unfold wOk at hok;simpa[not_or]using hok
     obtain⟨k1,k2,k3,k4⟩:=h4;have e1:(g !=1)=true:=by simpa using k1
     have e2:(g !=2)=true:=by simpa using k2
     have e3:(g !=4)=true:=by simpa using k3
     have e4:(g !=8)=true:=by simpa using k4
     clear hok hg k1 k2 k3 k4 hcf hff hcg
     go_wp2_with (first|(refine wpList_build rfl 195 #[] rfl (by kernel_rfl) ?_;simp only[List.map_toArray,List.map_nil];rw[HB0.out])|(refine wpList_store_row rfl 195 (.tmp 2) (.tmp 39) rfl R Zgg rfl rfl 195 Zgg HOJ.out.r HSZ.out rfl (Zhe _ _) ?_))
     have hl:=run_loadVar_row (P:=Tryz.prog) (wr.setRow R Zgg) R 195 195 Zgg (0,0) _ (Zby HOJ.out.r Zgg) Tryz.underlying195 rfl HSZ.out;exact bodyPost_ret (v:=.tuple #[.agg Zgg,iV 2]) (by simp[results,Tryz.results192,asAddr,hl]) rfl ⟨by rw[HV.out],below_setRow HOJ.out.bel (by have:=HRR.out;omega) _⟩
  · have hje:j=n:=by omega
    have HV:Hid (okV ws=.tuple #[.agg (recC n (fP ws n)),iV 0]):=hid (by
     have hn:=HN.out;have hall:ws.all wOk=true:=by have:=HA.out;rw[hje,hn,List.take_length]at this;exact this
     unfold okV;rw[if_pos hall,<-hn])
    have HOn:Hid (Yi8 R B n n ws w wr):=hid (hje▸HOJ.out);clear hje
    go_wp2_with (first|(refine wpList_load_row rfl 195 (.tmp 4) rfl B rfl 195 (recC n (fP ws n)) (0,0) _ HOn.out.b Tryz.underlying195 rfl (HSN.out _) ?_)|(refine wpList_store_row rfl 195 (.tmp 2) (.tmp 51) rfl R (recC n (fP ws n)) rfl rfl 195 Zgg HOn.out.r (HSN.out _) (by rw[Zer,Zay]) (Zhe _ _) ?_))
    have hl:=run_loadVar_row (P:=Tryz.prog) (wr.setRow R (recC n (fP ws n))) R 195 195 (recC n (fP ws n)) (0,0) _ (Zby HOn.out.r _) Tryz.underlying195 rfl (HSN.out _);exact bodyPost_ret (v:=.tuple #[.agg (recC n (fP ws n)),iV 0]) (by simp[results,Tryz.results192,asAddr,hl]) rfl ⟨by rw[HV.out],below_setRow HOn.out.bel (by have:=HRR.out;omega) _⟩
end
section
open Go Go.RowKit Go.Shelf
theorem Zo7 (k:Nat) (hk:k<=4294967296) (w:World):Calls Tryz.prog 241 #[iV k] w fun e w'=>e=.returned (.string (Zup (List.replicate k 0)))/\Below w.heap.size w w':=by
 have HMK:=Zm1 (a:=0) k (fun _=>0) hk w
 have HCV:(convert 107 9 (.slice (some (aD w.heap.size 0)) k k)).run Tryz.prog (w.alloc (.cells (Zh8 (a:=0) (n:=k) (fun _=>0) []) 5))=.ok (.string (Zup (List.replicate k 0))) (w.alloc (.cells (Zh8 (a:=0) (n:=k) (fun _=>0) []) 5)):=by
  have h:=run_convert_bytes_arg (P:=Tryz.prog) (w.alloc (.cells (Zh8 (a:=0) (n:=k) (fun _=>0) []) 5)) 107 5 Tryz.underlying107 Tryz.underlying5 w.heap.size 0 k k ((List.range k).map fun i=>0) (by simp) (fun i hi=>by
   rw[(Zaa (Zab w _) _).1,Nat.zero_add,Ze8 _ [] i hi];simp[List.getD_eq_getElem?_getD,hi,cov]) 9 Tryz.underlying9
  have e2:strOfNums ((List.range k).map fun i=>0)=Zup (List.replicate k 0):=by
   have e:∀l:List Nat,((l.map fun _=>(0:Int)).map fun n:Int=>UInt8.ofNat n.toNat)=List.replicate l.length 0:=by
    intro l
    induction l with
    |nil=>rfl
    |cons a l ih=>rw[List.map_cons,List.map_cons,ih,List.length_cons,List.replicate_succ];rfl
   unfold strOfNums Zup;rw[e,List.length_range]
  rw[e2]at h;exact h
 go_enter Tryz.func241,Tryz.ntmps241;go_wp2_with fail
 go_ret
 exact⟨rfl,(Below.refl _ _).alloc (Nat.le_refl _) _⟩
end
section
open Go Go.RowKit Go.Shelf
abbrev Ztu (p:Option Addr) (n cap:Nat) (r:Int):Value:=.agg #[.slice p n cap,iV r]
theorem Tryz.Zhn:(Tryz.prog.info? 9).map (fun i=>(i.zero,i.size,i.bytes))=some (some (.string ⟨#[]⟩),1,16):=by kernel_rfl
def Yfh (l:List ByteArray):Array Value:=(l.map Value.string).toArray
theorem Zyt (l:List ByteArray) (i:Nat) (h:i<l.length):(Yfh l)[i]?=some (.string l[i]):=by simp[Yfh,h]
theorem Zvx (n:Nat):madeCells (Value.string ⟨#[]⟩).cells (n*1)=Yfh (List.replicate n ⟨#[]⟩):=by
 apply Array.ext_getElem?
 intro j;by_cases hj:j<n
 · rw[Zyt _ _ (by simpa using hj)];simp[madeCells,hj,Value.cells,Nat.mod_one]
 · rw[Array.getElem?_eq_none (by rw[size_madeCells];omega),Array.getElem?_eq_none (by simp[Yfh];omega)]
theorem Zp9 (n:Nat) (hn:n<=1048576) (w:World):
 (Instr.makeSlice 265 (iV n) (iV n)).run Tryz.prog w=.ok (.slice (some (aD w.heap.size 0)) n n) (w.alloc (.cells (Yfh (List.replicate n ⟨#[]⟩)) 9)):=by
 obtain⟨i0,hi,hz0,hz1,hz2⟩:=info_parts Tryz.Zhn;have h:=run_make (P:=Tryz.prog) w 265 9 i0 (.string ⟨#[]⟩) Tryz.underlying265 hi hz0 .i64 .i64 (n:Int) n (by omega) (Int.le_refl _) (by rw[hz2];omega) (by omega);rw[Int.toNat_natCast,hz1,Zvx]at h;exact h
def Yhs (w:World) (e:Ending) (w':World):Prop:=∃b,e=.returned (Ztu (some (aD b 0)) 1 1 (-1))/\w'.heap[b]?=some (.cells #[.string ⟨#[]⟩] 9 (0,0))/\Below w.heap.size w w'
theorem Zy4 (w:World):Calls Tryz.prog 237 #[iV 1] w (Yhs w):=by
 have HMK:∀w:World,(Instr.makeSlice 265 (iV 1) (iV 1)).run Tryz.prog w=.ok (.slice (some (aD w.heap.size 0)) 1 1) (w.alloc (.cells #[.string ⟨#[]⟩] 9)):=fun w=>Zp9 1 (by omega) w
 go_enter Tryz.func237,Tryz.ntmps237;go_wp2_with fail;exact bodyPost_ret (v:=Ztu (some ⟨w.heap.size+1,0,none⟩) 1 1 (-1)) (by simp[results,Tryz.results237,go_sem]) rfl ⟨_,rfl,Zfy _ _ _,Zbm _ _ _⟩
theorem Zy6 (b:Nat) (r:Int) (w:World) (hb:w.heap[b]?=some (.cells #[.string ⟨#[]⟩] 9 (0,0))):
 Calls Tryz.prog 244 #[Ztu (some (aD b 0)) 1 1 r,iV 0] w (Zan (.bool false) w):=by
 have h2:=(Zaj w (.cells #[.slice (some (aD b 0)) 1 1,iV r] 267)).block b (Array.getElem?_eq_some_iff.1 hb).1;have c0:=(Zaa (h2.trans hb) 0).1;clear hb h2;go_enter Tryz.func244,Tryz.ntmps244;go_wp2_with fail
 go_ret
 exact⟨rfl,Zaj _ _⟩
theorem Zsa (b:Nat) (r:Int) (w:World) (hb:w.heap[b]?=some (.cells #[.string ⟨#[]⟩] 9 (0,0))):
 Calls Tryz.prog 240 #[Ztu (some (aD b 0)) 1 1 r,iV 0,iV 1,.bool false,iV 9] w (Zan (iV 0) w):=by
 have HB:=hid hb;have hbl:=hid (Zaj w (.cells #[.slice (some (aD b 0)) 1 1,iV r] 267));have hv:=hid (Zab w (.cells #[.slice (some (aD b 0)) 1 1,iV r] 267));clear hb;go_enter Tryz.func240,Tryz.ntmps240;go_wp2_with fail;obtain⟨V,hV⟩:=eX w.heap.size;obtain⟨w1,hw1⟩:∃x,w.alloc (.cells #[.slice (some (aD b 0)) 1 1,iV r] 267)=x:=⟨_,rfl⟩
 rw[hw1]at hv hbl⊢;rw[hV]at hv⊢;have HVV:=hid hV;clear hw1 hV
 go_loopw[11] (fun v wr=>∃k:Nat,k<=1/\v=iV k/\wr.heap[V]?=some (.cells #[.slice (some (aD b 0)) 1 1,iV r] 267 (0,0))/\wr.heap[b]?=some (.cells #[.string ⟨#[]⟩] 9 (0,0))/\Below w.heap.size w wr) (fun v _=>1-(intOf v).toNat)
 case atStart=>exact⟨0,by omega,rfl,hv.out,(hbl.out.block b (Array.getElem?_eq_some_iff.1 HB.out).1).trans HB.out,hbl.out⟩
 case round=>
  obtain⟨k,hk,rfl,h1,h2,h3⟩:=hrel;have c0:=(Zaa h1 0).1;have c1:=(Zaa h1 1).1
  have H1:=hid h1;have H2:=hid h2;have H3:=hid h3
  clear h1 h2 h3 hv;by_cases hlt:k<1
  · obtain rfl:k=0:=by omega
    go_wp2_with fail
    refine(Zy6 b r _ H2.out).mono ?_
    rintro e w2 ⟨rfl,hb⟩;have H4:=hid ((hb.block V (Array.getElem?_eq_some_iff.1 H1.out).1).trans H1.out);have H5:=hid ((hb.block b (Array.getElem?_eq_some_iff.1 H2.out).1).trans H2.out);have H6:=hid (H3.out.trans (hb.mono H3.out.size));clear hb c0 c1 hlt hk;go_wp2_with fail;go_roundw
    case rel=>exact⟨1,by omega,by go_num,H4.out,H5.out,H6.out⟩
    case measure=>simp[intOf]
  · go_wp2_with fail
    go_ret
    exact⟨rfl,H3.out⟩
theorem Zrg (x:World) (O b:Nat) (sc:Nat) (u v:ByteArray) (hO:x.heap[O]?=some (.cells #[.string u] 9 (0,0))) (hb:x.cell? (aD b 0)=some (.string v)) (ty:TypeId):
 (Builtin.copy_ #[265,265] ty #[.slice (some (aD O 0)) 1 1,.slice (some (aD b 0)) 1 sc]).run Tryz.prog x=.ok (goInt 1) (x.setRow O #[.string v]):=by
 obtain⟨i0,hi,hz0,hz1,hz2⟩:=info_parts Tryz.Zhn
 have h:=run_copy_row Tryz.prog x 265 265 ty 9 O 0 1 1 (aD b 0) 1 sc #[.string u] 9 [.string v] Tryz.underlying265 (by rw[hi];simp[hz1]) hO rfl
  (fun j v' hj=>by
   have hjl:j<1:=(List.getElem?_eq_some_iff.1 hj).1
   obtain rfl:j=0:=by omega
   simp at hj;rw[Zrv,hb,hj]) (by simp) (fun v hv=>by simp at hv;subst hv;rfl)
 exact h
theorem Zmw {x:World} {O:Nat} {c:Array Value} {T:TypeId} (h:x.heap[O]?=some (.cells c T (0,0))) (d:Array Value):(x.setRow O d).heap[O]?=some (.cells d T (0,0)):=setRow_heap _ _ _ _ _ _ h
theorem Zh5 {x:World} {B R o:Nat} (hne:B≠R) (u:Value):(x.setCell (aD R o) u).heap[B]?=x.heap[B]?:=Below.heap_setCell _ (aD R o) _ _ hne
def Yhr (w:World) (s:ByteArray) (r:Int) (e:Ending) (w':World):Prop:=∃b,e=.returned (Ztu (some (aD b 0)) 1 1 r)/\w'.heap[b]?=some (.cells #[.string s] 9 (0,0))/\Below w.heap.size w w'
theorem Zuz (b q:Nat) (qc:Nat) (r:Int) (s:ByteArray) (w:World) (hb:w.heap[b]?=some (.cells #[.string ⟨#[]⟩] 9 (0,0))) (hq:w.cell? (aD q 0)=some (.string s)):
 Calls Tryz.prog 242 #[Ztu (some (aD b 0)) 1 1 r,iV 0,.slice (some (aD q 0)) 1 qc] w (Yhr w s r):=by
 have HMK:∀w:World,(Instr.makeSlice 265 (iV 1) (iV 1)).run Tryz.prog w=.ok (.slice (some (aD w.heap.size 0)) 1 1) (w.alloc (.cells #[.string ⟨#[]⟩] 9)):=fun w=>Zp9 1 (by omega) w
 have HB:=hid hb;have HQ:=hid hq
 clear hb hq;go_enter Tryz.func242,Tryz.ntmps242;go_upto_region 2 with fail;have hsz:((((w.alloc (.cells #[.slice (some (aD b 0)) 1 1,iV r] 267)).alloc (.cells #[.slice none 0 0,iV 0] 267)).alloc (.cells #[.string ⟨#[]⟩] 9))).heap.size=w.heap.size+3:=by simp
 have BL:Below w.heap.size w ((((w.alloc (.cells #[.slice (some (aD b 0)) 1 1,iV r] 267)).alloc (.cells #[.slice none 0 0,iV 0] 267)).alloc (.cells #[.string ⟨#[]⟩] 9))):=(Zbm w _ _).alloc (by simp;omega) _;obtain⟨h4a,h4b,h4c⟩:=Zfq w #[.slice (some (aD b 0)) 1 1,iV r] #[.slice none 0 0,iV 0] #[.string ⟨#[]⟩] 267 267 9;obtain⟨x,hx⟩:=eX (((((w.alloc (.cells #[.slice (some (aD b 0)) 1 1,iV r] 267)).alloc (.cells #[.slice none 0 0,iV 0] 267)).alloc (.cells #[.string ⟨#[]⟩] 9))));rw[hx]at BL h4a h4b h4c hsz⊢;clear hx;have hxb:=(BL.block b (Array.getElem?_eq_some_iff.1 HB.out).1).trans HB.out;have hlb:=(Array.getElem?_eq_some_iff.1 HB.out).1
 have hxq:x.cell? (aD q 0)=some (.string s):=by
  rw[BL.cell (p:=(aD q 0)) (World.block_lt_of_cell? _ _ HQ.out)];exact HQ.out
 have hlq:=World.block_lt_of_cell? _ _ HQ.out;obtain⟨V,hV⟩:=eX w.heap.size;rw[hV]at h4a h4b h4c hsz hlb hlq⊢;have HCP1:∀ty,(Builtin.copy_ #[265,265] ty #[.slice (some ⟨V+1+1,0,none⟩) 1 1,.slice (some (aD b 0)) 1 1]).run Tryz.prog x=.ok (goInt 1) (x.setRow (V+1+1) #[.string ⟨#[]⟩]):=fun ty=>Zrg x _ _ _ _ _ h4c ((Zaa hxb 0).1) ty
 have h5:=Zmw h4c #[.string ⟨#[]⟩]
 have hq5:(x.setRow (V+1+1) #[.string ⟨#[]⟩]).cell? (aD q 0)=some (.string s):=by
  rw[<-hxq];unfold World.cell?;rw[setRow_other _ _ _ _ (by show q≠V+1+1;have:q<V:=hlq;omega)]
 have HCP2:∀ty,(Builtin.copy_ #[265,265] ty #[.slice (some ⟨V+1+1,0,none⟩) 1 1,.slice (some (aD q 0)) 1 qc]).run Tryz.prog (x.setRow (V+1+1) #[.string ⟨#[]⟩])=.ok (goInt 1) ((x.setRow (V+1+1) #[.string ⟨#[]⟩]).setRow (V+1+1) #[.string s]):=fun ty=>Zrg _ _ _ _ _ _ h5 hq5 ty
 have hA6:((x.setRow (V+1+1) #[.string ⟨#[]⟩]).setRow (V+1+1) #[.string s]).heap[V]?=some (.cells #[.slice (some (aD b 0)) 1 1,iV r] 267 (0,0)):=by
  rw[setRow_other _ _ _ _ (by omega),setRow_other _ _ _ _ (by omega)];exact h4a
 have c0:=(Zaa h4a 0).1;have c1:=(Zaa h4a 1).1
 have HV:=hid hV;have HX:=hid (And.intro BL (And.intro h4b (And.intro h4c (And.intro h5 hA6))));clear hV BL h4a h4b h4c h5 hxb hlb hxq hlq hq5 hsz hA6;go_upto_region 4 with fail;obtain⟨y,hy⟩:=eX ((x.setRow (V+1+1) #[.string ⟨#[]⟩]).setRow (V+1+1) #[.string s]);obtain⟨BL,h4b,h4c,h5,hA6⟩:=HX.out
 have hB6:y.heap[V+1]?=some (.cells #[.slice none 0 0,iV 0] 267 (0,0)):=by
  rw[<-hy,setRow_other _ _ _ _ (by omega),setRow_other _ _ _ _ (by omega)];exact h4b
 have hC6:y.heap[V+1+1]?=some (.cells #[.string s] 9 (0,0)):=by rw[<-hy];exact Zmw h5 _
 have BY:Below w.heap.size w y:=by
  rw[<-hy];exact below_setRow (below_setRow BL (by have:=HV.out;omega) _) (by have:=HV.out;omega) _
 rw[hy]at hA6⊢;have a0:=(Zaa hA6 0).1;have a1:=(Zaa hA6 1).1
 have e0:=(Zaa hB6 0).1;have e1:=(Zaa hB6 1).1
 have f0:=(Zaa hA6 0).2;have f1:=(Zaa hB6 0).2;have f2:=(Zaa hB6 1).2
 have HY:=hid (And.intro BY (And.intro hA6 (And.intro hB6 hC6)));clear hy c0 c1 HCP1 HCP2 HX BL h4b h4c h5 hA6 hB6 hC6 BY HMK;go_wp2_with fail;have hz:=Zdf ((Zh5 (x:=y) (R:=V) (o:=0) (show V+1≠V by omega) (.slice (some ⟨V+1+1,0,none⟩) 1 1)).trans HY.out.2.2.1) rfl (.slice (some ⟨V+1+1,0,none⟩) 1 1) (iV r);have g0:=(Zaa hz 0).1;have g1:=(Zaa hz 1).1
 have hV:=HV.out;refine bodyPost_ret (v:=Ztu (some ⟨V+1+1,0,none⟩) 1 1 r) (by simp[results,Tryz.results242,go_sem,g0,g1]) rfl ⟨V+1+1,rfl,?_,?_⟩
 · rw[Zbu (by omega),Zh5 (by omega)];exact HY.out.2.2.2
 · exact((HY.out.1.setCell (p:=(aD V 0)) (by show _<=V;omega) _).setCell (p:=⟨V+1,0,none⟩) (by show _<=V+1;omega) _).setCell (p:=⟨V+1,1,none⟩) (by show _<=V+1;omega) _
end
end Go.Proofs.YtgcidfenjlmljaaGreat.Bt
