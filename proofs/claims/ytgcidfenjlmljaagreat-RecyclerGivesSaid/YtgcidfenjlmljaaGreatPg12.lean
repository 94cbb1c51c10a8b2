import Derived.Test.YtgcidfenjlmljaaGreatPg11
import Derived.RegionTactic
import Derived.ChangeAlike
import Derived.Test.YtgcidfenjlmljaaGreatPg09
import Derived.Test.YtgcidfenjlmljaaGreatPgR
set_option linter.unusedVariables false
set_option linter.unusedSimpArgs false
set_option maxRecDepth 100000
set_option maxHeartbeats 16000000
namespace Go.Proofs.YtgcidfenjlmljaaGreat.Bt
section
open Go Go.RowKit Go.Shelf
def dnN (ins:Int->Bool):Nat->Int
 |0=> -1
 |n+1=>if ins n then dnN ins n else n
def Zwe (c:Int->Int) (j:Int):Bool:=decide (Zff (c j)=1)
def Zu2 (c:Int->Int) (i:Int):Int:=dnN (Zwe c) (i.toNat+1)
def Zsb (c:Int->Int) (i:Int):Bool:=Ztv (Zff (c (Zu2 c i)))&&decide (i-Zu2 c i<((2^(Zgd (c (Zu2 c i))).toNat:Nat):Int))
def Ycz (c:Int->Int) (i:Int):Value:=if Zsb c i then .tuple #[iV (Zu2 c i),Zhd (Zff (c (Zu2 c i))) (Zgd (c (Zu2 c i))),iV 0]else .tuple #[iV 0,Zhd 0 0,iV 8]
theorem Yb1 (s:ASt) (va vs:Nat) {i:Int} (hi:i<0):gC s va vs i=0:=by
 unfold gC
 have:Zai va vs i 1= -1:=by unfold Zai;rw[if_neg (by omega)]
 rw[this];unfold ldV;rw[if_neg];unfold Zb9;rw[show Za6 1=true from rfl,if_pos rfl]
 unfold Zac Zbd;rw[show decide (0<=(-1:Int)/\(0:Int)<=1/\(1:Int)<=(s.L:Int)*4096- -1)=false from by simp,Bool.false_and,if_neg (by decide)]
 decide
structure RR (B R T:Nat) (pa:Option Addr) (va vs:Nat) (a b c d:Int) (x:World):Prop where
 v:VT B pa va vs x
 r:x.heap[R]?=some (.cells #[.int .u8 a,.int .u8 b] 232 (0,0))
 t:x.heap[T]?=some (.cells #[.int .u8 c,.int .u8 d] 232 (0,0))
 br:B≠R
 bt:B≠T
 rt:R≠T
theorem RR.below {B R T:Nat} {pa:Option Addr} {va vs:Nat} {a b c d:Int} {x y:World} (h:RR B R T pa va vs a b c d x) (hb:Below x.heap.size x y):RR B R T pa va vs a b c d y:=
 {h with v:=h.v.below hb,r:=Zd0 hb h.r,t:=Zd0 hb h.t}
theorem RR.all {B R T:Nat} {pa:Option Addr} {va vs:Nat} {a b c d:Int} {x:World} (h:RR B R T pa va vs a b c d x):
 x.cell? (aD B 0)=some (.pointer pa)/\x.cell? (aD B 1)=some (iV va)/\x.cell? (aD B 2)=some (iV vs)/\
 x.cell? (aD R 0)=some (.int .u8 a)/\x.cell? (aD R 1)=some (.int .u8 b)/\x.cell? (aD T 0)=some (.int .u8 c)/\x.cell? (aD T 1)=some (.int .u8 d)/\
 x.frozen? (aD R 0)=false/\x.frozen? (aD R 1)=false/\x.frozen? (aD T 0)=false/\x.frozen? (aD T 1)=false:=
 ⟨(Zaa h.v 0).1,(Zaa h.v 1).1,(Zaa h.v 2).1,(Zaa h.r 0).1,(Zaa h.r 1).1,(Zaa h.t 0).1,(Zaa h.t 1).1,(Zaa h.r 0).2,(Zaa h.r 1).2,(Zaa h.t 0).2,(Zaa h.t 1).2⟩
theorem RR.Yjt {B R T:Nat} {pa:Option Addr} {va vs:Nat} {a b c d:Int} {x:World} (h:RR B R T pa va vs a b c d x) (u v:Int):
 RR B R T pa va vs a b u v ((x.setCell (aD T 0) (.int .u8 u)).setCell (aD T 1) (.int .u8 v)):=
 {h with v:=(Zbu h.bt _ _).trans h.v,r:=(Zbu h.rt _ _).trans h.r,t:=Zdf h.t rfl _ _}
theorem RR.Zka {B R T:Nat} {pa:Option Addr} {va vs:Nat} {a b c d:Int} {x:World} (h:RR B R T pa va vs a b c d x) (u v:Int):
 RR B R T pa va vs u v c d ((x.setCell (aD R 0) (.int .u8 u)).setCell (aD R 1) (.int .u8 v)):=
 {h with v:=(Zbu h.br _ _).trans h.v,r:=Zdf h.r rfl _ _,t:=(Zbu (Ne.symm h.rt) _ _).trans h.t}
theorem Yfo (pa:Option Addr) (va vs:Nat) (w w1:World) (c d:Int) (hb:Below ((w.alloc (.cells #[.pointer pa,iV va,iV vs] 51)).alloc (.cells #[.int .u8 0,.int .u8 0] 232)).heap.size ((w.alloc (.cells #[.pointer pa,iV va,iV vs] 51)).alloc (.cells #[.int .u8 0,.int .u8 0] 232)) w1):
 RR w.heap.size (w.heap.size+1) w1.heap.size pa va vs 0 0 c d (w1.alloc (.cells #[.int .u8 c,.int .u8 d] 232))/\Below w.heap.size w (w1.alloc (.cells #[.int .u8 c,.int .u8 d] 232)):=by
 obtain⟨q1,q2⟩:=Zbk w #[.pointer pa,iV va,iV vs] #[.int .u8 0,.int .u8 0] 51 232;have hs:=hb.size;simp at hs
 refine⟨⟨VT.below (VT.below q1 hb) (Zaj _ _),Zd0 (Zaj _ _) (Zd0 hb q2),Zab _ _,by omega,by omega,by omega⟩,?_⟩
 exact((Zbm w _ _).trans (hb.mono (by simp;omega))).alloc (by omega) _
section
variable {A:Nat} {s:ASt} {w:World}
theorem Yip {va vs:Nat} {i:Int} (he:gE s va vs i=0):0<=i/\i<vs:=by
 by_cases h:0<=i/\(0:Int)<=1/\1<=(vs:Int)-i
 · omega
 · exfalso
   have ha:Zai va vs i 1= -1:=by unfold Zai;rw[if_neg h]
   unfold gE at he;rw[ha]at he;unfold Zb9 at he;rw[show Za6 1=true from rfl,if_pos rfl]at he;unfold Zac Zbd at he;rw[show decide (0<=(-1:Int)/\(0:Int)<=1/\(1:Int)<=(s.L:Int)*4096- -1)=false from by simp,Bool.false_and,if_neg (by decide)]at he;exact absurd he (by decide)
theorem Zuc (h:On A s w) (va vs:Nat) (h1:va<=4294967296) (h2:vs<=4294967296) (i:Int) (hi:i<=9223372036854775807) (h0:0<=i) (he:gE s va vs i=0):
 Calls Tryz.prog 195 #[tbP (some (aD A 0)) va vs,iV i] w (Zan (Ycz (gC s va vs) i) w):=by
 have hlt:=Yip he;have HG:=hid fun X (hX:On A s X) (j:Int) (hj:j<=9223372036854775807)=>Zor hX va vs h1 h2 j hj
 have HO:=hid h;have HE:=hid he;have HN:=hid fun(j:Int) (hj:j<0)=>Yb1 s va vs hj
 have HCB:=hid fun j=>Ydy s va vs j
 have HF:=hid (show Zu2 (gC s va vs) i=dnN (Zwe (gC s va vs)) (i.toNat+1)from rfl);generalize gC s va vs=c at*
 clear h he;obtain⟨n,rfl⟩:∃n:Nat,i=n:=⟨i.toNat,by omega⟩
 go_enter Tryz.func195,Tryz.ntmps195;go_wp2_with fail;have HB:=hid (Zbm w (.cells #[pT A,iV va,iV vs] 51) (.cells #[.int .u8 0,.int .u8 0] 232))
 refine(HG.out _ (HO.out.below HB.out) n hi).mono ?_
 rintro e w1 ⟨rfl,hb⟩;rw[HE.out];have HR:=hid (Yfo (some (aD A 0)) va vs w w1 (Zff (c n)) (Zgd (c n)) hb);have HS:=hid (show w.heap.size<=w1.heap.size from(HB.out.trans (hb.mono (by simp;omega))).size);clear hb HB;go_wp2_with fail;obtain⟨B,hB⟩:∃x,w.heap.size=x:=⟨_,rfl⟩
 obtain⟨R,hR⟩:∃x,B+1=x:=⟨_,rfl⟩
 rw[hB]at HR⊢;rw[hR]at HR⊢;obtain⟨T,hT⟩:∃x,w1.heap.size=x:=⟨_,rfl⟩
 obtain⟨w2,hw2⟩:∃x,w1.alloc (.cells #[.int .u8 (Zff (c n)),.int .u8 (Zgd (c n))] 232)=x:=⟨_,rfl⟩
 rw[hw2,hT]at HR⊢;have HBR:=hid (And.intro hB hR);have HTw:Hid (w.heap.size<=T/\w.heap.size<=R):=hid ⟨by have:=HS.out;omega,by omega⟩;clear hw2 hT hB hR
 go_loopw[9] (fun v wr=>∃m:Nat,m<=n+1/\v=iV ((m:Int)-1)/\dnN (Zwe c) (n+1)=dnN (Zwe c) m/\RR B R T (some (aD A 0)) va vs 0 0 (Zff (c ((m:Int)-1))) (Zgd (c ((m:Int)-1))) wr/\Below w.heap.size w wr) (fun v _=>(intOf v+1).toNat)
 case atStart=>
  refine⟨n+1,Nat.le_refl _,?_,rfl,?_,by rw[HBR.out.1];exact HR.out.2⟩
  · rw[show(((n+1:Nat):Int))-1=n from by omega]
  · rw[show(((n+1:Nat):Int))-1=n from by omega];exact HR.out.1
 case round=>
  obtain⟨m,hm,rfl,hd,hr,hbw⟩:=hrel;have HD:=hid hd;have HRR:=hid hr;have HBW:=hid hbw
  clear hd hr hbw HR;obtain⟨c0,c1,c2,c3,c4,c5,c6,f3,f4,f5,f6⟩:=HRR.out.all;have b1:=Zuj (c ((m:Int)-1)) (HCB.out _).1;have b2:=Zuk (c ((m:Int)-1)) (HCB.out _).1;by_cases hin:Zff (c ((m:Int)-1))=1
  · cases m with
    |zero=>
     exfalso
     have:=HN.out ((0:Nat)-1:Int) (by omega)
     rw[this]at hin;exact absurd hin (by decide)
    |succ m=>
     have HI:=hid hin;have d1:(Zff (c (((m+1:Nat):Int)-1))==1)=true:=by simpa using hin
     clear hin;have e1:(((m+1:Nat):Int)-1)=(m:Int):=by omega
     rw[e1]at d1 c5 c6 b1 b2⊢;have HE1:=hid e1;clear e1;have hm2:(m:Int)-1<=9223372036854775807:=by omega
     go_wp2_with fail
     refine(HG.out _ (HO.out.below HBW.out) ((m:Int)-1) hm2).mono ?_
     rintro e w3 ⟨rfl,hb3⟩;generalize gE s va vs ((m:Int)-1)=er at*
     have HR3:=hid (HRR.out.below hb3);have HB3:=hid (HBW.out.trans (hb3.mono HBW.out.size));clear c0 c1 c2 c3 c4 c5 c6 f3 f4 f5 f6 hb3;obtain⟨c0,c1,c2,c3,c4,c5,c6,f3,f4,f5,f6⟩:=HR3.out.all;go_wp2_with fail;go_roundw
     case rel=>
      refine⟨m,by omega,rfl,?_,HR3.out.Yjt _ _,(HB3.out.setCell (p:=(aD T 0)) HTw.out.1 _).setCell (p:=(aD T 1)) HTw.out.1 _⟩
      rw[HD.out]
      show(if Zwe c m then dnN (Zwe c) m else(m:Int))=_
      rw[if_pos]
      have:=HI.out;rw[HE1.out]at this
      exact decide_eq_true this
     case measure=>simp[intOf]
  · have d1:(Zff (c ((m:Int)-1))==1)=false:=by simpa using hin
    have HRF:Hid (Zu2 c n=(m:Int)-1):=hid (by
     rw[HF.out,Int.toNat_natCast,HD.out];cases m with
     |zero=>rfl
     |succ m=>
      show(if Zwe c m then dnN (Zwe c) m else(m:Int))=_
      have e1:(((m+1:Nat):Int)-1)=(m:Int):=by omega
      rw[e1]at hin⊢;rw[if_neg];unfold Zwe;simpa using hin)
    have HV:Hid (Ycz c n=if Ztv (Zff (c ((m:Int)-1)))&&decide ((n:Int)-((m:Int)-1)<((2^(Zgd (c ((m:Int)-1))).toNat:Nat):Int))then .tuple #[iV ((m:Int)-1),Zhd (Zff (c ((m:Int)-1))) (Zgd (c ((m:Int)-1))),iV 0]else .tuple #[iV 0,Zhd 0 0,iV 8]):=hid (by unfold Ycz Zsb;rw[HRF.out]);clear hin HRF HD;generalize Zff (c ((m:Int)-1))=S at*
    generalize Zgd (c ((m:Int)-1))=O at*
    obtain⟨j,hj⟩:=eX ((m:Int)-1:Int);have hj1: -1<=j/\j<=n:=by omega
    obtain⟨hj1,hj2⟩:=hj1;rw[hj]at HV⊢;clear hj hm HN HG HCB HF HE;obtain⟨on,rfl⟩:∃on:Nat,O=on:=⟨O.toNat,by omega⟩
    obtain⟨hN,hN1,hN2⟩:=Zli on b2.2;rw[Int.toNat_natCast]at HV;generalize hNN:2^on=N at*
    have hN':wrap64 ((2:Int)^on)=(N:Int):=by
     rw[show((2:Int)^on)=(N:Int)from by rw[<-hNN];simp];exact IntWalk.wrap64_in _ ⟨by omega,by omega⟩
    clear hN hNN;have hn32:(n:Int)<4294967296:=by omega
    cases hb:Ztv S with
    |false=>
     have HBS:=hid hb;rw[hb,Bool.false_and,if_neg (by decide)]at HV;clear hb
     go_wp2_with (go_at_call 187;refine(Ze2 _ _).mono ?_;rintro e w' ⟨rfl,rfl⟩;rw[HBS.out])
     have h3:=(HRR.out.Zka 0 0).r;have g0:=(Zaa h3 0).1;have g1:=(Zaa h3 1).1
     exact bodyPost_ret (v:=.tuple #[iV 0,Zhd 0 0,iV 8]) (by simp[results,Tryz.results195,go_sem,g0,g1]) rfl ⟨by rw[HV.out],(HBW.out.setCell (p:=(aD R 0)) HTw.out.2 _).setCell (p:=(aD R 1)) HTw.out.2 _⟩
    |true=>
     have HBS:=hid hb;rw[hb,Bool.true_and]at HV;clear hb;by_cases hcmp:(n:Int)-j<N
     · rw[decide_eq_true hcmp,if_pos rfl]at HV
       have d2:decide ((N:Int)<=(n:Int)-j)=false:=by simp;omega
       clear hcmp
       go_wp2_with (go_at_call 187;refine(Ze2 _ _).mono ?_;rintro e w' ⟨rfl,rfl⟩;rw[HBS.out])
       go_region
       have h3:=(HRR.out.Zka S on).r;have g0:=(Zaa h3 0).1;have g1:=(Zaa h3 1).1
       have hbf:=hid (((HBW.out.setCell (p:=(aD R 0)) HTw.out.2 (.int .u8 S)).setCell (p:=(aD R 1)) HTw.out.2 (.int .u8 (on:Int))).drew);clear c0 c1 c2 c3 c4 c5 c6 f3 f4 f5 f6;go_wp2_with fail;exact bodyPost_ret (v:=.tuple #[iV j,Zhd S on,iV 0]) (by simp[results,Tryz.results195,go_sem,g0,g1]) rfl ⟨by rw[HV.out],hbf.out⟩
     · rw[decide_eq_false hcmp,if_neg (by decide)]at HV
       have d2:decide ((N:Int)<=(n:Int)-j)=true:=by simp;omega
       clear hcmp
       go_wp2_with (go_at_call 187;refine(Ze2 _ _).mono ?_;rintro e w' ⟨rfl,rfl⟩;rw[HBS.out])
       have h3:=(HRR.out.Zka 0 0).r;have g0:=(Zaa h3 0).1;have g1:=(Zaa h3 1).1
       exact bodyPost_ret (v:=.tuple #[iV 0,Zhd 0 0,iV 8]) (by simp[results,Tryz.results195,go_sem,g0,g1]) rfl ⟨by rw[HV.out],(HBW.out.setCell (p:=(aD R 0)) HTw.out.2 _).setCell (p:=(aD R 1)) HTw.out.2 _⟩
end
end
section
open Go Go.RowKit Go.Shelf
def Yi7 (n:Nat) (w:World) (e:Ending) (w':World):Prop:=
 ∃A,e=.returned (.tuple #[pT A,tbP (some (aD A 0)) 96 n,.bool true])/\On A (Zc9 1 (fun _=>0)) w'/\Ze0 A w w'
theorem Zv2 (n:Nat) (hn:n<=4000) (w:World):Calls Tryz.prog 231 #[iV n] w (Yi7 n w):=by
 have L1:Hid (Zhl 1=1):=hid (by decide);have E1:Hid (Zau (Zco 1) 0 1=0):=hid (by decide);have S1:Hid (Zaw (Zco 1) 0 1=Zc9 1 (fun _=>0)):=hid (Zl0 1 1 (by decide) (by decide) (by decide))
 have T1:Hid (Zac (Zc9 1 fun _=>0).L (Zc9 1 fun _=>0).es 96 n=0):=hid (by
  show Zac 1 [0,1] 96 n=0;rw[Zi0 (by omega) (by omega),if_pos (by omega)])
 have HV:Hid (∀pu a k,ofV pu a k 0=.agg #[.pointer pu,iV a,iV k]):=hid fun pu a k=>by unfold ofV;rw[if_pos rfl]
 go_enter Tryz.func231,Tryz.ntmps231;go_wp2_with fail
 refine(Zh3 1 _).mono ?_
 rintro e w1 ⟨A,rfl,hA,hx,hb,hm⟩;rw[L1.out]at hx;have HX1:=hid hx;have HB1:=hid (show Ze0 A w w1 from hb.Zhz (Zaj w (.cells #[.pointer none,iV 0,iV 0] 51)));have HM1:=hid (hm w.heap.size (by simp));have HR1:=hid ((hb.bel.block w.heap.size (by simp)).trans (Zab w (.cells #[.pointer none,iV 0,iV 0] 51)));clear hx hb hA hm;go_wp2_with fail
 refine(Zd1 HX1.out 0 1 (by omega)).mono ?_
 rintro e w2 ⟨rfl,hx,hg⟩;rw[E1.out];rw[S1.out]at hx
 have HX2:=hid hx;have HB2:=hid (HB1.out.Zaq hg);have HR2:=hid (HM1.out.at hg HR1.out);have HM2:=hid (HM1.out.Zaq hg);clear hx hg;go_wp2_with fail
 refine(Zgw HX2.out 96 n (by omega)).mono ?_
 rintro e w3 ⟨rfl,hb⟩;rw[T1.out,HV.out];have HX3:=hid (HX2.out.below hb);have HB3:=hid (HB2.out.below HX2.out hb);have HR3:=hid ((hb.block _ (Array.getElem?_eq_some_iff.1 HR2.out).1).trans HR2.out);have HM3:=hid (HM2.out.Zaq (Zam.Zad HX2.out hb));clear hb;go_wp2_with fail;have bV:=hid (Zaj w3 (.cells #[pT A,iV 96,iV n] 40))
 refine(Zmr (some (aD A 0)) 96 n _).mono ?_
 rintro e w4 ⟨rfl,hb⟩;have HX4:=hid ((HX3.out.below bV.out).below hb);have HB4:=hid ((HB3.out.below HX3.out bV.out).below (HX3.out.below bV.out) hb);have hr3:=HR3.out;have hr4:=(hb.block w.heap.size (Nat.lt_of_lt_of_le (Array.getElem?_eq_some_iff.1 hr3).1 bV.out.size)).trans ((bV.out.block _ (Array.getElem?_eq_some_iff.1 hr3).1).trans hr3);have HR4:=hid hr4;have HM4:=hid ((HM3.out.Zaq (Zam.Zad HX3.out bV.out)).Zaq (Zam.Zad (HX3.out.below bV.out) hb));have c0:=(Zaa hr4 0).1;have c1:=(Zaa hr4 1).1;have c2:=(Zaa hr4 2).1
 have f0:=(Zaa hr4 0).2;have f1:=(Zaa hr4 1).2;have f2:=(Zaa hr4 2).2
 clear hr3 hr4 hb;go_wp2_with fail;have h3:=Za8 HR4.out rfl (pT A) (iV 96) (iV n);have g0:=(Zaa h3 0).1;have g1:=(Zaa h3 1).1;have g2:=(Zaa h3 2).1
 have hF:=Yh9 (w0:=w) HX4.out HB4.out HM4.out (Nat.le_refl _) (pT A) (iV 96) (iV n);have HF:=hid hF;clear hF;exact bodyPost_ret (v:=.tuple #[pT A,tbP (some (aD A 0)) 96 n,.bool true]) (by simp[results,Tryz.results231,go_sem,g0,g1,g2]) rfl ⟨A,rfl,HF.out.1,HF.out.2⟩
end
section
open Go Go.RowKit Go.Shelf
theorem Zss (m:Nat->UInt8) (an N:Nat) (fs fo:Int) (os:UInt8) (h:0<=Zcu fs fo/\Zcu fs fo<=255):((Zh9 m an N fs fo os an).toNat:Int)=Zcu fs fo:=by
 unfold Zh9
 have:=Zlh (Zb8 m an (List.replicate N os)) an (Zfk (Zcu fs fo) 1) (i:=0) (by rw[Zbh];omega)
 rw[Nat.add_zero]at this;rw[this];have e:(Zfk (Zcu fs fo) 1).getD 0 0=Zgn (Zcu fs fo) 0:=rfl;rw[e,<-Zrk h.1 0]
 have:=IntKind.wrap_u8 (Zcu fs fo/2^(8*0))
 rw[this];have e2:Zcu fs fo/2^(8*0)=Zcu fs fo:=by simp
 rw[e2];omega
theorem Zsr (m:Nat->UInt8) (an N:Nat) (fs fo:Int) (os:UInt8) (k:Nat) (h1:0<k) (h2:k<N):Zh9 m an N fs fo os (an+k)=os:=by
 unfold Zh9;rw[Zbt _ _ _ (.inr (by rw[Zbh];omega)),Zlh _ _ _ (by simpa using h2)];rw[List.getD_eq_getElem?_getD,List.getElem?_replicate,if_pos h2];rfl
theorem Zfa (m:Nat->UInt8) (an N:Nat) (hN:0<N) (fs fo:Int) (os:UInt8) (i:Nat) (h:i<an\/an+N<=i):Zh9 m an N fs fo os i=m i:=by
 unfold Zh9;rw[Zbt _ _ _ (by rw[Zbh];omega),Zbt _ _ _ (by rw[List.length_replicate];omega)]
end
section
open Go Go.RowKit Go.Shelf
theorem Zho {L e:Nat} (h0:0<e) (h1:e<=L) (h2:L<=1048576):Good L [0,e]:=⟨by simp[Zcc];omega,by simp,(fun x h=>by simp at h;omega),h2⟩
theorem Zeb {L e:Nat} (h0:0<e) (h1:e<=L) (h2:L<=1048576) {a k:Int} (ha:0<=a) (hk:0<=k) (h:a+k<=(e:Int)*4096):Zac L [0,e] a k=0:=by
 unfold Zac;rw[if_pos]
 exact(Zax (Zho h0 h1 h2) a k).2 ⟨ha,hk,by omega,fun i i1 i2=>by
  have:=Zgz (L:=e) h0 (i/4096);rw[this];simp;omega⟩
def Zg6 (R:Zag) (g p:Nat):Nat:=if p<g then(match R p with|some (k,t)=>4*k+(if t then 3 else 2)|none=>1)else 0
def Yho (R:Zag) (x p:Nat):Prop:=∃k t,R x=some (k,t)/\x<=p/\p<x+2^k
def Tgs (cap g:Nat) (R:Zag) (x:Nat) (m:Nat->UInt8):Prop:=∀p,p+1<cap->¬Yho R x p->(m (256+p)).toNat=Zg6 R g p
def Ztx (own:Nat) (fl:Nat->List Nat):Prop:=(∀k,k<=10->∀c∈fl k,4096<=c/\c%4096=0)/\(∀k,k<=10->(fl k).Pairwise (· <·))/\∀j k,j<=10->k<=10->j≠k->∀c,c∈fl j->c∉fl k
def Lks (L:Nat) (es:List Nat) (m:Nat->UInt8) (fl:Nat->List Nat):Prop:=∀k,k<=10->Ch L es m (16+8*k) 0 (fl k)
theorem Ztx.apart {fl:Nat->List Nat} (h:Ztx 1 fl) {k:Nat} (hk:k<=10):Zts ((16+8*k)::fl k):=by
 refine List.pairwise_cons.2 ⟨fun c hc=>?_,?_⟩
 · have:=h.1 k hk c hc;omega
 · refine(List.Pairwise.and_mem.1 (h.2.1 k hk)).imp fun{a b} ⟨ha,hb,hl⟩=>?_
   have h1:=h.1 k hk a ha;have h2:=h.1 k hk b hb;omega
theorem Ztx.off {fl:Nat->List Nat} (h:Ztx 1 fl) {j k:Nat} (hj:j<=10) (hk:k<=10) (hne:j≠k) {c d:Nat} (hc:c∈(16+8*j)::fl j) (hd:d∈(16+8*k)::fl k):c+8<=d\/d+8<=c:=by
 rcases List.mem_cons.1 hc with rfl|hc<;>rcases List.mem_cons.1 hd with rfl|hd
 · omega
 · have:=h.1 k hk d hd;omega
 · have:=h.1 j hj c hc;omega
 · have h1:=h.1 j hj c hc
   have h2:=h.1 k hk d hd
   have:c≠d:=fun e=>h.2.2 j k hj hk hne c hc (by rw[e];exact hd)
   omega
theorem Zv5 {L:Nat} {es:List Nat} {m:Nat->UInt8} {fl:Nat->List Nat} (g:Good L es) (h:Lks L es m fl) (o:Ztx 1 fl) {k X:Nat} (hk:k<=10) (hX:4096<=X) (hX4:X%4096=0) (hT:Zac L es X 16=0) (hn:∀j,j<=10->X∉fl j) (z:Nat):
 Lks L es (Zc4 (Zc4 m X (fnd (16+8*k) z (fl k) X).2.2) (fnd (16+8*k) z (fl k) X).1 X) (fun j=>if j=k then ins X (fl k)else fl j):=fun j hj=>by
 have hoff:∀i,i<=10->∀c∈(16+8*i)::fl i,X+8<=c\/c+8<=X:=fun i hi c hc=>by
  rcases List.mem_cons.1 hc with rfl|hc
  · omega
  · have:=o.1 i hi c hc
    have:c≠X:=fun e=>hn i hi (by rw[<-e];exact hc)
    omega
 by_cases e:j=k
 · subst e
   show Ch _ _ _ _ _ (if j=j then _ else _);rw[if_pos rfl];exact Zx4 g hT z (h j hj) (by omega) (hn j hj) (o.apart hj) (hoff j hj)
 · show Ch _ _ _ _ _ (if j=k then _ else _)
   rw[if_neg e]
   refine(h j hj).Zdn fun c hc=>?_
   have h1:=o.off hj hk e hc (Zdm (16+8*k) z (fl k) X);have h2:=hoff j hj c hc;rw[Zbw _ _ (by omega),Zbw _ _ (by omega)]
theorem Zqw {L:Nat} {es:List Nat} {m:Nat->UInt8} {fl:Nat->List Nat} (g:Good L es) (h:Lks L es m fl) (o:Ztx 1 fl) {k X:Nat} (hk:k<=10) (hX:X∈fl k) (z:Nat):
 Lks L es (Zc4 m (fnd (16+8*k) z (fl k) X).1 (nxt m X)) (fun j=>if j=k then(fl k).erase X else fl j):=fun j hj=>by
 by_cases e:j=k
 · subst e
   show Ch _ _ _ _ _ (if j=j then _ else _);rw[if_pos rfl];exact Yb4 g z (h j hj) hX (o.apart hj)
 · show Ch _ _ _ _ _ (if j=k then _ else _)
   rw[if_neg e]
   refine(h j hj).Zdn fun c hc=>?_
   have h1:=o.off hj hk e hc (Zdm (16+8*k) z (fl k) X);rw[Zbw _ _ (by omega)]
theorem Zav (m:Nat->UInt8) {a i:Nat} (v:Nat) (h:i<a\/a+8<=i):Zc4 m a v i=m i:=Zbt _ _ _ (by rw[Zbh];omega)
theorem Zrx {m:Nat->UInt8} {fl:Nat->List Nat} (o:Ztx 1 fl) {k X i:Nat} (hk:k<=10) (hX:4096<=X) (z:Nat) (hi:i<16\/(104<=i/\i<4096)):
 Zc4 (Zc4 m X (fnd (16+8*k) z (fl k) X).2.2) (fnd (16+8*k) z (fl k) X).1 X i=m i:=by
 have h1:i<(fnd (16+8*k) z (fl k) X).1\/(fnd (16+8*k) z (fl k) X).1+8<=i:=by
  rcases List.mem_cons.1 (Zdm (16+8*k) z (fl k) X)with e|e
  · omega
  · have:=o.1 k hk _ e;omega
 rw[Zav _ _ h1,Zav _ _ (by omega)]
theorem Znj {m:Nat->UInt8} {fl:Nat->List Nat} (o:Ztx 1 fl) {k X i:Nat} (v:Nat) (hk:k<=10) (z:Nat) (hi:i<16\/(104<=i/\i<4096)):
 Zc4 m (fnd (16+8*k) z (fl k) X).1 v i=m i:=by
 have h1:i<(fnd (16+8*k) z (fl k) X).1\/(fnd (16+8*k) z (fl k) X).1+8<=i:=by
  rcases List.mem_cons.1 (Zdm (16+8*k) z (fl k) X)with e|e
  · omega
  · have:=o.1 k hk _ e;omega
 rw[Zav _ _ h1]
theorem Zjl {L:Nat} {es:List Nat} {m:Nat->UInt8} {fl:Nat->List Nat} (h:Lks L es m fl) (o:Ztx 1 fl) {an N:Nat} (hN:0<N) (h1:104<=an) (h2:an+N<=4096) (fs fo:Int) (os:UInt8):Lks L es (Zh9 m an N fs fo os) fl:=fun j hj=>
 (h j hj).Zdn fun c hc=>Zar fun i hi=>Zfa _ _ _ hN _ _ _ _ (by
  rcases List.mem_cons.1 hc with rfl|hc
  · omega
  · have:=o.1 j hj c hc;omega)
theorem Zdj (R:Zag) (x g:Nat):Ztx 1 (Zas 1 R x g):=by
 refine⟨fun k _ c hc=>?_,fun k _=>Zb2 _ _ _ _ _,fun j k _ _ hne c hc hd=>?_⟩
 · obtain⟨i,_,_,_,e⟩:=Za4.1 hc;omega
 · obtain⟨i,_,h1,_,e⟩:=Za4.1 hc
   obtain⟨i',_,h2,_,e'⟩:=Za4.1 hd
   have:i'=i:=by omega
   subst this;rw[h1]at h2;exact hne (Zbc h2).1
theorem Zwa (m:Nat->UInt8) (x k p:Nat) (hk:k<=10) (u:Bool):(Zh9 m (256+x) (2^k) (if u then 3 else 2) k 1 (256+p)).toNat=if p=x then 4*k+(if u then 3 else 2)else if x<p/\p<x+2^k then 1 else(m (256+p)).toNat:=by
 have h0:=Zae k;by_cases h1:p=x
 · subst h1
   rw[if_pos rfl]
   have:=Zss m (256+p) (2^k) (if u then 3 else 2) k 1 (by unfold Zcu;split<;>omega)
   have e:Zcu (if u then 3 else 2) k=((4*k+(if u then 3 else 2):Nat):Int):=by unfold Zcu;cases u<;>simp
   rw[e]at this;exact Int.ofNat_inj.1 this
 · rw[if_neg h1]
   by_cases h2:x<p/\p<x+2^k
   · rw[if_pos h2]
     have:=Zsr m (256+x) (2^k) (if u then 3 else 2) k 1 (p-x) (by omega) (by omega)
     rw[show 256+x+(p-x)=256+p from by omega]at this;rw[this];rfl
   · rw[if_neg h2,Zfa _ _ _ h0 _ _ _ _ (by omega)]
end
end Go.Proofs.YtgcidfenjlmljaaGreat.Bt
