import Derived.Test.YtgcidfenjlmljaaGreatPg23
import Derived.Test.YtgcidfenjlmljaaGreatPg24
import Derived.Test.YtgcidfenjlmljaaGreatPg22
import Derived.OpenShut
import Derived.Lib.SmallJoins
import Derived.Deep.Slices
import Derived.Deep.Strs
import Derived.ChangeSame
import Derived.WideShapes
import Derived.Test.YtgcidfenjlmljaaGreatPgR
set_option linter.unusedVariables false
set_option linter.unusedSimpArgs false
set_option maxRecDepth 100000
set_option maxHeartbeats 16000000
namespace Go.Proofs.YtgcidfenjlmljaaGreat.Bt
section
open Go Go.RowKit Go.Shelf
theorem Yc7 {n:Nat} {f:Nat->Nat} (hr:Rec n f) (m:Nat->UInt8) (an:Nat) (xs:List Int):∀j,j<=n->∀k,k<j->Zck (Zqh m an f xs j) (an+f k) (f (k+1)-f k)=(xs.getD k 0).toNat%2^(8*(f (k+1)-f k)):=by
 intro j
 induction j with
 |zero=>intro _ k hk;omega
 |succ j ih=>
  intro hj k hk;by_cases e:k=j
  · subst e;exact Zf4 _ _ _ _
  · rw[<-ih (by omega) k (by omega)]
    apply Zar
    intro i hi;show Zb8 (Zqh m an f xs j) (an+f j) _ _=_;have h1:=hr.le (show k+1<=j by omega) (by omega);have h2:=hr.mono k (by omega);exact Zbt _ _ _ (.inl (by omega))
theorem Yfs {ws:List Int} {n:Nat} (hn:n=ws.length) (hl:n<=32) (ha:ws.all wOk=true):Rec n (fP ws n):=by
 have hf:∀k,k<=n->fP ws n k=Ztt ws k:=fun k hk=>by unfold fP;rw[if_pos hk]
 have hst:∀k,k<n->Ztt ws (k+1)=Ztt ws k+(ws.getD k 0).toNat/\(ws.getD k 0=1\/ws.getD k 0=2\/ws.getD k 0=4\/ws.getD k 0=8):=fun k hk=>by
  refine⟨Zi1 ws k (by omega),?_⟩
  rw[List.all_eq_true]at ha;have h2:=ha (ws.getD k 0) (by rw[List.getD_eq_getElem?_getD,List.getElem?_eq_getElem (by omega)];exact List.getElem_mem (by omega));unfold wOk at h2;simpa using h2
 refine⟨hl,by rw[hf 0 (by omega)];rfl,fun k hk=>?_,fun k hk=>?_,fun k hk=>?_⟩
 · rw[hf k (by omega),hf (k+1) (by omega),(hst k hk).1];omega
 · rw[hf k (by omega),hf (k+1) (by omega),(hst k hk).1];have:=(hst k hk).2;omega
 · rw[hf k (by omega),hf (k+1) (by omega),(hst k hk).1]
   rcases(hst k hk).2 with h|h|h|h<;>rw[h,Nat.add_sub_cancel_left]<;>rfl
end
section
open Go Go.RowKit Go.Shelf
def spV (o:Int):Int:=if o<0 then 0 else if 10<o then 0 else 4096*2^o.toNat
def pwI (j:Nat):Int:=2^j
theorem Zqf (j:Nat):pwI (j+1)=2*pwI j:=by unfold pwI;rw[Int.pow_succ];omega
theorem Zlf (j:Nat):1<=pwI j:=by
 induction j with
 |zero=>decide
 |succ j ih=>rw[Zqf];omega
theorem Zqg {i j:Nat} (h:i<=j):pwI i<=pwI j:=by
 induction h with
 |refl=>omega
 |step _ ih=>rw[Zqf];have:=Zlf ‹_›;omega
theorem Ybq:pwI 10=1024:=by decide
theorem Zk6 {o:Int} (h:o<0\/10<o):spV o=0:=by
 unfold spV;by_cases h1:o<0
 · simp[h1]
 · rw[if_neg h1,if_pos (by omega)]
theorem Ycy (j:Nat) (h:j<=10):spV j=4096*pwI j:=by
 unfold spV pwI;rw[if_neg (by omega),if_neg (by omega)];simp
theorem Yfj (o:Int):0<=spV o/\spV o<=4194304:=by
 by_cases h:o<0\/10<o
 · rw[Zk6 h];omega
 · obtain⟨j,rfl⟩:=Int.eq_ofNat_of_zero_le (show 0<=o by omega)
   rw[Ycy j (by omega)]
   have:=Zlf j;have:=Zqg (show j<=10 by omega);rw[Ybq]at this;omega
theorem Yh8 {o:Int} (h:0<spV o):0<=o/\o<=10:=by
 by_cases h1:o<0\/10<o
 · rw[Zk6 h1]at h;omega
 · omega
theorem Yh7 {o:Int} (h0:0<=o) (h1:o<=10):4096<=spV o:=by
 obtain⟨j,rfl⟩:=Int.eq_ofNat_of_zero_le h0;rw[Ycy j (by omega)]
 have:=Zlf j;omega
def Zoj (a o x:Int):Bool:=decide (0<=a)&&(decide (a%4096=0)&&(decide (0<spV o)&&decide (0<=x)))
theorem Zdt (a o x:Int):Zoj a o x=true↔0<=a/\a%4096=0/\(0<=o/\o<=10)/\0<=x:=by
 unfold Zoj
 constructor
 · intro h
   simp only[Bool.and_eq_true,decide_eq_true_eq]at h
   exact⟨h.1,h.2.1,Yh8 h.2.2.1,h.2.2.2⟩
 · rintro ⟨h1,h2,h3,h4⟩
   have:=Yh7 h3.1 h3.2
   simp only[Bool.and_eq_true,decide_eq_true_eq]
   exact⟨h1,h2,by omega,h4⟩
def Zvv (s x:Int):Int:=
 bits .xor .u64 (IntKind.u64.wrap (bits .xor .u64 s x*11400714819323198485)) (IntKind.u64.wrap (bits .xor .u64 s x*11400714819323198485)/4294967296)
def Yhy (xs:List Int):Int:=xs.foldl Zvv 7741253900701559149
def Zyc (x:Int):Int:=IntKind.u64.wrap x
def Zn1 (a o u x:Int):Int:=Yhy [Zyc a,Zyc o,u,Zyc x]
def cV (a o u x:Int):Value:=.agg #[iV a,iV o,.int .u64 u,iV x]
def F4:Nat->Nat:=fP [8,8,8,8] 4
theorem Zpy:F4 0=0/\F4 1=8/\F4 2=16/\F4 3=24/\F4 4=32:=by decide
theorem Yid:Rec 4 F4:=Yfs rfl (by decide) (by decide)
theorem ok4:okV [8,8,8,8]=.tuple #[.agg (recC 4 F4),iV 0]:=rfl
def hdX (a o u x:Int):List Int:=[Zn1 a o u x,o+1,u,x]
def wrM (m:Nat->UInt8) (an:Nat) (a o u x:Int):Nat->UInt8:=Zqh m an F4 (hdX a o u x) 4
def n4 (m:Nat->UInt8) (an k:Nat):Int:=(Zck m (an+8*k) 8:Nat)
theorem Zmb (s:ASt) (an k:Nat) (hk:k<4):Ye6 s an F4 k=n4 s.mm an k:=by
 unfold Ye6 n4;have h:=Zpy
 have:k=0\/k=1\/k=2\/k=3:=by omega
 rcases this with rfl|rfl|rfl|rfl<;>simp[h.1,h.2.1,h.2.2.1,h.2.2.2.1,h.2.2.2.2]
def rdO (m:Nat->UInt8) (an:Nat):Int:=wrap64 (wrap64 (n4 m an 1)-1)
def rdU (m:Nat->UInt8) (an:Nat):Int:=n4 m an 2
def rdX (m:Nat->UInt8) (an:Nat):Int:=wrap64 (n4 m an 3)
def stB (m:Nat->UInt8) (a:Int):Bool:=Zoj a (rdO m a.toNat) (rdX m a.toNat)&&decide (Zn1 a (rdO m a.toNat) (rdU m a.toNat) (rdX m a.toNat)=n4 m a.toNat 0)
def rdV (s:ASt) (a:Int):Value:=
 if Zac s.L s.es a 32=0 then
  if stB s.mm a then .tuple #[cV a (rdO s.mm a.toNat) (rdU s.mm a.toNat) (rdX s.mm a.toNat),iV 0]else .tuple #[cV 0 0 0 0,iV 7]
 else .tuple #[cV 0 0 0 0,iV 3]
theorem Zif (a k:Nat):Zck (fun _=>0) a k=0:=by
 induction k with
 |zero=>rfl
 |succ k ih=>unfold Zck;rw[ih];simp
theorem Zzr (m:Nat->UInt8) (an k:Nat) (a o u x:Int) (hk:k<4):n4 (wrM m an a o u x) an k=((((hdX a o u x).getD k 0).toNat%18446744073709551616:Nat):Int):=by
 unfold n4 wrM;have h:=Yc7 Yid m an (hdX a o u x) 4 (Nat.le_refl _) k hk;have hF:=Zpy
 have e1:F4 k=8*k/\F4 (k+1)-F4 k=8:=by
  have:k=0\/k=1\/k=2\/k=3:=by omega
  rcases this with rfl|rfl|rfl|rfl<;>simp[hF.1,hF.2.1,hF.2.2.1,hF.2.2.2.1,hF.2.2.2.2]
 rw[e1.2,e1.1]at h;rw[h]
theorem Zdx (m:Nat->UInt8) (an:Nat) (a o u x:Int) (i:Nat) (h:i<an\/an+32<=i):wrM m an a o u x i=m i:=by
 have hF:=Zpy;unfold wrM
 have key:∀j,j<=4->Zqh m an F4 (hdX a o u x) j i=m i:=by
  intro j
  induction j with
  |zero=>intro _;rfl
  |succ j ih=>
   intro hj;show Zb8 (Zqh m an F4 (hdX a o u x) j) (an+F4 j) (Zfk ((hdX a o u x).getD j 0) (F4 (j+1)-F4 j)) i=m i
   have:j=0\/j=1\/j=2\/j=3:=by omega
   rw[Zbt _ _ _ (by rw[Zbh];rcases this with rfl|rfl|rfl|rfl<;>simp only[hF.1,hF.2.1,hF.2.2.1,hF.2.2.2.1,hF.2.2.2.2,Nat.zero_add]<;>omega)];exact ih (by omega)
 exact key 4 (Nat.le_refl _)
theorem Yb6 (a o u x:Int):0<=Zn1 a o u x/\Zn1 a o u x<18446744073709551616:=by
 unfold Zn1 Yhy;simp only[List.foldl_cons,List.foldl_nil]
 have hw:∀z:Int,(Lit.int .u64 z).wf=true->0<=z/\z<18446744073709551616:=fun z hz=>by
  have h1:IntKind.u64.min<=z/\z<=IntKind.u64.max:=by simpa[Lit.wf]using hz
  have h2:IntKind.u64.min=0:=by decide
  have h3:IntKind.u64.max=18446744073709551615:=by decide
  omega
 have h:∀p q,0<=Zvv p q/\Zvv p q<18446744073709551616:=fun p q=>hw _ (wf_bits _ _ _ _)
 exact h _ _
theorem Yjz (p q r t:Int):([p,q,r,t]:List Int).getD 0 0=p/\([p,q,r,t]:List Int).getD 1 0=q/\([p,q,r,t]:List Int).getD 2 0=r/\([p,q,r,t]:List Int).getD 3 0=t:=⟨rfl,rfl,rfl,rfl⟩
theorem Zpf (a o u x:Int):(hdX a o u x).getD 0 0=Zn1 a o u x/\(hdX a o u x).getD 1 0=o+1/\(hdX a o u x).getD 2 0=u/\(hdX a o u x).getD 3 0=x:=by
 unfold hdX;exact Yjz _ _ _ _
theorem Zqn {z:Int} (h:0<=z/\z<18446744073709551616):((z.toNat%18446744073709551616:Nat):Int)=z:=by omega
theorem Yc3 (m:Nat->UInt8) (a o u x:Int) (hm:Zoj a o x=true) (hu:0<=u/\u<18446744073709551616) (hx:x<=9223372036854775807):
 rdO (wrM m a.toNat a o u x) a.toNat=o/\rdU (wrM m a.toNat a o u x) a.toNat=u/\rdX (wrM m a.toNat a o u x) a.toNat=x/\stB (wrM m a.toNat a o u x) a=true:=by
 obtain⟨h1,h2,h3,h4⟩:=(Zdt a o x).1 hm;have e0:=Zzr m a.toNat 0 a o u x (by omega);have e1:=Zzr m a.toNat 1 a o u x (by omega);have e2:=Zzr m a.toNat 2 a o u x (by omega);have e3:=Zzr m a.toNat 3 a o u x (by omega);obtain⟨g0,g1,g2,g3⟩:=Zpf a o u x;rw[g0,Zqn (Yb6 a o u x)]at e0;rw[g1,Zqn (by omega)]at e1;rw[g2,Zqn hu]at e2;rw[g3,Zqn (by omega)]at e3;clear g0 g1 g2 g3;generalize wrM m a.toNat a o u x=M at*
 have f1:rdO M a.toNat=o:=by
  unfold rdO;rw[e1,IntWalk.wrap64_in (o+1) ⟨by omega,by omega⟩,IntWalk.wrap64_in _ ⟨by omega,by omega⟩];omega
 have f2:rdU M a.toNat=u:=by unfold rdU;exact e2
 have f3:rdX M a.toNat=x:=by
  unfold rdX;rw[e3,IntWalk.wrap64_in x ⟨by omega,by omega⟩]
 refine⟨f1,f2,f3,?_⟩
 unfold stB;rw[f1,f2,f3,hm,e0,decide_eq_true rfl];rfl
theorem Zy8 {m m':Nat->UInt8} {a:Int} (h:∀j,j<32->m (a.toNat+j)=m' (a.toNat+j)):
 rdO m a.toNat=rdO m' a.toNat/\rdU m a.toNat=rdU m' a.toNat/\rdX m a.toNat=rdX m' a.toNat/\stB m a=stB m' a:=by
 have e:∀k,k<4->n4 m a.toNat k=n4 m' a.toNat k:=fun k hk=>by
  unfold n4;rw[Zar (m':=m') (fun j hj=>by rw[Nat.add_assoc];exact h _ (by omega))]
 have f1:rdO m a.toNat=rdO m' a.toNat:=by unfold rdO;rw[e 1 (by omega)]
 have f2:rdU m a.toNat=rdU m' a.toNat:=by unfold rdU;rw[e 2 (by omega)]
 have f3:rdX m a.toNat=rdX m' a.toNat:=by unfold rdX;rw[e 3 (by omega)]
 exact⟨f1,f2,f3,by unfold stB;rw[f1,f2,f3,e 0 (by omega)]⟩
end
section
open Go Go.RowKit Go.Shelf
theorem Yh3 (x:Int):IntKind.i64.wrap x=wrap64 x:=by rw[IntKind.wrap_i64];unfold wrap64;rfl
theorem Zuw (o:Int) (w:World):Calls Tryz.prog 85 #[iV o] w fun e w'=>e=.returned (iV (spV o))/\w=w':=by
 by_cases h1:o<0
 · rw[Zk6 (.inl h1)]
   go_enter Tryz.func85,Tryz.ntmps85
   go_wp2
   go_ret
   exact⟨rfl,rfl⟩
 · by_cases h2:10<o
   · rw[Zk6 (.inr h2)]
     go_enter Tryz.func85,Tryz.ntmps85
     go_wp2
     go_ret
     exact⟨rfl,rfl⟩
   · obtain⟨j,rfl⟩:=Int.eq_ofNat_of_zero_le (show 0<=o by omega)
     rw[Ycy j (by omega)];have hle:pwI j<=1024:=by rw[<-Ybq];exact Zqg (by omega)
     have hp1:=Zlf j;have hw:wrap64 (4096*2^j)=4096*pwI j:=IntWalk.wrap64_in (4096*pwI j) ⟨by omega,by omega⟩;go_enter Tryz.func85,Tryz.ntmps85
     go_wp2
     go_ret
     exact⟨rfl,rfl⟩
def cC (a o u x:Int):Array Value:=#[iV a,iV o,.int .u64 u,iV x]
def CB (B:Nat) (a o u x:Int) (w:World):Prop:=w.heap[B]?=some (.cells (cC a o u x) 71 (0,0))
theorem Zcq (w:World) (a o u x:Int):CB w.heap.size a o u x (w.alloc (.cells (cC a o u x) 71)):=Zab _ _
theorem CB.all {B:Nat} {a o u x:Int} {w:World} (h:CB B a o u x w):w.cell? (aD B 0)=some (iV a)/\w.cell? (aD B 1)=some (iV o)/\w.cell? (aD B 2)=some (.int .u64 u)/\w.cell? (aD B 3)=some (iV x):=
 ⟨(Zaa h 0).1,(Zaa h 1).1,(Zaa h 2).1,(Zaa h 3).1⟩
def CBS (B:Nat) (a o u x:Int) (X:World):Prop:=
 X.cell? (aD B 0)=some (iV a)/\X.cell? (aD B 1)=some (iV o)/\X.cell? (aD B 2)=some (.int .u64 u)/\X.cell? (aD B 3)=some (iV x)/\CB B a o u x X
theorem Yb7 {B:Nat} {a o u x:Int} {X:World} (h:CB B a o u x X):CBS B a o u x X:=⟨h.all.1,h.all.2.1,h.all.2.2.1,h.all.2.2.2,h⟩
theorem CBS.below {B:Nat} {a o u x:Int} {X Y:World} (h:CBS B a o u x X) (hb:Below X.heap.size X Y):CBS B a o u x Y:=Yb7 (Zba hb h.2.2.2.2)
theorem Yec (a o u x:Int) (ha:0<=a) (ha2:a<=4294967296) (w:World):Calls Tryz.prog 220 #[cV a o u x] w fun e w'=>e=.returned (iV (a+spV o))/\Below w.heap.size w w':=by
 have HS:=hid (fun w=>Zuw o w);have hb:=Yfj o;obtain⟨S,hS⟩:=eX (spV o);rw[hS]at hb HS⊢;clear hS;have QW:Hid (IntKind.i64.wrap (a+S)=a+S):=hid (IntWalk.i64_in _ (by omega));go_enter Tryz.func220,Tryz.ntmps220;go_upto_region 1 with fail;have c:=Zcq w a o u x;have bw:=hid (Zaj w (.cells (cC a o u x) 71));obtain⟨y,hy⟩:=eX (w.alloc (.cells (cC a o u x) 71));obtain⟨B,hB⟩:=eX w.heap.size;rw[hy]at c bw;rw[hB]at c;change Code.wp _ _ _ _ (w.alloc (.cells (cC a o u x) 71));rw[hy,hB];clear hy hB;obtain⟨c0,c1,c2,c3⟩:=c.all;have HB:=hid (show Below w.heap.size w y.drew from bw.out.drew);have hS0:CBS B a o u x y.drew:=(Yb7 c).below (Below.refl _ _).drew;clear c c0 c1 c2 c3;refine wp_region_held_drew (S:=CBS B a o u x) (by kernel_rfl) hS0 (fun hHeld=>?_);clear hS0;refine tk 0 (pT B) rfl hHeld (fun X hS=>by obtain⟨s0,s1,s2,s3,s4⟩:=hS;go_simp) ?_;refine tk 1 (iV a) rfl hHeld (fun X hS=>by obtain⟨s0,s1,s2,s3,s4⟩:=hS;go_simp) ?_;refine tk 2 (.pointer (some (aD B 1))) rfl hHeld (fun X hS=>by obtain⟨s0,s1,s2,s3,s4⟩:=hS;go_simp) ?_;refine tk 3 (iV o) rfl hHeld (fun X hS=>by obtain⟨s0,s1,s2,s3,s4⟩:=hS;go_simp) ?_;refine rd [4] (AllReadyH.cons rfl (fun K1 hK1=>?_) AllReadyH.nil);go_simp
 refine(HS.out _).mono ?_
 rintro e x1 ⟨rfl,rfl⟩;have hS1:=hHeld;clear hHeld;refine hK1.out _ _ hS1 (fun hHeld=>?_);clear hK1 hS1
 try simp only[Act.put,apu]
 refine tk 5 (iV (a+S)) rfl hHeld (fun X hS=>by obtain⟨s0,s1,s2,s3,s4⟩:=hS;have q:=QW.out;go_simp) ?_;refine tk 6 (iV (a+S)) rfl hHeld (fun X hS=>by obtain⟨s0,s1,s2,s3,s4⟩:=hS;go_simp) ?_;refine wpAnyH_done (by kernel_rfl) ?_ _;clear hHeld;go_wp2_with fail
 go_ret
 exact⟨rfl,HB.out⟩
theorem Zvw (a o u x:Int) (ha:a<=9223372036854775807) (w:World):Calls Tryz.prog 141 #[cV a o u x] w (Zan (.bool (Zoj a o x)) w):=by
 have HS:=hid (fun w=>Zuw o w);unfold Zoj;generalize spV o=S at*
 by_cases h1:0<=a
 · have d1:decide (0<=a)=true:=decide_eq_true h1
   by_cases h2:a%4096=0
   · have d2:(a.tmod 4096==0)=true:=by rw[Int.tmod_eq_emod_of_nonneg h1];simpa using h2
     have e2:decide (a%4096=0)=true:=decide_eq_true h2;cases e3:decide (0<S)with
     |false=>
      rw[d1,e2];clear h1 h2;go_enter Tryz.func141,Tryz.ntmps141;go_upto_region 1 with fail;have c:=Zcq w a o u x;have bw:=hid (Zaj w (.cells (cC a o u x) 71));obtain⟨y,hy⟩:=eX (w.alloc (.cells (cC a o u x) 71));obtain⟨B,hB⟩:=eX w.heap.size;rw[hy]at c bw;rw[hB]at c;change Code.wp _ _ _ _ (w.alloc (.cells (cC a o u x) 71));rw[hy,hB];clear hy hB;obtain⟨c0,c1,c2,c3⟩:=c.all;go_wp2_with fail
      refine(HS.out _).mono ?_
      rintro e w' ⟨rfl,rfl⟩;go_wp2_with fail
      go_ret
      exact⟨rfl,bw.out⟩
     |true=>
      cases e4:decide (0<=x)with
      |false=>
       rw[d1,e2];clear h1 h2;go_enter Tryz.func141,Tryz.ntmps141;go_upto_region 1 with fail;have c:=Zcq w a o u x;have bw:=hid (Zaj w (.cells (cC a o u x) 71));obtain⟨y,hy⟩:=eX (w.alloc (.cells (cC a o u x) 71));obtain⟨B,hB⟩:=eX w.heap.size;rw[hy]at c bw;rw[hB]at c;change Code.wp _ _ _ _ (w.alloc (.cells (cC a o u x) 71));rw[hy,hB];clear hy hB;obtain⟨c0,c1,c2,c3⟩:=c.all;go_wp2_with fail
       refine(HS.out _).mono ?_
       rintro e w' ⟨rfl,rfl⟩;go_wp2_with fail
       go_ret
       exact⟨rfl,bw.out⟩
      |true=>
       rw[d1,e2];clear h1 h2;go_enter Tryz.func141,Tryz.ntmps141;go_upto_region 1 with fail;have c:=Zcq w a o u x;have bw:=hid (Zaj w (.cells (cC a o u x) 71));obtain⟨y,hy⟩:=eX (w.alloc (.cells (cC a o u x) 71));obtain⟨B,hB⟩:=eX w.heap.size;rw[hy]at c bw;rw[hB]at c;change Code.wp _ _ _ _ (w.alloc (.cells (cC a o u x) 71));rw[hy,hB];clear hy hB;obtain⟨c0,c1,c2,c3⟩:=c.all;go_wp2_with fail
       refine(HS.out _).mono ?_
       rintro e w' ⟨rfl,rfl⟩;go_wp2_with fail
       go_ret
       exact⟨rfl,bw.out⟩
   · have d2:(a.tmod 4096==0)=false:=by rw[Int.tmod_eq_emod_of_nonneg h1];simpa using h2
     have e2:decide (a%4096=0)=false:=decide_eq_false h2;rw[d1,e2];clear h1 h2;go_enter Tryz.func141,Tryz.ntmps141;go_upto_region 1 with fail;have c:=Zcq w a o u x;have bw:=hid (Zaj w (.cells (cC a o u x) 71));obtain⟨y,hy⟩:=eX (w.alloc (.cells (cC a o u x) 71));obtain⟨B,hB⟩:=eX w.heap.size;rw[hy]at c bw;rw[hB]at c;change Code.wp _ _ _ _ (w.alloc (.cells (cC a o u x) 71));rw[hy,hB];clear hy hB;obtain⟨c0,c1,c2,c3⟩:=c.all;go_wp2_with fail
     go_ret
     exact⟨rfl,bw.out⟩
 · have d1:decide (0<=a)=false:=decide_eq_false h1
   rw[d1];clear h1;go_enter Tryz.func141,Tryz.ntmps141;go_upto_region 1 with fail;have c:=Zcq w a o u x;have bw:=hid (Zaj w (.cells (cC a o u x) 71));obtain⟨y,hy⟩:=eX (w.alloc (.cells (cC a o u x) 71));obtain⟨B,hB⟩:=eX w.heap.size;rw[hy]at c bw;rw[hB]at c;change Code.wp _ _ _ _ (w.alloc (.cells (cC a o u x) 71));rw[hy,hB];clear hy hB;obtain⟨c0,c1,c2,c3⟩:=c.all;go_wp2_with fail
   go_ret
   exact⟨rfl,bw.out⟩
theorem Zn2 (a o u x:Int) (w:World):Calls Tryz.prog 142 #[cV a o u x] w (Zan (.int .u64 (Zn1 a o u x)) w):=by
 obtain⟨m1,hm1⟩:∃m,Zvv 7741253900701559149 (Zyc a)=m:=⟨_,rfl⟩
 obtain⟨m2,hm2⟩:∃m,Zvv m1 (Zyc o)=m:=⟨_,rfl⟩
 obtain⟨m3,hm3⟩:∃m,Zvv m2 u=m:=⟨_,rfl⟩
 obtain⟨m4,hm4⟩:∃m,Zvv m3 (Zyc x)=m:=⟨_,rfl⟩
 have HF:Hid (Zn1 a o u x=m4):=hid (by unfold Zn1 Yhy;simp only[List.foldl_cons,List.foldl_nil];rw[hm1,hm2,hm3,hm4]);have H1:=hid hm1;have H2:=hid hm2;have H3:=hid hm3;have H4:=hid hm4
 clear hm1 hm2 hm3 hm4;unfold Zvv at H1 H2 H3 H4;unfold Zyc at H1 H2 H4;have i0:∀w,(Instr.index 239 (.agg #[.int .u64 (IntKind.u64.wrap a),.int .u64 (IntKind.u64.wrap o),.int .u64 u,.int .u64 (IntKind.u64.wrap x)]) (iV 0)).run Tryz.prog w=.ok (.int .u64 (IntKind.u64.wrap a)) w:=fun _=>by kernel_rfl
 have i1:∀w,(Instr.index 239 (.agg #[.int .u64 (IntKind.u64.wrap a),.int .u64 (IntKind.u64.wrap o),.int .u64 u,.int .u64 (IntKind.u64.wrap x)]) (iV 1)).run Tryz.prog w=.ok (.int .u64 (IntKind.u64.wrap o)) w:=fun _=>by kernel_rfl
 have i2:∀w,(Instr.index 239 (.agg #[.int .u64 (IntKind.u64.wrap a),.int .u64 (IntKind.u64.wrap o),.int .u64 u,.int .u64 (IntKind.u64.wrap x)]) (iV 2)).run Tryz.prog w=.ok (.int .u64 u) w:=fun _=>by kernel_rfl
 have i3:∀w,(Instr.index 239 (.agg #[.int .u64 (IntKind.u64.wrap a),.int .u64 (IntKind.u64.wrap o),.int .u64 u,.int .u64 (IntKind.u64.wrap x)]) (iV 3)).run Tryz.prog w=.ok (.int .u64 (IntKind.u64.wrap x)) w:=fun _=>by kernel_rfl
 go_enter Tryz.func142,Tryz.ntmps142;go_upto_region 1 with fail;have c:=Zcq w a o u x;have bw:=hid (Zaj w (.cells (cC a o u x) 71));obtain⟨y,hy⟩:=eX (w.alloc (.cells (cC a o u x) 71));obtain⟨B,hB⟩:=eX w.heap.size;rw[hy]at c bw;rw[hB]at c;change Code.wp _ _ _ _ (w.alloc (.cells (cC a o u x) 71));rw[hy,hB];clear hy hB;obtain⟨c0,c1,c2,c3⟩:=c.all;go_wp2_with fail
 go_loop [3,18] (fun s k=>∃j:Nat,j<=4/\k=iV j/\s=.int .u64 (if j=0 then 7741253900701559149 else if j=1 then m1 else if j=2 then m2 else if j=3 then m3 else m4)) (fun _ k=>(4-intOf k).toNat)
 case atStart=>exact⟨0,by omega,rfl,rfl⟩
 case round=>
  obtain⟨j,hj,rfl,rfl⟩:=hrel;have hjj:j=0\/j=1\/j=2\/j=3\/j=4:=by omega
  rcases hjj with rfl|rfl|rfl|rfl|rfl
  · go_wp2_with fail
    go_round
    case rel=>exact⟨1,by omega,rfl,congrArg (Value.int IntKind.u64) H1.out⟩
    case measure=>simp[intOf]
  · go_wp2_with fail
    go_round
    case rel=>exact⟨2,by omega,rfl,congrArg (Value.int IntKind.u64) H2.out⟩
    case measure=>simp[intOf]
  · go_wp2_with fail
    go_round
    case rel=>exact⟨3,by omega,rfl,congrArg (Value.int IntKind.u64) H3.out⟩
    case measure=>simp[intOf]
  · go_wp2_with fail
    go_round
    case rel=>exact⟨4,by omega,rfl,congrArg (Value.int IntKind.u64) H4.out⟩
    case measure=>simp[intOf]
  · go_wp2_with fail
    go_ret
    exact⟨by rw[HF.out];rfl,bw.out⟩
theorem Zku (w:World):Calls Tryz.prog 139 #[] w (Zan (.agg (recC 4 F4)) w):=by
 have HSZ:Hid (∀f,(Tryz.prog.info? 195).map (·.size)=some (recC 4 f).size):=hid (fun f=>by rw[Zay];exact Tryz.Zd3);have HX:=hid ok4;go_enter Tryz.func139,Tryz.ntmps139;go_upto_region 1 with fail;obtain⟨x,hx⟩:=eX (w.alloc (.cells Zgg 195));have hR:x.heap[w.heap.size]?=some (.cells Zgg 195 (0,0)):=by rw[<-hx];exact Zab _ _
 have bx:Below w.heap.size w x:=by rw[<-hx];exact Zaj _ _
 change Code.wp _ _ _ _ (w.alloc (.cells Zgg 195));rw[hx];obtain⟨R,hRR⟩:=eX w.heap.size;rw[hRR]at hR⊢;have HR:=hid hR;have BX:=hid bx;have HRR:=hid (show w.heap.size<=R by omega)
 clear hR bx hx hRR;go_wp2_with fail
 have hws:Yiy (x.alloc (.cells #[iV 8,iV 8,iV 8,iV 8] 3)) (some (aD x.heap.size 0)) [8,8,8,8]:=by
  refine .inr ⟨x.heap.size,0,rfl,by simp,fun i hi=>?_⟩;rw[(Zaa (Zab x _) _).1,Nat.zero_add]
  have:i=0\/i=1\/i=2\/i=3:=by simp at hi;omega
  rcases this with rfl|rfl|rfl|rfl<;>rfl
 refine(Yf9 _ 4 4 [8,8,8,8] rfl (by omega) (by omega) _ hws).mono ?_
 rintro e w1 ⟨rfl,hb⟩;rw[HX.out];have b1:=(Zaj x (.cells #[iV 8,iV 8,iV 8,iV 8] 3)).trans (hb.mono (by simp));have HR1:=hid (Zba b1 HR.out);have B1:=hid (BX.out.trans (b1.mono BX.out.size));clear hws hb b1 HR BX
 go_upto_region 2 with(refine wpList_store_row rfl 195 (.tmp 1) (.tmp 6) rfl w1.heap.size (recC 4 F4) rfl rfl 195 Zgg (Zab _ _) (HSZ.out _) (by rw[Zer,Zay]) (Zhe _ _) ?_;simp only[Act.put,List.setIfInBounds_toArray,List.set_cons_zero,List.set_cons_succ])
 obtain⟨y,hy⟩:=eX ((w1.alloc (.cells Zgg 195)).setRow w1.heap.size (recC 4 F4));obtain⟨R1,hR1⟩:∃B,w1.heap.size=B:=⟨_,rfl⟩
 have hv:y.heap[R1]?=some (.cells (recC 4 F4) 195 (0,0)):=by rw[<-hy,<-hR1];exact Zby (Zab _ _) _
 have by_:Below w.heap.size w y:=by rw[<-hy];exact below_setRow (B1.out.alloc B1.out.size _) B1.out.size _
 have hr:y.heap[R]?=some (.cells Zgg 195 (0,0)):=by
  have hlt:=(Array.getElem?_eq_some_iff.1 HR1.out).1;rw[<-hy,setRow_other _ _ _ _ (by omega)]
  exact(Below.heap_alloc _ _ _ hlt).trans HR1.out
 change Code.wp _ _ _ _ ((w1.alloc (.cells Zgg 195)).setRow w1.heap.size (recC 4 F4));rw[hy,hR1];have HV:=hid hv;have BY:=hid by_;have HR2:=hid hr
 clear hv by_ hy hR1 hr B1 HR1
 go_wp2_with (first|(refine wpList_load_row rfl 195 (.tmp 1) rfl R1 rfl 195 (recC 4 F4) (0,0) _ HV.out Tryz.underlying195 rfl (HSZ.out _) ?_)|(refine wpList_store_row rfl 195 (.tmp 0) (.tmp 8) rfl R (recC 4 F4) rfl rfl 195 Zgg HR2.out (HSZ.out _) (by rw[Zer,Zay]) (Zhe _ _) ?_))
 have hl:=run_loadVar_row (P:=Tryz.prog) (y.setRow R (recC 4 F4)) R 195 195 (recC 4 F4) (0,0) _ (Zby HR2.out _) Tryz.underlying195 rfl (HSZ.out _);exact bodyPost_ret (v:=.agg (recC 4 F4)) (by simp[results,Tryz.results139,asAddr,hl,Act.put]) rfl ⟨rfl,below_setRow BY.out HRR.out _⟩
end
section
open Go Go.RowKit Go.Shelf
def WS (B V A:Nat) (a o u x:Int) (an:Nat) (X:World):Prop:=
 X.cell? (aD B 0)=some (iV a)/\X.cell? (aD B 1)=some (iV o)/\X.cell? (aD B 2)=some (.int .u64 u)/\X.cell? (aD B 3)=some (iV x)/\
 X.cell? (aD V 0)=some (pT A)/\X.cell? (aD V 1)=some (iV an)/\X.cell? (aD V 2)=some (iV 32)/\CB B a o u x X/\VC V (some (aD A 0)) an 32 X
theorem Ych {B V A:Nat} {a o u x:Int} {an:Nat} {X:World} (h:CB B a o u x X) (k:VC V (some (aD A 0)) an 32 X):WS B V A a o u x an X:=
 ⟨(Zaa h 0).1,(Zaa h 1).1,(Zaa h 2).1,(Zaa h 3).1,(Zaa k 0).1,(Zaa k 1).1,(Zaa k 2).1,h,k⟩
theorem WS.below {B V A:Nat} {a o u x:Int} {an:Nat} {X Y:World} (h:WS B V A a o u x an X) (hb:Below X.heap.size X Y):WS B V A a o u x an Y:=
 Ych (Zba hb h.2.2.2.2.2.2.2.1) (Zba hb h.2.2.2.2.2.2.2.2)
theorem WS.Zaq {B V A:Nat} {a o u x:Int} {an:Nat} {s:ASt} {X Y:World} (h:WS B V A a o u x an X) (ho:On A s X) (hg:Zam A X Y):WS B V A a o u x an Y:=
 Ych (hg.Zdn ho h.2.2.2.2.2.2.2.1 (by decide) (by decide) (by decide)) (hg.Zdn ho h.2.2.2.2.2.2.2.2 (by decide) (by decide) (by decide))
theorem Zmd (an:Nat):Zai an 32 0 (F4 4:Nat)=an:=by
 unfold Zai;rw[Zpy.2.2.2.2];rw[if_pos (by omega)];omega
theorem Zwk (a o u x:Int):(hdX a o u x).length=4:=by unfold hdX;exact rfl
theorem Yim {w:World} (a o u x:Int):Yjm (w.alloc (.cells #[.int .u64 (Zn1 a o u x),.int .u64 (o+1),.int .u64 u,.int .u64 x] 63)) (some (aD w.heap.size 0)) (hdX a o u x):=by
 obtain⟨g0,g1,g2,g3⟩:=Zpf a o u x;have hl:=Zwk a o u x;generalize hdX a o u x=xs at*
 generalize Zn1 a o u x=K at*
 refine .inr ⟨w.heap.size,0,rfl,by simp,fun i hi=>?_⟩;rw[(Zaa (Zab w _) _).1,Nat.zero_add]
 have:i=0\/i=1\/i=2\/i=3:=by omega
 rcases this with rfl|rfl|rfl|rfl
 · rw[g0];rfl
 · rw[g1];rfl
 · rw[g2];rfl
 · rw[g3];rfl
theorem Yin (a o u x:Int) (ho:0<=o/\o<=10) (hu:0<=u/\u<18446744073709551616) (hx:0<=x/\x<=9223372036854775807) (k:Nat) (hk:k<4):0<=(hdX a o u x).getD k 0/\(hdX a o u x).getD k 0<18446744073709551616:=by
 obtain⟨g0,g1,g2,g3⟩:=Zpf a o u x;have hc:=Yb6 a o u x;generalize hdX a o u x=xs at*
 generalize Zn1 a o u x=K at*
 have:k=0\/k=1\/k=2\/k=3:=by omega
 rcases this with rfl|rfl|rfl|rfl
 · rw[g0];exact hc
 · rw[g1];omega
 · rw[g2];omega
 · rw[g3];omega
theorem Yae (a o u x:Int) (hb:∀k,k<4->0<=(hdX a o u x).getD k 0/\(hdX a o u x).getD k 0<18446744073709551616):Zru F4 (hdX a o u x) 4:=fun k hk=>by
 have hF:=Zpy
 have e1:F4 (k+1)-F4 k=8:=by
  have:k=0\/k=1\/k=2\/k=3:=by omega
  rcases this with rfl|rfl|rfl|rfl<;>simp[hF.1,hF.2.1,hF.2.2.1,hF.2.2.2.1,hF.2.2.2.2]
 have:=hb k hk
 generalize (hdX a o u x).getD k 0=y at*
 rw[e1];unfold Zv3
 have:y/2^(8*8)=0:=by
  have:(2:Int)^(8*8)=18446744073709551616:=by decide
  rw[this];omega
 rw[this];rfl
section
variable {A:Nat} {s:ASt} {w:World}
theorem Zic (h:On A s w) (a o u x:Int) (ha:a<=9223372036854775807) (hu:0<=u/\u<18446744073709551616) (hx2:x<=9223372036854775807) (hm:Zoj a o x=true) (he:Zac s.L s.es a 32=0):
 Calls Tryz.prog 90 #[pT A,cV a o u x] w (Ret A {s with mm:=wrM s.mm a.toNat a o u x} (iV 0) w):=by
 obtain⟨ha0,hpg,ho,hx⟩:=(Zdt a o x).1 hm;have hbd:=Yin a o u x ho hu ⟨hx,hx2⟩;have HBD:=hid hbd;have HSH:=hid (Yae a o u x hbd)
 have hh:=(Zax h.Zch a 32).1 (by unfold Zac at he;cases hq:Zbd s.L s.es a 32 with
  |true=>rfl
  |false=>rw[hq]at he;cases he)
 have hs:=h.Zch.small;obtain⟨an,rfl⟩:=Int.eq_ofNat_of_zero_le ha0;rw[Int.toNat_natCast];have han:an<=4294967296:=by omega
 have HM:=hid (fun w=>Zvw an o u x ha w);rw[hm]at HM;have HK:=hid (fun w=>Zn2 an o u x w);have HO:=hid h;have HE:=hid he;have HEA:Hid (Zac s.L s.es (Zai an 32 0 (F4 4:Nat)) (F4 4:Nat)=0):=hid (by rw[Zmd,Zpy.2.2.2.2];exact he);have q1:IntKind.i64.wrap (o+1)=o+1:=IntWalk.i64_in _ (by omega);have q2:IntKind.u64.wrap (o+1)=o+1:=by rw[IntKind.wrap_u64];omega
 have q3:IntKind.u64.wrap x=x:=by rw[IntKind.wrap_u64];omega
 have Q1:=hid q1;have Q2:=hid q2;have Q3:=hid q3
 have HNS:=hid (fun y:World=>Yim (w:=y) an o u x);have HLN:Hid ((hdX an o u x).length=4):=hid (Zwk _ _ _ _);have HWM:Hid ({s with mm:=Zqh s.mm an F4 (hdX an o u x) 4}={s with mm:=wrM s.mm an an o u x}):=hid rfl;obtain⟨K,hK⟩:=eX (Zn1 an o u x);rw[hK]at HK HNS;obtain⟨xs,hxs⟩:=eX (hdX an o u x);rw[hxs]at HNS HLN HWM HBD HSH;obtain⟨sW,hsW⟩:∃y:ASt,{s with mm:=wrM s.mm an an o u x}=y:=⟨_,rfl⟩
 rw[hsW]at HWM⊢;clear hm h he ha0 hpg ho hx hbd hh hs q1 q2 q3 hK hxs hsW hu;go_enter Tryz.func90,Tryz.ntmps90;go_upto_region 1 with fail;have c:=Zcq w an o u x;have bw:=hid (Zaj w (.cells (cC an o u x) 71));obtain⟨y0,hy⟩:∃y,w.alloc (.cells (cC an o u x) 71)=y:=⟨_,rfl⟩
 obtain⟨B,hB⟩:=eX w.heap.size;rw[hy]at c bw;rw[hB]at c;change Code.wp _ _ _ _ (w.alloc (.cells (cC an o u x) 71));rw[hy,hB];have HBB:=hid hB;clear hy hB;obtain⟨c0,c1,c2,c3⟩:=c.all;have c:=hid c;go_wp2_with fail
 refine(HM.out _).mono ?_
 rintro e w1 ⟨rfl,hb⟩;have HB:=hid (bw.out.trans (hb.mono bw.out.size));have HC:=hid (show CB B an o u x w1 from Zba hb c.out);clear hb HM c0 c1 c2 c3 c;have c0:=HC.out.all.1;go_wp2_with fail
 refine(Zgw (HO.out.below HB.out) an 32 ha).mono ?_
 rintro e w2 ⟨rfl,hb⟩;rw[HE.out,show ofV (some (aD A 0)) an 32 0=.agg #[pT A,iV an,iV 32]from rfl];have HB2:=hid (HB.out.trans (hb.mono HB.out.size));have HC2:=hid (show CB B an o u x w2 from Zba hb HC.out);clear hb c0 HC HB;go_upto_region 8 with fail;obtain⟨y,hy⟩:=eX ((w2.alloc (.cells #[pT A,iV an,iV 32] 40)));have hlt:=(Array.getElem?_eq_some_iff.1 HC2.out).1;have hv:VC w2.heap.size (some (aD A 0)) an 32 y:=by rw[<-hy];exact Zab _ _
 have hc:CB B an o u x y:=by
  unfold CB;rw[<-hy];exact(Below.heap_alloc _ _ _ hlt).trans HC2.out
 have hb:Below w.heap.size w y:=by rw[<-hy];exact HB2.out.alloc HB2.out.size _
 change Code.wp _ _ _ _ (w2.alloc (.cells #[pT A,iV an,iV 32] 40));rw[hy];obtain⟨V,hV⟩:=eX w2.heap.size;rw[hV]at hv⊢;have hS0:WS B V A an o u x an y.drew:=(Ych hc hv).below (Below.refl _ _).drew;have HB3:=hid (show Below w.heap.size w y.drew from hb.drew);clear hy hv hc hb hlt hV HB2 HC2 HE;refine wp_region_held_drew (S:=WS B V A an o u x an) (by kernel_rfl) hS0 (fun hHeld=>?_);clear hS0;refine tk 1 (.agg #[pT A,iV an,iV 32]) rfl hHeld (fun X hS=>by obtain⟨s0,s1,s2,s3,s4,s5,s6,s7⟩:=hS;go_simp) ?_;refine tk 2 (.agg #[iV an,iV o,.int .u64 u,iV x]) rfl hHeld (fun X hS=>by obtain⟨s0,s1,s2,s3,s4,s5,s6,s7⟩:=hS;go_simp) ?_;refine tk 4 (.pointer (some (aD B 1))) rfl hHeld (fun X hS=>by obtain⟨s0,s1,s2,s3,s4,s5,s6,s7⟩:=hS;go_simp) ?_;refine tk 5 (iV o) rfl hHeld (fun X hS=>by obtain⟨s0,s1,s2,s3,s4,s5,s6,s7⟩:=hS;go_simp) ?_;refine tk 6 (iV (o+1)) rfl hHeld (fun X hS=>by obtain⟨s0,s1,s2,s3,s4,s5,s6,s7⟩:=hS;have q1:=Q1.out;go_simp) ?_;refine tk 7 (.int .u64 (o+1)) rfl hHeld (fun X hS=>by obtain⟨s0,s1,s2,s3,s4,s5,s6,s7⟩:=hS;have q2:=Q2.out;go_simp) ?_;refine tk 8 (.pointer (some (aD B 2))) rfl hHeld (fun X hS=>by obtain⟨s0,s1,s2,s3,s4,s5,s6,s7⟩:=hS;go_simp) ?_;refine tk 9 (.int .u64 u) rfl hHeld (fun X hS=>by obtain⟨s0,s1,s2,s3,s4,s5,s6,s7⟩:=hS;go_simp) ?_;refine tk 10 (.pointer (some (aD B 3))) rfl hHeld (fun X hS=>by obtain⟨s0,s1,s2,s3,s4,s5,s6,s7⟩:=hS;go_simp) ?_;refine tk 11 (iV x) rfl hHeld (fun X hS=>by obtain⟨s0,s1,s2,s3,s4,s5,s6,s7⟩:=hS;go_simp) ?_;refine tk 12 (.int .u64 x) rfl hHeld (fun X hS=>by obtain⟨s0,s1,s2,s3,s4,s5,s6,s7⟩:=hS;have q3:=Q3.out;go_simp) ?_;refine wpAnyH_ready (rs:=[0]) (by kernel_rfl) (by simp) ?_;refine AllReadyH.cons rfl (fun K1 hK1=>?_) AllReadyH.nil
 · go_simp
   refine(Zku _).mono ?_
   rintro e x1 ⟨rfl,hb1⟩;have HB1_:=hid (HB3.out.trans (hb1.mono HB3.out.size));have hS1:=hHeld.below hb1;clear hHeld hb1;refine hK1.out _ _ hS1 (fun hHeld=>?_);clear hK1 hS1
   try simp only[Act.put,apu]
   refine rd [3] (AllReadyH.cons rfl (fun K2 hK2=>?_) AllReadyH.nil);go_simp
   refine(HK.out _).mono ?_
   rintro e x2 ⟨rfl,hb2⟩;have HB2_:=hid (HB1_.out.trans (hb2.mono HB1_.out.size));have hS2:=hHeld.below hb2;clear hHeld hb2;refine hK2.out _ _ hS2 (fun hHeld=>?_);clear hK2 hS2
   try simp only[Act.put,apu]
   refine rd [13] (AllReadyH.cons rfl (fun K3 hK3=>?_) AllReadyH.nil);go_simp;have hS3:=hHeld.below (Zaj x2 (.cells #[.int .u64 K,.int .u64 (o+1),.int .u64 u,.int .u64 x] 63));have hNS:=HNS.out x2;have hO2:=HO.out.below HB2_.out;have hMine:=Zbb.new hO2 (.cells #[.int .u64 K,.int .u64 (o+1),.int .u64 u,.int .u64 x] 63);have hO3:=hO2.below (Zaj x2 (.cells #[.int .u64 K,.int .u64 (o+1),.int .u64 u,.int .u64 x] 63));have hW3:=hid (Zam.Zad HO.out (HB2_.out.trans ((Zaj x2 (.cells #[.int .u64 K,.int .u64 (o+1),.int .u64 u,.int .u64 x] 63)).mono HB2_.out.size)));obtain⟨x3,hx3⟩:=eX (x2.alloc (.cells #[.int .u64 K,.int .u64 (o+1),.int .u64 u,.int .u64 x] 63));obtain⟨Z,hZ⟩:=eX x2.heap.size;rw[hx3]at hS3 hNS hMine hO3 hW3⊢;rw[hZ]at hNS hMine⊢;clear hHeld hO2 hx3 hZ HB2_ HB1_ HB3;refine hK3.out _ _ hS3 (fun hHeld=>?_);clear hK3 hS3
   try simp only[Act.put,apu]
   refine rd [14] (AllReadyH.cons rfl (fun K4 hK4=>?_) AllReadyH.nil);go_simp
   refine(Zw0 hO3 4 F4 Yid an 32 han (by omega) (some (aD Z 0)) 4 xs HLN.out hNS HBD.out HSH.out (fun b off e=>by cases e;exact hMine.own) an (Zmd an) HEA.out).mono ?_
   rintro e x4 ⟨rfl,hO4,hG4⟩;rw[HWM.out]at hO4;have hS4:=hHeld.Zaq hO3 hG4;have HF:=hid (And.intro hO4 (hW3.out.trans hG4));clear hHeld hO3 hG4 hO4 hW3 hNS hMine;refine hK4.out _ _ hS4 (fun hHeld=>?_);clear hK4 hS4
   try simp only[Act.put,apu]
   refine tk 15 (iV 0) rfl hHeld (fun X hS=>by obtain⟨s0,s1,s2,s3,s4,s5,s6,s7⟩:=hS;go_simp) ?_;refine wpAnyH_done (by kernel_rfl) ?_ _;go_wp2_with fail
   go_ret
   exact⟨rfl,HF.out.1,HF.out.2⟩
end
end
section
open Go Go.RowKit Go.Shelf
theorem Tryz.Zlx:(Tryz.prog.info? 71).map (·.size)=some 4:=by kernel_rfl
theorem Zjy (a o u x:Int):(cC a o u x).all (·.oneCell')=true:=by simp[cC,Value.oneCell']
def RS (R V A an:Nat) (X:World):Prop:=
 X.cell? (aD V 0)=some (pT A)/\X.cell? (aD V 1)=some (iV an)/\X.cell? (aD V 2)=some (iV 32)/\CB R 0 0 0 0 X/\VC V (some (aD A 0)) an 32 X
theorem Yfn {R V A an:Nat} {X:World} (h:CB R 0 0 0 0 X) (k:VC V (some (aD A 0)) an 32 X):RS R V A an X:=
 ⟨(Zaa k 0).1,(Zaa k 1).1,(Zaa k 2).1,h,k⟩
theorem RS.below {R V A an:Nat} {X Y:World} (h:RS R V A an X) (hb:Below X.heap.size X Y):RS R V A an Y:=Yfn (Zba hb h.2.2.2.1) (Zba hb h.2.2.2.2)
def NB4 (N:Nat) (n0 n1 n2 n3:Int) (X:World):Prop:=X.heap[N]?=some (.cells #[.int .u64 n0,.int .u64 n1,.int .u64 n2,.int .u64 n3] 63 (0,0))
def RN (R N:Nat) (n0 n1 n2 n3:Int) (X:World):Prop:=
 X.cell? (aD N 0)=some (.int .u64 n0)/\X.cell? (aD N 1)=some (.int .u64 n1)/\X.cell? (aD N 2)=some (.int .u64 n2)/\X.cell? (aD N 3)=some (.int .u64 n3)/\CB R 0 0 0 0 X/\NB4 N n0 n1 n2 n3 X
theorem Zy5 {R N:Nat} {n0 n1 n2 n3:Int} {X:World} (h:CB R 0 0 0 0 X) (k:NB4 N n0 n1 n2 n3 X):RN R N n0 n1 n2 n3 X:=
 ⟨(Zaa k 0).1,(Zaa k 1).1,(Zaa k 2).1,(Zaa k 3).1,h,k⟩
theorem RN.below {R N:Nat} {n0 n1 n2 n3:Int} {X Y:World} (h:RN R N n0 n1 n2 n3 X) (hb:Below X.heap.size X Y):RN R N n0 n1 n2 n3 Y:=Zy5 (Zba hb h.2.2.2.2.1) (Zba hb h.2.2.2.2.2)
def RCc (R N C:Nat) (n0 n1 n2 n3:Int) (a o u x:Int) (X:World):Prop:=
 X.cell? (aD C 0)=some (iV a)/\X.cell? (aD C 1)=some (iV o)/\X.cell? (aD C 2)=some (.int .u64 u)/\X.cell? (aD C 3)=some (iV x)/\X.cell? (aD N 0)=some (.int .u64 n0)/\CB R 0 0 0 0 X/\NB4 N n0 n1 n2 n3 X/\CB C a o u x X
theorem Yfu {R N C:Nat} {n0 n1 n2 n3 a o u x:Int} {X:World} (h:CB R 0 0 0 0 X) (k:NB4 N n0 n1 n2 n3 X) (l:CB C a o u x X):RCc R N C n0 n1 n2 n3 a o u x X:=
 ⟨l.all.1,l.all.2.1,l.all.2.2.1,l.all.2.2.2,(Zaa k 0).1,h,k,l⟩
theorem RCc.below {R N C:Nat} {n0 n1 n2 n3 a o u x:Int} {X Y:World} (h:RCc R N C n0 n1 n2 n3 a o u x X) (hb:Below X.heap.size X Y):RCc R N C n0 n1 n2 n3 a o u x Y:=Yfu (Zba hb h.2.2.2.2.2.1) (Zba hb h.2.2.2.2.2.2.1) (Zba hb h.2.2.2.2.2.2.2)
section
variable {A:Nat} {s:ASt} {w:World}
theorem Zsf (h:On A s w) (a:Int) (ha:a<=9223372036854775807) (he:Zac s.L s.es a 32≠0):
 Calls Tryz.prog 74 #[pT A,iV a] w (Zan (.tuple #[cV 0 0 0 0,iV 3]) w):=by
 have e3:Zac s.L s.es a 32=3:=by unfold Zac at he⊢;split<;>simp_all
 have HO:=hid (h.below (Zaj w (.cells (cC 0 0 0 0) 71)));have HE:=hid e3;have HR:=hid (Zcq w 0 0 0 0);have HB:=hid (Zaj w (.cells (cC 0 0 0 0) 71));have HSZ:Hid (∀a o u x,(Tryz.prog.info? 71).map (·.size)=some (cC a o u x).size):=hid (fun a o u x=>Tryz.Zlx);clear h he e3;go_enter Tryz.func74,Tryz.ntmps74;go_upto_region 1 with fail;obtain⟨x,hx⟩:=eX (w.alloc (.cells (cC 0 0 0 0) 71));obtain⟨R,hRR⟩:=eX w.heap.size;rw[hx]at HO HR HB;rw[hRR]at HR;change Code.wp _ _ _ _ (w.alloc (.cells (cC 0 0 0 0) 71));rw[hx,hRR];have HRR:=hid (show w.heap.size<=R by omega);clear hx hRR;go_wp2_with fail
 refine(Zgw HO.out a 32 ha).mono ?_
 rintro e w2 ⟨rfl,hb⟩;rw[HE.out,show ofV (some (aD A 0)) a 32 3=.agg #[.pointer none,iV 0,iV 0]from rfl];have HB2:=hid (HB.out.trans (hb.mono HB.out.size));have HR2:=hid (show CB R 0 0 0 0 w2 from Zba hb HR.out);clear hb HR HB;go_upto_region 2 with fail;obtain⟨y,hy⟩:=eX ((w2.alloc (.cells #[.pointer none,iV 0,iV 0] 40)));have hlt:=(Array.getElem?_eq_some_iff.1 HR2.out).1
 have hc:CB R 0 0 0 0 y:=by
  unfold CB;rw[<-hy];exact(Below.heap_alloc _ _ _ hlt).trans HR2.out
 have hb:Below w.heap.size w y:=by rw[<-hy];exact HB2.out.alloc HB2.out.size _
 change Code.wp _ _ _ _ (w2.alloc (.cells #[.pointer none,iV 0,iV 0] 40));rw[hy];have HC:=hid hc;have HBY:=hid hb
 clear hlt hc hb hy HR2 HB2
 go_wp2_with (first|(refine wpList_store_row rfl 71 (.tmp 4) (.tmp 18) rfl R (cC 0 0 0 0) rfl rfl 71 (cC 0 0 0 0) HC.out (HSZ.out _ _ _ _) rfl (Zjy _ _ _ _) ?_))
 have hl:=run_loadVar_row (P:=Tryz.prog) (y.setRow R (cC 0 0 0 0)) R 71 71 (cC 0 0 0 0) (0,0) _ (Zby HC.out _) Tryz.underlying71 rfl (HSZ.out _ _ _ _);exact bodyPost_ret (v:=.tuple #[cV 0 0 0 0,iV 3]) (by simp[results,Tryz.results74,asAddr,hl,Act.put];rfl) rfl ⟨rfl,below_setRow HBY.out HRR.out _⟩
theorem Zse (h:On A s w) (a:Int) (ha:a<=9223372036854775807) (he:Zac s.L s.es a 32=0):
 Calls Tryz.prog 74 #[pT A,iV a] w (Zan (rdV s a) w):=by
 have hh:=(Zax h.Zch a 32).1 (by unfold Zac at he;cases hq:Zbd s.L s.es a 32 with
  |true=>rfl
  |false=>rw[hq]at he;cases he)
 have hs:=h.Zch.small;obtain⟨an,rfl⟩:=Int.eq_ofNat_of_zero_le hh.1;have han:an<=4294967296:=by omega
 have hV:rdV s an=(if Zoj an (rdO s.mm an) (rdX s.mm an)&&decide (Zn1 an (rdO s.mm an) (rdU s.mm an) (rdX s.mm an)=n4 s.mm an 0)then .tuple #[cV an (rdO s.mm an) (rdU s.mm an) (rdX s.mm an),iV 0]else .tuple #[cV 0 0 0 0,iV 7]):=by
  unfold rdV stB;rw[if_pos he,Int.toNat_natCast]
 have HRV:=hid hV;have HEA:Hid (Zac s.L s.es (Zai an 32 0 (F4 4:Nat)) (F4 4:Nat)=0):=hid (by rw[Zmd,Zpy.2.2.2.2];exact he)
 have hn:Zjg 4 (Ye6 s an F4) 4=#[.int .u64 (n4 s.mm an 0),.int .u64 (n4 s.mm an 1),.int .u64 (n4 s.mm an 2),.int .u64 (n4 s.mm an 3)]:=by
  rw[<-Zmb s an 0 (by omega),<-Zmb s an 1 (by omega),<-Zmb s an 2 (by omega),<-Zmb s an 3 (by omega)];rfl
 have HNC:=hid hn;have HO:=hid (h.below (Zaj w (.cells (cC 0 0 0 0) 71)));have HOW:=hid h;have HE:=hid he;have HR:=hid (Zcq w 0 0 0 0);have HB:=hid (Zaj w (.cells (cC 0 0 0 0) 71));have HSZ:Hid (∀a o u x,(Tryz.prog.info? 71).map (·.size)=some (cC a o u x).size):=hid (fun a o u x=>Tryz.Zlx);have QO:Hid (IntKind.i64.wrap (wrap64 (n4 s.mm an 1)-1)=rdO s.mm an):=hid (Yh3 _);have QN:Hid (IntKind.i64.wrap (n4 s.mm an 1)=wrap64 (n4 s.mm an 1)):=hid (Yh3 _);have QX:Hid (IntKind.i64.wrap (n4 s.mm an 3)=rdX s.mm an):=hid (Yh3 _);have QU:Hid (n4 s.mm an 2=rdU s.mm an):=hid rfl;obtain⟨O,hO⟩:=eX (rdO s.mm an);obtain⟨U,hU⟩:=eX (rdU s.mm an);obtain⟨Z,hZ⟩:=eX (rdX s.mm an);obtain⟨n0,hn0⟩:∃n,n4 s.mm an 0=n:=⟨_,rfl⟩
 obtain⟨n1,hn1⟩:∃n,n4 s.mm an 1=n:=⟨_,rfl⟩
 obtain⟨n2,hn2⟩:∃n,n4 s.mm an 2=n:=⟨_,rfl⟩
 obtain⟨n3,hn3⟩:∃n,n4 s.mm an 3=n:=⟨_,rfl⟩
 rw[hO,hU,hZ,hn0]at HRV;rw[hn0,hn1,hn2,hn3]at HNC;rw[hn1,hO]at QO;rw[hn1]at QN;rw[hn2,hU]at QU;rw[hn3,hZ]at QX;have HKM:=hid (fun w=>Zvw an O U Z ha w);have HKC:=hid (fun w=>Zn2 an O U Z w);obtain⟨MB,hMB⟩:∃b,Zoj an O Z=b:=⟨_,rfl⟩
 obtain⟨CK,hCK⟩:∃b,Zn1 an O U Z=b:=⟨_,rfl⟩
 rw[hMB,hCK]at HRV;rw[hMB]at HKM;rw[hCK]at HKC;clear h he hh hs hV hn hO hU hZ hn0 hn1 hn2 hn3 hMB hCK;go_enter Tryz.func74,Tryz.ntmps74;go_upto_region 1 with fail;obtain⟨x,hx⟩:=eX (w.alloc (.cells (cC 0 0 0 0) 71));obtain⟨R,hRR⟩:=eX w.heap.size;rw[hx]at HO HR HB;rw[hRR]at HR;change Code.wp _ _ _ _ (w.alloc (.cells (cC 0 0 0 0) 71));rw[hx,hRR];have HRR:=hid (show w.heap.size<=R by omega);clear hx hRR;go_wp2_with fail
 refine(Zgw HO.out an 32 ha).mono ?_
 rintro e w2 ⟨rfl,hb⟩;rw[HE.out,show ofV (some (aD A 0)) an 32 0=.agg #[pT A,iV an,iV 32]from rfl];have HB2:=hid (HB.out.trans (hb.mono HB.out.size));have HR2:=hid (show CB R 0 0 0 0 w2 from Zba hb HR.out);clear hb HR HB HO HE;go_upto_region 2 with fail;obtain⟨y,hy⟩:=eX ((w2.alloc (.cells #[pT A,iV an,iV 32] 40)));have hlt:=(Array.getElem?_eq_some_iff.1 HR2.out).1;have hv:VC w2.heap.size (some (aD A 0)) an 32 y:=by rw[<-hy];exact Zab _ _
 have hc:CB R 0 0 0 0 y:=by
  unfold CB;rw[<-hy];exact(Below.heap_alloc _ _ _ hlt).trans HR2.out
 have hb:Below w.heap.size w y:=by rw[<-hy];exact HB2.out.alloc HB2.out.size _
 change Code.wp _ _ _ _ (w2.alloc (.cells #[pT A,iV an,iV 32] 40));rw[hy];obtain⟨V,hV⟩:=eX w2.heap.size;rw[hV]at hv⊢;have HS:=hid (Yfn hc hv);have HBY:=hid hb;clear hlt hv hc hb hy hV HR2 HB2;go_upto_region 4 with fail;have hS0:RS R V A an y.drew:=HS.out.below (Below.refl _ _).drew;have HB3:=hid (show Below w.heap.size w y.drew from HBY.out.drew);clear HS HBY;refine wp_region_held_drew (S:=RS R V A an) (by kernel_rfl) hS0 (fun hHeld=>?_);clear hS0;refine tk 1 (.agg #[pT A,iV an,iV 32]) rfl hHeld (fun X hS=>by obtain⟨s0,s1,s2,s3⟩:=hS;go_simp) ?_;refine rd [0] (AllReadyH.cons rfl (fun K1 hK1=>?_) AllReadyH.nil);go_simp
 refine(Zku _).mono ?_
 rintro e x1 ⟨rfl,hb1⟩;have HB4:=hid (HB3.out.trans (hb1.mono HB3.out.size));have hS1:=hHeld.below hb1;clear hHeld hb1;refine hK1.out _ _ hS1 (fun hHeld=>?_);clear hK1 hS1
 try simp only[Act.put,apu]
 refine rd [2] (AllReadyH.cons rfl (fun K2 hK2=>?_) AllReadyH.nil);go_simp
 refine(Yd5 (HOW.out.below HB4.out) 4 F4 Yid an 32 han (by omega) an (Zmd an) HEA.out).mono ?_
 rintro e x2 ⟨N,rfl,hN,hNlt,hb2⟩;rw[HNC.out]at hN;have HB5:=hid (HB4.out.trans (hb2.mono HB4.out.size));have hS2:=hHeld.below hb2;have HNB:=hid (show NB4 N n0 n1 n2 n3 x2 from hN);have HCR:=hid hS2.2.2.2.1;clear hHeld hb2 hN hNlt HB3 HB4 HOW HEA HNC;refine hK2.out _ _ hS2 (fun hHeld=>?_);clear hK2 hS2
 try simp only[Act.put,apu]
 refine tk 3 (.tuple #[.slice (some (aD N 0)) 4 4,iV 0]) rfl hHeld (fun X hS=>by obtain⟨s0,s1,s2,s3⟩:=hS;go_simp) ?_;refine tk 4 (.slice (some (aD N 0)) 4 4) rfl hHeld (fun X hS=>by obtain⟨s0,s1,s2,s3⟩:=hS;go_simp) ?_;refine tk 5 (iV 0) rfl hHeld (fun X hS=>by obtain⟨s0,s1,s2,s3⟩:=hS;go_simp) ?_;refine tk 6 (.slice (some (aD N 0)) 4 4) rfl hHeld (fun X hS=>by obtain⟨s0,s1,s2,s3⟩:=hS;go_simp) ?_;refine tk 7 (iV 0) rfl hHeld (fun X hS=>by obtain⟨s0,s1,s2,s3⟩:=hS;go_simp) ?_;refine wpAnyH_done (by kernel_rfl) ?_ _;clear hHeld;go_upto_region 7 with fail;have hS0:RN R N n0 n1 n2 n3 x2.drew:=(Zy5 HCR.out HNB.out).below (Below.refl _ _).drew;have HB6:=hid (show Below w.heap.size w x2.drew from HB5.out.drew);refine wp_region_held_drew (S:=RN R N n0 n1 n2 n3) (by kernel_rfl) hS0 (fun hHeld=>?_);clear hS0;refine tk 0 (iV an) rfl hHeld (fun X hS=>by obtain⟨s0,s1,s2,s3,s4⟩:=hS;go_simp) ?_;refine tk 1 (.slice (some (aD N 0)) 4 4) rfl hHeld (fun X hS=>by obtain⟨s0,s1,s2,s3,s4⟩:=hS;go_simp) ?_;refine tk 2 (.pointer (some (aD N 1))) rfl hHeld (fun X hS=>by obtain⟨s0,s1,s2,s3,s4⟩:=hS;go_simp) ?_;refine tk 3 (.int .u64 n1) rfl hHeld (fun X hS=>by obtain⟨s0,s1,s2,s3,s4⟩:=hS;go_simp) ?_;refine tk 4 (iV (wrap64 n1)) rfl hHeld (fun X hS=>by obtain⟨s0,s1,s2,s3,s4⟩:=hS;have qn:=QN.out;go_simp) ?_;refine tk 5 (iV O) rfl hHeld (fun X hS=>by obtain⟨s0,s1,s2,s3,s4⟩:=hS;have qo:=QO.out;go_simp) ?_;refine tk 6 (.slice (some (aD N 0)) 4 4) rfl hHeld (fun X hS=>by obtain⟨s0,s1,s2,s3,s4⟩:=hS;go_simp) ?_;refine tk 7 (.pointer (some (aD N 2))) rfl hHeld (fun X hS=>by obtain⟨s0,s1,s2,s3,s4⟩:=hS;go_simp) ?_;refine tk 8 (.int .u64 n2) rfl hHeld (fun X hS=>by obtain⟨s0,s1,s2,s3,s4⟩:=hS;go_simp) ?_;refine tk 9 (.slice (some (aD N 0)) 4 4) rfl hHeld (fun X hS=>by obtain⟨s0,s1,s2,s3,s4⟩:=hS;go_simp) ?_;refine tk 10 (.pointer (some (aD N 3))) rfl hHeld (fun X hS=>by obtain⟨s0,s1,s2,s3,s4⟩:=hS;go_simp) ?_;refine tk 11 (.int .u64 n3) rfl hHeld (fun X hS=>by obtain⟨s0,s1,s2,s3,s4⟩:=hS;go_simp) ?_;refine tk 12 (iV Z) rfl hHeld (fun X hS=>by obtain⟨s0,s1,s2,s3,s4⟩:=hS;have qx:=QX.out;go_simp) ?_;refine tk 13 (.agg #[iV an,iV O,.int .u64 U,iV Z]) rfl hHeld (fun X hS=>by obtain⟨s0,s1,s2,s3,s4⟩:=hS;have qu:=QU.out;subst qu;go_simp) ?_;refine rd [14] (AllReadyH.cons rfl (fun K1 hK1=>?_) AllReadyH.nil);go_simp;have bz:Below x2.heap.size x2 (x2.alloc (.cells (cC 0 0 0 0) 71)).drew:=(Zaj x2 _).drew;have hC0:CB x2.heap.size 0 0 0 0 (x2.alloc (.cells (cC 0 0 0 0) 71)).drew:=Zba (Below.refl _ _).drew (Zcq x2 0 0 0 0);have hlN:=(Array.getElem?_eq_some_iff.1 HNB.out).1;have hlR:=(Array.getElem?_eq_some_iff.1 HCR.out).1;have hN1:NB4 N n0 n1 n2 n3 (x2.alloc (.cells (cC 0 0 0 0) 71)).drew:=Zba bz HNB.out;have hR1:CB R 0 0 0 0 (x2.alloc (.cells (cC 0 0 0 0) 71)).drew:=Zba bz HCR.out;have hB1:Below w.heap.size w (x2.alloc (.cells (cC 0 0 0 0) 71)).drew:=HB5.out.trans (bz.mono HB5.out.size);have hCw:w.heap.size<=x2.heap.size:=HB5.out.size;change K1 _ (x2.alloc (.cells (cC 0 0 0 0) 71)).drew;obtain⟨z,hz⟩:=eX ((x2.alloc (.cells (cC 0 0 0 0) 71)).drew);obtain⟨C,hC⟩:=eX x2.heap.size;rw[hz]at hC0 hN1 hR1 hB1⊢;rw[hC]at hC0 hlN hlR hCw⊢;have HN1:=hid hN1;have HR1:=hid hR1;have HC1:=hid hC0;have HB7:=hid hB1
 have HNE:=hid (show N≠C/\R≠C by omega);have HCW:=hid hCw;have hS1:=Zy5 hR1 hN1;clear bz hC0 hlN hlR hN1 hR1 hB1 hz hC hHeld HB6 HB5 HNB HCR hCw;refine hK1.out _ _ hS1 (fun hHeld=>?_);clear hK1 hS1
 try simp only[Act.put,apu]
 refine rd [15] (AllReadyH.cons rfl (fun K2 hK2=>?_) AllReadyH.nil);rw[if_pos (by rfl)];refine wp_store_row 71 (.tmp 9) (.tmp 43) rfl C (cC an O U Z) rfl rfl 71 (cC 0 0 0 0) HC1.out (HSZ.out _ _ _ _) rfl (Zjy _ _ _ _) ?_;have hC2:CB C an O U Z (z.setRow C (cC an O U Z)):=Zby HC1.out _;have hN2:NB4 N n0 n1 n2 n3 (z.setRow C (cC an O U Z)):=by unfold NB4;rw[setRow_other _ _ _ _ HNE.out.1];exact HN1.out
 have hR2:CB R 0 0 0 0 (z.setRow C (cC an O U Z)):=by unfold CB;rw[setRow_other _ _ _ _ HNE.out.2];exact HR1.out
 have hB2:Below w.heap.size w (z.setRow C (cC an O U Z)):=below_setRow HB7.out HCW.out _;have hS2:=Zy5 hR2 hN2;refine hK2.out _ _ hS2 (fun hHeld=>?_);clear hK2 hS2 hHeld HN1 HR1 HC1 HB7 HNE HCW
 try simp only[Act.put,apu]
 refine wpAnyH_done (by kernel_rfl) ?_ _;obtain⟨z2,hz2⟩:=eX (z.setRow C (cC an O U Z));rw[hz2]at hC2 hN2 hR2 hB2⊢;have hS0:RCc R N C n0 n1 n2 n3 an O U Z z2.drew:=(Yfu hR2 hN2 hC2).below (Below.refl _ _).drew;have HB8:=hid (show Below w.heap.size w z2.drew from hB2.drew);clear hC2 hN2 hR2 hB2 hz2;go_upto_region 8 with fail;refine wp_region_held_drew (S:=RCc R N C n0 n1 n2 n3 an O U Z) (by kernel_rfl) hS0 (fun hHeld=>?_);clear hS0;refine tk 0 (.agg #[iV an,iV O,.int .u64 U,iV Z]) rfl hHeld (fun X hS=>by obtain⟨s0,s1,s2,s3,s4,s5,s6,s7⟩:=hS;go_simp) ?_;refine rd [1] (AllReadyH.cons rfl (fun K1 hK1=>?_) AllReadyH.nil);go_simp
 refine(HKM.out _).mono ?_
 rintro e z3 ⟨rfl,hb3⟩;have HB9:=hid (HB8.out.trans (hb3.mono HB8.out.size));have hS1:=hHeld.below hb3;have HR3:=hid hS1.2.2.2.2.2.1;clear hHeld hb3 HB8 HKM;refine hK1.out _ _ hS1 (fun hHeld=>?_);clear hK1 hS1
 try simp only[Act.put,apu]
 cases MB with
 |false=>
  refine tk 2 (.bool true) rfl hHeld (fun X hS=>by obtain⟨s0,s1,s2,s3,s4,s5,s6,s7⟩:=hS;go_simp) ?_;refine tk 3 (.bool true) rfl hHeld (fun X hS=>by obtain⟨s0,s1,s2,s3,s4,s5,s6,s7⟩:=hS;go_simp) ?_;refine tu 4 rfl hHeld ?_;refine tu 5 rfl hHeld ?_;refine tu 6 rfl hHeld ?_;refine tu 7 rfl hHeld ?_;refine tu 8 rfl hHeld ?_;refine tu 9 rfl hHeld ?_;refine tk 10 (.bool true) rfl hHeld (fun X hS=>by obtain⟨s0,s1,s2,s3,s4,s5,s6,s7⟩:=hS;go_simp) ?_;refine wpAnyH_done (by kernel_rfl) ?_ _;clear hHeld;have HRF:=HR3;have HBF:=HB9
  go_wp2_with (first|(refine wpList_store_row rfl 71 (.tmp 4) (.tmp 55) rfl R (cC 0 0 0 0) rfl rfl 71 (cC 0 0 0 0) HRF.out (HSZ.out _ _ _ _) rfl (Zjy _ _ _ _) ?_))
  have hl:=run_loadVar_row (P:=Tryz.prog) (z3.setRow R (cC 0 0 0 0)) R 71 71 (cC 0 0 0 0) (0,0) _ (Zby HRF.out _) Tryz.underlying71 rfl (HSZ.out _ _ _ _);exact bodyPost_ret (v:=.tuple #[.agg (cC 0 0 0 0),iV 7]) (by simp[results,Tryz.results74,asAddr,hl,Act.put]) rfl ⟨by rw[HRV.out];rfl,below_setRow HBF.out HRR.out _⟩
 |true=>
  refine tk 2 (.bool false) rfl hHeld (fun X hS=>by obtain⟨s0,s1,s2,s3,s4,s5,s6,s7⟩:=hS;go_simp) ?_;refine tk 3 (.bool false) rfl hHeld (fun X hS=>by obtain⟨s0,s1,s2,s3,s4,s5,s6,s7⟩:=hS;go_simp) ?_;refine tk 4 (.agg #[iV an,iV O,.int .u64 U,iV Z]) rfl hHeld (fun X hS=>by obtain⟨s0,s1,s2,s3,s4,s5,s6,s7⟩:=hS;go_simp) ?_;refine tk 6 (.slice (some (aD N 0)) 4 4) rfl hHeld (fun X hS=>by obtain⟨s0,s1,s2,s3,s4,s5,s6,s7⟩:=hS;go_simp) ?_;refine tk 7 (pT N) rfl hHeld (fun X hS=>by obtain⟨s0,s1,s2,s3,s4,s5,s6,s7⟩:=hS;go_simp) ?_;refine tk 8 (.int .u64 n0) rfl hHeld (fun X hS=>by obtain⟨s0,s1,s2,s3,s4,s5,s6,s7⟩:=hS;go_simp) ?_;refine rd [5] (AllReadyH.cons rfl (fun K1 hK1=>?_) AllReadyH.nil);go_simp
  refine(HKC.out _).mono ?_
  rintro e z4 ⟨rfl,hb4⟩;have HBF:=hid (HB9.out.trans (hb4.mono HB9.out.size));have hS1:=hHeld.below hb4;have HRF:=hid hS1.2.2.2.2.2.1;have HCF:=hid hS1.2.2.2.2.2.2.2;clear hHeld hb4 HB9 HKC HR3;refine hK1.out _ _ hS1 (fun hHeld=>?_);clear hK1 hS1
  try simp only[Act.put,apu]
  by_cases hck:CK=n0
  · have hne:(CK !=n0)=false:=by simp[hck]
    have hd:decide (CK=n0)=true:=decide_eq_true hck;rw[hd]at HRV;have HNE:=hid hne;clear hck hne hd;refine tk 9 (.bool false) rfl hHeld (fun X hS=>by obtain⟨s0,s1,s2,s3,s4,s5,s6,s7⟩:=hS;have hne:=HNE.out;go_simp) ?_;refine tk 10 (.bool false) rfl hHeld (fun X hS=>by obtain⟨s0,s1,s2,s3,s4,s5,s6,s7⟩:=hS;go_simp) ?_;refine wpAnyH_done (by kernel_rfl) ?_ _;clear hHeld
    go_wp2_with (first|(refine wpList_load_row rfl 71 (.tmp 9) rfl C rfl 71 (cC an O U Z) (0,0) _ HCF.out Tryz.underlying71 rfl (HSZ.out _ _ _ _) ?_)|(refine wpList_store_row rfl 71 (.tmp 4) (.tmp 56) rfl R (cC an O U Z) rfl rfl 71 (cC 0 0 0 0) HRF.out (HSZ.out _ _ _ _) rfl (Zjy _ _ _ _) ?_))
    have hl:=run_loadVar_row (P:=Tryz.prog) (z4.setRow R (cC an O U Z)) R 71 71 (cC an O U Z) (0,0) _ (Zby HRF.out _) Tryz.underlying71 rfl (HSZ.out _ _ _ _);exact bodyPost_ret (v:=.tuple #[.agg (cC an O U Z),iV 0]) (by simp[results,Tryz.results74,asAddr,hl,Act.put]) rfl ⟨by rw[HRV.out];rfl,below_setRow HBF.out HRR.out _⟩
  · have hne:(CK !=n0)=true:=by simp[hck]
    have hd:decide (CK=n0)=false:=decide_eq_false hck;rw[hd]at HRV;have HNE:=hid hne;clear hck hne hd;refine tk 9 (.bool true) rfl hHeld (fun X hS=>by obtain⟨s0,s1,s2,s3,s4,s5,s6,s7⟩:=hS;have hne:=HNE.out;go_simp) ?_;refine tk 10 (.bool true) rfl hHeld (fun X hS=>by obtain⟨s0,s1,s2,s3,s4,s5,s6,s7⟩:=hS;go_simp) ?_;refine wpAnyH_done (by kernel_rfl) ?_ _;clear hHeld
    go_wp2_with (first|(refine wpList_store_row rfl 71 (.tmp 4) (.tmp 55) rfl R (cC 0 0 0 0) rfl rfl 71 (cC 0 0 0 0) HRF.out (HSZ.out _ _ _ _) rfl (Zjy _ _ _ _) ?_))
    have hl:=run_loadVar_row (P:=Tryz.prog) (z4.setRow R (cC 0 0 0 0)) R 71 71 (cC 0 0 0 0) (0,0) _ (Zby HRF.out _) Tryz.underlying71 rfl (HSZ.out _ _ _ _);exact bodyPost_ret (v:=.tuple #[.agg (cC 0 0 0 0),iV 7]) (by simp[results,Tryz.results74,asAddr,hl,Act.put]) rfl ⟨by rw[HRV.out];rfl,below_setRow HBF.out HRR.out _⟩
theorem Ze5 (h:On A s w) (a:Int) (ha:a<=9223372036854775807):
 Calls Tryz.prog 74 #[pT A,iV a] w (Zan (rdV s a) w):=by
 by_cases he:Zac s.L s.es a 32=0
 · exact Zse h a ha he
 · have e:rdV s a=.tuple #[cV 0 0 0 0,iV 3]:=by unfold rdV;rw[if_neg he]
   rw[e];exact Zsf h a ha he
end
end
section
open Go Go.RowKit Go.Shelf
def Znm (a S p n:Int):Bool:=decide (a+32<=p/\0<=n/\n<=a+S-p)
theorem Znn (a o u x:Int) (ha:0<=a) (ha2:a<=4294967296) (p n:Int) (hp:p<=9223372036854775807) (w:World):
 Calls Tryz.prog 221 #[cV a o u x,iV p,iV n] w (Zan (.bool (Znm a (spV o) p n)) w):=by
 have HS:=hid (fun w=>Zuw o w);have hb:=Yfj o;obtain⟨S,hS⟩:=eX (spV o);rw[hS]at hb HS⊢;clear hS;by_cases h1:a<=p
 · have q:wrap64 (p-a)=p-a:=IntWalk.wrap64_in _ ⟨by omega,by omega⟩
   by_cases h2:32<=p-a
   · by_cases h3:0<=n
     · have q2:wrap64 (S-(p-a))=S-(p-a):=IntWalk.wrap64_in _ ⟨by omega,by omega⟩
       cases h4:decide (n<=S-(p-a))with
       |true=>
        have HV:Hid (Znm a S p n=true):=hid (decide_eq_true (by have:=of_decide_eq_true h4;omega));have e1:a<=p:=h1;clear ha ha2 hp hb;go_enter Tryz.func221,Tryz.ntmps221;go_upto_region 1 with fail;have c:=Zcq w a o u x;have bw:=hid (Zaj w (.cells (cC a o u x) 71));obtain⟨y,hy⟩:=eX (w.alloc (.cells (cC a o u x) 71));obtain⟨B,hB⟩:=eX w.heap.size;rw[hy]at c bw;rw[hB]at c;change Code.wp _ _ _ _ (w.alloc (.cells (cC a o u x) 71));rw[hy,hB];clear hy hB;obtain⟨c0,c1,c2,c3⟩:=c.all;go_wp2_with fail
        refine(HS.out _).mono ?_
        rintro e w' ⟨rfl,rfl⟩;go_wp2_with fail
        go_ret
        exact⟨by rw[HV.out];rfl,bw.out⟩
       |false=>
        have HV:Hid (Znm a S p n=false):=hid (decide_eq_false (by have:=of_decide_eq_false h4;omega));clear ha ha2 hp hb;go_enter Tryz.func221,Tryz.ntmps221;go_upto_region 1 with fail;have c:=Zcq w a o u x;have bw:=hid (Zaj w (.cells (cC a o u x) 71));obtain⟨y,hy⟩:=eX (w.alloc (.cells (cC a o u x) 71));obtain⟨B,hB⟩:=eX w.heap.size;rw[hy]at c bw;rw[hB]at c;change Code.wp _ _ _ _ (w.alloc (.cells (cC a o u x) 71));rw[hy,hB];clear hy hB;obtain⟨c0,c1,c2,c3⟩:=c.all;go_wp2_with fail
        refine(HS.out _).mono ?_
        rintro e w' ⟨rfl,rfl⟩;go_wp2_with fail
        go_ret
        exact⟨by rw[HV.out];rfl,bw.out⟩
     · have HV:Hid (Znm a S p n=false):=hid (decide_eq_false (by omega))
       clear ha ha2 hp hb;go_enter Tryz.func221,Tryz.ntmps221;go_upto_region 1 with fail;have c:=Zcq w a o u x;have bw:=hid (Zaj w (.cells (cC a o u x) 71));obtain⟨y,hy⟩:=eX (w.alloc (.cells (cC a o u x) 71));obtain⟨B,hB⟩:=eX w.heap.size;rw[hy]at c bw;rw[hB]at c;change Code.wp _ _ _ _ (w.alloc (.cells (cC a o u x) 71));rw[hy,hB];clear hy hB;obtain⟨c0,c1,c2,c3⟩:=c.all;go_wp2_with fail
       go_ret
       exact⟨by rw[HV.out];rfl,bw.out⟩
   · have HV:Hid (Znm a S p n=false):=hid (decide_eq_false (by omega))
     clear ha ha2 hp hb;go_enter Tryz.func221,Tryz.ntmps221;go_upto_region 1 with fail;have c:=Zcq w a o u x;have bw:=hid (Zaj w (.cells (cC a o u x) 71));obtain⟨y,hy⟩:=eX (w.alloc (.cells (cC a o u x) 71));obtain⟨B,hB⟩:=eX w.heap.size;rw[hy]at c bw;rw[hB]at c;change Code.wp _ _ _ _ (w.alloc (.cells (cC a o u x) 71));rw[hy,hB];clear hy hB;obtain⟨c0,c1,c2,c3⟩:=c.all;go_wp2_with fail
     go_ret
     exact⟨by rw[HV.out];rfl,bw.out⟩
 · have HV:Hid (Znm a S p n=false):=hid (decide_eq_false (by omega))
   obtain⟨q,hq⟩:=eX (wrap64 (p-a));clear ha ha2 hp hb;go_enter Tryz.func221,Tryz.ntmps221;go_upto_region 1 with fail;have c:=Zcq w a o u x;have bw:=hid (Zaj w (.cells (cC a o u x) 71));obtain⟨y,hy⟩:=eX (w.alloc (.cells (cC a o u x) 71));obtain⟨B,hB⟩:=eX w.heap.size;rw[hy]at c bw;rw[hB]at c;change Code.wp _ _ _ _ (w.alloc (.cells (cC a o u x) 71));rw[hy,hB];clear hy hB;obtain⟨c0,c1,c2,c3⟩:=c.all;go_wp2_with fail
   go_ret
   exact⟨by rw[HV.out];rfl,bw.out⟩
theorem Yep (w:World):Calls Tryz.prog 219 #[] w (Zan (.bool true) w):=by
 go_enter Tryz.func219,Tryz.ntmps219;go_wp2_with fail
 refine(Zn8 _).mono ?_
 rintro e w1 ⟨rfl,hb⟩;go_wp2_with fail
 go_ret
 exact⟨rfl,hb⟩
end
section
open Go Go.RowKit Go.Shelf
def s10:ASt:=Zaw (Zco 2) 1 1
theorem Zmy:Zac s10.L s10.es 4096 32=0:=by decide
theorem Zr9:Zau (Zco 2) 1 1=0:=by decide
theorem Zre:Zoj 4096 1 0=true:=by decide
theorem Zl8 (w:World):Calls Tryz.prog 206 #[] w (Zan (.bool true) w):=by
 have L1:Hid (Zhl 2=2):=hid (by decide);have E1:Hid (Zau (Zco 2) 1 1=0):=hid Zr9;have S1:Hid (Zaw (Zco 2) 1 1=s10):=hid rfl
 have EX:Hid (rdV {s10 with mm:=wrM s10.mm (4096:Int).toNat 4096 1 7 0} 4096=.tuple #[.agg #[iV 4096,iV 1,.int .u64 7,iV 0],iV 0]):=hid (by
  have h:=Yc3 s10.mm 4096 1 7 0 Zre (by omega) (by omega);unfold rdV;rw[if_pos (show Zac s10.L s10.es 4096 32=0 from Zmy),h.2.2.2,h.1,h.2.1,h.2.2.1];rfl)
 have HH:Hid (Znm 4096 (spV 1) 4128 8160=true/\Znm 4096 (spV 1) 4127 1=false/\(4096:Int)+spV 1=12288):=hid (by decide);have HEQ:Hid (∀w,(binOp .eql 71 (cV 4096 1 7 0) (cV 4096 1 7 0)).run Tryz.prog w=.ok (.bool true) w):=hid (fun _=>by kernel_rfl);have HEND:=hid (fun w=>Yec 4096 1 7 0 (by omega) (by omega) w);have HH1:=hid (fun w=>Znn 4096 1 7 0 (by omega) (by omega) 4128 8160 (by omega) w);have HH2:=hid (fun w=>Znn 4096 1 7 0 (by omega) (by omega) 4127 1 (by omega) w);rw[HH.out.1]at HH1;rw[HH.out.2.1]at HH2;rw[HH.out.2.2]at HEND
 go_enter Tryz.func206,Tryz.ntmps206;go_wp2_with fail
 refine(Zh3 2 _).mono ?_
 rintro e w1 ⟨A,rfl,hA,hx,hb,hm⟩;rw[L1.out]at hx;have HX1:=hid hx;have HB1:=hid hb;clear hx hb hA hm;go_wp2_with fail
 refine(Zd1 HX1.out 1 1 (by omega)).mono ?_
 rintro e w2 ⟨rfl,hx,hg⟩;rw[E1.out];rw[S1.out]at hx
 have HX2:=hid hx;have HB2:=hid (HB1.out.Zaq hg);clear hx hg HX1 HB1;go_upto_region 4 with fail;have hc:=Zcq w2 4096 1 7 0;have hxy:=HX2.out.below (Zaj w2 (.cells (cC 4096 1 7 0) 71));have hby:=HB2.out.below HX2.out (Zaj w2 (.cells (cC 4096 1 7 0) 71));obtain⟨y,hy⟩:=eX (w2.alloc (.cells (cC 4096 1 7 0) 71));obtain⟨C,hC⟩:=eX w2.heap.size;rw[hy]at hc hxy hby;rw[hC]at hc;change Code.wp _ _ _ _ (w2.alloc (.cells (cC 4096 1 7 0) 71));rw[hy,hC];have HC:=hid hc;have HX3:=hid hxy;have HB3:=hid hby
 clear hy hC hc hxy hby HX2 HB2;obtain⟨c0,c1,c2,c3⟩:=HC.out.all;go_wp2_with fail
 refine(Zic HX3.out 4096 1 7 0 (by omega) (by omega) (by omega) Zre Zmy).mono ?_
 rintro e w4 ⟨rfl,hx,hg⟩;have HX4:=hid hx;have HB4:=hid (HB3.out.Zaq hg);have HC4:=hid (show CB C 4096 1 7 0 w4 from hg.Zdn HX3.out HC.out (by decide) (by decide) (by decide));clear hx hg HX3 HB3 HC c0 c1 c2 c3;go_wp2_with fail
 refine(Ze5 HX4.out 4096 (by omega)).mono ?_
 rintro e w5 ⟨rfl,hb⟩;rw[EX.out];have HX5:=hid (HX4.out.below hb);have HB5:=hid (HB4.out.below HX4.out hb);have HC5:=hid (show CB C 4096 1 7 0 w5 from Zba hb HC4.out);clear hb HX4 HB4 HC4;go_upto_region 6 with fail;have hd:=Zcq w5 4096 1 7 0;have hb:=(Zaj w5 (.cells (cC 4096 1 7 0) 71));have hc:=show CB C 4096 1 7 0 (w5.alloc (.cells (cC 4096 1 7 0) 71))from Zba hb HC5.out
 have hB:=HB5.out.bel.trans (hb.mono HB5.out.bel.size);obtain⟨z,hz⟩:∃y,w5.alloc (.cells (cC 4096 1 7 0) 71)=y:=⟨_,rfl⟩
 obtain⟨D,hD⟩:∃C,w5.heap.size=C:=⟨_,rfl⟩
 rw[hz]at hd hc hB;rw[hD]at hd;change Code.wp _ _ _ _ (w5.alloc (.cells (cC 4096 1 7 0) 71));rw[hz,hD];have HC:=hid hc;have HD:=hid hd;have HB6:=hid hB
 clear hz hD hc hd hB hb HX5 HB5 HC5;go_wp2_with fail
 refine(Yep _).mono ?_
 rintro e w6 ⟨rfl,hb⟩;have HC6:=hid (show CB C 4096 1 7 0 w6 from Zba hb HC.out);have HD6:=hid (show CB D 4096 1 7 0 w6 from Zba hb HD.out);have HB7:=hid (HB6.out.trans (hb.mono HB6.out.size));clear hb HC HD HB6;obtain⟨c0,c1,c2,c3⟩:=HC6.out.all;obtain⟨d0,d1,d2,d3⟩:=HD6.out.all;have heq:=HEQ.out;unfold cV at heq;go_wp2_with fail
 refine(HEND.out _).mono ?_
 rintro e w7 ⟨rfl,hb⟩;have HC7:=hid (show CB C 4096 1 7 0 w7 from Zba hb HC6.out);have HB8:=hid (HB7.out.trans (hb.mono HB7.out.size));clear hb HC6 HD6 HB7 c0 c1 c2 c3 d0 d1 d2 d3 heq;obtain⟨c0,c1,c2,c3⟩:=HC7.out.all;go_wp2_with fail
 refine(HH1.out _).mono ?_
 rintro e w8 ⟨rfl,hb⟩;have HC8:=hid (show CB C 4096 1 7 0 w8 from Zba hb HC7.out);have HB9:=hid (HB8.out.trans (hb.mono HB8.out.size));clear hb HC7 HB8 c0 c1 c2 c3;obtain⟨c0,c1,c2,c3⟩:=HC8.out.all;go_wp2_with fail
 refine(HH2.out _).mono ?_
 rintro e w9 ⟨rfl,hb⟩;have HB10:=hid (HB9.out.trans (hb.mono HB9.out.size));clear hb HC8 HB9 c0 c1 c2 c3;go_wp2_with fail
 go_ret
 exact⟨rfl,HB10.out⟩
end
section
open Go Go.RowKit Go.Shelf Go.ChangeShapes Go.WideShapes Go.ChangeAt

end
end Go.Proofs.YtgcidfenjlmljaaGreat.Bt
