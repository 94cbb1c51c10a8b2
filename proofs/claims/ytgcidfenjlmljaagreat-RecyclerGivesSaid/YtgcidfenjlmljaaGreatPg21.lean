import Derived.Test.YtgcidfenjlmljaaGreatPg15
import Derived.Test.YtgcidfenjlmljaaGreatPg20
import Derived.Test.YtgcidfenjlmljaaGreatPgR
set_option linter.unusedVariables false
set_option linter.unusedSimpArgs false
set_option maxRecDepth 100000
set_option maxHeartbeats 16000000
namespace Go.Proofs.YtgcidfenjlmljaaGreat.Bt
section
open Go Go.RowKit Go.Shelf
def Zr4 (m:Nat->UInt8):ASt:=⟨3,[0,2],m,false,0⟩
theorem Yah:Good 3 [0,2]:=⟨by simp[Zcc],by simp,(fun e h=>by simp at h;omega),by omega⟩
theorem Zgp {a k:Int} (h0:0<=a) (h1:0<=k) (h2:a+k<=8192):Zac 3 [0,2] a k=0:=by
 unfold Zac;rw[if_pos]
 exact(Zax Yah a k).2 ⟨h0,h1,by omega,fun i i1 i2=>by have:=Zgz (L:=2) (by omega) (i/4096);rw[this];simp;omega⟩
theorem Zt9:Zau (Zco 3) 0 2=0/\Zaw (Zco 3) 0 2=Zr4 (fun _=>0):=by
 have he:Zau (Zco 3) 0 2=0:=by decide
 refine⟨he,?_⟩
 unfold Zau at he;unfold Zaw;have hn:¬(Zb6 (Zco 3).L 0 2≠0\/0<Zc6 (Zco 3).L (Zco 3).es 0 2):=by decide
 rw[if_neg hn,show Zd7 (Zco 3)=false from rfl];show ASt.mk _ _ _ _ _=_;rw[show Zcd (Zco 3).L (Zco 3).es 0 2 true=[0,2]from by decide];rfl
theorem Zjf (a k:Nat):Zck (fun _=>0) a k=0:=by
 induction k with
 |zero=>rfl
 |succ k ih=>unfold Zck;rw[ih];simp
abbrev Off (a b:Nat):Prop:=a+8<=b\/b+8<=a
section
variable {A:Nat} {s:ASt} {w:World}
def Ykb (A:Nat) (s:ASt) (va vs:Nat) (k:Int) (h0 x:Nat) (ms:List Nat) (w:World) (e:Ending) (w':World):Prop:=
 ∃m',e=.returned (iV 0)/\On A {s with mm:=m'} w'/\Zam A w w'/\LsK {s with mm:=m'} va vs k h0 (ins x ms)/\
  ∀k' h1 ns,LsK s va vs k' h1 ns->(∀c∈h1::ns,Off x c/\∀d∈h0::ms,Off d c)->LsK {s with mm:=m'} va vs k' h1 ns
theorem Zwc (h:On A s w) (va vs:Nat) (h1:va<=4294967296) (h2:vs<=4294967296) (k:Int) (h0 x:Nat) (ms:List Nat) (hl:LsK s va vs k h0 ms) (hx:0<x) (hm:x∉ms) (hT:Zac s.L s.es x 16=0)
 (ha:Zts (h0::ms)) (hf:∀c∈h0::ms,x+8<=c\/c+8<=x):
 Calls Tryz.prog 185 #[lsP (some (aD A 0)) va vs,iV k,iV x] w (Ykb A s va vs k h0 x ms w):=
 (Zqz h va vs h1 h2 k h0 x ms hl hx hm hT).mono fun e w' ⟨he,ho,hg⟩=>by
  refine⟨_,he,ho,hg,?_,fun k' g0 ns hn hc=>?_⟩
  · obtain⟨kn,e1,e2,e3,e4⟩:=hl
    exact⟨kn,e1,e2,e3,Zx4 h.Zch hT 8 e4 hx hm ha hf⟩
  · obtain⟨kn,e1,e2,e3,e4⟩:=hn
    refine⟨kn,e1,e2,e3,e4.Zdn fun c hcm=>?_⟩
    have h3:=hc c hcm;have h4:=h3.2 _ (Zdm h0 8 ms x);show Zck (Zc4 (Zc4 s.mm x _) _ x) c 8=_;rw[Zbw _ _ (by omega),Zbw _ _ (by omega)]
end
theorem Ygf (vs k:Nat) (hk:k<vs/8) (hv:vs<=4000):LsK (Zr4 fun _=>0) 64 vs k (64+8*k) []:=⟨k,rfl,hk,rfl,Zgp (by omega) (by omega) (by omega),Zjf _ _⟩
def Yhh (n:Nat) (w:World) (e:Ending) (w':World):Prop:=
 ∃A,e=.returned (.tuple #[pT A,lsP (some (aD A 0)) 64 (8*n+3),.bool true])/\On A (Zr4 (fun _=>0)) w'/\Ze0 A w w'
theorem Yih (n:Nat) (hn:n<=400) (w:World):Calls Tryz.prog 233 #[iV n] w (Yhh n w):=by
 have L1:Hid (Zhl 3=3):=hid (by decide);have E1:Hid (Zau (Zco 3) 0 2=0):=hid Zt9.1;have S1:Hid (Zaw (Zco 3) 0 2=Zr4 (fun _=>0)):=hid Zt9.2;obtain⟨vs,hvs⟩:=eX (8*n+3:Nat);have T1:Hid (Zac (Zr4 fun _=>0).L (Zr4 fun _=>0).es 64 vs=0):=hid (Zgp (by omega) (by omega) (by omega));have HV:Hid (∀pu a k,ofV pu a k 0=.agg #[.pointer pu,iV a,iV k]):=hid fun pu a k=>by unfold ofV;rw[if_pos rfl]
 have q1:IntKind.i64.wrap (IntKind.i64.wrap (8*(n:Int))+3)=(vs:Int):=by rw[IntWalk.i64_in (8*(n:Int)) (by omega),IntWalk.i64_in _ (by omega)];omega
 have q2:(8*(n:Int))+3=(vs:Int):=by omega
 have hvl:vs<=4294967296:=by omega
 have HQ:=hid (And.intro q1 q2);unfold Yhh;rw[hvs];clear hvs q1 q2 hn;go_enter Tryz.func233,Tryz.ntmps233;go_wp2_with fail
 refine(Zh3 3 _).mono ?_
 rintro e w1 ⟨A,rfl,hA,hx,hb,hm⟩;rw[L1.out]at hx;have HX1:=hid hx;have HB1:=hid (show Ze0 A w w1 from hb.Zhz (Zaj w (.cells #[.pointer none,iV 0,iV 0] 50)));have HM1:=hid (hm w.heap.size (by simp));have HR1:=hid ((hb.bel.block w.heap.size (by simp)).trans (Zab w (.cells #[.pointer none,iV 0,iV 0] 50)));clear hx hb hA hm;go_wp2_with fail
 refine(Zd1 HX1.out 0 2 (by omega)).mono ?_
 rintro e w2 ⟨rfl,hx,hg⟩;rw[E1.out];rw[S1.out]at hx
 have HX2:=hid hx;have HB2:=hid (HB1.out.Zaq hg);have HR2:=hid (HM1.out.at hg HR1.out);have HM2:=hid (HM1.out.Zaq hg);clear hx hg;obtain⟨q1,q2⟩:=HQ.out;go_wp2_with fail
 refine(Zgw HX2.out 64 vs (by omega)).mono ?_
 rintro e w3 ⟨rfl,hb⟩;rw[T1.out,HV.out];have HX3:=hid (HX2.out.below hb);have HB3:=hid (HB2.out.below HX2.out hb);have HR3:=hid ((hb.block _ (Array.getElem?_eq_some_iff.1 HR2.out).1).trans HR2.out);have HM3:=hid (HM2.out.Zaq (Zam.Zad HX2.out hb));clear hb q1 q2;go_wp2_with fail;have bV:=hid (Zaj w3 (.cells #[pT A,iV 64,iV vs] 40))
 refine(Ybw (some (aD A 0)) 64 vs _).mono ?_
 rintro e w4 ⟨rfl,hb⟩;have HX4:=hid ((HX3.out.below bV.out).below hb);have HB4:=hid ((HB3.out.below HX3.out bV.out).below (HX3.out.below bV.out) hb);have hr3:=HR3.out;have hr4:=(hb.block w.heap.size (Nat.lt_of_lt_of_le (Array.getElem?_eq_some_iff.1 hr3).1 bV.out.size)).trans ((bV.out.block _ (Array.getElem?_eq_some_iff.1 hr3).1).trans hr3);have HR4:=hid hr4;have HM4:=hid ((HM3.out.Zaq (Zam.Zad HX3.out bV.out)).Zaq (Zam.Zad (HX3.out.below bV.out) hb));have c0:=(Zaa hr4 0).1;have c1:=(Zaa hr4 1).1;have c2:=(Zaa hr4 2).1
 have f0:=(Zaa hr4 0).2;have f1:=(Zaa hr4 1).2;have f2:=(Zaa hr4 2).2
 clear hr3 hr4 hb;go_wp2_with fail;have h3:=Za8 HR4.out rfl (pT A) (iV 64) (iV vs);have g0:=(Zaa h3 0).1;have g1:=(Zaa h3 1).1;have g2:=(Zaa h3 2).1
 have hF:=Yh9 (w0:=w) HX4.out HB4.out HM4.out (Nat.le_refl _) (pT A) (iV 64) (iV vs);have HF:=hid hF;clear hF;exact bodyPost_ret (v:=.tuple #[pT A,lsP (some (aD A 0)) 64 vs,.bool true]) (by simp[results,Tryz.results233,go_sem,g0,g1,g2]) rfl ⟨A,rfl,HF.out.1,HF.out.2⟩
structure LsV (R A vs:Nat) (s:ASt) (w0 x:World):Prop where
 v:x.heap[R]?=some (.cells #[pT A,iV 64,iV vs] 50 (0,0))
 o:On A s x
 b:Ze0 A w0 x
theorem LsV.below {R A vs:Nat} {s:ASt} {w0 x y:World} (h:LsV R A vs s w0 x) (hb:Below x.heap.size x y):LsV R A vs s w0 y:=⟨Zek (A:=A) hb h.v,h.o.below hb,h.b.below h.o hb⟩
theorem LsV.Zaq {R A vs:Nat} {s s':ASt} {w0 x y:World} (h:LsV R A vs s w0 x) (ho:On A s' y) (hg:Zam A x y):LsV R A vs s' w0 y:=⟨hg.Zdn h.o h.v (by decide) (by decide) (by decide),ho,h.b.Zaq hg⟩
theorem LsV.all {R A vs:Nat} {s:ASt} {w0 x:World} (h:LsV R A vs s w0 x):x.cell? (aD R 0)=some (pT A)/\x.cell? (aD R 1)=some (iV 64)/\x.cell? (aD R 2)=some (iV vs):=
 ⟨(Zaa h.v 0).1,(Zaa h.v 1).1,(Zaa h.v 2).1⟩
theorem LsV.start {A vs:Nat} {s:ASt} {w0 x:World} (ho:On A s x) (hb:Ze0 A w0 x):LsV x.heap.size A vs s w0 (x.alloc (.cells #[pT A,iV 64,iV vs] 50)):=
 ⟨Zab _ _,ho.below (Zaj _ _),hb.below ho (Zaj _ _)⟩
theorem Ycc (a:Nat):Zts [a]:=List.pairwise_singleton _ _
theorem Yg9 {a b:Nat} (h:Off a b):Zts [a,b]:=List.pairwise_cons.2 ⟨fun c hc=>by rw[List.mem_singleton.1 hc];exact h,Ycc b⟩
theorem Yg5 (w:World):Calls Tryz.prog 228 #[] w (Zan (.bool true) w):=by
 have N0:=hid (Ygf 11 0 (by omega) (by omega));have TA:Hid (∀m,Zac (Zr4 m).L (Zr4 m).es ((4128:Nat):Int) 16=0):=hid fun m=>Zgp (by omega) (by omega) (by omega)
 have TB:Hid (∀m,Zac (Zr4 m).L (Zr4 m).es ((4096:Nat):Int) 16=0):=hid fun m=>Zgp (by omega) (by omega) (by omega)
 go_enter Tryz.func228,Tryz.ntmps228;go_wp2_with fail
 refine(Yih 1 (by omega) _).mono ?_
 rintro e w1 ⟨A,rfl,hx,hb⟩;obtain⟨R,hR⟩:=eX w1.heap.size;obtain⟨w2,hw2⟩:=eX (w1.alloc (.cells #[pT A,iV 64,iV 11] 50));have HV2:Hid (LsV R A 11 (Zr4 fun _=>0) w w2):=hid (by rw[<-hw2,<-hR];exact LsV.start hx hb);have HW2:=hid hw2;clear hx hb hw2;go_wp2_with fail;rw[HW2.out];clear HW2 hR
 refine(Zwc HV2.out.o 64 11 (by omega) (by omega) 0 64 4128 [] N0.out (by omega) (by simp) (TA.out _) (Ycc _) (fun c hc=>by rw[List.mem_singleton.1 hc];omega)).mono ?_
 rintro e w3 ⟨m3,rfl,ho,hg,hl,_⟩;have HV3:=hid (HV2.out.Zaq ho hg);have HL3:Hid (LsK (Zr4 m3) 64 11 0 64 [4128]):=hid hl;obtain⟨c0,c1,c2⟩:=HV3.out.all;clear ho hg hl HV2 N0;go_wp2_with fail
 refine(Zwc HV3.out.o 64 11 (by omega) (by omega) 0 64 4096 [4128] HL3.out (by omega) (by simp) (TB.out _) (Yg9 (by omega)) (fun c hc=>by simp at hc;omega)).mono ?_
 rintro e w4 ⟨m4,rfl,ho,hg,hl,_⟩;have HV4:=hid (HV3.out.Zaq ho hg);have HL4:Hid (LsK (Zr4 m4) 64 11 0 64 [4096,4128]):=hid hl;clear c0 c1 c2;obtain⟨c0,c1,c2⟩:=HV4.out.all;clear ho hg hl HV3 HL3;go_wp2_with fail
 refine(Ybx HV4.out.o 64 11 (by omega) (by omega) 0 _ HL4.out.lk).mono ?_
 rintro e w5 ⟨rfl,hb⟩;have HR:Hid (atV (prs 64 8 [4096,4128]) 1=4096):=hid (by decide);rw[HR.out];have HV5:=hid (HV4.out.below hb);clear c0 c1 c2 hb HL4;go_wp2_with fail
 refine(Zx3 _).mono ?_
 rintro e w6 ⟨rfl,hb⟩;have HV6:=hid (HV5.out.below hb);clear hb;go_wp2_with fail
 go_ret
 exact⟨rfl,HV6.out.b.bel⟩
end
section
open Go Go.RowKit Go.Shelf
def Fr0 (s:ASt):Prop:=s.es=[]/\s.mm=fun _=>0
theorem Zq9 {L:Nat} (hL:L<=1048576):Good L []:=⟨List.Pairwise.nil,rfl,(fun e h=>by cases h),hL⟩
theorem Zzn {L:Nat} (h1:1<=L) (hL:L<=1048576):Zcd L [] 0 1 true=[0,1]:=by
 refine Zra (L:=L) (Zet (Zq9 hL) _ _ _) (Zho (by omega) h1 hL) fun i hi=>?_
 rw[Zjj (Zq9 hL) (by unfold Zao;rw[decide_eq_true_iff];omega),Zqq (by omega)];by_cases c:(0:Int)<=i/\(i:Int)<0+1
 · rw[if_pos c,decide_eq_true (by omega)]
 · rw[if_neg c,decide_eq_false (by omega)];rfl
section
variable {A B:Nat} {s:ASt} {w:World}
theorem Zns (hF:Fr0 s) (h1:1<=s.L) (hL:s.L<=1048576):(Zd7 s=true->Zau s 0 1=4/\Zaw s 0 1=Zbs s)/\(Zd7 s=false->Zau s 0 1=0/\Zaw s 0 1={Zbs s with es:=[0,1]}):=by
 have hc:Zb6 s.L 0 1=0:=by
  unfold Zb6 Zbo;rw[if_neg (by omega),if_pos (by unfold Zao;rw[decide_eq_true_iff];omega)]
 have hr:Zc6 s.L s.es 0 1=0:=by
  rw[hF.1];unfold Zc6 Zg5;rw[if_neg (by omega),if_pos (by unfold Zao;rw[decide_eq_true_iff];omega)];unfold Zeg;rw[Int.natCast_eq_zero,List.countP_eq_zero];intro i hi h;cases h
 constructor<;>intro r<;>unfold Zau Zaw<;>rw[hc,hr,r]
 · exact⟨rfl,rfl⟩
 · refine⟨rfl,?_⟩
   rw[hF.1,Zzn h1 hL];rfl
theorem Bud.start (n:Nat) (hn:1<=n) (hn2:n<80) (rf:Bool) (lf:Nat):Bud (n+1) 0 0 (fun _=>Option.none) 0 ⟨n+1,[0,1],Zc4 (fun _=>0) 0 Zhr,rf,lf⟩ where
 cL:=rfl
 c2:=by omega
 es:=rfl
 gG:=by omega
 mr:=Zc3 _ _ _ (by decide)
 gr:=(Zbw _ _ (by omega)).trans (Zjf 8 8)
 tg:=fun p hp hh=>by
  show(Zc4 (fun _=>0) 0 Zhr (256+p)).toNat=_
  rw[Zav _ _ (by omega)];unfold Zg6;rw[if_neg (by omega)];rfl
 ls:=fun k hk=>by
  have:Zas 1 (fun _=>Option.none) 0 0 k=[]:=by
   cases e:Zas 1 (fun _=>Option.none) 0 0 k with
   |nil=>rfl
   |cons c t=>have:c∈Zas 1 (fun _=>Option.none) 0 0 k:=by rw[e];exact List.mem_cons_self ..
              obtain⟨i,h,_⟩:=Za4.1 this;omega
  rw[this]
  exact⟨Zeb (L:=n+1) (e:=1) (by omega) (by omega) (by omega) (by omega) (by omega) (by omega),(Zbw _ _ (by omega)).trans (Zjf _ 8)⟩
 ti:=Til.start
def bS0 (s:ASt) (n:Nat):ASt:=⟨n+1,[0,1],Zc4 (fun _=>0) 0 Zhr,(Zbs s).rf,(Zbs s).lf⟩
def Zx8 (A:Nat) (s:ASt) (w:World) (e:Ending) (w':World):Prop:=
 (s.L<=1/\e=.returned (.tuple #[.pointer none,iV 3])/\On A s w'/\Zam A w w')\/
 (2<=s.L/\Zd7 s=true/\e=.returned (.tuple #[.pointer none,iV 4])/\On A (Zbs s) w'/\Zam A w w')\/
 (∃n B,s.L=n+1/\1<=n/\Zd7 s=false/\e=.returned (.tuple #[Zcv B,iV 0])/\BV B A n (bS0 s n) w'/\Zam A w w'/\w.heap.size<=B)
theorem Yej (h:On A s w) (hL:s.L<=80) (hF:Fr0 s):Calls Tryz.prog 53 #[pT A] w (Zx8 A s w):=by
 have HO:=hid (Yb8 h hL);have HC:=hid fun X (hX:On A s X)=>Zhj hX
 have HCM:=hid fun X (hX:On A s X)=>Zd1 hX 0 1 (by omega)
 have HFC:Hid (1<=s.L->(Zd7 s=true->Zau s 0 1=4/\Zaw s 0 1=Zbs s)/\(Zd7 s=false->Zau s 0 1=0/\Zaw s 0 1={Zbs s with es:=[0,1]})):=hid fun h1=>Zns hF h1 (by omega)
 have HP:Hid (∀e w',Zx8 A s w e w'↔((s.L<=1/\e=.returned (.tuple #[.pointer none,iV 3])/\On A s w'/\Zam A w w')\/
 (2<=s.L/\Zd7 s=true/\e=.returned (.tuple #[.pointer none,iV 4])/\On A (Zbs s) w'/\Zam A w w')\/
 (∃n B,s.L=n+1/\1<=n/\Zd7 s=false/\e=.returned (.tuple #[Zcv B,iV 0])/\BV B A n (bS0 s n) w'/\Zam A w w'/\w.heap.size<=B))):=hid fun e w'=>Iff.rfl
 have H:=hid h;have HZ:=hid hF;obtain⟨L,hLL⟩:=eX s.L;have HLL:=hid hLL;rw[hLL]at HC hL HO;clear h hLL hF;go_enter Tryz.func53,Tryz.ntmps53;go_wp2_with fail;refine HO.out.mono ?_;rintro e w1 ⟨rfl,hb⟩;have H1:=hid (H.out.below hb);have HW1:=hid (Zam.Zad H.out hb);have HB1:=hid hb.size;clear hb HO;by_cases hl1:L<=1
 · have hl2:¬(1:Int)<(L:Int):=by omega
   have HF:=hid ((HP.out (.returned (.tuple #[.pointer none,iV 3])) w1).2 (.inl ⟨by rw[HLL.out];exact hl1,rfl,H1.out,HW1.out⟩));clear HP;go_wp2_with fail
   refine(HC.out _ H1.out).mono ?_
   rintro e w' ⟨rfl,rfl⟩;go_wp2_with fail
   go_ret2
   exact HF.out
 · have hl2:(1:Int)<(L:Int):=by omega
   obtain⟨FC1,FC2⟩:=HFC.out (by rw[HLL.out];omega);go_wp2_with fail
   refine(HC.out _ H1.out).mono ?_
   rintro e w' ⟨rfl,rfl⟩;go_wp2_with fail
   refine(HCM.out _ H1.out).mono ?_
   rintro e w2 ⟨rfl,hx,hg⟩;cases r:Zd7 s with
   |true=>
    obtain⟨q1,q2⟩:=FC1 r;rw[q1];rw[q2]at hx
    have HF:=hid ((HP.out (.returned (.tuple #[.pointer none,iV 4])) w2).2 (.inr (.inl ⟨by rw[HLL.out];omega,r,rfl,hx,HW1.out.trans hg⟩)));clear HP hx hg FC1 FC2 q1 q2 r;go_wp2_with fail
    go_ret2
    exact HF.out
   |false=>
    obtain⟨q1,q2⟩:=FC2 r;rw[q1];rw[q2]at hx
    obtain⟨n,hn⟩:∃n,L=n+1:=⟨L-1,by omega⟩
    have hLr:({Zbs s with es:=[0,1]}:ASt).L=n+1:=by show(Zbs s).L=_;rw[Zfg,HLL.out,hn]
    have HOV:=hid (Zn6 n hx hLr (by omega) (by rw[hLr];exact Zeb (by omega) (by omega) (by omega) (by omega) (by omega) (by omega)));have HX:=hid (And.intro hx hLr);have HG:=hid (HW1.out.trans hg);have HR:=hid r;have HN:=hid (And.intro hn hl1);have HS2:=hid (Nat.le_trans HB1.out hg.size);clear hx hg FC1 FC2 q1 q2 r hn hLr hl1 hl2;go_wp2_with fail;refine HOV.out.mono ?_;rintro e w3 ⟨B,rfl,hbd,hBw,hb⟩;have HV3:Hid (BV B A n {Zbs s with es:=[0,1]} w3):=hid ⟨HX.out.1.below hb,HX.out.2,hbd⟩;have HG3:=hid (HG.out.trans (Zam.Zad HX.out.1 hb));have HBW:=hid (Nat.le_trans HS2.out hBw);have HST:=hid (Zdr HV3.out.1 0 256 (by omega) (by omega) 0 8 18405771255755860333 (by omega) (by omega));have ha:Zai 0 256 0 8=0:=by decide
    have he:Zb9 ({Zbs s with es:=[0,1]}:ASt).L ({Zbs s with es:=[0,1]}:ASt).es 0 8=0:=by
     unfold Zb9;rw[show Za6 8=true from rfl,if_pos rfl,HX.out.2]
     exact Zeb (by omega) (by have:=HN.out;omega) (by have:=HN.out;omega) (by omega) (by omega) (by omega)
    have hv:Zbx ({Zbs s with es:=[0,1]}:ASt) 0 8 18405771255755860333=bS0 s n:=by
     unfold Zbx;rw[if_pos he];unfold bS0;show ASt.mk (Zbs s).L [0,1] (Zb8 (Zbs s).mm _ (Zfk 18405771255755860333 8)) _ _=_;rw[show(Zbs s).L=n+1 from HX.out.2,Zdk,HZ.out.2];rfl
    rw[ha,he,hv]at HST;obtain⟨c0,c1,c2,c3,_⟩:=HV3.out.all;clear ha he hv hbd hBw hb HOV;go_wp2_with fail;refine HST.out.mono ?_;rintro e w4 ⟨rfl,hx,hg⟩;have hbv:BV B A n (bS0 s n) w4:=HV3.out.Zaq hx hg (by show n+1=(Zbs s).L;exact HX.out.2.symm);have HF:=hid ((HP.out (.returned (.tuple #[Zcv B,iV 0])) w4).2 (.inr (.inr ⟨n,B,by rw[HLL.out];exact HN.out.1,by have:=HN.out;omega,HR.out,rfl,hbv,HG3.out.trans hg,HBW.out⟩)));clear hx hg hbv HP HST c0 c1 c2 c3;go_wp2_with fail
    go_ret2
    exact HF.out
def Zx6 (A n:Nat) (w:World) (e:Ending) (w':World):Prop:=∃B,e=.returned (.tuple #[Zcv B,iV 0])/\Zj8 B A n w'/\w.heap.size<=B/\Below w.heap.size w w'
theorem Zxt {n G g x:Nat} {R:Zag} (h:On A s w) (hB:Bud (n+1) G g R x s):Calls Tryz.prog 15 #[pT A] w (Zx6 A n w):=by
 have hL:s.L=n+1:=hB.cL;have hz:=hB.sz hL;have HOV:=hid (Zn6 n h hL (by have:=hB.c2;omega) (hB.there (by omega) (by omega) (by omega)));have HLD:=hid fun X (hX:On A s X)=>Zfw hX 0 256 (by omega) (by omega) 0 8 (by omega)
 have he:Zb9 s.L s.es 0 8=0:=by unfold Zb9;rw[show Za6 8=true from rfl,if_pos rfl];exact hB.there (by omega) (by omega) (by omega)
 have hv:ldV s 0 8=18405771255755860333:=by unfold ldV;rw[if_pos he];exact congrArg Int.ofNat hB.mr
 rw[show Zai 0 256 0 8=0 from by decide,he,hv]at HLD;have H:=hid h;clear h hB hL hz he hv;go_enter Tryz.func15,Tryz.ntmps15;go_wp2_with fail;refine HOV.out.mono ?_;rintro e w3 ⟨B,rfl,hbd,hBw,hb⟩;have HBD:=hid hbd;have HB:=hid (And.intro hBw hb);have HO:=hid (H.out.below hb);have c1:=(Zaa hbd 1).1;have c2:=(Zaa hbd 2).1;have c3:=(Zaa hbd 3).1
 simp at c1 c2 c3;clear hbd hBw hb HOV;go_wp2_with fail
 refine(HLD.out _ HO.out).mono ?_
 rintro e w4 ⟨rfl,hb⟩;have HF:Hid (Zx6 A n w (.returned (.tuple #[Zcv B,iV 0])) w4):=hid ⟨B,rfl,(hb.block _ (Array.getElem?_eq_some_iff.1 HBD.out).1).trans HBD.out,HB.out.1,HB.out.2.trans (hb.mono HB.out.2.size)⟩;clear hb HLD;go_wp2_with fail
 go_ret2
 exact HF.out
end
end
end Go.Proofs.YtgcidfenjlmljaaGreat.Bt
