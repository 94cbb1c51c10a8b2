import Derived.Test.YtgcidfenjlmljaaGreatPg42
import Derived.Test.YtgcidfenjlmljaaGreatPg40
import Derived.Test.YtgcidfenjlmljaaGreatPgR
set_option linter.unusedVariables false
set_option linter.unusedSimpArgs false
set_option maxRecDepth 100000
set_option maxHeartbeats 16000000
namespace Go.Proofs.YtgcidfenjlmljaaGreat.Bt
section
open Go Go.RowKit Go.Shelf
section
variable {w y:World}
theorem Ygu (n g r:Int) (u:Option Addr) (ln tc:Nat) (w:World):
 Calls Tryz.prog 59 #[bqV 1 n g r (.slice u ln tc)] w (Zan (rqV n g r 16 (.slice u ln tc) q0P q0N q0N (.slice none 0 0)) w):=by
 have hf:=((Fb.start w).new #[iV 1,iV n,iV g,iV r,.slice u ln tc] 27).new rqZ 33;go_enter Tryz.func59,Tryz.ntmps59;go_upto_region 1 with fail;change Code.wp _ _ _ _ ((w.alloc (.cells #[iV 1,iV n,iV g,iV r,.slice u ln tc] 27)).alloc (.cells rqZ 33));have hE1:(w.alloc (.cells #[iV 1,iV n,iV g,iV r,.slice u ln tc] 27)).heap.size=w.heap.size+1:=by simp
 obtain⟨x,hx⟩:=eX ((w.alloc (.cells #[iV 1,iV n,iV g,iV r,.slice u ln tc] 27)).alloc (.cells rqZ 33));rw[hx,hE1]at hf;obtain⟨E,hE⟩:=eX (w.heap.size+1);obtain⟨D,hD⟩:=eX w.heap.size;rw[hE,hD]at hf;rw[hx,hE,hD];have HF:=hid hf;clear hx hE1 hE hD hf;have d0:=HF.out.Zak 0 rfl;have d1:=HF.out.Zak 1 rfl;have d2:=HF.out.Zak 2 rfl;have d3:=HF.out.Zak 3 rfl;have d4:=HF.out.Zak 4 rfl
 have zQ:=Zap HF.out.at0;have oQ:=Zbl HF.out.at0;have HF2:=hid (HF.out.Zd9 (rqL n g r 16 (.slice u ln tc) q0P q0N q0N (.slice none 0 0)) rfl);go_wp2_with fail;change bodyPost _ _ _ _ _ (stR x E (rqL n g r 16 (.slice u ln tc) q0P q0N q0N (.slice none 0 0)) 0);have yQ:=Zaf HF2.out.at0;obtain⟨z,hz⟩:=eX (stR x E (rqL n g r 16 (.slice u ln tc) q0P q0N q0N (.slice none 0 0)) 0);rw[hz]at HF2 yQ⊢;exact bodyPost_ret (v:=.agg (rqA n g r 16 (.slice u ln tc) q0P q0N q0N (.slice none 0 0))) (by simp[results,Tryz.results59,go_sem,yQ]) rfl ⟨rfl,HF2.out.be⟩
end
end
section
open Go Go.RowKit Go.Shelf
section
variable {w y:World} {u:Option Addr} {L:List (Nat × Nat × Bool)} {P:Nat->Option Addr} {nn C:Nat->Nat} {q:Nat->List Nat} {op:Option Addr} {on oc:Nat} {hs:List Hd}
theorem Zxa (n g r K:Int) (tc:Nat) (h:DIn u L P nn C q op on oc hs w) (k:Int) (ow:Nat) (hk:k<0\/10<k\/ow=0):
 Calls Tryz.prog 71 #[rqV n g r K (.slice u L.length tc) P nn C (.slice op on oc),iV k,.int .u64 (ow:Int)] w fun e w'=>∃v,e=.returned (.tuple #[v,.agg zCk,iV 2])/\Zj4 n g r K L q hs P w v w':=by
 have HI:=hid h;have HKK:=hid hk;obtain⟨ln,hln⟩:=eX L.length;have HLN:=hid hln;rw[hln];have hf:=(((Fb.start w).new (rqA n g r K (.slice u ln tc) P nn C (.slice op on oc)) 33).new rqZ 33).new zCk 65;clear h hk hln;go_enter Tryz.func71,Tryz.ntmps71;go_upto_region 1 with fail;change Code.wp _ _ _ _ (((w.alloc (.cells (rqA n g r K (.slice u ln tc) P nn C (.slice op on oc)) 33)).alloc (.cells rqZ 33)).alloc (.cells zCk 65));have hE1:(w.alloc (.cells (rqA n g r K (.slice u ln tc) P nn C (.slice op on oc)) 33)).heap.size=w.heap.size+1:=by simp
 have hF1:((w.alloc (.cells (rqA n g r K (.slice u ln tc) P nn C (.slice op on oc)) 33)).alloc (.cells rqZ 33)).heap.size=w.heap.size+1+1:=by simp
 obtain⟨x,hx⟩:=eX ((((w.alloc (.cells (rqA n g r K (.slice u ln tc) P nn C (.slice op on oc)) 33)).alloc (.cells rqZ 33)).alloc (.cells zCk 65)));rw[hx,hE1,hF1]at hf;obtain⟨F,hF⟩:=eX (w.heap.size+1+1);obtain⟨E,hE⟩:=eX (w.heap.size+1);obtain⟨D,hD⟩:=eX w.heap.size;rw[hF,hE,hD]at hf;rw[hx]
 try rw[hF]
 try rw[hE]
 try rw[hD]
 have HF:=hid hf;clear hx hE1 hF1 hE hD hF hf;have cQ:=Zaf HF.out.at2;have zQ:=Zap HF.out.at1;have oQ:=Zbl HF.out.at1;have j0:=HF.out.Za5 0;have j1:=HF.out.Za5 1;have j2:=HF.out.Za5 2;have j3:=HF.out.Za5 3
 have b0:=HF.out.cell0 0 rfl;have b1:=HF.out.cell0 1 rfl;have b2:=HF.out.cell0 2 rfl;have b3:=HF.out.cell0 3 rfl
 have hnd:=HF.out.nd;simp only[List.pairwise_cons,List.mem_cons,forall_eq_or_imp,List.not_mem_nil,false_or,or_false,forall_eq]at hnd;obtain⟨⟨n4,n5⟩,n6, -⟩:=hnd;have m4:E≠F:=fun e=>n4 e.symm;have m5:D≠F:=fun e=>n5 e.symm;have m6:D≠E:=fun e=>n6 e.symm
 by_cases d1:k<0
 · have HD1:=hid d1
   go_wp2_with fail;have hfe:=HF.out.Zgk (rqL n g r K (.slice u ln tc) P nn C (.slice op on oc)) rfl;have hff:=hfe.Zd9 [iV 0,iV 0,.int .u64 0,iV 0] rfl;have HPO:=hid (show∃v,(.returned (.tuple #[.agg (rqA n g r K (.slice u ln tc) P nn C (.slice op on oc)),.agg zCk,iV 2]):Ending)=.returned (.tuple #[v,.agg zCk,iV 2])/\Zj4 n g r K L q hs P w v (stR (stR x E (rqL n g r K (.slice u ln tc) P nn C (.slice op on oc)) 0) F [iV 0,iV 0,.int .u64 0,iV 0] 0)from⟨_,rfl,u,tc,P,nn,C,op,on,oc,by rw[HLN.out],HI.out.fb hff,fun k hk _=> .inl rfl,hff.be⟩);have q0:=(Zaf hff.at1);have q1:=hff.cell0 0 rfl;have q2':=hff.cell0 1 rfl;have q3:=hff.cell0 2 rfl;have q4:=hff.cell0 3 rfl
   clear hfe hff;change bodyPost _ _ _ _ _ (stR (stR x E (rqL n g r K (.slice u ln tc) P nn C (.slice op on oc)) 0) F [iV 0,iV 0,.int .u64 0,iV 0] 0);obtain⟨z,hz⟩:=eX (stR (stR x E (rqL n g r K (.slice u ln tc) P nn C (.slice op on oc)) 0) F [iV 0,iV 0,.int .u64 0,iV 0] 0);rw[hz]at HPO q0 q1 q2' q3 q4⊢;obtain⟨y0,y1,y2,y3,y4,y5,y6,y7,y8,y9,y10,y11⟩:=q0;exact bodyPost_ret (v:=.tuple #[.agg (rqA n g r K (.slice u ln tc) P nn C (.slice op on oc)),.agg zCk,iV 2]) (by simp[results,Tryz.results71,go_sem,q1,q2',q3,q4,y0,y1,y2,y3,y4,y5,y6,y7,y8,y9,y10,y11]) rfl HPO.out
 · by_cases d2:10<k
   focus
    have HD2:=hid d2
   rotate_left
   focus
    have d3:ow=0:=by have:=HKK.out;omega
    subst d3
   all_goals
    go_wp2_with fail;have hfe:=HF.out.Zgk (rqL n g r K (.slice u ln tc) P nn C (.slice op on oc)) rfl;have hff:=hfe.Zd9 [iV 0,iV 0,.int .u64 0,iV 0] rfl;have HPO:=hid (show∃v,(.returned (.tuple #[.agg (rqA n g r K (.slice u ln tc) P nn C (.slice op on oc)),.agg zCk,iV 2]):Ending)=.returned (.tuple #[v,.agg zCk,iV 2])/\Zj4 n g r K L q hs P w v (stR (stR x E (rqL n g r K (.slice u ln tc) P nn C (.slice op on oc)) 0) F [iV 0,iV 0,.int .u64 0,iV 0] 0)from⟨_,rfl,u,tc,P,nn,C,op,on,oc,by rw[HLN.out],HI.out.fb hff,fun k hk _=> .inl rfl,hff.be⟩);have q0:=(Zaf hff.at1);have q1:=hff.cell0 0 rfl;have q2':=hff.cell0 1 rfl;have q3:=hff.cell0 2 rfl;have q4:=hff.cell0 3 rfl
    clear hfe hff;change bodyPost _ _ _ _ _ (stR (stR x E (rqL n g r K (.slice u ln tc) P nn C (.slice op on oc)) 0) F [iV 0,iV 0,.int .u64 0,iV 0] 0);obtain⟨z,hz⟩:=eX (stR (stR x E (rqL n g r K (.slice u ln tc) P nn C (.slice op on oc)) 0) F [iV 0,iV 0,.int .u64 0,iV 0] 0);rw[hz]at HPO q0 q1 q2' q3 q4⊢;obtain⟨y0,y1,y2,y3,y4,y5,y6,y7,y8,y9,y10,y11⟩:=q0;exact bodyPost_ret (v:=.tuple #[.agg (rqA n g r K (.slice u ln tc) P nn C (.slice op on oc)),.agg zCk,iV 2]) (by simp[results,Tryz.results71,go_sem,q1,q2',q3,q4,y0,y1,y2,y3,y4,y5,y6,y7,y8,y9,y10,y11]) rfl HPO.out
end
end
section
open Go Go.RowKit Go.Shelf
def Ye9 (n g:Nat) (K:Int) (q:Nat->List Nat) (hs:List Hd) (P:Nat->Option Addr) (ow:Nat) (ok:Bool) (i l g2:Nat) (r2:Int) (L2:List (Nat × Nat × Bool)) (q2:Nat->List Nat) (w:World) (e:Ending) (w':World):Prop:=
 (ok=true/\∃v,e=.returned (.tuple #[v,.agg #[iV (adr i:Int),iV l,.int .u64 (ow:Int),iV 0],iV 0])/\Zj4 (n:Int) (g2:Int) r2 K L2 q2 (hs++[⟨(adr i:Int),(l:Int),(ow:Int),0⟩]) P w v w')\/
 (ok=false/\∃v,e=.returned (.tuple #[v,.agg #[iV 0,iV 0,.int .u64 0,iV 0],iV 4])/\Zj4 (n:Int) (g:Int) r2 K L2 q2 hs P w v w')
structure Yjb (n g2:Nat) (r2 K:Int) (L2:List (Nat × Nat × Bool)) (q2:Nat->List Nat) (hs:List Hd) (P:Nat->Option Addr) (a l ow:Int) (w:World) (D E F G:Nat) (u2:Option Addr) (t2:Nat) (P2:Nat->Option Addr) (nn2 C2:Nat->Nat) (op2:Option Addr) (on2 oc2:Nat) (x:World):Prop where
 fb:Fb w [⟨G,#[iV a,iV l,.int .u64 ow,iV 0],65⟩,⟨F,zCk,65⟩,⟨E,rqZ,33⟩,rqB D (n:Int) (g2:Int) r2 K (.slice u2 L2.length t2) P2 nn2 C2 (.slice op2 on2 oc2)] x
 di:DIn u2 L2 P2 nn2 C2 q2 op2 on2 oc2 hs x
 pf:Pfr q2 P P2 w
 aw:∀Z,Z=D\/Z=E\/Z=F\/Z=G->Awy P2 q2 op2 hs Z
theorem Awy.bin {P:Nat->Option Addr} {q:Nat->List Nat} {op:Option Addr} {hs:List Hd} {D:Nat} (h:Awy P q op hs D) {b0:Nat} (hD:D<b0) {l:Nat} {l':List Nat} {p':Option Addr} (hg:∀g off,p'=some (aD g off)->b0<=g):Awy (up P l p') (Zde q l l') op hs D:=
 ⟨fun k hk hq g off e=>by
  by_cases c:k=l
  · subst c;rw[Zh7]at e;have:=hg g off e;omega
  · rw[Zix _ _ c]at e;rw[Zaz _ _ c]at hq;exact h.p k hk hq g off e,h.o⟩
theorem Awy.own {P:Nat->Option Addr} {q:Nat->List Nat} {op:Option Addr} {hs hs':List Hd} {D:Nat} (h:Awy P q op hs D) {g0 b0:Nat} (hD:D<b0) (hg:b0<=g0):Awy P q (some (aD g0 0)) hs' D:=
 ⟨h.p,fun b off e=>by
  right
  have:b=g0:=by cases e;rfl
  omega⟩
theorem Zpq {nn:Nat->Nat} {q:Nat->List Nat} (h:∀k,nn k=(q k).length):∀k,Zfz nn k=Zci q k
 |0=>rfl
 |k+1=>by unfold Zfz Zci;rw[Zpq h k,h k]
def OwR (b0:Nat) (x:World) (hs:List Hd) (s15:Value) (wx:World):Prop:=wx.ownsRow b0 65 4 s15 hs.length (hsL hs)/\Below b0 x wx/\b0<=wx.heap.size
section
variable {w:World} {u:Option Addr} {L:List (Nat × Nat × Bool)} {P:Nat->Option Addr} {nn C:Nat->Nat} {q:Nat->List Nat} {op:Option Addr} {on oc:Nat} {hs:List Hd}
theorem Znw (n g:Nat) (hn:n<=80) (hg:g<=80) (r K:Int) (hr:r<=9223372036854775807) (tc:Nat) (R:Zag) (hR:Til g R g) (h:DIn u (tkT R g) P nn C q op on oc hs w) (hhs:hs.length<=900) (k:Nat) (hk:k<=10) (ow:Nat) (how0:0<ow) (how1:ow<18446744073709551616)
 (ok:Bool) (i l g2:Nat) (hi80:i<=80) (hg2:g2<=80) (r2:Int) (L2:List (Nat × Nat × Bool)) (q2:Nat->List Nat) (hh:(ok=true/\Yhn n g k r R q i l g2 r2 L2 q2)\/(ok=false/\Yhj n g k r R q r2 L2 q2)):
 Calls Tryz.prog 71 #[rqV (n:Int) (g:Int) r K (.slice u (tkT R g).length tc) P nn C (.slice op on oc),iV k,.int .u64 (ow:Int)] w (Ye9 n g K q hs P ow ok i l g2 r2 L2 q2 w):=by
 have k0:¬(k:Int)<0:=by omega
 have k1:¬10<(k:Int):=by omega
 have k2:((ow:Int)==0)=false:=by simp;omega
 have k3:decide ((ow:Int)=0)=false:=decide_eq_false (by omega);have k4:¬ow=0:=by omega
 have HH:=hid hh;have HI:=hid h;have HRT:=hid hR;have HHS:=hid hhs;have HA:Hid (∀Z,w.heap.size<=Z->Awy P q op hs Z):=hid fun Z hZ=>h.awy hZ
 have hqv:lsV nn (k:Int)=lsV (Zlq q) (k:Int):=Zni (fun j _=>h.nq j) _;have HL:=hid fun X=>Zsg P nn C (k:Int) X
 rw[hqv]at HL;obtain⟨ln,hln⟩:=eX ((tkT R g).length);have HLN:=hid hln;rw[hln];have hf:=(((Fb.start w).new (rqA ((n:Int)) ((g:Int)) (r) (K) (.slice u ln tc) (P) (nn) (C) (.slice op on oc)) 33).new rqZ 33).new zCk 65;clear hh h hR hhs hqv hln;go_enter Tryz.func71,Tryz.ntmps71;go_upto_region 1 with fail;change Code.wp _ _ _ _ (((w.alloc (.cells (rqA ((n:Int)) ((g:Int)) (r) (K) (.slice u ln tc) (P) (nn) (C) (.slice op on oc)) 33)).alloc (.cells rqZ 33)).alloc (.cells zCk 65));have hE1:(w.alloc (.cells (rqA ((n:Int)) ((g:Int)) (r) (K) (.slice u ln tc) (P) (nn) (C) (.slice op on oc)) 33)).heap.size=w.heap.size+1:=by simp
 have hF1:((w.alloc (.cells (rqA ((n:Int)) ((g:Int)) (r) (K) (.slice u ln tc) (P) (nn) (C) (.slice op on oc)) 33)).alloc (.cells rqZ 33)).heap.size=w.heap.size+1+1:=by simp
 obtain⟨x,hx⟩:=eX (((w.alloc (.cells (rqA ((n:Int)) ((g:Int)) (r) (K) (.slice u ln tc) (P) (nn) (C) (.slice op on oc)) 33)).alloc (.cells rqZ 33)).alloc (.cells zCk 65));rw[hx,hE1,hF1]at hf;obtain⟨F,hF⟩:=eX (w.heap.size+1+1);obtain⟨E,hE⟩:=eX (w.heap.size+1);obtain⟨D,hD⟩:=eX w.heap.size;have HDD:=hid (show w.heap.size<=D/\w.heap.size<=E/\w.heap.size<=F by omega);rw[hF,hE,hD]at hf;rw[hx]
 try rw[hF]
 try rw[hE]
 try rw[hD]
 have HF:=hid hf;clear hx hE1 hF1 hE hD hF hf;go_upto_region 4 with fail;change Code.wp _ _ _ _ (x.alloc (.cells #[iV 0,iV k,.int .u64 (ow:Int),iV 0] 65));have hf:=HF.out.new #[iV 0,iV k,.int .u64 (ow:Int),iV 0] 65;have HGG:=hid HF.out.be.size;obtain⟨x1,hx⟩:=eX (x.alloc (.cells #[iV 0,iV k,.int .u64 (ow:Int),iV 0] 65));obtain⟨G,hG⟩:=eX x.heap.size;rw[hx,hG]at hf;rw[hG]at HGG;rw[hx,hG];have HF1:=hid hf;clear hx hG hf HF k0 k1 k2 k3 k4;obtain⟨c0,c1,c2,c3,c4,c5,c6,c7,c8,c9,c10,c11⟩:=Zaf HF1.out.at3;go_wp2_with fail
 refine(HL.out _).mono ?_
 rintro e w1 ⟨rfl,hb⟩;have HF2:=hid (HF1.out.below hb);have HAA:Hid (∀Z,Z=D\/Z=E\/Z=F\/Z=G->Awy P q op hs Z):=hid fun Z hZ=>HA.out Z (by have:=HDD.out;have:=HGG.out;omega)
 clear hb HF1 HL c0 c1 c2 c3 c4 c5 c6 c7 c8 c9 c10 c11;obtain⟨c0,c1,c2,c3,c4,c5,c6,c7,c8,c9,c10,c11⟩:=Zaf HF2.out.at3;obtain⟨z0,z1,z2,z3,z4,z5,z6,z7,z8,z9,z10,z11⟩:=Zap HF2.out.at3;rcases HH.out with⟨rfl,⟨rest,hl,hv,he,rfl,rfl,rfl,rfl⟩|⟨hv,rfl,rfl,l0,R1,hsc,rfl⟩|⟨hv,rfl,hc,r1,Rt,hl1,hq1,hr1,ht,htl,rfl,l0,R1,hsc,rfl⟩⟩|⟨rfl,hv,r1,hl1,hq1,hr1,hno⟩
 · rw[hv]
   have HE:=hid he;have HLL:=hid hl
   have HPP:=hid (Zve P nn C q l (1+i) rest hl w1 (HI.out.qa.below HF2.out.be) (HI.out.nq l) (HI.out.nl l) (HI.out.cc l) he);have ea:((4096*(1+i):Nat):Int)=(adr i:Int):=by rw[Za2]
   have HQP:Hid (∀e w',Yhe P nn C l (1+i) rest w1 e w'->∃p' c',e=.returned (.tuple #[.agg #[.slice (up P l p' 0) (up nn l (nn l-1) 0) (up C l c' 0),.slice (up P l p' 1) (up nn l (nn l-1) 1) (up C l c' 1),.slice (up P l p' 2) (up nn l (nn l-1) 2) (up C l c' 2),.slice (up P l p' 3) (up nn l (nn l-1) 3) (up C l c' 3),.slice (up P l p' 4) (up nn l (nn l-1) 4) (up C l c' 4)],iV (adr i:Int),.bool true])/\Za7 w' p' (adI rest)/\(p'=none->c'=0)/\rest.length<=c'/\(∀g off,p'=some (aD g off)->w1.heap.size<=g)/\Below w1.heap.size w1 w'):=hid (by rintro e w' ⟨p',c',rfl,hh⟩;exact⟨p',c',by rw[ea];rfl,hh⟩);clear hv he hl ea;go_wp2_with fail;refine HPP.out.mono ?_;intro e w2 hp;obtain⟨p',c',rfl,p1,p2,p3,p4,hb⟩:=HQP.out _ _ hp;have HF3:=hid (HF2.out.below hb);have hbin:=((HI.out.fb HF2.out).bin hb HLL.out (m:=nn l-1) p1 (by rw[HI.out.nq l,HE.out];simp) (by rw[HI.out.nq l,HE.out];simpa using p3) p2 p4 (by have:=HI.out.nl l;rw[HE.out]at this;simp at this;omega) fun p hp=>HI.out.pg l HLL.out p (by rw[HE.out];exact List.mem_cons_of_mem _ hp));have HBIN:=hid hbin.1
   have HAW:Hid (∀Z,Z=D\/Z=E\/Z=F\/Z=G->Awy (up P l p') (Zde q l rest) op hs Z):=hid fun Z hZ=>(HAA.out Z hZ).bin (b0:=w1.heap.size) (by
    have h0:=(Array.getElem?_eq_some_iff.1 HF2.out.at0).1;have h1:=(Array.getElem?_eq_some_iff.1 HF2.out.at1).1;have h2:=(Array.getElem?_eq_some_iff.1 HF2.out.at2).1;have h3:=(Array.getElem?_eq_some_iff.1 HF2.out.at3).1
    rcases hZ with rfl|rfl|rfl|rfl<;>assumption) p4
   have HPF:Hid (Pfr (Zde q l rest) P (up P l p') w):=hid fun k hk hq=>by
    by_cases e:k=l
    · refine .inr fun g off e2=>?_
      rcases hbin.2 k hk hq with c|c
      · rw[e,Zh7,Zh7]at c
        rw[e,Zh7,c]at e2;cases e2
      · exact Nat.le_trans HF2.out.be.size (c g off e2)
    · exact .inl (Zix _ _ e)
   clear hp p1 p2 p3 p4 hb hbin HPP HQP c0 c1 c2 c3 c4 c5 c6 c7 c8 c9 c10 c11;obtain⟨c0,c1,c2,c3,c4,c5,c6,c7,c8,c9,c10,c11⟩:=Zaf HF3.out.at3;obtain⟨z0,z1,z2,z3,z4,z5,z6,z7,z8,z9,z10,z11⟩:=Zap HF3.out.at3;have y0:=HF3.out.Za5 0;have y1:=HF3.out.Za5 1;have v0:=HF3.out.cell0 0 rfl;have v1:=HF3.out.cell0 1 rfl;have v2:=HF3.out.cell0 2 rfl
   go_upto_region 17 with fail;change Code.wp _ _ _ _ (stR (stR w2 D [.slice (up P l p' 0) (up nn l (nn l-1) 0) (up C l c' 0),.slice (up P l p' 1) (up nn l (nn l-1) 1) (up C l c' 1),.slice (up P l p' 2) (up nn l (nn l-1) 2) (up C l c' 2),.slice (up P l p' 3) (up nn l (nn l-1) 3) (up C l c' 3),.slice (up P l p' 4) (up nn l (nn l-1) 4) (up C l c' 4)] 5) G [iV (adr i:Int),iV l] 0);have hf4:Fb w [⟨G,#[iV (adr i:Int),iV l,.int .u64 (ow:Int),iV 0],65⟩,⟨F,zCk,65⟩,⟨E,rqZ,33⟩,rqB D ((n:Int)) ((g2:Int)) (r2) (K) (.slice u ln tc) (up P l p') (up nn l (nn l-1)) (up C l c') (.slice op on oc)] (stR (stR w2 D [.slice (up P l p' 0) (up nn l (nn l-1) 0) (up C l c' 0),.slice (up P l p' 1) (up nn l (nn l-1) 1) (up C l c' 1),.slice (up P l p' 2) (up nn l (nn l-1) 2) (up C l c' 2),.slice (up P l p' 3) (up nn l (nn l-1) 3) (up C l c' 3),.slice (up P l p' 4) (up nn l (nn l-1) 4) (up C l c' 4)] 5) G [iV (adr i:Int),iV l] 0):=(HF3.out.Zfs [.slice (up P l p' 0) (up nn l (nn l-1) 0) (up C l c' 0),.slice (up P l p' 1) (up nn l (nn l-1) 1) (up C l c' 1),.slice (up P l p' 2) (up nn l (nn l-1) 2) (up C l c' 2),.slice (up P l p' 3) (up nn l (nn l-1) 3) (up C l c' 3),.slice (up P l p' 4) (up nn l (nn l-1) 4) (up C l c' 4)] 5).Zdz [iV (adr i:Int),iV l] 0;have hg2:(stR w2 D [.slice (up P l p' 0) (up nn l (nn l-1) 0) (up C l c' 0),.slice (up P l p' 1) (up nn l (nn l-1) 1) (up C l c' 1),.slice (up P l p' 2) (up nn l (nn l-1) 2) (up C l c' 2),.slice (up P l p' 3) (up nn l (nn l-1) 3) (up C l c' 3),.slice (up P l p' 4) (up nn l (nn l-1) 4) (up C l c' 4)] 5).cell? (aD G 2)=some (.int .u64 (ow:Int)):=(HF3.out.Zfs [.slice (up P l p' 0) (up nn l (nn l-1) 0) (up C l c' 0),.slice (up P l p' 1) (up nn l (nn l-1) 1) (up C l c' 1),.slice (up P l p' 2) (up nn l (nn l-1) 2) (up C l c' 2),.slice (up P l p' 3) (up nn l (nn l-1) 3) (up C l c' 3),.slice (up P l p' 4) (up nn l (nn l-1) 4) (up C l c' 4)] 5).cell0 2 rfl;have hd4:=(HBIN.out.put c2 (by intro b;simp) (HAW.out D (.inl rfl)) [.slice (up P l p' 0) (up nn l (nn l-1) 0) (up C l c' 0),.slice (up P l p' 1) (up nn l (nn l-1) 1) (up C l c' 1),.slice (up P l p' 2) (up nn l (nn l-1) 2) (up C l c' 2),.slice (up P l p' 3) (up nn l (nn l-1) 3) (up C l c' 3),.slice (up P l p' 4) (up nn l (nn l-1) 4) (up C l c' 4)] 5).put hg2 (by intro b;simp) (HAW.out G (.inr (.inr (.inr rfl)))) [iV (adr i:Int),iV l] 0;obtain⟨x4,hx4⟩:=eX (stR (stR w2 D [.slice (up P l p' 0) (up nn l (nn l-1) 0) (up C l c' 0),.slice (up P l p' 1) (up nn l (nn l-1) 1) (up C l c' 1),.slice (up P l p' 2) (up nn l (nn l-1) 2) (up C l c' 2),.slice (up P l p' 3) (up nn l (nn l-1) 3) (up C l c' 3),.slice (up P l p' 4) (up nn l (nn l-1) 4) (up C l c' 4)] 5) G [iV (adr i:Int),iV l] 0);rw[hx4]at hf4 hd4⊢;rw[<-HLN.out]at hf4;have HS:Hid (Yjb n g2 r2 K (tkT R g2) (Zde q l rest) hs P (adr i:Int) (l:Int) (ow:Int) w D E F G u tc (up P l p') (up nn l (nn l-1)) (up C l c') op on oc x4):=hid ⟨hf4,hd4,HPF.out,HAW.out⟩;clear hx4 hf4 hd4 hg2 HPF HAW HBIN HF3 HF2 c0 c1 c2 c3 c4 c5 c6 c7 c8 c9 c10 c11 z0 z1 z2 z3 z4 z5 z6 z7 z8 z9 z10 z11 y0 y1 v0 v1 v2 HI HAA HA;obtain⟨i0,hi0,hz0,hz1,hz2⟩:=info_parts Tryz.Zq1;have HI0:=hid hi0;have HZ0:=hid hz0;have HZ1:=hid hz1;have HZ2:=hid hz2
   clear hi0 hz0 hz1 hz2;have c11:=(Zaf HS.out.fb.at3).2.2.2.2.2.2.2.2.2.2.2;go_upto_region 18 with fail
   go_cut[15] (fun s15 wx=>OwR x4.heap.size x4 hs s15 wx)
   case first=>
    rcases HS.out.di.ho with⟨h1,h2⟩|⟨b,cap,c,fr,h1,h2,h3⟩
    · rw[h1]at c11
      have hap:=fun ty=>Zma x4 ty
      go_wp2_with fail
      go_meet
      rw[h2]
      exact⟨World.ownsRow_nil _ _ _ _,Below.refl _ _,Nat.le_refl _⟩
    · rw[h1]at c11
      have hhs:=HHS.out;by_cases h0:hs=[]
      · have h4:hs.length=0:=by rw[h0];rfl
        rw[h4]at c11;have hap:=fun ty=>Zl9 b cap x4 ty
        go_wp2_with fail
        go_meet
        rw[h0]
        exact⟨World.ownsRow_nil _ _ _ _,Below.refl _ _,Nat.le_refl _⟩
      · have h4:¬hs.length=0:=fun e=>h0 (List.eq_nil_of_length_eq_zero e)
        have hvo:=World.ownsRow_nil x4 x4.heap.size 65 4;obtain⟨vn,hvn⟩:=eX (Value.slice none 0 0:Value);rw[hvn]at hvo⊢;clear hvn
        go_wp2_with (at_builtin;refine wpList_append_own _ rfl _ _ 31 rfl x4.heap.size 65 i0 (.agg #[iV 0,iV 0,.int .u64 0,iV 0]) 4 32 Tryz.underlying31 HI0.out HZ0.out HZ1.out HZ2.out rfl (by decide) vn 0 [] rfl hvo (aD b 0) hs.length _ (hsL hs) rfl (Zf6 hs) (Zwg h3) (Zjr hs) (by unfold maxLen;omega) (by omega) (Nat.le_refl _) ?_;intro v' w5 hown hgrow _)
        go_wp2_with fail
        go_meet
        have hb5:=Ze7 hvo hgrow (Nat.le_refl _) (Below.refl x4.heap.size x4)
        exact⟨by simpa using hown,hb5,hb5.size⟩
   case rest=>
    obtain⟨hown,hb,hsz⟩:=hcut;have hf6:=HS.out.fb.below hb;have hrow2:=hown.alloc (.cells #[iV (adr i:Int),iV l,.int .u64 (ow:Int),iV 0] 65);have hbb:=hb.alloc hsz (.cells #[iV (adr i:Int),iV l,.int .u64 (ow:Int),iV 0] 65);have HB7:Hid (∀W,Below x4.heap.size x4 W->Fb w [⟨G,#[iV (adr i:Int),iV l,.int .u64 (ow:Int),iV 0],65⟩,⟨F,zCk,65⟩,⟨E,rqZ,33⟩,rqB D ((n:Int)) ((g2:Int)) (r2) (K) (.slice u (tkT R g2).length tc) (up P l p') (up nn l (nn l-1)) (up C l c') (.slice op on oc)] W):=hid fun W hW=>HS.out.fb.below hW
    have HD7:=hid HS.out.di;have HSF:=hid (show G<x4.heap.size/\F<x4.heap.size/\E<x4.heap.size/\D<x4.heap.size from⟨(Array.getElem?_eq_some_iff.1 HS.out.fb.at0).1,(Array.getElem?_eq_some_iff.1 HS.out.fb.at1).1,(Array.getElem?_eq_some_iff.1 HS.out.fb.at2).1,(Array.getElem?_eq_some_iff.1 HS.out.fb.at3).1⟩);have v0:=hf6.cell0 0 rfl;have v1:=hf6.cell0 1 rfl;have v2:=hf6.cell0 2 rfl;have v3:=hf6.cell0 3 rfl
    have hhs:=HHS.out;clear c11 hf6
    go_upto_region 20 with(at_builtin;refine wpList_append_own _ rfl _ _ 31 rfl x4.heap.size 65 i0 (.agg #[iV 0,iV 0,.int .u64 0,iV 0]) 4 32 Tryz.underlying31 HI0.out HZ0.out HZ1.out HZ2.out rfl (by decide) _ _ _ rfl hrow2 ⟨_,0,none⟩ 1 1 (hdL ⟨(adr i:Int),(l:Int),(ow:Int),0⟩) rfl rfl (Zq6 ⟨(adr i:Int),(l:Int),(ow:Int),0⟩ _ (by simp)) (by simp[hdL,Value.oneCell']) (by unfold maxLen;omega) (by omega) hbb.size ?_;intro v7 w7 hown7 hgrow7 _;obtain⟨g7,cap7,rfl,hg7,hha7⟩:=Zo2 (hs:=hs++[⟨(adr i:Int),(l:Int),(ow:Int),0⟩]) (by rw[Zpe];simpa using hown7) (by simp);have hb7:=Ze7 hrow2 hgrow7 hbb.size hbb;have hf7:=HB7.out w7 hb7;have z11:=hf7.Ydz 11;have d11:=hf7.Zth 11 rfl;try simp only[List.length_append,List.length_cons,List.length_nil,Nat.zero_add]at hha7⊢)
    change Code.wp _ _ _ _ (stR w7 D [.slice (some (aD g7 0)) (hs.length+1) cap7] 11);have hf8:Fb w [⟨G,#[iV (adr i:Int),iV l,.int .u64 (ow:Int),iV 0],65⟩,⟨F,zCk,65⟩,⟨E,rqZ,33⟩,rqB D ((n:Int)) ((g2:Int)) (r2) (K) (.slice u (tkT R g2).length tc) (up P l p') (up nn l (nn l-1)) (up C l c') (.slice (some (aD g7 0)) (hs.length+1) cap7)] (stR w7 D [.slice (some (aD g7 0)) (hs.length+1) cap7] 11):=hf7.Zfs [.slice (some (aD g7 0)) (hs.length+1) cap7] 11;have HAZ:Hid (∀Z,Z=D\/Z=E\/Z=F\/Z=G->Awy (up P l p') (Zde q l rest) (some (aD g7 0)) (hs++[⟨(adr i:Int),(l:Int),(ow:Int),0⟩]) Z):=hid fun Z hZ=>(HS.out.aw Z hZ).own (b0:=x4.heap.size) (by have:=HSF.out;rcases hZ with rfl|rfl|rfl|rfl<;>omega) hg7
    have hd8:DIn u (tkT R g2) (up P l p') (up nn l (nn l-1)) (up C l c') (Zde q l rest) (some (aD g7 0)) (hs.length+1) cap7 (hs++[⟨(adr i:Int),(l:Int),(ow:Int),0⟩]) w7:={HD7.out.below hb7 with ho:=hha7,hn:=by simp,hl:=by simp;omega};have hd9:=hd8.put (hf7.Zth 2 rfl) (by intro b;simp) (HAZ.out D (.inl rfl)) [.slice (some (aD g7 0)) (hs.length+1) cap7] 11;have HPF:=hid HS.out.pf;obtain⟨x8,hx8⟩:=eX (stR w7 D [.slice (some (aD g7 0)) (hs.length+1) cap7] 11);rw[hx8]at hf8 hd9⊢;have HF8:=hid hf8;have HD9:=hid hd9
    clear hx8 hf8 hd9 hd8 hf7 z11 d11 hha7 hg7 hb7 hown7 hgrow7 HB7 HD7 HSF HS hbb hrow2 hb hsz hown v0 v1 v2 v3;obtain⟨lz,hlz⟩:=eX ((tkT R g2).length);have HLZ:=hid hlz;rw[hlz]at HF8;clear hlz
    go_cut[8] (fun s8 wx=>s8=iV 0/\Fb w [⟨G,#[iV (adr i:Int),iV l,.int .u64 (ow:Int),iV 0],65⟩,⟨F,#[iV (adr i:Int),iV l,.int .u64 (ow:Int),iV 0],65⟩,⟨E,rqA ((n:Int)) ((g2:Int)) (r2) (K) (.slice u lz tc) (up P l p') (up nn l (nn l-1)) (up C l c') (.slice (some (aD g7 0)) (hs.length+1) cap7),33⟩,rqB D ((n:Int)) ((g2:Int)) (r2) (K) (.slice u lz tc) (up P l p') (up nn l (nn l-1)) (up C l c') (.slice (some (aD g7 0)) (hs.length+1) cap7)] wx/\DIn u (tkT R g2) (up P l p') (up nn l (nn l-1)) (up C l c') (Zde q l rest) (some (aD g7 0)) (hs.length+1) cap7 (hs++[⟨(adr i:Int),(l:Int),(ow:Int),0⟩]) wx)
    case first=>
     obtain⟨c0,c1,c2,c3,c4,c5,c6,c7,c8,c9,c10,c11⟩:=Zaf HF8.out.at3;obtain⟨z0,z1,z2,z3,z4,z5,z6,z7,z8,z9,z10,z11⟩:=Zap HF8.out.at2;obtain⟨o0,o1,o2,o3,o4,o5,o6,o7,o8,o9,o10,o11⟩:=Zbl HF8.out.at2;have v0:=HF8.out.cell0 0 rfl;have v1:=HF8.out.cell0 1 rfl;have v2:=HF8.out.cell0 2 rfl;have v3:=HF8.out.cell0 3 rfl
     have y0:=HF8.out.Zak 0 rfl;have y1:=HF8.out.Zak 1 rfl;have y2:=HF8.out.Zak 2 rfl;have y3:=HF8.out.Zak 3 rfl
     have j0:=HF8.out.Zda 0;have j1:=HF8.out.Zda 1;have j2:=HF8.out.Zda 2;have j3:=HF8.out.Zda 3
     have hnd:=HF8.out.nd;simp only[List.pairwise_cons,List.mem_cons,forall_eq_or_imp,List.not_mem_nil,false_or,or_false,forall_eq]at hnd;obtain⟨⟨n1,n2,n3⟩,⟨n4,n5⟩,n6, -⟩:=hnd;have m1:F≠G:=fun e=>n1 e.symm;have m2:E≠G:=fun e=>n2 e.symm;have m3:D≠G:=fun e=>n3 e.symm;have m4:E≠F:=fun e=>n4 e.symm;have m5:D≠F:=fun e=>n5 e.symm;have m6:D≠E:=fun e=>n6 e.symm
     go_region
     all_goals go_wp2_with fail
     have hEF:=(HF8.out.Zno (rqL ((n:Int)) ((g2:Int)) (r2) (K) (.slice u lz tc) (up P l p') (up nn l (nn l-1)) (up C l c') (.slice (some (aD g7 0)) (hs.length+1) cap7)) rfl).Zgk [iV (adr i:Int),iV l,.int .u64 (ow:Int),iV 0] rfl;have hDEF:=(HD9.out.put o2 (by intro b;simp) (HAZ.out E (.inr (.inl rfl))) (rqL ((n:Int)) ((g2:Int)) (r2) (K) (.slice u lz tc) (up P l p') (up nn l (nn l-1)) (up C l c') (.slice (some (aD g7 0)) (hs.length+1) cap7)) 0).put ((HF8.out.Zno (rqL ((n:Int)) ((g2:Int)) (r2) (K) (.slice u lz tc) (up P l p') (up nn l (nn l-1)) (up C l c') (.slice (some (aD g7 0)) (hs.length+1) cap7)) rfl).Zak 2 rfl) (by intro b;simp) (HAZ.out F (.inr (.inr (.inl rfl)))) [iV (adr i:Int),iV l,.int .u64 (ow:Int),iV 0] 0;change Met _ _ (stR (stR x8 E (rqL ((n:Int)) ((g2:Int)) (r2) (K) (.slice u lz tc) (up P l p') (up nn l (nn l-1)) (up C l c') (.slice (some (aD g7 0)) (hs.length+1) cap7)) 0) F [iV (adr i:Int),iV l,.int .u64 (ow:Int),iV 0] 0).drew;obtain⟨x9,hx9⟩:=eX (stR (stR x8 E (rqL ((n:Int)) ((g2:Int)) (r2) (K) (.slice u lz tc) (up P l p') (up nn l (nn l-1)) (up C l c') (.slice (some (aD g7 0)) (hs.length+1) cap7)) 0) F [iV (adr i:Int),iV l,.int .u64 (ow:Int),iV 0] 0);rw[hx9]at hEF hDEF⊢;clear hx9
     go_meet
     exact⟨rfl,hEF.below (Below.refl _ _).drew,hDEF.below (Below.refl _ _).drew⟩
    case rest=>
     obtain⟨rfl,hf9,hd9⟩:=hcut;obtain⟨y0,y1,y2,y3,y4,y5,y6,y7,y8,y9,y10,y11⟩:=Zaf hf9.at2;have v0:=hf9.Zak 0 rfl;have v1:=hf9.Zak 1 rfl;have v2:=hf9.Zak 2 rfl;have v3:=hf9.Zak 3 rfl
     have HPO:=hid (show Ye9 n g2 K q hs P ow true i (l) (g2) r2 (tkT R g2) (Zde q l rest) w (.returned (.tuple #[.agg (rqA ((n:Int)) ((g2:Int)) (r2) (K) (.slice u lz tc) (up P l p') (up nn l (nn l-1)) (up C l c') (.slice (some (aD g7 0)) (hs.length+1) cap7)),.agg #[iV (adr i:Int),iV l,.int .u64 (ow:Int),iV 0],iV 0])) wc from .inl ⟨rfl,_,rfl,u,tc,up P l p',up nn l (nn l-1),up C l c',some (aD g7 0),hs.length+1,cap7,by rw[HLZ.out],hd9,HPF.out,hf9.be⟩);clear hf9 hd9;go_wp2_with fail;exact bodyPost_ret (v:=.tuple #[.agg (rqA ((n:Int)) ((g2:Int)) (r2) (K) (.slice u lz tc) (up P l p') (up nn l (nn l-1)) (up C l c') (.slice (some (aD g7 0)) (hs.length+1) cap7)),.agg #[iV (adr i:Int),iV l,.int .u64 (ow:Int),iV 0],iV 0]) (by simp[results,Tryz.results71,go_sem,y0,y1,y2,y3,y4,y5,y6,y7,y8,y9,y10,y11,v0,v1,v2,v3]) rfl HPO.out
 · have e2:lsV (Zlq q2) (l:Int)=.tuple #[iV 0,.bool false]:=hv
   rw[e2];have HAL:Hid (∀X,Zcg X u (tkT R g)->Calls Tryz.prog 57 #[bqV 1 (n:Int) (g:Int) r (.slice u ln tc),iV l] X (Yh2 1 n g2 r2 (tkT R g) i l X)):=hid fun X hX=>by rw[<-HLN.out];exact Zps 1 r hr n g hn hg u tc R HRT.out l hk X hX g2 i l0 r2 R1 hsc hg2
   have HOL:Hid ((Zm9 (tkT R g) i l).length<=2000):=hid (by
    have h1:=Ziy R g;have h2:=Zjk (tkT R g) i;have h3:=Zph (tkT R g) i
    unfold Zm9;simp only[List.length_append,List.length_cons,List.length_nil]
    omega)
   clear hv e2 hsc;go_wp2_with fail
   refine(HAL.out _ (HI.out.fb HF2.out).rn).mono ?_
   rintro e w2 ⟨u2,t2,rfl,hr2,hb⟩;have hf3:=HF2.out.below hb;obtain⟨LO,hLO⟩:=eX (Zm9 (tkT R g) i l);rw[hLO]at hr2 HOL⊢;have HLO:=hid hLO;obtain⟨lo,hlo⟩:=eX LO.length;have HL2:=hid hlo;rw[hlo];have HF3:=hid (hf3.new #[iV 1,iV n,iV g2,iV r2,.slice u2 lo t2] 27);have HD3:Hid (DIn u2 LO P nn C q2 op on oc hs (w2.alloc (.cells #[iV 1,iV n,iV g2,iV r2,.slice u2 lo t2] 27))):=hid {((HI.out.fb hf3).below (Zaj _ _))with rn:=hr2.below (Zaj _ _),ln:=HOL.out};clear hr2 hb hf3 HF2 HAL c0 c1 c2 c3 c4 c5 c6 c7 c8 c9 c10 c11 z0 z1 z2 z3 z4 z5 z6 z7 z8 z9 z10 z11 hLO hlo;go_upto_region 9 with fail;change Code.wp _ _ _ _ (w2.alloc (.cells #[iV 1,iV n,iV g2,iV r2,.slice u2 lo t2] 27));obtain⟨x3,hx⟩:=eX (w2.alloc (.cells #[iV 1,iV n,iV g2,iV r2,.slice u2 lo t2] 27));obtain⟨H,hH⟩:=eX w2.heap.size;rw[hx,hH]at HF3;rw[hx]at HD3;rw[hx,hH];clear hx hH;obtain⟨c0,c1,c2,c3,c4,c5,c6,c7,c8,c9,c10,c11⟩:=Zaf HF3.out.at4;obtain⟨z0,z1,z2,z3,z4,z5,z6,z7,z8,z9,z10,z11⟩:=Zap HF3.out.at4;have b0:=HF3.out.cell0 0 rfl;have b1:=HF3.out.cell0 1 rfl;have b2:=HF3.out.cell0 2 rfl;have b3:=HF3.out.cell0 3 rfl;have b4:=HF3.out.cell0 4 rfl
   have y0:=HF3.out.Zda 0;have v0:=HF3.out.Zak 0 rfl
   have hnd:=HF3.out.nd;simp only[List.pairwise_cons,List.mem_cons,forall_eq_or_imp,List.not_mem_nil,false_or,or_false,forall_eq]at hnd;obtain⟨⟨-, -, -,n0⟩,⟨-, -,n1⟩, -⟩:=hnd;have m0:D≠H:=fun e=>n0 e.symm;have m1:D≠G:=fun e=>n1 e.symm
   have hq1:IntKind.i64.wrap ((i:Int)+1)=(i:Int)+1:=by rw[IntKind.wrap_i64];omega
   have hq2:IntKind.i64.wrap (((i:Int)+1)*4096)=((adr i:Nat):Int):=by rw[IntKind.wrap_i64];unfold adr;omega
   go_upto_region 17 with fail;change Code.wp _ _ _ _ (stR (stR x3 D [iV 1,iV n,iV g2,iV r2,.slice u2 lo t2] 0) G [iV (adr i:Int)] 0);have hf4:Fb w [⟨G,#[iV (adr i:Int),iV l,.int .u64 (ow:Int),iV 0],65⟩,⟨F,zCk,65⟩,⟨E,rqZ,33⟩,rqB D (n:Int) (g2:Int) r2 K (.slice u2 lo t2) P nn C (.slice op on oc)] (stR (stR x3 D [iV 1,iV n,iV g2,iV r2,.slice u2 lo t2] 0) G [iV (adr i:Int)] 0):=((HF3.out.Zge [iV 1,iV n,iV g2,iV r2,.slice u2 lo t2] 0).Zft [iV (adr i:Int)] 0).Zia;have hg2':(stR x3 D [iV 1,iV n,iV g2,iV r2,.slice u2 lo t2] 0).cell? (aD G 2)=some (.int .u64 (ow:Int)):=(HF3.out.Zge [iV 1,iV n,iV g2,iV r2,.slice u2 lo t2] 0).Zak 2 rfl;have hd4:=(HD3.out.put c2 (by intro b;simp) (HAA.out D (.inl rfl)) [iV 1,iV n,iV g2,iV r2,.slice u2 lo t2] 0).put hg2' (by intro b;simp) (HAA.out G (.inr (.inr (.inr rfl)))) [iV (adr i:Int)] 0;obtain⟨x4,hx4⟩:=eX (stR (stR x3 D [iV 1,iV n,iV g2,iV r2,.slice u2 lo t2] 0) G [iV (adr i:Int)] 0);rw[hx4]at hf4 hd4⊢;rw[<-HL2.out]at hf4;have HS:Hid (Yjb n g2 r2 K LO q2 hs P (adr i:Int) (l:Int) (ow:Int) w D E F G u2 t2 P nn C op on oc x4):=hid ⟨hf4,hd4,fun k hk c=> .inl rfl,HAA.out⟩;clear hx4 hf4 hd4 hg2' HD3 HF3 c0 c1 c2 c3 c4 c5 c6 c7 c8 c9 c10 c11 z0 z1 z2 z3 z4 z5 z6 z7 z8 z9 z10 z11 y0 v0 b0 b1 b2 b3 b4 HI HAA HA n0 n1 m0 m1 hq1 hq2;obtain⟨i0,hi0,hz0,hz1,hz2⟩:=info_parts Tryz.Zq1;have HI0:=hid hi0;have HZ0:=hid hz0;have HZ1:=hid hz1;have HZ2:=hid hz2
   clear hi0 hz0 hz1 hz2;have c11:=(Zaf HS.out.fb.at3).2.2.2.2.2.2.2.2.2.2.2;go_upto_region 18 with fail
   go_cut[15] (fun s15 wx=>OwR x4.heap.size x4 hs s15 wx)
   case first=>
    rcases HS.out.di.ho with⟨h1,h2⟩|⟨b,cap,c,fr,h1,h2,h3⟩
    · rw[h1]at c11
      have hap:=fun ty=>Zma x4 ty
      go_wp2_with fail
      go_meet
      rw[h2]
      exact⟨World.ownsRow_nil _ _ _ _,Below.refl _ _,Nat.le_refl _⟩
    · rw[h1]at c11
      have hhs:=HHS.out;by_cases h0:hs=[]
      · have h4:hs.length=0:=by rw[h0];rfl
        rw[h4]at c11;have hap:=fun ty=>Zl9 b cap x4 ty
        go_wp2_with fail
        go_meet
        rw[h0]
        exact⟨World.ownsRow_nil _ _ _ _,Below.refl _ _,Nat.le_refl _⟩
      · have h4:¬hs.length=0:=fun e=>h0 (List.eq_nil_of_length_eq_zero e)
        have hvo:=World.ownsRow_nil x4 x4.heap.size 65 4;obtain⟨vn,hvn⟩:=eX (Value.slice none 0 0:Value);rw[hvn]at hvo⊢;clear hvn
        go_wp2_with (at_builtin;refine wpList_append_own _ rfl _ _ 31 rfl x4.heap.size 65 i0 (.agg #[iV 0,iV 0,.int .u64 0,iV 0]) 4 32 Tryz.underlying31 HI0.out HZ0.out HZ1.out HZ2.out rfl (by decide) vn 0 [] rfl hvo (aD b 0) hs.length _ (hsL hs) rfl (Zf6 hs) (Zwg h3) (Zjr hs) (by unfold maxLen;omega) (by omega) (Nat.le_refl _) ?_;intro v' w5 hown hgrow _)
        go_wp2_with fail
        go_meet
        have hb5:=Ze7 hvo hgrow (Nat.le_refl _) (Below.refl x4.heap.size x4)
        exact⟨by simpa using hown,hb5,hb5.size⟩
   case rest=>
    obtain⟨hown,hb,hsz⟩:=hcut;have hf6:=HS.out.fb.below hb;have hrow2:=hown.alloc (.cells #[iV (adr i:Int),iV l,.int .u64 (ow:Int),iV 0] 65);have hbb:=hb.alloc hsz (.cells #[iV (adr i:Int),iV l,.int .u64 (ow:Int),iV 0] 65);have HB7:Hid (∀W,Below x4.heap.size x4 W->Fb w [⟨G,#[iV (adr i:Int),iV l,.int .u64 (ow:Int),iV 0],65⟩,⟨F,zCk,65⟩,⟨E,rqZ,33⟩,rqB D ((n:Int)) ((g2:Int)) (r2) (K) (.slice u2 (LO).length t2) (P) (nn) (C) (.slice op on oc)] W):=hid fun W hW=>HS.out.fb.below hW
    have HD7:=hid HS.out.di;have HSF:=hid (show G<x4.heap.size/\F<x4.heap.size/\E<x4.heap.size/\D<x4.heap.size from⟨(Array.getElem?_eq_some_iff.1 HS.out.fb.at0).1,(Array.getElem?_eq_some_iff.1 HS.out.fb.at1).1,(Array.getElem?_eq_some_iff.1 HS.out.fb.at2).1,(Array.getElem?_eq_some_iff.1 HS.out.fb.at3).1⟩);have v0:=hf6.cell0 0 rfl;have v1:=hf6.cell0 1 rfl;have v2:=hf6.cell0 2 rfl;have v3:=hf6.cell0 3 rfl
    have hhs:=HHS.out;clear c11 hf6
    go_upto_region 20 with(at_builtin;refine wpList_append_own _ rfl _ _ 31 rfl x4.heap.size 65 i0 (.agg #[iV 0,iV 0,.int .u64 0,iV 0]) 4 32 Tryz.underlying31 HI0.out HZ0.out HZ1.out HZ2.out rfl (by decide) _ _ _ rfl hrow2 ⟨_,0,none⟩ 1 1 (hdL ⟨(adr i:Int),(l:Int),(ow:Int),0⟩) rfl rfl (Zq6 ⟨(adr i:Int),(l:Int),(ow:Int),0⟩ _ (by simp)) (by simp[hdL,Value.oneCell']) (by unfold maxLen;omega) (by omega) hbb.size ?_;intro v7 w7 hown7 hgrow7 _;obtain⟨g7,cap7,rfl,hg7,hha7⟩:=Zo2 (hs:=hs++[⟨(adr i:Int),(l:Int),(ow:Int),0⟩]) (by rw[Zpe];simpa using hown7) (by simp);have hb7:=Ze7 hrow2 hgrow7 hbb.size hbb;have hf7:=HB7.out w7 hb7;have z11:=hf7.Ydz 11;have d11:=hf7.Zth 11 rfl;try simp only[List.length_append,List.length_cons,List.length_nil,Nat.zero_add]at hha7⊢)
    change Code.wp _ _ _ _ (stR w7 D [.slice (some (aD g7 0)) (hs.length+1) cap7] 11);have hf8:Fb w [⟨G,#[iV (adr i:Int),iV l,.int .u64 (ow:Int),iV 0],65⟩,⟨F,zCk,65⟩,⟨E,rqZ,33⟩,rqB D ((n:Int)) ((g2:Int)) (r2) (K) (.slice u2 (LO).length t2) (P) (nn) (C) (.slice (some (aD g7 0)) (hs.length+1) cap7)] (stR w7 D [.slice (some (aD g7 0)) (hs.length+1) cap7] 11):=hf7.Zfs [.slice (some (aD g7 0)) (hs.length+1) cap7] 11;have HAZ:Hid (∀Z,Z=D\/Z=E\/Z=F\/Z=G->Awy (P) (q2) (some (aD g7 0)) (hs++[⟨(adr i:Int),(l:Int),(ow:Int),0⟩]) Z):=hid fun Z hZ=>(HS.out.aw Z hZ).own (b0:=x4.heap.size) (by have:=HSF.out;rcases hZ with rfl|rfl|rfl|rfl<;>omega) hg7
    have hd8:DIn u2 (LO) (P) (nn) (C) (q2) (some (aD g7 0)) (hs.length+1) cap7 (hs++[⟨(adr i:Int),(l:Int),(ow:Int),0⟩]) w7:={HD7.out.below hb7 with ho:=hha7,hn:=by simp,hl:=by simp;omega};have hd9:=hd8.put (hf7.Zth 2 rfl) (by intro b;simp) (HAZ.out D (.inl rfl)) [.slice (some (aD g7 0)) (hs.length+1) cap7] 11;have HPF:=hid HS.out.pf;obtain⟨x8,hx8⟩:=eX (stR w7 D [.slice (some (aD g7 0)) (hs.length+1) cap7] 11);rw[hx8]at hf8 hd9⊢;have HF8:=hid hf8;have HD9:=hid hd9
    clear hx8 hf8 hd9 hd8 hf7 z11 d11 hha7 hg7 hb7 hown7 hgrow7 HB7 HD7 HSF HS hbb hrow2 hb hsz hown v0 v1 v2 v3;obtain⟨lz,hlz⟩:=eX ((LO).length);have HLZ:=hid hlz;rw[hlz]at HF8;clear hlz
    go_cut[8] (fun s8 wx=>s8=iV 0/\Fb w [⟨G,#[iV (adr i:Int),iV l,.int .u64 (ow:Int),iV 0],65⟩,⟨F,#[iV (adr i:Int),iV l,.int .u64 (ow:Int),iV 0],65⟩,⟨E,rqA ((n:Int)) ((g2:Int)) (r2) (K) (.slice u2 lz t2) (P) (nn) (C) (.slice (some (aD g7 0)) (hs.length+1) cap7),33⟩,rqB D ((n:Int)) ((g2:Int)) (r2) (K) (.slice u2 lz t2) (P) (nn) (C) (.slice (some (aD g7 0)) (hs.length+1) cap7)] wx/\DIn u2 (LO) (P) (nn) (C) (q2) (some (aD g7 0)) (hs.length+1) cap7 (hs++[⟨(adr i:Int),(l:Int),(ow:Int),0⟩]) wx)
    case first=>
     obtain⟨c0,c1,c2,c3,c4,c5,c6,c7,c8,c9,c10,c11⟩:=Zaf HF8.out.at3;obtain⟨z0,z1,z2,z3,z4,z5,z6,z7,z8,z9,z10,z11⟩:=Zap HF8.out.at2;obtain⟨o0,o1,o2,o3,o4,o5,o6,o7,o8,o9,o10,o11⟩:=Zbl HF8.out.at2;have v0:=HF8.out.cell0 0 rfl;have v1:=HF8.out.cell0 1 rfl;have v2:=HF8.out.cell0 2 rfl;have v3:=HF8.out.cell0 3 rfl
     have y0:=HF8.out.Zak 0 rfl;have y1:=HF8.out.Zak 1 rfl;have y2:=HF8.out.Zak 2 rfl;have y3:=HF8.out.Zak 3 rfl
     have j0:=HF8.out.Zda 0;have j1:=HF8.out.Zda 1;have j2:=HF8.out.Zda 2;have j3:=HF8.out.Zda 3
     have hnd:=HF8.out.nd;simp only[List.pairwise_cons,List.mem_cons,forall_eq_or_imp,List.not_mem_nil,false_or,or_false,forall_eq]at hnd;obtain⟨⟨n1,n2,n3⟩,⟨n4,n5⟩,n6, -⟩:=hnd;have m1:F≠G:=fun e=>n1 e.symm;have m2:E≠G:=fun e=>n2 e.symm;have m3:D≠G:=fun e=>n3 e.symm;have m4:E≠F:=fun e=>n4 e.symm;have m5:D≠F:=fun e=>n5 e.symm;have m6:D≠E:=fun e=>n6 e.symm
     go_region
     all_goals go_wp2_with fail
     have hEF:=(HF8.out.Zno (rqL ((n:Int)) ((g2:Int)) (r2) (K) (.slice u2 lz t2) (P) (nn) (C) (.slice (some (aD g7 0)) (hs.length+1) cap7)) rfl).Zgk [iV (adr i:Int),iV l,.int .u64 (ow:Int),iV 0] rfl;have hDEF:=(HD9.out.put o2 (by intro b;simp) (HAZ.out E (.inr (.inl rfl))) (rqL ((n:Int)) ((g2:Int)) (r2) (K) (.slice u2 lz t2) (P) (nn) (C) (.slice (some (aD g7 0)) (hs.length+1) cap7)) 0).put ((HF8.out.Zno (rqL ((n:Int)) ((g2:Int)) (r2) (K) (.slice u2 lz t2) (P) (nn) (C) (.slice (some (aD g7 0)) (hs.length+1) cap7)) rfl).Zak 2 rfl) (by intro b;simp) (HAZ.out F (.inr (.inr (.inl rfl)))) [iV (adr i:Int),iV l,.int .u64 (ow:Int),iV 0] 0;change Met _ _ (stR (stR x8 E (rqL ((n:Int)) ((g2:Int)) (r2) (K) (.slice u2 lz t2) (P) (nn) (C) (.slice (some (aD g7 0)) (hs.length+1) cap7)) 0) F [iV (adr i:Int),iV l,.int .u64 (ow:Int),iV 0] 0).drew;obtain⟨x9,hx9⟩:=eX (stR (stR x8 E (rqL ((n:Int)) ((g2:Int)) (r2) (K) (.slice u2 lz t2) (P) (nn) (C) (.slice (some (aD g7 0)) (hs.length+1) cap7)) 0) F [iV (adr i:Int),iV l,.int .u64 (ow:Int),iV 0] 0);rw[hx9]at hEF hDEF⊢;clear hx9
     go_meet
     exact⟨rfl,hEF.below (Below.refl _ _).drew,hDEF.below (Below.refl _ _).drew⟩
    case rest=>
     obtain⟨rfl,hf9,hd9⟩:=hcut;obtain⟨y0,y1,y2,y3,y4,y5,y6,y7,y8,y9,y10,y11⟩:=Zaf hf9.at2;have v0:=hf9.Zak 0 rfl;have v1:=hf9.Zak 1 rfl;have v2:=hf9.Zak 2 rfl;have v3:=hf9.Zak 3 rfl
     have HPO:=hid (show Ye9 n g K q2 hs P ow true i (l) (g2) r2 (Zm9 (tkT R g) i l) (q2) w (.returned (.tuple #[.agg (rqA ((n:Int)) ((g2:Int)) (r2) (K) (.slice u2 lz t2) (P) (nn) (C) (.slice (some (aD g7 0)) (hs.length+1) cap7)),.agg #[iV (adr i:Int),iV l,.int .u64 (ow:Int),iV 0],iV 0])) wc from .inl ⟨rfl,_,rfl,u2,t2,P,nn,C,some (aD g7 0),hs.length+1,cap7,by rw[HLO.out,HLZ.out],by rw[HLO.out];exact hd9,HPF.out,hf9.be⟩);clear hf9 hd9;go_wp2_with fail;exact bodyPost_ret (v:=.tuple #[.agg (rqA ((n:Int)) ((g2:Int)) (r2) (K) (.slice u2 lz t2) (P) (nn) (C) (.slice (some (aD g7 0)) (hs.length+1) cap7)),.agg #[iV (adr i:Int),iV l,.int .u64 (ow:Int),iV 0],iV 0]) (by simp[results,Tryz.results71,go_sem,y0,y1,y2,y3,y4,y5,y6,y7,y8,y9,y10,y11,v0,v1,v2,v3]) rfl HPO.out
 · have e2:lsV (Zlq q) (l:Int)=.tuple #[iV 0,.bool false]:=hv
   rw[e2];have HAL:Hid (∀X,Zcg X u (tkT R g)->Calls Tryz.prog 57 #[bqV 1 (n:Int) (g:Int) r (.slice u ln tc),iV l] X fun e w'=>e=.returned (.tuple #[bqV 1 (n:Int) (g:Int) r1 (.slice u ln tc),iV 0,iV 4])/\Below X.heap.size X w'):=hid fun X hX=>by rw[<-HLN.out];exact Zpt 1 r hr n g hn hg u tc R HRT.out l hk X hX r1 4 hl1 hq1 (by decide)
   have HCN:=hid fun X=>Zdv P nn C (fun k=>by rw[HI.out.nq k];have:=HI.out.nl k;omega) X
   rw[Zpq HI.out.nq 5]at HCN;clear hv e2 hl1 hq1;go_wp2_with fail
   refine(HAL.out _ (HI.out.fb HF2.out).rn).mono ?_
   rintro e w2 ⟨rfl,hb⟩;have HF3:=hid ((HF2.out.below hb).new #[iV 1,iV n,iV g,iV r1,.slice u ln tc] 27);clear hb HF2 HAL c0 c1 c2 c3 c4 c5 c6 c7 c8 c9 c10 c11 z0 z1 z2 z3 z4 z5 z6 z7 z8 z9 z10 z11;go_upto_region 9 with fail;change Code.wp _ _ _ _ (w2.alloc (.cells #[iV 1,iV n,iV g,iV r1,.slice u ln tc] 27));obtain⟨x3,hx⟩:=eX (w2.alloc (.cells #[iV 1,iV n,iV g,iV r1,.slice u ln tc] 27));obtain⟨H,hH⟩:=eX w2.heap.size;rw[hx,hH]at HF3;rw[hx,hH];clear hx hH;obtain⟨c0,c1,c2,c3,c4,c5,c6,c7,c8,c9,c10,c11⟩:=Zaf HF3.out.at4;obtain⟨z0,z1,z2,z3,z4,z5,z6,z7,z8,z9,z10,z11⟩:=Zap HF3.out.at4;have b0:=HF3.out.cell0 0 rfl;have b1:=HF3.out.cell0 1 rfl;have b2:=HF3.out.cell0 2 rfl;have b3:=HF3.out.cell0 3 rfl;have b4:=HF3.out.cell0 4 rfl
   go_upto_region 10 with fail;change Code.wp _ _ _ _ (stR x3 D [iV 1,iV n,iV g,iV r1,.slice u ln tc] 0);have hf4:Fb w [⟨H,#[iV 1,iV n,iV g,iV r1,.slice u ln tc],27⟩,⟨G,#[iV 0,iV l,.int .u64 (ow:Int),iV 0],65⟩,⟨F,zCk,65⟩,⟨E,rqZ,33⟩,rqB D (n:Int) (g:Int) r1 K (.slice u ln tc) P nn C (.slice op on oc)] (stR x3 D [iV 1,iV n,iV g,iV r1,.slice u ln tc] 0):=HF3.out.Zge [iV 1,iV n,iV g,iV r1,.slice u ln tc] 0;obtain⟨x4,hx4⟩:=eX (stR x3 D [iV 1,iV n,iV g,iV r1,.slice u ln tc] 0);rw[hx4]at hf4⊢;have HF4:=hid hf4;clear hx4 hf4 HF3 c0 c1 c2 c3 c4 c5 c6 c7 c8 c9 c10 c11 z0 z1 z2 z3 z4 z5 z6 z7 z8 z9 z10 z11 b0 b1 b2 b3 b4;obtain⟨c0,c1,c2,c3,c4,c5,c6,c7,c8,c9,c10,c11⟩:=Zaf HF4.out.at4;go_wp2_with fail
   refine(HCN.out _).mono ?_
   rintro e w5 ⟨rfl,hb⟩;have HF5:=hid (HF4.out.below hb);clear hb HF4 HCN c0 c1 c2 c3 c4 c5 c6 c7 c8 c9 c10 c11;obtain⟨c0,c1,c2,c3,c4,c5,c6,c7,c8,c9,c10,c11⟩:=Zaf HF5.out.at4;have hc2:(0:Int)<((Zci q 5:Nat):Int):=by omega
   have hc3:decide (0<Zci q 5)=true:=decide_eq_true hc;have HTR:Hid (∀X,DIn u (tkT R g) P nn C q op on oc hs X->Calls Tryz.prog 69 #[rqV (n:Int) (g:Int) r1 K (.slice u ln tc) P nn C (.slice op on oc)] X (Yh1 (n:Int) (g:Int) r1 K (trK (tkT R g) q 5) nn (.slice op on oc) X)):=hid fun X hX=>by rw[<-HLN.out];exact Zjx (n:Int) (g:Int) r1 K u tc (tkT R g) hX.ln P nn C q op on oc hX.qa hX.nq hX.nl hX.pg hX.rn
   rw[ht]at HTR;have HD5:=hid (HI.out.fb HF5.out);go_wp2_with fail
   refine(HTR.out _ HD5.out).mono ?_
   rintro e w6 ⟨uT,tT,rfl,hrT,hb⟩;have HF6:=hid (HF5.out.below hb);have HRT6:=hid hrT;obtain⟨lt,hlt⟩:=eX ((tkT Rt g).length);have HLT:=hid hlt;rw[hlt];clear hb hrT hlt HF5 HTR HD5 c0 c1 c2 c3 c4 c5 c6 c7 c8 c9 c10 c11 hc2 hc3;obtain⟨c0,c1,c2,c3,c4,c5,c6,c7,c8,c9,c10,c11⟩:=Zaf HF6.out.at4;obtain⟨z0,z1,z2,z3,z4,z5,z6,z7,z8,z9,z10,z11⟩:=Zap HF6.out.at4;go_upto_region 12 with fail;change Code.wp _ _ _ _ (stR w6 D (rqL ((n:Int)) ((g:Int)) (r1) (K) (.slice uT lt tT) (q0P) (q0N) (q0N) (.slice op on oc)) 0);have hf7:=HF6.out.Ygq (rqL ((n:Int)) ((g:Int)) (r1) (K) (.slice uT lt tT) (q0P) (q0N) (q0N) (.slice op on oc)) rfl;have hr7:=HRT6.out.stR (Zga HRT6.out c2 (by intro b;simp)) (rqL ((n:Int)) ((g:Int)) (r1) (K) (.slice uT lt tT) (q0P) (q0N) (q0N) (.slice op on oc)) 0;obtain⟨x7,hx7⟩:=eX (stR w6 D (rqL ((n:Int)) ((g:Int)) (r1) (K) (.slice uT lt tT) (q0P) (q0N) (q0N) (.slice op on oc)) 0);rw[hx7]at hf7 hr7⊢;have HF7:Hid (Fb w [⟨H,#[iV 1,iV n,iV g,iV r1,.slice u ln tc],27⟩,⟨G,#[iV 0,iV l,.int .u64 (ow:Int),iV 0],65⟩,⟨F,zCk,65⟩,⟨E,rqZ,33⟩,rqB D ((n:Int)) ((g:Int)) (r1) (K) (.slice uT lt tT) (q0P) (q0N) (q0N) (.slice op on oc)] x7):=hid hf7;have HR7:=hid hr7;clear hx7 hf7 hr7 HF6 HRT6 c0 c1 c2 c3 c4 c5 c6 c7 c8 c9 c10 c11 z0 z1 z2 z3 z4 z5 z6 z7 z8 z9 z10 z11;obtain⟨c0,c1,c2,c3,c4,c5,c6,c7,c8,c9,c10,c11⟩:=Zaf HF7.out.at4;have HAL2:Hid (∀X,Zcg X uT (tkT Rt g)->Calls Tryz.prog 57 #[bqV 1 (n:Int) (g:Int) r1 (.slice uT lt tT),iV l] X (Yh2 1 n g2 r2 (tkT Rt g) i l X)):=hid fun X hX=>by rw[<-HLT.out];exact Zps 1 r1 hr1 n g hn hg uT tT Rt htl l hk X hX g2 i l0 r2 R1 hsc hg2
   have HOL:Hid ((Zm9 (tkT Rt g) i l).length<=2000):=hid (by
    have h1:=Ziy Rt g;have h2:=Zjk (tkT Rt g) i;have h3:=Zph (tkT Rt g) i
    unfold Zm9;simp only[List.length_append,List.length_cons,List.length_nil]
    omega)
   clear hsc;go_wp2_with fail
   refine(HAL2.out _ HR7.out).mono ?_
   rintro e w8 ⟨u2,t2,rfl,hr2,hb⟩;obtain⟨LO,hLO⟩:=eX (Zm9 (tkT Rt g) i l);rw[hLO]at hr2 HOL⊢;have HLO:=hid hLO;obtain⟨lo,hlo⟩:=eX LO.length;have HL2:=hid hlo;rw[hlo];have HF8:=hid (HF7.out.below hb);have HR8:=hid hr2;clear hr2 hb HF7 HR7 HAL2 c0 c1 c2 c3 c4 c5 c6 c7 c8 c9 c10 c11 hLO hlo;obtain⟨c0,c1,c2,c3,c4,c5,c6,c7,c8,c9,c10,c11⟩:=Zaf HF8.out.at4;obtain⟨z0,z1,z2,z3,z4,z5,z6,z7,z8,z9,z10,z11⟩:=Zap HF8.out.at4;have b0:=HF8.out.cell0 0 rfl;have b1:=HF8.out.cell0 1 rfl;have b2:=HF8.out.cell0 2 rfl;have b3:=HF8.out.cell0 3 rfl;have b4:=HF8.out.cell0 4 rfl
   have j0:=HF8.out.Za5 0;have j1:=HF8.out.Za5 1;have j2:=HF8.out.Za5 2;have j3:=HF8.out.Za5 3;have j4:=HF8.out.Za5 4
   have y0:=HF8.out.Zda 0;have v0:=HF8.out.Zak 0 rfl
   have hnd:=HF8.out.nd;simp only[List.pairwise_cons,List.mem_cons,forall_eq_or_imp,List.not_mem_nil,false_or,or_false,forall_eq]at hnd;obtain⟨⟨n2, -, -,n0⟩,⟨-, -,n1⟩, -⟩:=hnd;have m0:D≠H:=fun e=>n0 e.symm;have m1:D≠G:=fun e=>n1 e.symm;have m2:G≠H:=fun e=>n2 e.symm
   have hq1:IntKind.i64.wrap ((i:Int)+1)=(i:Int)+1:=by rw[IntKind.wrap_i64];omega
   have hq2:IntKind.i64.wrap (((i:Int)+1)*4096)=((adr i:Nat):Int):=by rw[IntKind.wrap_i64];unfold adr;omega
   go_upto_region 17 with fail;change Code.wp _ _ _ _ (stR (stR (stR w8 H [iV 1,iV n,iV g2,iV r2,.slice u2 lo t2] 0) D [iV 1,iV n,iV g2,iV r2,.slice u2 lo t2] 0) G [iV (adr i:Int)] 0);have hfa:=HF8.out.Zdz [iV 1,iV n,iV g2,iV r2,.slice u2 lo t2] 0;have hfb:=hfa.Zge [iV 1,iV n,iV g2,iV r2,.slice u2 lo t2] 0;have hf9:Fb w [⟨G,#[iV (adr i:Int),iV l,.int .u64 (ow:Int),iV 0],65⟩,⟨F,zCk,65⟩,⟨E,rqZ,33⟩,rqB D (n:Int) (g2:Int) r2 K (.slice u2 lo t2) q0P q0N q0N (.slice op on oc)] (stR (stR (stR w8 H [iV 1,iV n,iV g2,iV r2,.slice u2 lo t2] 0) D [iV 1,iV n,iV g2,iV r2,.slice u2 lo t2] 0) G [iV (adr i:Int)] 0):=(hfb.Zft [iV (adr i:Int)] 0).Zia;have hra:=HR8.out.stR (Zga HR8.out b2 (by intro b;simp)) [iV 1,iV n,iV g2,iV r2,.slice u2 lo t2] 0;have hrb:=hra.stR (Zga hra (hfa.Ygw 2 rfl) (by intro b;simp)) [iV 1,iV n,iV g2,iV r2,.slice u2 lo t2] 0;have hrc:=hrb.stR (Zga hrb (hfb.Zak 2 rfl) (by intro b;simp)) [iV (adr i:Int)] 0;obtain⟨x4,hx4⟩:=eX (stR (stR (stR w8 H [iV 1,iV n,iV g2,iV r2,.slice u2 lo t2] 0) D [iV 1,iV n,iV g2,iV r2,.slice u2 lo t2] 0) G [iV (adr i:Int)] 0);rw[hx4]at hf9 hrc⊢;rw[<-HL2.out]at hf9;have hdi:DIn u2 LO q0P q0N q0N (fun _=>[]) op on oc hs x4:=⟨hrc,HOL.out,fun k hk=> .inl rfl,fun k=>rfl,fun k=>Nat.zero_le _,fun k hk p hp=>(by cases hp),fun k _=>rfl,fun k=>Nat.le_refl _,(HI.out.fb hf9).ho,HI.out.hn,HI.out.hl⟩;have HS:Hid (Yjb n g2 r2 K LO (fun _=>[]) hs P (adr i:Int) (l:Int) (ow:Int) w D E F G u2 t2 q0P q0N q0N op on oc x4):=hid ⟨hf9,hdi,fun k hk c=> .inr fun g off e=>(by unfold q0P at e;cases e),fun Z hZ=>⟨fun k hk c=>absurd rfl c,(HAA.out Z hZ).o⟩⟩;clear hx4 hfa hfb hf9 hra hrb hrc hdi HF8 HR8 c0 c1 c2 c3 c4 c5 c6 c7 c8 c9 c10 c11 z0 z1 z2 z3 z4 z5 z6 z7 z8 z9 z10 z11 y0 v0 b0 b1 b2 b3 b4 j0 j1 j2 j3 j4 HI HAA HA n0 n1 n2 m0 m1 m2 hq1 hq2;obtain⟨i0,hi0,hz0,hz1,hz2⟩:=info_parts Tryz.Zq1;have HI0:=hid hi0;have HZ0:=hid hz0;have HZ1:=hid hz1;have HZ2:=hid hz2
   clear hi0 hz0 hz1 hz2;have c11:=(Zaf HS.out.fb.at3).2.2.2.2.2.2.2.2.2.2.2;go_upto_region 18 with fail
   go_cut[15] (fun s15 wx=>OwR x4.heap.size x4 hs s15 wx)
   case first=>
    rcases HS.out.di.ho with⟨h1,h2⟩|⟨b,cap,c,fr,h1,h2,h3⟩
    · rw[h1]at c11
      have hap:=fun ty=>Zma x4 ty
      go_wp2_with fail
      go_meet
      rw[h2]
      exact⟨World.ownsRow_nil _ _ _ _,Below.refl _ _,Nat.le_refl _⟩
    · rw[h1]at c11
      have hhs:=HHS.out;by_cases h0:hs=[]
      · have h4:hs.length=0:=by rw[h0];rfl
        rw[h4]at c11;have hap:=fun ty=>Zl9 b cap x4 ty
        go_wp2_with fail
        go_meet
        rw[h0]
        exact⟨World.ownsRow_nil _ _ _ _,Below.refl _ _,Nat.le_refl _⟩
      · have h4:¬hs.length=0:=fun e=>h0 (List.eq_nil_of_length_eq_zero e)
        have hvo:=World.ownsRow_nil x4 x4.heap.size 65 4;obtain⟨vn,hvn⟩:=eX (Value.slice none 0 0:Value);rw[hvn]at hvo⊢;clear hvn
        go_wp2_with (at_builtin;refine wpList_append_own _ rfl _ _ 31 rfl x4.heap.size 65 i0 (.agg #[iV 0,iV 0,.int .u64 0,iV 0]) 4 32 Tryz.underlying31 HI0.out HZ0.out HZ1.out HZ2.out rfl (by decide) vn 0 [] rfl hvo (aD b 0) hs.length _ (hsL hs) rfl (Zf6 hs) (Zwg h3) (Zjr hs) (by unfold maxLen;omega) (by omega) (Nat.le_refl _) ?_;intro v' w5 hown hgrow _)
        go_wp2_with fail
        go_meet
        have hb5:=Ze7 hvo hgrow (Nat.le_refl _) (Below.refl x4.heap.size x4)
        exact⟨by simpa using hown,hb5,hb5.size⟩
   case rest=>
    obtain⟨hown,hb,hsz⟩:=hcut;have hf6:=HS.out.fb.below hb;have hrow2:=hown.alloc (.cells #[iV (adr i:Int),iV l,.int .u64 (ow:Int),iV 0] 65);have hbb:=hb.alloc hsz (.cells #[iV (adr i:Int),iV l,.int .u64 (ow:Int),iV 0] 65);have HB7:Hid (∀W,Below x4.heap.size x4 W->Fb w [⟨G,#[iV (adr i:Int),iV l,.int .u64 (ow:Int),iV 0],65⟩,⟨F,zCk,65⟩,⟨E,rqZ,33⟩,rqB D ((n:Int)) ((g2:Int)) (r2) (K) (.slice u2 (LO).length t2) (q0P) (q0N) (q0N) (.slice op on oc)] W):=hid fun W hW=>HS.out.fb.below hW
    have HD7:=hid HS.out.di;have HSF:=hid (show G<x4.heap.size/\F<x4.heap.size/\E<x4.heap.size/\D<x4.heap.size from⟨(Array.getElem?_eq_some_iff.1 HS.out.fb.at0).1,(Array.getElem?_eq_some_iff.1 HS.out.fb.at1).1,(Array.getElem?_eq_some_iff.1 HS.out.fb.at2).1,(Array.getElem?_eq_some_iff.1 HS.out.fb.at3).1⟩);have v0:=hf6.cell0 0 rfl;have v1:=hf6.cell0 1 rfl;have v2:=hf6.cell0 2 rfl;have v3:=hf6.cell0 3 rfl
    have hhs:=HHS.out;clear c11 hf6
    go_upto_region 20 with(at_builtin;refine wpList_append_own _ rfl _ _ 31 rfl x4.heap.size 65 i0 (.agg #[iV 0,iV 0,.int .u64 0,iV 0]) 4 32 Tryz.underlying31 HI0.out HZ0.out HZ1.out HZ2.out rfl (by decide) _ _ _ rfl hrow2 ⟨_,0,none⟩ 1 1 (hdL ⟨(adr i:Int),(l:Int),(ow:Int),0⟩) rfl rfl (Zq6 ⟨(adr i:Int),(l:Int),(ow:Int),0⟩ _ (by simp)) (by simp[hdL,Value.oneCell']) (by unfold maxLen;omega) (by omega) hbb.size ?_;intro v7 w7 hown7 hgrow7 _;obtain⟨g7,cap7,rfl,hg7,hha7⟩:=Zo2 (hs:=hs++[⟨(adr i:Int),(l:Int),(ow:Int),0⟩]) (by rw[Zpe];simpa using hown7) (by simp);have hb7:=Ze7 hrow2 hgrow7 hbb.size hbb;have hf7:=HB7.out w7 hb7;have z11:=hf7.Ydz 11;have d11:=hf7.Zth 11 rfl;try simp only[List.length_append,List.length_cons,List.length_nil,Nat.zero_add]at hha7⊢)
    change Code.wp _ _ _ _ (stR w7 D [.slice (some (aD g7 0)) (hs.length+1) cap7] 11);have hf8:Fb w [⟨G,#[iV (adr i:Int),iV l,.int .u64 (ow:Int),iV 0],65⟩,⟨F,zCk,65⟩,⟨E,rqZ,33⟩,rqB D ((n:Int)) ((g2:Int)) (r2) (K) (.slice u2 (LO).length t2) (q0P) (q0N) (q0N) (.slice (some (aD g7 0)) (hs.length+1) cap7)] (stR w7 D [.slice (some (aD g7 0)) (hs.length+1) cap7] 11):=hf7.Zfs [.slice (some (aD g7 0)) (hs.length+1) cap7] 11;have HAZ:Hid (∀Z,Z=D\/Z=E\/Z=F\/Z=G->Awy (q0P) (fun _=>[]) (some (aD g7 0)) (hs++[⟨(adr i:Int),(l:Int),(ow:Int),0⟩]) Z):=hid fun Z hZ=>(HS.out.aw Z hZ).own (b0:=x4.heap.size) (by have:=HSF.out;rcases hZ with rfl|rfl|rfl|rfl<;>omega) hg7
    have hd8:DIn u2 (LO) (q0P) (q0N) (q0N) (fun _=>[]) (some (aD g7 0)) (hs.length+1) cap7 (hs++[⟨(adr i:Int),(l:Int),(ow:Int),0⟩]) w7:={HD7.out.below hb7 with ho:=hha7,hn:=by simp,hl:=by simp;omega};have hd9:=hd8.put (hf7.Zth 2 rfl) (by intro b;simp) (HAZ.out D (.inl rfl)) [.slice (some (aD g7 0)) (hs.length+1) cap7] 11;have HPF:=hid HS.out.pf;obtain⟨x8,hx8⟩:=eX (stR w7 D [.slice (some (aD g7 0)) (hs.length+1) cap7] 11);rw[hx8]at hf8 hd9⊢;have HF8:=hid hf8;have HD9:=hid hd9
    clear hx8 hf8 hd9 hd8 hf7 z11 d11 hha7 hg7 hb7 hown7 hgrow7 HB7 HD7 HSF HS hbb hrow2 hb hsz hown v0 v1 v2 v3;obtain⟨lz,hlz⟩:=eX ((LO).length);have HLZ:=hid hlz;rw[hlz]at HF8;clear hlz
    go_cut[8] (fun s8 wx=>s8=iV 0/\Fb w [⟨G,#[iV (adr i:Int),iV l,.int .u64 (ow:Int),iV 0],65⟩,⟨F,#[iV (adr i:Int),iV l,.int .u64 (ow:Int),iV 0],65⟩,⟨E,rqA ((n:Int)) ((g2:Int)) (r2) (K) (.slice u2 lz t2) (q0P) (q0N) (q0N) (.slice (some (aD g7 0)) (hs.length+1) cap7),33⟩,rqB D ((n:Int)) ((g2:Int)) (r2) (K) (.slice u2 lz t2) (q0P) (q0N) (q0N) (.slice (some (aD g7 0)) (hs.length+1) cap7)] wx/\DIn u2 (LO) (q0P) (q0N) (q0N) (fun _=>[]) (some (aD g7 0)) (hs.length+1) cap7 (hs++[⟨(adr i:Int),(l:Int),(ow:Int),0⟩]) wx)
    case first=>
     obtain⟨c0,c1,c2,c3,c4,c5,c6,c7,c8,c9,c10,c11⟩:=Zaf HF8.out.at3;obtain⟨z0,z1,z2,z3,z4,z5,z6,z7,z8,z9,z10,z11⟩:=Zap HF8.out.at2;obtain⟨o0,o1,o2,o3,o4,o5,o6,o7,o8,o9,o10,o11⟩:=Zbl HF8.out.at2;have v0:=HF8.out.cell0 0 rfl;have v1:=HF8.out.cell0 1 rfl;have v2:=HF8.out.cell0 2 rfl;have v3:=HF8.out.cell0 3 rfl
     have y0:=HF8.out.Zak 0 rfl;have y1:=HF8.out.Zak 1 rfl;have y2:=HF8.out.Zak 2 rfl;have y3:=HF8.out.Zak 3 rfl
     have j0:=HF8.out.Zda 0;have j1:=HF8.out.Zda 1;have j2:=HF8.out.Zda 2;have j3:=HF8.out.Zda 3
     have hnd:=HF8.out.nd;simp only[List.pairwise_cons,List.mem_cons,forall_eq_or_imp,List.not_mem_nil,false_or,or_false,forall_eq]at hnd;obtain⟨⟨n1,n2,n3⟩,⟨n4,n5⟩,n6, -⟩:=hnd;have m1:F≠G:=fun e=>n1 e.symm;have m2:E≠G:=fun e=>n2 e.symm;have m3:D≠G:=fun e=>n3 e.symm;have m4:E≠F:=fun e=>n4 e.symm;have m5:D≠F:=fun e=>n5 e.symm;have m6:D≠E:=fun e=>n6 e.symm
     go_region
     all_goals go_wp2_with fail
     have hEF:=(HF8.out.Zno (rqL ((n:Int)) ((g2:Int)) (r2) (K) (.slice u2 lz t2) (q0P) (q0N) (q0N) (.slice (some (aD g7 0)) (hs.length+1) cap7)) rfl).Zgk [iV (adr i:Int),iV l,.int .u64 (ow:Int),iV 0] rfl;have hDEF:=(HD9.out.put o2 (by intro b;simp) (HAZ.out E (.inr (.inl rfl))) (rqL ((n:Int)) ((g2:Int)) (r2) (K) (.slice u2 lz t2) (q0P) (q0N) (q0N) (.slice (some (aD g7 0)) (hs.length+1) cap7)) 0).put ((HF8.out.Zno (rqL ((n:Int)) ((g2:Int)) (r2) (K) (.slice u2 lz t2) (q0P) (q0N) (q0N) (.slice (some (aD g7 0)) (hs.length+1) cap7)) rfl).Zak 2 rfl) (by intro b;simp) (HAZ.out F (.inr (.inr (.inl rfl)))) [iV (adr i:Int),iV l,.int .u64 (ow:Int),iV 0] 0;change Met _ _ (stR (stR x8 E (rqL ((n:Int)) ((g2:Int)) (r2) (K) (.slice u2 lz t2) (q0P) (q0N) (q0N) (.slice (some (aD g7 0)) (hs.length+1) cap7)) 0) F [iV (adr i:Int),iV l,.int .u64 (ow:Int),iV 0] 0).drew;obtain⟨x9,hx9⟩:=eX (stR (stR x8 E (rqL ((n:Int)) ((g2:Int)) (r2) (K) (.slice u2 lz t2) (q0P) (q0N) (q0N) (.slice (some (aD g7 0)) (hs.length+1) cap7)) 0) F [iV (adr i:Int),iV l,.int .u64 (ow:Int),iV 0] 0);rw[hx9]at hEF hDEF⊢;clear hx9
     go_meet
     exact⟨rfl,hEF.below (Below.refl _ _).drew,hDEF.below (Below.refl _ _).drew⟩
    case rest=>
     obtain⟨rfl,hf9,hd9⟩:=hcut;obtain⟨y0,y1,y2,y3,y4,y5,y6,y7,y8,y9,y10,y11⟩:=Zaf hf9.at2;have v0:=hf9.Zak 0 rfl;have v1:=hf9.Zak 1 rfl;have v2:=hf9.Zak 2 rfl;have v3:=hf9.Zak 3 rfl
     have HPO:=hid (show Ye9 n g K q hs P ow true i (l) (g2) r2 (Zm9 (tkT Rt g) i l) (fun _=>[]) w (.returned (.tuple #[.agg (rqA ((n:Int)) ((g2:Int)) (r2) (K) (.slice u2 lz t2) (q0P) (q0N) (q0N) (.slice (some (aD g7 0)) (hs.length+1) cap7)),.agg #[iV (adr i:Int),iV l,.int .u64 (ow:Int),iV 0],iV 0])) wc from .inl ⟨rfl,_,rfl,u2,t2,q0P,q0N,q0N,some (aD g7 0),hs.length+1,cap7,by rw[HLO.out,HLZ.out],by rw[HLO.out];exact hd9,HPF.out,hf9.be⟩);clear hf9 hd9;go_wp2_with fail;exact bodyPost_ret (v:=.tuple #[.agg (rqA ((n:Int)) ((g2:Int)) (r2) (K) (.slice u2 lz t2) (q0P) (q0N) (q0N) (.slice (some (aD g7 0)) (hs.length+1) cap7)),.agg #[iV (adr i:Int),iV l,.int .u64 (ow:Int),iV 0],iV 0]) (by simp[results,Tryz.results71,go_sem,y0,y1,y2,y3,y4,y5,y6,y7,y8,y9,y10,y11,v0,v1,v2,v3]) rfl HPO.out
 · have e2:lsV (Zlq q) (k:Int)=.tuple #[iV 0,.bool false]:=hv
   rw[e2];have HAL:Hid (∀X,Zcg X u (tkT R g)->Calls Tryz.prog 57 #[bqV 1 (n:Int) (g:Int) r (.slice u ln tc),iV k] X fun e w'=>e=.returned (.tuple #[bqV 1 (n:Int) (g:Int) r1 (.slice u ln tc),iV 0,iV 4])/\Below X.heap.size X w'):=hid fun X hX=>by rw[<-HLN.out];exact Zpt 1 r hr n g hn hg u tc R HRT.out k hk X hX r1 4 hl1 hq1 (by decide)
   have HCN:=hid fun X=>Zdv P nn C (fun k=>by rw[HI.out.nq k];have:=HI.out.nl k;omega) X
   rw[Zpq HI.out.nq 5]at HCN;clear hv e2 hl1 hq1;go_wp2_with fail
   refine(HAL.out _ (HI.out.fb HF2.out).rn).mono ?_
   rintro e w2 ⟨rfl,hb⟩;have HF3:=hid ((HF2.out.below hb).new #[iV 1,iV n,iV g,iV r1,.slice u ln tc] 27);clear hb HF2 HAL c0 c1 c2 c3 c4 c5 c6 c7 c8 c9 c10 c11 z0 z1 z2 z3 z4 z5 z6 z7 z8 z9 z10 z11;go_upto_region 9 with fail;change Code.wp _ _ _ _ (w2.alloc (.cells #[iV 1,iV n,iV g,iV r1,.slice u ln tc] 27));obtain⟨x3,hx⟩:=eX (w2.alloc (.cells #[iV 1,iV n,iV g,iV r1,.slice u ln tc] 27));obtain⟨H,hH⟩:=eX w2.heap.size;rw[hx,hH]at HF3;rw[hx,hH];clear hx hH;obtain⟨c0,c1,c2,c3,c4,c5,c6,c7,c8,c9,c10,c11⟩:=Zaf HF3.out.at4;obtain⟨z0,z1,z2,z3,z4,z5,z6,z7,z8,z9,z10,z11⟩:=Zap HF3.out.at4;have b0:=HF3.out.cell0 0 rfl;have b1:=HF3.out.cell0 1 rfl;have b2:=HF3.out.cell0 2 rfl;have b3:=HF3.out.cell0 3 rfl;have b4:=HF3.out.cell0 4 rfl
   go_upto_region 10 with fail;change Code.wp _ _ _ _ (stR x3 D [iV 1,iV n,iV g,iV r1,.slice u ln tc] 0);have hf4:Fb w [⟨H,#[iV 1,iV n,iV g,iV r1,.slice u ln tc],27⟩,⟨G,#[iV 0,iV k,.int .u64 (ow:Int),iV 0],65⟩,⟨F,zCk,65⟩,⟨E,rqZ,33⟩,rqB D (n:Int) (g:Int) r1 K (.slice u ln tc) P nn C (.slice op on oc)] (stR x3 D [iV 1,iV n,iV g,iV r1,.slice u ln tc] 0):=HF3.out.Zge [iV 1,iV n,iV g,iV r1,.slice u ln tc] 0;obtain⟨x4,hx4⟩:=eX (stR x3 D [iV 1,iV n,iV g,iV r1,.slice u ln tc] 0);rw[hx4]at hf4⊢;have HF4:=hid hf4;clear hx4 hf4 HF3 c0 c1 c2 c3 c4 c5 c6 c7 c8 c9 c10 c11 z0 z1 z2 z3 z4 z5 z6 z7 z8 z9 z10 z11 b0 b1 b2 b3 b4;obtain⟨c0,c1,c2,c3,c4,c5,c6,c7,c8,c9,c10,c11⟩:=Zaf HF4.out.at4;go_wp2_with fail
   refine(HCN.out _).mono ?_
   rintro e w5 ⟨rfl,hb⟩;have HF5:=hid (HF4.out.below hb);clear hb HF4 HCN c0 c1 c2 c3 c4 c5 c6 c7 c8 c9 c10 c11;obtain⟨c0,c1,c2,c3,c4,c5,c6,c7,c8,c9,c10,c11⟩:=Zaf HF5.out.at4;rcases hno with⟨hc,er,eL,eq⟩|⟨hc,Rt,ht,htl,hl2,hq2,eL,eq⟩
   · have hc2:¬(0:Int)<((Zci q 5:Nat):Int):=by omega
     have hc3:decide (0<Zci q 5)=false:=decide_eq_false (by omega);have hc4:¬0<Zci q 5:=by omega
     obtain⟨z0,z1,z2,z3,z4,z5,z6,z7,z8,z9,z10,z11⟩:=Zap HF5.out.at3;obtain⟨o0,o1,o2,o3,o4,o5,o6,o7,o8,o9,o10,o11⟩:=Zbl HF5.out.at3;have y0:=HF5.out.Zce 0 rfl;have y1:=HF5.out.Zce 1 rfl;have y2:=HF5.out.Zce 2 rfl;have y3:=HF5.out.Zce 3 rfl
     have j0:=HF5.out.Zl1 0;have j1:=HF5.out.Zl1 1;have j2:=HF5.out.Zl1 2;have j3:=HF5.out.Zl1 3
     have hnd:=HF5.out.nd;simp only[List.pairwise_cons,List.mem_cons,forall_eq_or_imp,List.not_mem_nil,false_or,or_false,forall_eq]at hnd;obtain⟨-, -,⟨n4,n5⟩,n6, -⟩:=hnd;have m4:E≠F:=fun e=>n4 e.symm;have m5:D≠F:=fun e=>n5 e.symm;have m6:D≠E:=fun e=>n6 e.symm
     have hfe:=HF5.out.Zs2 (rqL ((n:Int)) ((g:Int)) (r1) (K) (.slice u ln tc) (P) (nn) (C) (.slice op on oc)) rfl;have hff:=hfe.Zno [iV 0,iV 0,.int .u64 0,iV 0] rfl;clear HAA HA HH;have HPO:=hid (show Ye9 n g K q hs P ow false i l g2 r2 L2 q2 w (.returned (.tuple #[.agg (rqA ((n:Int)) ((g:Int)) (r1) (K) (.slice u ln tc) (P) (nn) (C) (.slice op on oc)),.agg zCk,iV 4])) (stR (stR w5 E (rqL ((n:Int)) ((g:Int)) (r1) (K) (.slice u ln tc) (P) (nn) (C) (.slice op on oc)) 0) F [iV 0,iV 0,.int .u64 0,iV 0] 0)from .inr ⟨rfl,_,rfl,u,tc,P,nn,C,op,on,oc,by rw[er,eL,HLN.out],by rw[eL,eq];exact(HI.out.fb hff),fun k hk c=> .inl rfl,hff.be⟩);have q0:=(Zaf hff.at3);have q1:=hff.Zce 0 rfl;have q2':=hff.Zce 1 rfl;have q3:=hff.Zce 2 rfl;have q4:=hff.Zce 3 rfl
     have HQ0:=hid q0;have HQ1:=hid q1;have HQ2:=hid q2';have HQ3:=hid q3;have HQ4:=hid q4
     clear hfe hff q0 q1 q2' q3 q4;go_wp2_with fail;change bodyPost _ _ _ _ _ (stR (stR w5 E (rqL ((n:Int)) ((g:Int)) (r1) (K) (.slice u ln tc) (P) (nn) (C) (.slice op on oc)) 0) F [iV 0,iV 0,.int .u64 0,iV 0] 0);obtain⟨z,hz⟩:=eX (stR (stR w5 E (rqL ((n:Int)) ((g:Int)) (r1) (K) (.slice u ln tc) (P) (nn) (C) (.slice op on oc)) 0) F [iV 0,iV 0,.int .u64 0,iV 0] 0);rw[hz]at HPO HQ0 HQ1 HQ2 HQ3 HQ4⊢;obtain⟨q0,q1,q2',q3,q4,q5,q6,q7,q8,q9,q10,q11⟩:=HQ0.out;have p0:=HQ1.out;have p1:=HQ2.out;have p2:=HQ3.out;have p3:=HQ4.out
     exact bodyPost_ret (v:=.tuple #[.agg (rqA ((n:Int)) ((g:Int)) (r1) (K) (.slice u ln tc) (P) (nn) (C) (.slice op on oc)),.agg zCk,iV 4]) (by simp[results,Tryz.results71,go_sem,q0,q1,q2',q3,q4,q5,q6,q7,q8,q9,q10,q11,p0,p1,p2,p3]) rfl HPO.out
   · have hno:=hc
     have hc2:(0:Int)<((Zci q 5:Nat):Int):=by omega
     have hc3:decide (0<Zci q 5)=true:=decide_eq_true hc;have HTR:Hid (∀X,DIn u (tkT R g) P nn C q op on oc hs X->Calls Tryz.prog 69 #[rqV (n:Int) (g:Int) r1 K (.slice u ln tc) P nn C (.slice op on oc)] X (Yh1 (n:Int) (g:Int) r1 K (trK (tkT R g) q 5) nn (.slice op on oc) X)):=hid fun X hX=>by rw[<-HLN.out];exact Zjx (n:Int) (g:Int) r1 K u tc (tkT R g) hX.ln P nn C q op on oc hX.qa hX.nq hX.nl hX.pg hX.rn
     rw[ht]at HTR;have HD5:=hid (HI.out.fb HF5.out);go_wp2_with fail
     refine(HTR.out _ HD5.out).mono ?_
     rintro e w6 ⟨uT,tT,rfl,hrT,hb⟩;have HF6:=hid (HF5.out.below hb);have HRT6:=hid hrT;obtain⟨lt,hlt⟩:=eX ((tkT Rt g).length);have HLT:=hid hlt;rw[hlt];clear hb hrT hlt HF5 HTR HD5 c0 c1 c2 c3 c4 c5 c6 c7 c8 c9 c10 c11 hc2 hc3;obtain⟨c0,c1,c2,c3,c4,c5,c6,c7,c8,c9,c10,c11⟩:=Zaf HF6.out.at4;obtain⟨z0,z1,z2,z3,z4,z5,z6,z7,z8,z9,z10,z11⟩:=Zap HF6.out.at4;go_upto_region 12 with fail;change Code.wp _ _ _ _ (stR w6 D (rqL ((n:Int)) ((g:Int)) (r1) (K) (.slice uT lt tT) (q0P) (q0N) (q0N) (.slice op on oc)) 0);have hf7:=HF6.out.Ygq (rqL ((n:Int)) ((g:Int)) (r1) (K) (.slice uT lt tT) (q0P) (q0N) (q0N) (.slice op on oc)) rfl;have hr7:=HRT6.out.stR (Zga HRT6.out c2 (by intro b;simp)) (rqL ((n:Int)) ((g:Int)) (r1) (K) (.slice uT lt tT) (q0P) (q0N) (q0N) (.slice op on oc)) 0;obtain⟨x7,hx7⟩:=eX (stR w6 D (rqL ((n:Int)) ((g:Int)) (r1) (K) (.slice uT lt tT) (q0P) (q0N) (q0N) (.slice op on oc)) 0);rw[hx7]at hf7 hr7⊢;have HF7:Hid (Fb w [⟨H,#[iV 1,iV n,iV g,iV r1,.slice u ln tc],27⟩,⟨G,#[iV 0,iV k,.int .u64 (ow:Int),iV 0],65⟩,⟨F,zCk,65⟩,⟨E,rqZ,33⟩,rqB D ((n:Int)) ((g:Int)) (r1) (K) (.slice uT lt tT) (q0P) (q0N) (q0N) (.slice op on oc)] x7):=hid hf7;have HR7:=hid hr7;clear hx7 hf7 hr7 HF6 HRT6 c0 c1 c2 c3 c4 c5 c6 c7 c8 c9 c10 c11 z0 z1 z2 z3 z4 z5 z6 z7 z8 z9 z10 z11;obtain⟨c0,c1,c2,c3,c4,c5,c6,c7,c8,c9,c10,c11⟩:=Zaf HF7.out.at4;have HAL2:Hid (∀X,Zcg X uT (tkT Rt g)->Calls Tryz.prog 57 #[bqV 1 (n:Int) (g:Int) r1 (.slice uT lt tT),iV k] X fun e w'=>e=.returned (.tuple #[bqV 1 (n:Int) (g:Int) r2 (.slice uT lt tT),iV 0,iV 4])/\Below X.heap.size X w'):=hid fun X hX=>by rw[<-HLT.out];exact Zpt 1 r1 hr1 n g hn hg uT tT Rt htl k hk X hX r2 4 hl2 hq2 (by decide)
     clear hl2 hq2;go_wp2_with fail
     refine(HAL2.out _ HR7.out).mono ?_
     rintro e w8 ⟨rfl,hb⟩;have HF8:=hid (HF7.out.below hb);have HR8:=hid (HR7.out.below hb);clear hb HF7 HR7 HAL2 c0 c1 c2 c3 c4 c5 c6 c7 c8 c9 c10 c11;obtain⟨c0,c1,c2,c3,c4,c5,c6,c7,c8,c9,c10,c11⟩:=Zaf HF8.out.at4;obtain⟨z0,z1,z2,z3,z4,z5,z6,z7,z8,z9,z10,z11⟩:=Zap HF8.out.at4;have b0:=HF8.out.cell0 0 rfl;have b1:=HF8.out.cell0 1 rfl;have b2:=HF8.out.cell0 2 rfl;have b3:=HF8.out.cell0 3 rfl;have b4:=HF8.out.cell0 4 rfl
     have j0:=HF8.out.Za5 0;have j1:=HF8.out.Za5 1;have j2:=HF8.out.Za5 2;have j3:=HF8.out.Za5 3;have j4:=HF8.out.Za5 4
     have hnd:=HF8.out.nd;simp only[List.pairwise_cons,List.mem_cons,forall_eq_or_imp,List.not_mem_nil,false_or,or_false,forall_eq]at hnd;obtain⟨⟨-, -, -,n0⟩, -⟩:=hnd;have m0:D≠H:=fun e=>n0 e.symm
     go_upto_region 14 with fail;change Code.wp _ _ _ _ (stR (stR w8 H [iV 1,iV n,iV g,iV r2,.slice uT lt tT] 0) D [iV 1,iV n,iV g,iV r2,.slice uT lt tT] 0);have hfa:=HF8.out.Zdz [iV 1,iV n,iV g,iV r2,.slice uT lt tT] 0;have hf9:Fb w [⟨H,#[iV 1,iV n,iV g,iV r2,.slice uT lt tT],27⟩,⟨G,#[iV 0,iV k,.int .u64 (ow:Int),iV 0],65⟩,⟨F,zCk,65⟩,⟨E,rqZ,33⟩,rqB D ((n:Int)) ((g:Int)) (r2) (K) (.slice uT lt tT) (q0P) (q0N) (q0N) (.slice op on oc)] (stR (stR w8 H [iV 1,iV n,iV g,iV r2,.slice uT lt tT] 0) D [iV 1,iV n,iV g,iV r2,.slice uT lt tT] 0):=hfa.Zge [iV 1,iV n,iV g,iV r2,.slice uT lt tT] 0;have hra:=HR8.out.stR (Zga HR8.out b2 (by intro b;simp)) [iV 1,iV n,iV g,iV r2,.slice uT lt tT] 0;have hrb:=hra.stR (Zga hra (hfa.Ygw 2 rfl) (by intro b;simp)) [iV 1,iV n,iV g,iV r2,.slice uT lt tT] 0;obtain⟨x9,hx9⟩:=eX (stR (stR w8 H [iV 1,iV n,iV g,iV r2,.slice uT lt tT] 0) D [iV 1,iV n,iV g,iV r2,.slice uT lt tT] 0);rw[hx9]at hf9 hrb⊢;have HF9:=hid hf9;have HR9:=hid hrb
     clear hx9 hfa hf9 hra hrb HF8 HR8 c0 c1 c2 c3 c4 c5 c6 c7 c8 c9 c10 c11 z0 z1 z2 z3 z4 z5 z6 z7 z8 z9 z10 z11 b0 b1 b2 b3 b4 j0 j1 j2 j3 j4 n0 m0;obtain⟨c0,c1,c2,c3,c4,c5,c6,c7,c8,c9,c10,c11⟩:=Zaf HF9.out.at4;obtain⟨z0,z1,z2,z3,z4,z5,z6,z7,z8,z9,z10,z11⟩:=Zap HF9.out.at3;obtain⟨o0,o1,o2,o3,o4,o5,o6,o7,o8,o9,o10,o11⟩:=Zbl HF9.out.at3;have y0:=HF9.out.Zce 0 rfl;have y1:=HF9.out.Zce 1 rfl;have y2:=HF9.out.Zce 2 rfl;have y3:=HF9.out.Zce 3 rfl
     have j0:=HF9.out.Zl1 0;have j1:=HF9.out.Zl1 1;have j2:=HF9.out.Zl1 2;have j3:=HF9.out.Zl1 3
     have hnd:=HF9.out.nd;simp only[List.pairwise_cons,List.mem_cons,forall_eq_or_imp,List.not_mem_nil,false_or,or_false,forall_eq]at hnd;obtain⟨-, -,⟨n4,n5⟩,n6, -⟩:=hnd;have m4:E≠F:=fun e=>n4 e.symm;have m5:D≠F:=fun e=>n5 e.symm;have m6:D≠E:=fun e=>n6 e.symm
     have hfe:=HF9.out.Zs2 (rqL ((n:Int)) ((g:Int)) (r2) (K) (.slice uT lt tT) (q0P) (q0N) (q0N) (.slice op on oc)) rfl;have hff:=hfe.Zno [iV 0,iV 0,.int .u64 0,iV 0] rfl;have hre:=HR9.out.stR (Zga HR9.out o2 (by intro b;simp)) (rqL ((n:Int)) ((g:Int)) (r2) (K) (.slice uT lt tT) (q0P) (q0N) (q0N) (.slice op on oc)) 0;have hdi:DIn uT (tkT Rt g) q0P q0N q0N (fun _=>[]) op on oc hs _:=⟨hre.stR (Zga hre (hfe.Zce 2 rfl) (by intro b;simp)) [iV 0,iV 0,.int .u64 0,iV 0] 0,by have:=Ziy Rt g;omega,fun k hk=> .inl rfl,fun k=>rfl,fun k=>Nat.zero_le _,fun k hk p hp=>(by cases hp),fun k _=>rfl,fun k=>Nat.le_refl _,(HI.out.fb hff).ho,HI.out.hn,HI.out.hl⟩;clear HAA HA HH hre;have HPO:=hid (show Ye9 n g K q hs P ow false i l g2 r2 L2 q2 w (.returned (.tuple #[.agg (rqA ((n:Int)) ((g:Int)) (r2) (K) (.slice uT lt tT) (q0P) (q0N) (q0N) (.slice op on oc)),.agg zCk,iV 4])) (stR (stR x9 E (rqL ((n:Int)) ((g:Int)) (r2) (K) (.slice uT lt tT) (q0P) (q0N) (q0N) (.slice op on oc)) 0) F [iV 0,iV 0,.int .u64 0,iV 0] 0)from .inr ⟨rfl,_,rfl,uT,tT,q0P,q0N,q0N,op,on,oc,by rw[eL,HLT.out],by rw[eL,eq];exact hdi,fun k hk c=> .inr fun g off e=>(by unfold q0P at e;cases e),hff.be⟩);have q0:=(Zaf hff.at3);have q1:=hff.Zce 0 rfl;have q2':=hff.Zce 1 rfl;have q3:=hff.Zce 2 rfl;have q4:=hff.Zce 3 rfl
     have HQ0:=hid q0;have HQ1:=hid q1;have HQ2:=hid q2';have HQ3:=hid q3;have HQ4:=hid q4
     clear hfe hff q0 q1 q2' q3 q4;go_wp2_with fail;change bodyPost _ _ _ _ _ (stR (stR x9 E (rqL ((n:Int)) ((g:Int)) (r2) (K) (.slice uT lt tT) (q0P) (q0N) (q0N) (.slice op on oc)) 0) F [iV 0,iV 0,.int .u64 0,iV 0] 0);obtain⟨z,hz⟩:=eX (stR (stR x9 E (rqL ((n:Int)) ((g:Int)) (r2) (K) (.slice uT lt tT) (q0P) (q0N) (q0N) (.slice op on oc)) 0) F [iV 0,iV 0,.int .u64 0,iV 0] 0);rw[hz]at HPO HQ0 HQ1 HQ2 HQ3 HQ4⊢;obtain⟨q0,q1,q2',q3,q4,q5,q6,q7,q8,q9,q10,q11⟩:=HQ0.out;have p0:=HQ1.out;have p1:=HQ2.out;have p2:=HQ3.out;have p3:=HQ4.out
     exact bodyPost_ret (v:=.tuple #[.agg (rqA ((n:Int)) ((g:Int)) (r2) (K) (.slice uT lt tT) (q0P) (q0N) (q0N) (.slice op on oc)),.agg zCk,iV 4]) (by simp[results,Tryz.results71,go_sem,q0,q1,q2',q3,q4,q5,q6,q7,q8,q9,q10,q11,p0,p1,p2,p3]) rfl HPO.out
end
end
end Go.Proofs.YtgcidfenjlmljaaGreat.Bt
