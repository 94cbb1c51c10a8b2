import Derived.Test.YtgcidfenjlmljaaGreatPg28
import Derived.Test.YtgcidfenjlmljaaGreatPg29
import Derived.Test.YtgcidfenjlmljaaGreatPg30
import Derived.Test.YtgcidfenjlmljaaGreatPgR
set_option linter.unusedVariables false
set_option linter.unusedSimpArgs false
set_option maxRecDepth 100000
set_option maxHeartbeats 16000000
namespace Go.Proofs.YtgcidfenjlmljaaGreat.Bt
section
open Go Go.RowKit Go.Shelf
abbrev rcP (Q:Nat):Value:=pT Q
def Yhd (Q B A va:Nat) (w:World):Prop:=w.heap[Q]?=some (.cells #[Zcv B,pT A,iV va,iV ((64:Nat):Int)] 42 (0,0))
def RcV (Q B A n va:Nat) (s:ASt) (w:World):Prop:=BV B A n s w/\Yhd Q B A va w
section
variable {Q B A n va:Nat} {s s':ASt} {x y w:World}
theorem RcV.below (h:RcV Q B A n va s x) (hb:Below x.heap.size x y):RcV Q B A n va s y:=
 ⟨h.1.below hb,(hb.block _ (Array.getElem?_eq_some_iff.1 h.2).1).trans h.2⟩
theorem RcV.to (h:RcV Q B A n va s x) (hV:BV B A n s' y) (hg:Zam A x y):RcV Q B A n va s' y:=
 ⟨hV,hg.Zdn h.1.1 h.2 (by decide) (by decide) (by decide)⟩
theorem RcV.Zaq (h:RcV Q B A n va s x) (ho:On A s' y) (hg:Zam A x y) (hL:s'.L=s.L):RcV Q B A n va s' y:=h.to (h.1.Zaq ho hg hL) hg
theorem RcV.all (h:RcV Q B A n va s x):
 (x.cell? (aD Q 0)=some (Zcv B)/\x.cell? (aD Q 1)=some (pT A)/\x.cell? (aD Q 2)=some (iV va)/\x.cell? (aD Q 3)=some (iV ((64:Nat):Int))/\x.cell? (aD B 0)=some (pT A))/\RcV Q B A n va s x:=by
 refine⟨⟨?_,?_,?_,?_,h.1.all.1⟩,h⟩<;>(rw[(Zaa h.2 _).1];rfl)
theorem RcV.stR {w0:World} {L1 L2:List Blk} {R:Nat} {c:Array Value} {t:TypeId} (h:RcV Q B A n va s x) (hf:Fr A w0 (L1++⟨R,c,t⟩::L2) x) (vs:List Value) (k:Nat):RcV Q B A n va s (Bt.stR x R vs k):=by
 obtain⟨h1, -, -,h4⟩:=hf.bs ⟨R,c,t⟩ (by simp)
 have nb:B≠R:=fun e=>by
  have h3:=h.1.2.2;unfold Zj8 at h3;rw[e,h1]at h3;simp only[Option.some.injEq,Obj.cells.injEq]at h3;exact h4.2.1 h3.2.1
 have nq:Q≠R:=fun e=>by
  have h3:=h.2;unfold Yhd at h3;rw[e,h1]at h3;simp only[Option.some.injEq,Obj.cells.injEq]at h3;exact h4.2.2 h3.2.1
 exact⟨⟨(Fr.Zc0 vs k x c hf h.1.1).2,h.1.2.1,(Zcn nb vs k x).trans h.1.2.2⟩,(Zcn nq vs k x).trans h.2⟩
theorem Zfu {b0:Nat} {w x:World} {R:Nat} (h:Below b0 w x) (hR:b0<=R):∀(vs:List Value) (k:Nat),Below b0 w (Bt.stR x R vs k)
 |[],_=>h
 |v::vs,k=>Zfu (h.setCell (p:=(aD R k)) hR v) hR vs (k+1)
theorem Zvc (h:RcV Q B A n va s w):Calls Tryz.prog 31 #[rcP Q] w (Zan (vwV A va 64) w):=by
 have HO:=hid fun X=>Yb9 (some (aD A 0)) va 64 X
 have HV:=hid (h.below (Zaj w (.cells #[.pointer none,iV 0,iV 0] 76)));have HF:=hid ((Fr.start A w).new h.1.1 #[.pointer none,iV 0,iV 0] 76 (by unfold Zc7;decide));have HB:=hid (Zaj w (.cells #[.pointer none,iV 0,iV 0] 76));clear h;go_enter Tryz.func31,Tryz.ntmps31;go_upto_region 1 with fail;change Code.wp _ _ _ _ (w.alloc (.cells #[.pointer none,iV 0,iV 0] 76));obtain⟨x,hx⟩:=eX (w.alloc (.cells #[.pointer none,iV 0,iV 0] 76));obtain⟨R,hR⟩:=eX w.heap.size;have HR:=hid (show w.heap.size<=R by omega);rw[hx]at HV HF HB;rw[hR]at HF;rw[hx,hR];clear hx hR;obtain⟨⟨c0,c1,c2,c3,c4⟩, -⟩:=HV.out.all;go_wp2_with fail
 refine(HO.out _).mono ?_
 rintro e w2 ⟨rfl,hb⟩;have HF2:=hid (HF.out.below HV.out.1.1 hb);have HB2:=hid (HB.out.trans (hb.mono HB.out.size));have hb2:=hid hb;clear hb c0 c1 c2 c3 c4;have r0:=HF2.out.cell0 0 rfl;have r1:=HF2.out.cell0 1 rfl;have r2:=HF2.out.cell0 2 rfl
 have f0:=HF2.out.Za5 0;have f1:=HF2.out.Za5 1;have f2:=HF2.out.Za5 2
 go_wp2_with fail;change bodyPost _ _ _ _ _ (Bt.stR w2 R [pT A,iV va,iV ((64:Nat):Int)] 0);have hz:Fr A w [⟨R,#[pT A,iV va,iV ((64:Nat):Int)],76⟩] (Bt.stR w2 R [pT A,iV va,iV ((64:Nat):Int)] 0):=HF2.out.Zdz (HV.out.below hb2.out).1.1 [pT A,iV va,iV ((64:Nat):Int)] 0;have HZB:=hid (Zfu HB2.out HR.out [pT A,iV va,iV ((64:Nat):Int)] 0);obtain⟨z,hzz⟩:=eX (Bt.stR w2 R [pT A,iV va,iV ((64:Nat):Int)] 0);rw[hzz]at hz HZB⊢;have g0:=hz.cell0 0 rfl;have g1:=hz.cell0 1 rfl;have g2:=hz.cell0 2 rfl
 exact bodyPost_ret (v:=vwV A va 64) (by simp[results,Tryz.results31,go_sem,g0,g1,g2]) rfl ⟨rfl,HZB.out⟩
theorem Yb5 {L:Nat} {es:List Nat} {m:Nat->UInt8} {va:Nat} {q:Nat->List Nat} (b:Bn L es m va q):∀k,k<=5->Zfz (hdC m va) k=Zci q k
 |0,_=>rfl
 |k+1,h=>by unfold Zfz Zci;rw[Yb5 b k (by omega),b.many k (by omega)]
section
variable {g K:Nat} {R:Zag} {q:Nat->List Nat}
theorem Rcy.Ybh (h:Rcy n g R va q K s):va+64<=4294967296:=by
 obtain⟨x,k,e,h1,h2,_⟩:=h.vw;have a:=h.bu.addr e
 have:=h.bu.c2
 unfold adr at h1 h2;omega
theorem Ybn (h:On A s w) (hR:Rcy n g R va q K s):Calls Tryz.prog 32 #[vwV A va 64] w (Zan (iV ((Zci q 5:Nat):Int)) w):=by
 have hv:=hR.Ybh;rw[<-Yb5 hR.bn 5 (Nat.le_refl _)];exact Ztl (some (aD A 0)) va 64 (fun k=>4096*hdP s.mm va k) (hdC s.mm va) (fun k=>(Zsx s.mm va k).2) fun X k hb hk=>Zf8 (h.below hb) va 64 k (by omega) (by omega) (by omega) hk hR.bn.view
theorem Yfq (h:On A s w) (hR:Rcy n g R va q K s) (o:Int):Calls Tryz.prog 157 #[vwV A va 64,iV o] w (Zan (lsV (fun k=>(q k).length) o) w):=by
 have hv:=hR.Ybh;have e:lsV (fun k=>(q k).length) o=lsV (hdC s.mm va) o:=Zni (fun k hk=>(hR.bn.many k hk).symm) o;rw[e];exact Ztj (some (aD A 0)) va 64 (fun k=>4096*hdP s.mm va k) (hdC s.mm va) o fun X k hb hk=>Zf8 (h.below hb) va 64 k (by omega) (by omega) (by omega) hk hR.bn.view
theorem Yc1 (h:On A s w) (hR:Rcy n g R va q K s) {k:Nat} (hk:k<5) (e:q k=[]):Calls Tryz.prog 83 #[vwV A va 64,iV k] w (Zan (.tuple #[.agg #[iV 0,iV 0,.int .u64 0,iV 0],.bool false]) w):=by
 have hv:=hR.Ybh;exact Zti h va 64 k (by omega) (by omega) (by omega) hk hR.bn.view (by rw[hR.bn.many k hk,e];rfl)
theorem Zqc (h:On A s w) (hR:Rcy n g R va q K s) {k p:Nat} {l:List Nat} (hk:k<5) (e:q k=p::l):
 Calls Tryz.prog 83 #[vwV A va 64,iV k] w (Ret A {s with mm:=Zhg s.mm va k p} (.tuple #[cV ((4096*p:Nat):Int) (k:Int) 0 0,.bool true]) w):=by
 have hv:=hR.Ybh;have hp:=hR.Yhx ⟨k,hk,show p∈q k by rw[e];exact List.mem_cons_self ..⟩
 have:=hR.bu.gG;have:=hR.bu.c2
 exact Zxs h va 64 p k (by omega) (by omega) (by omega) hk hR.bn.view (hR.bn.at_ k hk p (by rw[e];exact List.mem_cons_self ..)) (by rw[hR.bn.many k hk,e];simp) (hR.bn.top k hk p l e) (by omega)
theorem Ybm (h:RcV Q B A n va s w) (hR:Rcy n g R va q K s):Calls Tryz.prog 29 #[rcP Q] w (Zan (iV K) w):=by
 have hv:=hR.Ybh;have HL:=hid fun X (hX:On A s X)=>Zfw hX va 64 (by omega) (by omega) 40 8 (by omega)
 have ha:Zai va 64 40 8=((va+40:Nat):Int):=Zd5 (va:=va) (a:=40) (n:=8) (vs:=64) (by omega)
 have he:Zb9 s.L s.es ((va+40:Nat):Int) 8=0:=by
  unfold Zb9;rw[show Za6 8=true from rfl,if_pos rfl]
  exact Zbn h.1.1.Zch hR.th (by omega) (by omega) (by omega)
 have hl:ldV s ((va+40:Nat):Int) 8=(K:Int):=by unfold ldV;rw[if_pos he];exact congrArg Int.ofNat hR.kp
 rw[ha,he,hl]at HL;have HV:=hid h;obtain⟨⟨c0,c1,c2,c3,c4⟩, -⟩:=h.all;have hw:IntKind.i64.wrap (K:Int)=K:=by rw[IntKind.wrap_i64];have:=hR.kb;omega
 have HW:=hid hw;clear h hR hv ha he hl;go_enter Tryz.func29,Tryz.ntmps29;go_wp2_with fail
 refine(HL.out _ HV.out.1.1).mono ?_
 rintro e w' ⟨rfl,hb⟩;have HB:=hid hb;clear hb;go_wp2_with fail
 go_ret
 exact⟨by trivial,HB.out⟩
theorem Zo0 (h:RcV Q B A n va s w) (hR:Rcy n g R va q K s):Calls Tryz.prog 22 #[rcP Q] w (Zan (iV ((Zci q 5:Nat):Int)) w):=by
 have HB:=hid (Zvc h);have HC:=hid fun X (hX:RcV Q B A n va s X)=>Ybn hX.1.1 hR
 have HV:=hid h;clear h hR;go_enter Tryz.func22,Tryz.ntmps22;go_wp2_with fail;refine HB.out.mono ?_;rintro e w1 ⟨rfl,hb⟩;have HV1:=hid (HV.out.below hb);have HB1:=hid hb;clear hb;go_wp2_with fail
 refine(HC.out _ HV1.out).mono ?_
 rintro e w2 ⟨rfl,hb⟩;have HB2:=hid (HB1.out.trans (hb.mono HB1.out.size));clear hb;go_wp2_with fail
 go_ret
 exact⟨rfl,HB2.out⟩
def Yi4 (Q B A n g va K i k:Nat) (R:Zag) (q:Nat->List Nat) (s:ASt) (w w':World):Prop:=
 ∃R' s',RcV Q B A n va s' w'/\Rcy n g R' va q K s'/\Zam A w w'/\Zh6 R R' i/\Zcx (Zfm R i k false) (Zb8 s.mm (adr i) (List.replicate 32 0)) s'.mm/\s'.rf=s.rf/\s'.lf=s.lf
def Yjj (Q B A n g va K i k:Nat) (R:Zag) (q:Nat->List Nat) (s:ASt) (w:World) (e:Ending) (w':World):Prop:=
 e=.returned (iV 0)/\Yi4 Q B A n g va K i k R q s w w'
theorem Zqb (h:RcV Q B A n va s w) (hR:Rcy n g R va q K s) {i k:Nat} (e:R i=some (k,true)) (ho:Zme va i k) (hq:¬InQ q (1+i)):
 Calls Tryz.prog 84 #[rcP Q,iV (adr i:Int)] w (Yjj Q B A n g va K i k R q s w):=by
 have a:=hR.bu.addr e;have c2:=hR.bu.c2;have gG:=hR.bu.gG;have p0:=Zae k;have ha:adr i<=4294967296:=by unfold adr;omega
 have hone:∀p:Nat,(adr i:Int)=(adr p:Int)->i=p:=fun p hp=>by unfold adr at hp;omega
 have HO:Hid (Calls Tryz.prog 152 #[Zcv B,iV (adr i:Int)] w fun e w'=>e=.returned (.tuple #[iV k,iV 0])/\Below w.heap.size w w'):=hid ((Zky h.1 hR.bu (adr i:Int) (by omega) (by omega)).mono (by
  rintro e' w' ⟨k',er,rfl,⟨p,l,hp,f,rfl,rfl⟩|⟨hn,_,_⟩,hb⟩
  · have:=hone p hp;subst this
    rw[e]at f;have:=(Zbc f).1;subst this
    exact⟨rfl,hb⟩
  · exact absurd e (hn i k rfl)))
 have ht:Zac s.L s.es (adr i:Int) 32=0:=hR.bu.there (by omega) (by omega) (by unfold adr;omega)
 have hf:Zg3 s (adr i:Int) 32 0={s with mm:=Zb8 s.mm (adr i) (List.replicate 32 0)}:=by
  unfold Zg3;rw[if_pos ht,Int.toNat_natCast];rfl
 have hR1:Rcy n g R va q K {s with mm:=Zb8 s.mm (adr i) (List.replicate 32 0)}:=hR.write e ho hq fun b hb=>Zbt _ _ _ (by rw[List.length_replicate];unfold adr at*;omega)
 have HW:=hid fun X (hX:On A s X)=>Zyi hX (adr i:Int) (by omega)
 rw[ht,hf]at HW;have HFR:=hid fun X (hX:BV B A n {s with mm:=Zb8 s.mm (adr i) (List.replicate 32 0)} X)=>Zx2 hX hR1.bu (adr i:Int) (by omega) (by omega)
 have HEND:Hid (∀(X Y:World) (e':Ending),RcV Q B A n va {s with mm:=Zb8 s.mm (adr i) (List.replicate 32 0)} X->Zam A w X->Zr0 B A n g R {s with mm:=Zb8 s.mm (adr i) (List.replicate 32 0)} (adr i:Int) X e' Y->e'=.returned (iV 0)/\Yi4 Q B A n g va K i k R q s w Y):=hid (by
  rintro X Y e' hX hg (⟨p,l,hp,f,rfl,R',s',b1,b2,b3,b4,b5,b6,b7⟩|⟨hn,_,_⟩)
  · have:=hone p hp;subst this
    rw[e]at f;have:=(Zbc f).1;subst this
    exact⟨rfl,R',s',hX.to b1 b3,hR1.Zws e ho hq b2 b4 b5,hg.trans b3,b4,b5,b6,b7⟩
  · exact absurd e (hn i k rfl))
 have HV:=hid h;obtain⟨⟨c0,c1,c2',c3,c4⟩, -⟩:=h.all;clear h hR a c2 gG p0 ha hone ht hf hR1 e ho hq;go_enter Tryz.func84,Tryz.ntmps84;go_wp2_with fail;refine HO.out.mono ?_;rintro e w1 ⟨rfl,hb⟩;have HV1:=hid (HV.out.below hb);have HG1:=hid (Zam.Zad HV.out.1.1 hb);clear hb c0 c1 c2' c3 c4 HO;obtain⟨⟨c0,c1,c2',c3,c4⟩, -⟩:=HV1.out.all;go_wp2_with fail
 refine(HW.out _ HV1.out.1.1).mono ?_
 rintro e w2 ⟨rfl,hx,hg⟩;have HV2:=hid (HV1.out.Zaq hx hg rfl);have HG2:=hid (HG1.out.trans hg);clear hx hg c0 c1 c2' c3 c4;obtain⟨⟨c0,c1,c2',c3,c4⟩, -⟩:=HV2.out.all;go_wp2_with fail
 refine(HFR.out _ HV2.out.1).mono ?_
 intro e w3 hfp;obtain⟨rfl,hr⟩:=HEND.out _ _ _ HV2.out HG2.out hfp;have HE:=hid hr;clear hfp hr c0 c1 c2' c3 c4;go_wp2_with fail
 go_ret
 exact⟨rfl,HE.out⟩
end
end
end
end Go.Proofs.YtgcidfenjlmljaaGreat.Bt
