import Derived.Test.YtgcidfenjlmljaaGreatPg34
import Derived.Test.YtgcidfenjlmljaaGreatPg29
import Derived.Test.YtgcidfenjlmljaaGreatPg18
import Derived.Test.YtgcidfenjlmljaaGreatPgR
set_option linter.unusedVariables false
set_option linter.unusedSimpArgs false
set_option maxRecDepth 100000
set_option maxHeartbeats 16000000
namespace Go.Proofs.YtgcidfenjlmljaaGreat.Bt
section
open Go Go.RowKit Go.Shelf
section
variable {Q B A n va g K:Nat} {s s':ASt} {w x y:World} {R:Zag} {q:Nat->List Nat} {L:List Blk}
def Yi9 (Q B A n g va K i k:Nat) (nx:Int) (R:Zag) (q:Nat->List Nat) (s:ASt) (w w':World):Prop:=
 ((k<=4/\Zci q 5+2^k<=K)/\RcV Q B A n va (Ygx s va i k nx) w'/\Zam A w w')\/((4<k\/K<Zci q 5+2^k)/\Yi4 Q B A n g va K i k R q s w w')
theorem Zld (h:RcV Q B A n va s w) (a:Int) (ha:a<=9223372036854775807) (c0 c1 c2 c3 er ans:Int) (hr:rdV s a=.tuple #[cV c0 c1 c2 c3,iV er]) (her:(er≠0/\ans=er)\/(er=0/\c2=0/\ans=11)):
 Calls Tryz.prog 28 #[rcP Q,iV a] w (Zan (iV ans) w):=by
 have HV:=hid (WkS.start h);have HE:=hid her;have HRD:=hid fun X (hX:On A s X)=>Ze5 hX a ha
 rw[hr]at HRD;unfold cV at HRD;obtain⟨⟨p0,p1,p2,p3,p4⟩, -⟩:=h.all;clear h hr her;go_enter Tryz.func28,Tryz.ntmps28;go_wp2_with fail
 refine(HRD.out _ HV.out.rv.1.1).mono ?_
 rintro e w1 ⟨rfl,hb⟩;have HB1:=hid (hb.alloc hb.size (.cells #[iV c0,iV c1,.int .u64 c2,iV c3] 71));have HX1:=hid ((HV.out.below hb).new #[iV c0,iV c1,.int .u64 c2,iV c3] 71 (by unfold Zc7;decide));clear hb HV p0 p1 p2 p3 p4 HRD;go_upto_region 4 with fail;change Code.wp _ _ _ _ (w1.alloc (.cells #[iV c0,iV c1,.int .u64 c2,iV c3] 71));obtain⟨x2,hx⟩:=eX (w1.alloc (.cells #[iV c0,iV c1,.int .u64 c2,iV c3] 71));obtain⟨D,hD⟩:=eX w1.heap.size;rw[hx,hD]at HX1;rw[hx]at HB1;rw[hx,hD];clear hx hD;rcases HE.out with⟨e1,e2⟩|⟨e1,e2,e3⟩
 · have d:(er !=0)=true:=by simpa using e1
   have d2:decide (er=0)=false:=decide_eq_false e1;subst e2;go_wp2_with fail
   go_ret
   exact⟨rfl,HB1.out⟩
 · subst e1;subst e2;subst e3
   have d2:=HX1.out.fr.cell0 2 rfl;go_wp2_with fail
   go_ret
   exact⟨rfl,HB1.out⟩
theorem Zvb (h:RcV Q B A n va s w) (hR:Rcy n g R va q K s) {i k u:Nat} {nx:Int} (f:R i=some (k,true)) (ho:Zme va i k) (hq:¬InQ q (1+i)) (hu:0<u) (hr:rdV s (adr i:Int)=.tuple #[cV (adr i:Int) (k:Int) (u:Int) nx,iV 0]) (hx:0<=nx) (hx2:nx<=9223372036854775807):
 Calls Tryz.prog 28 #[rcP Q,iV (adr i:Int)] w fun e w'=>e=.returned (iV 0)/\Yi9 Q B A n g va K i k nx R q s w w':=by
 have HV:=hid (WkS.start h);have hab:(adr i:Int)<=9223372036854775807:=by have:=hR.bu.addr f;have:=hR.bu.c2;unfold adr;omega
 have HRD:=hid fun X (hX:On A s X)=>Ze5 hX (adr i:Int) hab
 rw[hr]at HRD;unfold cV at HRD;have HCA:=hid fun X (hX:RcV Q B A n va s X)=>Yft hX hR (u:=u) f ho hq hx hx2
 unfold cV at HCA;have HRE:=hid fun X (hX:RcV Q B A n va s X)=>Zqb hX hR f ho hq
 have u1:((u:Int)==0)=false:=by simp;omega
 have u2:decide ((u:Int)=0)=false:=decide_eq_false (by omega);have u3:¬u=0:=by omega
 obtain⟨⟨p0,p1,p2,p3,p4⟩, -⟩:=h.all;clear h hr hR f ho hq hx hx2 hu;go_enter Tryz.func28,Tryz.ntmps28;go_wp2_with fail
 refine(HRD.out _ HV.out.rv.1.1).mono ?_
 rintro e w1 ⟨rfl,hb⟩;have HX1:=hid ((HV.out.below hb).new #[iV (adr i:Int),iV k,.int .u64 (u:Int),iV nx] 71 (by unfold Zc7;decide));clear hb HV p0 p1 p2 p3 p4 HRD;go_upto_region 4 with fail;change Code.wp _ _ _ _ (w1.alloc (.cells #[iV (adr i:Int),iV k,.int .u64 (u:Int),iV nx] 71));obtain⟨x2,hx⟩:=eX (w1.alloc (.cells #[iV (adr i:Int),iV k,.int .u64 (u:Int),iV nx] 71));obtain⟨D,hD⟩:=eX w1.heap.size;rw[hx,hD]at HX1;rw[hx,hD];clear hx hD;have d0:=HX1.out.fr.cell0 0 rfl;have d1:=HX1.out.fr.cell0 1 rfl;have d2:=HX1.out.fr.cell0 2 rfl;have d3:=HX1.out.fr.cell0 3 rfl
 go_wp2_with fail
 refine(HCA.out _ HX1.out.rv).mono ?_
 rintro e w3 (⟨hc,rfl,hv,hg⟩|⟨hc,rfl,hv,hg⟩)
 · have HC:=hid hc
   have HX3:=hid (HX1.out.Zf9 hv hg);clear hc hv hg HX1 HCA d0 d1 d2 d3 u1 u2 u3;go_wp2_with fail
   refine(HRE.out _ HX3.out.rv).mono ?_
   rintro e w4 ⟨rfl,R',s',b1,b2,b3,b4⟩;have HF:=hid (show Yi9 Q B A n g va K i k nx R q s w w4 from .inr ⟨HC.out,R',s',b1,b2,HX3.out.fr.wt.trans b3,b4⟩);clear b1 b2 b3 b4 HX3 HRE;go_wp2_with fail
   go_ret
   exact⟨rfl,HF.out⟩
 · have HF:=hid (show Yi9 Q B A n g va K i k nx R q s w w3 from .inl ⟨hc,hv,(HX1.out.Zf9 hv hg).fr.wt⟩)
   clear hc hv hg HX1 HCA d0 d1 d2 d3 u1 u2 u3;go_wp2_with fail
   go_ret
   exact⟨rfl,HF.out⟩
end
end
section
open Go Go.RowKit Go.Shelf
def Znf (m:Nat->UInt8) (va:Nat):Nat->UInt8:=Zb8 m va (List.replicate 64 0)
def Zln (s:ASt) (va:Nat):ASt:={s with mm:=Zc4 (Znf s.mm va) (va+40) 16}
section
variable {Q B A n va g K:Nat} {s s':ASt} {w x y:World} {R:Zag} {q:Nat->List Nat} {L:List Blk}
theorem Rcy.start (hB:Bud (n+1) g g R g s) {x k:Nat} (e:R x=some (k,true)) (a1:adr x<=va) (a2:va+64<=adr (x+2^k)):Rcy n g R va (fun _=>[]) 0 {s with mm:=Znf s.mm va}:=by
 have a:=hB.addr e;have hz:∀i,va<=i->i<va+64->Znf s.mm va i=0:=fun i h1 h2=>Zlg _ _ 64 0 h1 h2
 refine{bu:=?_,bn:=?_,bz:=fun k hk=>⟨fun _=>?_,trivial⟩,kp:=?_,kb:=by omega,vw:=⟨x,k,e,a1,a2,fun⟨j,_,h⟩=>by cases h⟩,tk:=fun j _ p hp=>by cases hp}
 · refine hB.write fun b hb=>?_
   have:=hb x k e
   exact Zbt _ _ _ (by rw[List.length_replicate];omega)
 · unfold adr at a1 a2
   exact Bn.zero (hB.there (by omega) (by omega) (by omega)) fun i h1 h2=>hz i h1 (by omega)
 · unfold hdP
   rw[Zar (m':=fun _=>0) (fun j hj=>hz _ (by omega) (by omega)),Zif]
 · rw[Zar (m':=fun _=>0) (fun j hj=>hz _ (by omega) (by omega)),Zif]
theorem Zm5 (h:BV B A n s w) (va vs:Nat) (h32:va<=4294967296) (hv32:vs<=4294967296) (h64:64<=vs) (ht:Zac s.L s.es (va:Int) 64=0):
 Calls Tryz.prog 18 #[Zcv B,vwV A va vs] w fun e w'=>∃Q,e=.returned (.tuple #[rcP Q,iV 0])/\RcV Q B A n va s w'/\Below w.heap.size w w'/\w.heap.size<=Q:=by
 have e1:Zai va vs 0 64=(va:Int):=by have:=Zd5 (va:=va) (a:=0) (n:=64) (vs:=vs) (by omega);simpa using this
 have HP:=hid fun X (hX:On A s X)=>Zcl hX va vs h32 hv32 0 64 (by omega)
 rw[e1,ht]at HP;have e2:ofV (some (aD A 0)) (va:Int) 64 0=vwV A va 64:=by unfold ofV;rw[if_pos rfl];rfl
 rw[e2]at HP;have HB:=hid (Zaj w (.cells #[pT A,iV va,iV vs] 40));have hf:=(Fr.start A w).new h.1 #[pT A,iV va,iV vs] 40 (by unfold Zc7;decide);have hv:=h.below (Zaj w (.cells #[pT A,iV va,iV vs] 40));clear h e1 e2 ht;go_enter Tryz.func18,Tryz.ntmps18;go_upto_region 1 with fail;change Code.wp _ _ _ _ (w.alloc (.cells #[pT A,iV va,iV vs] 40));obtain⟨x,hx⟩:=eX (w.alloc (.cells #[pT A,iV va,iV vs] 40));obtain⟨D,hD⟩:=eX w.heap.size;have HWD:=hid hD;rw[hx]at HB hv;rw[hx,hD]at hf;rw[hx,hD];have HV:=hid hv;have HF:=hid hf
 clear hx hD hv hf;have d0:=HF.out.cell0 0 rfl;have d1:=HF.out.cell0 1 rfl;have d2:=HF.out.cell0 2 rfl
 go_wp2_with fail
 refine(HP.out _ HV.out.1).mono ?_
 rintro e w1 ⟨rfl,hb⟩;have HV1:=hid (HV.out.below hb);have HB1:=hid (HB.out.trans (hb.mono HB.out.size));clear hb HV HF HB d0 d1 d2 HP;go_upto_region 4 with fail;change Code.wp _ _ _ _ (w1.alloc (.cells #[pT A,iV va,iV ((64:Nat):Int)] 40));have hc:=Zab w1 (.cells #[pT A,iV va,iV ((64:Nat):Int)] 40);have hv:=HV1.out.below (Zaj w1 (.cells #[pT A,iV va,iV ((64:Nat):Int)] 40));have hbb:=HB1.out.alloc HB1.out.size (.cells #[pT A,iV va,iV ((64:Nat):Int)] 40);obtain⟨x2,hx⟩:=eX (w1.alloc (.cells #[pT A,iV va,iV ((64:Nat):Int)] 40));obtain⟨E,hE⟩:=eX w1.heap.size;rw[hx]at hv hbb;rw[hx,hE]at hc;rw[hx,hE];have HV2:=hid hv;have HB2:=hid hbb
 have d0:=(Zaa hc 0).1;have d1:=(Zaa hc 1).1;have d2:=(Zaa hc 2).1
 simp at d0 d1 d2;clear hx hE hv hbb hc HV1 HB1;have HRV:Hid (RcV x2.heap.size B A n va s (x2.alloc (.cells #[Zcv B,pT A,iV va,iV ((64:Nat):Int)] 42))):=hid ⟨HV2.out.below (Zaj _ _),Zab _ _⟩;have HB3:=hid (HB2.out.alloc HB2.out.size (.cells #[Zcv B,pT A,iV va,iV ((64:Nat):Int)] 42));have HSZ:=hid HB2.out.size;go_wp2_with fail
 go_ret2
 exact⟨_,rfl,HRV.out,HB3.out,HSZ.out⟩
theorem Zy3 (h:BV B A n s w) (hB:Bud (n+1) g g R g s) {x0 k0:Nat} (e:R x0=some (k0,true)) (va vs:Nat) (a1:adr x0<=va) (a2:va+64<=adr (x0+2^k0)) (hv32:vs<=4294967296) (h64:64<=vs):
 Calls Tryz.prog 58 #[Zcv B,vwV A va vs] w fun e w'=>∃Q,e=.returned (.tuple #[rcP Q,iV 0])/\RcV Q B A n va (Zln s va) w'/\Rcy n g R va (fun _=>[]) 16 (Zln s va)/\Zam A w w'/\w.heap.size<=Q:=by
 have hr:=Rcy.start hB e a1 a2;have hva:=hr.Ybh;have ht:Zac s.L s.es (va:Int) 64=0:=hr.th;have hf:Zg3 s (va:Int) 64 0={s with mm:=Znf s.mm va}:=by unfold Zg3 Znf;rw[if_pos ht,Int.toNat_natCast];rfl
 have e1:Zai va 64 0 64=(va:Int):=by have:=Zd5 (va:=va) (a:=0) (n:=64) (vs:=64) (by omega);simpa using this
 have HFI:=hid fun X (hX:On A s X)=>Zo5 hX va 64 (by omega) (by omega) 0 64 (by omega) 0
 rw[e1,hf,ht]at HFI;have HOP:=hid fun X (hX:BV B A n s X)=>Zm5 hX va vs (by omega) hv32 h64 ht
 have HKE:=hid fun Q X (hX:RcV Q B A n va {s with mm:=Znf s.mm va} X)=>Yfr hX hr 16 (by omega) (by omega)
 have HKR:Hid (Rcy n g R va (fun _=>[]) 16 (Zln s va)):=hid (hr.Zdn (K':=16) (by omega));have HB:=hid (Zaj w (.cells #[pT A,iV va,iV vs] 40));have hfr:=(Fr.start A w).new h.1 #[pT A,iV va,iV vs] 40 (by unfold Zc7;decide);have hv:=h.below (Zaj w (.cells #[pT A,iV va,iV vs] 40));clear h hB e a1 a2 hr ht hf e1;go_enter Tryz.func58,Tryz.ntmps58;go_upto_region 1 with fail;change Code.wp _ _ _ _ (w.alloc (.cells #[pT A,iV va,iV vs] 40));obtain⟨x,hx⟩:=eX (w.alloc (.cells #[pT A,iV va,iV vs] 40));obtain⟨D,hD⟩:=eX w.heap.size;rw[hx]at hv HB;rw[hx,hD]at hfr;rw[hx,hD];have HV:=hid hv;have HF:=hid hfr
 clear hx hD hv hfr;have d0:=HF.out.cell0 0 rfl;have d1:=HF.out.cell0 1 rfl;have d2:=HF.out.cell0 2 rfl
 go_wp2_with fail
 refine(HOP.out _ HV.out).mono ?_
 rintro e w1 ⟨Q,rfl,hrv,hb,hq⟩;have HX1:=hid hrv;have HW1:=hid (HF.out.wt.trans (Zam.Zad HV.out.1 hb));have HQ:=hid (Nat.le_trans HB.out.size hq);clear hrv hb hq HV HF HB d0 d1 d2 HOP;obtain⟨⟨p0,p1,p2,p3,p4⟩, -⟩:=HX1.out.all;go_wp2_with fail
 refine(HFI.out _ HX1.out.1.1).mono ?_
 rintro e w2 ⟨rfl,ho,hg⟩;have HX2:=hid (HX1.out.Zaq ho hg rfl);have HW2:=hid (HW1.out.trans hg);clear ho hg HX1 HW1 p0 p1 p2 p3 p4 HFI;go_wp2_with fail
 refine(HKE.out Q _ HX2.out).mono ?_
 rintro e w3 ⟨rfl,R',q',s',⟨k1,rfl,rfl,rfl⟩|⟨k1,_⟩,k3,k4⟩
 · have HX3:=hid (show RcV Q B A n va (Zln s va) w3 from k3)
   have HW3:=hid (HW2.out.trans k4);clear k1 k3 k4 HX2 HW2 HKE;go_wp2_with fail
   go_ret2
   exact⟨Q,rfl,HX3.out,HKR.out,HW3.out,HQ.out⟩
 · exact absurd k1 (by simp[Zci])
end
end
section
open Go Go.RowKit Go.Shelf
structure Fb (w0:World) (L:List Blk) (x:World):Prop where
 bs:∀y∈L,x.heap[y.r]?=some (.cells y.c y.t (0,0))/\w0.heap.size<=y.r
 nd:L.Pairwise fun a b=>a.r≠b.r
 be:Below w0.heap.size w0 x
section
variable {w0 x y:World} {L:List Blk}
theorem Fb.start (w:World):Fb w [] w:=⟨(fun _ h=>by cases h),.nil,Below.refl _ _⟩
theorem Fb.new (h:Fb w0 L x) (c:Array Value) (t:TypeId):Fb w0 (⟨x.heap.size,c,t⟩::L) (x.alloc (.cells c t)):=by
 have hb:=Zaj x (.cells c t)
 refine⟨fun z hz=>?_,?_,h.be.trans (hb.mono h.be.size)⟩
 · rcases List.mem_cons.1 hz with rfl|hz
   · exact⟨Zab _ _,h.be.size⟩
   · obtain⟨a1,a3⟩:=h.bs z hz
     exact⟨(hb.block _ (Array.getElem?_eq_some_iff.1 a1).1).trans a1,a3⟩
 · refine List.pairwise_cons.2 ⟨fun z hz=>?_,h.nd⟩
   have:=(Array.getElem?_eq_some_iff.1 (h.bs z hz).1).1
   show x.heap.size≠z.r;omega
theorem Fb.below (h:Fb w0 L x) (hb:Below x.heap.size x y):Fb w0 L y:=
 ⟨fun z hz=>by
  obtain⟨a1,a3⟩:=h.bs z hz
  exact⟨(hb.block _ (Array.getElem?_eq_some_iff.1 a1).1).trans a1,a3⟩,h.nd,h.be.trans (hb.mono h.be.size)⟩
theorem Fb.at {L1 L2:List Blk} {b:Blk} (h:Fb w0 (L1++b::L2) x):x.heap[b.r]?=some (.cells b.c b.t (0,0)):=(h.bs b (by simp)).1
theorem Fb.ge {L1 L2:List Blk} {b:Blk} (h:Fb w0 (L1++b::L2) x):w0.heap.size<=b.r:=(h.bs b (by simp)).2
theorem Fb.ne {L1 L2:List Blk} {b:Blk} (h:Fb w0 (L1++b::L2) x) {z:Blk} (hz:z∈L1\/z∈L2):z.r≠b.r:=by
 have:=List.pairwise_append.1 h.nd
 rcases hz with hz|hz
 · exact this.2.2 z hz b (List.mem_cons_self ..)
 · exact fun e=>(List.pairwise_cons.1 this.2.1).1 z hz e.symm
theorem Fb.set {L1 L2:List Blk} {b:Blk} (h:Fb w0 (L1++b::L2) x) (k:Nat) (v:Value):Fb w0 (L1++⟨b.r,b.c.setIfInBounds k v,b.t⟩::L2) (x.setCell (aD b.r k) v):=by
 refine⟨fun z hz=>?_,?_,h.be.setCell (p:=(aD b.r k)) h.ge v⟩
 · rcases List.mem_append.1 hz with hz|hz
   · obtain⟨a1,a3⟩:=h.bs z (List.mem_append.2 (.inl hz))
     exact⟨(Zah v (h.ne (.inl hz))).trans a1,a3⟩
   · rcases List.mem_cons.1 hz with rfl|hz
     · exact⟨heap_set h.at v,h.ge⟩
     · obtain⟨a1,a3⟩:=h.bs z (List.mem_append.2 (.inr (List.mem_cons_of_mem _ hz)))
       exact⟨(Zah v (h.ne (.inr hz))).trans a1,a3⟩
 · have:=List.pairwise_append.1 h.nd
   have h2:=List.pairwise_cons.1 this.2.1;refine List.pairwise_append.2 ⟨this.1,List.pairwise_cons.2 ⟨h2.1,h2.2⟩,fun a ha c hc=>?_⟩;rcases List.mem_cons.1 hc with rfl|hc
   · exact this.2.2 a ha b (List.mem_cons_self ..)
   · exact this.2.2 a ha c (List.mem_cons_of_mem _ hc)
theorem Fb.drop {L1 L2:List Blk} {b:Blk} (h:Fb w0 (L1++b::L2) x):Fb w0 (L1++L2) x:=
 ⟨fun z hz=>h.bs z (by
  rcases List.mem_append.1 hz with hz|hz
  · exact List.mem_append.2 (.inl hz)
  · exact List.mem_append.2 (.inr (List.mem_cons_of_mem _ hz))),h.nd.sublist (by simp),h.be⟩
theorem Fb.Zc0 {L1 L2:List Blk} {R:Nat} {t:TypeId}:∀(vs:List Value) (k:Nat) (x:World) (c:Array Value),Fb w0 (L1++⟨R,c,t⟩::L2) x->Fb w0 (L1++⟨R,Zka c vs k,t⟩::L2) (stR x R vs k)
 |[],_,_,_,h=>h
 |v::vs,k,x,c,h=>Fb.Zc0 vs (k+1) _ _ (h.set k v)
theorem Zgr (R:Nat):∀(vs:List Value) (k:Nat) (x:World),(stR x R vs k).heap.size=x.heap.size
 |[],_,_=>rfl
 |v::vs,k,x=>(Zgr R vs (k+1) _).trans (by simp[World.setCell])
theorem Fb.at0 {R:Nat} {c:Array Value} {t:TypeId} {L2:List Blk} (h:Fb w0 (⟨R,c,t⟩::L2) x):x.heap[R]?=some (.cells c t (0,0)):=Fb.at (L1:=[]) h
theorem Fb.cell0 {R:Nat} {c:Array Value} {t:TypeId} {L2:List Blk} (h:Fb w0 (⟨R,c,t⟩::L2) x) (k:Nat) {v:Value} (hv:c[k]?=some v):x.cell? (aD R k)=some v:=((Zaa (Fb.at (L1:=[]) h) k).1).trans hv
theorem Fb.Za5 {R:Nat} {c:Array Value} {t:TypeId} {L2:List Blk} (h:Fb w0 (⟨R,c,t⟩::L2) x) (k:Nat):x.frozen? (aD R k)=false:=(Zaa (Fb.at (L1:=[]) h) k).2
theorem Fb.Zdz {R:Nat} {c:Array Value} {t:TypeId} {L2:List Blk} (h:Fb w0 (⟨R,c,t⟩::L2) x) (vs:List Value) (k:Nat):Fb w0 (⟨R,Zka c vs k,t⟩::L2) (stR x R vs k):=Fb.Zc0 (L1:=[]) vs k x c h
theorem Fb.Zia {R:Nat} {c:Array Value} {t:TypeId} {L2:List Blk} (h:Fb w0 (⟨R,c,t⟩::L2) x):Fb w0 (L2) x:=Fb.drop (L1:=[]) h
theorem Fb.at1 {a0:Blk} {R:Nat} {c:Array Value} {t:TypeId} {L2:List Blk} (h:Fb w0 (a0::⟨R,c,t⟩::L2) x):x.heap[R]?=some (.cells c t (0,0)):=Fb.at (L1:=[a0]) h
theorem Fb.Zak {a0:Blk} {R:Nat} {c:Array Value} {t:TypeId} {L2:List Blk} (h:Fb w0 (a0::⟨R,c,t⟩::L2) x) (k:Nat) {v:Value} (hv:c[k]?=some v):x.cell? (aD R k)=some v:=((Zaa (Fb.at (L1:=[a0]) h) k).1).trans hv
theorem Fb.Zda {a0:Blk} {R:Nat} {c:Array Value} {t:TypeId} {L2:List Blk} (h:Fb w0 (a0::⟨R,c,t⟩::L2) x) (k:Nat):x.frozen? (aD R k)=false:=(Zaa (Fb.at (L1:=[a0]) h) k).2
theorem Fb.Zft {a0:Blk} {R:Nat} {c:Array Value} {t:TypeId} {L2:List Blk} (h:Fb w0 (a0::⟨R,c,t⟩::L2) x) (vs:List Value) (k:Nat):Fb w0 (a0::⟨R,Zka c vs k,t⟩::L2) (stR x R vs k):=Fb.Zc0 (L1:=[a0]) vs k x c h
theorem Fb.at2 {a0 a1:Blk} {R:Nat} {c:Array Value} {t:TypeId} {L2:List Blk} (h:Fb w0 (a0::a1::⟨R,c,t⟩::L2) x):x.heap[R]?=some (.cells c t (0,0)):=Fb.at (L1:=[a0,a1]) h
theorem Fb.Zce {a0 a1:Blk} {R:Nat} {c:Array Value} {t:TypeId} {L2:List Blk} (h:Fb w0 (a0::a1::⟨R,c,t⟩::L2) x) (k:Nat) {v:Value} (hv:c[k]?=some v):x.cell? (aD R k)=some v:=((Zaa (Fb.at (L1:=[a0,a1]) h) k).1).trans hv
theorem Fb.Zl1 {a0 a1:Blk} {R:Nat} {c:Array Value} {t:TypeId} {L2:List Blk} (h:Fb w0 (a0::a1::⟨R,c,t⟩::L2) x) (k:Nat):x.frozen? (aD R k)=false:=(Zaa (Fb.at (L1:=[a0,a1]) h) k).2
theorem Fb.Zi2 {a0 a1:Blk} {R:Nat} {c:Array Value} {t:TypeId} {L2:List Blk} (h:Fb w0 (a0::a1::⟨R,c,t⟩::L2) x) (vs:List Value) (k:Nat):Fb w0 (a0::a1::⟨R,Zka c vs k,t⟩::L2) (stR x R vs k):=Fb.Zc0 (L1:=[a0,a1]) vs k x c h
theorem Fb.at3 {a0 a1 a2:Blk} {R:Nat} {c:Array Value} {t:TypeId} {L2:List Blk} (h:Fb w0 (a0::a1::a2::⟨R,c,t⟩::L2) x):x.heap[R]?=some (.cells c t (0,0)):=Fb.at (L1:=[a0,a1,a2]) h
theorem Fb.Zth {a0 a1 a2:Blk} {R:Nat} {c:Array Value} {t:TypeId} {L2:List Blk} (h:Fb w0 (a0::a1::a2::⟨R,c,t⟩::L2) x) (k:Nat) {v:Value} (hv:c[k]?=some v):x.cell? (aD R k)=some v:=((Zaa (Fb.at (L1:=[a0,a1,a2]) h) k).1).trans hv
theorem Fb.Ydz {a0 a1 a2:Blk} {R:Nat} {c:Array Value} {t:TypeId} {L2:List Blk} (h:Fb w0 (a0::a1::a2::⟨R,c,t⟩::L2) x) (k:Nat):x.frozen? (aD R k)=false:=(Zaa (Fb.at (L1:=[a0,a1,a2]) h) k).2
theorem Fb.Zfs {a0 a1 a2:Blk} {R:Nat} {c:Array Value} {t:TypeId} {L2:List Blk} (h:Fb w0 (a0::a1::a2::⟨R,c,t⟩::L2) x) (vs:List Value) (k:Nat):Fb w0 (a0::a1::a2::⟨R,Zka c vs k,t⟩::L2) (stR x R vs k):=Fb.Zc0 (L1:=[a0,a1,a2]) vs k x c h
theorem Fb.at4 {a0 a1 a2 a3:Blk} {R:Nat} {c:Array Value} {t:TypeId} {L2:List Blk} (h:Fb w0 (a0::a1::a2::a3::⟨R,c,t⟩::L2) x):x.heap[R]?=some (.cells c t (0,0)):=Fb.at (L1:=[a0,a1,a2,a3]) h
theorem Fb.Ygw {a0 a1 a2 a3:Blk} {R:Nat} {c:Array Value} {t:TypeId} {L2:List Blk} (h:Fb w0 (a0::a1::a2::a3::⟨R,c,t⟩::L2) x) (k:Nat) {v:Value} (hv:c[k]?=some v):x.cell? (aD R k)=some v:=((Zaa (Fb.at (L1:=[a0,a1,a2,a3]) h) k).1).trans hv
theorem Fb.Zge {a0 a1 a2 a3:Blk} {R:Nat} {c:Array Value} {t:TypeId} {L2:List Blk} (h:Fb w0 (a0::a1::a2::a3::⟨R,c,t⟩::L2) x) (vs:List Value) (k:Nat):Fb w0 (a0::a1::a2::a3::⟨R,Zka c vs k,t⟩::L2) (stR x R vs k):=Fb.Zc0 (L1:=[a0,a1,a2,a3]) vs k x c h
theorem Zp7:∀(vs:List Value) (k:Nat) (c:Array Value) (i:Nat),(Zka c vs k)[i]?=if k<=i/\i<k+vs.length/\i<c.size then vs[i-k]? else c[i]?
 |[],k,c,i=>by rw[if_neg (by simp;omega)];rfl
 |v::vs,k,c,i=>by
  show(Zka (c.setIfInBounds k v) vs (k+1))[i]?=_
  rw[Zp7 vs (k+1) (c.setIfInBounds k v) i,Array.size_setIfInBounds];by_cases h1:k+1<=i/\i<k+1+vs.length/\i<c.size
  · rw[if_pos h1,if_pos (by simp;omega),show i-k=(i-(k+1))+1 from by omega]
    rfl
  · rw[if_neg h1]
    by_cases h2:k<=i/\i<k+(v::vs).length/\i<c.size
    · have e:i=k:=by simp at h2;omega
      subst e;rw[if_pos h2,Nat.sub_self];rw[Array.getElem?_setIfInBounds_self_of_lt h2.2.2];rfl
    · rw[if_neg h2]
      by_cases e:i=k
      · subst e
        have:¬i<c.size:=fun q=>h2 ⟨Nat.le_refl _,by simp,q⟩
        rw[Array.setIfInBounds_eq_of_size_le (by omega)]
      · rw[Array.getElem?_setIfInBounds_ne (fun q=>e q.symm)]
theorem Zdi (c:Array Value) (vs:List Value) (h:c.size=vs.length):Zka c vs 0=vs.toArray:=by
 apply Array.ext_getElem?
 intro i;rw[Zp7,Nat.sub_zero];by_cases hi:i<vs.length
 · rw[if_pos ⟨Nat.zero_le _,by omega,by omega⟩,List.getElem?_toArray]
 · rw[if_neg (fun q=>hi (by omega)),Array.getElem?_eq_none (by omega),Array.getElem?_eq_none (by rw[List.size_toArray];omega)]
theorem Fb.Zd9 {R:Nat} {c:Array Value} {t:TypeId} {L2:List Blk} (h:Fb w0 (⟨R,c,t⟩::L2) x) (vs:List Value) (hc:c.size=vs.length):Fb w0 (⟨R,vs.toArray,t⟩::L2) (stR x R vs 0):=by
 have:=h.Zdz vs 0;rwa [Zdi c vs hc]at this
theorem Fr.Zd9 {A:Nat} {s:ASt} {R:Nat} {c:Array Value} {t:TypeId} {L2:List Blk} (h:Fr A w0 (⟨R,c,t⟩::L2) x) (ho:On A s x) (vs:List Value) (hc:c.size=vs.length):Fr A w0 (⟨R,vs.toArray,t⟩::L2) (stR x R vs 0):=by
 have:=h.Zdz ho vs 0;rwa [Zdi c vs hc]at this
theorem Fb.Zgk {a0:Blk} {R:Nat} {c:Array Value} {t:TypeId} {L2:List Blk} (h:Fb w0 (a0::⟨R,c,t⟩::L2) x) (vs:List Value) (hc:c.size=vs.length):Fb w0 (a0::⟨R,vs.toArray,t⟩::L2) (stR x R vs 0):=by
 have:=h.Zft vs 0;rwa [Zdi c vs hc]at this
theorem Fr.Zgk {A:Nat} {s:ASt} {a0:Blk} {R:Nat} {c:Array Value} {t:TypeId} {L2:List Blk} (h:Fr A w0 (a0::⟨R,c,t⟩::L2) x) (ho:On A s x) (vs:List Value) (hc:c.size=vs.length):Fr A w0 (a0::⟨R,vs.toArray,t⟩::L2) (stR x R vs 0):=by
 have:=h.Zft ho vs 0;rwa [Zdi c vs hc]at this
theorem Fb.Zno {a0 a1:Blk} {R:Nat} {c:Array Value} {t:TypeId} {L2:List Blk} (h:Fb w0 (a0::a1::⟨R,c,t⟩::L2) x) (vs:List Value) (hc:c.size=vs.length):Fb w0 (a0::a1::⟨R,vs.toArray,t⟩::L2) (stR x R vs 0):=by
 have:=h.Zi2 vs 0;rwa [Zdi c vs hc]at this
theorem Fb.Zs2 {a0 a1 a2:Blk} {R:Nat} {c:Array Value} {t:TypeId} {L2:List Blk} (h:Fb w0 (a0::a1::a2::⟨R,c,t⟩::L2) x) (vs:List Value) (hc:c.size=vs.length):Fb w0 (a0::a1::a2::⟨R,vs.toArray,t⟩::L2) (stR x R vs 0):=by
 have:=h.Zfs vs 0;rwa [Zdi c vs hc]at this
theorem Fr.Zs2 {A:Nat} {s:ASt} {a0 a1 a2:Blk} {R:Nat} {c:Array Value} {t:TypeId} {L2:List Blk} (h:Fr A w0 (a0::a1::a2::⟨R,c,t⟩::L2) x) (ho:On A s x) (vs:List Value) (hc:c.size=vs.length):Fr A w0 (a0::a1::a2::⟨R,vs.toArray,t⟩::L2) (stR x R vs 0):=by
 have:=h.Zfs ho vs 0;rwa [Zdi c vs hc]at this
theorem Fb.Ygq {a0 a1 a2 a3:Blk} {R:Nat} {c:Array Value} {t:TypeId} {L2:List Blk} (h:Fb w0 (a0::a1::a2::a3::⟨R,c,t⟩::L2) x) (vs:List Value) (hc:c.size=vs.length):Fb w0 (a0::a1::a2::a3::⟨R,vs.toArray,t⟩::L2) (stR x R vs 0):=by
 have:=h.Zge vs 0;rwa [Zdi c vs hc]at this
end
end
section
open Go Go.RowKit Go.Shelf
def Zzq (n:Nat) (r:Int):Value:=if n<2 then .tuple #[bqV 0 0 0 0 (.slice none 0 0),iV 3]else if Zn0 r≠0 then .tuple #[bqV 0 0 0 0 (.slice none 0 0),iV (Zn0 r)]else .tuple #[bqV 1 ((n:Int)-1) 0 (Znz r) (.slice none 0 0),iV 0]
theorem Ya5 (n:Nat) (hn:n<=80) (r:Int) (hr:r<=9223372036854775807) (w:World):
 Calls Tryz.prog 55 #[iV n,iV r] w fun e w'=>e=.returned (Zzq n r)/\Below w.heap.size w w':=by
 have HO:=hid (fun w=>Ya4 n hn w);have HCM:=hid (fun w=>Zj0 1 ((n:Int)-1) 0 r none 0 0 hr w);have hb0:=(((Below.refl w.heap.size w).alloc (Nat.le_refl _) (.cells #[iV 0,iV 0,iV 0,iV 0,.slice none 0 0] 27)).alloc (by simp) (.cells #[iV 1,iV ((n:Int)-1),iV 0,iV r,.slice none 0 0] 27));have hsz:(w.alloc (.cells #[iV 0,iV 0,iV 0,iV 0,.slice none 0 0] 27)).heap.size=w.heap.size+1:=by simp
 have hx2:=(((Below.refl (w.alloc (.cells #[iV 0,iV 0,iV 0,iV 0,.slice none 0 0] 27)).heap.size _).alloc (Nat.le_refl _) (.cells #[iV 1,iV ((n:Int)-1),iV 0,iV r,.slice none 0 0] 27)).block w.heap.size (by simp)).trans (Zab w (.cells #[iV 0,iV 0,iV 0,iV 0,.slice none 0 0] 27));have hy:=Zab (w.alloc (.cells #[iV 0,iV 0,iV 0,iV 0,.slice none 0 0] 27)) (.cells #[iV 1,iV ((n:Int)-1),iV 0,iV r,.slice none 0 0] 27);rw[hsz]at hy;go_enter Tryz.func55,Tryz.ntmps55;go_wp2_with fail
 refine(HO.out _).mono ?_
 rintro e w1 ⟨rfl,rfl⟩;go_wp2_with fail
 refine(HO.out _).mono ?_
 rintro e w1 ⟨rfl,rfl⟩;go_upto_region 2 with fail;obtain⟨y,hyy⟩:=eX ((w.alloc (.cells #[iV 0,iV 0,iV 0,iV 0,.slice none 0 0] 27)).alloc (.cells #[iV 1,iV ((n:Int)-1),iV 0,iV r,.slice none 0 0] 27));obtain⟨D,hD⟩:=eX (w.heap.size+1);obtain⟨E,hE⟩:=eX w.heap.size;have HDE:Hid (w.heap.size<=E/\D≠E/\w.heap.size<=D):=hid (by omega);rw[hyy]at hb0 hx2 hy⊢;rw[hD]at hy⊢;have hx3:y.heap[E]?=some (.cells #[iV 0,iV 0,iV 0,iV 0,.slice none 0 0] 27):=by rw[<-hE];exact hx2
 rw[hE];clear hx2;have HX:=hid hx3;have HY:=hid hy;have HB:=hid hb0
 have hDE0:¬D=E:=HDE.out.2.1;have hDE:¬E=D:=fun q=>HDE.out.2.1 q.symm
 have d0:=(Zaa hy 0);have d1:=(Zaa hy 1);have d2:=(Zaa hy 2);have d3:=(Zaa hy 3);have d4:=(Zaa hy 4)
 have e0:=(Zaa hx3 0);have e1:=(Zaa hx3 1);have e2:=(Zaa hx3 2);have e3:=(Zaa hx3 3);have e4:=(Zaa hx3 4)
 simp at d0 d1 d2 d3 d4 e0 e1 e2 e3 e4;obtain⟨d0,k0⟩:=d0;obtain⟨d1,k1⟩:=d1;obtain⟨d2,k2⟩:=d2;obtain⟨d3,k3⟩:=d3;obtain⟨d4,k4⟩:=d4
 obtain⟨e0,f0⟩:=e0;obtain⟨e1,f1⟩:=e1;obtain⟨e2,f2⟩:=e2;obtain⟨e3,f3⟩:=e3;obtain⟨e4,f4⟩:=e4
 clear hyy hE hD hsz hb0 hx3 hy HO;by_cases h2:n<2
 · have HV:Hid (Zzq n r=.tuple #[bqV 0 0 0 0 (.slice none 0 0),iV 3]):=hid (by unfold Zzq;rw[if_pos h2])
   have h3:(n:Int)-1<1:=by omega
   go_wp2_with fail;change bodyPost _ _ _ _ _ (Ze1 y E (iV 0) (iV 0) (iV 0) (iV 0) (.slice none 0 0));have hz:=Zc2 HX.out (iV 0) (iV 0) (iV 0) (iV 0) (.slice none 0 0);have HZB:=hid (Zbf HB.out HDE.out.1 (iV 0) (iV 0) (iV 0) (iV 0) (.slice none 0 0));obtain⟨z,hzz⟩:=eX (Ze1 y E (iV 0) (iV 0) (iV 0) (iV 0) (.slice none 0 0));rw[hzz]at hz HZB⊢;have g0:=(Zaa hz 0).1;have g1:=(Zaa hz 1).1;have g2:=(Zaa hz 2).1;have g3:=(Zaa hz 3).1;have g4:=(Zaa hz 4).1
   simp at g0 g1 g2 g3 g4;exact bodyPost_ret (v:=.tuple #[.agg #[iV 0,iV 0,iV 0,iV 0,.slice none 0 0],iV 3]) (by simp[results,Tryz.results55,go_sem,g0,g1,g2,g3,g4]) rfl ⟨by rw[HV.out],HZB.out⟩
 · have h3:¬(n:Int)-1<1:=by omega
   go_wp2_with fail
   refine(HCM.out _).mono ?_
   rintro e w1 ⟨rfl,hb1⟩;have hx1:=(hb1.block _ (Array.getElem?_eq_some_iff.1 HX.out).1).trans HX.out;have hy1:=(hb1.block _ (Array.getElem?_eq_some_iff.1 HY.out).1).trans HY.out;have HBB:=hid (HB.out.trans (hb1.mono HB.out.size));have HX1:=hid hx1;have HY1:=hid hy1
   clear d0 d1 d2 d3 d4 e0 e1 e2 e3 e4 k0 k1 k2 k3 k4 f0 f1 f2 f3 f4 hb1 HX HY HB HCM;have d0:=(Zaa hy1 0);have d1:=(Zaa hy1 1);have d2:=(Zaa hy1 2);have d3:=(Zaa hy1 3);have d4:=(Zaa hy1 4)
   have e0:=(Zaa hx1 0);have e1:=(Zaa hx1 1);have e2:=(Zaa hx1 2);have e3:=(Zaa hx1 3);have e4:=(Zaa hx1 4)
   simp at d0 d1 d2 d3 d4 e0 e1 e2 e3 e4;obtain⟨d0,k0⟩:=d0;obtain⟨d1,k1⟩:=d1;obtain⟨d2,k2⟩:=d2;obtain⟨d3,k3⟩:=d3;obtain⟨d4,k4⟩:=d4
   obtain⟨e0,f0⟩:=e0;obtain⟨e1,f1⟩:=e1;obtain⟨e2,f2⟩:=e2;obtain⟨e3,f3⟩:=e3;obtain⟨e4,f4⟩:=e4
   clear hx1 hy1;have HV:Hid (Zzq n r=if Zn0 r≠0 then .tuple #[bqV 0 0 0 0 (.slice none 0 0),iV (Zn0 r)]else .tuple #[bqV 1 ((n:Int)-1) 0 (Znz r) (.slice none 0 0),iV 0]):=hid (by unfold Zzq;rw[if_neg h2]);obtain⟨C,hC⟩:=eX (Znz r);obtain⟨er,her⟩:=eX (Zn0 r);rw[hC,her]at HV;rw[hC,her];clear hC her;go_upto_region 5 with fail;change Code.wp _ _ _ _ (Ze1 w1 D (iV 1) (iV ((n:Int)-1)) (iV 0) (iV C) (.slice none 0 0));have hxd:=Zc2 HY1.out (iV 1) (iV ((n:Int)-1)) (iV 0) (iV C) (.slice none 0 0);have hye:=(Ze4 hDE (iV 1) (iV ((n:Int)-1)) (iV 0) (iV C) (.slice none 0 0)).trans HX1.out;have HB2:=hid (Zbf HBB.out HDE.out.2.2 (iV 1) (iV ((n:Int)-1)) (iV 0) (iV C) (.slice none 0 0));obtain⟨z1,hz1⟩:=eX (Ze1 w1 D (iV 1) (iV ((n:Int)-1)) (iV 0) (iV C) (.slice none 0 0));rw[hz1]at hxd hye HB2⊢;have HYE:=hid hye;clear d0 d1 d2 d3 d4 e0 e1 e2 e3 e4 k0 k1 k2 k3 k4 f0 f1 f2 f3 f4 hz1 HX1 HY1 HBB;have d0:=(Zaa hxd 0);have d1:=(Zaa hxd 1);have d2:=(Zaa hxd 2);have d3:=(Zaa hxd 3);have d4:=(Zaa hxd 4)
   have e0:=(Zaa hye 0);have e1:=(Zaa hye 1);have e2:=(Zaa hye 2);have e3:=(Zaa hye 3);have e4:=(Zaa hye 4)
   simp at d0 d1 d2 d3 d4 e0 e1 e2 e3 e4;obtain⟨d0,k0⟩:=d0;obtain⟨d1,k1⟩:=d1;obtain⟨d2,k2⟩:=d2;obtain⟨d3,k3⟩:=d3;obtain⟨d4,k4⟩:=d4
   obtain⟨e0,f0⟩:=e0;obtain⟨e1,f1⟩:=e1;obtain⟨e2,f2⟩:=e2;obtain⟨e3,f3⟩:=e3;obtain⟨e4,f4⟩:=e4
   clear hxd hye;by_cases h0:er=0
   · subst h0
     have HV2:Hid (Zzq n r=.tuple #[bqV 1 ((n:Int)-1) 0 C (.slice none 0 0),iV 0]):=hid (by rw[HV.out,if_neg (by simp)]);clear HV;go_wp2_with fail;change bodyPost _ _ _ _ _ (Ze1 z1 E (iV 1) (iV ((n:Int)-1)) (iV 0) (iV C) (.slice none 0 0));have hz:=Zc2 HYE.out (iV 1) (iV ((n:Int)-1)) (iV 0) (iV C) (.slice none 0 0);have HZB:=hid (Zbf HB2.out HDE.out.1 (iV 1) (iV ((n:Int)-1)) (iV 0) (iV C) (.slice none 0 0));obtain⟨z,hzz⟩:=eX (Ze1 z1 E (iV 1) (iV ((n:Int)-1)) (iV 0) (iV C) (.slice none 0 0));rw[hzz]at hz HZB⊢;have g0:=(Zaa hz 0).1;have g1:=(Zaa hz 1).1;have g2:=(Zaa hz 2).1;have g3:=(Zaa hz 3).1;have g4:=(Zaa hz 4).1
     simp at g0 g1 g2 g3 g4;exact bodyPost_ret (v:=.tuple #[.agg #[iV 1,iV ((n:Int)-1),iV 0,iV C,.slice none 0 0],iV 0]) (by simp[results,Tryz.results55,go_sem,g0,g1,g2,g3,g4]) rfl ⟨by rw[HV2.out],HZB.out⟩
   · have HV2:Hid (Zzq n r=.tuple #[bqV 0 0 0 0 (.slice none 0 0),iV er]):=hid (by rw[HV.out,if_pos h0])
     clear HV;go_wp2_with fail;change bodyPost _ _ _ _ _ (Ze1 z1 E (iV 0) (iV 0) (iV 0) (iV 0) (.slice none 0 0));have hz:=Zc2 HYE.out (iV 0) (iV 0) (iV 0) (iV 0) (.slice none 0 0);have HZB:=hid (Zbf HB2.out HDE.out.1 (iV 0) (iV 0) (iV 0) (iV 0) (.slice none 0 0));obtain⟨z,hzz⟩:=eX (Ze1 z1 E (iV 0) (iV 0) (iV 0) (iV 0) (.slice none 0 0));rw[hzz]at hz HZB⊢;have g0:=(Zaa hz 0).1;have g1:=(Zaa hz 1).1;have g2:=(Zaa hz 2).1;have g3:=(Zaa hz 3).1;have g4:=(Zaa hz 4).1
     simp at g0 g1 g2 g3 g4;exact bodyPost_ret (v:=.tuple #[.agg #[iV 0,iV 0,iV 0,iV 0,.slice none 0 0],iV er]) (by simp[results,Tryz.results55,go_sem,g0,g1,g2,g3,g4]) rfl ⟨by rw[HV2.out],HZB.out⟩
end
end Go.Proofs.YtgcidfenjlmljaaGreat.Bt
