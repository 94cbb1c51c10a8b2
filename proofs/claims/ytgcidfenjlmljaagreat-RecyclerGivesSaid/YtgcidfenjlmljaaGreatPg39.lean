import Derived.Test.YtgcidfenjlmljaaGreatPg38
import Derived.Test.YtgcidfenjlmljaaGreatPg30
import Derived.Laws.AppendOwn
import Derived.WalkSpells
import Derived.WalkLawsBesides
import Derived.Test.YtgcidfenjlmljaaGreatPg28
import Derived.Deep.RegionHeld3
import Derived.Test.YtgcidfenjlmljaaGreatPgR
set_option linter.unusedVariables false
set_option linter.unusedSimpArgs false
set_option maxRecDepth 100000
set_option maxHeartbeats 16000000
namespace Go.Proofs.YtgcidfenjlmljaaGreat.Bt
section
open Go Go.RowKit Go.Shelf
def trP (L:List (Nat × Nat × Bool)) (ps:List Nat):List (Nat × Nat × Bool):=ps.foldl (fun(M:List (Nat × Nat × Bool)) (p:Nat)=>wr8 M ((p:Int)-1)) L
def trK (L:List (Nat × Nat × Bool)) (q:Nat->List Nat):Nat->List (Nat × Nat × Bool)
 |0=>L
 |k+1=>trP (trK L q k) (q k)
theorem Zyl {L:List (Nat × Nat × Bool)} {l:List Nat} {j:Nat} (h:j<l.length):trP L (l.take (j+1))=wr8 (trP L (l.take j)) ((l.getD j 0:Nat)-1:Int):=by
 unfold trP;rw[List.take_add_one,List.foldl_append];have e:l[j]?=some (l.getD j 0):=by rw[List.getD_eq_getElem?_getD,List.getElem?_eq_getElem h];rfl
 rw[e];rfl
theorem Ycn (L:List (Nat × Nat × Bool)) (ps:List Nat):(trP L ps).length<=L.length:=by
 unfold trP
 induction ps generalizing L with
 |nil=>exact Nat.le_refl _
 |cons p ps ih=>exact Nat.le_trans (ih _) (Zk2 _ _)
theorem Zuf (L:List (Nat × Nat × Bool)) (q:Nat->List Nat):∀k,(trK L q k).length<=L.length
 |0=>Nat.le_refl _
 |k+1=>Nat.le_trans (Ycn _ _) (Zuf L q k)
def Yh1 (n g r K:Int) (L:List (Nat × Nat × Bool)) (nn:Nat->Nat) (O:Value) (w:World) (e:Ending) (w':World):Prop:=
 ∃u c,e=.returned (.tuple #[rqV n g r K (.slice u L.length c) q0P q0N q0N O,iV ((Zfz nn 5:Nat):Int)])/\Zcg w' u L/\Below w.heap.size w w'
structure DTs (n g r K:Int) (P:Nat->Option Addr) (nn C:Nat->Nat) (op:Option Addr) (on oc:Nat) (w:World) (D E:Nat) (L:List (Nat × Nat × Bool)) (u:Option Addr) (tc:Nat) (x:World):Prop where
 fb:Fb w [⟨E,rqZ,33⟩,rqB D n g r K (.slice u L.length tc) P nn C (.slice op on oc)] x
 rn:Zcg x u L
 ln:L.length<=2000
theorem DTs.free {n g r K:Int} {P:Nat->Option Addr} {nn C:Nat->Nat} {op:Option Addr} {on oc:Nat} {w:World} {D E:Nat} {L:List (Nat × Nat × Bool)} {u:Option Addr} {tc:Nat} {x:World} (h:DTs n g r K P nn C op on oc w D E L u tc x) (p:Nat) (hp:1<=p/\p<=100000):
 Calls Tryz.prog 136 #[rqV n g r K (.slice u L.length tc) P nn C (.slice op on oc),iV ((4096*p:Nat):Int)] x fun e x'=>∃u2 c2,e=.returned (rqV n g r K (.slice u2 (wr8 L ((p:Int)-1)).length c2) P nn C (.slice op on oc))/\
  Fb w [⟨E,rqZ,33⟩,rqB D n g r K (.slice u L.length tc) P nn C (.slice op on oc)] x'/\DTs n g r K P nn C op on oc w D E (wr8 L ((p:Int)-1)) u2 c2 (stR x' D (rqL n g r K (.slice u2 (wr8 L ((p:Int)-1)).length c2) P nn C (.slice op on oc)) 0):=by
 refine(Znx n g r K u tc L h.ln P nn C op on oc p hp h.rn).mono ?_
 rintro e x' ⟨u2,c2,rfl,hr,hb⟩;have hf:=h.fb.below hb;have c:=(Zaf hf.at1).2.2.1
 exact⟨u2,c2,rfl,hf,hf.Zgk (rqL n g r K (.slice u2 (wr8 L ((p:Int)-1)).length c2) P nn C (.slice op on oc)) rfl,hr.stR (Zm6 hr c) _ _,Nat.le_trans (Zk2 _ _) h.ln⟩
section
variable {w:World}
theorem Zjx (n g r K:Int) (u:Option Addr) (tc:Nat) (L:List (Nat × Nat × Bool)) (hL:L.length<=2000) (P:Nat->Option Addr) (nn C:Nat->Nat) (q:Nat->List Nat) (op:Option Addr) (on oc:Nat)
 (hq:QAt P q w) (hn:∀k,nn k=(q k).length) (hl:∀k,(q k).length<=1000) (hp:∀k,k<5->∀p∈q k,1<=p/\p<=100000) (h:Zcg w u L):
 Calls Tryz.prog 69 #[rqV n g r K (.slice u L.length tc) P nn C (.slice op on oc)] w (Yh1 n g r K (trK L q 5) nn (.slice op on oc) w):=by
 have HN:=hid hn;have HLE:=hid hl;have HP:=hid hp;have HQ:=hid hq
 have HC:=hid fun X=>Zdv P nn C (fun k=>by rw[hn k];have:=hl k;omega) X
 have hf:=((Fb.start w).new (rqA (n) (g) (r) (K) (.slice u L.length tc) (P) (nn) (C) (.slice op on oc)) 33).new rqZ 33;have hr:=(h.below (Zaj w (.cells (rqA (n) (g) (r) (K) (.slice u L.length tc) (P) (nn) (C) (.slice op on oc)) 33))).below (Zaj _ (.cells rqZ 33));clear h hn hl hp hq;go_enter Tryz.func69,Tryz.ntmps69;go_upto_region 1 with fail;change Code.wp _ _ _ _ ((w.alloc (.cells (rqA (n) (g) (r) (K) (.slice u L.length tc) (P) (nn) (C) (.slice op on oc)) 33)).alloc (.cells rqZ 33));have hE1:(w.alloc (.cells (rqA (n) (g) (r) (K) (.slice u L.length tc) (P) (nn) (C) (.slice op on oc)) 33)).heap.size=w.heap.size+1:=by simp
 obtain⟨x,hx⟩:=eX ((w.alloc (.cells (rqA (n) (g) (r) (K) (.slice u L.length tc) (P) (nn) (C) (.slice op on oc)) 33)).alloc (.cells rqZ 33));rw[hx,hE1]at hf;rw[hx]at hr;obtain⟨E,hE⟩:=eX (w.heap.size+1);obtain⟨D,hD⟩:=eX w.heap.size;rw[hE,hD]at hf;rw[hx,hE,hD];have HS:Hid (DTs n g r K P nn C op on oc w D E L u tc x):=hid ⟨hf,hr,hL⟩;clear hx hE1 hE hD hf hr;obtain⟨c0,c1,c2,c3,c4,c5,c6,c7,c8,c9,c10,c11⟩:=Zaf HS.out.fb.at1;go_wp2_with fail
 refine(HC.out _).mono ?_
 rintro e w1 ⟨rfl,hb⟩;have HS1:Hid (DTs n g r K P nn C op on oc w D E L u tc w1):=hid ⟨HS.out.fb.below hb,HS.out.rn.below hb,HS.out.ln⟩;clear hb HS HC c0 c1 c2 c3 c4 c5 c6 c7 c8 c9 c10 c11;obtain⟨c0,c1,c2,c3,c4,c5,c6,c7,c8,c9,c10,c11⟩:=Zaf HS1.out.fb.at1;go_wp2_with fail
 go_loopw[14] (fun s14 wr=>∃k:Nat,k<=5/\s14=iV k/\∃u' c',Hid (DTs n g r K P nn C op on oc w D E (trK L q k) u' c' wr)) (fun s14 _=>5-(intOf s14).toNat)
 case atStart=>exact⟨0,by omega,rfl,u,tc,HS1⟩
 case round=>
  clear HS1 c0 c1 c2 c3 c4 c5 c6 c7 c8 c9 c10 c11;obtain⟨k,hk,rfl,u',c',HS⟩:=hrel;by_cases h5:k<5
  · have hk2:(k:Int)<5:=by omega
    have hidx:=Zvf P nn C k h5 wr;obtain⟨nk,hnk⟩:=eX (nn k);obtain⟨ck,hck⟩:=eX (C k);obtain⟨pk,hpk⟩:=eX (P k);have HR:=hid (HQ.out k h5);have HNK:Hid (nk=(q k).length):=hid (by rw[<-hnk];exact HN.out k);rw[hpk]at HR;rw[hnk,hck,hpk]at hidx;have HNB:Hid (nk<=1000):=hid (by rw[HNK.out];exact HLE.out k);clear hnk hck hpk;go_wp2_with fail
    go_loopw[19] (fun s19 wr'=>∃j:Nat,j<=nk/\s19=iV j/\∃u' c',Hid (DTs n g r K P nn C op on oc w D E (trP (trK L q k) ((q k).take j)) u' c' wr')) (fun s19 _=>nk-(intOf s19).toNat)
    case atStart=>exact⟨0,by omega,rfl,u',c',by rw[List.take_zero];exact HS⟩
    case round=>
     clear HS;obtain⟨j,hj,rfl,u',c',HS⟩:=hrel;have hnb:=HNB.out;by_cases hlt:j<nk
     · rcases HR.out.Zx0 HS.out.fb.be with he|⟨b,off,rfl,hbl,hcl⟩
       · have:=HNK.out;have e2:=congrArg List.length he;simp[adI]at e2;rw[e2]at this;simp at this;omega
       · have hjq:j<(q k).length:=by have:=HNK.out;omega
         have hc:=hcl j (by simp[adI];exact hjq);obtain⟨p,hpp⟩:=eX ((q k).getD j 0)
         have hz:(adI (q k)).getD j 0=((4096*p:Nat):Int):=by
          rw[<-hpp];unfold adI
          rw[List.getD_eq_getElem?_getD,List.getElem?_map,List.getD_eq_getElem?_getD,List.getElem?_eq_getElem hjq];rfl
         rw[hz]at hc;have hpm:p∈q k:=by rw[<-hpp,List.getD_eq_getElem?_getD,List.getElem?_eq_getElem hjq];exact List.getElem_mem hjq
         have HNX:=hid (Zyl (L:=trK L q k) hjq);rw[hpp]at HNX;have HFR:=hid (HS.out.free p (HP.out k h5 p hpm));rw[<-HNX.out]at HFR;obtain⟨a,ha⟩:=eX (((4096*p:Nat):Int):Int);rw[ha]at hc HFR;obtain⟨d0,d1,d2,d3,d4,d5,d6,d7,d8,d9,d10,d11⟩:=Zaf HS.out.fb.at1;obtain⟨LN,hLN⟩:=eX (trP (trK L q k) (List.take (j+1) (q k)));rw[hLN]at HFR;have HLN:=hid hLN;generalize trP (trK L q k) (List.take j (q k))=LJ at*
         obtain⟨lj,hlj⟩:=eX LJ.length;rw[hlj]at HFR d4;clear hcl hz hpm hpp hjq HNX ha HS hidx hLN;go_wp2_with fail;refine HFR.out.mono ?_;rintro e w3 ⟨u2,c2,rfl,hf,hs⟩;have HS3:=hid hs;obtain⟨ln,hln⟩:=eX LN.length;obtain⟨d0,d1,d2,d3,d4,d5,d6,d7,d8,d9,d10,d11⟩:=Zaf hf.at1;obtain⟨z0,z1,z2,z3,z4,z5,z6,z7,z8,z9,z10,z11⟩:=Zap hf.at1;rw[hln]at HS3⊢;clear hln;clear hf hs HFR hc;go_wp2_with fail;go_roundw
         case rel=>exact⟨j+1,by omega,by go_num,u2,c2,by rw[HLN.out];exact HS3⟩
         case measure=>simp[intOf];omega
     · have e:j=nk:=by omega
       have HS2:Hid (DTs n g r K P nn C op on oc w D E (trK L q (k+1)) u' c' wr):=hid (by
        have:=HS.out
        rw[e,HNK.out,List.take_length]at this;exact this)
       clear hidx HS;go_wp2_with fail;go_roundw
       case rel=>exact⟨k+1,by omega,by go_num,u',c',HS2⟩
       case measure=>simp[intOf];omega
  · have e5:k=5:=by omega
    subst e5;obtain⟨LF,hLF⟩:=eX (trK L q 5);have HLF:=hid hLF;rw[hLF]at HS;obtain⟨ln,hln⟩:=eX LF.length;have HLL:=hid hln;have hs:=HS.out;obtain⟨d0,d1,d2,d3,d4,d5,d6,d7,d8,d9,d10,d11⟩:=Zaf hs.fb.at1;obtain⟨z0,z1,z2,z3,z4,z5,z6,z7,z8,z9,z10,z11⟩:=Zap hs.fb.at1;have hk5:¬((5:Nat):Int)<5:=by omega
    rw[hln]at d4;clear hs hLF hln;go_upto_region 12 with fail;change Code.wp _ _ _ _ (stR wr D [.slice none 0 0,.slice none 0 0,.slice none 0 0,.slice none 0 0,.slice none 0 0] 5);have hf2:Fb w [⟨E,rqZ,33⟩,rqB D n g r K (.slice u' LF.length c') q0P q0N q0N (.slice op on oc)] (stR wr D [.slice none 0 0,.slice none 0 0,.slice none 0 0,.slice none 0 0,.slice none 0 0] 5):=HS.out.fb.Zft [.slice none 0 0,.slice none 0 0,.slice none 0 0,.slice none 0 0,.slice none 0 0] 5;have hr2:=HS.out.rn.stR (Zm6 HS.out.rn d2) [.slice none 0 0,.slice none 0 0,.slice none 0 0,.slice none 0 0,.slice none 0 0] 5;obtain⟨x2,hx2⟩:=eX (stR wr D [.slice none 0 0,.slice none 0 0,.slice none 0 0,.slice none 0 0,.slice none 0 0] 5);rw[hx2]at hf2 hr2⊢;rw[HLL.out]at hf2;have HF2:=hid hf2;have HR2:=hid hr2
    clear hx2 hf2 hr2 HS d0 d1 d2 d3 d4 d5 d6 d7 d8 d9 d10 d11 z0 z1 z2 z3 z4 z5 z6 z7 z8 z9 z10 z11 hk5;obtain⟨d0,d1,d2,d3,d4,d5,d6,d7,d8,d9,d10,d11⟩:=Zaf HF2.out.at1;obtain⟨z0,z1,z2,z3,z4,z5,z6,z7,z8,z9,z10,z11⟩:=Zap HF2.out.at0;obtain⟨o0,o1,o2,o3,o4,o5,o6,o7,o8,o9,o10,o11⟩:=Zbl HF2.out.at0;have HF3:=hid (HF2.out.Zd9 (rqL (n) (g) (r) (K) (.slice u' ln c') (q0P) (q0N) (q0N) (.slice op on oc)) rfl);have HR3:=hid (HR2.out.stR (Zm6 HR2.out o2) (rqL (n) (g) (r) (K) (.slice u' ln c') (q0P) (q0N) (q0N) (.slice op on oc)) 0);clear HF2 HR2;go_wp2_with fail;change bodyPost _ _ _ _ _ (stR x2 E (rqL (n) (g) (r) (K) (.slice u' ln c') (q0P) (q0N) (q0N) (.slice op on oc)) 0);obtain⟨y0,y1,y2,y3,y4,y5,y6,y7,y8,y9,y10,y11⟩:=Zaf HF3.out.at0;have HPO:=hid ((by rw[<-HLL.out];exact⟨u',c',rfl,by rw[HLL.out];exact HR3.out,by rw[HLL.out];exact HF3.out.be⟩:Yh1 n g r K LF nn (.slice op on oc) w (.returned (.tuple #[.agg (rqA (n) (g) (r) (K) (.slice u' ln c') (q0P) (q0N) (q0N) (.slice op on oc)),iV ((Zfz nn 5:Nat):Int)])) (stR x2 E (rqL (n) (g) (r) (K) (.slice u' ln c') (q0P) (q0N) (q0N) (.slice op on oc)) 0)));obtain⟨z,hz⟩:=eX (stR x2 E (rqL (n) (g) (r) (K) (.slice u' ln c') (q0P) (q0N) (q0N) (.slice op on oc)) 0);rw[hz]at HPO y0 y1 y2 y3 y4 y5 y6 y7 y8 y9 y10 y11⊢;exact bodyPost_ret (v:=.tuple #[.agg (rqA (n) (g) (r) (K) (.slice u' ln c') (q0P) (q0N) (q0N) (.slice op on oc)),iV ((Zfz nn 5:Nat):Int)]) (by simp[results,Tryz.results69,go_sem,y0,y1,y2,y3,y4,y5,y6,y7,y8,y9,y10,y11]) rfl (by rw[HLF.out];exact HPO.out)
end
end
section
open Go Go.RowKit Go.Shelf
structure Hd where
 a:Int
 o:Int
 u:Int
 x:Int
def hdL (c:Hd):List Value:=[iV c.a,iV c.o,.int .u64 c.u,iV c.x]
def hsL:List Hd->List Value
 |[]=>[]
 |c::l=>hdL c++hsL l
theorem Zkt (l l':List Hd):hsL (l++l')=hsL l++hsL l':=by
 induction l with
 |nil=>rfl
 |cons c l ih=>show hdL c++hsL (l++l')=(hdL c++hsL l)++hsL l';rw[ih,List.append_assoc]
theorem Zf6 (l:List Hd):(hsL l).length=l.length*4:=by
 induction l with
 |nil=>rfl
 |cons c l ih=>show(hdL c++hsL l).length=_;rw[List.length_append,ih];simp[hdL];omega
def hdZ:Hd:=⟨0,0,0,0⟩
theorem Zwh (l:List Hd) (j:Nat) (h:j<l.length) (k:Nat) (hk:k<4):(hsL l)[j*4+k]?=(hdL (l.getD j hdZ))[k]?:=by
 induction l generalizing j with
 |nil=>simp at h
 |cons c l ih=>
  show(hdL c++hsL l)[j*4+k]?=_
  rcases j with _|j
  · rw[List.getElem?_append_left (by simp[hdL];omega)];simp
  · rw[List.getElem?_append_right (by simp[hdL];omega)]
    have e:(j+1)*4+k-(hdL c).length=j*4+k:=by simp[hdL];omega
    rw[e,ih j (by simpa using h)];simp
def Zof (w:World) (v:Value) (hs:List Hd):Prop:=
 (v=.slice none 0 0/\hs=[])\/∃b cap c fr,v=.slice (some (aD b 0)) hs.length cap/\w.heap[b]?=some (.cells c 65 fr)/\
  ∀j,j<hs.length->w.cell? (aD b (j*4))=some (iV (hs.getD j hdZ).a)/\w.cell? (aD b (j*4+1))=some (iV (hs.getD j hdZ).o)/\w.cell? (aD b (j*4+2))=some (.int .u64 (hs.getD j hdZ).u)/\w.cell? (aD b (j*4+3))=some (iV (hs.getD j hdZ).x)
theorem Zof.same {w w':World} {v:Value} {hs:List Hd} (h:Zof w v hs) (hk:∀(b:Nat) (c:Array Value) (fr:Nat × Nat),w.heap[b]?=some (Obj.cells c 65 fr)->w'.heap[b]?=w.heap[b]?):Zof w' v hs:=by
 rcases h with h|⟨b,cap,c,fr,e,hb,hc⟩
 · exact .inl h
 · have h1:=hk b c fr hb
   have h2:∀o,w'.cell? (aD b o)=w.cell? (aD b o):=fun o=>World.cell?_of_block (w:=w) (a:=(aD b o)) h1
   exact .inr ⟨b,cap,c,fr,e,h1.trans hb,fun j hj=>by obtain⟨q0,q1,q2,q3⟩:=hc j hj;exact⟨(h2 _).trans q0,(h2 _).trans q1,(h2 _).trans q2,(h2 _).trans q3⟩⟩
theorem Zof.below {w w':World} {v:Value} {hs:List Hd} (h:Zof w v hs) (hb:Below w.heap.size w w'):Zof w' v hs:=h.same fun b c fr e=>hb.block b (Array.getElem?_eq_some_iff.1 e).1
theorem Zof.Zaq {A:Nat} {s:ASt} {w w':World} {v:Value} {hs:List Hd} (h:Zof w v hs) (ho:On A s w) (hg:Zam A w w'):Zof w' v hs:=h.same fun b c fr e=>by
 rw[e];exact hg.Zdn ho e (by decide) (by decide) (by decide)
theorem Ybs {W:World} {base:Nat} {v:Value} {hs:List Hd} (h:W.ownsRow base 65 4 v hs.length (hsL hs)):Zof W v hs:=by
 rcases h.2 with⟨rfl,h0⟩|⟨g,cap,cur,rfl,_,hg,hnc,_,hcs,htk⟩
 · exact .inl ⟨rfl,List.eq_nil_of_length_eq_zero h0⟩
 · refine .inr ⟨g,cap,cur,_,rfl,hg,fun j hj=>?_⟩
   have key:∀k,k<4->W.cell? (aD g (j*4+k))=(hdL (hs.getD j hdZ))[k]?:=fun k hk=>by
    rw[(Zaa hg _).1,<-Zwh hs j hj k hk,<-htk,List.getElem?_take,if_pos (by omega)];simp
   have k0:=key 0 (by omega);have k1:=key 1 (by omega);have k2:=key 2 (by omega);have k3:=key 3 (by omega)
   exact⟨by simpa[hdL]using k0,by simpa[hdL]using k1,by simpa[hdL]using k2,by simpa[hdL]using k3⟩
theorem Ze7 {W w1 w:World} {base n k:Nat} {e:TypeId} {v:Value} {xs:List Value} (hrow:W.ownsRow base e k v n xs) (hgrow:W.grownBy w1 v.ownBlock) (hs:base<=W.heap.size) (hb:Below base w W):Below base w w1:=
 hb.grown hgrow (by omega) fun j ej=>by
  rcases hrow.2 with⟨rfl,_⟩|⟨g,cap,cur,rfl,h,_⟩
  · simp[Value.ownBlock]at ej
  · obtain rfl:g=j:=by simpa[Value.ownBlock]using ej
    exact h
theorem Tryz.Zq1:(Tryz.prog.info? 65).map (fun i=>(i.zero,i.size,i.bytes))=some (some (.agg #[iV 0,iV 0,.int .u64 0,iV 0]),4,32):=by kernel_rfl
theorem Zq6 {w:World} (c:Hd) (T:TypeId) {g:Nat} (hg:w.heap.size=g):∀j u,(hdL c)[j]?=some u->(w.alloc (.cells #[iV c.a,iV c.o,.int .u64 c.u,iV c.x] T)).cell? (((aD g 0):Addr).add j)=some u:=fun j u h=>by
 subst hg;have e:((aD w.heap.size 0):Addr).add j=(aD w.heap.size j):=by simp only[Addr.add];split<;>simp_all
 rw[e,(Zaa (Zab w _) _).1,<-h];unfold hdL;simp
def wo (hs:List Hd) (a:Int):List Hd:=hs.filter fun c=>c.a !=a
theorem Ybg (hs:List Hd) (a:Int):(wo hs a).length<=hs.length:=List.length_filter_le _ _
theorem Zks {hs:List Hd} {j:Nat} (h:j<hs.length):hs.take (j+1)=hs.take j++[hs.getD j hdZ]:=by
 rw[List.take_succ_eq_append_getElem h,List.getD_eq_getElem?_getD,List.getElem?_eq_getElem h];rfl
theorem Zt1 {hs:List Hd} {a:Int} {j:Nat} (h:j<hs.length):wo (hs.take (j+1)) a=if(hs.getD j hdZ).a=a then wo (hs.take j) a else wo (hs.take j) a++[hs.getD j hdZ]:=by
 rw[Zks h];generalize hs.getD j hdZ=c;unfold wo;rw[List.filter_append];by_cases e:c.a=a
 · rw[if_pos e];simp[e]
 · rw[if_neg e];simp[e]
end
section
open Go Go.RowKit Go.Shelf
theorem Zkg (R:Zag) (g:Nat):(tkT R g).Pairwise (fun a b=>a.1<b.1):=by
 unfold tkT;exact List.pairwise_map.2 (Zdb R g)
theorem Ycl (L:List (Nat × Nat × Bool)) (ps:List Nat):(trP L ps).Sublist L:=by
 unfold trP
 induction ps generalizing L with
 |nil=>exact List.Sublist.refl _
 |cons p ps ih=>exact(ih _).trans List.filter_sublist
theorem Zud (L:List (Nat × Nat × Bool)) (q:Nat->List Nat):∀k,(trK L q k).Sublist L
 |0=>List.Sublist.refl _
 |k+1=>(Ycl _ _).trans (Zud L q k)
theorem Ycm {L:List (Nat × Nat × Bool)} {ps:List Nat} {y:Nat × Nat × Bool}:y∈trP L ps↔y∈L/\∀p∈ps,(y.1:Int)≠(p:Int)-1:=by
 unfold trP
 induction ps generalizing L with
 |nil=>simp
 |cons p ps ih=>
  show y∈List.foldl _ (wr8 L ((p:Int)-1)) ps↔_;rw[ih];unfold wr8;rw[List.mem_filter,decide_eq_true_iff]
  constructor
  · rintro ⟨⟨a,b⟩,c⟩
    exact⟨a,fun r hr=>by
     rcases List.mem_cons.1 hr with rfl|hr
     · exact b
     · exact c r hr⟩
  · rintro ⟨a,b⟩
    exact⟨⟨a,b p (List.mem_cons_self ..)⟩,fun r hr=>b r (List.mem_cons_of_mem _ hr)⟩
theorem Zue {L:List (Nat × Nat × Bool)} {q:Nat->List Nat} {y:Nat × Nat × Bool}:∀{k:Nat},y∈trK L q k↔y∈L/\∀j,j<k->∀p∈q j,(y.1:Int)≠(p:Int)-1
 |0=>⟨fun h=>⟨h,fun j hj=>by omega⟩,fun h=>h.1⟩
 |k+1=>by
  show y∈trP (trK L q k) (q k)↔_;rw[Ycm,Zue]
  constructor
  · rintro ⟨⟨a,b⟩,c⟩
    exact⟨a,fun j hj=>by
     by_cases e:j=k
     · subst e;exact c
     · exact b j (by omega)⟩
  · rintro ⟨a,b⟩
    exact⟨⟨a,fun j hj=>b j (by omega)⟩,b k (by omega)⟩
theorem Yff {R R':Zag} {g x y:Nat} {q:Nat->List Nat} (h:Til g R x) (h':Til g R' y) (t:∀i l,R' i=some (l,true)↔R i=some (l,true)/\¬InQ q (1+i)) (hp:∀j,j<5->∀p∈q j,1<=p):trK (tkT R g) q 5=tkT R' g:=by
 refine Zgt ((Zkg R g).sublist (Zud _ _ _)) (Zkg R' g) fun⟨i,k,b⟩=>?_
 rw[Zue,Zfo,Zfo]
 constructor
 · rintro ⟨⟨rfl,h1,h2⟩,h3⟩
   refine⟨rfl,h1,(t i k).2 ⟨h2,?_⟩⟩
   rintro ⟨j,hj,hm⟩;exact h3 j hj _ hm (by show(i:Int)=_;omega)
 · rintro ⟨rfl,h1,h2⟩
   obtain⟨c1,c2⟩:=(t i k).1 h2
   refine⟨⟨rfl,h1,c1⟩,fun j hj p hm c=>c2 ⟨j,hj,?_⟩⟩
   have:=hp j hj p hm
   have e:1+i=p:=by
    have c3:(i:Int)=(p:Int)-1:=c;omega
   rw[e];exact hm
structure DIn (u:Option Addr) (L:List (Nat × Nat × Bool)) (P:Nat->Option Addr) (nn C:Nat->Nat) (q:Nat->List Nat) (op:Option Addr) (on oc:Nat) (hs:List Hd) (w:World):Prop where
 rn:Zcg w u L
 ln:L.length<=2000
 qa:QAt P q w
 nq:∀k,nn k=(q k).length
 nl:∀k,(q k).length<=1000
 pg:∀k,k<5->∀p∈q k,1<=p/\p<=100000
 cn:∀k,P k=none->C k=0
 cc:∀k,nn k<=C k
 ho:Zof w (.slice op on oc) hs
 hn:on=hs.length
 hl:hs.length<=1000
theorem DIn.below {u:Option Addr} {L:List (Nat × Nat × Bool)} {P:Nat->Option Addr} {nn C:Nat->Nat} {q:Nat->List Nat} {op:Option Addr} {on oc:Nat} {hs:List Hd} {w w':World} (h:DIn u L P nn C q op on oc hs w) (hb:Below w.heap.size w w'):DIn u L P nn C q op on oc hs w':=
 {h with rn:=h.rn.below hb,qa:=h.qa.below hb,ho:=h.ho.below hb}
def Pfr (q:Nat->List Nat) (P P':Nat->Option Addr) (w:World):Prop:=∀k,k<5->True->P' k=P k\/∀g off,P' k=some (aD g off)->w.heap.size<=g
def Zj4 (n g r K:Int) (L:List (Nat × Nat × Bool)) (q:Nat->List Nat) (hs:List Hd) (P:Nat->Option Addr) (w:World) (v:Value) (w':World):Prop:=
 ∃u c P' nn' C' op on oc,v=rqV n g r K (.slice u L.length c) P' nn' C' (.slice op on oc)/\DIn u L P' nn' C' q op on oc hs w'/\Pfr q P P' w/\Below w.heap.size w w'
section
variable {w:World} {u:Option Addr} {L:List (Nat × Nat × Bool)} {P:Nat->Option Addr} {nn C:Nat->Nat} {q:Nat->List Nat} {op:Option Addr} {on oc:Nat} {hs:List Hd}
theorem DIn.stR {x:World} (h:DIn u L P nn C q op on oc hs x) {D:Nat} {c:Array Value} {t:TypeId} {fr:Nat × Nat} {v:Int} (hd:x.heap[D]?=some (.cells c t fr)) (ht:t≠65) (h2:x.cell? (aD D 2)=some (iV v))
 (hP:∀k,k<5->q k≠[]->∀g off,P k=some (aD g off)->g≠D) (vs:List Value) (k:Nat):DIn u L P nn C q op on oc hs (Bt.stR x D vs k):=
 {h with
  rn:=h.rn.stR (Zm6 h.rn h2) vs k
  qa:=fun j hj=>by
   by_cases e:q j=[]
   · exact .inl (by rw[e];rfl)
   · exact Zg0 (h.qa j hj) (hP j hj e) (fun i hi=>Zcn hi vs k x) (Zgr D vs k x)
  ho:=h.ho.same fun b c2 fr2 e=>Zcn (fun e2=>by
   rw[e2,hd]at e;simp only[Option.some.injEq,Obj.cells.injEq]at e;exact ht e.2.1) vs k x}
theorem DIn.fb {Bs:List Blk} {x:World} (h:DIn u L P nn C q op on oc hs w) (hf:Fb w Bs x):DIn u L P nn C q op on oc hs x:=h.below hf.be
theorem Yb2 (n g r K:Int) (tc:Nat) (h:DIn u L P nn C q op on oc hs w):
 Calls Tryz.prog 69 #[rqV n g r K (.slice u L.length tc) P nn C (.slice op on oc)] w fun e w'=>∃v,e=.returned (.tuple #[v,iV ((Zfz nn 5:Nat):Int)])/\Zj4 n g r K (trK L q 5) (fun _=>[]) hs P w v w':=by
 refine(Zjx n g r K u tc L h.ln P nn C q op on oc h.qa h.nq h.nl h.pg h.rn).mono ?_
 rintro e w' ⟨u2,c2,rfl,hr,hb⟩
 exact⟨_,rfl,u2,c2,q0P,q0N,q0N,op,on,oc,rfl,⟨hr,Nat.le_trans (Zuf L q 5) h.ln,fun k hk=> .inl rfl,fun k=>rfl,fun k=>Nat.zero_le _,fun k hk p hp=>(by cases hp),fun k _=>rfl,fun k=>Nat.le_refl _,h.ho.below hb,h.hn,h.hl⟩,fun k hk c=> .inr fun g off e=>(by unfold q0P at e;cases e),hb⟩
theorem Zpp (n g r K:Int) (tc:Nat) (a:Int) (h:DIn u L P nn C q op on oc hs w):
 Calls Tryz.prog 189 #[rqV n g r K (.slice u L.length tc) P nn C (.slice op on oc),iV a] w (Zan (.bool (Zik q a)) w):=by
 have hf:=(Fb.start w).new (rqA (n) (g) (r) (K) (.slice u L.length tc) (P) (nn) (C) (.slice op on oc)) 33;have HC:=hid fun X (hX:QAt P q X)=>Zy9 P nn C q a X hX h.nq h.nl
 have HQ:=hid h.qa;clear h;go_enter Tryz.func189,Tryz.ntmps189;go_upto_region 1 with fail;change Code.wp _ _ _ _ (w.alloc (.cells (rqA (n) (g) (r) (K) (.slice u L.length tc) (P) (nn) (C) (.slice op on oc)) 33));obtain⟨x,hx⟩:=eX (w.alloc (.cells (rqA (n) (g) (r) (K) (.slice u L.length tc) (P) (nn) (C) (.slice op on oc)) 33));rw[hx]at hf;obtain⟨D,hD⟩:=eX w.heap.size;have HWD:=hid hD;have HB:=hid hf.be;have HQX:=hid (HQ.out.below hf.be);rw[hD]at hf;rw[hx,hD];have cQ:=Zaf hf.at0;clear hx hD hf;go_wp2_with fail
 refine(HC.out _ HQX.out).mono ?_
 rintro e w1 ⟨rfl,hb⟩;have HB1:=hid (HB.out.trans (hb.mono HB.out.size));clear hb;go_wp2_with fail
 go_ret
 exact⟨rfl,HB1.out⟩
def Zpb (L:List (Nat × Nat × Bool)) (q:Nat->List Nat) (K c:Nat):List (Nat × Nat × Bool):=if K<c then trK L q 5 else L
def Zpa (q:Nat->List Nat) (K c:Nat):Nat->List Nat:=if K<c then fun _=>[]else q
theorem Zxb (n g r K:Int) (tc:Nat) (p:Int) (hp0: -9223372036854775808<=p) (hp1:p<=9223372036854775807) (h:DIn u L P nn C q op on oc hs w):
 Calls Tryz.prog 70 #[rqV n g r K (.slice u L.length tc) P nn C (.slice op on oc),iV p] w fun e w'=>∃v,e=.returned v/\Zj4 n g r (p.toNat:Int) (Zpb L q p.toNat (Zfz nn 5)) (Zpa q p.toNat (Zfz nn 5)) hs P w v w':=by
 obtain⟨K',hK'⟩:=eX p.toNat;have hp:(if p<0 then 0 else p)=(K':Int):=by split<;>omega
 rw[hK'];have hcb:Zfz nn 5<=5*68719476736:=Zgm (fun k=>by rw[h.nq k];have:=h.nl k;omega) 5 (Nat.le_refl _);have HC:=hid fun X=>Zdv P nn C (fun k=>by rw[h.nq k];have:=h.nl k;omega) X
 have HT:=hid fun X (hX:DIn u L P nn C q op on oc hs X)=>Yb2 n g r (K':Int) tc hX
 have hf:=((Fb.start w).new (rqA (n) (g) (r) (K) (.slice u L.length tc) (P) (nn) (C) (.slice op on oc)) 33).new rqZ 33;have HI:=hid h;obtain⟨cc,hcc⟩:=eX (Zfz nn 5);rw[hcc]at hcb HC⊢;have hpp:=hid hp;clear h hK' hp hcc hp0 hp1;go_enter Tryz.func70,Tryz.ntmps70;go_upto_region 1 with fail;change Code.wp _ _ _ _ ((w.alloc (.cells (rqA (n) (g) (r) (K) (.slice u L.length tc) (P) (nn) (C) (.slice op on oc)) 33)).alloc (.cells rqZ 33));have hE1:(w.alloc (.cells (rqA (n) (g) (r) (K) (.slice u L.length tc) (P) (nn) (C) (.slice op on oc)) 33)).heap.size=w.heap.size+1:=by simp
 obtain⟨x,hx⟩:=eX ((w.alloc (.cells (rqA (n) (g) (r) (K) (.slice u L.length tc) (P) (nn) (C) (.slice op on oc)) 33)).alloc (.cells rqZ 33));rw[hx,hE1]at hf;obtain⟨E,hE⟩:=eX (w.heap.size+1);obtain⟨D,hD⟩:=eX w.heap.size;rw[hE,hD]at hf;rw[hx,hE,hD];clear hx hE1 hE hD;have d10:=hf.Zak 10 rfl;have z10:=hf.Zda 10
 have HF:=hid hf;clear hf;go_upto_region 2 with fail;rw[hpp.out];change Code.wp _ _ _ _ (stR x D [iV K'] 10);have hf2:Fb w [⟨E,rqZ,33⟩,rqB D (n) (g) (r) ((K':Int)) (.slice u L.length tc) (P) (nn) (C) (.slice op on oc)] (stR x D [iV K'] 10):=HF.out.Zft [iV K'] 10;obtain⟨x2,hx2⟩:=eX (stR x D [iV K'] 10);rw[hx2]at hf2⊢;have HF2:=hid hf2;clear hx2 hf2 HF d10 z10 hpp;obtain⟨b,hb0⟩:=eX (decide (K'<cc));have hb2:decide ((K':Int)<(cc:Int))=b:=by rw[<-hb0];exact decide_eq_decide.2 (by omega)
 have HB0:=hid hb0;clear hb0
 go_cut[13] (fun s13 wx=>s13=.bool b/\Fb w [⟨E,rqZ,33⟩,rqB D (n) (g) (r) ((K':Int)) (.slice u L.length tc) (P) (nn) (C) (.slice op on oc)] wx)
 case first=>
  as_aux_lemma=>
  go_region_held3 (fun X=>X.cell? (aD D 5)=some (.slice (P 0) (nn 0) (C 0))/\X.cell? (aD D 6)=some (.slice (P 1) (nn 1) (C 1))/\X.cell? (aD D 7)=some (.slice (P 2) (nn 2) (C 2))/\X.cell? (aD D 8)=some (.slice (P 3) (nn 3) (C 3))/\X.cell? (aD D 9)=some (.slice (P 4) (nn 4) (C 4))/\X.cell? (aD D 10)=some (iV K'))
   (first|(have qq:=HF2.out.below (Below.refl _ _).drew;exact⟨qq.Zak 5 rfl,qq.Zak 6 rfl,qq.Zak 7 rfl,qq.Zak 8 rfl,qq.Zak 9 rfl,qq.Zak 10 rfl⟩)|assumption)
   ((go_at_call 78;refine(HC.out _).mono ?_;rintro e w' ⟨rfl,hb⟩;have hf3:=(HF2.out.below (Below.refl _ _).drew).below hb;have kk:=And.intro (hf3.Zak 5 rfl) (And.intro (hf3.Zak 6 rfl) (And.intro (hf3.Zak 7 rfl) (And.intro (hf3.Zak 8 rfl) (And.intro (hf3.Zak 9 rfl) (hf3.Zak 10 rfl)))))))
  all_goals
   have HF3:=hid hf3;clear hf3 kk HC HT;go_wp2_with fail
   go_meet
   exact⟨by rw[HB0.out],HF3.out⟩
 case rest=>
  obtain⟨rfl,hf3⟩:=hcut;have HF3:=hid hf3;clear hf3 HF2 hb2 HC;cases b with
  |true=>
   have hkc:=of_decide_eq_true HB0.out;have cQ:=Zaf HF3.out.at1;have HTR:=hid (HT.out _ (HI.out.fb HF3.out));clear HT;go_wp2_with fail;refine HTR.out.mono ?_;rintro e w4 ⟨v,rfl,u2,t2,P2,n2,C2,op2,on2,oc2,rfl,hi,hpf,hb⟩;have HF4:=hid (HF3.out.below hb);have HI4:=hid hi;have HPF:=hid hpf;have HSZ:=hid hb.size;have HSW:=hid HF3.out.be.size;obtain⟨lf,hlf⟩:=eX ((trK L q 5).length);have HLF:=hid hlf;rw[hlf];clear hi hpf hb hlf HTR HF3 cQ;have cQ:=Zaf HF4.out.at1;have zQ:=Zap HF4.out.at1;go_upto_region 4 with fail;change Code.wp _ _ _ _ (stR w4 D (rqL (n) (g) (r) ((K':Int)) (.slice u2 lf t2) (P2) (n2) (C2) (.slice op2 on2 oc2)) 0);have hf5:Fb w [⟨E,rqZ,33⟩,rqB D (n) (g) (r) ((K':Int)) (.slice u2 lf t2) (P2) (n2) (C2) (.slice op2 on2 oc2)] (stR w4 D (rqL (n) (g) (r) ((K':Int)) (.slice u2 lf t2) (P2) (n2) (C2) (.slice op2 on2 oc2)) 0):=HF4.out.Zgk (rqL (n) (g) (r) ((K':Int)) (.slice u2 lf t2) (P2) (n2) (C2) (.slice op2 on2 oc2)) rfl;have hi5:=HI4.out.stR HF4.out.at1 (by decide) cQ.2.2.1 (fun k _ c=>absurd rfl c) (rqL (n) (g) (r) ((K':Int)) (.slice u2 lf t2) (P2) (n2) (C2) (.slice op2 on2 oc2)) 0;obtain⟨x5,hx5⟩:=eX (stR w4 D (rqL (n) (g) (r) ((K':Int)) (.slice u2 lf t2) (P2) (n2) (C2) (.slice op2 on2 oc2)) 0);rw[hx5]at hf5 hi5⊢;have HF5:=hid hf5;have HI5:=hid hi5
   clear hx5 hf5 hi5 HF4 HI4 cQ zQ;have cQ:=Zaf HF5.out.at1;have zQ:=Zap HF5.out.at0;have oQ:=Zbl HF5.out.at0;have HF6:=hid (HF5.out.Zd9 (rqL (n) (g) (r) ((K':Int)) (.slice u2 lf t2) (P2) (n2) (C2) (.slice op2 on2 oc2)) rfl);have HI6:=hid (HI5.out.stR HF5.out.at0 (by decide) oQ.2.2.1 (fun k _ c=>absurd rfl c) (rqL (n) (g) (r) ((K':Int)) (.slice u2 lf t2) (P2) (n2) (C2) (.slice op2 on2 oc2)) 0);clear HF5 HI5;have hkl:Zpb L q K' cc=trK L q 5:=if_pos hkc;have hkq:Zpa q K' cc=fun _=>[]:=if_pos hkc
   go_wp2_with fail;change bodyPost _ _ _ _ _ (stR x5 E (rqL (n) (g) (r) ((K':Int)) (.slice u2 lf t2) (P2) (n2) (C2) (.slice op2 on2 oc2)) 0);have yQ:=Zaf HF6.out.at0;have HPO:=hid ((⟨_,rfl,u2,t2,P2,n2,C2,op2,on2,oc2,by rw[hkl,HLF.out],by rw[hkl,hkq];exact HI6.out,fun k hk c=>(HPF.out k hk c).imp id (fun d g off e=>Nat.le_trans HSW.out (d g off e)),HF6.out.be⟩:∃v,(.returned (rqV (n) (g) (r) ((K':Int)) (.slice u2 lf t2) (P2) (n2) (C2) (.slice op2 on2 oc2)):Ending)=.returned v/\Zj4 n g r (K':Int) (Zpb L q K' cc) (Zpa q K' cc) hs P w v (stR x5 E (rqL (n) (g) (r) ((K':Int)) (.slice u2 lf t2) (P2) (n2) (C2) (.slice op2 on2 oc2)) 0)));obtain⟨z,hz⟩:=eX (stR x5 E (rqL (n) (g) (r) ((K':Int)) (.slice u2 lf t2) (P2) (n2) (C2) (.slice op2 on2 oc2)) 0);rw[hz]at HPO yQ⊢;exact bodyPost_ret (v:=.agg (rqA (n) (g) (r) ((K':Int)) (.slice u2 lf t2) (P2) (n2) (C2) (.slice op2 on2 oc2))) (by simp[results,Tryz.results70,go_sem,yQ]) rfl HPO.out
  |false=>
   have hkc:=of_decide_eq_false HB0.out;have cQ:=Zaf HF3.out.at1;have zQ:=Zap HF3.out.at0;have oQ:=Zbl HF3.out.at0;have HF6:=hid (HF3.out.Zd9 (rqL (n) (g) (r) ((K':Int)) (.slice u L.length tc) (P) (nn) (C) (.slice op on oc)) rfl);have HI6:=hid (HI.out.fb HF6.out);clear HF3 HT HI;have hkl:Zpb L q K' cc=L:=if_neg hkc;have hkq:Zpa q K' cc=q:=if_neg hkc;go_wp2_with fail;change bodyPost _ _ _ _ _ (stR wc E (rqL (n) (g) (r) ((K':Int)) (.slice u L.length tc) (P) (nn) (C) (.slice op on oc)) 0);have yQ:=Zaf HF6.out.at0;have HPO:=hid ((⟨_,rfl,u,tc,P,nn,C,op,on,oc,by rw[hkl],by rw[hkl,hkq];exact HI6.out,fun k hk c=> .inl rfl,HF6.out.be⟩:∃v,(.returned (rqV (n) (g) (r) ((K':Int)) (.slice u L.length tc) (P) (nn) (C) (.slice op on oc)):Ending)=.returned v/\Zj4 n g r (K':Int) (Zpb L q K' cc) (Zpa q K' cc) hs P w v (stR wc E (rqL (n) (g) (r) ((K':Int)) (.slice u L.length tc) (P) (nn) (C) (.slice op on oc)) 0)));obtain⟨z,hz⟩:=eX (stR wc E (rqL (n) (g) (r) ((K':Int)) (.slice u L.length tc) (P) (nn) (C) (.slice op on oc)) 0);rw[hz]at HPO yQ⊢;exact bodyPost_ret (v:=.agg (rqA (n) (g) (r) ((K':Int)) (.slice u L.length tc) (P) (nn) (C) (.slice op on oc))) (by simp[results,Tryz.results70,go_sem,yQ]) rfl HPO.out
end
end
end Go.Proofs.YtgcidfenjlmljaaGreat.Bt
