import Derived.Test.YtgcidfenjlmljaaGreatPg37
import Derived.Test.YtgcidfenjlmljaaGreatPg21
import Derived.BigRegion
import Derived.Deep.DeepCutAuto
import Derived.Test.YtgcidfenjlmljaaGreatPg35
import Derived.Test.YtgcidfenjlmljaaGreatPg26
import Derived.Test.YtgcidfenjlmljaaGreatPgR
set_option linter.unusedVariables false
set_option linter.unusedSimpArgs false
set_option maxRecDepth 100000
set_option maxHeartbeats 16000000
namespace Go.Proofs.YtgcidfenjlmljaaGreat.Bt
section
open Go Go.RowKit Go.Shelf
theorem Yfp {A:Nat} {s:ASt} {x:World} (h:On A s x) {u:Option Addr} {L:List (Nat × Nat × Bool)} (hr:Zcg x u L) (hL:L≠[]) {g:Nat} (hu:u=some (aD g 0)):¬Zpx A x g:=by
 obtain⟨P,ps,p,n,cap,hx⟩:=h;intro ho;rcases hr with e|⟨g',e,hg,hc⟩
 · exact hL e
 rw[hu]at e;simp at e;subst e;have hl:0<L.length:=List.length_pos_iff.2 hL;obtain⟨c0,c1,c2⟩:=hc 0 hl;rw[Nat.zero_mul]at c0 c1 c2
 rcases(Za0 hx g).1 ho with rfl|rfl|⟨i,hi⟩
 · rw[(Zaa hx.hd _).1]at c1
   simp[Zly]at c1
 · rw[(Zaa hx.row _).1,Zk8]at c0
   cases hps:ps[0]? with
   |none=>rw[hps]at c0;cases c0
   |some v=>rw[hps]at c0;cases v<;>simp[Zie]at c0
 · rw[(Zaa (hx.pg i g hi) _).1]at c0
   simp[Zat]at c0
theorem Zcg.Zaq {A:Nat} {s:ASt} {x y:World} (h:On A s x) (k:Zam A x y) {u:Option Addr} {L:List (Nat × Nat × Bool)} (hr:Zcg x u L):Zcg y u L:=by
 by_cases hL:L=[]
 · exact .inl hL
 refine hr.far k.size fun g hg=>?_
 have hlt:g<x.heap.size:=by
  rcases hr with e|⟨g',e,hl,_⟩
  · exact absurd e hL
  · rw[hg]at e;simp at e;omega
 exact k.block g hlt (Yfp h hr hL hg)
def rfI (s:ASt):Int:=if s.rf=true then(s.lf:Int)else -1
theorem Zcr {s t:ASt} (h1:t.rf=s.rf) (h2:t.lf=s.lf):rfI t=rfI s:=by unfold rfI;rw[h1,h2]
theorem Zle (s:ASt):rfI (Zbs s)=Znz (rfI s):=by
 cases h:s.rf with
 |false=>
  have e:Zbs s=s:=by unfold Zbs;rw[h];rfl
  rw[e];unfold rfI Znz;rw[h];simp
 |true=>
  by_cases c:s.lf=0
  · have e:Zbs s={s with rf:=false}:=by unfold Zbs;rw[h,if_pos rfl,if_pos c]
    rw[e];unfold rfI Znz;rw[h];simp[c]
  · have e:Zbs s={s with lf:=s.lf-1}:=by unfold Zbs;rw[h,if_pos rfl,if_neg c]
    rw[e];unfold rfI Znz;simp only[h,if_true]
    rw[if_neg (by omega),if_pos (by omega)];omega
theorem Yc2 (s:ASt):(Zd7 s=true->Zn0 (rfI s)=4)/\(Zd7 s=false->Zn0 (rfI s)=0):=by
 unfold Zd7 rfI Zn0;cases h:s.rf with
 |false=>simp
 |true=>by_cases c:s.lf=0<;>simp[c]
theorem On.lfB {A:Nat} {s:ASt} {w:World} (h:On A s w):s.lf<=9223372036854775807:=by obtain⟨P,ps,p,n,cap,h⟩:=h;exact h.lfb
theorem Zi9 {A:Nat} {s:ASt} {w:World} (h:On A s w):rfI s<=9223372036854775807:=by have:=h.lfB;unfold rfI;split<;>omega
theorem Yfc {R R':Zag} {g i a b:Nat} (h:Til g R a) (h1:Til g R' b) (t:Zh6 R R' i):wr8 (tkT R g) (i:Int)=tkT R' g:=by
 unfold wr8 tkT;rw[Zyq (R:=R) (S:=R') (g:=g) (f:=g) (x:=i) fun j l=>⟨fun q=>⟨((t j l).1 q.2).1,h.lt ((t j l).1 q.2).2,((t j l).1 q.2).2⟩,fun q=>⟨h.lt q.2.2,(t j l).2 ⟨q.1,q.2.2⟩⟩⟩,List.filter_map]
 congr 1
 refine List.filter_congr fun y _=>?_
 simp only[Function.comp_def,decide_eq_decide];omega
end
section
open Go Go.RowKit Go.Shelf
def RbV (T:Nat) (y:Nat × Nat × Bool) (x:World):Prop:=x.heap[T]?=some (.cells (rnA y) 200 (0,0))
theorem RbV.below {T:Nat} {y:Nat × Nat × Bool} {x z:World} (h:RbV T y x) (hb:Below x.heap.size x z):RbV T y z:=(hb.block _ (Array.getElem?_eq_some_iff.1 h).1).trans h
theorem RbV.all {T:Nat} {y:Nat × Nat × Bool} {x:World} (h:RbV T y x):x.cell? (aD T 0)=some (iV (y.1:Int))/\x.cell? (aD T 1)=some (iV (y.2.1:Int))/\x.cell? (aD T 2)=some (.bool y.2.2):=by
 refine⟨?_,?_,?_⟩<;>(rw[(Zaa h _).1];rfl)
theorem Zpv {L:List (Nat × Nat × Bool)} {j:Nat} (h:j<L.length):(adL L).getD j r0=(adr (L.getD j r0).1,(L.getD j r0).2.1,(L.getD j r0).2.2):=by
 rw[List.getD_eq_getElem?_getD,List.getD_eq_getElem?_getD];unfold adL;rw[List.getElem?_map,List.getElem?_eq_getElem h];rfl
section
variable {B A n g:Nat} {R:Zag} {s:ASt} {w:World}
end
end
section
open Go Go.RowKit Go.Shelf
def pk (L:List (Nat × Nat × Bool)):List Int:=(L.filter fun y=>y.2.2).map fun y=>((adr y.1:Nat):Int)
section
variable {B A n g:Nat} {R:Zag} {s:ASt} {w:World}
end
end
section
open Go Go.RowKit Go.Shelf
structure DP (A B n g:Nat) (R:Zag) (s:ASt) (u:Option Addr) (x:World):Prop where
 bv:BV B A n s x
 bu:Bud (n+1) g g R g s
 rn:Zcg x u (tkT R g)
section
variable {A B C D E n g:Nat} {R:Zag} {s s':ASt} {u:Option Addr} {x y w:World} {gv r d k nn:Int} {v:Value}
end
end
section
open Go Go.RowKit Go.Shelf

end
section
open Go Go.RowKit Go.Shelf
theorem Zsk {A:Nat} {s:ASt} {w:World} (h:On A s w) (k:Int) (hk:k<=9223372036854775807):
 Calls Tryz.prog 26 #[pT A,iV k] w (Ret A {s with rf:=true,lf:=k.toNat} (.tuple #[]) w):=by
 obtain⟨P,ps,p,n,cap,h⟩:=h;obtain⟨c0,c1,c2,c3,c4⟩:=h.head;have f3:=h.free 3;have f4:=h.free 4
 have hF:ArX A {s with rf:=true,lf:=k.toNat} P ps p n cap ((w.setCell (aD A 3) (.bool true)).setCell (aD A 4) (iV (k.toNat:Int)))/\Step A P ps ps w ((w.setCell (aD A 3) (.bool true)).setCell (aD A 4) (iV (k.toNat:Int))):=
  Zwi h rfl rfl rfl (by show k.toNat<=_;omega) (by rw[Zc1,Zc1]) rfl rfl rfl (by rw[heap_set (heap_set h.hd _) _];rfl) fun j hj=>(Below.heap_setCell _ _ _ _ (by exact hj)).trans (Below.heap_setCell _ _ _ _ (by exact hj))
 obtain⟨g1,g2⟩:=Zam.Znb h ⟨ps,p,n,cap,hF.1,hF.2,fun b off e=> .inl rfl⟩;have HG:=hid (And.intro g1 g2);clear h hF g1 g2;by_cases h0:0<=k
 · obtain⟨kn,rfl⟩:=Int.eq_ofNat_of_zero_le h0
   rw[Int.toNat_natCast]at HG;go_enter Tryz.func26,Tryz.ntmps26;go_wp2_with fail
   go_end0
   exact⟨rfl,HG.out.1,HG.out.2⟩
 · have e:k.toNat=0:=by omega
   rw[e]at HG;go_enter Tryz.func26,Tryz.ntmps26;go_wp2_with fail
   go_end0
   refine⟨by rfl,?_,HG.out.2⟩
   first|exact HG.out.1|(rw[e];exact HG.out.1)
end
section
open Go Go.RowKit Go.Shelf

end
section
open Go Go.RowKit Go.Shelf

end
section
open Go Go.RowKit Go.Shelf
abbrev rqA (n g r K:Int) (T:Value) (P:Nat->Option Addr) (nn C:Nat->Nat) (O:Value):Array Value:=
 #[iV 1,iV n,iV g,iV r,T,.slice (P 0) (nn 0) (C 0),.slice (P 1) (nn 1) (C 1),.slice (P 2) (nn 2) (C 2),.slice (P 3) (nn 3) (C 3),.slice (P 4) (nn 4) (C 4),iV K,O]
abbrev rqL (n g r K:Int) (T:Value) (P:Nat->Option Addr) (nn C:Nat->Nat) (O:Value):List Value:=
 [iV 1,iV n,iV g,iV r,T,.slice (P 0) (nn 0) (C 0),.slice (P 1) (nn 1) (C 1),.slice (P 2) (nn 2) (C 2),.slice (P 3) (nn 3) (C 3),.slice (P 4) (nn 4) (C 4),iV K,O]
abbrev rqZ:Array Value:=#[iV 0,iV 0,iV 0,iV 0,.slice none 0 0,.slice none 0 0,.slice none 0 0,.slice none 0 0,.slice none 0 0,.slice none 0 0,iV 0,.slice none 0 0]
abbrev rqV (n g r K:Int) (T:Value) (P:Nat->Option Addr) (nn C:Nat->Nat) (O:Value):Value:=.agg (rqA n g r K T P nn C O)
abbrev rqB (D:Nat) (n g r K:Int) (T:Value) (P:Nat->Option Addr) (nn C:Nat->Nat) (O:Value):Blk:=⟨D,rqA n g r K T P nn C O,33⟩
theorem Zaf {D:Nat} {n g r K:Int} {T:Value} {P:Nat->Option Addr} {nn C:Nat->Nat} {O:Value} {t:TypeId} {x:World} (h:x.heap[D]?=some (.cells (rqA n g r K T P nn C O) t (0,0))):
 x.cell? (aD D 0)=some (iV 1)/\x.cell? (aD D 1)=some (iV n)/\x.cell? (aD D 2)=some (iV g)/\x.cell? (aD D 3)=some (iV r)/\x.cell? (aD D 4)=some T/\
 x.cell? (aD D 5)=some (.slice (P 0) (nn 0) (C 0))/\x.cell? (aD D 6)=some (.slice (P 1) (nn 1) (C 1))/\x.cell? (aD D 7)=some (.slice (P 2) (nn 2) (C 2))/\x.cell? (aD D 8)=some (.slice (P 3) (nn 3) (C 3))/\x.cell? (aD D 9)=some (.slice (P 4) (nn 4) (C 4))/\
 x.cell? (aD D 10)=some (iV K)/\x.cell? (aD D 11)=some O:=by
 refine⟨?_,?_,?_,?_,?_,?_,?_,?_,?_,?_,?_,?_⟩<;>(rw[(Zaa h _).1];rfl)
theorem Zap {D:Nat} {c:Array Value} {t:TypeId} {x:World} (h:x.heap[D]?=some (.cells c t (0,0))):
 x.frozen? (aD D 0)=false/\x.frozen? (aD D 1)=false/\x.frozen? (aD D 2)=false/\x.frozen? (aD D 3)=false/\x.frozen? (aD D 4)=false/\
 x.frozen? (aD D 5)=false/\x.frozen? (aD D 6)=false/\x.frozen? (aD D 7)=false/\x.frozen? (aD D 8)=false/\x.frozen? (aD D 9)=false/\
 x.frozen? (aD D 10)=false/\x.frozen? (aD D 11)=false:=by
 refine⟨?_,?_,?_,?_,?_,?_,?_,?_,?_,?_,?_,?_⟩<;>exact(Zaa h _).2
theorem Zbl {D:Nat} {t:TypeId} {x:World} (h:x.heap[D]?=some (.cells rqZ t (0,0))):
 x.cell? (aD D 0)=some (iV 0)/\x.cell? (aD D 1)=some (iV 0)/\x.cell? (aD D 2)=some (iV 0)/\x.cell? (aD D 3)=some (iV 0)/\x.cell? (aD D 4)=some (.slice none 0 0)/\
 x.cell? (aD D 5)=some (.slice none 0 0)/\x.cell? (aD D 6)=some (.slice none 0 0)/\x.cell? (aD D 7)=some (.slice none 0 0)/\x.cell? (aD D 8)=some (.slice none 0 0)/\x.cell? (aD D 9)=some (.slice none 0 0)/\
 x.cell? (aD D 10)=some (iV 0)/\x.cell? (aD D 11)=some (.slice none 0 0):=by
 refine⟨?_,?_,?_,?_,?_,?_,?_,?_,?_,?_,?_,?_⟩<;>(rw[(Zaa h _).1];rfl)
theorem Yel (o q g r:Int) (p:Option Addr) (tc:Nat) (L:List (Nat × Nat × Bool)) (hL:L.length<=2000) (a:Int) (w:World) (h:Zcg w p L):
 Calls Tryz.prog 191 #[bqV o q g r (.slice p L.length tc),iV a] w fun e w'=>∃u c er,e=.returned (.tuple #[bqV o q g r (.slice u (wr8 L a).length c),iV er])/\Zcg w' u (wr8 L a)/\Below w.heap.size w w':=by
 cases e:L.find? fun y=>decide ((y.1:Int)=a)with
 |some y=>
  refine(Yek o q g r p tc L hL a w h (y.2.1:Int) (by unfold Zna;rw[e])).mono ?_
  rintro e' w' ⟨u,c,rfl,h1,h2⟩
  exact⟨u,c,0,rfl,h1,h2⟩
 |none=>
  refine(Yg1 o q g r p tc L hL a w h (by unfold Zna;rw[e])).mono ?_
  rintro e' w' hp
  have hw:wr8 L a=L:=by
   unfold wr8;rw[List.filter_eq_self];intro y hy
   have:=List.find?_eq_none.1 e y hy
   simpa using this
  rw[hw];obtain⟨u,c,rfl,h1,h2⟩:=hp
  exact⟨u,c,8,rfl,h1,h2⟩
def Yjq (n g r K:Int) (L:List (Nat × Nat × Bool)) (P:Nat->Option Addr) (nn C:Nat->Nat) (O:Value) (w:World) (e:Ending) (w':World):Prop:=
 ∃u c,e=.returned (rqV n g r K (.slice u L.length c) P nn C O)/\Zcg w' u L/\Below w.heap.size w w'
theorem Zm6 {x:World} {u:Option Addr} {L:List (Nat × Nat × Bool)} (h:Zcg x u L) {D:Nat} {v:Int} (hd:x.cell? (aD D 2)=some (iV v)):
 ∀j,u=some (aD j 0)->L=[]\/j≠D:=fun j hj=>by
 rcases h with h|⟨b,e,hb,hc⟩
 · exact .inl h
 · rw[hj]at e
   obtain rfl:j=b:=by cases e;rfl
   cases L with
   |nil=>exact .inl rfl
   |cons y L=>
    refine .inr fun c=>?_
    subst c;have h2:=(hc 0 (by simp)).2.2;rw[show 0*3+2=2 from rfl,hd]at h2;cases h2
theorem Zcg.stR {x:World} {u:Option Addr} {L:List (Nat × Nat × Bool)} (h:Zcg x u L) {D:Nat} (hne:∀j,u=some (aD j 0)->L=[]\/j≠D) (vs:List Value) (k:Nat):Zcg (Bt.stR x D vs k) u L:=by
 by_cases hL:L=[]
 · exact .inl hL
 · exact h.far (by rw[Zgr];exact Nat.le_refl _) fun j hj=>Zcn (by
    rcases hne j hj with c|c
    · exact absurd c hL
    · exact c) vs k x
section
variable {w:World}
theorem Znx (n g r K:Int) (u:Option Addr) (tc:Nat) (L:List (Nat × Nat × Bool)) (hL:L.length<=2000) (P:Nat->Option Addr) (nn C:Nat->Nat) (op:Option Addr) (on oc:Nat) (p:Nat) (hp:1<=p/\p<=100000) (h:Zcg w u L):
 Calls Tryz.prog 136 #[rqV n g r K (.slice u L.length tc) P nn C (.slice op on oc),iV ((4096*p:Nat):Int)] w (Yjq n g r K (wr8 L ((p:Int)-1)) P nn C (.slice op on oc) w):=by
 have HF:=hid (((Fb.start w).new (rqA n g r K (.slice u L.length tc) P nn C (.slice op on oc)) 33).new rqZ 33);have HB:=hid fun X (hX:Zcg X u L)=>Yel 1 n g r u tc L hL ((p:Int)-1) X hX
 have HR:=hid h;obtain⟨LL,hLL⟩:=eX (wr8 L ((p:Int)-1));rw[hLL]at HB⊢;obtain⟨ln,hln⟩:=eX L.length;rw[hln]at HF HB⊢;have q1:IntKind.i64.wrap ((p:Int)-1)=(p:Int)-1:=by rw[IntKind.wrap_i64];omega
 have q2:Int.tdiv ((4096*p:Nat):Int) 4096=(p:Int):=by rw[Int.tdiv_eq_ediv_of_nonneg (by omega)];omega
 have q3:IntKind.i64.wrap (p:Int)=(p:Int):=by rw[IntKind.wrap_i64];omega
 obtain⟨a,ha⟩:=eX (((4096*p:Nat):Int):Int);rw[ha]at q2⊢;clear h hLL hln ha;go_enter Tryz.func136,Tryz.ntmps136;go_upto_region 1 with fail;change Code.wp _ _ _ _ ((w.alloc (.cells (rqA n g r K (.slice u ln tc) P nn C (.slice op on oc)) 33)).alloc (.cells rqZ 33));obtain⟨x,hx⟩:=eX ((w.alloc (.cells (rqA n g r K (.slice u ln tc) P nn C (.slice op on oc)) 33)).alloc (.cells rqZ 33));have hE1:(w.alloc (.cells (rqA n g r K (.slice u ln tc) P nn C (.slice op on oc)) 33)).heap.size=w.heap.size+1:=by simp
 rw[hx,hE1]at HF;obtain⟨E,hE⟩:=eX (w.heap.size+1);obtain⟨D,hD⟩:=eX w.heap.size;rw[hE,hD]at HF;rw[hx,hE,hD];clear hx hE1 hE hD;obtain⟨c0,c1,c2,c3,c4, -⟩:=Zaf HF.out.at1;go_wp2_with fail
 refine(HB.out _ (HR.out.below HF.out.be)).mono ?_
 rintro e w1 ⟨u2,t2,er,rfl,hr,hb⟩;have HF1:=hid (HF.out.below hb);have HR1:=hid hr;clear hr hb HF HB HR c0 c1 c2 c3 c4 q1 q2 q3;have zQ:=Zap HF1.out.at1;have cQ:=Zaf HF1.out.at1;go_upto_region 2 with fail;change Code.wp _ _ _ _ (stR w1 D [iV 1,iV n,iV g,iV r,.slice u2 LL.length t2] 0);have hf2:Fb w [⟨E,rqZ,33⟩,rqB D (n) (g) (r) (K) (.slice u2 LL.length t2) (P) (nn) (C) ((.slice op on oc))] (stR w1 D [iV 1,iV n,iV g,iV r,.slice u2 LL.length t2] 0):=HF1.out.Zft [iV 1,iV n,iV g,iV r,.slice u2 LL.length t2] 0;have hr2:=HR1.out.stR (Zm6 HR1.out cQ.2.2.1) [iV 1,iV n,iV g,iV r,.slice u2 LL.length t2] 0;obtain⟨x2,hx2⟩:=eX (stR w1 D [iV 1,iV n,iV g,iV r,.slice u2 LL.length t2] 0);rw[hx2]at hf2 hr2⊢;have HF2:=hid hf2;have HR2:=hid hr2
 clear hx2 hf2 hr2 HF1 HR1 cQ zQ;have cQ:=Zaf HF2.out.at1;have zQ:=Zap HF2.out.at0;have oQ:=Zbl HF2.out.at0;have hf3:Fb w [rqB E (n) (g) (r) (K) (.slice u2 LL.length t2) (P) (nn) (C) ((.slice op on oc)),rqB D (n) (g) (r) (K) (.slice u2 LL.length t2) (P) (nn) (C) ((.slice op on oc))] (stR x2 E (rqL (n) (g) (r) (K) (.slice u2 LL.length t2) (P) (nn) (C) ((.slice op on oc))) 0):=HF2.out.Zd9 (rqL (n) (g) (r) (K) (.slice u2 LL.length t2) (P) (nn) (C) ((.slice op on oc))) rfl;have hr3:Zcg (stR x2 E (rqL (n) (g) (r) (K) (.slice u2 LL.length t2) (P) (nn) (C) ((.slice op on oc))) 0) u2 LL:=HR2.out.stR (Zm6 HR2.out oQ.2.2.1) (rqL (n) (g) (r) (K) (.slice u2 LL.length t2) (P) (nn) (C) ((.slice op on oc))) 0;have HF3:=hid hf3;have HR3:=hid hr3
 clear hf3 hr3 HF2 HR2;go_wp2_with fail;change bodyPost _ _ _ _ _ (stR x2 E (rqL (n) (g) (r) (K) (.slice u2 LL.length t2) (P) (nn) (C) ((.slice op on oc))) 0);have yQ:=Zaf HF3.out.at0;have HPO:=hid ((⟨u2,t2,rfl,HR3.out,HF3.out.be⟩:Yjq n g r K LL P nn C (.slice op on oc) w (.returned (rqV n g r K (.slice u2 LL.length t2) P nn C (.slice op on oc))) _));obtain⟨z,hz⟩:=eX (stR x2 E (rqL (n) (g) (r) (K) (.slice u2 LL.length t2) (P) (nn) (C) ((.slice op on oc))) 0);rw[hz]at HPO yQ⊢;exact bodyPost_ret (v:=.agg (rqA (n) (g) (r) (K) (.slice u2 LL.length t2) (P) (nn) (C) ((.slice op on oc)))) (by simp[results,Tryz.results136,go_sem,yQ]) rfl HPO.out
end
end
end Go.Proofs.YtgcidfenjlmljaaGreat.Bt
