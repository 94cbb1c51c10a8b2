import Derived.Test.YtgcidfenjlmljaaGreatPg19
import Derived.Test.YtgcidfenjlmljaaGreatPg12
import Derived.Test.YtgcidfenjlmljaaGreatPg18
import Derived.Deep.DeepCutAuto
import Derived.Test.YtgcidfenjlmljaaGreatPgR
set_option linter.unusedVariables false
set_option linter.unusedSimpArgs false
set_option maxRecDepth 100000
set_option maxHeartbeats 16000000
namespace Go.Proofs.YtgcidfenjlmljaaGreat.Bt
section
open Go Go.RowKit Go.Shelf
def Yh0 (R:Zag) (a:Int) (k e:Int):Prop:=(∃(p l:Nat),a=(adr p:Int)/\R p=some (l,true)/\k=(l:Int)/\e=0)\/((∀(p l:Nat),a=(adr p:Int)->R p≠some (l,true))/\k=0/\e=8)
theorem Zx1 {B A n:Nat} {x:World} (h:Zj8 B A n x):
 x.cell? (aD B 0)=some (pT A)/\x.cell? (aD B 1)=some (pT A)/\x.cell? (aD B 2)=some (iV 0)/\x.cell? (aD B 3)=some (iV 256)/\
 x.cell? (aD B 4)=some (pT A)/\x.cell? (aD B 5)=some (iV 16)/\x.cell? (aD B 6)=some (iV 88)/\
 x.cell? (aD B 7)=some (pT A)/\x.cell? (aD B 8)=some (iV 256)/\x.cell? (aD B 9)=some (iV n)/\True:=by
 refine⟨?_,?_,?_,?_,?_,?_,?_,?_,?_,?_,trivial⟩<;>(rw[(Zaa h _).1];rfl)
theorem Zj8.Yj0 {B A n R:Nat} {x:World} (h:Zj8 B A n x) (hne:B≠R) (u v:Value):Zj8 B A n ((x.setCell (aD R 0) u).setCell (aD R 1) v):=(Zbu hne u v).trans h
def Yhb (S O E:Int) (w:World) (s6 s7:Value) (wx:World):Prop:=∃T,s6=pT T/\s7=iV E/\wx.heap[T]?=some (.cells #[.int .u8 S,.int .u8 O] 232 (0,0))/\Below w.heap.size w wx
section
variable {B A n g:Nat} {R:Zag} {s:ASt} {w:World}
theorem Bud.Zug (hB:Bud (n+1) g g R g s) (hL:s.L=n+1) (q:Int):
 (∃p l:Nat,q=(p:Int)/\R p=some (l,true)/\l<=10/\Zff (gC s 256 n q)=3/\Zgd (gC s 256 n q)=l)\/((∀p l:Nat,q=(p:Int)->R p≠some (l,true))/\Zff (gC s 256 n q)≠3):=by
 by_cases h0:q<0
 · exact .inr ⟨fun p l e=>by omega,by rw[Yb1 s 256 n h0];decide⟩
 obtain⟨p,rfl⟩:=Int.eq_ofNat_of_zero_le (show 0<=q by omega);by_cases hp:p<n
 · rw[(hB.tag hL p hp (Zd4 (hB.ti.out (Nat.le_refl _)) p)).1]
   obtain⟨t1,t2⟩:=Zin R g p fun l t e=>(hB.ti.al _ _ _ e).1
   rw[t1,t2];cases e:R p with
   |none=>
    refine .inr ⟨fun p' l e2 e3=>?_,?_⟩
    · have:p'=p:=by omega
      subst this;rw[e]at e3;cases e3
    · split<;>decide
   |some y=>
    obtain⟨l,t⟩:=y;have hl:=hB.ti.lt e;rw[if_pos hl,if_pos hl];cases t with
    |true=>exact .inl ⟨p,l,rfl,e,(hB.ti.al _ _ _ e).1,rfl,rfl⟩
    |false=>
     refine .inr ⟨fun p' l' e2 e3=>?_,show(2:Int)≠3 by decide⟩
     have:p'=p:=by omega
     subst this;rw[e]at e3;cases (Zbc e3).2
 · rw[Yb0 s 256 n _ (by omega)]
   refine .inr ⟨fun p' l e2 e3=>?_,by decide⟩
   have:=hB.ti.lt e3
   have:=(hB.sz hL)
   omega
theorem Zky (h:BV B A n s w) (hB:Bud (n+1) g g R g s) (a:Int) (h0: -9223372036854775808<=a) (h1:a<=9223372036854775807):
 Calls Tryz.prog 152 #[Zcv B,iV a] w fun e w'=>∃k er:Int,e=.returned (.tuple #[iV k,iV er])/\Yh0 R a k er/\Below w.heap.size w w':=by
 have hz:=hB.sz h.2.1;have hq:=Yfg a 4096 (by decide) h0 h1
 have hqb: -2251799813685249<=a.tdiv 4096/\a.tdiv 4096<=2251799813685249:=by
  have:=Int.mul_tdiv_add_tmod a 4096
  have:=Int.tmod_lt_of_pos a (show(0:Int)<4096 by decide)
  have:=Int.lt_tmod_of_pos a (show(0:Int)<4096 by decide)
  omega
 have hsp:a=4096*a.tdiv 4096+a.tmod 4096:=(Int.mul_tdiv_add_tmod a 4096).symm;obtain⟨q,hqq⟩:=eX (a.tdiv 4096);obtain⟨m,hmm⟩:=eX (a.tmod 4096);rw[hqq]at hqb;rw[hqq,hmm]at hsp;have HPG:=hid fun X (hX:BV B A n s X)=>Yeh hX hz.2.1 a q hqq (by omega) (by omega)
 have HGT:=hid fun X (hX:BV B A n s X)=>Zor hX.1 256 n (by omega) (by omega) (q-1) (by omega)
 have HTG:=hid (hB.Zug h.2.1 (q-1));have HSP:=hid hsp;have HV:=hid h;have hrm:Int.tmod a 4096=m:=hmm;clear h hB hz hq hqq hqb hsp hmm h0 h1;go_enter Tryz.func152,Tryz.ntmps152;go_upto_region 3 with fail;have hS:=Zuj (gC s 256 n (q-1)) (Ydy s 256 n (q-1)).1;have hO:=Zuk (gC s 256 n (q-1)) (Ydy s 256 n (q-1)).1;generalize Zff (gC s 256 n (q-1))=S at*
 generalize Zgd (gC s 256 n (q-1))=O at*
 generalize gE s 256 n (q-1)=E at*
 have HSO:=hid (And.intro hS hO);clear hS hO
 go_cut[6,7] (fun s6 s7 wx=>Yhb S O E w s6 s7 wx)
 case first=>
  as_aux_lemma=>
  have hBw:B<w.heap.size:=(Array.getElem?_eq_some_iff.1 HV.out.2.2).1;have HBW:=hid hBw;clear hBw
  go_region_held3 (fun x=>x.cell? (aD B 7)=some (pT A)/\x.cell? (aD B 8)=some (iV 256)/\x.cell? (aD B 9)=some (iV n))
   (first|assumption|(have q:=(HV.out.below (Below.refl _ _).drew).all;exact⟨q.2.2.2.2.2.2.2.1,q.2.2.2.2.2.2.2.2.1,q.2.2.2.2.2.2.2.2.2.1⟩)|(have q:=(HV.out.below ((Zaj w (.cells #[.int .u8 0,.int .u8 0] 232))).drew).all;exact⟨q.2.2.2.2.2.2.2.1,q.2.2.2.2.2.2.2.2.1,q.2.2.2.2.2.2.2.2.2.1⟩)
         |(have q:=(hv1.below (Zaj _ (.cells #[.int .u8 0,.int .u8 0] 232))).all;exact⟨q.2.2.2.2.2.2.2.1,q.2.2.2.2.2.2.2.2.1,q.2.2.2.2.2.2.2.2.2.1⟩)|(have q:=(hvg.below (Zaj _ (.cells #[.int .u8 0,.int .u8 0] 232))).all;exact⟨q.2.2.2.2.2.2.2.1,q.2.2.2.2.2.2.2.2.1,q.2.2.2.2.2.2.2.2.2.1⟩)|(have q:=(hvg.below (Zaj _ (.cells #[.int .u8 S,.int .u8 O] 232))).all;exact⟨q.2.2.2.2.2.2.2.1,q.2.2.2.2.2.2.2.2.1,q.2.2.2.2.2.2.2.2.2.1⟩)
         |(have q:=Zx1 (hvg.2.2.Yj0 hne (.int .u8 S) (.int .u8 O));exact⟨q.2.2.2.2.2.2.2.1,q.2.2.2.2.2.2.2.2.1,q.2.2.2.2.2.2.2.2.2.1⟩))
   (first|(go_at_call 124
           refine(HPG.out _ (HV.out.below (Below.refl _ _).drew)).mono ?_
           rintro e w' ⟨rfl,hb⟩;have hb1:Below w.heap.size w w':=(Below.refl _ _).drew.trans hb;have hv1:=HV.out.below hb1;have hq:=hv1.all;have kk:=And.intro hq.2.2.2.2.2.2.2.1 (And.intro hq.2.2.2.2.2.2.2.2.1 hq.2.2.2.2.2.2.2.2.2.1))
         |(go_at_call 124
           refine(HPG.out _ (HV.out.below ((Zaj w (.cells #[.int .u8 0,.int .u8 0] 232)).drew))).mono ?_
           rintro e w' ⟨rfl,hb⟩;have hb1:Below w.heap.size w w':=((Zaj w (.cells #[.int .u8 0,.int .u8 0] 232)).drew).trans (hb.mono ((Zaj w (.cells #[.int .u8 0,.int .u8 0] 232)).drew).size);have hT:w'.heap[w.heap.size]?=some (.cells #[.int .u8 0,.int .u8 0] 232 (0,0)):=(hb.block w.heap.size (by show w.heap.size<(w.alloc (.cells #[.int .u8 0,.int .u8 0] 232)).heap.size;simp)).trans (Zab w (.cells #[.int .u8 0,.int .u8 0] 232));have hv1:=HV.out.below hb1;have hq:=hv1.all;have kk:=And.intro hq.2.2.2.2.2.2.2.1 (And.intro hq.2.2.2.2.2.2.2.2.1 hq.2.2.2.2.2.2.2.2.2.1))
         |(go_at_call 199
           have hT2:=hT
           refine(HGT.out _ hv1).mono ?_
           rintro e w'' ⟨rfl,hbg⟩;have hT3:=(hbg.block w.heap.size (Array.getElem?_eq_some_iff.1 hT).1).trans hT;have r0:=(Zaa hT3 0).1;have r1:=(Zaa hT3 1).1;have f0:=(Zaa hT3 0).2;have f1:=(Zaa hT3 1).2
           have hne:B≠w.heap.size:=Nat.ne_of_lt HBW.out;have hvg:BV B A n s w'':=hv1.below hbg;have hbw:Below w.heap.size w w'':=hb1.trans (hbg.mono hb1.size);have HT3:=hid hT3;have hq2:=hvg.all;have kk2:=And.intro hq2.2.2.2.2.2.2.2.1 (And.intro hq2.2.2.2.2.2.2.2.2.1 hq2.2.2.2.2.2.2.2.2.2.1);clear hT hT2 hT3)
         |(go_at_call 199
           refine(HGT.out _ hv1).mono ?_
           rintro e w'' ⟨rfl,hbg⟩;have hvg:BV B A n s w'':=hv1.below hbg;have hbw:Below w.heap.size w w'':=hb1.trans (hbg.mono hb1.size);have hq2:=hvg.all;have kk2:=And.intro hq2.2.2.2.2.2.2.2.1 (And.intro hq2.2.2.2.2.2.2.2.2.1 hq2.2.2.2.2.2.2.2.2.2.1))
         |(go_at_call 199
           refine(HGT.out _ (hv1.below (Zaj _ (.cells #[.int .u8 0,.int .u8 0] 232)))).mono ?_
           rintro e w'' ⟨rfl,hbg⟩;have hT3:=(hbg.block w'.heap.size (by simp)).trans (Zab w' (.cells #[.int .u8 0,.int .u8 0] 232));have r0:=(Zaa hT3 0).1;have r1:=(Zaa hT3 1).1;have f0:=(Zaa hT3 0).2;have f1:=(Zaa hT3 1).2
           have hne:B≠w'.heap.size:=Nat.ne_of_lt (Nat.lt_of_lt_of_le HBW.out hb1.size);have hvg:BV B A n s w'':=(hv1.below (Zaj _ (.cells #[.int .u8 0,.int .u8 0] 232))).below hbg;have hbw:Below w.heap.size w w'':=(hb1.alloc hb1.size (.cells #[.int .u8 0,.int .u8 0] 232)).trans (hbg.mono (hb1.alloc hb1.size (.cells #[.int .u8 0,.int .u8 0] 232)).size);have HT3:=hid hT3;have hbs:=hb1.size;have hq2:=hvg.all;have kk2:=And.intro hq2.2.2.2.2.2.2.2.1 (And.intro hq2.2.2.2.2.2.2.2.2.1 hq2.2.2.2.2.2.2.2.2.2.1);clear hT3))
  all_goals go_wp2_with fail
  all_goals go_meet
  all_goals first
   |exact⟨_,rfl,rfl,Zab w'' (.cells #[.int .u8 S,.int .u8 O] 232),hbw.alloc hbw.size (.cells #[.int .u8 S,.int .u8 O] 232)⟩
   |exact⟨w.heap.size,rfl,rfl,Zdf HT3.out rfl (.int .u8 S) (.int .u8 O),(hbw.setCell (p:=(aD w.heap.size 0)) (Nat.le_refl _) (.int .u8 S)).setCell (p:=(aD w.heap.size 1)) (Nat.le_refl _) (.int .u8 O)⟩
   |exact⟨w'.heap.size,rfl,rfl,Zdf HT3.out rfl (.int .u8 S) (.int .u8 O),(hbw.setCell (p:=(aD w'.heap.size 0)) hbs (.int .u8 S)).setCell (p:=(aD w'.heap.size 1)) hbs (.int .u8 O)⟩
 case rest=>
  obtain⟨T,rfl,rfl,hT,hb⟩:=hcut;have HB:=hid hb;have t0:=(Zaa hT 0).1;have t1:=(Zaa hT 1).1
  simp at t0 t1;clear hb hT HPG HGT;have HO:Hid (IntKind.i64.wrap O=O):=hid (by have:=HSO.out;rw[IntKind.wrap_i64];omega);by_cases hm0:m=0
  · subst hm0
    rcases HTG.out with⟨p,l,e1,e2,e3,rfl,rfl⟩|⟨hno,hns⟩
    · have HF:Hid (Yh0 R a (l:Int) 0):=hid (.inl ⟨p,l,by have:=HSP.out;unfold adr;omega,e2,rfl,rfl⟩)
      have hO:=HO.out;clear HTG HSP e1 e2;go_wp2_with fail
      go_ret2
      exact⟨_,_,rfl,HF.out,HB.out⟩
    · have HF:Hid (Yh0 R a 0 8):=hid (.inr ⟨fun p l e=>hno p l (by have:=HSP.out;unfold adr at e;omega),rfl,rfl⟩)
      clear HTG HSP hno;go_wp2_with fail
      go_ret2
      exact⟨_,_,rfl,HF.out,HB.out⟩
  · have HF:Hid (Yh0 R a 0 8):=hid (.inr ⟨fun p l e=>by
     have h1:=HSP.out;have h2:Int.tmod a 4096=m:=hrm
     have h3:Int.tmod a 4096=0:=by
      rw[e,Int.tmod_eq_emod_of_nonneg (by omega)];unfold adr;omega
     omega,rfl,rfl⟩)
    clear HTG HSP;go_wp2_with fail
    go_ret2
    exact⟨_,_,rfl,HF.out,HB.out⟩
end
end
section
open Go Go.RowKit Go.Shelf
theorem Yb3 (ins:Int->Bool) (x:Nat):∀p:Nat,x<=p->(∀j:Nat,x<j->j<=p->ins (j:Int)=true)->ins (x:Int)=false->dnN ins (p+1)=(x:Int)
 |0,h,_,hx=>by
  have:x=0:=by omega
  subst this;unfold dnN;rw[if_neg (by rw[hx];decide)]
 |p+1,h,hi,hx=>by
  unfold dnN;by_cases c:x=p+1
  · subst c
    rw[if_neg (by rw[hx];decide)]
  · rw[if_pos (hi (p+1) (by omega) (Nat.le_refl _))]
    exact Yb3 ins x p (by omega) (fun j h1 h2=>hi j h1 (by omega)) hx
section
variable {B A n g:Nat} {R:Zag} {s:ASt} {w:World}
theorem Bud.Zw2 (hB:Bud (n+1) g g R g s) (hL:s.L=n+1) {x k:Nat} {t:Bool} (e:R x=some (k,t)):Zff (gC s 256 n (x:Int))=(if t then 3 else 2:Int)/\Zgd (gC s 256 n (x:Int))=k:=by
 have a:=hB.addr e;rw[(hB.tag hL x (by omega) (Zd4 (hB.ti.out (Nat.le_refl _)) x)).1];obtain⟨t1,t2⟩:=Zin R g x fun l u q=>(hB.ti.al _ _ _ q).1
 rw[t1,t2,if_pos a.2.2.1,if_pos a.2.2.1,e]
 exact⟨rfl,rfl⟩
theorem Bud.Zwf (hB:Bud (n+1) g g R g s) (hL:s.L=n+1) {x k:Nat} {t:Bool} (e:R x=some (k,t)) (p:Nat) (h1:x<p) (h2:p<x+2^k):Zff (gC s 256 n (p:Int))=1:=by
 have a:=hB.addr e;have hz:=hB.sz hL;have hn:=hB.ti.toTile.inside e p h1 h2;rw[(hB.tag hL p (by omega) (Zd4 (hB.ti.out (Nat.le_refl _)) p)).1];obtain⟨t1,t2⟩:=Zin R g p fun l u q=>(hB.ti.al _ _ _ q).1
 rw[t1,if_pos (by omega),hn]
theorem Yef (h:BV B A n s w) (hB:Bud (n+1) g g R g s) {x k:Nat} {t:Bool} (e:R x=some (k,t)) (p:Nat) (h1:x<=p) (h2:p<x+2^k):
 Calls Tryz.prog 195 #[tbP (some (aD A 0)) 256 n,iV p] w (Zan (.tuple #[iV x,Zhd (if t then 3 else 2) (k:Int),iV 0]) w):=by
 have hz:=hB.sz h.2.1;have a:=hB.addr e;have hE:=(hB.tag h.2.1 p (by omega) (Zd4 (hB.ti.out (Nat.le_refl _)) p)).2;have hf:=hB.Zw2 h.2.1 e
 have hx:Zu2 (gC s 256 n) (p:Int)=(x:Int):=by
  unfold Zu2;rw[Int.toNat_natCast];refine Yb3 _ x p h1 (fun j j1 j2=>?_) ?_
  · unfold Zwe;rw[hB.Zwf h.2.1 e j j1 (by omega)];rfl
  · unfold Zwe;rw[hf.1];cases t<;>rfl
 have hok:Zsb (gC s 256 n) (p:Int)=true:=by
  unfold Zsb;rw[hx,hf.1,hf.2,Int.toNat_natCast]
  have:decide ((p:Int)-(x:Int)<((2^k:Nat):Int))=true:=by rw[decide_eq_true_iff];omega
  rw[this];cases t<;>rfl
 have hv:Ycz (gC s 256 n) (p:Int)=.tuple #[iV x,Zhd (if t then 3 else 2) (k:Int),iV 0]:=by
  unfold Ycz;rw[hok,if_pos rfl,hx,hf.1,hf.2]
 have:=Zuc h.1 256 n (by omega) (by omega) (p:Int) (by omega) (by omega) hE
 rw[hv]at this;exact this
def Zh6 (R R':Zag) (x:Nat):Prop:=∀i l,R' i=some (l,true)↔(i≠x/\R i=some (l,true))
def Yhq (B A n g x k:Nat) (R:Zag) (s:ASt) (w w':World):Prop:=
 ∃R' s',BV B A n s' w'/\Bud (n+1) g g R' g s'/\Zam A w w'/\Zh6 R R' x/\Zcx (Zfm R x k false) s.mm s'.mm/\s'.rf=s.rf/\s'.lf=s.lf
theorem Zs3 {x k:Nat} (h:Tile g R) (e:R x=some (k,true)):Zh6 R (Zfm R x k false) x:=fun i l=>by
 constructor
 · intro q
   rcases Zb0 q with⟨_,_,c⟩|⟨c1,c2⟩
   · cases c
   · exact⟨c1,c2⟩
 · rintro ⟨q1,q2⟩
   exact h.fwd e q1 q2
def Zr0 (B A n g:Nat) (R:Zag) (s:ASt) (a:Int) (w:World) (e:Ending) (w':World):Prop:=
 (∃p l:Nat,a=(adr p:Int)/\R p=some (l,true)/\e=.returned (iV 0)/\Yhq B A n g p l R s w w')\/((∀(p l:Nat),a=(adr p:Int)->R p≠some (l,true))/\e=.returned (iV 8)/\Below w.heap.size w w')
theorem Zx2 (h:BV B A n s w) (hB:Bud (n+1) g g R g s) (a:Int) (h0: -9223372036854775808<=a) (h1:a<=9223372036854775807):
 Calls Tryz.prog 154 #[Zcv B,iV a] w (Zr0 B A n g R s a w):=by
 have HV:=hid h;have HB:=hid hB;have HO:=hid (Zky h hB a h0 h1);have HZ:=hid (hB.sz h.2.1);clear h hB h0 h1;go_enter Tryz.func154,Tryz.ntmps154;go_wp2_with fail;refine HO.out.mono ?_;rintro e w1 ⟨k,er,rfl,hv,hb⟩;have HBL:=hid hb;have HV1:=hid (HV.out.below hb);clear hb HO;rcases hv with⟨p,l,rfl,hR,rfl,rfl⟩|⟨hno,rfl,rfl⟩
 · have HR:=hid hR
   have HPG:=hid (Yeh HV1.out HZ.out.2.1 (adr p:Int) ((1+p:Nat):Int) (Zhs p) (by omega) (by have:=HB.out.addr hR;have:=HZ.out;omega));have e1:(((1+p:Nat):Int)-1)=(p:Int):=by omega
   rw[e1]at HPG;clear e1 hR;go_wp2_with fail;refine HPG.out.mono ?_;rintro e w2 ⟨rfl,hb⟩;have HRL:=hid (Zrm (HV1.out.below hb) (HB.out.Zws HR.out) (Zb5 _ _ _ _));have HW:=hid ((Zam.Zad HV.out.1 HBL.out).trans (Zam.Zad HV1.out.1 hb));clear hb HPG;go_wp2_with fail;refine HRL.out.mono ?_;rintro e w3 ⟨rfl,R',s',g1,g2,g3,g4,g5,g6,g7⟩;have HF:Hid (Yhq B A n g p l R s w w3):=hid ⟨R',s',g1,g2,HW.out.trans g3,fun i j=>(g4 i j).trans (Zs3 HB.out.ti.toTile HR.out i j),g5,g6,g7⟩;clear g1 g2 g3 g4 g5 g6 g7 HRL;go_wp2_with fail
   go_ret
   exact .inl ⟨p,l,rfl,HR.out,rfl,HF.out⟩
 · have HN:=hid hno
   clear hno;go_wp2_with fail
   go_ret
   exact .inr ⟨HN.out,rfl,HBL.out⟩
end
end
section
open Go Go.RowKit Go.Shelf
def Yi1 (T:Nat) (S O:Int) (w:World):Prop:=w.heap[T]?=some (.cells #[.int .u8 S,.int .u8 O] 232 (0,0))
def BT (B A n T:Nat) (S O:Int) (s:ASt) (w:World):Prop:=BV B A n s w/\Yi1 T S O w
section
variable {B A n T g:Nat} {S O:Int} {s s':ASt} {R:Zag} {w x y:World}
theorem BT.below (h:BT B A n T S O s x) (hb:Below x.heap.size x y):BT B A n T S O s y:=⟨h.1.below hb,(hb.block _ (Array.getElem?_eq_some_iff.1 h.2).1).trans h.2⟩
theorem BT.tag (h:BT B A n T S O s x):x.cell? (aD T 0)=some (.int .u8 S)/\x.cell? (aD T 1)=some (.int .u8 O):=by
 constructor<;>(rw[(Zaa h.2 _).1];rfl)
theorem BT.new (h:BV B A n s w) (S O:Int):BT B A n w.heap.size S O s (w.alloc (.cells #[.int .u8 S,.int .u8 O] 232)):=⟨h.below (Zaj w _),Zab _ _⟩
end
section
variable {B A n g:Nat} {R0:Zag} {s0:ASt} {w:World} {g1:Nat} {R:Zag} {s:ASt} {wr:World}
end
end
section
open Go Go.RowKit Go.Shelf
section
variable {B A n g:Nat} {R:Zag} {s:ASt} {w:World}
end
end
section
open Go Go.RowKit Go.Shelf
theorem Zlk {T:TypeId} {W:World} {base:Nat} {v:Value} {L:List (Nat × Nat × Bool)} (h:W.ownsRow base T 3 v L.length (rnL L)):∃p cap,v=.slice p L.length cap/\Zcg W p L/\∀g,p=some (aD g 0)->base<=g:=by
 rcases h.2 with⟨rfl,h0⟩|⟨g,cap,cur,rfl,hbg,hg,hnc,_,hcs,htk⟩
 · exact⟨none,0,by rw[h0],.inl (List.eq_nil_of_length_eq_zero h0),fun g hg=>by cases hg⟩
 · refine⟨_,cap,rfl,.inr ⟨g,rfl,(Array.getElem?_eq_some_iff.1 hg).1,fun j hj=>?_⟩,fun g' hg'=>by simp at hg';omega⟩
   have key:∀k,k<3->W.cell? (aD g (j*3+k))=(rnC (L.getD j r0))[k]?:=fun k hk=>by
    rw[(Zaa hg _).1,<-Zva L j hj k hk,<-htk,List.getElem?_take,if_pos (by omega)];simp
   have k0:=key 0 (by omega);have k1:=key 1 (by omega);have k2:=key 2 (by omega)
   exact⟨by simpa[rnC]using k0,by simpa[rnC]using k1,by simpa[rnC]using k2⟩
theorem Tryz.Ygn:(Tryz.prog.info? 200).map (fun i=>(i.zero,i.size,i.bytes))=some (some (.agg #[iV 0,iV 0,.bool false]),3,24):=by kernel_rfl
def adL (l:List (Nat × Nat × Bool)):List (Nat × Nat × Bool):=l.map fun y=>(adr y.1,y.2.1,y.2.2)
theorem Ybb (l:List (Nat × Nat × Bool)) (y:Nat × Nat × Bool):adL (l++[y])=adL l++[(adr y.1,y.2.1,y.2.2)]:=by simp[adL]
theorem Zdq (R:Zag) (p:Nat):(Zbi R p).length<=p:=by
 induction p with
 |zero=>simp[Zu1]
 |succ p ih=>
  rw[Zgs,List.length_append];cases R p<;>simp<;>omega
theorem Zen (l:List (Nat × Nat × Bool)):(adL l).length=l.length:=by simp[adL]
theorem Zgi {x y:World} {base:Nat} {e:TypeId} {size:Nat} {v:Value} {n:Nat} {xs:List Value} (h:x.ownsRow base e size v n xs) (hb:Below x.heap.size x y):y.ownsRow base e size v n xs:=
 ⟨h.1,h.2.imp id fun⟨g,cap,cur,e1,e2,hg,rest⟩=>⟨g,cap,cur,e1,e2,(hb.block _ (Array.getElem?_eq_some_iff.1 hg).1).trans hg,rest⟩⟩
theorem Ybr {W:World} {base:Nat} {e:TypeId} {size:Nat} {v:Value} {n:Nat} {xs:List Value} (h:W.ownsRow base e size v n xs) {T:Nat} {c:Array Value} {U:TypeId} {fr:Nat × Nat} (hT:W.heap[T]?=some (.cells c U fr)) (hne:U≠e):some T≠v.ownBlock:=by
 rcases h.2 with⟨rfl,_⟩|⟨g,cap,cur,rfl,_,hg,_⟩
 · simp[Value.ownBlock]
 · intro q
   have:T=g:=by simpa[Value.ownBlock]using q
   subst this;rw[hT]at hg;simp only[Option.some.injEq,Obj.cells.injEq]at hg;exact hne hg.2.1
structure Ztp (b0:Nat) (w:World) (L:List (Nat × Nat × Bool)) (v:Value) (x:World):Prop where
 ow:x.ownsRow b0 200 3 v L.length (rnL L)
 be:Below b0 w x
 sz:b0<=x.heap.size
theorem Ztp.below {b0:Nat} {w x y:World} {L:List (Nat × Nat × Bool)} {v:Value} (h:Ztp b0 w L v x) (hb:Below x.heap.size x y):Ztp b0 w L v y:=
 ⟨Zgi h.ow hb,h.be.trans (hb.mono h.sz),Nat.le_trans h.sz hb.size⟩
section
variable {B A n g:Nat} {R:Zag} {s:ASt} {w:World}
def Ybd (R:Zag) (g:Nat) (w:World) (e:Ending) (w':World):Prop:=
 ∃p cap,e=.returned (.slice p (adL (Zbi R g)).length cap)/\Zcg w' p (adL (Zbi R g))/\(∀j,p=some (aD j 0)->w.heap.size<=j)/\Below w.heap.size w w'
theorem Zj1 (h:BV B A n s w) (hB:Bud (n+1) g g R g s):Calls Tryz.prog 143 #[Zcv B] w (Ybd R g w):=by
 obtain⟨i0,hi0,hz0,hz1,hz2⟩:=info_parts Tryz.Ygn;have HI:=hid hi0;have HZ0:=hid hz0;have HZ1:=hid hz1;have HZ2:=hid hz2
 clear hi0 hz0 hz1 hz2;have HV:=hid h;have HB:=hid hB;have HZ:=hid (hB.sz h.2.1);have hgb:g<=80:=by have:=hB.sz h.2.1;omega
 clear h hB;go_enter Tryz.func143,Tryz.ntmps143;go_wp2_with fail
 refine(Zrr HV.out g hgb HB.out.front HB.out.gr).mono ?_
 rintro e w1 ⟨rfl,hb⟩;have HR1:Hid (Ztp w.heap.size w (adL (Zbi R 0)) (.slice none 0 0) w1):=hid ⟨World.ownsRow_nil _ _ _ _,hb,hb.size⟩;clear hb;go_wp2_with fail
 go_loopw[3,4] (fun v s4 wr=>∃p:Nat,p<=g/\s4=iV p/\Hid (p=0\/∃i k t,R i=some (k,t)/\i+2^k=p)/\Hid (Ztp w.heap.size w (adL (Zbi R p)) v wr)) (fun _ s4 _=>g-(intOf s4).toNat)
 case atStart=>exact⟨0,Nat.zero_le _,rfl,hid (.inl rfl),HR1⟩
 case round=>
  clear HR1;obtain⟨p,hpg,rfl,HBG,HRG⟩:=hrel;by_cases hlt:p<g
  · have hlt2:(p:Int)<(g:Int):=by omega
    obtain⟨k,t,hR⟩:=HB.out.ti.toTile.Ycb hlt HBG.out;have hx:=HV.out.below HRG.out.be;have HVr:=hid hx;obtain⟨c0,c1,c2,c3,c4,c5,c6,c7,c8,c9,_⟩:=hx.all;have hk10:k<=10/\p+2^k<=g:=by have:=HB.out.addr hR;omega
    have hpp:=Zae k;have HRN:=hid (Yef HVr.out HB.out hR p (Nat.le_refl _) (by omega));have HRR:=hid hR;have HST:=hid (Zi6 HB.out.ti.toTile hR);obtain⟨hN,_,_⟩:=Zli k (by omega);have HN:=hid hN;clear hN hx;obtain⟨P,hP⟩:=eX (2^k);have HP:=hid hP;rw[hP]at HN HST hk10 hpp;obtain⟨p2,hp2⟩:=eX (p+P);rw[hp2]at HST hk10;have HP2:=hid hp2;have E4:Hid (IntKind.i64.wrap ((p:Int)+(P:Int))=(p2:Int)):=hid (by rw[IntKind.wrap_i64];omega);have E5:Hid (IntKind.i64.wrap (k:Int)=(k:Int)):=hid (by rw[IntKind.wrap_i64];omega);have hpp2:p<p2:=by omega
    clear hR hP hp2;go_wp2_with fail;refine HRN.out.mono ?_;rintro e w3 ⟨rfl,hb⟩;have HRG3:=hid ((HRG.out.below hb).below (Zaj w3 (.cells #[.int .u8 (if t then 3 else 2),.int .u8 (k:Int)] 232)));have HBT:=hid (BT.new (HVr.out.below hb) (if t then 3 else 2) (k:Int));have HAD:=hid fun X (hX:BV B A n s X)=>Yeo hX HZ.out.2.1 p (by omega)
    have e5:=E5.out;clear hb c0 c1 c2 c3 c4 c5 c6 c7 c8 c9 HRN HRG HBG HVr;go_upto_region 7 with fail;obtain⟨w4,hw4⟩:=eX (w3.alloc (.cells #[.int .u8 (if t then 3 else 2),.int .u8 (k:Int)] 232));obtain⟨T,hT⟩:=eX w3.heap.size;rw[hw4]at HBT HRG3⊢;rw[hT]at HBT⊢;clear hw4 hT e5;have t0:=(HBT.out.below (Below.refl _ _).drew).tag.1;refine wp_region_held_drew (S:=fun X:World=>X.cell? (aD T 0)=some (.int .u8 (if t then 3 else 2))) (by kernel_rfl) (by exact t0) (fun hHeld=>?_);refine tk 0 u3 rfl hHeld (fun X hS=>by have s0:=hS;go_simp) ?_;refine tk 1 (Zcv B) rfl hHeld (fun X hS=>by have s0:=hS;go_simp) ?_;refine tk 2 (iV p) rfl hHeld (fun X hS=>by have s0:=hS;go_simp) ?_;refine tk 4 (iV k) rfl hHeld (fun X hS=>by have s0:=hS;go_simp) ?_;refine tk 5 (pT T) rfl hHeld (fun X hS=>by have s0:=hS;go_simp) ?_;refine tk 6 (.int .u8 (if t then 3 else 2)) rfl hHeld (fun X hS=>by have s0:=hS;go_simp) ?_;refine tk 7 (.bool t) rfl hHeld (fun X hS=>by have s0:=hS;cases t<;>go_simp) ?_;refine rd [3] (AllReadyH.cons rfl (fun K1 hK1=>?_) AllReadyH.nil);go_simp
    refine(HAD.out _ (HBT.out.1.below (Below.refl _ _).drew)).mono ?_
    rintro e w5 ⟨rfl,hb⟩;have hb5:Below w4.heap.size w4 w5:=(Below.refl _ _).drew.trans hb;have hT5:=((HBT.out.below hb5).tag).1;refine hK1.out _ _ hT5 (fun hHeld=>?_);clear hK1
    try simp only[Act.put,apu]
    have HB5:=hid hb5;clear hb hb5 hHeld;have hHeld:=hT5;refine tk 8 (.agg #[iV (adr p:Int),iV k,.bool t]) rfl hHeld (fun X hS=>by have s0:=hS;go_simp) ?_;refine rd [9] (AllReadyH.cons rfl (fun K2 hK2=>?_) AllReadyH.nil);go_simp;have hbt5:=HBT.out.below HB5.out;have hrg5:=(HRG3.out.below HB5.out).below (Zaj w5 (.cells #[iV (adr p:Int),iV k,.bool t] 200));have hT6:=(hbt5.below (Zaj w5 (.cells #[iV (adr p:Int),iV k,.bool t] 200))).tag.1;have hrow2:=hrg5.ow;have hsz2:=hrg5.sz;have HRG5:=hid hrg5;have HLN:Hid ((adL (Zbi R p)).length<=2000):=hid (by have:=Zdq R p;rw[Zen];have:=HZ.out;omega);have HT6:=hid ((hbt5.below (Zaj w5 (.cells #[iV (adr p:Int),iV k,.bool t] 200))).2);clear hHeld hbt5 hrg5;refine hK2.out _ _ hT6 (fun hHeld=>?_);clear hK2 hT6
    try simp only[Act.put,apu]
    refine rd [10] (AllReadyH.cons rfl (fun K3 hK3=>?_) AllReadyH.nil);rw[if_pos (by rfl)];refine wp_append_own _ (.tmp 30) (.tmp 39) 198 rfl w.heap.size 200 i0 (.agg #[iV 0,iV 0,.bool false]) 3 24 Tryz.underlying198 HI.out HZ0.out HZ1.out HZ2.out rfl (by decide) u3 _ _ rfl hrow2 ⟨_,0,none⟩ 1 1 (rnC (adr p,k,t)) rfl rfl (Zi8 (adr p,k,t) _ rfl) (by simp[rnC,Value.oneCell']) (by unfold maxLen;have:=HLN.out;omega) (by have:=HLN.out;omega) hsz2 ?_;intro v2 w7 hown' hgrow _;have hBW:=Zgf hrow2 hgrow hsz2 HRG5.out.be
    have hT7:w7.cell? (aD T 0)=some (.int .u8 (if t then 3 else 2)):=by
     have:=(hgrow.block T (Array.getElem?_eq_some_iff.1 HT6.out).1 (Ybr hrow2 HT6.out (by decide))).trans HT6.out
     rw[(Zaa this 0).1];rfl
    have HRG7:Hid (Ztp w.heap.size w (adL (Zbi R p2)) v2 w7):=hid ⟨by rw[HST.out,Ybb,Zdc,List.length_append];simpa[rnL]using hown',hBW,Nat.le_trans hsz2 hgrow.size⟩;clear hown' hgrow hBW hrow2 hsz2 hHeld;refine hK3.out _ _ hT7 (fun hHeld=>?_);clear hT7 hK3
    try simp only[Act.put,apu]
    refine tk 11 v2 rfl hHeld (fun X hS=>by have s0:=hS;go_simp) ?_;refine wpAnyH_done (by kernel_rfl) ?_ _;clear hHeld t0;have hN:=HN.out;have e4:=E4.out;go_wp2_with fail
    refine⟨⟨p2,hk10.2,rfl,hid (.inr ⟨p,k,t,HRR.out,by rw[HP.out];exact HP2.out⟩),HRG7⟩,by simp[intOf];omega⟩
  · obtain rfl:p=g:=by omega
    obtain⟨q,cap,rfl,hr,hq⟩:=Zlk HRG.out.ow;have HF:Hid (Zcg wr q (adL (Zbi R p))/\(∀j,q=some (aD j 0)->w.heap.size<=j)):=hid ⟨hr,hq⟩;clear hr hq;go_wp2_with fail
    go_ret
    exact⟨q,cap,rfl,HF.out.1,HF.out.2,HRG.out.be⟩
end
end
section
open Go Go.RowKit Go.Shelf
section
variable {A:Nat} {s:ASt} {w:World}
theorem Ycr (L:Nat) (hL:L<=2000):Sz.Ycu [256,(L:Int)]=256+L/\Sz.Ycw [256,(L:Int)]=true:=by
 have h1:Sz.Zgc 256=true:=by decide
 have h2:Sz.Zgc (L:Int)=true:=by unfold Sz.Zgc;rw[decide_eq_true_iff];omega
 have h3:Sz.Zgc (256+(L:Int))=true:=by unfold Sz.Zgc;rw[decide_eq_true_iff];omega
 simp[Sz.Ycu,Sz.Ycw,Sz.Zmf,h1,h2,h3]
theorem Yb8 (h:On A s w) (hL:s.L<=80):Calls Tryz.prog 114 #[pT A] w (Zan (.tuple #[iV ((256+s.L:Nat):Int),iV 1]) w):=by
 obtain⟨L,hLL⟩:=eX s.L;have HC:=hid (Zhj h);rw[hLL]at hL HC⊢;obtain⟨s1,s2⟩:=Ycr L (by omega)
 have HS:=hid (Sz.Zum w.heap.size 0 2 [256,(L:Int)] (w.alloc (.cells #[iV 256,iV L] 3)) (by simp) (fun k hk=>by
  have hk2:k=0\/k=1:=by simp at hk;omega
  rw[(Zaa (Zab w _) _).1];rcases hk2 with rfl|rfl<;>rfl))
 rw[s1,s2]at HS;obtain⟨m,hm⟩:=eX (256+L);have e1:(256:Int)+(L:Int)=(m:Int):=by omega
 have HP:=hid fun X=>Sz.Zo1 (m:Int) X
 have hp:Sz.pgV (m:Int)=1:=by unfold Sz.pgV;rw[if_pos (by unfold Sz.Zgc;rw[decide_eq_true_iff];omega)];omega
 rw[hp]at HP;rw[e1]at HS;rw[hm];have HB:=hid (Zaj w (.cells #[iV 256,iV L] 3));simp only[List.length_cons,List.length_nil,Nat.zero_add,Nat.reduceAdd]at HS;clear h hLL s1 s2 hm hp e1;go_enter Tryz.func114,Tryz.ntmps114;go_wp2_with fail;refine HC.out.mono ?_;rintro e w' ⟨rfl,rfl⟩;go_wp2_with fail;refine HS.out.mono ?_;rintro e w' ⟨rfl,rfl⟩;go_wp2_with fail
 refine(HP.out _).mono ?_
 rintro e w' ⟨rfl,rfl⟩;go_wp2_with fail
 go_ret2
 exact⟨rfl,HB.out⟩
def VwV (T A va vs:Nat) (w:World):Prop:=w.heap[T]?=some (.cells #[pT A,iV va,iV vs] 40 (0,0))
theorem VwV.below {T A va vs:Nat} {x y:World} (h:VwV T A va vs x) (hb:Below x.heap.size x y):VwV T A va vs y:=(hb.block _ (Array.getElem?_eq_some_iff.1 h).1).trans h
theorem VwV.all {T A va vs:Nat} {x:World} (h:VwV T A va vs x):x.cell? (aD T 0)=some (pT A)/\x.cell? (aD T 1)=some (iV va)/\x.cell? (aD T 2)=some (iV vs):=by
 refine⟨?_,?_,?_⟩<;>(rw[(Zaa h _).1];rfl)
theorem VwV.lt {T A va vs:Nat} {x:World} (h:VwV T A va vs x):T<x.heap.size:=(Array.getElem?_eq_some_iff.1 h).1
theorem VwV.far {T A va vs R:Nat} {x:World} (h:VwV T A va vs x) (hne:T≠R) (u v z:Value):VwV T A va vs (((x.setCell (aD R 0) u).setCell (aD R 1) v).setCell (aD R 2) z):=
 (Below.heap_setCell _ (aD R 2) _ _ hne).trans ((Below.heap_setCell _ (aD R 1) _ _ hne).trans ((Below.heap_setCell _ (aD R 0) _ _ hne).trans h))
theorem VwV.new (A va vs:Nat) (w:World):VwV w.heap.size A va vs (w.alloc (.cells #[pT A,iV va,iV vs] 40)):=Zab _ _
def Yhf (A n:Nat) (w:World) (e:Ending) (w':World):Prop:=∃B,e=.returned (.tuple #[Zcv B,iV 0])/\Zj8 B A n w'/\w.heap.size<=B/\Below w.heap.size w w'
def Yj7 (A n O F K:Nat) (w:World) (s10 s7:Value) (wx:World):Prop:=∃T,s10=pT T/\s7=iV 0/\VwV T A 256 n wx/\VwV F A 0 256 wx/\VwV K A 16 88 wx/\Below w.heap.size w wx
theorem Zn6 (n:Nat) (h:On A s w) (hL:s.L=n+1) (hn:n<80) (ht:Zac s.L s.es 0 ((256+s.L:Nat):Int)=0):Calls Tryz.prog 62 #[pT A] w (Yhf A n w):=by
 have HO:=hid (Yb8 h (by omega));have HC:=hid fun X (hX:On A s X)=>Zhj hX
 rw[hL]at HC HO;have hf:∀(a k:Int),ofV (some (aD A 0)) a k 0=.agg #[pT A,iV a,iV k]:=fun a k=>by unfold ofV;rw[if_pos rfl]
 have g:=h.Zch;have t1:Zac s.L s.es 0 256=0:=Zbn g ht (by omega) (by omega) (by omega);have t2:Zac s.L s.es 16 88=0:=Zbn g ht (by omega) (by omega) (by omega);have t3:Zac s.L s.es 256 (n:Int)=0:=Zbn g ht (by omega) (by omega) (by omega);rw[hL]at ht t1 t2 t3;obtain⟨m,hm⟩:=eX (256+(n+1));rw[hm]at ht HO;have hmb:m<=400/\256+n<=m:=by omega
 have HF:=hid fun X (hX:On A s X)=>Zgw hX 0 (m:Int) (by omega)
 rw[hL,ht,hf]at HF;have HP1:=hid fun X (hX:On A s X)=>Zcl hX 0 m (by omega) (by omega) 0 256 (by omega)
 rw[show Zai 0 m 0 256=0 from by unfold Zai;rw[if_pos (by omega)];omega,hL,t1,hf]at HP1;have HP2:=hid fun X (hX:On A s X)=>Zcl hX 0 256 (by omega) (by omega) 16 88 (by omega)
 rw[show Zai 0 256 16 88=16 from by decide,hL,t2,hf]at HP2;have HP3:=hid fun X (hX:On A s X)=>Zcl hX 0 m (by omega) (by omega) 256 (n:Int) (by omega)
 rw[show Zai 0 m 256 n=256 from by unfold Zai;rw[if_pos (by omega)];omega,hL,t3,hf]at HP3;have H:=hid h;have hsub:IntKind.i64.wrap (((n+1:Nat):Int)-1)=(n:Int):=by rw[IntKind.wrap_i64];omega
 have HSUB:=hid hsub;obtain⟨L,hLL⟩:=eX (n+1);rw[hLL]at HC HSUB;clear h hm ht hL t1 t2 t3 hf g hsub hLL;go_enter Tryz.func62,Tryz.ntmps62;go_wp2_with fail;refine HO.out.mono ?_;rintro e w1 ⟨rfl,hb⟩;have H1:=hid (H.out.below hb);have HB1:=hid hb;clear hb HO;go_wp2_with fail
 refine(HF.out _ H1.out).mono ?_
 rintro e w2 ⟨rfl,hb⟩;have H2:=hid ((H1.out.below hb).below (Zaj w2 (.cells #[pT A,iV 0,iV m] 40)));have HB2:=hid ((HB1.out.trans (hb.mono HB1.out.size)).alloc (HB1.out.trans (hb.mono HB1.out.size)).size (.cells #[pT A,iV 0,iV m] 40));have HO2:Hid (VwV w2.heap.size A 0 m _):=hid (VwV.new A 0 m w2);clear hb HF;go_upto_region 5 with fail;obtain⟨y2,hy2⟩:∃y,w2.alloc (.cells #[pT A,iV 0,iV m] 40)=y:=⟨_,rfl⟩
 obtain⟨O,hO⟩:=eX w2.heap.size;have HO2':Hid (VwV w2.heap.size A 0 m (w2.alloc (.cells #[pT A,iV 0,iV m] 40))):=HO2;rw[hy2]at H2 HB2 HO2'⊢;rw[hO]at HO2'⊢;clear hy2 hO HO2;obtain⟨o0,o1,o2⟩:=HO2'.out.all;go_wp2_with fail
 refine(HP1.out _ H2.out).mono ?_
 rintro e w3 ⟨rfl,hb⟩;have H3:=hid ((H2.out.below hb).below (Zaj w3 (.cells #[pT A,iV 0,iV 256] 40)));have HB3:=hid ((HB2.out.trans (hb.mono HB2.out.size)).alloc (HB2.out.trans (hb.mono HB2.out.size)).size (.cells #[pT A,iV 0,iV 256] 40));have HF3:Hid (VwV w3.heap.size A 0 256 (w3.alloc (.cells #[pT A,iV 0,iV 256] 40))):=hid (VwV.new A 0 256 w3);have HO3:=hid ((HO2'.out.below hb).below (Zaj w3 (.cells #[pT A,iV 0,iV 256] 40)));clear hb o0 o1 o2 HP1 HO2' H2 HB2;go_upto_region 8 with fail;obtain⟨y3,hy3⟩:∃y,w3.alloc (.cells #[pT A,iV 0,iV 256] 40)=y:=⟨_,rfl⟩
 obtain⟨F,hF⟩:=eX w3.heap.size;rw[hy3]at H3 HB3 HF3 HO3⊢;rw[hF]at HF3⊢;clear hy3 hF;obtain⟨f0,f1,f2⟩:=HF3.out.all;go_wp2_with fail
 refine(HP2.out _ H3.out).mono ?_
 rintro e w4 ⟨rfl,hb⟩;have H4:=hid ((H3.out.below hb).below (Zaj w4 (.cells #[pT A,iV 16,iV 88] 40)));have HB4:=hid ((HB3.out.trans (hb.mono HB3.out.size)).alloc (HB3.out.trans (hb.mono HB3.out.size)).size (.cells #[pT A,iV 16,iV 88] 40));have HK4:Hid (VwV w4.heap.size A 16 88 (w4.alloc (.cells #[pT A,iV 16,iV 88] 40))):=hid (VwV.new A 16 88 w4);have HO4:=hid ((HO3.out.below hb).below (Zaj w4 (.cells #[pT A,iV 16,iV 88] 40)));have HF4:=hid ((HF3.out.below hb).below (Zaj w4 (.cells #[pT A,iV 16,iV 88] 40)));clear hb f0 f1 f2 HP2 HO3 HF3 H3 HB3;go_upto_region 11 with fail;obtain⟨y4,hy4⟩:∃y,w4.alloc (.cells #[pT A,iV 16,iV 88] 40)=y:=⟨_,rfl⟩
 obtain⟨K,hK⟩:=eX w4.heap.size;rw[hy4]at H4 HB4 HK4 HO4 HF4⊢;rw[hK]at HK4⊢;clear hy4 hK
 go_cut[10,7] (fun s10 s7 wx=>Yj7 A n O F K w s10 s7 wx)
 case first=>
  as_aux_lemma=>
  have hsub:=HSUB.out;have hw1:On A s y4.drew:=H4.out.below (Below.refl _ _).drew;have hw2:On A s (y4.alloc (.cells #[.pointer none,iV 0,iV 0] 40)).drew:=H4.out.below ((Zaj y4 (.cells #[.pointer none,iV 0,iV 0] 40)).drew);have hw3:On A s (y4.drew.alloc (.cells #[.pointer none,iV 0,iV 0] 40)):=H4.out.below ((Below.refl y4.heap.size y4).drew.alloc (Nat.le_refl _) (.cells #[.pointer none,iV 0,iV 0] 40));have hk1:VwV O A 0 m y4.drew:=HO4.out.below (Below.refl _ _).drew;have hk2:VwV O A 0 m (y4.alloc (.cells #[.pointer none,iV 0,iV 0] 40)).drew:=HO4.out.below ((Zaj y4 (.cells #[.pointer none,iV 0,iV 0] 40)).drew);have hk3:VwV O A 0 m (y4.drew.alloc (.cells #[.pointer none,iV 0,iV 0] 40)):=HO4.out.below ((Below.refl y4.heap.size y4).drew.alloc (Nat.le_refl _) (.cells #[.pointer none,iV 0,iV 0] 40))
  go_region_held3 (fun x=>x.cell? (aD O 0)=some (pT A)/\x.cell? (aD O 1)=some (iV 0)/\x.cell? (aD O 2)=some (iV m))
   (first|assumption|exact hk1.all|exact hk2.all|exact hk3.all
         |exact hov.all|exact hov0.all|exact hov1.all|exact hov2.all)
   (first|(go_at_call 60
           with_reducible refine(HC.out _ hw1).mono ?_
           rintro e w' ⟨rfl,rfl⟩)
         |(go_at_call 60
           with_reducible refine(HC.out _ hw2).mono ?_
           rintro e w' ⟨rfl,rfl⟩)
         |(go_at_call 66
           refine(HP3.out _ hw1).mono ?_
           rintro e w'' ⟨rfl,hbg⟩;have hbw:Below y4.heap.size y4 w'':=(Below.refl _ _).drew.trans hbg;have hov:=HO4.out.below hbw;have hov0:=hov.below (Zaj w'' (.cells #[.pointer none,iV 0,iV 0] 40));have hov1:=hov.below (Zaj w'' (.cells #[pT A,iV 256,iV n] 40));have kk2:=hov.all)
         |(go_at_call 66
           refine(HP3.out _ hw2).mono ?_
           rintro e w'' ⟨rfl,hbg⟩;have hT3:w''.heap[y4.heap.size]?=some (.cells #[.pointer none,iV 0,iV 0] 40 (0,0)):=(hbg.block y4.heap.size (by show y4.heap.size<(y4.alloc (.cells #[.pointer none,iV 0,iV 0] 40)).heap.size;simp)).trans (Zab y4 (.cells #[.pointer none,iV 0,iV 0] 40));have r0:=(Zaa hT3 0).1;have r1:=(Zaa hT3 1).1;have r2:=(Zaa hT3 2).1;have f0:=(Zaa hT3 0).2;have f1:=(Zaa hT3 1).2;have f2:=(Zaa hT3 2).2
           have hneO:O≠y4.heap.size:=Nat.ne_of_lt HO4.out.lt;have hbw:Below y4.heap.size y4 w'':=((Zaj y4 (.cells #[.pointer none,iV 0,iV 0] 40)).drew).trans (hbg.mono ((Zaj y4 (.cells #[.pointer none,iV 0,iV 0] 40)).drew).size);have hov:=HO4.out.below hbw;have HT3:=hid hT3;have hov2:=hov.far hneO (pT A) (iV 256) (iV n);have kk2:=hov.all;clear hT3)
         |(go_at_call 66
           refine(HP3.out _ hw3).mono ?_
           rintro e w'' ⟨rfl,hbg⟩;have hT3:w''.heap[y4.drew.heap.size]?=some (.cells #[.pointer none,iV 0,iV 0] 40 (0,0)):=(hbg.block y4.drew.heap.size (by simp)).trans (Zab y4.drew (.cells #[.pointer none,iV 0,iV 0] 40));have r0:=(Zaa hT3 0).1;have r1:=(Zaa hT3 1).1;have r2:=(Zaa hT3 2).1;have f0:=(Zaa hT3 0).2;have f1:=(Zaa hT3 1).2;have f2:=(Zaa hT3 2).2
           have hneO:O≠y4.heap.size:=Nat.ne_of_lt HO4.out.lt;have hbw:Below y4.heap.size y4 w'':=((Below.refl y4.heap.size y4).drew.alloc (Nat.le_refl _) (.cells #[.pointer none,iV 0,iV 0] 40)).trans (hbg.mono ((Below.refl y4.heap.size y4).drew.alloc (Nat.le_refl _) (.cells #[.pointer none,iV 0,iV 0] 40)).size);have hov:=HO4.out.below hbw;have HT3:Hid (w''.heap[y4.heap.size]?=some (.cells #[.pointer none,iV 0,iV 0] 40 (0,0))):=hid hT3;have hov2:=hov.far hneO (pT A) (iV 256) (iV n);have kk2:=hov.all;clear hT3))
  all_goals go_wp2_with fail
  all_goals go_meet
  all_goals first
   |exact⟨_,rfl,rfl,VwV.new A 256 n w'',(HF4.out.below hbw).below (Zaj w'' (.cells #[pT A,iV 256,iV n] 40)),(HK4.out.below hbw).below (Zaj w'' (.cells #[pT A,iV 256,iV n] 40)),(HB4.out.trans (hbw.mono HB4.out.size)).alloc (HB4.out.trans (hbw.mono HB4.out.size)).size (.cells #[pT A,iV 256,iV n] 40)⟩
   |exact⟨y4.heap.size,rfl,rfl,Za8 HT3.out rfl (pT A) (iV 256) (iV n),(HF4.out.below hbw).far (Nat.ne_of_lt HF4.out.lt) (pT A) (iV 256) (iV n),(HK4.out.below hbw).far (Nat.ne_of_lt HK4.out.lt) (pT A) (iV 256) (iV n),
    (((HB4.out.trans (hbw.mono HB4.out.size)).setCell (p:=(aD y4.heap.size 0)) HB4.out.size (pT A)).setCell (p:=(aD y4.heap.size 1)) HB4.out.size (iV 256)).setCell (p:=(aD y4.heap.size 2)) HB4.out.size (iV n)⟩
 case rest=>
  obtain⟨T,rfl,rfl,ht,hf,hk,hb⟩:=hcut;obtain⟨y5,hy5⟩:∃y,wc=y:=⟨_,rfl⟩
  rw[hy5]at ht hf hk hb⊢;clear hy5;have HT:=hid ht;have HF5:=hid hf;have HK5:=hid hk;have HB5:=hid hb
  clear ht hf hk hb HF4 HK4 HB4 HO4 H4 HC HP3;go_upto_region 14 with fail;have ht1:=(HT.out.below (Below.refl _ _).drew).all;have hf1:=(HF5.out.below (Below.refl _ _).drew).all;have hk1:=(HK5.out.below (Below.refl _ _).drew).all
  go_region_held3 (fun x=>x.cell? (aD F 0)=some (pT A)/\x.cell? (aD F 1)=some (iV 0)/\x.cell? (aD F 2)=some (iV 256)/\x.cell? (aD K 0)=some (pT A)/\x.cell? (aD K 1)=some (iV 16)/\x.cell? (aD K 2)=some (iV 88)/\x.cell? (aD T 0)=some (pT A)/\x.cell? (aD T 1)=some (iV 256)/\x.cell? (aD T 2)=some (iV n))
   (first|assumption|exact⟨hf1.1,hf1.2.1,hf1.2.2,hk1.1,hk1.2.1,hk1.2.2,ht1.1,ht1.2.1,ht1.2.2⟩|exact⟨hf4.1,hf4.2.1,hf4.2.2,hk4.1,hk4.2.1,hk4.2.2,ht4.1,ht4.2.1,ht4.2.2⟩)
   (first|(go_at_call 131
           refine(Ybw (some (aD A 0)) 16 88 _).mono ?_
           rintro e w6 ⟨rfl,hb6⟩;have hbx:Below y5.heap.size y5 w6:=(Below.refl _ _).drew.trans hb6;have hf2:=(HF5.out.below hbx).all;have hk2:=(HK5.out.below hbx).all;have ht2:=(HT.out.below hbx).all;have kk:_/\_/\_/\_/\_/\_/\_/\_/\_:=⟨hf2.1,hf2.2.1,hf2.2.2,hk2.1,hk2.2.1,hk2.2.2,ht2.1,ht2.2.1,ht2.2.2⟩)
         |(go_at_call 132
           refine(Zmr (some (aD A 0)) 256 n _).mono ?_
           rintro e w7 ⟨rfl,hb7⟩;have hby:Below y5.heap.size y5 w7:=hbx.trans (hb7.mono hbx.size);have hbz:=hby.alloc hby.size (.cells #[pT A,pT A,iV 0,iV 256,pT A,iV 16,iV 88,pT A,iV 256,iV n] 53);have hf3:=(HF5.out.below hby).all;have hk3:=(HK5.out.below hby).all;have ht3:=(HT.out.below hby).all;have hf4:=(HF5.out.below hbz).all;have hk4:=(HK5.out.below hbz).all;have ht4:=(HT.out.below hbz).all;have kk2:_/\_/\_/\_/\_/\_/\_/\_/\_:=⟨hf3.1,hf3.2.1,hf3.2.2,hk3.1,hk3.2.1,hk3.2.2,ht3.1,ht3.2.1,ht3.2.2⟩))
  have HF:Hid (Yhf A n w (.returned (.tuple #[Zcv w7.heap.size,iV 0])) (w7.alloc (.cells #[pT A,pT A,iV 0,iV 256,pT A,iV 16,iV 88,pT A,iV 256,iV n] 53))):=hid ⟨w7.heap.size,rfl,Zab w7 (.cells #[pT A,pT A,iV 0,iV 256,pT A,iV 16,iV 88,pT A,iV 256,iV n] 53),Nat.le_trans HB5.out.size hby.size,HB5.out.trans (hbz.mono HB5.out.size)⟩;clear hf1 hk1 ht1 hf2 hk2 ht2 hf3 hk3 ht3 hf4 hk4 ht4 kk kk2 hby hbx hb6 hb7;go_wp2_with fail
  go_ret2
  exact HF.out
end
end
end Go.Proofs.YtgcidfenjlmljaaGreat.Bt
