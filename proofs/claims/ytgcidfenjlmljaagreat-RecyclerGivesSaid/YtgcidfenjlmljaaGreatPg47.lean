import Derived.Test.YtgcidfenjlmljaaGreatPg46
import Derived.BigRegion
import Derived.Deep.DeepCutAuto
import Derived.Test.YtgcidfenjlmljaaGreatPgR
set_option linter.unusedVariables false
set_option linter.unusedSimpArgs false
set_option maxRecDepth 100000
set_option maxHeartbeats 16000000
namespace Go.Proofs.YtgcidfenjlmljaaGreat.Bt
section
open Go Go.RowKit Go.Shelf
structure PO (O Q n A B g:Nat) (R:Zag) (s:ASt) (u:Option Addr) (tc:Nat) (w0 x:World):Prop where
 pb:PB Q n A B g R s u tc w0 x
 bo:Zht O 0 0 0 0 (.slice none 0 0) x
 mo:Zbb A O x
 ne:O≠Q
 os:w0.heap.size<=O
section
variable {O Q n A B g g' tc tc':Nat} {R R':Zag} {s s':ASt} {u u':Option Addr} {w0 x y:World}
end
end
section
open Go Go.RowKit Go.Shelf
def lgM (L:List (Nat × Nat × Bool)):Nat:=L.foldl (fun m y=>if y.2.2=true then m else max m y.2.1) 0
def lgB (L:List (Nat × Nat × Bool)):Bool:=L.any fun y=> !y.2.2
def lgV (L:List (Nat × Nat × Bool)):Value:=.tuple #[iV (lgM L:Int),.bool (lgB L)]
theorem Zz2 (L:List (Nat × Nat × Bool)) (i k:Nat) (t:Bool):lgM (L++[(i,k,t)])=if t=true then lgM L else max (lgM L) k:=by unfold lgM;rw[List.foldl_append];rfl
theorem Zz3 (L:List (Nat × Nat × Bool)) (i k:Nat) (t:Bool):lgB (L++[(i,k,t)])=(lgB L|| !t):=by unfold lgB;rw[List.any_append];simp
theorem Ya0 {B A n g:Nat} {R:Zag} {s:ASt} {w:World} (h:BV B A n s w) (hB:Bud (n+1) g g R g s):Calls Tryz.prog 86 #[Zcv B] w (Zan (lgV (Zbi R g)) w):=by
 have HGB:Hid (g<=80):=hid (by have:=hB.sz h.2.1;omega);have HRU:=hid (Zj1 h hB);clear h hB;go_enter Tryz.func86,Tryz.ntmps86;go_wp2_with fail;refine HRU.out.mono ?_;rintro e w1 ⟨u,cap,rfl,hru,huf,hb⟩;obtain⟨nl,hnl⟩:=eX ((Zbi R g).length);have HNL:=hid hnl;have hnl80:nl<=80:=by have:=Zdq R g;have:=HGB.out;omega
 have HBW:=hid hb;have HR1:=hid hru;rw[Zen,hnl];clear hru huf hb HRU hnl;go_wp2_with fail
 go_loopw[4,5,11] (fun s4 s5 s11 wr=>∃j:Nat,j<=nl/\s4=iV (lgM ((Zbi R g).take j):Int)/\s5=.bool (lgB ((Zbi R g).take j))/\s11=iV j/\Hid (Below w1.heap.size w1 wr)) (fun _ _ s11 _=>nl-(intOf s11).toNat)
 case atStart=>exact⟨0,Nat.zero_le _,by rw[List.take_zero];rfl,by rw[List.take_zero];rfl,rfl,hid (Below.refl _ _)⟩
 case round=>
  obtain⟨j,hj,rfl,rfl,rfl,HWr⟩:=hrel;by_cases hjn:j<nl
  · have hjn2:(j:Int)<(nl:Int):=by omega
    have hjL:j<(Zbi R g).length:=by rw[HNL.out];exact hjn
    rcases HR1.out.below HWr.out with e|⟨gb,rfl,hgl,hcc⟩
    · have:=congrArg List.length e;rw[Zen,HNL.out]at this;simp at this;omega
    obtain⟨q0,q1,q2⟩:=hcc j (by rw[Zen];exact hjL);obtain⟨y,hy⟩:=eX ((Zbi R g).getD j r0);rw[Zpv hjL,hy]at q0 q1 q2;have hmm:=Zdp.1 (show(y.1,y.2.1,y.2.2)∈Zbi R g by rw[<-hy];exact Zej hjL);have HTK:=hid (Zdy hjL);rw[hy]at HTK;obtain⟨i,k,t⟩:=y
    simp only at q0 q1 q2
    obtain⟨M,hM⟩:=eX (lgM ((Zbi R g).take j));obtain⟨S,hS⟩:=eX (lgB ((Zbi R g).take j));have HM1:Hid (lgM ((Zbi R g).take (j+1))=if t=true then M else max M k):=hid (by rw[HTK.out,Zz2,hM]);have HS1:Hid (lgB ((Zbi R g).take (j+1))=(S|| !t)):=hid (by rw[HTK.out,Zz3,hS]);rw[hM,hS];clear hcc hjL hgl hy hmm hM hS HTK;go_upto_region 5 with fail;have htt:(wr.alloc (.cells #[iV (adr i:Int),iV k,.bool t] 200)).heap[wr.heap.size]?=_:=Zab wr _;have HW4:=hid (HWr.out.trans ((Zaj wr (.cells #[iV (adr i:Int),iV k,.bool t] 200)).mono HWr.out.size));obtain⟨w4,hw4⟩:∃z,wr.alloc (.cells #[iV (adr i:Int),iV k,.bool t] 200)=z:=⟨_,rfl⟩
    obtain⟨E,hE⟩:∃T,wr.heap.size=T:=⟨_,rfl⟩
    rw[hw4]at htt HW4⊢;rw[hE]at htt⊢;have t0:=(Zaa htt 0).1;have t1:=(Zaa htt 1).1;have t2:=(Zaa htt 2).1
    simp at t0 t1 t2;clear hw4 hE q0 q1 q2 htt;cases t with
    |true=>
     go_wp2_with fail;go_roundw
     case rel=>exact⟨j+1,by omega,by rw[HM1.out];rfl,by rw[HS1.out];simp,by go_num,HW4⟩
     case measure=>simp[intOf];omega
    |false=>
     by_cases hMk:(M:Int)<(k:Int)
     · go_wp2_with fail
       go_roundw
       case rel=>exact⟨j+1,by omega,by rw[HM1.out,if_neg (by decide),Nat.max_eq_right (by omega)],by rw[HS1.out];simp,by go_num,HW4⟩
       case measure=>simp[intOf];omega
     · go_wp2_with fail
       go_roundw
       case rel=>exact⟨j+1,by omega,by rw[HM1.out,if_neg (by decide),Nat.max_eq_left (by omega)],by rw[HS1.out];simp,by go_num,HW4⟩
       case measure=>simp[intOf];omega
  · obtain rfl:j=nl:=by omega
    have HV:Hid (lgV (Zbi R g)=.tuple #[iV (lgM ((Zbi R g).take j):Int),.bool (lgB ((Zbi R g).take j))]):=hid (by rw[List.take_of_length_le (by rw[HNL.out];exact Nat.le_refl _)];rfl);have HE:=hid (HBW.out.trans (HWr.out.mono HBW.out.size));go_wp2_with fail
    go_ret2
    exact⟨by rw[HV.out];rfl,HE.out⟩
end
section
open Go Go.RowKit Go.Shelf
theorem Yix {A:Nat} {s:ASt} {w:World} (h:On A s w) (i:Int):
 Calls Tryz.prog 150 #[pT A,iV i] w (Zan (.bool (hasB s.L s.es i)) w):=by
 obtain⟨P,ps,p,n,cap,h⟩:=h;have HX:=hid h;have g:=h.Zch;have HN:=hid h.num;clear h;go_enter Tryz.func150,Tryz.ntmps150;go_wp2_with fail
 refine(Zvl HX.out).mono ?_
 rintro e w1 ⟨rfl,hb1⟩;go_wp2_with fail
 refine(Ydx s.L p n cap s.es i _ g (HX.out.below hb1).edges HN.out).mono ?_
 rintro e w2 ⟨rfl,hb2⟩;go_wp2_with fail
 go_ret
 exact⟨rfl,hb1.trans (hb2.mono hb1.size)⟩
theorem Ydw {n g i:Nat} {R:Zag} {s:ASt} (hB:Bud (n+1) g g R g s) (hi:i<=n):hasB s.L s.es (i:Int)=decide (i<=g):=by
 have h1:=hB.gG;have h2:=hB.c2
 have hr:Zcc [0,1+g]:=(Zho (L:=n+1) (by omega) (by omega) (by omega)).rising;unfold hasB;rw[hB.cL,hB.es,(Zo8 hr _).1,show mem [] (i:Int)=false from rfl,Bool.or_false,decide_eq_true (show(0:Int)<=(i:Int)/\(i:Int)<((n+1:Nat):Int) by omega),Bool.true_and];exact decide_eq_decide.2 (by omega)
def Zu9 (l:List Nat):Array Value:=(l.map fun(v:Nat)=>Value.int .u8 (v:Int)).toArray
theorem Zy2 (l:List Nat) (i v:Nat):(Zu9 l).setIfInBounds i (.int .u8 (v:Int))=Zu9 (l.set i v):=by simp[Zu9,List.map_set]
theorem Zqd (l:List Nat) (i:Nat):(Zu9 l)[i]?=(l[i]?).map fun(v:Nat)=>Value.int .u8 (v:Int):=by simp[Zu9]
def Zty (D:Nat) (l:List Nat) (x:World):Prop:=x.heap[D]?=some (.cells (Zu9 l) 5 (0,0))
theorem Zty.below {D:Nat} {l:List Nat} {x y:World} (h:Zty D l x) (hb:Below x.heap.size x y):Zty D l y:=(hb.block _ (Array.getElem?_eq_some_iff.1 (show x.heap[D]?=_ from h)).1).trans h
theorem Zty.cell {D:Nat} {l:List Nat} {x:World} (h:Zty D l x) {i:Nat} (hi:i<l.length):x.cell? (aD D i)=some (.int .u8 (l.getD i 0:Nat))/\x.frozen? (aD D i)=false:=by
 refine⟨?_,(Zaa h i).2⟩
 rw[(Zaa h i).1,Zqd,List.getD_eq_getElem?_getD,List.getElem?_eq_getElem hi];rfl
theorem Zty.set {D:Nat} {l:List Nat} {x:World} (h:Zty D l x) (i v:Nat):Zty D (l.set i v) (x.setCell (aD D i) (.int .u8 (v:Int))):=by
 have:=heap_set (o:=i) h (.int .u8 (v:Int))
 rw[Zy2]at this;exact this
def Zok (g:Nat) (l:List Nat) (fr st:Nat):Nat->List Nat
 |0=>l
 |c+1=>if fr+c<=g then(Zok g l fr st c).set (fr+c) st else Zok g l fr st c
theorem Zii (g:Nat) (l:List Nat) (fr st:Nat):∀c,(Zok g l fr st c).length=l.length
 |0=>rfl
 |c+1=>by unfold Zok;split<;>simp[Zii g l fr st c]
structure LyR (A B D n:Nat) (s:ASt) (l:List Nat) (w x:World):Prop where
 bv:BV B A n s x
 md:Zbb A D x
 bd:Zty D l x
 sz:w.heap.size<=x.heap.size
 fr:∀k,k≠D->k<w.heap.size->x.heap[k]?=w.heap[k]?
 be:∀b0 w0,b0<=D->Below b0 w0 w->Below b0 w0 x
theorem LyR.below {A B D n:Nat} {s:ASt} {l:List Nat} {w x y:World} (h:LyR A B D n s l w x) (hb:Below x.heap.size x y):LyR A B D n s l w y:=
 ⟨h.bv.below hb,h.md.Zaq (Zam.Zad h.bv.1 hb),h.bd.below hb,Nat.le_trans h.sz hb.size,fun k hk hl=>(hb.block _ (Nat.lt_of_lt_of_le hl h.sz)).trans (h.fr k hk hl),fun b0 w0 hD k=>(h.be b0 w0 hD k).trans (hb.mono (Nat.le_trans hD (Nat.le_of_lt h.md.lt)))⟩
theorem LyR.set {A B D n:Nat} {s:ASt} {l:List Nat} {w x:World} (h:LyR A B D n s l w x) (i v:Nat):LyR A B D n s (l.set i v) w (x.setCell (aD D i) (.int .u8 (v:Int))):=by
 have hne:B≠D:=fun c=>by
  have h1:=h.bv.2.2;unfold Zj8 at h1;rw[c,show x.heap[D]?=_ from h.bd]at h1;simp only[Option.some.injEq,Obj.cells.injEq]at h1;exact absurd h1.2.1 (by decide)
 exact⟨⟨h.bv.1.set h.md i _,h.bv.2.1,(Below.heap_setCell _ (aD D i) _ _ hne).trans h.bv.2.2⟩,Zbb.set h.bv.1 h.md h.md i _,h.bd.set i v,by simpa[World.setCell]using h.sz,fun k hk hl=>(Below.heap_setCell _ (aD D i) _ _ hk).trans (h.fr k hk hl),fun b0 w0 hD k=>(h.be b0 w0 hD k).setCell (p:=(aD D i)) hD _⟩
theorem Yit {A B D n g:Nat} {R:Zag} {s:ASt} {l:List Nat} {w w0:World} (h:LyR A B D n s l w0 w) (hB:Bud (n+1) g g R g s) (hl:l.length=n+1) (fr c st:Nat) (hfr:fr+c<=n+1):
 Calls Tryz.prog 147 #[.slice (some (aD D 0)) (n+1) (n+1),Zcv B,iV fr,iV c,.int .u8 (st:Int)] w fun e w'=>e=.returned (.tuple #[])/\LyR A B D n s (Zok g l fr st c) w0 w':=by
 have HZ:=hid (hB.sz h.bv.2.1);have HG:=hid hB.gG;have HH:=hid fun X (hX:On A s X) i (hi:i<=n)=>(Ydw hB hi)▸Yix hX (i:Int)
 have HST:Hid (LyR A B D n s (Zok g l fr st 0) w0 w):=hid h;have HL:=hid hl;clear h hB hl;go_enter Tryz.func147,Tryz.ntmps147;go_wp2_with fail
 go_loopw[12] (fun s12 wr=>∃j:Nat,j<=c/\s12=iV j/\Hid (LyR A B D n s (Zok g l fr st j) w0 wr)) (fun s12 _=>c-(intOf s12).toNat)
 case atStart=>exact⟨0,Nat.zero_le _,rfl,HST⟩
 case round=>
  clear HST;obtain⟨j,hj,rfl,HR⟩:=hrel;by_cases hjc:j<c
  · have hj2:(j:Int)<(c:Int):=by omega
    have hz:=HZ.out;have hw1:IntKind.i64.wrap ((fr:Int)+(j:Int))=((fr+j:Nat):Int):=by rw[IntKind.wrap_i64];omega
    obtain⟨b0,_⟩:=HR.out.bv.all;have HC:=hid (HH.out _ HR.out.bv.1 (fr+j) (by omega));go_wp2_with fail;refine HC.out.mono ?_;rintro e w2 ⟨rfl,hb⟩;have HR2:=hid (HR.out.below hb);clear hb b0 HC HR;by_cases hg:fr+j<=g
    · have hd:decide (fr+j<=g)=true:=decide_eq_true hg
      have hlt:fr+j<(Zok g l fr st j).length:=by rw[Zii,HL.out];omega
      obtain⟨c1,c2⟩:=HR2.out.bd.cell hlt;have hst:=HR2.out.set (fr+j) st;have HS:Hid (LyR A B D n s (Zok g l fr st (j+1)) w0 (w2.setCell (aD D (fr+j)) (.int .u8 (st:Int)))):=hid (by unfold Zok;rw[if_pos hg];exact hst);clear hst;rw[hd];have h4:fr+j<n+1:=by omega
      have h5:((fr+j:Nat):Int)<((n+1:Nat):Int):=by omega
      go_wp2_with fail;go_roundw
      case rel=>exact⟨j+1,by omega,by go_num,HS⟩
      case measure=>simp[intOf];omega
    · have hd:decide (fr+j<=g)=false:=decide_eq_false hg
      have HS:Hid (LyR A B D n s (Zok g l fr st (j+1)) w0 w2):=hid (by unfold Zok;rw[if_neg hg];exact HR2.out);rw[hd];go_wp2_with fail;go_roundw
      case rel=>exact⟨j+1,by omega,by go_num,HS⟩
      case measure=>simp[intOf];omega
  · obtain rfl:j=c:=by omega
    go_wp2_with fail
    go_end0
    exact⟨rfl,HR.out⟩
end
section
open Go Go.RowKit Go.Shelf
def stF (g:Nat) (l:List Nat) (y:Nat × Nat × Bool):List Nat:=Zok g l (1+y.1) (if y.2.2=true then 3 else 2) (2^y.2.1)
def stT (R:Zag) (g n j:Nat):List Nat:=((Zbi R g).take j).foldl (stF g) (Zok g (List.replicate (n+1) 0) 0 1 1)
theorem LyR.self {A B D n:Nat} {s:ASt} {l:List Nat} {w x:World} (h:LyR A B D n s l w x):LyR A B D n s l x x:=⟨h.bv,h.md,h.bd,Nat.le_refl _,fun _ _ _=>rfl,fun _ _ _ k=>k⟩
theorem LyR.trans {A B D n:Nat} {s:ASt} {l l':List Nat} {w x y:World} (h:LyR A B D n s l w x) (h2:LyR A B D n s l' x y):LyR A B D n s l' w y:=
 ⟨h2.bv,h2.md,h2.bd,Nat.le_trans h.sz h2.sz,fun k hk hl=>(h2.fr k hk (Nat.lt_of_lt_of_le hl h.sz)).trans (h.fr k hk hl),fun b0 w0 hD k=>h2.be b0 w0 hD (h.be b0 w0 hD k)⟩
theorem Zp5 {R:Zag} {g n j i k:Nat} {t:Bool} (h:((Zbi R g).take (j+1))=(Zbi R g).take j++[(i,k,t)]):stT R g n (j+1)=Zok g (stT R g n j) (1+i) (if t=true then 3 else 2) (2^k):=by
 unfold stT;rw[h,List.foldl_append];rfl
theorem Zus (R:Zag) (g n:Nat):∀j,(stT R g n j).length=n+1:=by
 intro j;unfold stT
 have:∀(L:List (Nat × Nat × Bool)) (l:List Nat),(L.foldl (stF g) l).length=l.length:=by
  intro L
  induction L with
  |nil=>intro l;rfl
  |cons y t ih=>intro l;rw[List.foldl_cons,ih];unfold stF;exact Zii _ _ _ _ _
 rw[this,Zii];simp
structure StR (A B D E n:Nat) (s:ASt) (l:List Nat) (y:Nat × Nat × Bool) (w w4 x:World):Prop where
 ly:LyR A B D n s l w x
 fr:w4.heap.size<=x.heap.size/\∀k,k≠D->k<w4.heap.size->x.heap[k]?=w4.heap[k]?
 rb:RbV E y x
 ne:E≠D
theorem StR.below {A B D E n:Nat} {s:ASt} {l:List Nat} {y:Nat × Nat × Bool} {w w4 x z:World} (h:StR A B D E n s l y w w4 x) (hb:Below x.heap.size x z):StR A B D E n s l y w w4 z:=
 ⟨h.ly.below hb,⟨Nat.le_trans h.fr.1 hb.size,fun k hk hl=>(hb.block _ (Nat.lt_of_lt_of_le hl h.fr.1)).trans (h.fr.2 k hk hl)⟩,h.rb.below hb,h.ne⟩
theorem StR.lay {A B D E n:Nat} {s:ASt} {l l':List Nat} {y:Nat × Nat × Bool} {w w4 x z:World} (h:StR A B D E n s l y w w4 x) (h2:LyR A B D n s l' x z):StR A B D E n s l' y w w4 z:=
 ⟨h.ly.trans h2,⟨Nat.le_trans h.fr.1 h2.sz,fun k hk hl=>(h2.fr k hk (Nat.lt_of_lt_of_le hl h.fr.1)).trans (h.fr.2 k hk hl)⟩,(h2.fr E h.ne (Array.getElem?_eq_some_iff.1 (show x.heap[E]?=_ from h.rb)).1).trans h.rb,h.ne⟩
def StP (R:Zag) (g n:Nat) (w:World) (e:Ending) (w':World):Prop:=∃D,e=.returned (.slice (some (aD D 0)) (n+1) (n+1))/\Zty D (stT R g n (Zbi R g).length) w'/\w.heap.size<=D/\Below w.heap.size w w'
theorem Tryz.Ygm:(Tryz.prog.info? 5).map (fun i=>(i.zero,i.size,i.bytes))=some (some (.int .u8 0),1,1):=by kernel_rfl
theorem Ydi (L:Nat):madeCells (Value.int .u8 0).cells (L*1)=Zu9 (List.replicate L 0):=by
 apply Array.ext_getElem?
 intro j;rw[Zqd];by_cases hj:j<L
 · simp[madeCells,hj,Value.cells,Nat.mod_one]
 · rw[Array.getElem?_eq_none (by rw[size_madeCells];omega),List.getElem?_eq_none (by simp;omega)];rfl
theorem Yfl (n:Nat) (hn:n<=2000) (w:World):
 (Instr.makeSlice 107 (iV ((n:Int)+1)) (iV ((n:Int)+1))).run Tryz.prog w=.ok (.slice (some (aD w.heap.size 0)) (n+1) (n+1)) (w.alloc (.cells (Zu9 (List.replicate (n+1) 0)) 5)):=by
 obtain⟨i0,hi,hz0,hz1,hz2⟩:=info_parts Tryz.Ygm;have h:=run_make (P:=Tryz.prog) w 107 5 i0 (.int .u8 0) Tryz.underlying107 hi hz0 .i64 .i64 ((n+1:Nat):Int) (n+1) (by omega) (Int.le_refl _) (by rw[hz2];omega) (by omega);rw[Int.toNat_natCast,hz1,Ydi]at h;exact h
theorem Yed {A B n g:Nat} {R:Zag} {s:ASt} {w:World} (h:BV B A n s w) (hB:Bud (n+1) g g R g s):
 Calls Tryz.prog 79 #[Zcv B] w (StP R g n w):=by
 have HV:=hid h;have HB:=hid hB;have HZ:=hid (hB.sz h.2.1);have HC:=hid fun X (hX:BV B A n s X)=>h.2.1▸Zhj hX.1
 obtain⟨b0,_⟩:=h.all;clear hB h;have hz:=HZ.out;go_enter Tryz.func79,Tryz.ntmps79;go_wp2_with fail
 refine(HC.out _ HV.out).mono ?_
 rintro e w1 ⟨rfl,rfl⟩;have hmk:=Yfl n (by omega);go_upto_region 4 with fail;have hly:LyR A B w.heap.size n s (List.replicate (n+1) 0) w (w.alloc (.cells (Zu9 (List.replicate (n+1) 0)) 5)):=⟨HV.out.below (Zaj w _),Zbb.new HV.out.1 _,Zab _ _,(Zaj w _).size,fun k _ hl=>(Zaj w _).block k hl,fun b0 w0 _ k=>k.trans ((Zaj w _).mono (by assumption))⟩;change Code.wp _ _ _ _ (w.alloc (.cells (Zu9 (List.replicate (n+1) 0)) 5));have HWD:Hid (w.heap.size<=w.heap.size):=hid (Nat.le_refl _);obtain⟨y,hy⟩:=eX (w.alloc (.cells (Zu9 (List.replicate (n+1) 0)) 5));obtain⟨D,hD⟩:=eX w.heap.size;have HDW:Hid (w.heap.size=D):=hid hD;have hly2:LyR A B D n s (List.replicate (n+1) 0) w y:=by rw[<-hD,<-hy];exact hly
 rw[hy,hD];clear hly hy hD HWD b0 hmk;have HLY:=hid hly2;have HLAY:=hid fun X (hX:LyR A B D n s (List.replicate (n+1) 0) w X)=>(show Calls Tryz.prog 147 #[.slice (some (aD D 0)) (n+1) (n+1),Zcv B,iV 0,iV 1,.int .u8 1] X _ from Yit hX HB.out (by simp) 0 1 1 (by omega))
 clear hly2;go_wp2_with fail
 refine(Zn7 HLY.out.bv (by omega)).mono ?_
 rintro e w2 ⟨rfl,hb⟩;have HLY2:=hid (HLY.out.below hb);clear hb HLY;go_wp2_with fail
 refine(HLAY.out _ HLY2.out).mono ?_
 rintro e w3 ⟨rfl,hl3⟩;have HLY3:Hid (LyR A B D n s (stT R g n 0) w w3):=hid hl3;have HRU:=hid (Zj1 hl3.bv HB.out);clear hl3 HLY2 HLAY;go_wp2_with fail;refine HRU.out.mono ?_;rintro e w4 ⟨u,cap,rfl,hru,huf,hb⟩;obtain⟨nl,hnl⟩:=eX ((Zbi R g).length);have HNL:=hid hnl;have hnl80:nl<=80:=by have:=Zdq R g;omega
 have HLY4:=hid (HLY3.out.below hb);have HR1:=hid hru;have HUF:Hid (∀j,u=some (aD j 0)->j≠D/\D<w4.heap.size):=hid fun j hj=>⟨by have:=huf j hj;have:=HLY3.out.md.lt;omega,HLY4.out.md.lt⟩
 rw[Zen,hnl];clear hru huf hb hnl HRU HLY3;go_wp2_with fail
 go_loopw[23] (fun s23 wr=>∃j:Nat,j<=nl/\s23=iV j/\Hid (LyR A B D n s (stT R g n j) w wr)/\Hid (w4.heap.size<=wr.heap.size/\∀k,k≠D->k<w4.heap.size->wr.heap[k]?=w4.heap[k]?)) (fun s23 _=>nl-(intOf s23).toNat)
 case atStart=>exact⟨0,Nat.zero_le _,rfl,HLY4,hid ⟨Nat.le_refl _,fun _ _ _=>rfl⟩⟩
 case round=>
  clear HLY4;obtain⟨j,hj,rfl,HL,HFR⟩:=hrel;by_cases hjn:j<nl
  · have hjn2:(j:Int)<(nl:Int):=by omega
    have hjL:j<(Zbi R g).length:=by rw[HNL.out];exact hjn
    have hrn:Zcg wr u (adL (Zbi R g)):=by
     rcases HR1.out with c|⟨gb,e,hgl,hcc⟩
     · exact .inl c
     · exact Zcg.far (.inr ⟨gb,e,hgl,hcc⟩) HFR.out.1 fun k hk=>HFR.out.2 k (by rw[e]at hk;simp at hk;have:=(HUF.out gb e).1;omega) (by rw[e]at hk;simp at hk;omega)
    rcases hrn with e|⟨gb,rfl,hgl,hcc⟩
    · have:=congrArg List.length e;rw[Zen,HNL.out]at this;simp at this;omega
    obtain⟨q0,q1,q2⟩:=hcc j (by rw[Zen];exact hjL);obtain⟨y,hy⟩:=eX ((Zbi R g).getD j r0);rw[Zpv hjL,hy]at q0 q1 q2;have hmm:=Zdp.1 (show(y.1,y.2.1,y.2.2)∈Zbi R g by rw[<-hy];exact Zej hjL);have HTK:=hid (Zdy hjL);rw[hy]at HTK;obtain⟨i,k,t⟩:=y
    simp only at q0 q1 q2
    obtain⟨hk10,hmod,hkg⟩:=HB.out.ti.al _ _ _ hmm.2;obtain⟨P,hP⟩:=eX (2^k);obtain⟨q,hq⟩:=eX (1+i);have hP1024:P<=1024:=by rw[<-hP];exact Nat.pow_le_pow_right (by decide) hk10
    have hgn:=HB.out.gG
    simp only at hkg hk10
    rw[hP]at hkg;have HQP:Hid (1+i=q/\2^k=P/\q+P<=n+1):=hid ⟨hq,hP,by omega⟩;have HQ3:Hid (IntKind.i64.wrap (Int.tdiv (adr i:Int) 4096)=(q:Int)/\Int.tdiv (adr i:Int) 4096=(q:Int)/\IntKind.i64.wrap (q:Int)=(q:Int)):=hid ⟨by rw[Zhs,IntKind.wrap_i64];omega,by rw[Zhs];omega,by rw[IntKind.wrap_i64];omega⟩;have HQ4:Hid (IntKind.i64.wrap ((2:Int)^min k 64)=(P:Int)):=hid (by rw[show min k 64=k by omega,show((2:Int)^k)=(P:Int)from by rw[<-hP];push_cast;rfl,IntKind.wrap_i64];omega);clear hcc hjL hgl hy hmm hmod hkg hP hq hP1024 hgn hk10;go_upto_region 8 with fail;have htt:RbV wr.heap.size (adr i,k,t) (wr.alloc (.cells #[iV (adr i:Int),iV k,.bool t] 200)):=Zab wr _;have hb4:=Zaj wr (.cells #[iV (adr i:Int),iV k,.bool t] 200);have HSR:Hid (StR A B D wr.heap.size n s (stT R g n j) (adr i,k,t) w w4 (wr.alloc (.cells #[iV (adr i:Int),iV k,.bool t] 200))):=hid ⟨HL.out.below hb4,⟨Nat.le_trans HFR.out.1 hb4.size,fun k hk hl=>(hb4.block _ (Nat.lt_of_lt_of_le hl HFR.out.1)).trans (HFR.out.2 k hk hl)⟩,htt,Nat.ne_of_gt HL.out.md.lt⟩;obtain⟨y4,hy4⟩:∃z,wr.alloc (.cells #[iV (adr i:Int),iV k,.bool t] 200)=z:=⟨_,rfl⟩
    obtain⟨E,hE⟩:∃T,wr.heap.size=T:=⟨_,rfl⟩
    rw[hy4,hE]at HSR;rw[hy4,hE];clear htt hb4 hy4 hE q0 q1 q2 HL HFR;obtain⟨t0,t1,t2⟩:=HSR.out.rb.all;cases t with
    |true=>
     have HTS:=hid (Zp5 (n:=n) HTK.out);rw[HQP.out.1,HQP.out.2.1]at HTS;have hst0:StR A B D E n s (stT R g n j) (adr i,k,true) w w4 y4.drew:=HSR.out.below (Below.refl y4.heap.size y4).drew;have HLAY:=hid fun X (hX:LyR A B D n s (stT R g n j) X X)=>(show Calls Tryz.prog 147 #[.slice (some (aD D 0)) (n+1) (n+1),Zcv B,iV q,iV P,.int .u8 3] X _ from Yit hX HB.out (Zus R g n j) q P 3 HQP.out.2.2)
     clear HSR;have hq3:=HQ3.out;have hq4:=HQ4.out;go_upto_region 11 with fail;have HS5:=hid hst0;refine wp_region_held_drew (S:=RbV E (adr i,k,true)) (by kernel_rfl) hst0.rb (fun hHeld=>?_);clear hst0;generalize y4.drew=y5 at*
     refine tk 0 (.slice (some (aD D 0)) (n+1) (n+1)) rfl hHeld (fun X hS=>by obtain⟨s0,s1,s2⟩:=RbV.all hS;go_simp) ?_;refine tk 1 (Zcv B) rfl hHeld (fun X hS=>by obtain⟨s0,s1,s2⟩:=RbV.all hS;go_simp) ?_;refine tk 2 (pT E) rfl hHeld (fun X hS=>by obtain⟨s0,s1,s2⟩:=RbV.all hS;go_simp) ?_;refine tk 3 (iV (adr i:Int)) rfl hHeld (fun X hS=>by obtain⟨s0,s1,s2⟩:=RbV.all hS;go_simp) ?_;refine tk 4 (iV q) rfl hHeld (fun X hS=>by obtain⟨s0,s1,s2⟩:=RbV.all hS;go_simp) ?_;refine tk 5 (.pointer (some (aD E 1))) rfl hHeld (fun X hS=>by obtain⟨s0,s1,s2⟩:=RbV.all hS;go_simp) ?_;refine tk 6 (iV k) rfl hHeld (fun X hS=>by obtain⟨s0,s1,s2⟩:=RbV.all hS;go_simp) ?_;refine tk 7 (iV P) rfl hHeld (fun X hS=>by obtain⟨s0,s1,s2⟩:=RbV.all hS;go_simp) ?_;refine tk 8 (.int .u8 3) rfl hHeld (fun X hS=>by obtain⟨s0,s1,s2⟩:=RbV.all hS;go_simp) ?_;refine rd [9] (AllReadyH.cons rfl (fun K1 hK1=>?_) AllReadyH.nil);go_simp
     refine(HLAY.out _ HS5.out.ly.self).mono ?_
     rintro e x7 ⟨rfl,hl7⟩;have hn:=HS5.out.lay hl7;have HLL:Hid (LyR A B D n s (stT R g n (j+1)) w x7):=hid (by rw[HTS.out];exact hn.ly);have HFF:=hid hn.fr;have hrb:=hn.rb;clear hHeld hn HS5 hl7;refine hK1.out _ _ hrb (fun hHeld=>?_);clear hK1 hrb;refine wpAnyH_done (by kernel_rfl) ?_ _;clear hHeld;go_wp2_with fail;go_roundw
     case rel=>exact⟨j+1,by omega,by go_num,HLL,HFF⟩
     case measure=>simp[intOf];omega
    |false=>
     have HTS:=hid (Zp5 (n:=n) HTK.out);rw[HQP.out.1,HQP.out.2.1]at HTS;have hst0:StR A B D E n s (stT R g n j) (adr i,k,false) w w4 y4.drew:=HSR.out.below (Below.refl y4.heap.size y4).drew;have HLAY:=hid fun X (hX:LyR A B D n s (stT R g n j) X X)=>(show Calls Tryz.prog 147 #[.slice (some (aD D 0)) (n+1) (n+1),Zcv B,iV q,iV P,.int .u8 2] X _ from Yit hX HB.out (Zus R g n j) q P 2 HQP.out.2.2)
     clear HSR;have hq3:=HQ3.out;have hq4:=HQ4.out;go_upto_region 11 with fail;have HS5:=hid hst0;refine wp_region_held_drew (S:=RbV E (adr i,k,false)) (by kernel_rfl) hst0.rb (fun hHeld=>?_);clear hst0;generalize y4.drew=y5 at*
     refine tk 0 (.slice (some (aD D 0)) (n+1) (n+1)) rfl hHeld (fun X hS=>by obtain⟨s0,s1,s2⟩:=RbV.all hS;go_simp) ?_;refine tk 1 (Zcv B) rfl hHeld (fun X hS=>by obtain⟨s0,s1,s2⟩:=RbV.all hS;go_simp) ?_;refine tk 2 (pT E) rfl hHeld (fun X hS=>by obtain⟨s0,s1,s2⟩:=RbV.all hS;go_simp) ?_;refine tk 3 (iV (adr i:Int)) rfl hHeld (fun X hS=>by obtain⟨s0,s1,s2⟩:=RbV.all hS;go_simp) ?_;refine tk 4 (iV q) rfl hHeld (fun X hS=>by obtain⟨s0,s1,s2⟩:=RbV.all hS;go_simp) ?_;refine tk 5 (.pointer (some (aD E 1))) rfl hHeld (fun X hS=>by obtain⟨s0,s1,s2⟩:=RbV.all hS;go_simp) ?_;refine tk 6 (iV k) rfl hHeld (fun X hS=>by obtain⟨s0,s1,s2⟩:=RbV.all hS;go_simp) ?_;refine tk 7 (iV P) rfl hHeld (fun X hS=>by obtain⟨s0,s1,s2⟩:=RbV.all hS;go_simp) ?_;refine tk 8 (.int .u8 2) rfl hHeld (fun X hS=>by obtain⟨s0,s1,s2⟩:=RbV.all hS;go_simp) ?_;refine rd [9] (AllReadyH.cons rfl (fun K1 hK1=>?_) AllReadyH.nil);go_simp
     refine(HLAY.out _ HS5.out.ly.self).mono ?_
     rintro e x7 ⟨rfl,hl7⟩;have hn:=HS5.out.lay hl7;have HLL:Hid (LyR A B D n s (stT R g n (j+1)) w x7):=hid (by rw[HTS.out];exact hn.ly);have HFF:=hid hn.fr;have hrb:=hn.rb;clear hHeld hn HS5 hl7;refine hK1.out _ _ hrb (fun hHeld=>?_);clear hK1 hrb;refine wpAnyH_done (by kernel_rfl) ?_ _;clear hHeld;go_wp2_with fail;go_roundw
     case rel=>exact⟨j+1,by omega,by go_num,HLL,HFF⟩
     case measure=>simp[intOf];omega
  · obtain rfl:j=nl:=by omega
    have HE:Hid (StP R g n w (.returned (.slice (some (aD D 0)) (n+1) (n+1))) wr):=hid ⟨D,rfl,by rw[HNL.out];exact HL.out.bd,by rw[HDW.out];exact Nat.le_refl _,HL.out.be _ _ (by rw[HDW.out];exact Nat.le_refl _) (Below.refl _ _)⟩;go_wp2_with fail
    go_ret
    exact HE.out
end
section
open Go Go.RowKit Go.Shelf

end
section
open Go Go.RowKit Go.Shelf

end
section
open Go Go.RowKit Go.Shelf

end
section
open Go Go.RowKit Go.Shelf

end
section
open Go Go.RowKit Go.Shelf
theorem Ym4 (k:Nat):∀(L:List (Nat × Nat × Bool)) (m:Nat),k<=L.foldl (fun m y=>if y.2.2=true then m else max m y.2.1) m↔k<=m\/∃y,y∈L/\y.2.2=false/\k<=y.2.1
 |[],m=>by simp
 |y::L,m=>by
  rw[List.foldl_cons,Ym4 k L];cases h:y.2.2 with
  |true=>rw[if_pos rfl];simp[h]
  |false=>
   rw[if_neg (by decide)]
   constructor
   · rintro (c|⟨z,hz,c⟩)
     · rcases Nat.le_total m y.2.1 with d|d
       · rw[Nat.max_eq_right d]at c;exact .inr ⟨y,List.mem_cons_self,h,c⟩
       · rw[Nat.max_eq_left d]at c;exact .inl c
     · exact .inr ⟨z,List.mem_cons_of_mem _ hz,c⟩
   · rintro (c|⟨z,hz,c1,c2⟩)
     · exact .inl (Nat.le_trans c (Nat.le_max_left _ _))
     · rcases List.mem_cons.1 hz with rfl|hz
       · exact .inl (Nat.le_trans c2 (Nat.le_max_right _ _))
       · exact .inr ⟨z,hz,c1,c2⟩
def Ye1 (g k:Nat) (R:Zag):Bool:=lgB (Zbi R g)&&decide (k<=lgM (Zbi R g))
def Zpr (n g k:Nat) (R:Zag):Bool:=Ye1 g k R||decide (upN g (2^k)+2^k<=n)
theorem Ym3 {g k:Nat} {R:Zag} (hT:Til g R g):Ye1 g k R=true↔∃i l,R i=some (l,false)/\k<=l:=by
 unfold Ye1 lgB lgM;rw[Bool.and_eq_true,List.any_eq_true,decide_eq_true_iff,Ym4]
 constructor
 · rintro ⟨⟨⟨i,l,t⟩,hy,ht⟩,c|⟨⟨i',l',t'⟩,hz,h1,h2⟩⟩
   · have ht:t=false:=by simpa using ht
     subst ht
     exact⟨i,l,(Zdp.1 hy).2,by omega⟩
   · have h1:t'=false:=h1
     subst h1
     exact⟨i',l',(Zdp.1 hz).2,h2⟩
 · rintro ⟨i,l,e,hk⟩
   have hm:(i,l,false)∈Zbi R g:=Zdp.2 ⟨hT.lt e,e⟩
   exact⟨⟨_,hm,rfl⟩,.inr ⟨_,hm,rfl,hk⟩⟩
end
section
open Go Go.RowKit Go.Shelf
def stA (R:Zag) (g n:Nat):List Nat:=stT R g n (Zbi R g).length
theorem Yfi (R:Zag) (g n:Nat):stA R g n=(Zbi R g).foldl (stF g) (Zok g (List.replicate (n+1) 0) 0 1 1):=by unfold stA stT;rw[List.take_length]
end
end Go.Proofs.YtgcidfenjlmljaaGreat.Bt
