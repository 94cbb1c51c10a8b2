import Derived.Test.YtgcidfenjlmljaaGreatPg08
import Derived.Test.YtgcidfenjlmljaaGreatPgR
set_option linter.unusedVariables false
set_option linter.unusedSimpArgs false
set_option maxRecDepth 100000
set_option maxHeartbeats 16000000
namespace Go.Proofs.YtgcidfenjlmljaaGreat.Bt
section
open Go Go.RowKit Go.Shelf
theorem Zbc {a b:Nat} {t u:Bool} (h:(some (a,t):Option (Nat × Bool))=some (b,u)):a=b/\t=u:=by
 simp only[Option.some.injEq,Prod.mk.injEq]at h;exact h
theorem Zs8 {own g x k:Nat} {R:Zag} (h:Til g R g) (e:R x=some (k,true)) (j:Nat):Zas own (Zfm R x k false) x g j=Zas own R g g j:=
 Zdd fun i=>⟨fun⟨h1,h2,h3⟩=>by
  rcases Zb0 h2 with⟨c,_⟩|⟨_,c⟩
  · exact absurd c h3
  · exact⟨h1,c,by omega⟩,fun⟨h1,h2,h3⟩=>by
  have c:i≠x:=fun c=>by rw[c,e]at h2;have:=(Zbc h2).2;cases this
  exact⟨h1,h.toTile.fwd e c h2,c⟩⟩
theorem Zwv {own g x k:Nat} {R:Zag} (h:Til g R g) (e:R x=some (k,false)):Zas own R x g k=(Zas own R g g k).erase ((own+x)*4096):=
 Zkv fun i=>⟨fun⟨h1,h2,h3⟩=>⟨h3,h1,h2,by omega⟩,fun⟨h1,h2,h3,_⟩=>⟨h2,h3,h1⟩⟩
theorem Zs5 {own g x k j:Nat} {R:Zag} (h:Til g R g) (e:R x=some (k,false)) (hj:j≠k):Zas own R x g j=Zas own R g g j:=
 Zdd fun i=>⟨fun⟨h1,h2,h3⟩=>⟨h1,h2,by omega⟩,fun⟨h1,h2,_⟩=>⟨h1,h2,fun c=>by rw[c,e]at h2;exact hj (Zbc h2).1.symm⟩⟩
theorem Zwu {own g x k:Nat} {R:Zag} (h:Til g R x) (e:R x=some (k,false)):Zas own R g g k=ins ((own+x)*4096) (Zas own R x g k):=
 Znr (fun c=>c.2.2 rfl) fun i=>⟨fun⟨h1,h2,h3⟩=>by
  by_cases c:i=x
  · exact .inl c
  · exact .inr ⟨h1,h2,c⟩,fun c=>by
  rcases c with c|⟨h1,h2,_⟩
  · subst c;exact⟨h.lt e,e,Nat.ne_of_lt (h.lt e)⟩
  · exact⟨h1,h2,by omega⟩⟩
theorem Zs4 {own g x k j:Nat} {R:Zag} (h:Til g R x) (e:R x=some (k,false)) (hj:j≠k):Zas own R g g j=Zas own R x g j:=
 Zdd fun i=>⟨fun⟨h1,h2,h3⟩=>⟨h1,h2,fun c=>by rw[c,e]at h2;exact hj (Zbc h2).1.symm⟩,fun⟨h1,h2,_⟩=>⟨h1,h2,by omega⟩⟩
theorem Zwt {own g x k j:Nat} {R:Zag} (h:Til g R x) (e:R x=some (k,false)):Zas own (Zfm R x k true) g g j=Zas own R x g j:=
 Zdd fun i=>⟨fun⟨h1,h2,h3⟩=>by
  rcases Zb0 h2 with⟨_,_,c⟩|⟨d,c⟩
  · cases c
  · exact⟨h1,c,d⟩,fun⟨h1,h2,h3⟩=>⟨h1,h.toTile.fwd e h3 h2,by omega⟩⟩
theorem Zww {own g k j:Nat} {u:Bool} {R:Zag} (h:Til g R g):Zas own (Zfm R g k u) g (g+2^k) j=Zas own R g g j:=
 Zdd fun i=>⟨fun⟨h1,h2,h3⟩=>by
  rcases Zb0 h2 with⟨c,_⟩|⟨_,c⟩
  · exact absurd c h3
  · exact⟨h.lt c,c,h3⟩,fun⟨h1,h2,h3⟩=>⟨Nat.lt_add_right _ h1,by rw[Zcs (.inl h1)];exact h2,h3⟩⟩
theorem Zjt {R:Zag} {i k p l:Nat} {t u:Bool} (h:Zd8 R i k u p=some (l,t)):(p=i/\l=k/\t=u)\/(p≠i/\p=i+2^k/\l=k/\t=false)\/(p≠i/\p≠i+2^k/\R p=some (l,t)):=by
 unfold Zd8 at h
 split at h
 · have:=Zbc h;exact .inl ⟨by assumption,this.1.symm,this.2.symm⟩
 · split at h
   · have:=Zbc h;exact .inr (.inl ⟨by assumption,by assumption,this.1.symm,this.2.symm⟩)
   · exact .inr (.inr ⟨by assumption,by assumption,h⟩)
theorem Zjs {g i k:Nat} {t:Bool} {R:Zag} (h:Tile g R) (e:R i=some (k+1,t)):R (i+2^k)=Option.none:=by
 cases c:R (i+2^k)with
 |none=>rfl
 |some y=>
  have h0:=Zae k;have hp:=Zbj k
  have:=h.dj _ _ _ _ y.1 y.2 e c (by omega)
  omega
theorem Zwy {own g i k:Nat} {t:Bool} {R:Zag} (h:Til g R i) (e:R i=some (k+1,t)):Zas own (Zd8 R i k false) i g k=ins ((own+(i+2^k))*4096) (Zas own R i g k):=by
 have h0:=Zae k;have hp:=Zbj k;have ai:=h.al _ _ _ e;have hn:=Zjs h.toTile e;refine Znr (fun c=>by rw[hn]at c;cases c.2.1) fun p=>⟨fun⟨h1,h2,h3⟩=>?_,fun c=>?_⟩
 · rcases Zjt h2 with⟨c,_⟩|⟨_,c,_⟩|⟨_,_,c⟩
   · exact absurd c h3
   · exact .inl c
   · exact .inr ⟨h1,c,h3⟩
 · rcases c with c|⟨h1,h2,h3⟩
   · subst c
     exact⟨by omega,by unfold Zd8;rw[if_neg (by omega),if_pos rfl],by omega⟩
   · exact⟨h1,by unfold Zd8;rw[if_neg h3,if_neg (fun c=>by rw[c,hn]at h2;cases h2)];exact h2,h3⟩
theorem Zs7 {own g i k j:Nat} {t:Bool} {R:Zag} (h:Til g R i) (e:R i=some (k+1,t)) (hj:j≠k):Zas own (Zd8 R i k false) i g j=Zas own R i g j:=by
 have hn:=Zjs h.toTile e;refine Zdd fun p=>⟨fun⟨h1,h2,h3⟩=>?_,fun⟨h1,h2,h3⟩=>?_⟩
 · rcases Zjt h2 with⟨c,_⟩|⟨_,_,c,_⟩|⟨_,_,c⟩
   · exact absurd c h3
   · exact absurd c hj
   · exact⟨h1,c,h3⟩
 · exact⟨h1,by unfold Zd8;rw[if_neg h3,if_neg (fun c=>by rw[c,hn]at h2;cases h2)];exact h2,h3⟩
theorem Zlu {g x k:Nat} {R:Zag} (h:Tile g R) (e:R x=some (k,false)) (f:R (Zcz x k)=some (k,false)):
 ∃i,min x (Zcz x k)=i/\i%2^(k+1)=0/\R i=some (k,false)/\R (i+2^k)=some (k,false)/\((x=i/\Zcz x k=i+2^k)\/(x=i+2^k/\Zcz x k=i)):=by
 have h0:=Zae k;rcases Zfn (h.al _ _ _ e).2.1 with z|⟨z1,z2⟩
 · rw[Zea z]at f⊢
   exact⟨x,by omega,z,e,f,.inl ⟨rfl,rfl⟩⟩
 · have tw:=Zdh z2
   rw[Nat.sub_add_cancel z1]at tw;rw[tw]at f⊢
   exact⟨x-2^k,by omega,z2,f,by rw[Nat.sub_add_cancel z1];exact e,.inr ⟨by omega,rfl⟩⟩
theorem Zlt {g i k p l:Nat} {t u:Bool} {R:Zag} (h:Tile g R) (e:R i=some (k,t)) (f:R (i+2^k)=some (k,u)) {v:Bool} (c:R p=some (l,v)) (h1:p≠i) (h2:p≠i+2^k):p<i\/i+2^(k+1)<=p:=by
 have hp:=Zbj k;rcases Nat.lt_or_gt_of_ne h1 with d|d
 · exact .inl d
 · have h3:=h.dj _ _ _ _ _ _ e c d
   have h4:=h.dj _ _ _ _ _ _ f c (by omega);omega
theorem Zwx {own g x k:Nat} {R:Zag} (h:Til g R x) (e:R x=some (k,false)) (f:R (Zcz x k)=some (k,false)):
 Zas own (Zfm R (min x (Zcz x k)) (k+1) false) (min x (Zcz x k)) g k=(Zas own R x g k).erase ((own+Zcz x k)*4096):=by
 obtain⟨i,em,hi,e1,e2,hx⟩:=Zlu h.toTile e f;rw[em];have hp:=Zbj k;have h0:=Zae k;refine Zkv fun p=>⟨fun⟨h1,h2,h3⟩=>?_,fun⟨h1,h2,h3,h4⟩=>?_⟩
 · rcases Zbz h2 with⟨c,_⟩|⟨c0,c⟩
   · exact absurd c h3
   · exact⟨by omega,h1,c,by omega⟩
 · have:=Zlt h.toTile e1 e2 h3 (by omega) (by omega)
   exact⟨h2,by rw[Zcs this];exact h3,by omega⟩
theorem Zs6 {own g x k j:Nat} {R:Zag} (h:Til g R x) (e:R x=some (k,false)) (f:R (Zcz x k)=some (k,false)) (hj:j≠k):
 Zas own (Zfm R (min x (Zcz x k)) (k+1) false) (min x (Zcz x k)) g j=Zas own R x g j:=by
 obtain⟨i,em,hi,e1,e2,hx⟩:=Zlu h.toTile e f;rw[em];have hp:=Zbj k;have h0:=Zae k;refine Zdd fun p=>⟨fun⟨h1,h2,h3⟩=>?_,fun⟨h1,h2,h3⟩=>?_⟩
 · rcases Zbz h2 with⟨c,_⟩|⟨c0,c⟩
   · exact absurd c h3
   · exact⟨h1,c,by omega⟩
 · have n1:p≠i:=fun c=>by rw[c,e1]at h2;exact hj (Zbc h2).1.symm
   have n2:p≠i+2^k:=fun c=>by rw[c,e2]at h2;exact hj (Zbc h2).1.symm
   exact⟨h1,by rw[Zcs (Zlt h.toTile e1 e2 h2 n1 n2)];exact h2,n1⟩
end
section
open Go Go.RowKit Go.Shelf

end
section
open Go Go.RowKit Go.Shelf
def Zai (va vs:Nat) (a k:Int):Int:=if 0<=a/\0<=k/\k<=(vs:Int)-a then(va:Int)+a else -1
theorem Zg8 {va vs:Nat} (h1:va<=4294967296) (h2:vs<=4294967296) (a k:Int):Zai va vs a k<=9223372036854775807:=by unfold Zai;split<;>omega
theorem Zfc (pa:Option Addr) (va vs:Nat) (h1:va<=4294967296) (h2:vs<=4294967296) (a k:Int) (ha:a<=9223372036854775807) (w:World):
 Calls Tryz.prog 133 #[.agg #[.pointer pa,iV va,iV vs],iV a,iV k] w fun e w'=>e=.returned (iV (Zai va vs a k))/\Below w.heap.size w w':=by
 by_cases c1:a<0
 · have HR:Hid (Zai va vs a k= -1):=hid (by unfold Zai;rw[if_neg (by omega)])
   have d1:decide (a<0)=true:=by simpa using c1
   go_enter Tryz.func133,Tryz.ntmps133;go_wp2_with fail
   go_ret
   exact⟨by rw[HR.out];rfl,(Below.refl _ _).alloc (Nat.le_refl _) _⟩
 have d1:decide (a<0)=false:=by simpa using c1
 by_cases c2:k<0
 · have HR:Hid (Zai va vs a k= -1):=hid (by unfold Zai;rw[if_neg (by omega)])
   have d2:decide (k<0)=true:=by simpa using c2
   go_enter Tryz.func133,Tryz.ntmps133;go_wp2_with fail
   go_ret
   exact⟨by rw[HR.out];rfl,(Below.refl _ _).alloc (Nat.le_refl _) _⟩
 have d2:decide (k<0)=false:=by simpa using c2
 by_cases c3:(vs:Int)-a<k
 · have HR:Hid (Zai va vs a k= -1):=hid (by unfold Zai;rw[if_neg (by omega)])
   have d3:decide ((vs:Int)-a<k)=true:=by simpa using c3
   go_enter Tryz.func133,Tryz.ntmps133;go_wp2_with fail
   go_ret
   exact⟨by rw[HR.out];rfl,(Below.refl _ _).alloc (Nat.le_refl _) _⟩
 · have HR:Hid (Zai va vs a k=(va:Int)+a):=hid (by unfold Zai;rw[if_pos (by omega)])
   have d3:decide ((vs:Int)-a<k)=false:=by simpa using c3
   go_enter Tryz.func133,Tryz.ntmps133;go_wp2_with fail
   go_ret
   exact⟨by rw[HR.out];rfl,(Below.refl _ _).alloc (Nat.le_refl _) _⟩
theorem Zgo (pa:Option Addr) (va vs:Nat) (w:World):Calls Tryz.prog 130 #[.agg #[.pointer pa,iV va,iV vs]] w fun e w'=>e=.returned (iV vs)/\Below w.heap.size w w':=by
 go_enter Tryz.func130,Tryz.ntmps130;go_wp2_with fail
 go_ret
 exact⟨rfl,(Below.refl _ _).alloc (Nat.le_refl _) _⟩
def VH (B:Nat) (pa:Option Addr) (va vs:Nat) (w x:World):Prop:=x.heap[B]?=some (.cells #[.pointer pa,iV va,iV vs] 40 (0,0))/\Below w.heap.size w x
theorem VH.lt {B:Nat} {pa:Option Addr} {va vs:Nat} {w x:World} (h:VH B pa va vs w x):B<x.heap.size:=(Array.getElem?_eq_some_iff.1 h.1).1
theorem VH.below {B:Nat} {pa:Option Addr} {va vs:Nat} {w x y:World} (h:VH B pa va vs w x) (hb:Below x.heap.size x y):VH B pa va vs w y:=⟨(hb.block _ h.lt).trans h.1,h.2.trans (hb.mono h.2.size)⟩
theorem VH.all {B:Nat} {pa:Option Addr} {va vs:Nat} {w x:World} (h:VH B pa va vs w x):x.cell? (aD B 0)=some (.pointer pa)/\x.cell? (aD B 1)=some (iV va)/\x.cell? (aD B 2)=some (iV vs)/\VH B pa va vs w x:=
 ⟨(Zaa h.1 0).1,(Zaa h.1 1).1,(Zaa h.1 2).1,h⟩
theorem VH.new (pa:Option Addr) (va vs:Nat) (w:World):VH w.heap.size pa va vs w (w.alloc (.cells #[.pointer pa,iV va,iV vs] 40)):=⟨Zab _ _,(Below.refl _ _).alloc (Nat.le_refl _) _⟩
theorem Zt5 (pa:Option Addr) (va vs:Nat) (h1:va<=4294967296) (h2:vs<=4294967296) (a k:Int) (ha:a<=9223372036854775807) (w:World) (v er:Int)
 (HC:∀x,Below w.heap.size w x->Calls Tryz.prog 41 #[.pointer pa,iV (Zai va vs a k),iV k] x fun e x'=>e=.returned (.tuple #[.int .u64 v,iV er])/\Below x.heap.size x x'):
 Calls Tryz.prog 63 #[.agg #[.pointer pa,iV va,iV vs],iV a,iV k] w fun e w'=>e=.returned (.tuple #[.int .u64 v,iV er])/\Below w.heap.size w w':=by
 have HC':=hid HC;clear HC
 go_enter Tryz.func63,Tryz.ntmps63;go_wp2_with fail;have HH:=VH.new pa va vs w;obtain⟨w1,hw1⟩:=eX (w.alloc (.cells #[.pointer pa,iV va,iV vs] 40));rw[hw1]at HH⊢;clear hw1;obtain⟨B,hB⟩:=eX w.heap.size;rw[hB]at HH⊢;clear hB
 go_region_held3 (fun x=>x.cell? (aD B 0)=some (.pointer pa)/\x.cell? (aD B 1)=some (iV va)/\x.cell? (aD B 2)=some (iV vs)/\VH B pa va vs w x)
  (first|exact(HH.below (Below.refl _ _).drew).all|assumption)
  (first|(go_at_call 133;refine(Zfc pa va vs h1 h2 a k ha _).mono ?_;rintro e w' ⟨rfl,hbb⟩;have hnx:=((HH.below (Below.refl _ _).drew).below hbb).all)
        |(go_at_call 41;refine(HC'.out _ hnx.2.2.2.2).mono ?_;rintro e w'' ⟨rfl,hbc⟩;have hny:=(hnx.2.2.2.below hbc).all))
 have hf:=hny.2.2.2.2;clear HH hnx hny;go_wp2_with fail
 go_ret2
 exact⟨rfl,hf⟩
end
section
open Go Go.RowKit Go.Shelf
def VC (B:Nat) (pa:Option Addr) (va vs:Nat) (x:World):Prop:=x.heap[B]?=some (.cells #[.pointer pa,iV va,iV vs] 40 (0,0))
theorem VC.below {B:Nat} {pa:Option Addr} {va vs:Nat} {x y:World} (h:VC B pa va vs x) (hb:Below x.heap.size x y):VC B pa va vs y:=(hb.block _ (Array.getElem?_eq_some_iff.1 h).1).trans h
theorem VC.all {B:Nat} {pa:Option Addr} {va vs:Nat} {x:World} (h:VC B pa va vs x):x.cell? (aD B 0)=some (.pointer pa)/\x.cell? (aD B 1)=some (iV va)/\x.cell? (aD B 2)=some (iV vs)/\VC B pa va vs x:=
 ⟨(Zaa h 0).1,(Zaa h 1).1,(Zaa h 2).1,h⟩
def Yi0 (er:Int) (Q:World->World->Prop) (w:World) (e:Ending) (w':World):Prop:=e=.returned (iV er)/\∃x,Below w.heap.size w x/\Q x w'
def Zx9 (w:World) (Q:World->World->Prop):Prop:=∀(x x':World) (B:Nat) (c:Array Value),Below w.heap.size w x->Q x x'->x.heap[B]?=some (.cells c 40 (0,0))->x'.heap[B]?=x.heap[B]?
theorem Zr2 (pa:Option Addr) (va vs:Nat) (h1:va<=4294967296) (h2:vs<=4294967296) (a:Int) (ha:a<=9223372036854775807) (k x:Int) (w:World) (er:Int) (Q:World->World->Prop)
 (HC:∀X,Below w.heap.size w X->Calls Tryz.prog 42 #[.pointer pa,iV (Zai va vs a k),iV k,.int .u64 x] X fun e X'=>e=.returned (iV er)/\Q X X')
 (HK:Zx9 w Q):
 Calls Tryz.prog 92 #[.agg #[.pointer pa,iV va,iV vs],iV a,iV k,.int .u64 x] w (Yi0 er Q w):=by
 have HC':=hid HC;have HK':=hid HK;clear HC HK
 go_enter Tryz.func92,Tryz.ntmps92;go_wp2_with fail;have HH:VC w.heap.size pa va vs (w.alloc (.cells #[.pointer pa,iV va,iV vs] 40)):=Zab _ _;have HB:=(Below.refl w.heap.size w).alloc (Nat.le_refl _) (.cells #[.pointer pa,iV va,iV vs] 40);obtain⟨w1,hw1⟩:=eX (w.alloc (.cells #[.pointer pa,iV va,iV vs] 40));rw[hw1]at HH HB⊢;clear hw1;obtain⟨B,hB⟩:=eX w.heap.size;have HBh:=hid HB;clear HB;rw[hB]at HH⊢;clear hB
 go_region_held3 (fun x=>x.cell? (aD B 0)=some (.pointer pa)/\x.cell? (aD B 1)=some (iV va)/\x.cell? (aD B 2)=some (iV vs)/\VC B pa va vs x)
  (first|exact(HH.below (Below.refl _ _).drew).all|assumption)
  (first|(go_at_call 133;refine(Zfc pa va vs h1 h2 a k ha _).mono ?_;rintro e w' ⟨rfl,hbb⟩;have hnx:=((HH.below (Below.refl _ _).drew).below hbb).all;have hbw:=(HBh.out.drew).trans (hbb.mono HBh.out.size))
        |(go_at_call 42;refine(HC'.out _ hbw).mono ?_;rintro e w'' ⟨rfl,hq⟩;have hny:=VC.all (B:=B) (pa:=pa) (va:=va) (vs:=vs) (x:=w'') ((HK'.out _ _ _ _ hbw hq hnx.2.2.2).trans hnx.2.2.2)))
 have HF:=hid (And.intro hbw hq);clear HH hnx hny hbw hq;go_wp2_with fail
 go_ret
 exact⟨rfl,_,HF.out.1,HF.out.2⟩
theorem Zt6 (pa:Option Addr) (va vs:Nat) (h1:va<=4294967296) (h2:vs<=4294967296) (a:Int) (ha:a<=9223372036854775807) (k b:Int) (w:World) (er:Int) (Q:World->World->Prop)
 (HC:∀X,Below w.heap.size w X->Calls Tryz.prog 33 #[.pointer pa,iV (Zai va vs a k),iV k,.int .u8 b] X fun e X'=>e=.returned (iV er)/\Q X X')
 (HK:Zx9 w Q):
 Calls Tryz.prog 129 #[.agg #[.pointer pa,iV va,iV vs],iV a,iV k,.int .u8 b] w (Yi0 er Q w):=by
 have HC':=hid HC;have HK':=hid HK;clear HC HK
 go_enter Tryz.func129,Tryz.ntmps129;go_wp2_with fail;have HH:VC w.heap.size pa va vs (w.alloc (.cells #[.pointer pa,iV va,iV vs] 40)):=Zab _ _;have HB:=(Below.refl w.heap.size w).alloc (Nat.le_refl _) (.cells #[.pointer pa,iV va,iV vs] 40);obtain⟨w1,hw1⟩:=eX (w.alloc (.cells #[.pointer pa,iV va,iV vs] 40));rw[hw1]at HH HB⊢;clear hw1;obtain⟨B,hB⟩:=eX w.heap.size;have HBh:=hid HB;clear HB;rw[hB]at HH⊢;clear hB
 go_region_held3 (fun x=>x.cell? (aD B 0)=some (.pointer pa)/\x.cell? (aD B 1)=some (iV va)/\x.cell? (aD B 2)=some (iV vs)/\VC B pa va vs x)
  (first|exact(HH.below (Below.refl _ _).drew).all|assumption)
  (first|(go_at_call 133;refine(Zfc pa va vs h1 h2 a k ha _).mono ?_;rintro e w' ⟨rfl,hbb⟩;have hnx:=((HH.below (Below.refl _ _).drew).below hbb).all;have hbw:=(HBh.out.drew).trans (hbb.mono HBh.out.size))
        |(go_at_call 33;refine(HC'.out _ hbw).mono ?_;rintro e w'' ⟨rfl,hq⟩;have hny:=VC.all (B:=B) (pa:=pa) (va:=va) (vs:=vs) (x:=w'') ((HK'.out _ _ _ _ hbw hq hnx.2.2.2).trans hnx.2.2.2)))
 have HF:=hid (And.intro hbw hq);clear HH hnx hny hbw hq;go_wp2_with fail
 go_ret
 exact⟨rfl,_,HF.out.1,HF.out.2⟩
end
section
open Go Go.RowKit Go.Shelf
theorem Zxj {A P n cap:Nat} {s:ASt} {ps:List (Option Nat)} {p:Option Addr} {w:World} (h:ArX A s P ps p n cap w) (a k:Int) (ha:a<=9223372036854775807):
 Calls Tryz.prog 65 #[pT A,iV a,iV a,iV k] w fun e w'=>e=.returned (iV (Zac s.L s.es a k))/\Below w.heap.size w w':=by
 have HC:=fun w (hw:ArX A s P ps p n cap w)=>Zep hw a k ha
 have HX:=hid h;clear h;rcases Zms s.L s.es a k with ht|ht
 all_goals
  have HT:=hid ht;have hd:(a==a)=true:=by simp
  clear ht;go_enter Tryz.func65,Tryz.ntmps65;go_wp2_with fail
  refine(HC _ HX.out).mono ?_
  rintro e w1 ⟨rfl,hb⟩;rw[HT.out];clear HC;go_wp2_with fail
  go_ret
  exact⟨by rw[HT.out];rfl,hb⟩
def ofV (pa:Option Addr) (a k er:Int):Value:=if er=0 then .agg #[.pointer pa,iV a,iV k]else .agg #[.pointer none,iV 0,iV 0]
theorem Za8 {x:World} {B:Nat} {c:Array Value} {T:TypeId} (h:x.heap[B]?=some (.cells c T (0,0))) (hc:c.size=3) (u v z:Value):
 (((x.setCell (aD B 0) u).setCell (aD B 1) v).setCell (aD B 2) z).heap[B]?=some (.cells #[u,v,z] T (0,0)):=by
 rw[heap_set (heap_set (heap_set h u) v) z]
 match c,hc with
 |⟨[_,_,_]⟩,_=>rfl
theorem Ycj (pa:Option Addr) (a k:Int) (w:World) (er:Int)
 (HC:∀X,Below w.heap.size w X->Calls Tryz.prog 65 #[.pointer pa,iV a,iV a,iV k] X fun e X'=>e=.returned (iV er)/\Below X.heap.size X X'):
 Calls Tryz.prog 17 #[.pointer pa,iV a,iV k] w fun e w'=>e=.returned (.tuple #[ofV pa a k er,iV er])/\Below w.heap.size w w':=by
 have HC':=hid HC;clear HC
 have B0:Below w.heap.size w (w.alloc (.cells #[.pointer none,iV 0,iV 0] 40)):=(Below.refl _ _).alloc (Nat.le_refl _) _;have R0:(w.alloc (.cells #[.pointer none,iV 0,iV 0] 40)).heap[w.heap.size]?=some (.cells #[.pointer none,iV 0,iV 0] 40 (0,0)):=Zab _ _;have sz:(w.alloc (.cells #[.pointer none,iV 0,iV 0] 40)).heap.size=w.heap.size+1:=by simp
 have HB0:=hid B0;have HR0:=hid R0;have HSZ:=hid sz
 clear B0 R0 sz;by_cases he:er=0
 · have hE:Hid (ofV pa a k er=.agg #[.pointer pa,iV a,iV k]):=hid (by unfold ofV;rw[if_pos he])
   have hd:(er !=0)=false:=by simpa using he
   have HER:=hid he;clear he;go_enter Tryz.func17,Tryz.ntmps17;go_wp2_with fail
   refine(HC'.out _ HB0.out).mono ?_
   rintro e w1 ⟨rfl,hb⟩;have R1:=(hb.block w.heap.size (by rw[HSZ.out];omega)).trans HR0.out;have B1:=HB0.out.trans (hb.mono (by rw[HSZ.out];omega));have r0:w1.cell? (aD w.heap.size 0)=some (.pointer none):=(Zaa R1 0).1;have r1:w1.cell? (aD w.heap.size 1)=some (iV 0):=(Zaa R1 1).1;have r2:w1.cell? (aD w.heap.size 2)=some (iV 0):=(Zaa R1 2).1;have f0:=(Zaa R1 0).2;have f1:=(Zaa R1 1).2;have f2:=(Zaa R1 2).2
   have HR1:=hid R1;clear R1 hb;go_wp2_with fail;have h3:=Za8 HR1.out rfl (.pointer pa) (iV a) (iV k);have g0:(((w1.setCell (aD w.heap.size 0) (.pointer pa)).setCell (aD w.heap.size 1) (iV a)).setCell (aD w.heap.size 2) (iV k)).cell? (aD w.heap.size 0)=some (.pointer pa):=(Zaa h3 0).1;have g1:(((w1.setCell (aD w.heap.size 0) (.pointer pa)).setCell (aD w.heap.size 1) (iV a)).setCell (aD w.heap.size 2) (iV k)).cell? (aD w.heap.size 1)=some (iV a):=(Zaa h3 1).1;have g2:(((w1.setCell (aD w.heap.size 0) (.pointer pa)).setCell (aD w.heap.size 1) (iV a)).setCell (aD w.heap.size 2) (iV k)).cell? (aD w.heap.size 2)=some (iV k):=(Zaa h3 2).1;have hbf:Below w.heap.size w (((w1.setCell (aD w.heap.size 0) (.pointer pa)).setCell (aD w.heap.size 1) (iV a)).setCell (aD w.heap.size 2) (iV k)):=((B1.setCell (p:=(aD w.heap.size 0)) (Nat.le_refl _) _).setCell (p:=(aD w.heap.size 1)) (Nat.le_refl _) _).setCell (p:=(aD w.heap.size 2)) (Nat.le_refl _) _;exact bodyPost_ret (v:=.tuple #[.agg #[.pointer pa,iV a,iV k],iV 0]) (by simp[results,Tryz.results17,go_sem,g0,g1,g2]) rfl ⟨by rw[hE.out];rw[HER.out],hbf⟩
 · have hE:Hid (ofV pa a k er=.agg #[.pointer none,iV 0,iV 0]):=hid (by unfold ofV;rw[if_neg he])
   have hd:(er !=0)=true:=by simpa using he
   clear he;go_enter Tryz.func17,Tryz.ntmps17;go_wp2_with fail
   refine(HC'.out _ HB0.out).mono ?_
   rintro e w1 ⟨rfl,hb⟩;have R1:=(hb.block w.heap.size (by rw[HSZ.out];omega)).trans HR0.out;have B1:=HB0.out.trans (hb.mono (by rw[HSZ.out];omega));have r0:w1.cell? (aD w.heap.size 0)=some (.pointer none):=(Zaa R1 0).1;have r1:w1.cell? (aD w.heap.size 1)=some (iV 0):=(Zaa R1 1).1;have r2:w1.cell? (aD w.heap.size 2)=some (iV 0):=(Zaa R1 2).1;have f0:=(Zaa R1 0).2;have f1:=(Zaa R1 1).2;have f2:=(Zaa R1 2).2
   have HR1:=hid R1;clear R1 hb;go_wp2_with fail;have h3:=Za8 HR1.out rfl (.pointer none) (iV 0) (iV 0);have g0:(((w1.setCell (aD w.heap.size 0) (.pointer none)).setCell (aD w.heap.size 1) (iV 0)).setCell (aD w.heap.size 2) (iV 0)).cell? (aD w.heap.size 0)=some (.pointer none):=(Zaa h3 0).1;have g1:(((w1.setCell (aD w.heap.size 0) (.pointer none)).setCell (aD w.heap.size 1) (iV 0)).setCell (aD w.heap.size 2) (iV 0)).cell? (aD w.heap.size 1)=some (iV 0):=(Zaa h3 1).1;have g2:(((w1.setCell (aD w.heap.size 0) (.pointer none)).setCell (aD w.heap.size 1) (iV 0)).setCell (aD w.heap.size 2) (iV 0)).cell? (aD w.heap.size 2)=some (iV 0):=(Zaa h3 2).1;have hbf:Below w.heap.size w (((w1.setCell (aD w.heap.size 0) (.pointer none)).setCell (aD w.heap.size 1) (iV 0)).setCell (aD w.heap.size 2) (iV 0)):=((B1.setCell (p:=(aD w.heap.size 0)) (Nat.le_refl _) _).setCell (p:=(aD w.heap.size 1)) (Nat.le_refl _) _).setCell (p:=(aD w.heap.size 2)) (Nat.le_refl _) _;exact bodyPost_ret (v:=.tuple #[.agg #[.pointer none,iV 0,iV 0],iV er]) (by simp[results,Tryz.results17,go_sem,g0,g1,g2]) rfl ⟨by rw[hE.out],hbf⟩
theorem Zoq {A P n cap:Nat} {s:ASt} {ps:List (Option Nat)} {p:Option Addr} {w:World} (h:ArX A s P ps p n cap w) (a k:Int) (ha:a<=9223372036854775807):
 Calls Tryz.prog 17 #[pT A,iV a,iV k] w fun e w'=>e=.returned (.tuple #[ofV (some (aD A 0)) a k (Zac s.L s.es a k),iV (Zac s.L s.es a k)])/\Below w.heap.size w w':=
 Ycj _ a k w _ fun X hX=>Zxj (h.below hX) a k ha
theorem VC.far {B R:Nat} {pa:Option Addr} {va vs:Nat} {x:World} (hne:B≠R) (h:VC B pa va vs x) (u v z:Value):VC B pa va vs (((x.setCell (aD R 0) u).setCell (aD R 1) v).setCell (aD R 2) z):=
 (Below.heap_setCell _ (aD R 2) _ _ hne).trans ((Below.heap_setCell _ (aD R 1) _ _ hne).trans ((Below.heap_setCell _ (aD R 0) _ _ hne).trans h))
theorem Zmm (pa:Option Addr) (va vs:Nat) (h1:va<=4294967296) (h2:vs<=4294967296) (a k:Int) (ha:a<=9223372036854775807) (w:World) (pu:Option Addr) (iv iz:Int) (er:Int)
 (HC:∀X,Below w.heap.size w X->Calls Tryz.prog 17 #[.pointer pa,iV (Zai va vs a k),iV k] X fun e X'=>e=.returned (.tuple #[.agg #[.pointer pu,iV iv,iV iz],iV er])/\Below X.heap.size X X'):
 Calls Tryz.prog 66 #[.agg #[.pointer pa,iV va,iV vs],iV a,iV k] w fun e w'=>e=.returned (.tuple #[.agg #[.pointer pu,iV iv,iV iz],iV er])/\Below w.heap.size w w':=by
 have HC':=hid HC;clear HC
 go_enter Tryz.func66,Tryz.ntmps66;go_wp2_with fail;obtain⟨w1,hw1⟩:=eX ((w.alloc (.cells #[.pointer pa,iV va,iV vs] 40)).alloc (.cells #[.pointer none,iV 0,iV 0] 40));have HH:VC w.heap.size pa va vs w1:=by rw[<-hw1];unfold VC;rw[Below.heap_alloc _ _ _ (by simp)];exact Zab _ _
 have HR:w1.heap[w.heap.size+1]?=some (.cells #[.pointer none,iV 0,iV 0] 40 (0,0)):=by
  rw[<-hw1];have:=Zab (w.alloc (.cells #[.pointer pa,iV va,iV vs] 40)) (.cells #[.pointer none,iV 0,iV 0] 40);simpa using this
 have HB:Below w.heap.size w w1:=by rw[<-hw1];exact((Below.refl w.heap.size w).alloc (Nat.le_refl _) _).alloc (by simp) _
 have hs1:w1.heap.size=w.heap.size+2:=by rw[<-hw1];simp
 rw[hw1];clear hw1;obtain⟨R,hR⟩:=eX (w.heap.size+1);obtain⟨B,hB⟩:=eX w.heap.size;have HBh:=hid HB;have hBR:B≠R:=by omega
 have HRl:Hid (w.heap.size<=R/\R<w1.heap.size):=hid (by omega);rw[hR]at HR⊢;clear HB hR hs1;rw[hB]at HH⊢;clear hB;have HRh:=hid HR;have HBR:=hid hBR
 clear HR hBR
 go_region_held3 (fun x=>x.cell? (aD B 0)=some (.pointer pa)/\x.cell? (aD B 1)=some (iV va)/\x.cell? (aD B 2)=some (iV vs)/\VC B pa va vs x)
  (first|exact(HH.below (Below.refl _ _).drew).all|assumption)
  (first|(go_at_call 133;refine(Zfc pa va vs h1 h2 a k ha _).mono ?_;rintro e w' ⟨rfl,hbb⟩;have hnx:=((HH.below (Below.refl _ _).drew).below hbb).all;have hbw:=(HBh.out.drew).trans (hbb.mono HBh.out.size);have hb1:=hid hbb)
        |(go_at_call 17;refine(HC'.out _ hbw).mono ?_;rintro e w'' ⟨rfl,hbc⟩;have hR2:=((hb1.out.trans (hbc.mono hb1.out.size)).block R HRl.out.2).trans HRh.out;have r0:w''.cell? (aD R 0)=some (.pointer none):=(Zaa hR2 0).1;have r1:w''.cell? (aD R 1)=some (iV 0):=(Zaa hR2 1).1;have r2:w''.cell? (aD R 2)=some (iV 0):=(Zaa hR2 2).1;have f0:=(Zaa hR2 0).2;have f1:=(Zaa hR2 1).2;have f2:=(Zaa hR2 2).2;have hny:=(hnx.2.2.2.below hbc).all;have hV3:=VC.far HBR.out hny.2.2.2 (.pointer pu) (iV iv) (iV iz);have hnz:=hV3.all;have HR2:=hid hR2;clear hR2 hV3))
 have h3:=Za8 HR2.out rfl (.pointer pu) (iV iv) (iV iz);have hbf:=(((hbw.trans (hbc.mono hbw.size)).setCell (p:=(aD R 0)) HRl.out.1 (.pointer pu)).setCell (p:=(aD R 1)) HRl.out.1 (iV iv)).setCell (p:=(aD R 2)) HRl.out.1 (iV iz);have HBF:=hid hbf;obtain⟨w4,hw4⟩:=eX ((((w''.setCell (aD R 0) (.pointer pu)).setCell (aD R 1) (iV iv)).setCell (aD R 2) (iV iz)));rw[hw4]at h3 HBF⊢;clear hw4 hbf hnx hny hnz HH;have g0:w4.cell? (aD R 0)=some (.pointer pu):=(Zaa h3 0).1;have g1:w4.cell? (aD R 1)=some (iV iv):=(Zaa h3 1).1;have g2:w4.cell? (aD R 2)=some (iV iz):=(Zaa h3 2).1;go_wp2_with fail;exact bodyPost_ret (v:=.tuple #[.agg #[.pointer pu,iV iv,iV iz],iV er]) (by simp[results,Tryz.results66,go_sem,g0,g1,g2]) rfl ⟨rfl,HBF.out⟩
end
section
open Go Go.RowKit Go.Shelf
section
variable {A P n cap:Nat} {s:ASt} {ps:List (Option Nat)} {p:Option Addr} {w:World}
theorem Zjo (h:ArX A s P ps p n cap w) (s':ASt):Zx9 w (fun x x'=>Zel A P ps p s' x x'):=fun x x' B c hb ⟨ps',p',n',cap',_,hst,_⟩ hB=>
 hst.block B (Array.getElem?_eq_some_iff.1 hB).1 (Ze6 (h.below hb) hB (by decide) (by decide) (by decide))
theorem Ziz {er:Int} {s':ASt} {e:Ending} {w':World} (h:Yi0 er (fun x x'=>Zel A P ps p s' x x') w e w'):e=.returned (iV er)/\Zel A P ps p s' w w':=by
 obtain⟨he,x,hb,ht⟩:=h
 exact⟨he,Zel.trans (s':=s') (Step.Zad hb) (fun _ _ _=> .inl rfl) ht⟩
theorem Zmn (h:ArX A s P ps p n cap w) (va vs:Nat) (h1:va<=4294967296) (h2:vs<=4294967296) (a k:Int) (ha:a<=9223372036854775807):
 Calls Tryz.prog 63 #[.agg #[pT A,iV va,iV vs],iV a,iV k] w (Zir s.mm s.L s.es (Zai va vs a k) k w):=
 Zt5 _ va vs h1 h2 a k ha w _ _ fun x hx=>Zlp (h.below hx) _ k (Zg8 h1 h2 a k)
theorem Zkf (h:ArX A s P ps p n cap w) (va vs:Nat) (h1:va<=4294967296) (h2:vs<=4294967296) (a k x:Int) (ha:a<=9223372036854775807) (hx:0<=x):
 Calls Tryz.prog 92 #[.agg #[pT A,iV va,iV vs],iV a,iV k,.int .u64 x] w (Zg9 A P s ps p (Zai va vs a k) k x w):=
 (Zr2 _ va vs h1 h2 a ha k x w _ _ (fun X hX=>Zmt (h.below hX) _ k x (Zg8 h1 h2 a k) hx) (Zjo h _)).mono fun e w' ht=>Ziz ht
end
theorem Yg7 (w:World):Calls Tryz.prog 239 #[] w fun e w'=>e=.returned (.bool true)/\Below w.heap.size w w':=by
 go_enter Tryz.func239,Tryz.ntmps239;go_wp2_with fail
 refine(Zoa _).mono ?_
 rintro e w1 ⟨rfl,hb⟩;go_wp2_with fail
 go_ret
 exact⟨rfl,hb⟩
theorem Zn9 (w:World):Calls Tryz.prog 236 #[] w fun e w'=>e=.returned (.bool true)/\Below w.heap.size w w':=by
 have L1:Hid (Zhl 1=1):=hid (by decide);have E1:Hid (Zau (Zco 1) 0 1=0):=hid (by decide);have S1:Hid (Zaw (Zco 1) 0 1=Zc9 1 (fun _=>0)):=hid (Zl0 1 1 (by decide) (by decide) (by decide));have T1:Hid (∀m,Zac (Zc9 1 m).L (Zc9 1 m).es 100 8=0):=hid fun m=>by show Zac 1 [0,1] 100 8=0;decide
 have N1:Hid (Zb9 (Zc9 1 fun _=>0).L (Zc9 1 fun _=>0).es 100 8=0):=hid (by show Zb9 1 [0,1] 100 8=0;decide);have S2:Hid (Zbx (Zc9 1 fun _=>0) 100 8 1=Zc9 1 (Zb8 (fun _=>0) 100 (Zfk 1 8))):=hid (by unfold Zbx;rw[N1.out,if_pos rfl];rfl);have N2:Hid (Zb9 1 [0,1] 100 1=0):=hid (by decide);have V2:Hid ((Zck (Zb8 (fun _=>0) 100 (Zfk 1 8)) (100:Int).toNat (1:Int).toNat:Int)=1):=hid (by decide);have A1:Hid (Zai 100 8 0 8=100):=hid (by decide);have A2:Hid (Zai 100 8 1 8= -1):=hid (by decide);have N3:Hid (Zb9 1 [0,1] (-1) 8=3):=hid (by decide);go_enter Tryz.func236,Tryz.ntmps236;go_wp2_with fail
 refine(Zj2 1 _).mono ?_
 rintro e w1 ⟨A,P,rfl,hA,hP,hx,hb1⟩;rw[L1.out]at hx
 have hn0:∀i b:Nat,(List.replicate 1 (none:Option Nat))[i]?=some (some b)->w.heap.size<=b:=fun i b h=>by
  rw[List.getElem?_replicate]at h;split at h<;>cases h
 have HX1:=hid hx;clear hx;go_wp2_with fail
 refine(Zhq HX1.out 0 1 (by omega)).mono ?_
 rintro e w2 ⟨rfl,ht⟩;rw[E1.out];rw[S1.out]at ht
 obtain⟨⟨P2,ps2,p2,n2,c2,hx2,q1,q2,q3⟩,hb2⟩:=ht.at hb1.size hA hP hn0;have HX2:=hid hx2;have HQ2:=hid (And.intro q1 (And.intro q2 q3));have B2:=hb1.trans hb2;clear hx2 ht q1 q2 q3 hb2 hn0 hA hP HX1;go_wp2_with fail
 refine(Zoq HX2.out 100 8 (by omega)).mono ?_
 rintro e w3 ⟨rfl,hb3⟩;rw[T1.out,show ofV (some (aD A 0)) 100 8 0=.agg #[pT A,iV 100,iV 8]from rfl];have B3:=B2.trans (hb3.mono B2.size);obtain⟨w4,hw4⟩:=eX (w3.alloc (.cells #[pT A,iV 100,iV 8] 40));have HV:VC w3.heap.size (some (aD A 0)) 100 8 w4:=by rw[<-hw4];exact Zab _ _
 have hb4:Below w3.heap.size w3 w4:=by rw[<-hw4];exact(Below.refl _ _).alloc (Nat.le_refl _) _
 have HX4:=hid ((HX2.out.below hb3).below hb4);have B4:=B3.trans (hb4.mono B3.size);have HW4:=hid hw4;obtain⟨v0,v1,v2,_⟩:=HV.all;have HVh:=hid HV;clear hw4 HV hb3 hb4;obtain⟨V,hV⟩:=eX w3.heap.size;rw[hV]at v0 v1 v2 HVh;have HVV:=hid hV;clear hV;go_wp2_with fail;rw[HW4.out,HVV.out];go_wp2_with fail
 refine(Zkf HX4.out 100 8 (by omega) (by omega) 0 8 1 (by omega) (by omega)).mono ?_
 rintro e w5 ⟨rfl,ht⟩;rw[A1.out,N1.out];rw[A1.out,S2.out]at ht;obtain⟨⟨P5,ps5,p5,n5,c5,hx5,q1,q2,q3⟩,hb5⟩:=ht.at B4.size HQ2.out.1 HQ2.out.2.1 HQ2.out.2.2;have HX5:=hid hx5;have B5:=B4.trans hb5;have HV5:VC V (some (aD A 0)) 100 8 w5:=((Zjo HX4.out _) _ _ _ _ (Below.refl _ _) ht HVh.out).trans HVh.out;clear hx5 ht q1 q2 q3 hb5 v0 v1 v2;go_wp2_with fail
 refine(Zlp HX5.out 100 1 (by omega)).mono ?_
 rintro e w6 ⟨rfl,hb6⟩;have N2':Hid (Zb9 (Zc9 1 (Zb8 (fun _=>0) 100 (Zfk 1 8))).L (Zc9 1 (Zb8 (fun _=>0) 100 (Zfk 1 8))).es 100 1=0):=N2;have V2':Hid ((Zck (Zc9 1 (Zb8 (fun _=>0) 100 (Zfk 1 8))).mm (100:Int).toNat (1:Int).toNat:Int)=1):=V2;rw[N2'.out,if_pos rfl,V2'.out];have HX6:=hid (HX5.out.below hb6);have B6:=B5.trans (hb6.mono B5.size);have HV6:=hid (HV5.below hb6);obtain⟨v0,v1,v2,_⟩:=HV6.out.all;clear hb6 HV5;go_wp2_with fail
 refine(Zmn HX6.out 100 8 (by omega) (by omega) 1 8 (by omega)).mono ?_
 rintro e w7 ⟨rfl,hb7⟩;have N3':Hid (Zb9 (Zc9 1 (Zb8 (fun _=>0) 100 (Zfk 1 8))).L (Zc9 1 (Zb8 (fun _=>0) 100 (Zfk 1 8))).es (Zai 100 8 1 8) 8=3):=hid (by rw[A2.out];exact N3.out);rw[N3'.out,if_neg (by decide)];have HX7:=hid (HX6.out.below hb7);have B7:=B6.trans (hb7.mono B6.size);have HV7:=hid (HV6.out.below hb7);clear hb7 v0 v1 v2;go_wp2_with fail
 refine(Yg7 _).mono ?_
 rintro e w8 ⟨rfl,hb8⟩;have HX8:=hid (HX7.out.below hb8);have B8:=B7.trans (hb8.mono B7.size);obtain⟨v0,v1,v2,_⟩:=(HV7.out.below hb8).all;clear hb8;go_wp2_with fail
 refine(Zxo HX8.out).mono ?_
 rintro e w9 ⟨rfl,rfl⟩;have HC1:((Zc9 1 (Zb8 (fun _=>0) 100 (Zfk 1 8))).L:Int)=1:=rfl;rw[HC1];clear HC1;go_wp2_with fail
 go_ret
 exact⟨rfl,B8⟩
end
end Go.Proofs.YtgcidfenjlmljaaGreat.Bt
