import Derived.Test.YtgcidfenjlmljaaGreatPm05
import Derived.Test.YtgcidfenjlmljaaGreatPm06
import Derived.Laws.BitsAllLaws
import Derived.Test.YtgcidfenjlmljaaGreatPm08
import Derived.Test.YtgcidfenjlmljaaGreatPm09
import Derived.Test.YtgcidfenjlmljaaGreatPm25
import Derived.Deep.DeepCutAuto
import Derived.Laws.StructEq
import Derived.OpenShut
import Derived.OwnWalk
import Derived.Maps.AppendAt
import Derived.WalkSmall
import Derived.Lib.SmallJoins
import Derived.Deep.Slices
import Derived.Deep.Strs
import Derived.ChangeSame
import Derived.WideShapes
import Derived.Test.YtgcidfenjlmljaaGreatPm26
import Derived.Test.YtgcidfenjlmljaaGreatPn47
import Derived.Test.YtgcidfenjlmljaaGreatPn48
import Derived.Test.YtgcidfenjlmljaaGreatPn50
import Derived.Test.YtgcidfenjlmljaaGreatPmR
set_option linter.unusedVariables false
set_option linter.unusedSimpArgs false
set_option maxRecDepth 100000
set_option maxHeartbeats 16000000
namespace Go.Proofs.YtgcidfenjlmljaaGreat.Bt
section
open Go Go.RowKit
section
variable {A P n cap:Nat} {s:ASt} {ps:List (Option Nat)} {p:Option Addr} {w:World}
theorem Ylk (a n:Int) (w:World):Calls Tryz.prog 95 #[.pointer none,iV a,iV n] w fun e w'=>e=.returned (iV 1)/\w=w':=by
 go_enter Tryz.func95,Tryz.ntmps95
 go_wp2_with fail
 go_ret
 exact⟨rfl,rfl⟩
end
end
section
open Go Go.RowKit
section
variable {A P n cap:Nat} {s:ASt} {ps:List (Option Nat)} {p:Option Addr} {w:World}
theorem Yld (a k:Int) (w:World):Calls Tryz.prog 107 #[.pointer none,iV a,iV k] w fun e w'=>e=.returned (iV 1)/\w=w':=by
 go_enter Tryz.func107,Tryz.ntmps107
 go_wp2_with fail
 go_ret
 exact⟨rfl,rfl⟩
end
end
section
open Go Go.RowKit Go.Shelf
section
variable {A P n cap:Nat} {s:ASt} {ps:List (Option Nat)} {p:Option Addr} {w:World}
theorem Yl0 (a k:Int) (w:World):Calls Tryz.prog 41 #[.pointer none,iV a,iV k] w fun e w'=>e=.returned (.tuple #[.int .u64 0,iV 1])/\w=w':=by
 go_enter Tryz.func41,Tryz.ntmps41
 go_wp2_with fail
 refine(Yld a k _).mono ?_
 rintro e w1 ⟨rfl,rfl⟩
 go_wp2_with fail
 go_ret2
 exact⟨rfl,rfl⟩
end
end
section
open Go Go.RowKit Go.Shelf
theorem Yl2 (a b k:Int) (w:World):Calls Tryz.prog 65 #[.pointer none,iV a,iV b,iV k] w fun e w'=>e=.returned (iV 1)/\w=w':=by
 go_enter Tryz.func65,Tryz.ntmps65
 go_wp2_with fail
 refine(Ylk a k _).mono ?_
 rintro e w1 ⟨rfl,rfl⟩
 go_wp2_with fail
 go_ret
 exact⟨rfl,rfl⟩
end
section
open Go Go.RowKit Go.Shelf
theorem Yl8 (a k:Int) (w:World):Calls Tryz.prog 17 #[.pointer none,iV a,iV k] w fun e w'=>e=.returned (.tuple #[.agg #[.pointer none,iV 0,iV 0],iV 1])/\Below w.heap.size w w':=
 Ycj none a k w 1 fun X hX=>(Yl2 a a k X).mono fun e w' ⟨he,hw⟩=>⟨he,hw▸Below.refl _ _⟩
end
section
open Go Go.RowKit Go.Shelf
section
variable {A P n cap:Nat} {s:ASt} {ps:List (Option Nat)} {p:Option Addr} {w:World}
theorem Ymi (a k:Int) (ha:a<=9223372036854775807) (w:World):
 Calls Tryz.prog 63 #[.agg #[.pointer none,iV 0,iV 0],iV a,iV k] w fun e w'=>e=.returned (.tuple #[.int .u64 0,iV 1])/\Below w.heap.size w w':=
 Zt5 none 0 0 (by omega) (by omega) a k ha w 0 1 fun x hx=>(Yl0 _ k x).mono fun e w' ⟨he,hw⟩=>⟨he,hw▸Below.refl _ _⟩
theorem Ylj (a k:Int) (ha:a<=9223372036854775807) (w:World):
 Calls Tryz.prog 66 #[.agg #[.pointer none,iV 0,iV 0],iV a,iV k] w fun e w'=>e=.returned (.tuple #[.agg #[.pointer none,iV 0,iV 0],iV 1])/\Below w.heap.size w w':=
 Zmm none 0 0 (by omega) (by omega) a k ha w none 0 0 1 fun X hX=>Yl8 _ k X
end
end
section
open Go Go.RowKit Go.Shelf

end
section
open Go Go.RowKit Go.Shelf
section
variable {A:Nat} {s:ASt} {w:World}
end
end
section
open Go Go.RowKit Go.Shelf
section
variable {A:Nat} {s:ASt} {w:World}
def Ymw:Value:=.tuple #[iV 0,iV 0]
theorem Ylw (pa:Option Addr) (va vs:Nat) (k er:Int) (her:(er !=0)=true)
 (HPL:∀X,Below w.heap.size w X->Calls Tryz.prog 160 #[.agg #[.pointer pa,iV va,iV vs],iV k] X (Zan (.tuple #[.agg #[.pointer none,iV 0,iV 0],iV er]) X)):
 Calls Tryz.prog 94 #[.agg #[.pointer pa,iV va,iV vs],iV k] w (Zan Ymw w):=by
 have HP:=hid (HPL _ (Zaj w (.cells #[.pointer pa,iV va,iV vs] 76)))
 have HB:=hid (Zaj w (.cells #[.pointer pa,iV va,iV vs] 76))
 clear HPL
 go_enter Tryz.func94,Tryz.ntmps94
 go_wp2_with fail
 refine HP.out.mono ?_
 rintro e w2 ⟨rfl,hb⟩
 have HB2:=hid (HB.out.trans (hb.mono HB.out.size))
 clear hb HB HP
 go_upto_region 2 with fail
 have hb:=Zaj w2 (.cells #[.pointer none,iV 0,iV 0] 40)
 have hby:=HB2.out.trans (hb.mono HB2.out.size)
 obtain⟨y,hy⟩:=eX (w2.alloc (.cells #[.pointer none,iV 0,iV 0] 40))
 rw[hy]at hby
 change Code.wp _ _ _ _ (w2.alloc (.cells #[.pointer none,iV 0,iV 0] 40))
 rw[hy]
 have HB3:=hid hby
 clear hy hby hb HB2
 go_wp2_with fail
 go_ret2
 exact⟨rfl,HB3.out⟩
end
end
section
open Go Go.RowKit Go.Shelf
section
variable {A B Cb va vs:Nat} {s s':ASt} {a o u x:Int} {w W W':World}
end
section
variable {A:Nat} {s:ASt} {w:World}
end
end
section
open Go Go.RowKit Go.Shelf
section
variable {w:World}
end
end
section
open Go Go.RowKit Go.Shelf

end
section
open Go Go.RowKit Go.Shelf Go.ChangeShapes Go.WideShapes

end
section
open Go Go.RowKit Go.Shelf
section
variable {w:World}
def Ykn (pa:Option Addr) (va vs:Nat) (er:Int) (w:World):Prop:=
 ∀X:World,Below w.heap.size w X->Calls Tryz.prog 66 #[.agg #[.pointer pa,iV va,iV vs],iV 0,iV 40] X (Zan (.tuple #[.agg #[.pointer none,iV 0,iV 0],iV er]) X)
theorem Ykn.below {pa:Option Addr} {va vs:Nat} {er:Int} {x:World} (h:Ykn pa va vs er w) (hb:Below w.heap.size w x):Ykn pa va vs er x:=fun X hX=>h X (hb.trans (hX.mono hb.size))
theorem Ylg (pa:Option Addr) (va vs k:Nat) (hk:k<5) (er:Int) (her:(er !=0)=true) (HP:Ykn pa va vs er w):
 Calls Tryz.prog 160 #[.agg #[.pointer pa,iV va,iV vs],iV k] w (Zan (.tuple #[.agg #[.pointer none,iV 0,iV 0],iV er]) w):=by
 have HI:=hid (fun w=>Znl (k:Int) w)
 rw[decide_eq_true (show 0<=(k:Int)/\(k:Int)<=4 by omega)]at HI
 have hB:=Zbm w (.cells #[.pointer pa,iV va,iV vs] 76) (.cells #[.pointer none,iV 0,iV 0] 40)
 have HPP:=hid (HP.below hB)
 have HB:=hid hB
 have HP:=hid (Zbk w #[.pointer pa,iV va,iV vs] #[.pointer none,iV 0,iV 0] 76 40)
 clear hB
 go_enter Tryz.func160,Tryz.ntmps160
 go_upto_region 1 with fail
 obtain⟨x,hx⟩:=eX ((w.alloc (.cells #[.pointer pa,iV va,iV vs] 76)).alloc (.cells #[.pointer none,iV 0,iV 0] 40))
 obtain⟨B,hB⟩:=eX w.heap.size
 have hBR:=hid (show w.heap.size<=B+1 by omega)
 rw[hx]at HPP HB HP
 rw[hB]at HP
 change Code.wp _ _ _ _ ((w.alloc (.cells #[.pointer pa,iV va,iV vs] 76)).alloc (.cells #[.pointer none,iV 0,iV 0] 40))
 try simp only[World.size_alloc]
 rw[hx,hB]
 clear hx hB
 have HP1:Hid (B3 76 B pa va vs x):=hid HP.out.1
 have HP2:Hid (B3 40 (B+1) none 0 0 x):=hid HP.out.2
 clear HP
 obtain⟨⟨b0,b1,b2⟩, -, -, -⟩:=HP1.out.all
 go_wp2_with fail
 refine(HI.out _).mono ?_
 rintro e w1 ⟨rfl,rfl⟩
 go_wp2_with fail
 refine(HPP.out _ (Below.refl _ _)).mono ?_
 rintro e w2 ⟨rfl,hb⟩
 clear b0 b1 b2
 have HB2:=hid (HB.out.trans (hb.mono HB.out.size))
 have HR2:=hid (HP2.out.below hb)
 clear hb HB HP1 HP2
 go_upto_region 4 with fail
 have hb:=Zaj w2 (.cells #[.pointer none,iV 0,iV 0] 40)
 have hby:=HB2.out.trans (hb.mono HB2.out.size)
 have hry:=HR2.out.below hb
 obtain⟨y,hy⟩:=eX (w2.alloc (.cells #[.pointer none,iV 0,iV 0] 40))
 rw[hy]at hby hry
 change Code.wp _ _ _ _ (w2.alloc (.cells #[.pointer none,iV 0,iV 0] 40))
 rw[hy]
 have HB3:=hid hby;have HR3:=hid hry
 obtain⟨⟨r0,r1,r2⟩,f0,f1,f2⟩:=hry.all
 clear hy hby hry hb HB2 HR2
 go_wp2_with fail
 obtain⟨g0,g1,g2,hbf⟩:=Yg2 HR3.out HB3.out hBR.out (.pointer none) (iV 0) (iV 0)
 exact bodyPost_ret (v:=.tuple #[.agg #[.pointer none,iV 0,iV 0],iV er]) (by simp[results,Tryz.results160,go_sem,g0,g1,g2]) rfl ⟨rfl,hbf⟩
theorem Ylb (pa:Option Addr) (va vs k:Nat) (hk:k<5) (er:Int) (her:(er !=0)=true) (HP:Ykn pa va vs er w):
 Calls Tryz.prog 94 #[.agg #[.pointer pa,iV va,iV vs],iV k] w (Zan (.tuple #[iV 0,iV 0]) w):=
 Ylw pa va vs (k:Int) er her fun X hX=>Ylg pa va vs k hk er her (HP.below hX)
theorem Ylx (pa:Option Addr) (va vs:Nat) (er:Int) (her:(er !=0)=true) (HP:Ykn pa va vs er w):
 Calls Tryz.prog 32 #[.agg #[.pointer pa,iV va,iV vs]] w (Zan (iV 0) w):=
 Ztl (w:=w) pa va vs (fun _=>0) (fun _=>0) (fun _=>by omega) fun X k hX hk=>Ylb pa va vs k hk er her (HP.below hX)
theorem Ymh (pa:Option Addr) (va vs k:Nat) (hk:k<5) (er:Int) (her:(er !=0)=true) (HP:Ykn pa va vs er w):
 Calls Tryz.prog 83 #[.agg #[.pointer pa,iV va,iV vs],iV k] w (Zan (.tuple #[.agg #[iV 0,iV 0,.int .u64 0,iV 0],.bool false]) w):=
 Ya3 pa va vs 0 (k:Int) fun X hX=>Ylb pa va vs k hk er her (HP.below hX)
theorem Ykv:Ykn none 0 0 1 w:=fun X _=>Ylj 0 40 (by omega) X
end
end
section
open Go Go.RowKit Go.Shelf
section
variable {w:World}
end
section
variable {A:Nat} {s:ASt} {w:World}
end
section
variable {A:Nat} {s:ASt} {w:World}
end
end
section
open Go Go.RowKit Go.Shelf

end
section
open Go Go.RowKit Go.Shelf

end
section
open Go Go.RowKit Go.Shelf

end
section
open Go Go.RowKit Go.Shelf

end
section
open Go Go.RowKit Go.Shelf Go.Deep Go.ChangeShapes Go.WideShapes Go.ChangeAt
section
variable {A R Q:Nat} {m m':Nat->UInt8} {P:Nat->Option Addr} {C:Nat->Nat} {q:Nat->List Nat} {w x y:World}
end
end
section
open Go Go.RowKit Go.Shelf
def Ykk (l:List Nat) (v:Int):Nat:=l.countP fun(x:Nat)=>decide ((x:Int)=v)
theorem Yk1 (l:List Nat) (v:Int):Ykk l v<=l.length:=List.countP_le_length
theorem Ykg {l:List Nat} {j:Nat} (h:j<l.length) (v:Int):Ykk (l.take (j+1)) v=Ykk (l.take j) v+if((l.getD j 0:Nat):Int)=v then 1 else 0:=by
 unfold Ykk
 rw[List.take_add_one,List.getElem?_eq_getElem h,List.countP_append,List.getD_eq_getElem?_getD,List.getElem?_eq_getElem h]
 simp[List.countP_cons]
theorem Ylv {A B n g:Nat} {R:Zag} {s:ASt} {w:World} (h:BV B A n s w) (hB:Bud (n+1) g g R g s) (v:Int) (hv:0<=v/\v<=255):
 Calls Tryz.prog 21 #[Zcv B,.int .u8 v] w (Zan (iV (Ykk (stT R g n (Zbi R g).length) v:Int)) w):=by
 have HS:=hid (Yed h hB)
 have HZ:=hid (hB.sz h.2.1)
 have hn:n<=80:=by have:=hB.sz h.2.1;omega
 clear h hB
 go_enter Tryz.func21,Tryz.ntmps21
 go_wp2_with fail
 refine HS.out.mono ?_
 rintro e w1 ⟨D,rfl,hd,hD,hb⟩
 obtain⟨l,hl⟩:=eX (stT R g n (Zbi R g).length)
 have hll:l.length=n+1:=by rw[<-hl];exact Zus _ _ _ _
 have HLQ:=hid hl
 rw[hl]at hd
 try rw[hl]
 have HD:=hid hd;have HB:=hid hb;have HL:=hid hll
 clear hd hb hD hl hll HS
 have HC:∀j,Hid (Ykk (l.take j) v<=n+1):=fun j=>hid (by have h1:=Yk1 (l.take j) v;rw[List.length_take]at h1;have:=HL.out;omega)
 go_wp2_with fail
 go_loopw[5,11] (fun s5 s11 wr=>∃j:Nat,j<=n+1/\s5=iV (Ykk (l.take j) v:Int)/\s11=iV j/\w1=wr) (fun _ s11 _=>n+1-(intOf s11).toNat)
 case atStart=>exact⟨0,Nat.zero_le _,by rw[List.take_zero];rfl,rfl,rfl⟩
 case round=>
  obtain⟨j,hj,rfl,rfl,rfl⟩:=hrel
  by_cases hjn:j<n+1
  · have hjn2:(j:Int)<(n:Int)+1:=by omega
    have hjL:j<l.length:=by rw[HL.out];exact hjn
    obtain⟨c0,_⟩:=HD.out.cell hjL
    have HS1:=hid (Ykg hjL v)
    obtain⟨x,hx⟩:=eX (l.getD j 0)
    obtain⟨c,hc⟩:=eX (Ykk (l.take j) v)
    have hc80:=(HC j).out
    rw[hx]at c0 HS1
    rw[hc]at HS1 hc80⊢
    clear hjL hx hc
    have hw1:IntKind.i64.wrap ((c:Int)+1)=(c:Int)+1:=by rw[IntKind.wrap_i64];omega
    by_cases hxv:(x:Int)=v
    · have HS2:Hid (((Ykk (l.take (j+1)) v:Nat):Int)=(c:Int)+1):=hid (by rw[HS1.out,if_pos hxv];push_cast;rfl)
      go_wp2_with fail
      go_roundw
      case rel=>exact⟨j+1,by omega,by rw[HS2.out],by go_num,by trivial⟩
      case measure=>simp[intOf];omega
    · have HS2:Hid (((Ykk (l.take (j+1)) v:Nat):Int)=(c:Int)):=hid (by rw[HS1.out,if_neg hxv];rfl)
      go_wp2_with fail
      go_roundw
      case rel=>exact⟨j+1,by omega,by rw[HS2.out],by go_num,by trivial⟩
      case measure=>simp[intOf];omega
  · obtain rfl:j=n+1:=by omega
    have HE:Hid (l.take (n+1)=l):=hid (List.take_of_length_le (by rw[HL.out];exact Nat.le_refl _))
    rw[HE.out]
    go_wp2_with fail
    go_ret
    exact⟨by first|rfl|(rw[HLQ.out];rfl),HB.out⟩
end
section
open Go Go.RowKit Go.Shelf
theorem Ykd (g:Nat) (l:List Nat) (fr st p:Nat) (hp:p<l.length):∀c,(Zok g l fr st c).getD p 0=if fr<=p/\p<fr+c/\p<=g then st else l.getD p 0
 |0=>by rw[if_neg (by omega)];rfl
 |c+1=>by
  unfold Zok
  by_cases h:fr+c<=g
  · rw[if_pos h,List.getD_eq_getElem?_getD,List.getElem?_set,Zii]
    by_cases e:fr+c=p
    · rw[if_pos e,if_pos (by omega),if_pos (by omega)];rfl
    · rw[if_neg e,<-List.getD_eq_getElem?_getD,Ykd g l fr st p hp c]
      by_cases e2:fr<=p/\p<fr+c/\p<=g
      · rw[if_pos e2,if_pos (by omega)]
      · rw[if_neg e2,if_neg (by omega)]
  · rw[if_neg h,Ykd g l fr st p hp c]
    by_cases e2:fr<=p/\p<fr+c/\p<=g
    · rw[if_pos e2,if_pos (by omega)]
    · rw[if_neg e2,if_neg (by omega)]
def Yle (y:Nat × Nat × Bool) (p:Nat):Prop:=y.1+1<=p/\p<y.1+1+2^y.2.1
theorem Ykf (g p:Nat):∀(L:List (Nat × Nat × Bool)) (l:List Nat),p<l.length->(∀y,y∈L->¬Yle y p)->(L.foldl (stF g) l).getD p 0=l.getD p 0
 |[],l,_,_=>rfl
 |y::L,l,hp,h=>by
  have h1:=h y List.mem_cons_self
  unfold Yle at h1
  rw[List.foldl_cons,Ykf g p L _ (by unfold stF;rw[Zii];exact hp) fun z hz=>h z (List.mem_cons_of_mem _ hz)]
  unfold stF
  rw[Ykd g l _ _ p hp,if_neg (by omega)]
theorem Ykj (g p:Nat) (y:Nat × Nat × Bool) (hg:p<=g) (hc:Yle y p):∀(L:List (Nat × Nat × Bool)) (l:List Nat),p<l.length->y∈L->(∀z,z∈L->Yle z p->z=y)->(L.foldl (stF g) l).getD p 0=if y.2.2=true then 3 else 2
 |[],l,_,h,_=>by cases h
 |z::L,l,hp,hy,h=>by
  rw[List.foldl_cons]
  have hl:p<(stF g l z).length:=by unfold stF;rw[Zii];exact hp
  by_cases e:y∈L
  · exact Ykj g p y hg hc L _ hl e fun z' hz=>h z' (List.mem_cons_of_mem _ hz)
  · have hzy:y=z:=by
     rcases List.mem_cons.1 hy with c|c
     · exact c
     · exact absurd c e
    subst hzy
    rw[Ykf g p L _ hl fun z' hz hc'=>e (h z' (List.mem_cons_of_mem _ hz) hc'▸hz)]
    unfold Yle at hc
    unfold stF
    rw[Ykd g l _ _ p hp,if_pos (by omega)]
theorem Ykq (R:Zag) (g n:Nat):(stA R g n).length=n+1:=Zus R g n _
theorem Ykx (R:Zag) (g n:Nat):(stA R g n).getD 0 0=1:=by
 have hl:0<(Zok g (List.replicate (n+1) 0) 0 1 1).length:=by rw[Zii];simp
 rw[Yfi,Ykf g 0 _ _ hl fun y _ h=>by unfold Yle at h;omega,Ykd g _ 0 1 0 (by simp) 1,if_pos (by omega)]
theorem Ykp {R:Zag} {g n i k p:Nat} {t:Bool} (hT:Til g R g) (h:R i=some (k,t)) (h1:i+1<=p) (h2:p<i+1+2^k) (hn:g<=n):(stA R g n).getD p 0=if t=true then 3 else 2:=by
 have ha:=hT.al _ _ _ h
 rw[Yfi]
 refine Ykj g p (i,k,t) (by omega) ⟨h1,h2⟩ _ _ (by rw[Zii];simp;omega) (Zdp.2 ⟨hT.lt h,h⟩) ?_
 rintro ⟨j,l,u⟩ hz ⟨c1,c2⟩
 simp only at c1 c2
 have e:=hT.one (p:=p-1) h (Zdp.1 hz).2 (by omega) (by omega) (by omega) (by omega)
 obtain⟨rfl,rfl,rfl⟩:=e
 rfl
theorem Yky {R:Zag} {g n p:Nat} (hT:Til g R g) (hp:g<p) (hn:p<=n):(stA R g n).getD p 0=0:=by
 have hl:p<(Zok g (List.replicate (n+1) 0) 0 1 1).length:=by rw[Zii];simp;omega
 rw[Yfi,Ykf g p _ _ hl,Ykd g _ 0 1 p (by simp;omega) 1,if_neg (by omega)]
 · rw[List.getD_eq_getElem?_getD,List.getElem?_replicate,if_pos (by omega)];rfl
 · rintro ⟨j,l,u⟩ hz ⟨c1,c2⟩
   simp only at c1 c2
   have:=hT.al _ _ _ (Zdp.1 hz).2
   omega
theorem Ykr {R:Zag} {g n p:Nat} (hT:Til g R g) (hn:g<=n) (hp:p<=n):
 (p=0/\(stA R g n).getD p 0=1)\/(g<p/\(stA R g n).getD p 0=0)\/
 (∃i k t,R i=some (k,t)/\i+1<=p/\p<i+1+2^k/\(stA R g n).getD p 0=if t=true then 3 else 2):=by
 rcases Nat.eq_zero_or_pos p with rfl|h0
 · exact .inl ⟨rfl,Ykx R g n⟩
 · rcases Nat.lt_or_ge g p with c|c
   · exact .inr (.inl ⟨c,Yky hT c hp⟩)
   · obtain⟨i,k,t,e,h1,h2⟩:=hT.cv (p-1) (by omega)
     exact .inr (.inr ⟨i,k,t,e,by omega,by omega,Ykp hT e (by omega) (by omega) hn⟩)
theorem Yko {R:Zag} {g n p:Nat} (hT:Til g R g) (hn:g<=n) (hp:p<=n):(stA R g n).getD p 0=3↔∃i k,R i=some (k,true)/\i+1<=p/\p<i+1+2^k:=by
 constructor
 · intro h
   rcases Ykr hT hn hp with⟨_,e⟩|⟨_,e⟩|⟨i,k,t,hr,h1,h2,e⟩
   · omega
   · omega
   · cases t with
     |true=>exact⟨i,k,hr,h1,h2⟩
     |false=>rw[if_neg (by decide)]at e;omega
 · rintro ⟨i,k,e,h1,h2⟩
   rw[Ykp hT e h1 h2 hn];rfl
def cnI (f:Nat->Bool):Nat->Nat
 |0=>0
 |N+1=>cnI f N+if f N=true then 1 else 0
theorem Ykc (f:Nat->Bool) (N:Nat):cnI f (N+1)=cnI f N+if f N=true then 1 else 0:=rfl
theorem Yk3 (l:List Nat) (v:Int):∀N,N<=l.length->Ykk (l.take N) v=cnI (fun p=>decide (((l.getD p 0:Nat):Int)=v)) N
 |0,_=>by rw[List.take_zero];rfl
 |N+1,h=>by
  rw[Ykg (by omega),Yk3 l v N (by omega)]
  rw[Ykc]
  by_cases e:((l.getD N 0:Nat):Int)=v
  · rw[if_pos e,if_pos (decide_eq_true e)]
  · rw[if_neg e,if_neg (by rw[decide_eq_false e];decide)]
theorem Ymu (R:Zag) (g n:Nat) (v:Int):Ykk (stA R g n) v=cnI (fun p=>decide ((((stA R g n).getD p 0:Nat):Int)=v)) (n+1):=by
 have h:=Yk3 (stA R g n) v (n+1) (by rw[Ykq];exact Nat.le_refl _)
 rw[List.take_of_length_le (by rw[Ykq];exact Nat.le_refl _)]at h
 exact h
end
section
open Go Go.RowKit Go.Shelf
abbrev vzV:Value:=.agg #[.pointer none,iV ((0:Nat):Int),iV ((0:Nat):Int)]
theorem Yks (w:World):Calls Tryz.prog 31 #[.pointer none] w (Zan vzV w):=by
 have HF:=hid ((Fb.start w).new #[.pointer none,iV 0,iV 0] 76)
 go_enter Tryz.func31,Tryz.ntmps31
 go_upto_region 1 with fail
 change Code.wp _ _ _ _ (w.alloc (.cells #[.pointer none,iV 0,iV 0] 76))
 obtain⟨x,hx⟩:=eX (w.alloc (.cells #[.pointer none,iV 0,iV 0] 76))
 obtain⟨R,hR⟩:=eX w.heap.size
 rw[hx,hR]at HF
 rw[hx,hR]
 clear hx hR
 have HF2:=hid (HF.out.Zd9 [.pointer none,iV 0,iV 0] rfl)
 have r0:=HF.out.cell0 0 rfl;have r1:=HF.out.cell0 1 rfl;have r2:=HF.out.cell0 2 rfl
 have f0:=HF.out.Za5 0;have f1:=HF.out.Za5 1;have f2:=HF.out.Za5 2
 go_wp2_with fail
 change bodyPost _ _ _ _ _ (Bt.stR x R [.pointer none,iV 0,iV 0] 0)
 obtain⟨z,hzz⟩:=eX (Bt.stR x R [.pointer none,iV 0,iV 0] 0)
 rw[hzz]at HF2⊢
 have g0:=HF2.out.cell0 0 rfl;have g1:=HF2.out.cell0 1 rfl;have g2:=HF2.out.cell0 2 rfl
 exact bodyPost_ret (v:=vzV) (by simp[results,Tryz.results31,go_sem,g0,g1,g2]) rfl ⟨rfl,HF2.out.be⟩
theorem Ykl (w:World):Calls Tryz.prog 32 #[vzV] w (Zan (iV 0) w):=Ylx none 0 0 1 rfl Ykv
theorem Ylc (w:World):Calls Tryz.prog 29 #[.pointer none] w (Zan (iV 0) w):=by
 go_enter Tryz.func29,Tryz.ntmps29
 go_wp2_with fail
 go_ret
 exact⟨rfl,Below.refl _ _⟩
theorem Yk4 (w:World):Calls Tryz.prog 22 #[.pointer none] w (Zan (iV 0) w):=by
 go_enter Tryz.func22,Tryz.ntmps22
 go_wp2_with fail
 refine(Yks _).mono ?_
 rintro e w1 ⟨rfl,hb⟩
 have HB:=hid hb
 clear hb
 go_wp2_with fail
 refine(Ykl _).mono ?_
 rintro e w2 ⟨rfl,hb⟩
 have HB2:=hid (HB.out.trans (hb.mono HB.out.size))
 clear hb
 go_wp2_with fail
 go_ret
 exact⟨rfl,HB2.out⟩
theorem Ylo (k:Int) (w:World):Calls Tryz.prog 30 #[.pointer none,iV k] w (Zan (.tuple #[]) w):=by
 go_enter Tryz.func30,Tryz.ntmps30
 go_wp2_with fail
 go_end0
 exact⟨rfl,Below.refl _ _⟩
theorem Ylp (a:Int) (w:World):Calls Tryz.prog 28 #[.pointer none,iV a] w (Zan (iV 1) w):=by
 go_enter Tryz.func28,Tryz.ntmps28
 go_wp2_with fail
 go_ret
 exact⟨rfl,Below.refl _ _⟩
theorem Yln (k u:Int) (w:World):Calls Tryz.prog 27 #[.pointer none,iV k,.int .u64 u] w (Zan (.tuple #[cV 0 0 0 0,iV 1]) w):=by
 have HF:=hid ((Fb.start w).new zCk 71)
 go_enter Tryz.func27,Tryz.ntmps27
 go_upto_region 1 with fail
 change Code.wp _ _ _ _ (w.alloc (.cells zCk 71))
 obtain⟨x,hx⟩:=eX (w.alloc (.cells zCk 71))
 obtain⟨R,hR⟩:=eX w.heap.size
 rw[hx,hR]at HF
 rw[hx,hR]
 clear hx hR
 have HF2:=hid (HF.out.Zd9 [iV 0,iV 0,.int .u64 0,iV 0] rfl)
 have r0:=HF.out.cell0 0 rfl;have r1:=HF.out.cell0 1 rfl;have r2:=HF.out.cell0 2 rfl;have r3:=HF.out.cell0 3 rfl
 have f0:=HF.out.Za5 0;have f1:=HF.out.Za5 1;have f2:=HF.out.Za5 2;have f3:=HF.out.Za5 3
 go_wp2_with fail
 change bodyPost _ _ _ _ _ (Bt.stR x R [iV 0,iV 0,.int .u64 0,iV 0] 0)
 obtain⟨z,hzz⟩:=eX (Bt.stR x R [iV 0,iV 0,.int .u64 0,iV 0] 0)
 rw[hzz]at HF2⊢
 have g0:=HF2.out.cell0 0 rfl;have g1:=HF2.out.cell0 1 rfl;have g2:=HF2.out.cell0 2 rfl;have g3:=HF2.out.cell0 3 rfl
 exact bodyPost_ret (v:=.tuple #[cV 0 0 0 0,iV 1]) (by simp[results,Tryz.results27,go_sem,cV,g0,g1,g2,g3]) rfl ⟨rfl,HF2.out.be⟩
theorem Ylm (w:World):Calls Tryz.prog 24 #[.pointer none] w (Zan (iV 0) w):=by
 have HPO:=hid fun X (k:Nat) (hk:k<5)=>Ymh (w:=X) none 0 0 k hk 1 rfl Ykv
 go_enter Tryz.func24,Tryz.ntmps24
 go_wp2_with fail
 refine(Yks _).mono ?_
 rintro e w1 ⟨rfl,hb⟩
 have HF:=hid (((Fb.start w).below hb).new #[.pointer none,iV ((0:Nat):Int),iV ((0:Nat):Int)] 76)
 clear hb
 go_upto_region 2 with fail
 change Code.wp _ _ _ _ (w1.alloc (.cells #[.pointer none,iV ((0:Nat):Int),iV ((0:Nat):Int)] 76))
 obtain⟨x,hx⟩:=eX (w1.alloc (.cells #[.pointer none,iV ((0:Nat):Int),iV ((0:Nat):Int)] 76))
 obtain⟨R,hR⟩:=eX w1.heap.size
 rw[hx,hR]at HF
 rw[hx,hR]
 clear hx hR
 have r0:=HF.out.cell0 0 rfl;have r1:=HF.out.cell0 1 rfl;have r2:=HF.out.cell0 2 rfl
 go_wp2_with fail
 refine(Ykl _).mono ?_
 rintro e w2 ⟨rfl,hb⟩
 have HS:=hid (HF.out.below hb)
 clear hb r0 r1 r2 HF
 go_wp2_with fail
 go_loopw[12] (fun s12 wr=>∃j:Nat,j<=5/\s12=iV j/\Fb w [⟨R,#[.pointer none,iV ((0:Nat):Int),iV ((0:Nat):Int)],76⟩] wr) (fun s12 _=>5-(intOf s12).toNat)
 case atStart=>exact⟨0,by omega,rfl,HS.out⟩
 case round=>
  clear HS
  obtain⟨j,hj,rfl,hf⟩:=hrel
  have HF:=hid hf
  by_cases hj5:j<5
  · have hjc:(j:Int)<5:=by omega
    have r0:=hf.cell0 0 rfl;have r1:=hf.cell0 1 rfl;have r2:=hf.cell0 2 rfl
    have HPJ:=hid fun X=>HPO.out X j hj5
    clear hf
    go_wp2_with fail
    refine(HPJ.out _).mono ?_
    rintro e w4 ⟨rfl,hb⟩
    have HF4:=hid ((HF.out.below hb).below (Zaj w4 (.cells zCk 71)))
    clear hb r0 r1 r2 HF
    go_upto_region 12 with fail
    change Code.wp _ _ _ _ (w4.alloc (.cells zCk 71))
    go_wp2_with fail
    go_loopw[7] (fun s7 wr=>s7=.bool false/\Fb w [⟨R,#[.pointer none,iV ((0:Nat):Int),iV ((0:Nat):Int)],76⟩] wr) (fun _ _=>0)
    case atStart=>exact⟨rfl,HF4.out⟩
    case round=>
     clear HF4
     obtain⟨rfl,hf⟩:=hrel
     have HF5:=hid hf
     clear hf
     go_wp2_with fail
     go_roundw
     case rel=>exact⟨j+1,by omega,by go_num,HF5.out⟩
     case measure=>simp[intOf];omega
  · have hjc:¬(j:Int)<5:=by omega
    go_wp2_with fail
    go_ret
    exact⟨rfl,HF.out.be⟩
theorem Ylt {f:Nat->Bool}:∀N,(∀p,p<N->f p=decide (p=1))->cnI f N=if 1<N then 1 else 0
 |0,_=>rfl
 |N+1,hf=>by
  rw[Ykc,Ylt N fun p hp=>hf p (by omega),hf N (by omega)]
  by_cases h:N=1
  · subst h;rfl
  · rw[decide_eq_false h]
    show(if 1<N then 1 else 0)+0=if 1<N+1 then 1 else 0
    split<;>split<;>omega
theorem Yll {n g:Nat} {R:Zag} (hT:Til g R g) (hn:g<=n) (h1:1<=n) (h0:R 0=some (0,true)) (hA:∀i k,R i=some (k,true)->i=0):Ykk (stT R g n (Zbi R g).length) 3=1:=by
 rw[show stT R g n (Zbi R g).length=stA R g n from rfl,Ymu,Ylt (n+1) fun p hp=>?_,if_pos (by omega)]
 have h3:=Yko hT hn (p:=p) (by omega)
 by_cases e:(stA R g n).getD p 0=3
 · obtain⟨i,k,f,a,b⟩:=h3.1 e
   have:=hA i k f
   subst this
   rw[h0]at f
   cases f
   rw[e]
   have:p=1:=by simp at b;omega
   subst this;rfl
 · have:p≠1:=fun c=>e (h3.2 ⟨0,0,h0,by omega,by simp;omega⟩)
   rw[decide_eq_false this,decide_eq_false (by omega)]
end
section
open Go Go.RowKit Go.Shelf
theorem Yl7 {c:Hd} {hs:List Hd} (h:∀x∈hs,c.a≠x.a):wo (c::hs) c.a=hs:=by
 unfold wo
 rw[List.filter_cons_of_neg (by simp),List.filter_eq_self.2]
 intro x hx
 have:=h x hx
 simp only[decide_eq_true_eq,bne_iff_ne,ne_eq,decide_not,Bool.not_eq_true',decide_eq_false_iff_not]
 exact fun e=>this e.symm
section
variable {Q B A n g K:Nat} {R:Zag} {q:Nat->List Nat} {hs:List Hd} {s:ASt} {w y:World}
theorem Yl1 {c:Hd} (hv:RcV Q B A n 4096 s w) (h:PyS n g K R q (c::hs) s) (hc:Zci q 5<=K):
 Calls Tryz.prog 28 #[rcP Q,iV c.a] w fun e w'=>∃R' q' s',e=.returned (iV 0)/\RcV Q B A n 4096 s' w'/\Zam A w w'/\PyS n g K R' q' hs s'/\Zci q' 5<=K:=by
 obtain⟨t1,t2⟩:=h.Yf3 (c:=c) (by simp)
 refine(Yfz hv h c.a t2 t1).mono ?_
 rintro e w' ⟨ans,R',q',hs',s',rfl,h1,h2,h3,hrel⟩
 have hcq:=hrel.cq hc
 obtain⟨i,k,u,ec,f2,f3,f4,f5,f6,f7⟩:=h.ow c (by simp)
 have hnd:=List.pairwise_cons.1 h.nd
 rcases hrel with⟨d,_⟩|⟨_,d,_⟩|⟨_,j,k2,u2,hf,rfl,h5,_,h6⟩
 · obtain⟨p,e,hp⟩:=Zlz.1 d
   rw[ec]at e
   have e2:(adr i:Int)=((4096*p:Nat):Int):=e
   have:p=1+i:=by unfold adr at e2;omega
   subst this
   exact absurd hp f4
 · rcases Zwn (c::hs) c.a with⟨_,e2⟩|⟨e1,e2⟩
   · exact absurd rfl (e2 c (by simp))
   · rcases List.mem_cons.1 e1 with e3|e3
     · rw[e3,ec]at d
       have d2:(u:Int)=0:=d
       omega
     · exact absurd e2.symm (hnd.1 _ e3)
 · rw[Yl7 hnd.1]at h5
   subst h5
   exact⟨R',q',s',rfl,h1,h2,h3,hcq⟩
end
theorem Ymd (cap:Int) (hcap: -9223372036854775808<=cap/\cap<=9223372036854775807) (p0:Option Addr) (c0:Nat) (acts:List Ycg) (hlen:acts.length<=9223372036854775807) (w:World) (h:Zpz w p0 acts):
 Calls Tryz.prog 6 #[iV cap,.slice p0 acts.length c0] w fun e w'=>e=.returned (.bool true)/\Below w.heap.size w w':=by
 have HACT:=hid h
 clear h
 go_enter Tryz.func6,Tryz.ntmps6
 go_wp2_with fail
 refine(Yeq _).mono ?_
 rintro e w0 ⟨rfl,hb⟩
 have HB0:=hid hb
 clear hb
 by_cases h60:(60:Int)<(acts.length:Int)
 · go_wp2_with fail
   go_ret
   exact⟨rfl,HB0.out⟩
 obtain⟨M,hM⟩:=eX ((if 60<cap then 60 else cap):Int)
 obtain⟨N,hN,hN3,hN60⟩:∃N:Nat,(if 3<M then M else 3)=(N:Int)/\3<=N/\N<=60:=⟨(if 3<M then M else 3).toNat,by split<;>omega,by split<;>omega,by split at hM<;>split<;>omega⟩
 have HLO:=hid fun X=>Ygh N hN3 hN60 X
 clear hN3 hN60
 go_upto_region 6 with fail
 refine(HLO.out _).mono ?_
 rintro e w1 ⟨Q,B,A,n,R,s,v,hn,rfl,hl,hrf,hbs⟩
 obtain⟨u,c,P,nn,C,op,on,oc,rfl, -⟩:=hl.dw
 have HP0:=hid (PR.start hl (hbs.Zhz HB0.out) rfl)
 obtain⟨ln,ht⟩:=eX ((tkT R 1).length)
 obtain⟨ri,hri⟩:=eX (rfI s)
 rw[ht,hri]at HP0⊢
 clear ht hri hl hrf hbs hn HLO hN hM
 go_upto_region 6 with fail
 change Code.wp _ _ _ _ (w1.alloc (.cells (rqA (n:Int) ((1:Nat):Int) ri ((16:Nat):Int) (.slice u ln c) P nn C (.slice op on oc)) 33))
 obtain⟨x1,hx1⟩:∃x,w1.alloc (.cells (rqA (n:Int) ((1:Nat):Int) ri ((16:Nat):Int) (.slice u ln c) P nn C (.slice op on oc)) 33)=x:=⟨_,rfl⟩
 obtain⟨D,hD⟩:=eX w1.heap.size
 rw[hx1,hD]at HP0
 rw[hx1,hD]
 clear hx1 hD
 have HST:=hid HP0.out
 clear HP0
 obtain⟨len,hle⟩:=eX acts.length
 have HL:=hid hle
 rw[hle]at hlen h60⊢
 clear hle
 go_wp2_with fail
 go_loopw[33] (fun s33 wr=>∃i g K R q hs s cs,i<=len/\s33=iV ((i:Nat):Int)/\PR D n Q B A g K R q hs s cs w wr/\Zci q 5<=K) (fun s33 _=>len-(intOf s33).toNat)
 case atStart=>exact⟨0,_,_,_,_,_,_,_,Nat.zero_le _,rfl,HST.out,by rw[Zl4];omega⟩
 case round=>
  clear HST
  obtain⟨i,g0,K0,R0,q0,hs0,s0,cs0,hi,rfl,hv,hcq0⟩:=hrel
  have HV:=hid hv
  have HC0:=hid hcq0
  clear hv hcq0
  by_cases hlt:i<len
  · obtain⟨b,off,rfl,hbl,d,k,nn,hc0,hc1,hc2,hkk⟩:∃b off,p0=some (aD b off)/\b<w.heap.size/\∃d k nn,w.cell? (aD b (off+i*3))=some (.int .u8 d)/\w.cell? (aD b (off+i*3+1))=some (iV k)/\w.cell? (aD b (off+i*3+2))=some (iV nn)/\(0<=d/\d<=255)/\(-9223372036854775808<=k/\k<=9223372036854775807)/\(-9223372036854775808<=nn/\nn<=9223372036854775807):=by
     rcases HACT.out with he|⟨b,off,e,hbl,hc⟩
     · have:=HL.out;rw[he]at this;simp at this;omega
     · obtain⟨⟨x0,x1,x2⟩,hok⟩:=hc i (by rw[HL.out];exact hlt)
       exact⟨b,off,e,hbl,_,_,_,x0,x1,x2,⟨hok.d0,hok.d1⟩,⟨hok.k0,hok.k1⟩,⟨hok.n0,hok.n1⟩⟩
    have HKK:=hid hkk
    have HIL:Hid (i+1<=len):=hid hlt
    have kk:∀j,wr.cell? (aD b j)=w.cell? (aD b j):=fun j=>World.cell?_of_block (HV.out.bs.bel.block _ hbl)
    have c0':=(kk _).trans hc0
    have c1':=(kk _).trans hc1
    have c2':=(kk _).trans hc2
    clear kk hc0 hc1 hc2 hkk
    go_upto_region 11 with fail
    change Code.wp _ _ _ _ (wr.alloc (.cells #[.int .u8 d,iV k,iV nn] 44))
    have hpb:=HV.out.below (Zaj wr (.cells #[.int .u8 d,iV k,iV nn] 44))
    have hca:=Zab wr (.cells #[.int .u8 d,iV k,iV nn] 44)
    obtain⟨y1,hy⟩:∃y,wr.alloc (.cells #[.int .u8 d,iV k,iV nn] 44)=y:=⟨_,rfl⟩
    obtain⟨E,hE⟩:=eX wr.heap.size
    rw[hE,hy]at hca
    rw[hy]at hpb
    rw[hE,hy]
    clear hE hy c0' c1' c2' HV
    have HP:=hid hpb
    have HC:=hid hca
    clear hpb hca
    obtain⟨u0,t0,P0,nn0,C0,op0,on0,oc0,he0, -⟩:=HP.out.dw
    have hc0:=Value.agg.inj he0
    subst hc0
    clear he0
    obtain⟨ln0,hl0⟩:∃ln,(tkT R0 g0).length=ln:=⟨_,rfl⟩
    obtain⟨ri0,hr0⟩:∃ri,rfI s0=ri:=⟨_,rfl⟩
    rw[hl0,hr0]at HP
    have HDO:=hid (ldo HP.out.rv HP.out.py HP.out.lt HP.out.dw d k nn HKK.out.1.1 HKK.out.1.2 HKK.out.2.1.1 HKK.out.2.1.2 HKK.out.2.2.1 HKK.out.2.2.2)
    clear hl0 hr0
    obtain⟨q0',q1',q2',q3',q4',q5',q6',q7',q8',q9',q10',q11'⟩:=Zaf HP.out.fr.at0
    have c0:=(Zaa HC.out 0).1;have c1:=(Zaa HC.out 1).1;have c2:=(Zaa HC.out 2).1
    simp only[List.getElem?_toArray,List.getElem?_cons_zero,List.getElem?_cons_succ]at c0 c1 c2
    go_upto_region 12 with fail
    refine HDO.out.mono ?_
    rintro e x2 ⟨g2,K2,R2,q2,hs2,s2,v2,rfl,hv2,hp2,hd2,hg2,hcq2⟩
    obtain⟨u2,t2,P2,nn2,C2,op2,on2,oc2,rfl,hx2⟩:=hd2
    have HCQ:=hid (hcq2 HC0.out)
    have HP2:=hid (HP.out.act hv2 hp2 ⟨u2,t2,P2,nn2,C2,op2,on2,oc2,rfl,hx2⟩ hg2)
    obtain⟨ln2,hl2⟩:∃ln,(tkT R2 g2).length=ln:=⟨_,rfl⟩
    obtain⟨ri2,hr2⟩:∃ri,rfI s2=ri:=⟨_,rfl⟩
    rw[hl2,hr2]at HP2⊢
    clear hl2 hr2 hv2 hp2 hx2 hg2 hcq2 HP HDO HC q0' q1' q2' q3' q4' q5' q6' q7' q8' q9' q10' q11' c0 c1 c2
    obtain⟨o0,o1,o2,o3,o4,o5,o6,o7,o8,o9,o10,o11⟩:=Zaf HP2.out.fr.at0
    obtain⟨z0,z1,z2,z3,z4,z5,z6,z7,z8,z9,z10,z11⟩:=Zap HP2.out.fr.at0
    have HP5:=hid (HP2.out.store (vs:=(rqL (n:Int) (g2:Int) ri2 (K2:Int) (.slice u2 ln2 t2) P2 nn2 C2 (.slice op2 on2 oc2))) rfl o2)
    clear HP2
    go_upto_region 12 with fail
    change Code.wp _ _ _ _ (stR x2 D (rqL (n:Int) (g2:Int) ri2 (K2:Int) (.slice u2 ln2 t2) P2 nn2 C2 (.slice op2 on2 oc2)) 0)
    obtain⟨x5,hx5⟩:=eX (stR x2 D (rqL (n:Int) (g2:Int) ri2 (K2:Int) (.slice u2 ln2 t2) P2 nn2 C2 (.slice op2 on2 oc2)) 0)
    rw[hx5]at HP5⊢
    clear hx5 o0 o1 o2 o3 o4 o5 o6 o7 o8 o9 o10 o11 z0 z1 z2 z3 z4 z5 z6 z7 z8 z9 z10 z11
    go_wp2_with fail
    go_roundw
    case rel=>exact⟨i+1,_,_,_,_,_,_,_,HIL.out,by go_num,HP5.out,HCQ.out⟩
    case measure=>have:=HIL.out;simp[intOf];omega
  · have hnl:¬(i:Int)<(len:Int):=by omega
    obtain⟨u2,t2,P2,nn2,C2,op2,on2,oc2,he,hi2, -⟩:=HV.out.dw
    have hcs:=Value.agg.inj he
    subst hcs
    clear he
    have HHO:=hid hi2.ho;have HHN:=hid hi2.hn
    have hon:on2<=1000:=by rw[hi2.hn];exact hi2.hl
    have HON:=hid hon
    have HRV:=hid HV.out.rv;have HPY:=hid HV.out.py;have HBS:=hid HV.out.bs
    obtain⟨o0,o1,o2,o3,o4,o5,o6,o7,o8,o9,o10,o11⟩:=Zaf HV.out.fr.at0
    clear hi2 HV o0 o1 o2 o3 o4 o5 o6 o7 o8 o9 o10
    go_wp2_with fail
    go_loopw[48] (fun s48 wr=>∃(j:Nat) (R:Zag) (q:Nat->List Nat) (s:ASt),j<=on2/\s48=iV j/\RcV Q B A n 4096 s wr/\PyS n g0 K0 R q (hs0.drop j) s/\Zci q 5<=K0/\Zof wr (.slice op2 on2 oc2) hs0/\Ze0 A w wr) (fun s48 _=>on2-(intOf s48).toNat)
    case atStart=>exact⟨0,_,_,_,Nat.zero_le _,rfl,HRV.out,HPY.out,HC0.out,HHO.out,HBS.out⟩
    case round=>
     clear HRV HPY HHO HBS HC0 o11
     obtain⟨j,R1,q1,s1,hj,rfl,hrv,hpy,hcq,hho,hbs⟩:=hrel
     by_cases hjl:j<on2
     · have hjc:(j:Int)<(on2:Int):=by omega
       have HJL:=hid hjl
       have hhj:j<hs0.length:=by rw[<-HHN.out];exact hjl
       rcases hho with⟨_,e⟩|⟨b,cap2,cs,fr,e,hb0,hc⟩
       · rw[e]at hhj;exact absurd hhj (Nat.not_lt_zero _)
       · have e2:=e
         simp only[Value.slice.injEq]at e
         obtain⟨rfl, -, -⟩:=e
         have hho:Zof wr (.slice (some (aD b 0)) on2 oc2) hs0:=.inr ⟨b,cap2,cs,fr,e2,hb0,hc⟩
         obtain⟨r0,r1,r2,r3⟩:=hc j hhj
         have hdr:hs0.drop j=hs0.getD j hdZ::hs0.drop (j+1):=by rw[List.getD_eq_getElem?_getD,List.getElem?_eq_getElem hhj];exact(List.drop_eq_getElem_cons hhj)
         rw[hdr]at hpy
         have HGV:=hid fun X (hX:RcV Q B A n 4096 s1 X)=>Yl1 hX hpy hcq
         generalize hs0.getD j hdZ=cc at r0 r1 r2 r3 HGV
         obtain⟨a,o,ow,nx⟩:=cc
         simp only at r0 r1 r2 r3 HGV
         have HRV:=hid (hrv.below (Zaj wr (.cells (cC a o ow nx) 65)))
         have HHO:=hid (hho.below (Zaj wr (.cells (cC a o ow nx) 65)))
         have HBS:=hid (hbs.below hrv.1.1 (Zaj wr (.cells (cC a o ow nx) 65)))
         have hch:=Zab wr (.cells (cC a o ow nx) 65)
         clear hc hb0 hho hdr hpy hrv hbs hcq e2
         go_upto_region 16 with fail
         change Code.wp _ _ _ _ (wr.alloc (.cells (cC a o ow nx) 65))
         obtain⟨x2,hx2⟩:∃x,wr.alloc (.cells (cC a o ow nx) 65)=x:=⟨_,rfl⟩
         obtain⟨E,hE⟩:=eX wr.heap.size
         rw[hx2]at HRV HHO HBS hch⊢
         rw[hE]at hch⊢
         clear hx2 hE r0 r1 r2 r3
         obtain⟨e0,e1,e2,e3⟩:=Zal hch
         clear hch
         go_wp2_with fail
         refine(HGV.out _ HRV.out).mono ?_
         rintro e x3 ⟨R3,q3,s3,rfl,hv3,hg3,hp3,hc3⟩
         have HHO3:=hid (HHO.out.Zaq HRV.out.1.1 hg3)
         have HBS3:=hid (HBS.out.Zaq hg3)
         have HRV3:=hid hv3;have HPY3:=hid hp3;have HC3:=hid hc3
         clear hv3 hg3 hp3 hc3 HGV HRV HHO HBS e0 e1 e2 e3
         go_wp2_with fail
         refine(Zo0 HRV3.out HPY3.out.rc).mono ?_
         rintro e x4 ⟨rfl,hb4⟩
         have HRV4:=hid (HRV3.out.below hb4)
         go_wp2_with fail
         refine(Ybm HRV4.out HPY3.out.rc).mono ?_
         rintro e x5 ⟨rfl,hb5⟩
         have HRV5:=hid (HRV4.out.below hb5)
         have hb6:=hb4.trans (hb5.mono hb4.size)
         have HHO5:=hid (HHO3.out.below hb6)
         have HBS5:=hid (HBS3.out.below HRV3.out.1.1 hb6)
         have hle:¬((K0:Int)<((Zci q3 5:Nat):Int)):=by have:=HC3.out;omega
         clear hb4 hb5 hb6
         have hon3:=HON.out
         go_wp2_with fail
         go_roundw
         case rel=>exact⟨j+1,_,_,_,HJL.out,by go_num,HRV5.out,HPY3.out,HC3.out,HHO5.out,HBS5.out⟩
         case measure=>have:=HJL.out;simp[intOf];omega
     · have hjc:¬(j:Int)<(on2:Int):=by omega
       have hdr:hs0.drop j=[]:=List.drop_eq_nil_iff.2 (by have:=HHN.out;omega)
       rw[hdr]at hpy
       have HRV:=hid hrv;have HPY:=hid hpy;have HBS:=hid hbs
       clear hho hrv hpy hbs hcq hdr
       have HTR:=hid fun X (hX:RcV Q B A n 4096 s1 X)=>Yie hX HPY.out
       go_wp2_with fail
       refine(Zo0 HRV.out HPY.out.rc).mono ?_
       rintro e x3 ⟨rfl,hb⟩
       have HRV3:=hid (HRV.out.below hb)
       have HBS3:=hid (HBS.out.below HRV.out.1.1 hb)
       clear hb HRV HBS
       obtain⟨cn,hcn⟩:=eX (((Zci q1 5:Nat):Int):Int)
       rw[hcn]at HTR⊢
       clear hcn
       go_wp2_with fail
       refine(HTR.out _ HRV3.out).mono ?_
       rintro e x4 ⟨R4,s4,rfl,hv4,hg4,hp4, -, -⟩
       have HRV4:=hid hv4
       have HBS4:=hid (HBS3.out.Zaq hg4)
       have HPY4:=hid hp4
       have HC4:=hid fun X (hX:RcV Q B A n 4096 s4 X)=>Zo0 hX hp4.rc
       rw[Zl4]at HC4
       have ht0:=hp4.rc.bu.ti.lt hp4.v0
       have hgn:=hp4.rc.bu.gG
       have ht1:=Yll hp4.rc.bu.ti (n:=n) (by omega) (by omega) hp4.v0 fun i k e=>by
        by_cases hi:i=0
        · exact hi
        · rcases hp4.al i k e hi with⟨j,_,hm⟩|⟨c,hm,_⟩
          · cases hm
          · cases hm
       have HCT:=hid fun X (hX:RcV Q B A n 4096 s4 X)=>Ylv hX.1 hp4.rc.bu 3 (by omega)
       rw[ht1]at HCT
       clear hv4 hg4 hp4 HRV3 HBS3 HTR ht0 ht1 hgn
       go_wp2_with fail
       refine(HC4.out _ HRV4.out).mono ?_
       rintro e x5 ⟨rfl,hb⟩
       have HRV5:=hid (HRV4.out.below hb)
       have HBS5:=hid (HBS4.out.below HRV4.out.1.1 hb)
       clear hb HRV4 HBS4 HC4
       obtain⟨⟨k0,k1,k2,k3,k4⟩, -⟩:=HRV5.out.all
       go_wp2_with fail
       refine(HCT.out _ HRV5.out).mono ?_
       rintro e x6 ⟨rfl,hb⟩
       have HB6:=hid (HBS5.out.below HRV5.out.1.1 hb).bel
       clear hb HRV5 HBS5 HCT k0 k1 k2 k3 k4
       go_wp2_with fail
       refine(Ylo 3 _).mono ?_
       rintro e x7 ⟨rfl,hb⟩
       have HB7:=hid (HB6.out.trans (hb.mono HB6.out.size))
       clear hb HB6
       go_wp2_with fail
       refine(Yln 0 1 _).mono ?_
       rintro e x8 ⟨rfl,hb⟩
       have HB8:=hid (HB7.out.trans (hb.mono HB7.out.size))
       clear hb HB7
       unfold cV
       have HB9:=hid (HB8.out.trans ((Zaj x8 (.cells zCk 71)).mono HB8.out.size))
       go_upto_region 25 with fail
       change Code.wp _ _ _ _ (x8.alloc (.cells zCk 71))
       obtain⟨x9,hx9⟩:∃x,x8.alloc (.cells zCk 71)=x:=⟨_,rfl⟩
       rw[hx9]at HB9⊢
       clear hx9 HB8
       go_wp2_with fail
       refine(Ylp 0 _).mono ?_
       rintro e xa ⟨rfl,hb⟩
       have HBa:=hid (HB9.out.trans (hb.mono HB9.out.size))
       clear hb HB9
       go_wp2_with fail
       refine(Ylm _).mono ?_
       rintro e xb ⟨rfl,hb⟩
       have HBb:=hid (HBa.out.trans (hb.mono HBa.out.size))
       clear hb HBa
       go_wp2_with fail
       refine(Ylc _).mono ?_
       rintro e xc ⟨rfl,hb⟩
       have HBc:=hid (HBb.out.trans (hb.mono HBb.out.size))
       clear hb HBb
       go_wp2_with fail
       refine(Yk4 _).mono ?_
       rintro e xd ⟨rfl,hb⟩
       have HBd:=hid (HBc.out.trans (hb.mono HBc.out.size))
       clear hb HBc
       go_wp2_with fail
       refine(Yks _).mono ?_
       rintro e xe ⟨rfl,hb⟩
       have HBe:=hid (HBd.out.trans (hb.mono HBd.out.size))
       clear hb HBd
       go_wp2_with fail
       refine(Ykl _).mono ?_
       rintro e xf ⟨rfl,hb⟩
       have HBf:=hid (HBe.out.trans (hb.mono HBe.out.size))
       clear hb HBe
       go_wp2_with fail
       go_ret
       exact⟨rfl,HBf.out⟩
end
end Go.Proofs.YtgcidfenjlmljaaGreat.Bt
