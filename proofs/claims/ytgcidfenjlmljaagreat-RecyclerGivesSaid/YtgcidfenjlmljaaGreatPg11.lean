import Derived.Test.YtgcidfenjlmljaaGreatPg09
import Derived.Test.YtgcidfenjlmljaaGreatPg10
import Derived.Deep.DeepCutAuto
import Derived.Test.YtgcidfenjlmljaaGreatPgR
set_option linter.unusedVariables false
set_option linter.unusedSimpArgs false
set_option maxRecDepth 100000
set_option maxHeartbeats 16000000
namespace Go.Proofs.YtgcidfenjlmljaaGreat.Bt
section
open Go Go.RowKit Go.Shelf

end
section
open Go Go.RowKit Go.Shelf
theorem Zbm (w:World) (o o':Obj):Below w.heap.size w ((w.alloc o).alloc o'):=((Below.refl _ _).alloc (Nat.le_refl _) _).alloc (by simp) _
theorem Zdf {x:World} {B:Nat} {c:Array Value} {T:TypeId} (h:x.heap[B]?=some (.cells c T (0,0))) (hc:c.size=2) (u v:Value):
 ((x.setCell (aD B 0) u).setCell (aD B 1) v).heap[B]?=some (.cells #[u,v] T (0,0)):=by
 rw[heap_set (heap_set h u) v]
 match c,hc with
 |⟨[_,_]⟩,_=>rfl
theorem Zfy (w:World) (o o':Obj):((w.alloc o).alloc o').heap[w.heap.size+1]?=some o':=by
 have h:=Zab (w.alloc o) o'
 rwa [show(w.alloc o).heap.size=w.heap.size+1 from by simp]at h
theorem Zd0 {w w1:World} {B:Nat} {u v:Value} {T:TypeId} (hb:Below w.heap.size w w1) (h:w.heap[B]?=some (.cells #[u,v] T (0,0))):
 w1.heap[B]?=some (.cells #[u,v] T (0,0)):=(hb.block B (Array.getElem?_eq_some_iff.1 h).1).trans h
theorem Zaj (w:World) (o:Obj):Below w.heap.size w (w.alloc o):=(Below.refl _ _).alloc (Nat.le_refl _) _
theorem Zbk (x:World) (a b:Array Value) (T U:TypeId):((x.alloc (.cells a T)).alloc (.cells b U)).heap[x.heap.size]?=some (.cells a T (0,0))/\((x.alloc (.cells a T)).alloc (.cells b U)).heap[x.heap.size+1]?=some (.cells b U (0,0)):=
 ⟨(Below.heap_alloc _ _ _ (by simp)).trans (Zab _ _),Zfy _ _ _⟩
theorem Zbn {L:Nat} {es:List Nat} (g:Good L es) {a n b k:Int} (h:Zac L es a n=0) (h1:a<=b) (h2:0<=k) (h3:b+k<=a+n):Zac L es b k=0:=by
 have hb:Zbd L es a n=true:=by unfold Zac at h;cases hq:Zbd L es a n with
  |true=>rfl
  |false=>rw[hq]at h;cases h
 obtain⟨t0,t1,t2,t3⟩:=(Zax g a n).1 hb
 have:Zbd L es b k=true:=(Zax g b k).2 ⟨by omega,h2,by omega,fun i i1 i2=>t3 i (by omega) (by omega)⟩
 unfold Zac;rw[this];rfl
theorem Zbu {x:World} {B R:Nat} (hne:B≠R) (u v:Value):((x.setCell (aD R 0) u).setCell (aD R 1) v).heap[B]?=x.heap[B]?:=
 (Below.heap_setCell _ (aD R 1) _ _ hne).trans (Below.heap_setCell _ (aD R 0) _ _ hne)
theorem Yh9 {A R:Nat} {s:ASt} {w0 x:World} (h:On A s x) (hb:Ze0 A w0 x) (hm:Zbb A R x) (hR:w0.heap.size<=R) (u v z:Value):
 On A s (((x.setCell (aD R 0) u).setCell (aD R 1) v).setCell (aD R 2) z)/\Ze0 A w0 (((x.setCell (aD R 0) u).setCell (aD R 1) v).setCell (aD R 2) z):=by
 have h1:=h.set hm 0 u;have b1:=hb.set h hm hR 0 u;have m1:=Zbb.set h hm hm 0 u;have h2:=h1.set m1 1 v;have b2:=b1.set h1 m1 hR 1 v;have m2:=Zbb.set h1 m1 m1 1 v
 exact⟨h2.set m2 2 z,b2.set h2 m2 hR 2 z⟩
theorem Zx3 (w:World):Calls Tryz.prog 232 #[] w fun e w'=>e=.returned (.bool true)/\Below w.heap.size w w':=by
 go_enter Tryz.func232,Tryz.ntmps232;go_wp2_with fail
 refine(Zn9 _).mono ?_
 rintro e w1 ⟨rfl,hb⟩;go_wp2_with fail
 go_ret
 exact⟨rfl,hb⟩
end
section
open Go Go.RowKit Go.Shelf
def Ztv (s:Int):Bool:=decide (s=2\/s=3)
theorem Ze2 (s:Int) (w:World):Calls Tryz.prog 187 #[.int .u8 s] w fun e w'=>e=.returned (.bool (Ztv s))/\w=w':=by
 by_cases h2:s=2
 · subst h2
   go_enter Tryz.func187,Tryz.ntmps187;go_wp2_with fail
   go_ret
   exact⟨rfl,rfl⟩
 · have d2:(s==2)=false:=by simpa using h2
   by_cases h3:s=3
   · subst h3
     clear h2 d2;go_enter Tryz.func187,Tryz.ntmps187;go_wp2_with fail
     go_ret
     exact⟨rfl,rfl⟩
   · have d3:(s==3)=false:=by simpa using h3
     have HB:Hid (Ztv s=false):=hid (by unfold Ztv;simp[h2,h3]);clear h2 h3;go_enter Tryz.func187,Tryz.ntmps187;go_wp2_with fail
     go_ret
     exact⟨by rw[HB.out];rfl,rfl⟩
def Zul (c:Int):Bool:=decide (c/4<=10)&&(decide (c/4=0)||Ztv (c%4))
def Zff (c:Int):Int:=if Zul c then c%4 else 0
def Zgd (c:Int):Int:=if Zul c then c/4 else 0
abbrev Zhd (s o:Int):Value:=.agg #[.int .u8 s,.int .u8 o]
theorem Zuj (c:Int) (h0:0<=c):0<=Zff c/\Zff c<=3:=by unfold Zff;split<;>omega
theorem Zuk (c:Int) (h0:0<=c):0<=Zgd c/\Zgd c<=10:=by
 unfold Zgd;split
 · rename_i h;unfold Zul at h;simp at h;omega
 · omega
theorem Zui (c:Int) (h0:0<=c) (h1:c<=255) (w:World):
 Calls Tryz.prog 215 #[.int .u8 c] w (Zan (Zhd (Zff c) (Zgd c)) w):=by
 by_cases h10:c/4<=10
 · by_cases hz:c/4<=0
   · have HR:Hid (Zhd (Zff c) (Zgd c)=Zhd (c%4) (c/4)):=hid (by
      have hb:Zul c=true:=by unfold Zul;simp;omega
      unfold Zff Zgd;rw[if_pos hb,if_pos hb])
     go_enter Tryz.func215,Tryz.ntmps215;go_wp2_with fail;exact bodyPost_ret (v:=Zhd (c%4) (c/4)) (by simp[results,Tryz.results215,go_sem]) rfl ⟨by rw[HR.out],Zbm _ _ _⟩
   · cases hb:Ztv (c%4)with
     |true=>
      have HR:Hid (Zhd (Zff c) (Zgd c)=Zhd (c%4) (c/4)):=hid (by
       have hb:Zul c=true:=by unfold Zul;rw[hb];simp;omega
       unfold Zff Zgd;rw[if_pos hb,if_pos hb])
      have HB:=hid hb;clear hb
      go_enter Tryz.func215,Tryz.ntmps215
      go_wp2_with (go_at_call 187;refine(Ze2 _ _).mono ?_;rintro e w' ⟨rfl,rfl⟩;rw[HB.out])
      exact bodyPost_ret (v:=Zhd (c%4) (c/4)) (by simp[results,Tryz.results215,go_sem]) rfl ⟨by rw[HR.out],Zbm _ _ _⟩
     |false=>
      have HR:Hid (Zhd (Zff c) (Zgd c)=Zhd 0 0):=hid (by
       have hb:Zul c=false:=by unfold Zul;rw[hb];simp;omega
       unfold Zff Zgd;rw[hb];rfl)
      have HB:=hid hb;clear hb
      go_enter Tryz.func215,Tryz.ntmps215
      go_wp2_with (go_at_call 187;refine(Ze2 _ _).mono ?_;rintro e w' ⟨rfl,rfl⟩;rw[HB.out])
      exact bodyPost_ret (v:=Zhd 0 0) (by simp[results,Tryz.results215,go_sem]) rfl ⟨by rw[HR.out],Zbm _ _ _⟩
 · have HR:Hid (Zhd (Zff c) (Zgd c)=Zhd 0 0):=hid (by
    have hb:Zul c=false:=by unfold Zul;simp;omega
    unfold Zff Zgd;rw[hb];rfl)
   go_enter Tryz.func215,Tryz.ntmps215;go_wp2_with fail;exact bodyPost_ret (v:=Zhd 0 0) (by simp[results,Tryz.results215,go_sem]) rfl ⟨by rw[HR.out],Zbm _ _ _⟩
def Zcu (s o:Int):Int:=4*o+s
theorem Zxk (s o:Int) (hs:0<=s) (hs2:s<=3) (ho:0<=o) (ho2:o<=10):bits BinOp.or IntKind.u8 (o*4) s=Zcu s o:=by
 have h1:s=0\/s=1\/s=2\/s=3:=by omega
 have h2:o=0\/o=1\/o=2\/o=3\/o=4\/o=5\/o=6\/o=7\/o=8\/o=9\/o=10:=by omega
 rcases h1 with rfl|rfl|rfl|rfl<;>rcases h2 with rfl|rfl|rfl|rfl|rfl|rfl|rfl|rfl|rfl|rfl|rfl<;>decide
theorem Zgq (s o:Int) (hs:0<=s) (hs2:s<=3) (ho:0<=o) (ho2:o<=10) (w:World):
 Calls Tryz.prog 188 #[Zhd s o] w (Zan (.int .u8 (Zcu s o)) w):=by
 have HC:=hid (Zxk s o hs hs2 ho ho2);go_enter Tryz.func188,Tryz.ntmps188;go_wp2_with fail
 go_ret
 refine⟨?_,(Below.refl _ _).alloc (Nat.le_refl _) _⟩
 rw[<-HC.out];rfl
abbrev tbP (pa:Option Addr) (va vs:Nat):Value:=.agg #[.pointer pa,iV va,iV vs]
theorem Zmr (pa:Option Addr) (va vs:Nat) (w:World):Calls Tryz.prog 132 #[.agg #[.pointer pa,iV va,iV vs]] w (Zan (tbP pa va vs) w):=by
 go_enter Tryz.func132,Tryz.ntmps132;go_wp2_with fail;exact bodyPost_ret (v:=tbP pa va vs) (by simp[results,Tryz.results132,go_sem]) rfl ⟨rfl,Zbm _ _ _⟩
theorem Zym (pa:Option Addr) (va vs:Nat) (w:World):Calls Tryz.prog 61 #[tbP pa va vs] w (Zan (iV vs) w):=by
 go_enter Tryz.func61,Tryz.ntmps61;go_wp2_with fail
 refine(Zgo pa va vs _).mono ?_
 rintro e w1 ⟨rfl,hb⟩;go_wp2_with fail
 go_ret
 exact⟨rfl,((Below.refl w.heap.size w).alloc (Nat.le_refl _) _).trans (hb.mono (by simp))⟩
theorem Zyr (pa:Option Addr) (va vs:Nat) (i:Int) (w:World) (c er:Int) (h0:0<=c) (h1:c<=255)
 (HC:∀X,Below w.heap.size w X->Calls Tryz.prog 63 #[.agg #[.pointer pa,iV va,iV vs],iV i,iV 1] X (Zan (.tuple #[.int .u64 c,iV er]) X)):
 Calls Tryz.prog 199 #[tbP pa va vs,iV i] w (Zan (.tuple #[Zhd (Zff c) (Zgd c),iV er]) w):=by
 have HC':=hid HC;clear HC
 have HB:=hid (Zbm w (.cells #[.pointer pa,iV va,iV vs] 51) (.cells #[.int .u8 0,.int .u8 0] 232));have HR:=hid (Zfy w (.cells #[.pointer pa,iV va,iV vs] 51) (.cells #[.int .u8 0,.int .u8 0] 232));go_enter Tryz.func199,Tryz.ntmps199;go_wp2_with fail
 refine(HC'.out _ HB.out).mono ?_
 rintro e w1 ⟨rfl,hb⟩;have HR1:=hid (Zd0 hb HR.out);have HB1:=hid (HB.out.trans (hb.mono HB.out.size));clear hb HR HB HC';go_wp2_with fail
 refine(Zui c h0 h1 _).mono ?_
 rintro e w2 ⟨rfl,hb⟩;have hr:=Zd0 hb HR1.out;have HB2:=hid (HB1.out.trans (hb.mono HB1.out.size));have r0:=(Zaa hr 0).1;have r1:=(Zaa hr 1).1
 have f0:=(Zaa hr 0).2;have f1:=(Zaa hr 1).2
 have HR2:=hid hr;clear hb HR1 HB1 hr;go_wp2_with fail;have h3:=Zdf HR2.out rfl (.int .u8 (Zff c)) (.int .u8 (Zgd c));have g0:=(Zaa h3 0).1;have g1:=(Zaa h3 1).1
 exact bodyPost_ret (v:=.tuple #[Zhd (Zff c) (Zgd c),iV er]) (by simp[results,Tryz.results199,go_sem,g0,g1]) rfl ⟨rfl,(HB2.out.setCell (p:=⟨w.heap.size+1,0,none⟩) (Nat.le_succ _) _).setCell (p:=⟨w.heap.size+1,1,none⟩) (Nat.le_succ _) _⟩
end
section
open Go Go.RowKit Go.Shelf
def gE (s:ASt) (va vs:Nat) (i:Int):Int:=Zb9 s.L s.es (Zai va vs i 1) 1
def gC (s:ASt) (va vs:Nat) (i:Int):Int:=ldV s (Zai va vs i 1) 1
theorem Ydy (s:ASt) (va vs:Nat) (i:Int):0<=gC s va vs i/\gC s va vs i<=255:=by
 unfold gC ldV
 split
 · have:=Zll s.mm (Zai va vs i 1).toNat 1
   have e:(1:Int).toNat=1:=rfl;rw[e];omega
 · omega
def VT (B:Nat) (pa:Option Addr) (va vs:Nat) (x:World):Prop:=x.heap[B]?=some (.cells #[.pointer pa,iV va,iV vs] 51 (0,0))
theorem VT.below {B:Nat} {pa:Option Addr} {va vs:Nat} {x y:World} (h:VT B pa va vs x) (hb:Below x.heap.size x y):VT B pa va vs y:=(hb.block _ (Array.getElem?_eq_some_iff.1 h).1).trans h
theorem VT.far {B R:Nat} {pa:Option Addr} {va vs:Nat} {x:World} (hne:B≠R) (h:VT B pa va vs x) (u v z:Value):VT B pa va vs (((x.setCell (aD R 0) u).setCell (aD R 1) v).setCell (aD R 2) z):=
 (Below.heap_setCell _ (aD R 2) _ _ hne).trans ((Below.heap_setCell _ (aD R 1) _ _ hne).trans ((Below.heap_setCell _ (aD R 0) _ _ hne).trans h))
theorem VT.all {B:Nat} {pa:Option Addr} {va vs:Nat} {x:World} (h:VT B pa va vs x):x.cell? (aD B 0)=some (.pointer pa)/\x.cell? (aD B 1)=some (iV va)/\x.cell? (aD B 2)=some (iV vs)/\VT B pa va vs x:=
 ⟨(Zaa h 0).1,(Zaa h 1).1,(Zaa h 2).1,h⟩
section
variable {A:Nat} {s:ASt} {w:World}
theorem Zor (h:On A s w) (va vs:Nat) (h1:va<=4294967296) (h2:vs<=4294967296) (i:Int) (hi:i<=9223372036854775807):
 Calls Tryz.prog 199 #[tbP (some (aD A 0)) va vs,iV i] w (Zan (.tuple #[Zhd (Zff (gC s va vs i)) (Zgd (gC s va vs i)),iV (gE s va vs i)]) w):=
 Zyr _ va vs i w _ _ (Ydy s va vs i).1 (Ydy s va vs i).2 fun X hX=>Zfw (h.below hX) va vs h1 h2 i 1 hi
theorem Zli (on:Nat) (h:(on:Int)<=10):IntKind.i64.wrap ((2:Int)^on)=((2^on:Nat):Int)/\1<=2^on/\2^on<=1024:=by
 have h2:on=0\/on=1\/on=2\/on=3\/on=4\/on=5\/on=6\/on=7\/on=8\/on=9\/on=10:=by omega
 rcases h2 with rfl|rfl|rfl|rfl|rfl|rfl|rfl|rfl|rfl|rfl|rfl<;>decide
def Yez (va vs:Nat) (i:Int) (on:Nat):Int:=Zai va vs i (2^on:Nat)
def Ygl (s:ASt) (va vs:Nat) (i:Int) (on:Nat):Int:=Zac s.L s.es (Yez va vs i on) (2^on:Nat)
end
end
section
open Go Go.RowKit Go.Shelf
def LL (R T1 T2 A an N:Nat) (a b c d:Int) (x:World):Prop:=VC R (some (aD A 0)) an N x/\x.heap[T1]?=some (.cells #[.int .u8 a,.int .u8 b] 232 (0,0))/\x.heap[T2]?=some (.cells #[.int .u8 c,.int .u8 d] 232 (0,0))
theorem LL.below {R T1 T2 A an N:Nat} {a b c d:Int} {x y:World} (h:LL R T1 T2 A an N a b c d x) (hb:Below x.heap.size x y):LL R T1 T2 A an N a b c d y:=⟨h.1.below hb,Zd0 hb h.2.1,Zd0 hb h.2.2⟩
theorem LL.Zaq {R T1 T2 A an N:Nat} {a b c d:Int} {x y:World} {s:ASt} (h:LL R T1 T2 A an N a b c d x) (ho:On A s x) (hg:Zam A x y):LL R T1 T2 A an N a b c d y:=
 ⟨hg.Zdn ho h.1 (by decide) (by decide) (by decide),hg.Zdn ho h.2.1 (by decide) (by decide) (by decide),hg.Zdn ho h.2.2 (by decide) (by decide) (by decide)⟩
theorem LL.all {R T1 T2 A an N:Nat} {a b c d:Int} {x:World} (h:LL R T1 T2 A an N a b c d x):
 x.cell? (aD R 0)=some (pT A)/\x.cell? (aD R 1)=some (iV an)/\x.cell? (aD R 2)=some (iV N)/\
 x.cell? (aD T1 0)=some (.int .u8 a)/\x.cell? (aD T1 1)=some (.int .u8 b)/\x.cell? (aD T2 0)=some (.int .u8 c)/\x.cell? (aD T2 1)=some (.int .u8 d)/\LL R T1 T2 A an N a b c d x:=
 ⟨(Zaa h.1 0).1,(Zaa h.1 1).1,(Zaa h.1 2).1,(Zaa h.2.1 0).1,(Zaa h.2.1 1).1,(Zaa h.2.2 0).1,(Zaa h.2.2 1).1,h⟩
section
variable {A:Nat} {s:ASt} {w:World}
def Zh9 (m:Nat->UInt8) (an N:Nat) (fs fo:Int) (os:UInt8):Nat->UInt8:=Zb8 (Zb8 m an (List.replicate N os)) an (Zfk (Zcu fs fo) 1)
def Ygk (s:ASt) (an N:Nat) (fs fo:Int) (os:UInt8):ASt:={s with mm:=Zh9 s.mm an N fs fo os}
theorem Zk4 (h:On A s w) (va vs:Nat) (h1:va<=4294967296) (h2:vs<=4294967296) (i st:Int) (on an N:Nat) (hi:i<=9223372036854775807) (s2:(on:Int)<=10) (fs fo:Int) (os:UInt8)
 (hb:(Ztv st=true/\fs=st/\fo=on/\os=1)\/(st=0/\fs=0/\fo=0/\os=0)) (hNN:2^on=N) (han:Yez va vs i on=an) (he:Ygl s va vs i on=0):
 Calls Tryz.prog 126 #[tbP (some (aD A 0)) va vs,iV i,iV on,.int .u8 st] w (Ret A (Ygk s an N fs fo os) (iV 0) w):=by
 have s1:0<=(on:Int):=by omega
 have HO:=hid h;obtain⟨hN,hN1,hN2⟩:=Zli on s2;unfold Ygl at he;rw[han]at he;unfold Yez at han;rw[hNN]at hN hN1 hN2 han he;have HE:=hid he;have HN:=hid hN;have HA:=hid han
 have h3:an<=4294967296:=by
  have:=Zg8 h1 h2 i N
  have hh:=(Zax h.Zch an N).1 (by unfold Zac at he;cases hq:Zbd s.L s.es an N with
   |true=>rfl
   |false=>rw[hq]at he;cases he)
  have:=h.Zch.small
  omega
 have h4:N<=4294967296:=by omega
 have hk:Hid ((Ztv st=true/\fs=st/\fo=on/\os=1)\/(st=0/\fs=0/\fo=0/\os=0)):=hid hb;clear h he hN hNN han hb;have HB:=hid ((Below.refl w.heap.size w).alloc (Nat.le_refl _) (.cells #[pT A,iV va,iV vs] 51));have H0:Hid (Ztv 0=false):=hid rfl;have HV:Hid (∀pu a k,ofV pu a k 0=.agg #[.pointer pu,iV a,iV k]):=hid fun pu a k=>by unfold ofV;rw[if_pos rfl]
 go_enter Tryz.func126,Tryz.ntmps126;rcases hk.out with⟨hb,rfl,rfl,rfl⟩|⟨rfl,rfl,rfl,rfl⟩
 rotate_left
 go_upto_region 5 with(go_at_call 187;refine(Ze2 _ _).mono ?_;rintro e w' ⟨rfl,rfl⟩;rw[H0.out])
 rotate_left
 have k3:fs=2\/fs=3:=by unfold Ztv at hb;simpa using hb
 have d0:(fs==0)=false:=by rcases k3 with rfl|rfl<;>rfl
 have k4:0<=fs/\fs<=3:=by omega
 obtain⟨k5,k6⟩:=k4;have KB:=hid hb;clear hb k3
 go_upto_region 5 with(go_at_call 187;refine(Ze2 _ _).mono ?_;rintro e w' ⟨rfl,rfl⟩;rw[KB.out])
 all_goals
  have HH:VT w.heap.size (some (aD A 0)) va vs (w.alloc (.cells #[pT A,iV va,iV vs] 51)):=Zab _ _;obtain⟨w1,hw1⟩:=eX (w.alloc (.cells #[pT A,iV va,iV vs] 51));rw[hw1]at HH HB⊢;clear hw1 hk;obtain⟨B,hB⟩:=eX w.heap.size;rw[hB]at HH⊢;clear hB;have hs1:=hid (show B<w1.heap.size from(Array.getElem?_eq_some_iff.1 HH).1)
  go_region_held3 (fun x=>x.cell? (aD B 0)=some (pT A)/\x.cell? (aD B 1)=some (iV va)/\x.cell? (aD B 2)=some (iV vs)/\VT B (some (aD A 0)) va vs x)
   (first|exact(HH.below (Below.refl _ _).drew).all|exact(HH.below ((Zaj w1 (.cells #[.pointer none,iV 0,iV 0] 40)).drew)).all|assumption)
   (first|(go_at_call 66;rw[HN.out];refine(Zcl (HO.out.below ((HB.out.drew).mono (Nat.le_refl _))) va vs h1 h2 i N hi).mono ?_;rintro e w' ⟨rfl,hbb⟩;rw[HA.out,HE.out,HV.out];have hnx:=((HH.below (Below.refl _ _).drew).below hbb).all;have hbw:=(HB.out.drew).trans (hbb.mono HB.out.size);have hnz:=(hnx.2.2.2.below (Zaj w' (.cells #[.pointer none,iV 0,iV 0] 40))).all;have hnv:=(hnx.2.2.2.below (Zaj w' (.cells #[pT A,iV an,iV N] 40))).all)
         |(go_at_call 66;rw[HN.out];refine(Zcl (HO.out.below (((HB.out.alloc HB.out.size (.cells #[.pointer none,iV 0,iV 0] 40)).drew).mono (Nat.le_refl _))) va vs h1 h2 i N hi).mono ?_;rintro e w' ⟨rfl,hbb⟩;rw[HA.out,HE.out,HV.out];have hnx:=((HH.below ((Zaj w1 (.cells #[.pointer none,iV 0,iV 0] 40)).drew)).below hbb).all;have hbw:=((HB.out.alloc HB.out.size (.cells #[.pointer none,iV 0,iV 0] 40)).drew).trans (hbb.mono (HB.out.alloc HB.out.size (.cells #[.pointer none,iV 0,iV 0] 40)).size);have hR:=(hbb.block w1.heap.size (by simp)).trans (Zab w1 (.cells #[.pointer none,iV 0,iV 0] 40));have r0:=(Zaa hR 0).1;have r1:=(Zaa hR 1).1;have r2:=(Zaa hR 2).1;have f0:=(Zaa hR 0).2;have f1:=(Zaa hR 1).2;have f2:=(Zaa hR 2).2;have hnz:=(VT.far (R:=w1.heap.size) (Nat.ne_of_lt hs1.out) hnx.2.2.2 (pT A) (iV an) (iV N)).all;have HR2:=hid hR;clear hR))
  all_goals
   have HBW:=hid hbw;clear HH hnx hnz hbw hbb
   first
    |(have VR:VC w'.heap.size (some (aD A 0)) an N (w'.alloc (.cells #[pT A,iV an,iV N] 40)):=Zab _ _
      have HBF:=hid (HBW.out.alloc HBW.out.size (.cells #[pT A,iV an,iV N] 40));obtain⟨wF,hwF⟩:∃x,w'.alloc (.cells #[pT A,iV an,iV N] 40)=x:=⟨_,rfl⟩
      obtain⟨R,hRR⟩:∃x,w'.heap.size=x:=⟨_,rfl⟩
      rw[hwF]at VR HBF⊢;rw[hRR]at VR⊢;clear hwF hRR)
    |(have VR:VC w1.heap.size (some (aD A 0)) an N _:=Za8 HR2.out rfl (pT A) (iV an) (iV N)
      have HBF:=hid (((HBW.out.setCell (p:=(aD w1.heap.size 0)) HB.out.size (pT A)).setCell (p:=(aD w1.heap.size 1)) HB.out.size (iV an)).setCell (p:=(aD w1.heap.size 2)) HB.out.size (iV N));obtain⟨wF,hwF⟩:∃x,(((w'.setCell (aD w1.heap.size 0) (pT A)).setCell (aD w1.heap.size 1) (iV an)).setCell (aD w1.heap.size 2) (iV N))=x:=⟨_,rfl⟩
      obtain⟨R,hRR⟩:∃x,w1.heap.size=x:=⟨_,rfl⟩
      rw[hwF]at VR HBF⊢;rw[hRR]at VR⊢;clear hwF hRR r0 r1 r2 f0 f1 f2)
   go_upto_region 11 with fail
   first
    |(have bF2:=hid (Zbm wF (.cells #[.int .u8 fs,.int .u8 (on:Int)] 232) (.cells #[.int .u8 1,.int .u8 0] 232))
      obtain⟨q1,q2⟩:=Zbk wF #[.int .u8 fs,.int .u8 (on:Int)] #[.int .u8 1,.int .u8 0] 232 232;have HL:LL R wF.heap.size (wF.heap.size+1) A an N fs (on:Int) 1 0 _:=⟨VR.below bF2.out,q1,q2⟩;obtain⟨wG,hwG⟩:∃x,(wF.alloc (.cells #[.int .u8 fs,.int .u8 (on:Int)] 232)).alloc (.cells #[.int .u8 1,.int .u8 0] 232)=x:=⟨_,rfl⟩
      rw[hwG]at HL bF2⊢;clear hwG q1 q2 VR;have HC2:Hid (Zcu 1 0=(((1:UInt8).toNat:Nat):Int)):=hid rfl;have HBG:=hid (HBF.out.trans (bF2.out.mono HBF.out.size));obtain⟨T1,hT1⟩:∃x,wF.heap.size=x:=⟨_,rfl⟩
      obtain⟨T2,hT2⟩:∃x,T1+1=x:=⟨_,rfl⟩
      rw[hT1]at HL⊢;rw[hT2]at HL⊢;clear hT1 hT2 HBF bF2;have hA1:Hid (Zai an N 0 N=(an:Int)):=hid (by unfold Zai;rw[if_pos (by omega)];omega);have hA2:Hid (Zai an N 0 1=(an:Int)):=hid (by unfold Zai;rw[if_pos (by omega)];omega);have HOG:=hid (HO.out.below HBG.out)
      go_region_held3 (fun x=>x.cell? (aD R 0)=some (pT A)/\x.cell? (aD R 1)=some (iV an)/\x.cell? (aD R 2)=some (iV N)/\x.cell? (aD T1 0)=some (.int .u8 fs)/\x.cell? (aD T1 1)=some (.int .u8 (on:Int))/\x.cell? (aD T2 0)=some (.int .u8 1)/\x.cell? (aD T2 1)=some (.int .u8 0)/\LL R T1 T2 A an N fs (on:Int) 1 0 x)
       (first|exact(HL.below (Below.refl _ _).drew).all|assumption)
       (first|(go_at_call 130;refine(Zgo (some (aD A 0)) an N _).mono ?_;rintro e x1 ⟨rfl,hb1⟩;have g1:=(HOG.out.below (Below.refl _ _).drew).below hb1;have k1:=((HL.below (Below.refl _ _).drew).below hb1).all;have W1:=(Zam.Zad HO.out (HBG.out.trans (((Below.refl _ _).drew.trans hb1).mono HBG.out.size))))
             |(go_at_call 188;refine(Zgq _ _ (by omega) (by omega) (by omega) (by omega) _).mono ?_;rintro e x2 ⟨rfl,hb2⟩;rw[HC2.out];have g2:=g1.below hb2;have k2:=(k1.2.2.2.2.2.2.2.below hb2).all;have W2:=W1.trans (Zam.Zad g1 hb2))
             |(go_at_call 129;refine(Zo5 g2 an N h3 h4 0 N (by omega) 1).mono ?_;rintro e x3 ⟨rfl,g3,hw3⟩;rw[hA1.out]at g3⊢;rw[HE.out];have k3:=(k2.2.2.2.2.2.2.2.Zaq g2 hw3).all;have W3:=W2.trans hw3))
      have HL3:=k3.2.2.2.2.2.2.2;have HG3:=hid g3;have HW3:=hid W3;clear HL k1 k2 k3 g1 g2 g3 W1 W2 W3 hw3 HOG;go_wp2_with fail
      have hfs:Zg3 s (an:Int) (N:Int) 1={s with mm:=Zb8 s.mm an (List.replicate N 1)}:=by
       unfold Zg3;rw[HE.out,if_pos rfl,Int.toNat_natCast,Int.toNat_natCast]
      rw[hfs]at HG3
      have hn1:Zb9 s.L s.es (an:Int) 1=0:=by
       have hg:=HO.out.Zch
       have:=Zbn hg HE.out (b:=(an:Int)) (k:=1) (by omega) (by omega) (by omega)
       unfold Zb9;rw[show Za6 1=true from rfl,if_pos rfl,this]
      have hst:Zbx {s with mm:=Zb8 s.mm an (List.replicate N 1)} (an:Int) 1 (Zcu fs (on:Int))=Ygk s an N fs (on:Int) 1:=by
       unfold Zbx;rw[show Zb9 ({s with mm:=Zb8 s.mm an (List.replicate N 1)}:ASt).L ({s with mm:=Zb8 s.mm an (List.replicate N 1)}:ASt).es (an:Int) 1=0 from hn1,if_pos rfl,Int.toNat_natCast];rfl
      have HN1:=hid hn1;have HST:=hid hst
      have HWR:Hid (IntKind.u64.wrap (Zcu fs (on:Int))=Zcu fs (on:Int)):=hid (by have:=IntKind.wrap_u64 (Zcu fs (on:Int));unfold Zcu at*;omega);have hc0:0<=Zcu fs (on:Int):=by unfold Zcu;omega
      clear hfs hn1 hst
      go_region_held3 (fun x=>x.cell? (aD R 0)=some (pT A)/\x.cell? (aD R 1)=some (iV an)/\x.cell? (aD R 2)=some (iV N)/\x.cell? (aD T1 0)=some (.int .u8 fs)/\x.cell? (aD T1 1)=some (.int .u8 (on:Int))/\x.cell? (aD T2 0)=some (.int .u8 1)/\x.cell? (aD T2 1)=some (.int .u8 0)/\LL R T1 T2 A an N fs (on:Int) 1 0 x)
       (first|exact(HL3.below (Below.refl _ _).drew).all|assumption)
       (first|(go_at_call 188;refine(Zgq _ _ (by omega) (by omega) (by omega) (by omega) _).mono ?_;rintro e x4 ⟨rfl,hb4⟩;have g4:=(HG3.out.below (Below.refl _ _).drew).below hb4;have k4:=((HL3.below (Below.refl _ _).drew).below hb4).all;have W4:=(HW3.out.trans (Zam.Zad HG3.out ((Below.refl _ _).drew.trans hb4))))
             |(go_at_call 92;rw[HWR.out];refine(Zdr g4 an N h3 h4 0 1 _ (by omega) hc0).mono ?_;rintro e x5 ⟨rfl,g5,hw5⟩;rw[hA2.out]at g5⊢;rw[HST.out]at g5;have k5:=(k4.2.2.2.2.2.2.2.Zaq g4 hw5).all;have W5:=W4.trans hw5))
      have HF:=hid (And.intro g5 W5);clear HL3 k4 k5 g4 g5 W4 W5 hw5;have hNN:Zb9 ({s with mm:=Zb8 s.mm an (List.replicate N 1)}:ASt).L ({s with mm:=Zb8 s.mm an (List.replicate N 1)}:ASt).es (an:Int) 1=0:=HN1.out;rw[hNN];go_wp2_with fail
      go_ret
      exact⟨rfl,HF.out.1,HF.out.2⟩)
    |(have bF2:=hid (Zbm wF (.cells #[.int .u8 0,.int .u8 0] 232) (.cells #[.int .u8 0,.int .u8 0] 232))
      obtain⟨q1,q2⟩:=Zbk wF #[.int .u8 0,.int .u8 0] #[.int .u8 0,.int .u8 0] 232 232;have HL:LL R wF.heap.size (wF.heap.size+1) A an N 0 0 0 0 _:=⟨VR.below bF2.out,q1,q2⟩;obtain⟨wG,hwG⟩:∃x,(wF.alloc (.cells #[.int .u8 0,.int .u8 0] 232)).alloc (.cells #[.int .u8 0,.int .u8 0] 232)=x:=⟨_,rfl⟩
      rw[hwG]at HL bF2⊢;clear hwG q1 q2 VR;have HC2:Hid (Zcu 0 0=(((0:UInt8).toNat:Nat):Int)):=hid rfl;have HBG:=hid (HBF.out.trans (bF2.out.mono HBF.out.size));obtain⟨T1,hT1⟩:∃x,wF.heap.size=x:=⟨_,rfl⟩
      obtain⟨T2,hT2⟩:∃x,T1+1=x:=⟨_,rfl⟩
      rw[hT1]at HL⊢;rw[hT2]at HL⊢;clear hT1 hT2 HBF bF2;have hA1:Hid (Zai an N 0 N=(an:Int)):=hid (by unfold Zai;rw[if_pos (by omega)];omega);have hA2:Hid (Zai an N 0 1=(an:Int)):=hid (by unfold Zai;rw[if_pos (by omega)];omega);have HOG:=hid (HO.out.below HBG.out)
      go_region_held3 (fun x=>x.cell? (aD R 0)=some (pT A)/\x.cell? (aD R 1)=some (iV an)/\x.cell? (aD R 2)=some (iV N)/\x.cell? (aD T1 0)=some (.int .u8 0)/\x.cell? (aD T1 1)=some (.int .u8 0)/\x.cell? (aD T2 0)=some (.int .u8 0)/\x.cell? (aD T2 1)=some (.int .u8 0)/\LL R T1 T2 A an N 0 0 0 0 x)
       (first|exact(HL.below (Below.refl _ _).drew).all|assumption)
       (first|(go_at_call 130;refine(Zgo (some (aD A 0)) an N _).mono ?_;rintro e x1 ⟨rfl,hb1⟩;have g1:=(HOG.out.below (Below.refl _ _).drew).below hb1;have k1:=((HL.below (Below.refl _ _).drew).below hb1).all;have W1:=(Zam.Zad HO.out (HBG.out.trans (((Below.refl _ _).drew.trans hb1).mono HBG.out.size))))
             |(go_at_call 188;refine(Zgq _ _ (by omega) (by omega) (by omega) (by omega) _).mono ?_;rintro e x2 ⟨rfl,hb2⟩;rw[HC2.out];have g2:=g1.below hb2;have k2:=(k1.2.2.2.2.2.2.2.below hb2).all;have W2:=W1.trans (Zam.Zad g1 hb2))
             |(go_at_call 129;refine(Zo5 g2 an N h3 h4 0 N (by omega) 0).mono ?_;rintro e x3 ⟨rfl,g3,hw3⟩;rw[hA1.out]at g3⊢;rw[HE.out];have k3:=(k2.2.2.2.2.2.2.2.Zaq g2 hw3).all;have W3:=W2.trans hw3))
      have HL3:=k3.2.2.2.2.2.2.2;have HG3:=hid g3;have HW3:=hid W3;clear HL k1 k2 k3 g1 g2 g3 W1 W2 W3 hw3 HOG;go_wp2_with fail
      have hfs:Zg3 s (an:Int) (N:Int) 0={s with mm:=Zb8 s.mm an (List.replicate N 0)}:=by
       unfold Zg3;rw[HE.out,if_pos rfl,Int.toNat_natCast,Int.toNat_natCast]
      rw[hfs]at HG3
      have hn1:Zb9 s.L s.es (an:Int) 1=0:=by
       have hg:=HO.out.Zch
       have:=Zbn hg HE.out (b:=(an:Int)) (k:=1) (by omega) (by omega) (by omega)
       unfold Zb9;rw[show Za6 1=true from rfl,if_pos rfl,this]
      have hst:Zbx {s with mm:=Zb8 s.mm an (List.replicate N 0)} (an:Int) 1 (Zcu 0 0)=Ygk s an N 0 0 0:=by
       unfold Zbx;rw[show Zb9 ({s with mm:=Zb8 s.mm an (List.replicate N 0)}:ASt).L ({s with mm:=Zb8 s.mm an (List.replicate N 0)}:ASt).es (an:Int) 1=0 from hn1,if_pos rfl,Int.toNat_natCast];rfl
      have HN1:=hid hn1;have HST:=hid hst
      have HWR:Hid (IntKind.u64.wrap (Zcu 0 0)=Zcu 0 0):=hid (by have:=IntKind.wrap_u64 (Zcu 0 0);unfold Zcu at*;omega);have hc0:0<=Zcu 0 0:=by unfold Zcu;omega
      clear hfs hn1 hst
      go_region_held3 (fun x=>x.cell? (aD R 0)=some (pT A)/\x.cell? (aD R 1)=some (iV an)/\x.cell? (aD R 2)=some (iV N)/\x.cell? (aD T1 0)=some (.int .u8 0)/\x.cell? (aD T1 1)=some (.int .u8 0)/\x.cell? (aD T2 0)=some (.int .u8 0)/\x.cell? (aD T2 1)=some (.int .u8 0)/\LL R T1 T2 A an N 0 0 0 0 x)
       (first|exact(HL3.below (Below.refl _ _).drew).all|assumption)
       (first|(go_at_call 188;refine(Zgq _ _ (by omega) (by omega) (by omega) (by omega) _).mono ?_;rintro e x4 ⟨rfl,hb4⟩;have g4:=(HG3.out.below (Below.refl _ _).drew).below hb4;have k4:=((HL3.below (Below.refl _ _).drew).below hb4).all;have W4:=(HW3.out.trans (Zam.Zad HG3.out ((Below.refl _ _).drew.trans hb4))))
             |(go_at_call 92;rw[HWR.out];refine(Zdr g4 an N h3 h4 0 1 _ (by omega) hc0).mono ?_;rintro e x5 ⟨rfl,g5,hw5⟩;rw[hA2.out]at g5⊢;rw[HST.out]at g5;have k5:=(k4.2.2.2.2.2.2.2.Zaq g4 hw5).all;have W5:=W4.trans hw5))
      have HF:=hid (And.intro g5 W5);clear HL3 k4 k5 g4 g5 W4 W5 hw5;have hNN:Zb9 ({s with mm:=Zb8 s.mm an (List.replicate N 0)}:ASt).L ({s with mm:=Zb8 s.mm an (List.replicate N 0)}:ASt).es (an:Int) 1=0:=HN1.out;rw[hNN];go_wp2_with fail
      go_ret
      exact⟨rfl,HF.out.1,HF.out.2⟩)
end
end
end Go.Proofs.YtgcidfenjlmljaaGreat.Bt
