import Derived.Test.YtgcidfenjlmljaaGreatPg12
import Derived.Test.YtgcidfenjlmljaaGreatPg08
import Derived.Test.YtgcidfenjlmljaaGreatPg11
import Derived.Test.YtgcidfenjlmljaaGreatPgR
set_option linter.unusedVariables false
set_option linter.unusedSimpArgs false
set_option maxRecDepth 100000
set_option maxHeartbeats 16000000
namespace Go.Proofs.YtgcidfenjlmljaaGreat.Bt
section
open Go Go.RowKit Go.Shelf
def Zhr:Nat:=0xff6e6f706c6c696d
structure Bud (cap G g:Nat) (R:Zag) (x:Nat) (s:ASt):Prop where
 cL:s.L=cap
 c2:2<=cap/\cap<=80
 es:s.es=[0,1+G]
 gG:g<=G/\G<cap
 mr:Zck s.mm 0 8=Zhr
 gr:Zck s.mm 8 8=G
 tg:Tgs cap g R x s.mm
 ls:Lks s.L s.es s.mm (Zas 1 R x g)
 ti:Til g R x
section
variable {cap G g x k:Nat} {R:Zag} {s:ASt}
theorem Bud.Zch (h:Bud cap G g R x s):Good s.L s.es:=by
 have:=h.gG;have:=h.c2
 rw[h.cL,h.es];exact Zho (by omega) (by omega) (by omega)
theorem Bud.there (h:Bud cap G g R x s) {a n:Int} (h0:0<=a) (h1:0<=n) (h2:a+n<=((1+G:Nat):Int)*4096):Zac s.L s.es a n=0:=by
 have:=h.gG;have:=h.c2
 rw[h.cL,h.es];exact Zeb (by omega) (by omega) (by omega) h0 h1 h2
theorem Zca {m m':Nat->UInt8} (h:∀i,i<16->m' i=m i) {a:Nat} (ha:a+8<=16):Zck m' a 8=Zck m a 8:=Zar fun j hj=>h _ (by omega)
def Ztm (m:Nat->UInt8) (fl:Nat->List Nat) (k X:Nat):Nat->UInt8:=Zc4 (Zc4 m X (fnd (16+8*k) 8 (fl k) X).2.2) (fnd (16+8*k) 8 (fl k) X).1 X
def Ye3 (m:Nat->UInt8) (fl:Nat->List Nat) (k X:Nat):Nat->UInt8:=Zc4 m (fnd (16+8*k) 8 (fl k) X).1 (nxt m X)
theorem Lks.of {L:Nat} {es:List Nat} {m:Nat->UInt8} {fl fl':Nat->List Nat} (h:Lks L es m fl) (e:∀k,k<=10->fl' k=fl k):Lks L es m fl':=fun k hk=>by rw[e k hk];exact h k hk
theorem Zd4 (h:R x=Option.none) (p:Nat):¬Yho R x p:=fun⟨k,t,e,_⟩=>by rw[h]at e;cases e
theorem Bud.addr (h:Bud cap G g R x s) {i k:Nat} {t:Bool} (e:R i=some (k,t)):k<=10/\i+2^k<=g/\i<g/\i+1<cap/\i+2^k<cap+1:=by
 have:=h.ti.al _ _ _ e;have:=h.gG;have:=Zae k;omega
theorem Bud.Zws (h:Bud cap G g R g s) (e:R x=some (k,true)):Bud cap G g (Zfm R x k false) x s:=
 {h with
  tg:=fun p hp hn=>by
   have h1:=h.tg p hp (Zd4 (h.ti.out (Nat.le_refl _)) p);rw[h1];unfold Zg6;by_cases c:p<g
   · rw[if_pos c,if_pos c]
     have ho:p<x\/x+2^k<=p:=by
      by_cases q:p<x\/x+2^k<=p
      · exact q
      · exact absurd ⟨k,false,Zb5 _ _ _ _,by omega,by omega⟩ hn
     rw[Zcs ho]
   · rw[if_neg c,if_neg c]
  ls:=h.ls.of fun j _=>Zs8 h.ti e j
  ti:=h.ti.Zws e}
theorem Bud.pick (h:Bud cap G g R g s) (e:R x=some (k,false)):Bud cap G g R x {s with mm:=Ye3 s.mm (Zas 1 R g g) k ((1+x)*4096)}:=by
 have a:=h.addr e;have hX:(1+x)*4096∈Zas 1 R g g k:=Zcj.2 ⟨a.2.2.1,e,Nat.ne_of_lt a.2.2.1⟩;have o:=Zdj R g g;have by16:∀i,i<16\/(104<=i/\i<4096)->Ye3 s.mm (Zas 1 R g g) k ((1+x)*4096) i=s.mm i:=fun i hi=>Znj o _ a.1 8 hi
 exact{h with
  mr:=(Zca (fun i hi=>by16 i (.inl hi)) (by omega)).trans h.mr
  gr:=(Zca (fun i hi=>by16 i (.inl hi)) (by omega)).trans h.gr
  tg:=fun p hp hn=>by
   have:=h.c2
   show(Ye3 _ _ _ _ _).toNat=_
   rw[by16 _ (.inr (by omega))];exact h.tg p hp (Zd4 (h.ti.out (Nat.le_refl _)) p)
  ls:=(Zqw h.Zch h.ls o a.1 hX 8).of fun j hj=>by
   by_cases c:j=k
   · subst c;rw[if_pos rfl];exact Zwv h.ti e
   · rw[if_neg c];exact Zs5 h.ti e c
  ti:=h.ti.at}
theorem Bud.join (h:Bud cap G g R x s) (e:R x=some (k,false)) (f:R (Zcz x k)=some (k,false)) (hk:k<10):
 Bud cap G g (Zfm R (min x (Zcz x k)) (k+1) false) (min x (Zcz x k)) {s with mm:=Ye3 s.mm (Zas 1 R x g) k ((1+Zcz x k)*4096)}:=by
 have a:=h.addr f;have ax:=h.addr e;have hne:=Zua (h.ti.al _ _ _ e).2.1;have hX:(1+Zcz x k)*4096∈Zas 1 R x g k:=Zcj.2 ⟨a.2.2.1,f,hne⟩;have o:=Zdj R x g;have by16:∀i,i<16\/(104<=i/\i<4096)->Ye3 s.mm (Zas 1 R x g) k ((1+Zcz x k)*4096) i=s.mm i:=fun i hi=>Znj o _ a.1 8 hi
 obtain⟨i,em,hi,e1,e2,hx⟩:=Zlu h.ti.toTile e f;have hp:=Zbj k;have h0:=Zae k
 exact{h with
  mr:=(Zca (fun i hi=>by16 i (.inl hi)) (by omega)).trans h.mr
  gr:=(Zca (fun i hi=>by16 i (.inl hi)) (by omega)).trans h.gr
  tg:=fun p hp' hn=>by
   have:=h.c2
   show(Ye3 _ _ _ _ _).toNat=_
   rw[by16 _ (.inr (by omega))]
   have ho:p<i\/i+2^(k+1)<=p:=by
    by_cases q:p<i\/i+2^(k+1)<=p
    · exact q
    · exact absurd ⟨k+1,false,Zb5 _ _ _ _,by omega,by omega⟩ hn
   rw[h.tg p hp' (fun⟨k',t',q1,q2,q3⟩=>by
    rw[e]at q1
    have:=(Zbc q1).1
    subst this
    omega)]
   unfold Zg6;rw[em,Zcs ho]
  ls:=(Zqw h.Zch h.ls o a.1 hX 8).of fun j hj=>by
   by_cases c:j=k
   · subst c;rw[if_pos rfl];exact Zwx h.ti e f
   · rw[if_neg c];exact Zs6 h.ti e f c
  ti:=h.ti.join e f hk}
theorem Zlr {m:Nat->UInt8} {g':Nat} {R':Zag} {y:Nat} {u:Bool} (hk:k<=10) (hx:R' x=some (k,u)) (hin:∀p,x<p->p<x+2^k->R' p=Option.none) (hg:x+2^k<=g')
 (h:∀p,p+1<cap->¬Yho R' y p->¬(x<=p/\p<x+2^k)->(m (256+p)).toNat=Zg6 R' g' p):Tgs cap g' R' y (Zh9 m (256+x) (2^k) (if u then 3 else 2) k 1):=fun p hp hn=>by
 have h0:=Zae k;rw[Zwa m x k p hk u];by_cases c:p=x
 · subst c
   rw[if_pos (show p=p from rfl)];unfold Zg6;rw[if_pos (show p<g' by omega),hx]
 · rw[if_neg c]
   by_cases d:x<p/\p<x+2^k
   · rw[if_pos d]
     unfold Zg6;rw[if_pos (by omega),hin p d.1 d.2]
   · rw[if_neg d]
     exact h p hp hn (by omega)
theorem Tile.inside (h:Tile g R) {t:Bool} (e:R x=some (k,t)) (p:Nat) (h1:x<p) (h2:p<x+2^k):R p=Option.none:=by
 cases c:R p with
 |none=>rfl
 |some y=>have:=h.dj _ _ _ _ y.1 y.2 e c h1;omega
theorem Bud.stop (h:Bud cap G g R x s) (e:R x=some (k,false)) (hs:k<10->R (Zcz x k)≠some (k,false)):
 Bud cap G g R g {s with mm:=Ztm (Zh9 s.mm (256+x) (2^k) 2 k 1) (Zas 1 R x g) k ((1+x)*4096)}:=by
 have a:=h.addr e;have o:=Zdj R x g;have h0:=Zae k;have c2:=h.c2;have gG:=h.gG;have hn:∀j,j<=10->(1+x)*4096∉Zas 1 R x g j:=fun j _ c=>(Zcj.1 c).2.2 rfl
 have hT:Zac s.L s.es (((1+x)*4096:Nat):Int) 16=0:=h.there (by omega) (by omega) (by omega);have by16:∀i,i<16\/(104<=i/\i<4096)->Ztm (Zh9 s.mm (256+x) (2^k) 2 k 1) (Zas 1 R x g) k ((1+x)*4096) i=Zh9 s.mm (256+x) (2^k) 2 k 1 i:=fun i hi=>Zrx o a.1 (by omega) 8 hi
 have fr:∀i,i<16->Ztm (Zh9 s.mm (256+x) (2^k) 2 k 1) (Zas 1 R x g) k ((1+x)*4096) i=s.mm i:=fun i hi=>(by16 i (.inl hi)).trans (Zfa _ _ _ h0 _ _ _ _ (by omega))
 have T:=Zlr (cap:=cap) (m:=s.mm) (y:=g) a.1 e (h.ti.toTile.inside e) a.2.1 (fun p hp _ hc=>h.tg p hp (fun⟨k',t',q1,q2,q3⟩=>by
  rw[e]at q1
  have:=(Zbc q1).1
  subst this;exact hc ⟨q2,q3⟩))
 exact{h with
  mr:=(Zca fr (by omega)).trans h.mr
  gr:=(Zca fr (by omega)).trans h.gr
  tg:=fun p hp hn=>by
   show(Ztm _ _ _ _ _).toNat=_
   rw[by16 _ (.inr (by omega))];exact T p hp hn
  ls:=(Zv5 h.Zch (Zjl h.ls o h0 (by omega) (by omega) 2 k 1) o a.1 (by omega) (by omega) hT hn 8).of fun j hj=>by
   by_cases c:j=k
   · subst c;rw[if_pos rfl];exact Zwu h.ti e
   · rw[if_neg c];exact Zs4 h.ti e c
  ti:=h.ti.stop e hs}
end
end
section
open Go Go.RowKit Go.Shelf
section
variable {cap G g x k:Nat} {R:Zag} {s:ASt}
theorem Zwm (R:Zag) (i k:Nat) (t:Bool):Zd8 R i k t i=some (k,t):=if_pos rfl
theorem Zq7 (R:Zag) (i k:Nat) (t:Bool):Zd8 R i k t (i+2^k)=some (k,false):=by
 have:=Zae k
 unfold Zd8;rw[if_neg (by omega),if_pos rfl]
theorem Bud.half (h:Bud cap G g R x s) (e:R x=some (k+1,false)):
 Bud cap G g (Zd8 R x k false) x {s with mm:=Ztm (Zh9 s.mm (256+(x+2^k)) (2^k) 2 k 1) (Zas 1 R x g) k ((1+(x+2^k))*4096)}:=by
 have a:=h.addr e;have o:=Zdj R x g;have h0:=Zae k;have hp:=Zbj k;have c2:=h.c2;have gG:=h.gG;have nn:=Zjs h.ti.toTile e
 have hn:∀j,j<=10->(1+(x+2^k))*4096∉Zas 1 R x g j:=fun j _ c=>by
  have:=(Zcj.1 c).2.1
  rw[nn]at this;cases this
 have hT:Zac s.L s.es (((1+(x+2^k))*4096:Nat):Int) 16=0:=h.there (by omega) (by omega) (by omega);have by16:∀i,i<16\/(104<=i/\i<4096)->Ztm (Zh9 s.mm (256+(x+2^k)) (2^k) 2 k 1) (Zas 1 R x g) k ((1+(x+2^k))*4096) i=Zh9 s.mm (256+(x+2^k)) (2^k) 2 k 1 i:=fun i hi=>Zrx o (by omega) (by omega) 8 hi
 have fr:∀i,i<16->Ztm (Zh9 s.mm (256+(x+2^k)) (2^k) 2 k 1) (Zas 1 R x g) k ((1+(x+2^k))*4096) i=s.mm i:=fun i hi=>(by16 i (.inl hi)).trans (Zfa _ _ _ h0 _ _ _ _ (by omega))
 have T:=Zlr (cap:=cap) (m:=s.mm) (y:=x) (g':=g) (R':=Zd8 R x k false) (x:=x+2^k) (k:=k) (u:=false) (by omega) (Zq7 R x k false) ((h.ti.toTile.half (u:=false) e).inside (Zq7 R x k false)) (by omega) (fun p hp' hh hc=>by
  have hx:p<x\/x+2^k<=p:=by
   by_cases q:p<x\/x+2^k<=p
   · exact q
   · exact absurd ⟨k,false,Zwm R x k false,by omega,by omega⟩ hh
  rw[h.tg p hp' (fun⟨k',t',q1,q2,q3⟩=>by
   rw[e]at q1
   have:=(Zbc q1).1
   subst this
   omega)]
  unfold Zg6 Zd8;rw[if_neg (show¬p=x by omega),if_neg (show¬p=x+2^k by omega)])
 exact{h with
  mr:=(Zca fr (by omega)).trans h.mr
  gr:=(Zca fr (by omega)).trans h.gr
  tg:=fun p hp' hh=>by
   show(Ztm _ _ _ _ _).toNat=_
   rw[by16 _ (.inr (by omega))];exact T p hp' hh
  ls:=(Zv5 h.Zch (Zjl h.ls o h0 (by omega) (by omega) 2 k 1) o (by omega) (by omega) (by omega) hT hn 8).of fun j hj=>by
   by_cases c:j=k
   · subst c;rw[if_pos rfl];exact Zwy h.ti e
   · rw[if_neg c];exact Zs7 h.ti e c
  ti:=h.ti.half e}
theorem Bud.take (h:Bud cap G g R x s) (e:R x=some (k,false)):
 Bud cap G g (Zfm R x k true) g {s with mm:=Zh9 s.mm (256+x) (2^k) 3 k 1}:=by
 have a:=h.addr e;have o:=Zdj R x g;have h0:=Zae k;have c2:=h.c2;have gG:=h.gG;have fr:∀i,i<16->Zh9 s.mm (256+x) (2^k) 3 k 1 i=s.mm i:=fun i hi=>Zfa _ _ _ h0 _ _ _ _ (by omega)
 have T:=Zlr (cap:=cap) (m:=s.mm) (y:=g) (g':=g) (R':=Zfm R x k true) (x:=x) (k:=k) (u:=true) a.1 (Zb5 _ _ _ _) (fun p p1 p2=>Ydp p1 p2) a.2.1 (fun p hp' hh hc=>by
  rw[h.tg p hp' (fun⟨k',t',q1,q2,q3⟩=>by
   rw[e]at q1
   have:=(Zbc q1).1
   subst this
   omega)]
  unfold Zg6;rw[Zcs (show p<x\/x+2^k<=p by omega)])
 exact{h with
  mr:=(Zca fr (by omega)).trans h.mr
  gr:=(Zca fr (by omega)).trans h.gr
  tg:=fun p hp' hh=>T p hp' hh
  ls:=(Zjl h.ls o h0 (by omega) (by omega) 3 k 1).of fun j hj=>Zwt h.ti e
  ti:=h.ti.take e}
theorem Bud.more (h:Bud cap G g R g s) (hk:k<=10) (hg:g%2^k=0) (hG:g+2^k<=G):Bud cap G (g+2^k) (Zfm R g k false) g s:=
 have h0:=Zae k
 {h with
  gG:=⟨hG,h.gG.2⟩
  tg:=fun p hp' hh=>by
   rw[h.tg p hp' (Zd4 (h.ti.out (Nat.le_refl _)) p)]
   have hx:p<g\/g+2^k<=p:=by
    by_cases q:p<g\/g+2^k<=p
    · exact q
    · exact absurd ⟨k,false,Zb5 _ _ _ _,by omega,by omega⟩ hh
   unfold Zg6;rcases hx with c|c
   · rw[if_pos c,if_pos (show p<g+2^k by omega),Zcs (.inl c)]
   · rw[if_neg (show¬p<g by omega),if_neg (show¬p<g+2^k by omega)]
  ls:=h.ls.of fun j _=>Zww h.ti
  ti:=h.ti.more hk hg}
end
end
section
open Go Go.RowKit Go.Shelf
theorem Zqq {e:Nat} (h0:0<e) (i:Int):mem [0,e] i=decide (0<=i/\i<e):=Zgz h0 i
theorem Zhb {L e d:Nat} (h:e+d<=L):Zao L (e:Int) (d:Int)=true:=by unfold Zao;rw[decide_eq_true_iff];omega
theorem Yck {L e d:Nat} (h0:0<e) (hd:0<d) (h:e+d<=L) (hL:L<=1048576):Zcd L [0,e] (e:Int) (d:Int) true=[0,e+d]:=by
 have g:=Zho h0 (show e<=L by omega) hL;refine Zra (L:=L) (Zet g _ _ _) (Zho (by omega) h hL) fun i hi=>?_
 rw[Zjj g (Zhb h),Zqq h0,Zqq (show 0<e+d by omega)];by_cases c:(e:Int)<=i/\(i:Int)<e+d
 · rw[if_pos c,decide_eq_true (by omega)]
 · rw[if_neg c];congr 1;exact propext ⟨fun _=>by omega,fun _=>by omega⟩
theorem Zp2 {L e d:Nat} (h0:0<e) (hd:0<d) (h:e+d<=L):Zc6 L [0,e] (e:Int) (d:Int)=0:=by
 unfold Zc6 Zg5;rw[if_neg (by omega),if_pos (Zhb h)];unfold Zeg;rw[Int.natCast_eq_zero,List.countP_eq_zero];intro i hi;rw[Zqq h0,decide_eq_true_iff];omega
theorem Zrf {L e d:Nat} (hd:0<d) (h:e+d<=L):Zb6 L (e:Int) (d:Int)=0:=by
 unfold Zb6 Zbo;rw[if_neg (by omega),if_pos (Zhb h)]
theorem Yax {L e d:Nat} (hd:0<d) (h:L<e+d):Zb6 L (e:Int) (d:Int)=3:=by
 unfold Zb6 Zbo;rw[if_neg (by omega),if_neg (by unfold Zao;rw[decide_eq_true_iff];omega)]
section
variable {s:ASt} {cap e d:Nat}
theorem Yh4 (hL:s.L=cap) (hd:0<d) (h:cap<e+d):Zau s (e:Int) (d:Int)=3/\Zaw s (e:Int) (d:Int)=s:=by
 unfold Zau Zaw;rw[hL,Yax hd h]
 exact⟨rfl,rfl⟩
theorem Zr3 (hL:s.L=cap) (he:s.es=[0,e]) (h0:0<e) (hd:0<d) (h:e+d<=cap) (hr:Zd7 s=true):Zau s (e:Int) (d:Int)=4/\Zaw s (e:Int) (d:Int)=Zbs s:=by
 unfold Zau Zaw;rw[hL,he,Zrf hd h,Zp2 h0 hd h,hr]
 exact⟨rfl,rfl⟩
theorem Zyj (hL:s.L=cap) (he:s.es=[0,e]) (h0:0<e) (hd:0<d) (h:e+d<=cap) (hc:cap<=1048576) (hr:Zd7 s=false):Zau s (e:Int) (d:Int)=0/\Zaw s (e:Int) (d:Int)={Zbs s with es:=[0,e+d]}:=by
 unfold Zau Zaw;rw[hL,he,Zrf hd h,Zp2 h0 hd h,hr,Yck h0 hd h hc]
 exact⟨rfl,rfl⟩
end
end
section
open Go Go.RowKit Go.Shelf
theorem Ch.re {L L':Nat} {es es':List Nat} {m:Nat->UInt8}:∀{h b:Nat} {ms:List Nat},Ch L es m h b ms->Zac L' es' h 8=0->(∀c:Nat,c∈ms->Zac L' es' c 16=0/\Zac L' es' c 8=0)->Ch L' es' m h b ms
 |_,_,[],k,h8,_=>⟨h8,k.2⟩
 |_,_,x::t,k,h8,hc=>⟨h8,k.2.1,k.2.2.1,(hc x (List.mem_cons_self ..)).1,Ch.re k.2.2.2.2 (hc x (List.mem_cons_self ..)).2 fun c h=>hc c (List.mem_cons_of_mem _ h)⟩
section
variable {cap G g x k:Nat} {R:Zag} {s:ASt}
theorem Ygi {L E:Nat} {es:List Nat} {m:Nat->UInt8} {fl:Nat->List Nat} (h:Lks L es m fl) (o:Ztx 1 fl) (h0:0<E) (h1:E<=L) (h2:L<=1048576) (hc:∀k,k<=10->∀c∈fl k,c+4096<=E*4096):Lks L [0,E] m fl:=fun k hk=>
 (h k hk).re (Zeb h0 h1 h2 (by omega) (by omega) (by omega)) fun c hm=>by
  have:=hc k hk c hm
  exact⟨Zeb h0 h1 h2 (by omega) (by omega) (by omega),Zeb h0 h1 h2 (by omega) (by omega) (by omega)⟩
theorem Zv4 {L:Nat} {es:List Nat} {m m':Nat->UInt8} {fl:Nat->List Nat} (h:Lks L es m fl) (o:Ztx 1 fl) (e:∀i,16<=i->(i<104\/∃k,k<=10/\∃c∈fl k,c<=i/\i<c+8)->m' i=m i):Lks L es m' fl:=fun k hk=>
 (h k hk).Zdn fun c hc=>Zar fun j hj=>by
  rcases List.mem_cons.1 hc with q|q
  · exact e _ (by omega) (.inl (by omega))
  · have:=o.1 k hk c q
    exact e _ (by omega) (.inr ⟨k,hk,c,q,by omega,by omega⟩)
theorem Yaj {c k:Nat} (h:Til g R x) (hc:c∈Zas 1 R x g k):c+4096<=(1+g)*4096:=by
 obtain⟨i,h1,h2,_,e⟩:=Za4.1 hc;omega
theorem Bud.grown {E:Nat} {rf:Bool} {lf:Nat} (h:Bud cap G g R x s) (hE:G<=E) (hc:E<cap):
 Bud cap E g R x ⟨s.L,[0,1+E],Zc4 s.mm 8 E,rf,lf⟩:=by
 have c2:=h.c2;have gG:=h.gG;have o:=Zdj R x g;have far:∀i,16<=i->Zc4 s.mm 8 E i=s.mm i:=fun i hi=>Zav _ _ (by omega)
 exact{
  cL:=h.cL
  c2:=c2
  es:=rfl
  gG:=⟨by omega,hc⟩
  mr:=(Zbw _ _ (by omega)).trans h.mr
  gr:=Zc3 _ _ _ (by omega)
  tg:=fun p hp hn=>by
   show(Zc4 s.mm 8 E (256+p)).toNat=_
   rw[far _ (by omega)];exact h.tg p hp hn
  ls:=by
   have r:Lks s.L [0,1+E] s.mm (Zas 1 R x g):=Ygi h.ls o (by omega) (by rw[h.cL];omega) (by rw[h.cL];omega) fun k hk c hm=>by
    exact Nat.le_trans (Yaj h.ti hm) (Nat.mul_le_mul_right 4096 (show 1+g<=1+E by omega))
   exact Zv4 r o fun i hi _=>far i hi
  ti:=h.ti}
end
end
section
open Go Go.RowKit Go.Shelf
def Zj8 (B A n:Nat) (w:World):Prop:=w.heap[B]?=some (.cells #[pT A,pT A,iV 0,iV 256,pT A,iV 16,iV 88,pT A,iV 256,iV n] 53 (0,0))
def BV (B A n:Nat) (s:ASt) (w:World):Prop:=On A s w/\s.L=n+1/\Zj8 B A n w
theorem BV.below {B A n:Nat} {s:ASt} {x y:World} (h:BV B A n s x) (hb:Below x.heap.size x y):BV B A n s y:=
 ⟨h.1.below hb,h.2.1,(hb.block _ (Array.getElem?_eq_some_iff.1 h.2.2).1).trans h.2.2⟩
theorem BV.Zaq {B A n:Nat} {s s':ASt} {x y:World} (h:BV B A n s x) (ho:On A s' y) (hg:Zam A x y) (hL:s'.L=s.L):BV B A n s' y:=
 ⟨ho,hL.trans h.2.1,hg.Zdn h.1 h.2.2 (by decide) (by decide) (by decide)⟩
theorem BV.all {B A n:Nat} {s:ASt} {x:World} (h:BV B A n s x):
 x.cell? (aD B 0)=some (pT A)/\x.cell? (aD B 1)=some (pT A)/\x.cell? (aD B 2)=some (iV 0)/\x.cell? (aD B 3)=some (iV 256)/\
 x.cell? (aD B 4)=some (pT A)/\x.cell? (aD B 5)=some (iV 16)/\x.cell? (aD B 6)=some (iV 88)/\
 x.cell? (aD B 7)=some (pT A)/\x.cell? (aD B 8)=some (iV 256)/\x.cell? (aD B 9)=some (iV n)/\BV B A n s x:=by
 refine⟨?_,?_,?_,?_,?_,?_,?_,?_,?_,?_,h⟩<;>(rw[(Zaa h.2.2 _).1];rfl)
abbrev Zcv (B:Nat):Value:=pT B
theorem Zhj {A:Nat} {s:ASt} {w:World} (h:On A s w):Calls Tryz.prog 60 #[pT A] w fun e w'=>e=.returned (iV (s.L:Int))/\w=w':=by
 obtain⟨P,ps,p,n,cap,h⟩:=h;exact Zxo h
section
variable {B A n:Nat} {s:ASt} {w:World}
theorem Zn7 (h:BV B A n s w) (hn:n<=80):Calls Tryz.prog 14 #[Zcv B] w (Zan (iV 1) w):=by
 have H:=hid h;have hw:IntKind.i64.wrap (((n+1:Nat):Int)-(n:Int))=1:=by rw[IntKind.wrap_i64];omega
 have hL:=h.2.1;have HC:=hid fun X (hX:BV B A n s X)=>Zhj hX.1
 rw[hL]at HC;have HT:=hid fun X=>Zym (some (aD A 0)) 256 n X
 clear h hL;go_enter Tryz.func14,Tryz.ntmps14;go_wp2_with fail
 go_region_held3 (fun x=>x.cell? (aD B 0)=some (pT A)/\x.cell? (aD B 7)=some (pT A)/\x.cell? (aD B 8)=some (iV 256)/\x.cell? (aD B 9)=some (iV n)/\BV B A n s x)
  (first|(have q:=(H.out.below (Below.refl _ _).drew).all;exact⟨q.1,q.2.2.2.2.2.2.2.1,q.2.2.2.2.2.2.2.2.1,q.2.2.2.2.2.2.2.2.2.1,q.2.2.2.2.2.2.2.2.2.2⟩)|assumption)
  (first|(go_at_call 60;refine(HC.out _ (H.out.below (Below.refl _ _).drew)).mono ?_;rintro e w' ⟨rfl,rfl⟩)
        |(go_at_call 61;refine(HT.out _).mono ?_;rintro e w' ⟨rfl,hb⟩;have hq:=(((H.out.below (Below.refl _ _).drew).below hb)).all;have hbb:=(Below.refl _ _).drew.trans hb;have k:=And.intro hq.1 (And.intro hq.2.2.2.2.2.2.2.1 (And.intro hq.2.2.2.2.2.2.2.2.1 (And.intro hq.2.2.2.2.2.2.2.2.2.1 hq.2.2.2.2.2.2.2.2.2.2)))))
 have HB:=hid hbb;clear hbb hb k hq;go_wp2_with fail
 go_ret
 exact⟨by rw[show IntKind.i64.wrap ((n:Int)+1-(n:Int))=1 from by rw[IntKind.wrap_i64];omega];rfl,HB.out⟩
def adr (p:Nat):Nat:=(1+p)*4096
theorem Yeo (h:BV B A n s w) (hn:n<=80) (p:Nat) (hp:p<=2000):Calls Tryz.prog 186 #[Zcv B,iV p] w (Zan (iV (adr p:Int)) w):=by
 have HB:=hid fun X (hX:BV B A n s X)=>Zn7 hX hn
 have H:=hid h;have h1:IntKind.i64.wrap (1+(p:Int))=1+p:=by rw[IntKind.wrap_i64];omega
 have h2:IntKind.i64.wrap ((1+(p:Int))*4096)=((1+p)*4096:Nat):=by rw[IntKind.wrap_i64];omega
 have e:Hid (((adr p:Nat):Int)=(1+(p:Int))*4096):=hid (by unfold adr;omega);clear h;go_enter Tryz.func186,Tryz.ntmps186;go_wp2_with fail
 refine(HB.out _ H.out).mono ?_
 rintro e w' ⟨rfl,hb⟩;have HW:=hid hb;clear hb;go_wp2_with fail
 go_ret
 exact⟨by rw[e.out];rfl,HW.out⟩
theorem Yfg (a k:Int) (hk:1<=k) (h0: -9223372036854775808<=a) (h1:a<=9223372036854775807): -9223372036854775808<=a.tdiv k/\a.tdiv k<=9223372036854775807:=by
 have:=Int.tdiv_mul_le a (show k≠0 by omega)
 rcases Int.le_total 0 a with c|c
 · have h2:=Int.tdiv_le_self k c
   have h3:=Int.tdiv_nonneg c (show 0<=k by omega);omega
 · have e:a.tdiv k= -((-a).tdiv k):=by rw[Int.neg_tdiv,Int.neg_neg]
   have h2:=Int.tdiv_le_self (a:= -a) k (by omega);have h3:=Int.tdiv_nonneg (a:= -a) (b:=k) (by omega) (by omega);omega
theorem Yeh (h:BV B A n s w) (hn:n<=80) (a q:Int) (hq:a.tdiv 4096=q) (h0: -9223372036854775807<=q) (h1:q<=9223372036854775807):Calls Tryz.prog 124 #[Zcv B,iV a] w (Zan (iV (q-1)) w):=by
 have HB:=hid fun X (hX:BV B A n s X)=>Zn7 hX hn
 have H:=hid h;have hw0:IntKind.i64.wrap q=q:=by rw[IntKind.wrap_i64];omega
 have hw:IntKind.i64.wrap (q-1)=q-1:=by rw[IntKind.wrap_i64];omega
 clear h;go_enter Tryz.func124,Tryz.ntmps124;go_wp2_with fail
 refine(HB.out _ H.out).mono ?_
 rintro e w' ⟨rfl,hb⟩;have HW:=hid hb;clear hb;go_wp2_with fail
 go_ret
 exact⟨by trivial,HW.out⟩
theorem Zrr (h:BV B A n s w) (G:Nat) (hG:G<=80) (ht:Zac s.L s.es 8 8=0) (hm:Zck s.mm 8 8=G):Calls Tryz.prog 88 #[Zcv B] w (Zan (iV G) w):=by
 have HL:=hid fun X (hX:BV B A n s X)=>Zfw hX.1 0 256 (by omega) (by omega) 8 8 (by omega)
 have ha:Zai 0 256 8 8=8:=by decide
 have he:Zb9 s.L s.es 8 8=0:=by unfold Zb9;rw[show Za6 8=true from rfl,if_pos rfl];exact ht
 have hv:ldV s 8 8=(G:Int):=by unfold ldV;rw[if_pos he];exact congrArg Int.ofNat hm
 rw[ha,he,hv]at HL;have H:=hid h;obtain⟨c0,c1,c2,c3,_⟩:=h.all;have hw:IntKind.i64.wrap (G:Int)=G:=by rw[IntKind.wrap_i64];omega
 clear h ht hm ha he hv;go_enter Tryz.func88,Tryz.ntmps88;go_wp2_with fail
 refine(HL.out _ H.out).mono ?_
 rintro e w' ⟨rfl,hb⟩;have HW:=hid hb;clear hb;go_wp2_with fail
 go_ret
 exact⟨by trivial,HW.out⟩
theorem Zxq (h:BV B A n s w) (G:Nat) (hG:G<=80) (ht:Zac s.L s.es 8 8=0):Calls Tryz.prog 179 #[Zcv B,iV G] w (Ret A {s with mm:=Zc4 s.mm 8 G} (.tuple #[]) w):=by
 have HL:=hid fun X (hX:BV B A n s X)=>Zdr hX.1 0 256 (by omega) (by omega) 8 8 (G:Int) (by omega) (by omega)
 have ha:Zai 0 256 8 8=8:=by decide
 have he:Zb9 s.L s.es 8 8=0:=by unfold Zb9;rw[show Za6 8=true from rfl,if_pos rfl];exact ht
 have hv:Zbx s 8 8 (G:Int)={s with mm:=Zc4 s.mm 8 G}:=by unfold Zbx Zc4;rw[if_pos he];rfl
 rw[ha,he,hv]at HL;have H:=hid h;obtain⟨c0,c1,c2,c3,_⟩:=h.all;have hw:IntKind.u64.wrap (G:Int)=G:=by rw[IntKind.wrap_u64];omega
 clear h ht ha he hv;go_enter Tryz.func179,Tryz.ntmps179;go_wp2_with fail
 refine(HL.out _ H.out).mono ?_
 rintro e w' ⟨rfl,hx,hg⟩;have HW:=hid (And.intro hx hg);clear hx hg;go_wp2_with fail;exact bodyPost_ret (v:=.tuple #[]) (by simp[results,Tryz.results179,go_sem]) rfl ⟨rfl,HW.out.1,HW.out.2⟩
end
theorem Zl5 (k:Int) (w:World):Calls Tryz.prog 120 #[iV k] w fun e w'=>e=.returned (.bool (decide (0<=k/\k<=10)))/\w=w':=by
 by_cases h0:0<=k
 · by_cases h1:k<=10
   · have d1:¬10<k:=by omega
     go_enter Tryz.func120,Tryz.ntmps120;go_wp2_with fail
     go_ret
     exact⟨by simp[h0,h1],rfl⟩
   · have d1:10<k:=by omega
     go_enter Tryz.func120,Tryz.ntmps120;go_wp2_with fail
     go_ret
     exact⟨by simp[h0,h1],rfl⟩
 · have d0:k<0:=by omega
   go_enter Tryz.func120,Tryz.ntmps120;go_wp2_with fail
   go_ret
   exact⟨by rw[decide_eq_false (show¬0<=k by omega)];rfl,rfl⟩
end
section
open Go Go.RowKit Go.Shelf
abbrev lsP (pa:Option Addr) (va vs:Nat):Value:=.agg #[.pointer pa,iV va,iV vs]
theorem Ybw (pa:Option Addr) (va vs:Nat) (w:World):Calls Tryz.prog 131 #[.agg #[.pointer pa,iV va,iV vs]] w (Zan (lsP pa va vs) w):=by
 go_enter Tryz.func131,Tryz.ntmps131;go_wp2_with fail;exact bodyPost_ret (v:=lsP pa va vs) (by simp[results,Tryz.results131,go_sem]) rfl ⟨rfl,Zbm _ _ _⟩
theorem Zqv (pa:Option Addr) (va vs:Nat) (h2:vs<=4294967296) (w:World):Calls Tryz.prog 223 #[lsP pa va vs] w (Zan (iV ((vs/8:Nat):Int)) w):=by
 have q1:IntKind.i64.wrap ((vs:Int).tdiv 8)=((vs/8:Nat):Int):=by rw[Int.tdiv_eq_ediv_of_nonneg (by omega),IntWalk.i64_in _ (by omega)];omega
 have HQ:=hid q1;clear q1;go_enter Tryz.func223,Tryz.ntmps223;go_wp2_with fail
 refine(Zgo pa va vs _).mono ?_
 rintro e w1 ⟨rfl,hb⟩;have q1:=HQ.out;go_wp2_with fail
 go_ret
 exact⟨by first|rfl|(rw[<-HQ.out];rfl),((Below.refl w.heap.size w).alloc (Nat.le_refl _) _).trans (hb.mono (by simp))⟩
theorem Yjd (L:Nat) (es:List Nat) (a:Int):Zb9 L es a 8=Zac L es a 8:=rfl
theorem Zj3 {a z:Nat} (h8:8<=z):Zai a z 0 8=(a:Int):=by unfold Zai;rw[if_pos (by omega)];omega
section
variable {A:Nat} {s:ASt} {w:World}
theorem ld8 {a:Nat} (hn:Zac s.L s.es a 8=0):ldV s a 8=(Zck s.mm a 8:Int):=by
 unfold ldV;rw[Yjd,if_pos hn];rfl
theorem Zv9 (h:On A s w) (a z m:Nat) (h1:a<=4294967296) (h2:z<=4294967296) (h8:8<=z) (hm:m<=4294967296) (hn:Zac s.L s.es a 8=0) (hv:Zck s.mm a 8=m) (b:Int):
 Calls Tryz.prog 184 #[vwV A a z,iV b] w (Zan (iV (if(m:Int)<=b then 0 else(m:Int))) w):=by
 have HL:=hid (Zfw (h.below (Zaj w (.cells #[pT A,iV a,iV z] 40))) a z h1 h2 0 8 (by omega));have HV:Hid (ldV s (Zai a z 0 8) 8=(m:Int)):=hid (by rw[Zj3 h8,ld8 hn,hv]);have q1:IntKind.i64.wrap (m:Int)=(m:Int):=IntWalk.i64_in _ (by omega);clear hn hv h;have HB:=hid (Zaj w (.cells #[pT A,iV a,iV z] 40));by_cases hb:(m:Int)<=b
 · rw[if_pos hb]
   go_enter Tryz.func184,Tryz.ntmps184;go_wp2_with fail;refine HL.out.mono ?_;rintro e w1 ⟨rfl,hbb⟩;rw[HV.out];have HF:=hid (HB.out.trans (hbb.mono HB.out.size));clear hbb;go_wp2_with fail
   go_ret
   exact⟨rfl,HF.out⟩
 · rw[if_neg hb]
   go_enter Tryz.func184,Tryz.ntmps184;go_wp2_with fail;refine HL.out.mono ?_;rintro e w1 ⟨rfl,hbb⟩;rw[HV.out];have HF:=hid (HB.out.trans (hbb.mono HB.out.size));clear hbb;go_wp2_with fail
   go_ret
   exact⟨by first|rfl|simp[q1],HF.out⟩
theorem Ydk (h:On A s w) (a z v:Nat) (h1:a<=4294967296) (h2:z<=4294967296) (h8:8<=z) (hv:v<=4294967296) (hn:Zac s.L s.es a 8=0):
 Calls Tryz.prog 183 #[vwV A a z,iV v] w (Ret A {s with mm:=Zc4 s.mm a v} (iV 0) w):=by
 have HB:=hid (Zaj w (.cells #[pT A,iV a,iV z] 40));have HO:=hid h;have HS:=hid (Zdr (h.below HB.out) a z h1 h2 0 8 (v:Int) (by omega) (by omega));have HN:Hid (Zb9 s.L s.es (Zai a z 0 8) 8=0):=hid (by rw[Zj3 h8,Yjd];exact hn)
 have HM:Hid (Zbx s (Zai a z 0 8) 8 v={s with mm:=Zc4 s.mm a v}):=hid (by
  unfold Zbx;rw[HN.out,if_pos rfl,Zj3 h8];rfl)
 have q1:IntKind.u64.wrap (v:Int)=(v:Int):=by rw[IntKind.wrap_u64];omega
 clear hn h;go_enter Tryz.func183,Tryz.ntmps183;go_wp2_with fail;refine HS.out.mono ?_;rintro e w1 ⟨rfl,hx,hg⟩;rw[HN.out];rw[HM.out]at hx
 have HF:=hid (And.intro hx ((Zam.Zad HO.out HB.out).trans hg));clear hx hg;go_wp2_with fail
 go_ret
 exact⟨rfl,HF.out.1,HF.out.2⟩
end
end
end Go.Proofs.YtgcidfenjlmljaaGreat.Bt
