import Derived.Test.YtgcidfenjlmljaaGreatPg18
import Derived.Test.YtgcidfenjlmljaaGreatPg16
import Derived.Deep.DeepCutAuto
import Derived.Test.YtgcidfenjlmljaaGreatPgR
set_option linter.unusedVariables false
set_option linter.unusedSimpArgs false
set_option maxRecDepth 100000
set_option maxHeartbeats 16000000
namespace Go.Proofs.YtgcidfenjlmljaaGreat.Sz
section
open Go Go.RowKit
theorem Zvp (p:Int) (j:Nat) (hj:j<=10) (h1:1<=p) (hn:∀i,i<j->pw i<p) (hp:p<=pw j):Zna p=j/\Yf7 p=true:=by
 have hb:pw j<=1024:=by rw[<-Yc6];exact Zvh hj
 refine⟨?_,by simp[Yf7];omega⟩
 have e:∀i,pw i=2^i:=fun _=>rfl
 unfold Zna
 match j,hj with
 |0,_=>have:=e 0;simp at this;omega
 |1,_=>have a:=hn 0 (by omega);simp[e]at a hp;omega
 |2,_=>have a:=hn 1 (by omega);simp[e]at a hp;omega
 |3,_=>have a:=hn 2 (by omega);simp[e]at a hp;omega
 |4,_=>have a:=hn 3 (by omega);simp[e]at a hp;omega
 |5,_=>have a:=hn 4 (by omega);simp[e]at a hp;omega
 |6,_=>have a:=hn 5 (by omega);simp[e]at a hp;omega
 |7,_=>have a:=hn 6 (by omega);simp[e]at a hp;omega
 |8,_=>have a:=hn 7 (by omega);simp[e]at a hp;omega
 |9,_=>have a:=hn 8 (by omega);simp[e]at a hp;omega
 |10,_=>have a:=hn 9 (by omega);simp[e]at a hp;omega
 |n+11,h=>omega
theorem Zqm (p:Int) (hn:p<1\/∀i,i<11->pw i<p):Zna p=0/\Yf7 p=false:=by
 rcases hn with h|h
 · exact⟨by unfold Zna;omega,by simp[Yf7];omega⟩
 · have a:=h 10 (by omega)
   rw[Yc6]at a
   exact⟨by unfold Zna;omega,by simp[Yf7];omega⟩
theorem Zi4 {o:Int} (h:o<0\/10<o):Zou o=0:=by
 unfold Zou;by_cases h1:o<0
 · simp[h1]
 · rw[if_neg h1,if_pos (by omega)]
theorem Ycx (j:Nat) (h:j<=10):Zou j=4096*pw j:=by
 unfold Zou pw;rw[if_neg (by omega),if_neg (by omega)];simp
theorem Zki (o:Int) (w:World):Calls Tryz.prog 85 #[.int .i64 o] w fun e w'=>e=.returned (.int .i64 (Zou o))/\w=w':=by
 by_cases h1:o<0
 · rw[Zi4 (.inl h1)]
   go_enter Tryz.func85,Tryz.ntmps85
   go_wp2
   go_ret
   exact⟨rfl,rfl⟩
 · by_cases h2:10<o
   · rw[Zi4 (.inr h2)]
     go_enter Tryz.func85,Tryz.ntmps85
     go_wp2
     go_ret
     exact⟨rfl,rfl⟩
   · obtain⟨j,rfl⟩:=Int.eq_ofNat_of_zero_le (show 0<=o by omega)
     rw[Ycx j (by omega)];have hle:pw j<=1024:=by rw[<-Yc6];exact Zvh (by omega)
     have hp1:=Ybp j;have hw:wrap64 (4096*2^j)=4096*pw j:=IntWalk.wrap64_in (4096*pw j) ⟨by omega,by omega⟩;go_enter Tryz.func85,Tryz.ntmps85
     go_wp2
     go_ret
     exact⟨rfl,rfl⟩
end
section
open Go Go.RowKit
def Zmf:Int->List Int->Option Int
 |t,[]=>some t
 |t,x::r=>if Zgc x&&Zgc (t+x)then Zmf (t+x) r else none
def Ycu (l:List Int):Int:=(Zmf 0 l).getD 0
def Ycw (l:List Int):Bool:=(Zmf 0 l).isSome
theorem Ycs {t:Int} {l zs:List Int} (h:Zmf 0 zs=Zmf t l) (hl:l=[]):Ycu zs=t/\Ycw zs=true:=by
 subst hl;unfold Ycu Ycw;rw[h];simp[Zmf]
theorem Zun {t x:Int} {zs:List Int} {k:Nat} (h:Zmf 0 zs=Zmf t (zs.drop k)) (hk:k<zs.length) (hx:zs.getD k 0=x) (hb:¬(Zgc x=true/\Zgc (t+x)=true)):Ycu zs=0/\Ycw zs=false:=by
 have e:zs.drop k=x::zs.drop (k+1):=by
  rw[List.drop_eq_getElem_cons hk];simp[List.getD_eq_getElem?_getD,List.getElem?_eq_getElem hk]at hx;rw[hx]
 have hf:Zmf 0 zs=none:=by
  rw[h,e,Zmf,if_neg];simpa using hb
 unfold Ycu Ycw;rw[hf];simp
theorem Zys {t x:Int} {zs:List Int} {k:Nat} (h:Zmf 0 zs=Zmf t (zs.drop k)) (hk:k<zs.length) (hx:zs.getD k 0=x) (hb:Zgc x=true/\Zgc (t+x)=true):Zmf 0 zs=Zmf (t+x) (zs.drop (k+1)):=by
 have e:zs.drop k=x::zs.drop (k+1):=by
  rw[List.drop_eq_getElem_cons hk];simp[List.getD_eq_getElem?_getD,List.getElem?_eq_getElem hk]at hx;rw[hx]
 rw[h,e,Zmf,if_pos];simpa using hb
theorem Zum (b off cap:Nat) (zs:List Int) (w:World) (hlen:zs.length<=9223372036854775807)
 (hc:∀k,k<zs.length->w.cell? ⟨b,off+k,none⟩=some (.int .i64 (zs.getD k 0))):
 Calls Tryz.prog 173 #[.slice (some ⟨b,off,none⟩) zs.length cap] w fun e w'=>e=.returned (.tuple #[.int .i64 (Ycu zs),.bool (Ycw zs)])/\w=w':=by
 have HC:=Lib.hid hc;clear hc
 go_enter Tryz.func173,Tryz.ntmps173
 go_wp2
 go_loop [4,9] (fun t i=>∃k:Nat,∃n:Int,k<=zs.length/\0<=n/\n<=4294967296/\Zmf 0 zs=Zmf n (zs.drop k)/\i=.int .i64 k/\t=.int .i64 n) (fun _ i=>(zs.length-intOf i).toNat)
 case atStart=>exact⟨0,0,by omega,by omega,by omega,rfl,rfl,rfl⟩
 case round=>
  obtain⟨k,n,hk,hn0,hn1,hs,rfl,rfl⟩:=hrel;have HS:=Lib.hid hs;clear hs
  by_cases hlt:k<zs.length
  · obtain⟨x,hx⟩:∃x,zs.getD k 0=x:=⟨_,rfl⟩
    have hcell:w.cell? ⟨b,off+k,none⟩=some (.int .i64 x):=by rw[<-hx];exact HC.out k hlt
    have HX:=Lib.hid hx;clear hx
    by_cases hneg:x<0
    · obtain⟨e1,e2⟩:=Zun HS.out hlt HX.out (fun h=>by have:=Zeu h.1;omega)
      have E1:=Lib.hid e1;have E2:=Lib.hid e2;clear e1 e2
      go_wp2
      go_ret2
      exact⟨by rw[E1.out,E2.out];rfl,rfl⟩
    · by_cases hbig:4294967296-n<x
      · obtain⟨e1,e2⟩:=Zun HS.out hlt HX.out (fun h=>by have:=Zeu h.2;omega)
        have E1:=Lib.hid e1;have E2:=Lib.hid e2;clear e1 e2
        go_wp2
        go_ret2
        exact⟨by rw[E1.out,E2.out];rfl,rfl⟩
      · have hb:Zgc x=true/\Zgc (n+x)=true:=⟨Zpc (by omega),Zpc (by omega)⟩
        have HN:=Lib.hid (Zys HS.out hlt HX.out hb);clear hb
        go_wp2
        go_round
        case rel=>exact⟨k+1,n+x,by omega,by omega,by omega,HN.out,by go_num,rfl⟩
        case measure=>simp[intOf];omega
  · obtain⟨e1,e2⟩:=Ycs HS.out (List.drop_eq_nil_of_le (by omega))
    have E1:=Lib.hid e1;have E2:=Lib.hid e2;clear e1 e2
    go_wp2
    go_ret2
    exact⟨by rw[E1.out,E2.out];rfl,rfl⟩
end
end Go.Proofs.YtgcidfenjlmljaaGreat.Sz
namespace Go.Proofs.YtgcidfenjlmljaaGreat.Bt
section
open Go Go.RowKit Go.Shelf
theorem Yfd (g k:Nat) (hg:g<=80) (hk:k<=10):Sz.upV (g:Int) ((2^k:Nat):Int)=((upN g (2^k):Nat):Int)/\Sz.upB (g:Int) ((2^k:Nat):Int)=true:=by
 have hi:Sz.Zgc (g:Int)=true:=by unfold Sz.Zgc;rw[decide_eq_true_iff];omega
 have h2:k=0\/k=1\/k=2\/k=3\/k=4\/k=5\/k=6\/k=7\/k=8\/k=9\/k=10:=by omega
 have hw:Sz.Za6 ((2^k:Nat):Int)=true:=by rcases h2 with rfl|rfl|rfl|rfl|rfl|rfl|rfl|rfl|rfl|rfl|rfl<;>decide
 have h0:=Zae k;obtain⟨b1,b2,b3,b4⟩:=Sz.Yfe hi hw;obtain⟨u1,u2,u3,_⟩:=Zmp (g:=g) h0
 refine⟨?_,by unfold Sz.upB;rw[hi,hw];rfl⟩
 unfold Sz.upV;rw[hi,hw];simp only[Bool.and_self,if_true];generalize ((g:Int)+((2^k:Nat):Int)-1)/((2^k:Nat):Int)*((2^k:Nat):Int)=V at*
 obtain⟨v,rfl⟩:=Int.eq_ofNat_of_zero_le (show 0<=V by omega);generalize 2^k=P at*
 generalize upN g P=u at*
 have:v=u:=Zlo (n:=P) (by omega) u3 (by omega) (by omega)
 rw[this]
theorem Zsn {g k:Nat} {R:Zag} (h:Til g R g):Zcf R (Zfm R g k false):=fun i l=>by
 constructor
 · intro q
   rcases Zbz q with⟨_,_,c⟩|⟨_,c⟩
   · cases c
   · exact c
 · intro q
   rw[Zcs (.inl (h.lt q))];exact q
structure Stp (B A n E p:Nat) (R0:Zag) (m0:Nat->UInt8) (rf:Bool) (lf:Nat) (w:World) (R:Zag) (s:ASt) (wr:World):Prop where
 bv:BV B A n s wr
 bu:Bud (n+1) E p R p s
 wt:Zam A w wr
 tk:Zcf R0 R
 kp:Zcx R0 m0 s.mm
 rf:s.rf=rf
 lf:s.lf=lf
section
variable {B A n E p:Nat} {R0:Zag} {m0:Nat->UInt8} {rf:Bool} {lf:Nat} {w:World}
theorem Stp.below {R:Zag} {s:ASt} {wr w':World} (h:Stp B A n E p R0 m0 rf lf w R s wr) (hb:Below wr.heap.size wr w'):Stp B A n E p R0 m0 rf lf w R s w':=
 {h with bv:=h.bv.below hb,wt:=h.wt.trans (Zam.Zad h.bv.1 hb)}
theorem Stp.run {R:Zag} {s:ASt} {wr:World} {k:Nat} (h:Stp B A n E p R0 m0 rf lf w R s wr) (hk:k<=10) (hp:p%2^k=0) (hE:p+2^k<=E):
 Calls Tryz.prog 181 #[Zcv B,iV p,iV k] wr fun e w'=>e=.returned (.tuple #[])/\∃R' s',Stp B A n E (p+2^k) R0 m0 rf lf w R' s' w':=by
 refine(Zrm h.bv (h.bu.more hk hp hE) (Zb5 _ _ _ _)).mono ?_
 rintro e w' ⟨rfl,R',s',g1,g2,g3,g4,g5,g6,g7⟩;have t1:=Zsn (k:=k) h.bu.ti
 refine⟨rfl,R',s',g1,g2,h.wt.trans g3,(h.tk.trans t1).trans g4,h.kp.trans ⟨fun i l e a q1 q2=>g5.1 i l ((t1 i l).2 e) a q1 q2,g5.2⟩ h.tk,g6.trans h.rf,g7.trans h.lf⟩
end
def Zog (B A n g:Nat) (R:Zag) (s:ASt) (w w':World):Prop:=BV B A n (Zbs s) w'/\Bud (n+1) g g R g (Zbs s)/\Zam A w w'
theorem Bud.ref {cap G g x:Nat} {R:Zag} {s:ASt} (h:Bud cap G g R x s):Bud cap G g R x (Zbs s):=
 {cL:=(Zfg s).trans h.cL,c2:=h.c2,es:=(Zjb s).trans h.es,gG:=h.gG,mr:=by rw[Zdk];exact h.mr,gr:=by rw[Zdk];exact h.gr,tg:=by rw[Zdk];exact h.tg,ls:=by rw[Zfg,Zjb,Zdk];exact h.ls,ti:=h.ti}
section
variable {B A n g:Nat} {R:Zag} {s:ASt} {w:World}
theorem Zvi (R:Zag) (m:Nat->UInt8) (v:Nat):Zcx R m (Zc4 m 8 v):=⟨fun i k e a h1 h2=>Zav _ _ (by omega),fun a h1 h2=> .inl (Zav _ _ (by omega))⟩
theorem Yem (h:BV B A n s w) (hB:Bud (n+1) g g R g s) (E:Nat) (hE:g<E):
 Calls Tryz.prog 115 #[pT A,iV ((1+g:Nat):Int),iV ((E-g:Nat):Int)] w fun e w'=>∃c:Int,e=.returned (iV c)/\
  ((c≠0/\n<E/\BV B A n s w'/\Zam A w w')\/(c≠0/\E<=n/\Zd7 s=true/\Zog B A n g R s w w')\/(c=0/\E<=n/\Zd7 s=false/\BV B A n {Zbs s with es:=[0,1+E]} w'/\Zam A w w')):=by
 have hz:=hB.sz h.2.1
 refine(Zd1 h.1 _ _ (by omega)).mono ?_
 rintro e w' ⟨rfl,ho,hg⟩
 refine⟨_,rfl,?_⟩
 by_cases c:n<E
 · obtain⟨q1,q2⟩:=Yh4 (e:=1+g) (d:=E-g) hB.cL (by omega) (by omega)
   rw[q1];rw[q2]at ho
   exact .inl ⟨by decide,c,h.Zaq ho hg rfl,hg⟩
 · cases r:Zd7 s with
   |true=>
    obtain⟨q1,q2⟩:=Zr3 (e:=1+g) (d:=E-g) hB.cL hB.es (by omega) (by omega) (by omega) r;rw[q1];rw[q2]at ho
    exact .inr (.inl ⟨by decide,by omega,rfl,h.Zaq ho hg (Zfg s),hB.ref,hg⟩)
   |false=>
    obtain⟨q1,q2⟩:=Zyj (e:=1+g) (d:=E-g) hB.cL hB.es (by omega) (by omega) (by omega) (by omega) r;rw[q1];rw[q2]at ho
    rw[show 1+g+(E-g)=1+E from by omega]at ho;exact .inr (.inr ⟨rfl,by omega,rfl,h.Zaq ho hg (Zfg s),hg⟩)
def Zrz (B A n g k:Nat) (R:Zag) (s:ASt) (w:World) (e:Ending) (w':World):Prop:=
 (e=.returned (iV 4)/\n<upN g (2^k)+2^k/\BV B A n s w'/\Zam A w w')\/
 (e=.returned (iV 4)/\upN g (2^k)+2^k<=n/\Zd7 s=true/\Zog B A n g R s w w')\/
 (e=.returned (iV 0)/\upN g (2^k)+2^k<=n/\Zd7 s=false/\∃R' s',Stp B A n (upN g (2^k)+2^k) (upN g (2^k)+2^k) R s.mm (Zbs s).rf (Zbs s).lf w R' s' w')
end
end
section
open Go Go.RowKit Go.Shelf
section
variable {B A n g:Nat} {R:Zag} {s:ASt} {w:World}
theorem Zxw (h:BV B A n s w) (hB:Bud (n+1) g g R g s) (k:Nat) (hk:k<=10):Calls Tryz.prog 122 #[Zcv B,iV k] w (Zrz B A n g k R s w):=by
 have hz:=hB.sz h.2.1;have hd:decide (0<=(k:Int)/\(k:Int)<=10)=true:=by rw[decide_eq_true_iff];omega
 obtain⟨hN,hN1,hN2⟩:=Zli k (by omega);have HN:=hid hN;clear hN;obtain⟨u1,u2,u3,_⟩:=Zmp (g:=g) (Zae k);obtain⟨v1,v2⟩:=Yfd g k (by omega) hk;have HU:=hid fun X=>Sz.Zk3 (g:Int) ((2^k:Nat):Int) X
 rw[v1,v2]at HU;have HGR:=hid fun X (hX:BV B A n s X)=>Zrr hX g (by omega) hB.front hB.gr
 have HBA:=hid fun X (hX:BV B A n s X)=>Zn7 hX hz.2.1
 have HCM:=hid fun X (hX:BV B A n s X)=>Yem (R:=R) hX hB (upN g (2^k)+2^k) (by omega)
 have HB:=hid hB;have HGP:Hid (∀e w',Zrz B A n g k R s w e w'↔((e=.returned (iV 4)/\n<upN g (2^k)+2^k/\BV B A n s w'/\Zam A w w')\/
 (e=.returned (iV 4)/\upN g (2^k)+2^k<=n/\Zd7 s=true/\Zog B A n g R s w w')\/
 (e=.returned (iV 0)/\upN g (2^k)+2^k<=n/\Zd7 s=false/\∃R' s',Stp B A n (upN g (2^k)+2^k) (upN g (2^k)+2^k) R s.mm (Zbs s).rf (Zbs s).lf w R' s' w'))):=hid fun e w'=>Iff.rfl
 have HU3:=hid u3;obtain⟨u,hu⟩:=eX (upN g (2^k));obtain⟨P,hP⟩:=eX (2^k);have HP:=hid hP;rw[hu,hP]at HCM HGP HU;rw[hu]at u1 u2 HU3;rw[hP]at u2 HN hN1 hN2 HU3;obtain⟨E,hE⟩:=eX (u+P);rw[hE]at HCM HGP;have HRN:Hid (∀(p:Nat) (R':Zag) (s':ASt) (X:World),Stp B A n (E) p R s.mm (Zbs s).rf (Zbs s).lf w R' s' X->∀k':Nat,k'<=10->p%2^k'=0->p+2^k'<=E->Calls Tryz.prog 181 #[Zcv B,iV p,iV k'] X fun e w'=>e=.returned (.tuple #[])/\∃R'' s'',Stp B A n (E) (p+2^k') R s.mm (Zbs s).rf (Zbs s).lf w R'' s'' w'):=hid fun p R' s' X hX k' h1 h2 h3=>Stp.run (k:=k') hX h1 h2 h3
 have E1:Hid (IntKind.i64.wrap ((u:Int)+(P:Int))=(E:Int)):=hid (by rw[IntKind.wrap_i64];omega);have E2:Hid (IntKind.i64.wrap ((1:Int)+(g:Int))=((1+g:Nat):Int)):=hid (by rw[IntKind.wrap_i64];omega);have E3:Hid (IntKind.i64.wrap ((E:Int)-(g:Int))=((E-g:Nat):Int)):=hid (by rw[IntKind.wrap_i64];omega);have HE:=hid hE;have HV:=hid h;have HZ:=hid hz;have HD:=hid hd;have HK:=hid hk;obtain⟨G1,hG1⟩:=eX (1+g);obtain⟨D1,hD1⟩:=eX (E-g);rw[hG1,hD1]at HCM;rw[hG1]at E2;rw[hD1]at E3;have HSM:Hid (E<=3000/\u<=1200/\P<=1024/\1<=P/\g<=u/\u<g+P):=hid (by omega);clear u3 v1 v2 hu hP hE hd h hB hG1 hD1 hz;have hN:=HN.out;have e1:=E1.out;have e2:=E2.out;have e3:=E3.out;go_enter Tryz.func122,Tryz.ntmps122;go_wp2_with fail
 refine(Zl5 k _).mono ?_
 rw[HD.out];rintro e w' ⟨rfl,rfl⟩;go_wp2_with fail
 refine(HGR.out _ HV.out).mono ?_
 rintro e w1 ⟨rfl,hb⟩;have HV1:=hid (HV.out.below hb);have HW1:=hid (Zam.Zad HV.out.1 hb);clear hb;go_wp2_with fail
 refine(HU.out _).mono ?_
 rintro e w' ⟨rfl,rfl⟩;go_wp2_with fail
 go_region_held3 (fun x=>x.cell? (aD B 0)=some (pT A))
  (first|(have q:=(HV1.out.below (Below.refl _ _).drew).all;exact q.1)|assumption)
  (first|(go_at_call 14;refine(HBA.out _ (HV1.out.below (Below.refl _ _).drew)).mono ?_;rintro e w' ⟨rfl,hb⟩;have hb2:=(Below.refl _ _).drew.trans hb;have hv2:=HV1.out.below hb2;have kk:=hv2.all.1)
        |(go_at_call 115;refine(HCM.out _ hv2).mono ?_;rintro e w3 ⟨c,rfl,hc⟩;have hc2:=hid hc;have hww:=HW1.out.trans (Zam.Zad HV1.out.1 hb2);have kk2:w3.cell? (aD B 0)=some (pT A):=(by rcases hc2.out with⟨_,_,q,_⟩|⟨_,_,_,q⟩|⟨_,_,_,q,_⟩;exact q.all.1;exact q.1.all.1;exact q.all.1);have hw3:=hid hww))
 clear kk kk2 hc hb hb2 hv2 hww HGR HBA HCM HV1 HU;rcases hc2.out with⟨c0,cn,q1,q2⟩|⟨c0,cn,cr,q1⟩|⟨rfl,cn,cr,q1,q2⟩
 · have HF:=hid ((HGP.out (.returned (iV 4)) w3).2 (.inl ⟨rfl,cn,q1,hw3.out.trans q2⟩))
   have hcb:(c !=0)=true:=by simpa using c0
   clear q1 q2 HRN HGP hc2 cn;go_wp2_with fail
   go_ret
   exact HF.out
 · have HF:=hid ((HGP.out (.returned (iV 4)) w3).2 (.inr (.inl ⟨rfl,cn,cr,q1.1,q1.2.1,hw3.out.trans q1.2.2⟩)))
   have hcb:(c !=0)=true:=by simpa using c0
   clear q1 HRN HGP hc2 cn cr;go_wp2_with fail
   go_ret
   exact HF.out
 · have HCN:=hid cn
   have hz:=HZ.out;have sm:=HSM.out;have hsg:=hid (Zxq q1 E (by omega) (by show Zac (Zbs s).L [0,1+E] 8 8=0;rw[Zfg];have:=HV.out.2.1;exact Zeb (by omega) (by omega) (by omega) (by omega) (by omega) (by omega)))
   have hst:Hid (∀X,On A {({Zbs s with es:=[0,1+E]}:ASt)with mm:=Zc4 (Zbs s).mm 8 E} X->Zam A w X->Zj8 B A n X->Stp B A n E g R s.mm (Zbs s).rf (Zbs s).lf w R {({Zbs s with es:=[0,1+E]}:ASt)with mm:=Zc4 (Zbs s).mm 8 E} X):=hid fun X h1 h2 h3=>by
    have hb:=HB.out.grown (E:=E) (rf:=(Zbs s).rf) (lf:=(Zbs s).lf) (by have:=HSM.out;have:=HE.out;omega) (by have:=HCN.out;omega);have e:(⟨s.L,[0,1+E],Zc4 s.mm 8 E,(Zbs s).rf,(Zbs s).lf⟩:ASt)={({Zbs s with es:=[0,1+E]}:ASt)with mm:=Zc4 (Zbs s).mm 8 E}:=by rw[Zdk,<-Zfg s]
    rw[e]at hb
    exact⟨⟨h1,(Zfg s).trans HV.out.2.1,h3⟩,hb,h2,Zcf.refl _,by show Zcx R s.mm (Zc4 (Zbs s).mm 8 E);rw[Zdk];exact Zvi _ _ _,rfl,rfl⟩
   have HQ:=hid (And.intro q1 (hw3.out.trans q2));obtain⟨sG,hsG⟩:=eX (({({Zbs s with es:=[0,1+E]}:ASt)with mm:=Zc4 (Zbs s).mm 8 E}:ASt));have hsg2:Hid (Calls Tryz.prog 179 #[Zcv B,iV E] w3 (Ret A sG (.tuple #[]) w3)):=hid (by rw[<-hsG];exact hsg.out);rw[hsG]at hst;clear q1 q2 hsg hsG hz sm cn;go_wp2_with fail;refine hsg2.out.mono ?_;rintro e w4 ⟨rfl,ho,hg⟩;have HS:=hid (hst.out w4 ho (HQ.out.2.trans hg) (hg.Zdn HQ.out.1.1 HQ.out.1.2.2 (by decide) (by decide) (by decide)));clear ho hg hst hsg2;go_wp2_with fail
   go_loopw[9] (fun s9 wr=>∃(p:Nat) (R':Zag) (s':ASt),p<=u/\s9=iV p/\Hid (Stp B A n E p R s.mm (Zbs s).rf (Zbs s).lf w R' s' wr)) (fun s9 _=>u-(intOf s9).toNat)
   case atStart=>exact⟨g,R,sG,u1,rfl,HS⟩
   case round=>
    clear HS;obtain⟨p,R',s',hpu,rfl,HS⟩:=hrel;by_cases hlt:p<u
    · have hlt2:(p:Int)<(u:Int):=by omega
      have HG:=hid fun X=>Zxx p u hlt (by have:=HSM.out;omega) X
      go_wp2_with fail
      refine(HG.out _).mono ?_
      rintro e w5 ⟨k',rfl,hk',hm',hf',rfl⟩;have HR:=hid (HRN.out p R' s' _ HS.out k' hk' hm' (by have:=HE.out;omega));obtain⟨hN',_,_⟩:=Zli k' (by omega);have HN':=hid hN';clear hN';obtain⟨P',hP'⟩:=eX (2^k');have hp0:=Zae k';rw[hP']at HN' HR hf' hp0;obtain⟨p2,hp2⟩:=eX (p+P');rw[hp2]at HR;have E4:Hid (IntKind.i64.wrap ((p:Int)+(P':Int))=(p2:Int)):=hid (by have:=HSM.out;rw[IntKind.wrap_i64];omega);have hpp:p<p2/\p2<=u:=by omega
      have hN':=HN'.out;have e4:=E4.out;clear hP' hp2 hm' hf' HG hp0;go_wp2_with fail;refine HR.out.mono ?_;rintro e w6 ⟨rfl,R2,s2,hs2⟩;have HS2:=hid hs2;clear hs2 HR;go_wp2_with fail
      refine⟨⟨p2,R2,s2,hpp.2,rfl,HS2⟩,by simp[intOf];omega⟩
    · obtain rfl:p=u:=by omega
      have HR:=hid (HRN.out p R' s' _ HS.out k HK.out (by rw[HP.out];exact HU3.out) (by rw[HP.out,HE.out];exact Nat.le_refl _));rw[HP.out,HE.out]at HR;go_wp2_with fail;refine HR.out.mono ?_;rintro e w6 ⟨rfl,R2,s2,hs2⟩;have HF:=hid ((HGP.out (.returned (iV 0)) w6).2 (.inr (.inr ⟨rfl,HCN.out,cr,R2,s2,hs2⟩)));clear hs2 HR;go_wp2_with fail
      go_ret
      exact HF.out
end
end
section
open Go Go.RowKit Go.Shelf
theorem Zhs (x:Nat):((adr x:Nat):Int).tdiv 4096=((1+x:Nat):Int):=by
 rw[Int.tdiv_eq_ediv_of_nonneg (by omega)];unfold adr;omega
def Zk0 (R R':Zag) (x k:Nat):Prop:=∀i l,R' i=some (l,true)↔((i=x/\l=k)\/R i=some (l,true))
theorem Zsz {g x k:Nat} {R:Zag} (h:Tile g R) (e:R x=some (k+1,false)):Zcf R (Zd8 R x k false):=fun i l=>by
 have hn:=Zjs h e
 constructor
 · intro q
   rcases Zjt q with⟨_,_,c⟩|⟨_,_,_,c⟩|⟨_,_,c⟩
   · cases c
   · cases c
   · exact c
 · intro q
   have n1:i≠x:=fun c=>by rw[c,e]at q;cases (Zbc q).2
   have n2:i≠x+2^k:=fun c=>by rw[c,hn]at q;cases q
   unfold Zd8;rw[if_neg n1,if_neg n2];exact q
theorem Zr7 {g x k:Nat} {R:Zag} (h:Tile g R) (e:R x=some (k,false)):Zk0 R (Zfm R x k true) x k:=fun i l=>by
 constructor
 · intro q
   rcases Zb0 q with⟨c,d,_⟩|⟨_,c⟩
   · exact .inl ⟨c,d⟩
   · exact .inr c
 · rintro (⟨rfl,rfl⟩|q)
   · exact Zb5 _ _ _ _
   · exact h.fwd e (fun c=>by rw[c,e]at q;cases (Zbc q).2) q
def Yjh (B A n g x k:Nat) (R:Zag) (s:ASt) (w w':World):Prop:=
 ∃R' s',BV B A n s' w'/\Bud (n+1) g g R' g s'/\Zam A w w'/\Zk0 R R' x k/\Zcx R s.mm s'.mm/\s'.rf=s.rf/\s'.lf=s.lf
section
variable {B A n G g:Nat} {R0:Zag} {s0:ASt} {w:World}
theorem Stp.pick {R:Zag} {s:ASt} {wr:World} {x l:Nat} (h:Stp B A n g g R0 s0.mm s0.rf s0.lf w R s wr) (e:R x=some (l,false)):
 Calls Tryz.prog 123 #[lsP (some (aD A 0)) 16 88,iV l,iV (adr x:Int)] wr fun e w'=>e=.returned (iV 0)/\∃s',Mid B A n g g R0 s0 w R x l s' w':=by
 have a:=h.bu.addr e;have hX:adr x∈Zas 1 R g g l:=Zcj.2 ⟨a.2.2.1,e,Nat.ne_of_lt a.2.2.1⟩
 refine(Zqu h.bv.1 16 88 (by omega) (by omega) (l:Int) (16+8*l) (adr x) (Zas 1 R g g l) ⟨l,rfl,by omega,rfl,h.bu.ls l a.1⟩ (by unfold adr;omega) hX).mono ?_
 rintro e w' ⟨rfl,ho,hg⟩
 exact⟨rfl,_,h.bv.Zaq ho hg rfl,h.bu.pick e,e,h.wt.trans hg,h.tk,h.kp.trans (Zl3 h.bu.ti g 0 l a.1 _ _ _) h.tk,h.rf,h.lf⟩
theorem Mid.half {R:Zag} {x k:Nat} {s:ASt} {wr:World} (h:Mid B A n G g R0 s0 w R x (k+1) s wr) (hG:g<=G):
 Calls Tryz.prog 125 #[Zcv B,iV ((x+2^k:Nat):Int),iV k] wr fun e w'=>e=.returned (.tuple #[])/\∃R' s',Mid B A n G g R0 s0 w R' x k s' w':=by
 obtain⟨k1,k2,k3⟩:=h.k10;have h0:=Zae k;have hp:=Zbj k;have o:=Zdj R x g;have a:=h.bu.addr h.at_;have gs:=h.bu.sz h.bv.2.1
 refine(Zrl h.bv k3 (x+2^k) k (by omega) (by omega) (h.bu.Yh6 h.bv.2.1) (Zas 1 R x g) (Zjl h.bu.ls o h0 (by omega) (by omega) 2 k 1) (fun c=>?_) (h.bu.there (by unfold adr;omega) (by omega) (by unfold adr;omega))).mono ?_
 · have c2:=(Zcj.1 c).2.1
   rw[Zjs h.bu.ti.toTile h.at_]at c2;cases c2
 rintro e w' ⟨rfl,ho,hg⟩
 refine⟨rfl,_,_,h.bv.Zaq ho hg rfl,h.bu.half h.at_,Zwm _ _ _ _,h.wt.trans hg,h.tk.trans (Zsz h.bu.ti.toTile h.at_),h.kp.trans ?_ h.tk,h.rf,h.lf⟩
 exact(Zls (R:=R) (x+2^k) k (by omega) 2 k 1 s.mm).trans (Zrw h.bu.ti x k (x+2^k) (by omega) _ h.at_ (by omega) (by omega)) (Zcf.refl R)
theorem Mid.take {R:Zag} {x k:Nat} {s:ASt} {wr:World} (h:Mid B A n g g R0 s0 w R x k s wr):
 Calls Tryz.prog 126 #[tbP (some (aD A 0)) 256 n,iV x,iV k,.int .u8 3] wr fun e w'=>e=.returned (iV 0)/\Yjh B A n g x k R0 s0 w w':=by
 obtain⟨k1,k2,k3⟩:=h.k10;obtain⟨e1,e2⟩:=Yby (s:=s) 256 x k k2 h.bv.1.Zch (h.bu.Yh6 h.bv.2.1);have gs:=h.bu.sz h.bv.2.1;have hx:(x:Int)<=9223372036854775807:=by have:=Zae k;omega
 refine(Zk4 h.bv.1 256 n (by omega) (by omega) (x:Int) 3 k (256+x) (2^k) hx (by omega) 3 k 1 (.inl ⟨by decide,rfl,rfl,rfl⟩) rfl e1 e2).mono ?_
 rintro e w' ⟨rfl,ho,hg⟩
 refine⟨rfl,_,_,h.bv.Zaq ho hg rfl,h.bu.take h.at_,h.wt.trans hg,fun i l=>?_,h.kp.trans (Zls (R:=R) x k (by omega) 3 k 1 s.mm) h.tk,h.rf,h.lf⟩
 rw[Zr7 h.bu.ti.toTile h.at_ i l,h.tk i l]
end
def Ybe (n g k:Nat) (R:Zag) (s:ASt) (g1 x l:Nat) (R1:Zag) (s0:ASt):Prop:=
 k<=l/\R1 x=some (l,false)/\Zcf R R1/\Til g1 R1 g1/\Zeo R1 g1 k (some (x,l))/\
  ((g1=g/\R1=R/\s0=s)\/(Zeo R g k none/\g1=upN g (2^k)+2^k/\g1<=n/\Zd7 s=false/\s0=Zbs s))
def Zd6 (B A n g k:Nat) (R:Zag) (s:ASt) (w:World) (e:Ending) (w':World):Prop:=
 (∃g1 x l R1 s0,Ybe n g k R s g1 x l R1 s0/\e=.returned (.tuple #[iV (adr x:Int),iV 0])/\Yjh B A n g1 x k R s0 w w')\/
 (e=.returned (.tuple #[iV 0,iV 4])/\Zeo R g k none/\((n<upN g (2^k)+2^k/\BV B A n s w'/\Zam A w w')\/(upN g (2^k)+2^k<=n/\Zd7 s=true/\Zog B A n g R s w w')))
def AlR (B A n g k:Nat) (R:Zag) (s:ASt) (w:World) (s6 s7:Value) (wx:World):Prop:=
 ∃(g1 x l:Nat) (R1:Zag) (s0 s1:ASt),s6=iV (adr x:Int)/\s7=iV l/\Ybe n g k R s g1 x l R1 s0/\Stp B A n g1 g1 R s0.mm s0.rf s0.lf w R1 s1 wx
theorem Zwo {g k E:Nat} {R R1:Zag} (h:Til g R g) (h1:Til E R1 E) (t:Zcf R R1) (hk:k<=10) (hE:E=upN g (2^k)+2^k):¬Zeo R1 E k none:=fun hL=>by
 obtain⟨u1,u2,u3,_⟩:=Zmp (g:=g) (Zae k)
 obtain⟨i,l,e,hl,_⟩:=Ziq h1 k (upN g (2^k)) hk u3 (by omega) fun p p1 p2 i l e hc=>by
  have:=h.al _ _ _ ((t i l).1 e)
  omega
 have:=hL i l e
 omega
end
section
open Go Go.RowKit Go.Shelf
section
variable {B A n g:Nat} {R:Zag} {s:ASt} {w:World}
theorem Ye5 (h:BV B A n s w) (k:Int) (hk:k<0\/10<k):Calls Tryz.prog 56 #[Zcv B,iV k] w fun e w'=>e=.returned (.tuple #[iV 0,iV 2])/\w=w':=by
 have hd:decide (0<=k/\k<=10)=false:=by rw[decide_eq_false_iff_not];omega
 have HD:=hid hd;clear hd hk;go_enter Tryz.func56,Tryz.ntmps56;go_wp2_with fail
 refine(Zl5 k _).mono ?_
 rw[HD.out];rintro e w' ⟨rfl,rfl⟩;go_wp2_with fail
 go_ret2
 exact⟨rfl,rfl⟩
theorem Zey (h:BV B A n s w) (hB:Bud (n+1) g g R g s) (k:Nat) (hk:k<=10):Calls Tryz.prog 56 #[Zcv B,iV k] w (Zd6 B A n g k R s w):=by
 have hd:decide (0<=(k:Int)/\(k:Int)<=10)=true:=by rw[decide_eq_true_iff];omega
 have HD:=hid hd;have HV:=hid h;have HB:=hid hB;have HK:=hid hk;clear h hB hd;go_enter Tryz.func56,Tryz.ntmps56;go_wp2_with fail
 refine(Zl5 k _).mono ?_
 rw[HD.out];rintro e w' ⟨rfl,rfl⟩;go_wp2_with fail
 refine(Yca HV.out HB.out k hk).mono ?_
 rintro e w1 ⟨y,rfl,hy,hb⟩;have HV1:=hid (HV.out.below hb);have HW1:=hid (Zam.Zad HV.out.1 hb);have HY:=hid hy;clear hb hy
 have HL:Hid (∃a l o,Zjm y=.tuple #[iV a,iV l,.bool o]/\((o=true/\∃x l',y=some (x,l')/\a=(adr x:Int)/\l=(l':Int))\/(o=false/\y=none))):=hid (by
  rcases y with _|⟨x,l⟩
  · exact⟨0,0,false,rfl,.inr ⟨rfl,rfl⟩⟩
  · exact⟨_,_,true,rfl,.inl ⟨rfl,x,l,rfl,rfl,rfl⟩⟩)
 obtain⟨a,l,o,hv,hcs⟩:=HL.out;rw[hv];have HC:=hid hcs;clear hv hcs HL
 go_upto_if 24 with fail
 go_cut[6,7] (fun s6 s7 wx=>AlR B A n g k R s w s6 s7 wx)
 case first=>
  as_aux_lemma=>
  rcases HC.out with⟨rfl,x,l',rfl,rfl,rfl⟩|⟨rfl,rfl⟩
  · have hF:AlR B A n g k R s w (iV (adr x:Int)) (iV l') w1:=
     ⟨g,x,l',R,s,s,rfl,rfl,⟨HY.out.2.1,HY.out.1,Zcf.refl _,HB.out.ti,HY.out,.inl ⟨rfl,rfl,rfl⟩⟩,⟨HV1.out,HB.out,HW1.out,Zcf.refl _,Zcx.refl _ _,rfl,rfl⟩⟩
    have HF:=hid hF;clear hF;go_wp2_with fail
    go_meet
    exact HF.out
  · have HN:Hid (Zeo R g k none):=HY
    have HP:Hid (∀e w',e=.returned (.tuple #[iV 0,iV 4])/\((n<upN g (2^k)+2^k/\BV B A n s w'/\Zam A w w')\/(upN g (2^k)+2^k<=n/\Zd7 s=true/\Zog B A n g R s w w'))->Zd6 B A n g k R s w e w'):=hid fun e w' ⟨h1,h2⟩=> .inr ⟨h1,HN.out,h2⟩
    go_wp2_with fail
    refine(Zxw HV1.out HB.out k HK.out).mono ?_
    rintro e w2 hgp;rcases hgp with⟨rfl,q1,q2,q3⟩|⟨rfl,q1,q2,q3⟩|⟨rfl,q1,q2,R1,s1,q3⟩
    · have HF:=hid (HP.out _ w2 ⟨rfl,.inl ⟨q1,q2,HW1.out.trans q3⟩⟩)
      clear q1 q2 q3 HP;go_wp2_with fail
      go_ret2
      exact HF.out
    · have HF:=hid (HP.out _ w2 ⟨rfl,.inr ⟨q1,q2,q3.1,q3.2.1,HW1.out.trans q3.2.2⟩⟩)
      clear q1 q2 q3 HP;go_wp2_with fail
      go_ret2
      exact HF.out
    · have HS:=hid q3
      have HQ:=hid (And.intro q1 q2);clear q1 q2 q3 HP;go_wp2_with fail
      refine(Yca HS.out.bv HS.out.bu k HK.out).mono ?_
      rintro e w3 ⟨y2,rfl,hy2,hb⟩;rcases y2 with _|⟨x,l'⟩
      · exact absurd hy2 (Zwo HB.out.ti HS.out.bu.ti HS.out.tk HK.out rfl)
      · have hs:=HS.out.below hb
        have hF:AlR B A n g k R s w (iV (adr x:Int)) (iV l') w3:=
         ⟨_,x,l',R1,Zbs s,s1,rfl,rfl,⟨hy2.2.1,hy2.1,hs.tk,hs.bu.ti,hy2,.inr ⟨HN.out,rfl,HQ.out.1,HQ.out.2,rfl⟩⟩,⟨hs.bv,hs.bu,HW1.out.trans hs.wt,hs.tk,by rw[Zdk];exact hs.kp,hs.rf,hs.lf⟩⟩
        have HF:=hid hF;clear hF hs hy2 hb;simp only[Zjm];go_wp2_with fail
        go_meet
        exact HF.out
 case rest=>
  obtain⟨g1,x,l',R1,s0,s1,rfl,rfl,hp,hst⟩:=hcut;have HP:=hid hp;have HS:=hid hst;obtain⟨c0,c1,c2,c3,c4,c5,c6,c7,c8,c9,_⟩:=hst.bv.all;have hsz:=hst.bu.addr hp.2.1;have hnn:=hst.bu.sz hst.bv.2.1;have HSZ:=hid (And.intro hsz hnn);have HKL:=hid hp.1;have HR:=hid (hst.pick hp.2.1);clear hp hst hsz hnn;go_wp2_with fail;refine HR.out.mono ?_;rintro e w3 ⟨rfl,s2,hm⟩;have HM:=hid hm;have HPG:=hid (Yeh hm.bv HSZ.out.2.2.1 (adr x:Int) ((1+x:Nat):Int) (Zhs x) (by omega) (by have:=HSZ.out;omega));clear hm c0 c1 c2 c3 c4 c5 c6 c7 c8 c9 HR HS;have e1:(((1+x:Nat):Int)-1)=(x:Int):=by omega
  rw[e1]at HPG;clear e1;go_wp2_with fail;refine HPG.out.mono ?_;rintro e w4 ⟨rfl,hb⟩;have HM4:=hid (HM.out.below hb);clear hb HM HPG;go_wp2_with fail
  go_loopw[7] (fun s7 wr=>∃(m:Nat) (R':Zag) (s':ASt),k<=m/\m<=10/\s7=iV m/\Hid (Mid B A n g1 g1 R s0 w R' x m s' wr)) (fun s7 _=>(intOf s7).toNat)
  case atStart=>exact⟨l',R1,s2,HKL.out,HSZ.out.1.1,rfl,HM4⟩
  case round=>
   clear HM4;obtain⟨m,R',s',hkm,hm10,rfl,HM⟩:=hrel;by_cases hlt:k<m
   · have hlt2:(k:Int)<(m:Int):=by omega
     obtain⟨j,rfl⟩:∃j,m=j+1:=⟨m-1,by omega⟩
     have hj:IntKind.i64.wrap (((j+1:Nat):Int)-1)=(j:Int):=by rw[IntKind.wrap_i64];omega
     have HJ:=hid hj;clear hj;obtain⟨hN,_,_⟩:=Zli j (by omega);have HN:=hid hN;clear hN;have HH:=hid (HM.out.half (Nat.le_refl _));obtain⟨P,hP⟩:=eX (2^j);have hPx:x+P<=2000:=by have h1:=HM.out.k10;have h2:=Zbj j;omega
     rw[hP]at HN HH;have E4:Hid (IntKind.i64.wrap ((x:Int)+(P:Int))=((x+P:Nat):Int)):=hid (by rw[IntKind.wrap_i64];omega);obtain⟨xp,hxp⟩:=eX (x+P);rw[hxp]at E4 HH;have hkj:k<=j:=by omega
     have hj10:j<=10:=by omega
     have hj2:((j+1:Nat):Int)=(j:Int)+1:=by omega
     have e4:=E4.out;have hj:=HJ.out;have hN:=HN.out;clear hP hPx hxp;go_wp2_with fail;refine HH.out.mono ?_;rintro e w5 ⟨rfl,R2,s3,hm⟩;have HM5:=hid hm;clear hm HH;go_wp2_with fail
     refine⟨⟨j,R2,s3,hkj,hj10,rfl,HM5⟩,by simp[intOf]⟩
   · obtain rfl:m=k:=by omega
     have HT:=hid HM.out.take;obtain⟨c0,c1,c2,c3,c4,c5,c6,c7,c8,c9,_⟩:=HM.out.bv.all;go_wp2_with fail;refine HT.out.mono ?_;rintro e w5 ⟨rfl,ht⟩;have HF:Hid (Zd6 B A n g m R s w (.returned (.tuple #[iV (adr x:Int),iV 0])) w5):=hid (.inl ⟨g1,x,l',R1,s0,HP.out,rfl,ht⟩);clear ht HT c0 c1 c2 c3 c4 c5 c6 c7 c8 c9;go_wp2_with fail
     go_ret2
     exact HF.out
end
end
end Go.Proofs.YtgcidfenjlmljaaGreat.Bt
