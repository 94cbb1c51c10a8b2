import Derived.Test.YtgcidfenjlmljaaGreatPg13
import Derived.Test.YtgcidfenjlmljaaGreatPg15
import Derived.Test.YtgcidfenjlmljaaGreatPgR
set_option linter.unusedVariables false
set_option linter.unusedSimpArgs false
set_option maxRecDepth 100000
set_option maxHeartbeats 16000000
namespace Go.Proofs.YtgcidfenjlmljaaGreat.Bt
section
open Go Go.RowKit Go.Shelf
section
variable {B A n:Nat} {s:ASt} {w:World}
theorem Yby (va:Nat) (x k:Nat) (hx:x+2^k<=n) (g:Good s.L s.es) (ht:Zac s.L s.es (va:Int) (n:Int)=0):Yez va n (x:Int) k=((va+x:Nat):Int)/\Ygl s va n (x:Int) k=0:=by
 have h0:=Zae k;unfold Ygl Yez;generalize 2^k=P at*
 have e:Zai va n (x:Int) (P:Int)=((va+x:Nat):Int):=by unfold Zai;rw[if_pos (by omega)];omega
 rw[e]
 exact⟨rfl,Zbn g ht (by omega) (by omega) (by omega)⟩
theorem Zrl (h:BV B A n s w) (hn:n<=80) (x k:Nat) (hk:k<=10) (hx:x+2^k<=n) (ht:Zac s.L s.es 256 (n:Int)=0) (fl:Nat->List Nat)
 (hl:Lks s.L s.es (Zh9 s.mm (256+x) (2^k) 2 k 1) fl) (hm:adr x∉fl k) (hT:Zac s.L s.es (adr x:Int) 16=0):
 Calls Tryz.prog 125 #[Zcv B,iV x,iV k] w (Ret A {s with mm:=Ztm (Zh9 s.mm (256+x) (2^k) 2 k 1) fl k (adr x)} (.tuple #[]) w):=by
 have g:=h.1.Zch;obtain⟨e1,e2⟩:=Yby (s:=s) 256 x k hx g ht;have hp:=Zae k;have HL:=hid (Zk4 h.1 256 n (by omega) (by omega) (x:Int) 2 k (256+x) (2^k) (by omega) (by omega) 2 k 1 (.inl ⟨by decide,rfl,rfl,rfl⟩) rfl e1 e2);obtain⟨s1,hs1⟩:=eX (Ygk s (256+x) (2^k) 2 k 1);have q1:s1.mm=Zh9 s.mm (256+x) (2^k) 2 k 1:=by rw[<-hs1];rfl
 have q2:s1.L=s.L:=by rw[<-hs1];rfl
 have q3:s1.es=s.es:=by rw[<-hs1];rfl
 have hK:LsK s1 16 88 (k:Int) (16+8*k) (fl k):=⟨k,rfl,by omega,rfl,by rw[q1,q2,q3];exact hl k hk⟩;have HA:=hid fun X (hX:On A s1 X)=>Zqz hX 16 88 (by omega) (by omega) (k:Int) (16+8*k) (adr x) (fl k) hK (by unfold adr;omega) hm (by rw[q2,q3];exact hT)
 have HF:Hid ({s1 with mm:=Zc4 (Zc4 s1.mm (adr x) (fnd (16+8*k) 8 (fl k) (adr x)).2.2) (fnd (16+8*k) 8 (fl k) (adr x)).1 (adr x)}={s with mm:=Ztm (Zh9 s.mm (256+x) (2^k) 2 k 1) fl k (adr x)}):=hid (by rw[<-hs1];rfl);have HAD:=hid fun X (hX:BV B A n s1 X)=>Yeo hX hn x (by omega)
 rw[hs1]at HL;have HQ2:=hid q2;obtain⟨sF,hsF⟩:=eX (({s1 with mm:=Zc4 (Zc4 s1.mm (adr x) (fnd (16+8*k) 8 (fl k) (adr x)).2.2) (fnd (16+8*k) 8 (fl k) (adr x)).1 (adr x)}:ASt));have HFL:Hid (sF.L=s1.L):=hid (by rw[<-hsF]);rw[hsF]at HF HA;obtain⟨ad,had⟩:=eX (adr x);rw[had]at HA HAD;rw[<-HF.out];have H:=hid h;obtain⟨c0,c1,c2,c3,c4,c5,c6,c7,c8,c9,_⟩:=h.all;clear h g ht hl hm hT e1 e2 hp hs1 q1 q2 q3 hK hsF had HF hx;go_enter Tryz.func125,Tryz.ntmps125;go_wp2_with fail;refine HL.out.mono ?_;rintro e w1 ⟨rfl,ho,hg⟩;have HV:=hid (H.out.Zaq ho hg HQ2.out);have HG:=hid hg;clear c0 c1 c2 c3 c4 c5 c6 c7 c8 c9 ho hg HL H;go_wp2_with fail
 go_region_held3 (fun x=>x.cell? (aD B 4)=some (pT A)/\x.cell? (aD B 5)=some (iV 16)/\x.cell? (aD B 6)=some (iV 88))
  (first|(have q:=(HV.out.below (Below.refl _ _).drew).all;exact⟨q.2.2.2.2.1,q.2.2.2.2.2.1,q.2.2.2.2.2.2.1⟩)|assumption)
  (first|(go_at_call 186;refine(HAD.out _ (HV.out.below (Below.refl _ _).drew)).mono ?_;rintro e w' ⟨rfl,hb⟩;have hb2:=(Below.refl _ _).drew.trans hb;have hq:=(HV.out.below hb2).all;have kk:=And.intro hq.2.2.2.2.1 (And.intro hq.2.2.2.2.2.1 hq.2.2.2.2.2.2.1))
        |(go_at_call 185;refine(HA.out _ hq.2.2.2.2.2.2.2.2.2.2.1).mono ?_;rintro e w2 ⟨rfl,ho,hg⟩;have hgg:=(Zam.Zad HV.out.1 hb2).trans hg;have hq2:=(HV.out.Zaq ho hgg HFL.out).all;have kk2:=And.intro hq2.2.2.2.2.1 (And.intro hq2.2.2.2.2.2.1 hq2.2.2.2.2.2.2.1);have HW:=hid (And.intro ho hgg)))
 exact bodyPost_ret (v:=.tuple #[]) (by simp[results,Tryz.results125,go_sem]) rfl ⟨rfl,HW.out.1,HG.out.trans HW.out.2⟩
def Zeo (R:Zag) (g o:Nat) (y:Option (Nat × Nat)):Prop:=match y with
 |some (x,k)=>R x=some (k,false)/\o<=k/\∀i l,R i=some (l,false)->o<=l->k<l\/(k=l/\x<=i)
 |none=>∀i l,R i=some (l,false)->l<o
def Zjm (y:Option (Nat × Nat)):Value:=match y with
 |some (x,k)=> .tuple #[iV (adr x:Int),iV k,.bool true]
 |none=> .tuple #[iV 0,iV 0,.bool false]
def hd0:List Nat->Int
 |[]=>0
 |m::_=>(m:Int)
theorem Yer {h0:Nat} {ms:List Nat} (hp:∀m∈ms,1<=m):atV (prs h0 8 ms) 1=hd0 ms:=by
 unfold atV;rw[Zrc h0 8 ms 1 (fun m hm=>hp m hm)];cases ms with
 |nil=>rfl
 |cons m t=>
  have:=hp m (List.mem_cons_self ..)
  simp only[fnd];rw[if_pos (by omega)];rfl
theorem Zs9 {R:Zag} {g k:Nat} (hR:Til g R g):(Zas 1 R g g k=[]/\∀i,R i≠some (k,false))\/∃x t,Zas 1 R g g k=adr x::t/\R x=some (k,false)/\∀i,R i=some (k,false)->x<=i:=by
 cases e:Zas 1 R g g k with
 |nil=>
  refine .inl ⟨rfl,fun i hi=>?_⟩
  have:(1+i)*4096∈Zas 1 R g g k:=Zcj.2 ⟨hR.lt hi,hi,Nat.ne_of_lt (hR.lt hi)⟩
  rw[e]at this;cases this
 |cons c t=>
  have hc:c∈Zas 1 R g g k:=by rw[e];exact List.mem_cons_self ..
  obtain⟨x,h1,h2,h3,rfl⟩:=Za4.1 hc;refine .inr ⟨x,t,rfl,h2,fun i hi=>?_⟩
  have:(1+i)*4096∈Zas 1 R g g k:=Zcj.2 ⟨hR.lt hi,hi,Nat.ne_of_lt (hR.lt hi)⟩
  rw[e]at this;have hs:=Zb2 1 R g g k;rw[e,List.pairwise_cons]at hs;rcases List.mem_cons.1 this with q|q
  · omega
  · have:=hs.1 _ q;omega
theorem Yca {cap G g:Nat} {R:Zag} (h:BV B A n s w) (hB:Bud cap G g R g s) (o:Nat) (ho:o<=10):
 Calls Tryz.prog 121 #[Zcv B,iV o] w fun e w'=>∃y,e=.returned (Zjm y)/\Zeo R g o y/\Below w.heap.size w w':=by
 have HF:Hid (∀X,BV B A n s X->∀k:Nat,k<=10->Calls Tryz.prog 178 #[lsP (some (aD A 0)) 16 88,iV k] X (Zan (.tuple #[iV (atV (prs (16+8*k) 8 (Zas 1 R g g k)) 1),.bool (decide (0<atV (prs (16+8*k) 8 (Zas 1 R g g k)) 1))]) X)):=hid fun X hX k hk=>
  Ybx hX.1 16 88 (by omega) (by omega) (k:Int) _ (LsK.lk (h0:=16+8*k) ⟨k,rfl,by omega,rfl,hB.ls k hk⟩)
 have HA:Hid (∀k,atV (prs (16+8*k) 8 (Zas 1 R g g k)) 1=hd0 (Zas 1 R g g k)):=hid fun k=>Yer (h0:=16+8*k) (ms:=Zas 1 R g g k) fun m hm=>(by
  obtain⟨i,_,_,_,e⟩:=Za4.1 hm
  have:(1+i)*4096=m:=e
  omega)
 have HT:=hid hB.ti;have H:=hid h;obtain⟨c0,c1,c2,c3,c4,c5,c6,c7,c8,c9,_⟩:=h.all;clear h hB;go_enter Tryz.func121,Tryz.ntmps121;go_wp2_with fail
 go_loopw[7] (fun s7 wx=>∃k:Nat,o<=k/\k<=11/\s7=iV k/\Hid (∀i l,R i=some (l,false)->o<=l->k<=l)/\Hid (Below w.heap.size w wx)) (fun s7 _=>11-(intOf s7).toNat)
 case atStart=>exact⟨o,Nat.le_refl _,by omega,rfl,hid fun i l _ h=>h,hid (Below.refl _ _)⟩
 case round=>
  obtain⟨k,hok,hk11,rfl,HN,HB⟩:=hrel;clear c0 c1 c2 c3 c4 c5 c6 c7 c8 c9;by_cases hk:k<=10
  · have hv:=H.out.below HB.out
    have HV:=hid hv;obtain⟨c0,c1,c2,c3,c4,c5,c6,c7,c8,c9,_⟩:=hv.all;have d:¬(10:Int)<(k:Int):=by omega
    clear hv;go_wp2_with fail
    refine(HF.out _ HV.out k hk).mono ?_
    rintro e w1 ⟨rfl,hb⟩;have HB1:=hid (HB.out.trans (hb.mono HB.out.size));rw[HA.out];clear hb;rcases Zs9 (k:=k) HT.out with⟨el,hno⟩|⟨x,t,el,hx,hmin⟩
    · rw[el,show hd0 []=0 from rfl]
      have HN1:Hid (∀i l,R i=some (l,false)->o<=l->k+1<=l):=hid fun i l h1 h2=>by
       have:=HN.out i l h1 h2
       rcases Nat.lt_or_eq_of_le this with q|q
       · exact q
       · subst q;exact absurd h1 (hno i)
      clear el hno;go_wp2_with fail;go_roundw
      case rel=>exact⟨k+1,by omega,by omega,by go_num,HN1,HB1⟩
      case measure=>simp[intOf];omega
    · rw[el,show hd0 (adr x::t)=(adr x:Int)from rfl]
      have HL:Hid (Zeo R g o (some (x,k))):=hid ⟨hx,hok,fun i l h1 h2=>by
       have:=HN.out i l h1 h2
       rcases Nat.lt_or_eq_of_le this with q|q
       · exact .inl q
       · subst q;exact .inr ⟨rfl,hmin i h1⟩⟩
      have hp:(0:Int)<(adr x:Int):=by unfold adr;omega
      have hd:decide ((0:Int)<(adr x:Int))=true:=by simpa using hp
      clear el hx hmin;go_wp2_with fail;exact bodyPost_ret (v:=Zjm (some (x,k))) (by simp[results,Tryz.results121,go_sem,Zjm]) rfl ⟨some (x,k),rfl,HL.out,HB1.out⟩
  · obtain rfl:k=11:=by omega
    have HL:Hid (Zeo R g o none):=hid fun i l h1=>by
     by_cases q:l<o
     · exact q
     · have:=HN.out i l h1 (by omega)
       have:=(HT.out.al _ _ _ h1).1
       omega
    go_wp2_with fail;exact bodyPost_ret (v:=Zjm none) (by simp[results,Tryz.results121,go_sem,Zjm]) rfl ⟨none,rfl,HL.out,HB.out⟩
end
end
section
open Go Go.RowKit Go.Shelf
theorem Zxx (p q:Nat) (hp:p<q) (hq:q<=2000) (w:World):
 Calls Tryz.prog 180 #[iV p,iV q] w fun e w'=>∃k:Nat,e=.returned (iV k)/\k<=10/\p%2^k=0/\p+2^k<=q/\w=w':=by
 go_enter Tryz.func180,Tryz.ntmps180;go_wp2_with fail
 go_loop [5] (fun s5=>∃k:Nat,k<=10/\s5=iV k) (fun s5=>(intOf s5).toNat)
 case atStart=>exact⟨10,by omega,rfl⟩
 case round=>
  obtain⟨k,hk,rfl⟩:=hrel;by_cases h0:k=0
  · subst h0
    go_wp2_with fail
    go_ret
    exact⟨0,rfl,by omega,by rw[Nat.pow_zero];exact Nat.mod_one p,by rw[Nat.pow_zero];omega,rfl⟩
  · obtain⟨hN,hN1,hN2⟩:=Zli k (by omega)
    obtain⟨P,hP⟩:=eX (2^k);have HP:=hid hP;rw[hP]at hN hN1 hN2;have hm:Int.tmod (p:Int) (P:Int)=((p%P:Nat):Int):=by rw[Int.tmod_eq_emod_of_nonneg (by omega)];rfl
    have hP0:¬(P:Int)=0:=by omega
    have hs:IntKind.i64.wrap ((p:Int)+(P:Int))=(p:Int)+P:=by rw[IntKind.wrap_i64];omega
    have hk0:(0:Int)<(k:Int):=by omega
    clear hP h0;by_cases hz:p%P=0
    · have HZ:=hid hz
      rw[hz]at hm;clear hz;by_cases hle:p+P<=q
      · have hle2:¬((q:Int)<(p:Int)+(P:Int)):=by omega
        have HL:=hid hle;clear hle;go_wp2_with fail
        go_ret
        exact⟨k,rfl,hk,by rw[HP.out];exact HZ.out,by rw[HP.out];exact HL.out,rfl⟩
      · have hle2:((q:Int)<(p:Int)+(P:Int)):=by omega
        clear hle;go_wp2_with fail
        go_round
        case rel=>exact⟨k-1,by omega,by rw[show((k-1:Nat):Int)=(k:Int)-1 from by omega]⟩
        case measure=>simp[intOf];omega
    · have hz2:¬(((p%P:Nat):Int)=0):=by omega
      obtain⟨M,hM⟩:=eX (p%P);rw[hM]at hm hz2;clear hz hM;go_wp2_with fail
      go_round
      case rel=>exact⟨k-1,by omega,by rw[show((k-1:Nat):Int)=(k:Int)-1 from by omega]⟩
      case measure=>simp[intOf];omega
end
section
open Go Go.RowKit Go.Shelf
def Zcf (R R':Zag):Prop:=∀i k,R' i=some (k,true)↔R i=some (k,true)
theorem Zcf.refl (R:Zag):Zcf R R:=fun _ _=>Iff.rfl
theorem Zcf.trans {R R1 R2:Zag} (h:Zcf R R1) (k:Zcf R1 R2):Zcf R R2:=fun i j=>(k i j).trans (h i j)
def Zcx (R:Zag) (m m':Nat->UInt8):Prop:=(∀i k,R i=some (k,true)->∀a,(1+i)*4096<=a->a<(1+i+2^k)*4096->m' a=m a)/\(∀a,4096<=a->8<=a%4096->m' a=m a\/m' a=0)
theorem Zcx.refl (R:Zag) (m:Nat->UInt8):Zcx R m m:=⟨fun _ _ _ _ _ _=>rfl,fun _ _ _=> .inl rfl⟩
theorem Zcx.trans {R R1:Zag} {m m1 m2:Nat->UInt8} (h:Zcx R m m1) (k:Zcx R1 m1 m2) (t:Zcf R R1):Zcx R m m2:=by
 refine⟨fun i j e a h1 h2=>(k.1 i j ((t i j).2 e) a h1 h2).trans (h.1 i j e a h1 h2),fun a h1 h2=>?_⟩
 rcases k.2 a h1 h2 with c|c
 · rcases h.2 a h1 h2 with d|d
   · exact .inl (c.trans d)
   · exact .inr (c.trans d)
 · exact .inr c
section
variable {B A n G g x k:Nat} {R:Zag} {s:ASt} {w:World}
theorem Ybi {R:Zag} (h:Til g R x) {i k:Nat} (e:R i=some (k,true)) {a:Nat} (h1:(1+i)*4096<=a) (h2:a<(1+i+2^k)*4096) {j l:Nat} (f:R j=some (l,false)) (p:Nat) (hp1:j<=p) (hp2:p<j+2^l):a<(1+p)*4096\/(1+p)*4096+8<=a:=by
 by_cases q:i<=p/\p<i+2^k
 · have:=(h.one e f q.1 q.2 hp1 hp2).2.2;cases this
 · omega
theorem Zl3 (h:Til g R x) (y j l:Nat) (hl:l<=10) (v:Nat) (m:Nat->UInt8) (X:Nat):Zcx R m (Zc4 m (fnd (16+8*l) 8 (Zas 1 R y g l) X).1 v):=by
 refine⟨fun i k e a h1 h2=>?_,fun a h1 h2=> .inl ?_⟩
 · rcases List.mem_cons.1 (Zdm (16+8*l) 8 (Zas 1 R y g l) X)with q|q
   · exact Zav _ _ (by rw[q];omega)
   · obtain⟨p,_,hp,_,ep⟩:=Za4.1 q
     have:=Ybi h e h1 h2 hp p (Nat.le_refl _) (by have:=Zae l;omega)
     exact Zav _ _ (by rw[<-ep];omega)
 · rcases List.mem_cons.1 (Zdm (16+8*l) 8 (Zas 1 R y g l) X)with q|q
   · exact Zav _ _ (by rw[q];omega)
   · obtain⟨p,_,hp,_,ep⟩:=Za4.1 q
     exact Zav _ _ (by rw[<-ep];omega)
theorem Zrw (h:Til g R x) (y l p:Nat) (hl:l<=10) (m:Nat->UInt8) {j q:Nat} (f:R j=some (q,false)) (hp1:j<=p) (hp2:p<j+2^q):Zcx R m (Ztm m (Zas 1 R y g) l ((1+p)*4096)):=by
 refine⟨fun i k e a h1 h2=>?_,fun a h1 h2=> .inl ?_⟩
 · unfold Ztm
   rw[(Zl3 h y 0 l hl _ _ _).1 i k e a h1 h2];exact Zav _ _ (by have:=Ybi h e h1 h2 f p hp1 hp2;omega)
 · unfold Ztm
   rcases List.mem_cons.1 (Zdm (16+8*l) 8 (Zas 1 R y g l) (((1+p)*4096:Nat):Int))with q|q
   · rw[Zav _ _ (by rw[q];omega)]
     exact Zav _ _ (by omega)
   · obtain⟨p2,_,hp,_,ep⟩:=Za4.1 q
     rw[Zav _ _ (by rw[<-ep];omega)];exact Zav _ _ (by omega)
theorem Zls (p k:Nat) (hp:p+2^k<=3000) (fs fo:Int) (os:UInt8) (m:Nat->UInt8):Zcx R m (Zh9 m (256+p) (2^k) fs fo os):=
 ⟨fun i l e a h1 h2=>Zfa _ _ _ (Zae k) _ _ _ _ (by omega),fun a h1 h2=> .inl (Zfa _ _ _ (Zae k) _ _ _ _ (by omega))⟩
end
theorem Zyg:∀x:Nat,x<81->∀k:Nat,k<10->x%2^k=0->bits BinOp.xor IntKind.i64 (x:Int) ((2^k:Nat):Int)=((Zcz x k:Nat):Int):=by decide
section
variable {B A n cap G g x k:Nat} {R:Zag} {s:ASt} {w:World}
theorem Bud.sz (h:Bud cap G g R x s) (hL:s.L=n+1):cap=n+1/\n<=80/\g<=n/\G<=n:=by
 have:=h.cL;have:=h.c2;have:=h.gG;omega
theorem Bud.Yh6 (h:Bud cap G g R x s) (hL:s.L=n+1):Zac s.L s.es 256 (n:Int)=0:=by
 have:=h.sz hL;exact h.there (by omega) (by omega) (by omega)
theorem Bud.front (h:Bud cap G g R x s):Zac s.L s.es 8 8=0:=h.there (by omega) (by omega) (by omega)
theorem Bud.tag (h:Bud cap G g R x s) (hL:s.L=n+1) (p:Nat) (hp:p<n) (hh:¬Yho R x p):gC s 256 n (p:Int)=(Zg6 R g p:Int)/\gE s 256 n (p:Int)=0:=by
 have hn:=h.sz hL;have e:Zai 256 n (p:Int) 1=((256+p:Nat):Int):=by unfold Zai;rw[if_pos (by omega)];omega
 have hE:gE s 256 n (p:Int)=0:=by
  unfold gE Zb9;rw[e,show Za6 1=true from rfl,if_pos rfl];exact h.there (by omega) (by omega) (by omega)
 refine⟨?_,hE⟩
 unfold gE at hE;unfold gC ldV;rw[if_pos hE,e,Int.toNat_natCast,<-h.tg p (by omega) hh]
 show((Zck s.mm (256+p) 1:Nat):Int)=_
 simp[Zck]
theorem Yb0 (s:ASt) (va n:Nat) (p:Int) (hp:(n:Int)<=p):gC s va n p=0:=by
 have e:Zai va n p 1= -1:=by unfold Zai;rw[if_neg (by omega)]
 unfold gC;rw[e];unfold ldV;rw[if_neg];unfold Zb9;rw[show Za6 1=true from rfl,if_pos rfl];unfold Zac;rw[if_neg]
 · decide
 · unfold Zbd
   simp
theorem Zin (R:Zag) (g p:Nat) (h:∀k t,R p=some (k,t)->k<=10):Zff (Zg6 R g p:Int)=(if p<g then(match R p with|some (_,t)=>(if t then 3 else 2)|none=>1)else 0:Int)/\Zgd (Zg6 R g p:Int)=(if p<g then(match R p with|some (k,_)=>(k:Int)|none=>0)else 0:Int):=by
 unfold Zg6;by_cases c:p<g
 · rw[if_pos c,if_pos c,if_pos c]
   cases e:R p with
   |none=>decide
   |some y=>
    obtain⟨k,t⟩:=y;have hk:=h k t e;have h2:k=0\/k=1\/k=2\/k=3\/k=4\/k=5\/k=6\/k=7\/k=8\/k=9\/k=10:=by omega
    cases t<;>rcases h2 with rfl|rfl|rfl|rfl|rfl|rfl|rfl|rfl|rfl|rfl|rfl<;>decide
 · rw[if_neg c,if_neg c,if_neg c];decide
theorem Bud.Zyk (h:Bud cap G g R x s) (hL:s.L=n+1) (e:R x=some (k,false)):
 (R (Zcz x k)=some (k,false)/\Zff (gC s 256 n (Zcz x k:Int))=2/\Zgd (gC s 256 n (Zcz x k:Int))=k)\/
 (R (Zcz x k)≠some (k,false)/\(Zff (gC s 256 n (Zcz x k:Int))≠2\/(Zff (gC s 256 n (Zcz x k:Int))=2/\Zgd (gC s 256 n (Zcz x k:Int))≠k))):=by
 have hn:=h.sz hL;by_cases c:Zcz x k<n
 · have hh:¬Yho R x (Zcz x k):=fun⟨k',t',q1,q2,q3⟩=>by
    rw[e]at q1
    have:=(Zbc q1).1
    subst this;have h0:=Zae k;rcases Zfn (h.ti.al _ _ _ e).2.1 with z|⟨z1,z2⟩
    · rw[Zea z]at q3;omega
    · have:=Zdh z2
      rw[Nat.sub_add_cancel z1]at this;rw[this]at q2;omega
   rw[(h.tag hL _ c hh).1];obtain⟨t1,t2⟩:=Zin R g (Zcz x k) fun l t q=>(h.ti.al _ _ _ q).1
   rw[t1,t2];cases q:R (Zcz x k)with
   |none=>
    refine .inr ⟨by simp,.inl ?_⟩
    split<;>decide
   |some y=>
    obtain⟨l,t⟩:=y
    have:=h.ti.lt q
    rw[if_pos this,if_pos this];cases t with
    |true=>exact .inr ⟨by simp,.inl (show(3:Int)≠2 by decide)⟩
    |false=>
     by_cases hl:l=k
     · subst hl;exact .inl ⟨rfl,rfl,rfl⟩
     · exact .inr ⟨by simp[hl],.inr ⟨rfl,by show(l:Int)≠k;omega⟩⟩
 · rw[Yb0 s 256 n _ (by omega)]
   refine .inr ⟨fun q=>?_,.inl (by decide)⟩
   have:=h.ti.lt q
   omega
end
end
section
open Go Go.RowKit Go.Shelf
def Yjo (B A n G g:Nat) (R:Zag) (s:ASt) (w w':World):Prop:=
 ∃R' s',BV B A n s' w'/\Bud (n+1) G g R' g s'/\Zam A w w'/\Zcf R R'/\Zcx R s.mm s'.mm/\s'.rf=s.rf/\s'.lf=s.lf
structure Mid (B A n G g:Nat) (R0:Zag) (s0:ASt) (w:World) (R:Zag) (x k:Nat) (s:ASt) (wr:World):Prop where
 bv:BV B A n s wr
 bu:Bud (n+1) G g R x s
 at_:R x=some (k,false)
 wt:Zam A w wr
 tk:Zcf R0 R
 kp:Zcx R0 s0.mm s.mm
 rf:s.rf=s0.rf
 lf:s.lf=s0.lf
theorem Mid.k10 {B A n G g:Nat} {R0:Zag} {s0:ASt} {w:World} {R:Zag} {x k:Nat} {s:ASt} {wr:World} (h:Mid B A n G g R0 s0 w R x k s wr):k<=10/\x+2^k<=n/\n<=80:=by
 have a:=h.bu.addr h.at_;have b:=h.bu.sz h.bv.2.1;omega
theorem Zub {x k:Nat} (hx:x<=80) (hk:k<10):Zcz x k<=1000:=by
 have:2^k<=2^9:=Nat.pow_le_pow_right (by decide) (by omega)
 unfold Zcz;split<;>omega
theorem Zsw {R:Zag} {g x k:Nat} (h:Til g R x) (e:R x=some (k,false)) (f:R (Zcz x k)=some (k,false)):Zcf R (Zfm R (min x (Zcz x k)) (k+1) false):=fun i l=>by
 obtain⟨j,em,hi,e1,e2,hx⟩:=Zlu h.toTile e f;rw[em]
 constructor
 · intro q
   rcases Zbz q with⟨_,_,c⟩|⟨_,c⟩
   · cases c
   · exact c
 · intro q
   have n1:i≠j:=fun c=>by rw[c,e1]at q;cases (Zbc q).2
   have n2:i≠j+2^k:=fun c=>by rw[c,e2]at q;cases (Zbc q).2
   rw[Zcs (Zlt h.toTile e1 e2 q n1 n2)];exact q
section
variable {B A n G g:Nat} {R0:Zag} {s0:ASt} {w:World}
theorem Mid.stop {R:Zag} {x k:Nat} {s:ASt} {wr:World} (h:Mid B A n G g R0 s0 w R x k s wr) (hs:k<10->R (Zcz x k)≠some (k,false)):
 Calls Tryz.prog 125 #[Zcv B,iV x,iV k] wr fun e w'=>e=.returned (.tuple #[])/\Yjo B A n G g R0 s0 w w':=by
 obtain⟨k1,k2,k3⟩:=h.k10;have h0:=Zae k;have o:=Zdj R x g;have gs:=h.bu.sz h.bv.2.1
 refine(Zrl h.bv k3 x k k1 k2 (h.bu.Yh6 h.bv.2.1) (Zas 1 R x g) (Zjl h.bu.ls o h0 (by omega) (by omega) 2 k 1) (fun c=>(Zcj.1 c).2.2 rfl) (h.bu.there (by unfold adr;omega) (by omega) (by have:=h.bu.gG;have:=h.bu.addr h.at_;unfold adr;omega))).mono ?_
 rintro e w' ⟨rfl,ho,hg⟩;have hb:=h.bu.stop h.at_ hs
 refine⟨rfl,R,_,h.bv.Zaq ho hg rfl,hb,h.wt.trans hg,h.tk,?_,h.rf,h.lf⟩
 refine h.kp.trans ?_ h.tk
 exact(Zls (R:=R) x k (by omega) 2 k 1 s.mm).trans (Zrw h.bu.ti x k x k1 _ h.at_ (Nat.le_refl _) (by omega)) (Zcf.refl R)
theorem Mid.join {R:Zag} {x k:Nat} {s:ASt} {wr:World} (h:Mid B A n G g R0 s0 w R x k s wr) (hk:k<10) (f:R (Zcz x k)=some (k,false)):
 Calls Tryz.prog 123 #[lsP (some (aD A 0)) 16 88,iV k,iV (adr (Zcz x k):Int)] wr fun e w'=>e=.returned (iV 0)/\
  ∃s',Mid B A n G g R0 s0 w (Zfm R (min x (Zcz x k)) (k+1) false) (min x (Zcz x k)) (k+1) s' w':=by
 have hX:adr (Zcz x k)∈Zas 1 R x g k:=Zcj.2 ⟨(h.bu.addr f).2.2.1,f,Zua (h.bu.ti.al _ _ _ h.at_).2.1⟩
 refine(Zqu h.bv.1 16 88 (by omega) (by omega) (k:Int) (16+8*k) (adr (Zcz x k)) (Zas 1 R x g k) ⟨k,rfl,by omega,rfl,h.bu.ls k (by omega)⟩ (by unfold adr;omega) hX).mono ?_
 rintro e w' ⟨rfl,ho,hg⟩
 exact⟨rfl,_,h.bv.Zaq ho hg rfl,h.bu.join h.at_ f hk,Zb5 _ _ _ _,h.wt.trans hg,h.tk.trans (Zsw h.bu.ti h.at_ f),h.kp.trans (Zl3 h.bu.ti x 0 k (by omega) _ _ _) h.tk,h.rf,h.lf⟩
theorem Mid.below {R:Zag} {x k:Nat} {s:ASt} {wr w':World} (h:Mid B A n G g R0 s0 w R x k s wr) (hb:Below wr.heap.size wr w'):Mid B A n G g R0 s0 w R x k s w':=
 {h with bv:=h.bv.below hb,wt:=h.wt.trans (Zam.Zad h.bv.1 hb)}
theorem Mid.shl {R:Zag} {x k:Nat} {s:ASt} {wr:World} (h:Mid B A n G g R0 s0 w R x k s wr) (hk:k<10):∃P:Nat,2^k=P/\IntKind.i64.wrap ((2:Int)^k)=(P:Int)/\bits BinOp.xor IntKind.i64 (x:Int) (P:Int)=((Zcz x k:Nat):Int):=
 ⟨2^k,rfl,(Zli k (by omega)).1,Zyg x (by have:=h.k10;have:=Zae k;omega) k hk (h.bu.ti.al _ _ _ h.at_).2.1⟩
theorem Zrm {R:Zag} {x k:Nat} {s:ASt} (h:BV B A n s w) (hB:Bud (n+1) G g R x s) (e:R x=some (k,false)):
 Calls Tryz.prog 181 #[Zcv B,iV x,iV k] w fun e w'=>e=.returned (.tuple #[])/\Yjo B A n G g R s w w':=by
 have HM:Hid (Mid B A n G g R s w R x k s w):=hid ⟨h,hB,e,Zam.refl _ _,Zcf.refl _,Zcx.refl _ _,rfl,rfl⟩;clear h hB e;go_enter Tryz.func181,Tryz.ntmps181;go_wp2_with fail
 go_loopw[1,2] (fun s1 s2 wr=>∃(x' k':Nat) (R':Zag) (s':ASt),s1=iV x'/\s2=iV k'/\Hid (Mid B A n G g R s w R' x' k' s' wr)) (fun _ s2 _=>10-(intOf s2).toNat)
 case atStart=>exact⟨x,k,R,s,rfl,rfl,HM⟩
 case round=>
  clear HM;obtain⟨x',k',R',s',rfl,rfl,HM⟩:=hrel;by_cases hk:k'<10
  · obtain⟨P,hP,hw,hx⟩:=HM.out.shl hk
    have hk2:((k':Nat):Int)<10:=by omega
    obtain⟨c0,c1,c2,c3,c4,c5,c6,c7,c8,c9,_⟩:=HM.out.bv.all;obtain⟨t,ht⟩:=eX (Zcz x' k');have HT:=hid ht;rw[ht]at hx;have HG:=hid (Zor HM.out.bv.1 256 n (by omega) (by have:=HM.out.k10;omega) (t:Int) (by have:=HM.out.k10;have:=Zub (x:=x') (k:=k') (by have:=Zae k';omega) hk;omega));have HTW:=hid (HM.out.bu.Zyk HM.out.bv.2.1 HM.out.at_);rw[ht]at HTW;have hmn:Hid (min x' t=min x' (Zcz x' k')):=hid (by rw[ht]);clear hP ht;go_wp2_with fail;refine HG.out.mono ?_;rintro e w1 ⟨rfl,hb⟩;have HM1:=hid (HM.out.below hb);clear hb c0 c1 c2 c3 c4 c5 c6 c7 c8 c9 HG;have hS:=Zuj (gC s' 256 n (t:Int)) (Ydy s' 256 n (t:Int)).1;have hO:=Zuk (gC s' 256 n (t:Int)) (Ydy s' 256 n (t:Int)).1;generalize Zff (gC s' 256 n (t:Int))=S at*
    generalize Zgd (gC s' 256 n (t:Int))=O at*
    generalize gE s' 256 n (t:Int)=E at*
    have hwO:IntKind.i64.wrap O=O:=by rw[IntKind.wrap_i64];omega
    have hm2:=HM1.out.below (Zaj w1 (.cells #[.int .u8 S,.int .u8 O] 232));rcases HTW.out with⟨hf,rfl,rfl⟩|⟨hf,hn|⟨rfl,hn⟩⟩
    · have HM2:=hid hm2
      have HFF:=hid hf;clear HM1 HTW HM hS hO;go_upto_region 4 with fail;obtain⟨w2,hw2⟩:=eX (w1.alloc (.cells #[.int .u8 2,.int .u8 (k':Int)] 232));rw[hw2]at hm2 HM2⊢;clear hw2;have HAD:=hid fun X (hX:BV B A n s' X)=>Yeo hX (HM2.out.k10.2.2) t (by have:=HM2.out.k10;have:=Zub (x:=x') (k:=k') (by have:=Zae k';omega) hk;have:=HT.out;omega)
      have HJ:=hid fun X (hX:Mid B A n G g R s w R' x' k' s' X)=>hX.join hk (by rw[HT.out];exact HFF.out)
      rw[HT.out]at HJ;clear hm2
      go_region_held3 (fun x=>x.cell? (aD B 4)=some (pT A)/\x.cell? (aD B 5)=some (iV 16)/\x.cell? (aD B 6)=some (iV 88))
       (first|(have q:=(HM2.out.below (Below.refl _ _).drew).bv.all;exact⟨q.2.2.2.2.1,q.2.2.2.2.2.1,q.2.2.2.2.2.2.1⟩)|assumption)
       (first|(go_at_call 186;refine(HAD.out _ (HM2.out.below (Below.refl _ _).drew).bv).mono ?_;rintro e w' ⟨rfl,hb⟩;have hm3:=(HM2.out.below (Below.refl _ _).drew).below hb;have hq:=hm3.bv.all;have kk:=And.intro hq.2.2.2.2.1 (And.intro hq.2.2.2.2.2.1 hq.2.2.2.2.2.2.1))
             |(go_at_call 123;refine(HJ.out _ hm3).mono ?_;rintro e w3 ⟨rfl,s3,hm4⟩;have hq2:=hm4.bv.all;have kk2:=And.intro hq2.2.2.2.2.1 (And.intro hq2.2.2.2.2.2.1 hq2.2.2.2.2.2.2.1);have HM4:=hid hm4))
      clear hm3 hm4 hq hq2 kk kk2 HJ HAD hb;go_wp2_with fail
      refine⟨⟨min x' t,k'+1,_,s3,by rw[show((min x' t:Nat):Int)=if t<x' then(t:Int)else(x':Int)from by split<;>omega],by go_num,HM4⟩,by simp[intOf];omega⟩
    all_goals
     have HST:=hid fun(X:World) (hX:Mid B A n G g R s w R' x' k' s' X)=>hX.stop fun _=>by rw[HT.out];exact hf
     have HM2:=hid hm2;clear hm2 HM1 HTW HM hf;go_wp2_with fail
     refine(HST.out _ HM2.out).mono ?_
     rintro e w' ⟨rfl,hgo⟩;have HGO:=hid hgo;clear hgo;go_wp2_with fail
     go_end0
     exact⟨rfl,HGO.out⟩
  · have HST:=hid fun(X:World) (hX:Mid B A n G g R s w R' x' k' s' X)=>hX.stop fun q=>absurd q hk
    have hk2:¬((k':Nat):Int)<10:=by omega
    go_wp2_with fail
    refine(HST.out _ HM.out).mono ?_
    rintro e w' ⟨rfl,hgo⟩;have HGO:=hid hgo;clear hgo;go_wp2_with fail
    go_end0
    exact⟨rfl,HGO.out⟩
end
end
end Go.Proofs.YtgcidfenjlmljaaGreat.Bt
