import Derived.Test.YtgcidfenjlmljaaGreatPg12
import Derived.Test.YtgcidfenjlmljaaGreatPg38
import Derived.Lib.SmallJoins
import Derived.Deep.Slices
import Derived.Deep.Strs
import Derived.ChangeSame
import Derived.OpenShut
import Derived.WideShapes
import Derived.WalkSmall
import Derived.Test.YtgcidfenjlmljaaGreatPg10
import Derived.Deep.MidRow
import Derived.Deep.DeepCutAuto
import Derived.Deep.RegionHeld3
import Derived.Test.YtgcidfenjlmljaaGreatPg45
import Derived.Test.YtgcidfenjlmljaaGreatPg43
import Derived.Test.YtgcidfenjlmljaaGreatPgR
set_option linter.unusedVariables false
set_option linter.unusedSimpArgs false
set_option maxRecDepth 100000
set_option maxHeartbeats 16000000
namespace Go.Proofs.YtgcidfenjlmljaaGreat.Bt
section
open Go Go.RowKit Go.Shelf
def exS:ASt:=Ygk (Zc9 1 (fun _=>0)) 98 2 3 1 1
theorem Ygr:Ycz (gC exS 96 8) 3=.tuple #[iV 2,Zhd 3 1,iV 0]:=by
 have h1:Zu2 (gC exS 96 8) 3=2:=by decide+kernel
 have h2:gC exS 96 8 2=7:=by decide+kernel
 have h3:Zsb (gC exS 96 8) 3=true:=by unfold Zsb;rw[h1,h2];decide+kernel
 unfold Ycz;rw[if_pos h3,h1,h2];rfl
theorem Yg6 (w:World):Calls Tryz.prog 227 #[] w (Zan (.bool true) w):=by
 have R1:=hid Ygr;have G1:Hid (gE exS 96 8 3=0):=hid (by decide+kernel);have L1:Hid (Yez 96 8 2 1=((98:Nat):Int)):=hid (by decide);have L2:Hid (Ygl (Zc9 1 (fun _=>0)) 96 8 2 1=0):=hid (by decide+kernel);go_enter Tryz.func227,Tryz.ntmps227;go_wp2_with fail
 refine(Zv2 8 (by omega) _).mono ?_
 rintro e w1 ⟨A,rfl,hx,hb⟩;have HX1:=hid hx;have HB1:=hid hb;clear hx hb;go_wp2_with fail;have bV:=hid (Zaj w1 (.cells #[pT A,iV 96,iV 8] 51));have HM:=hid (Zbb.new HX1.out (.cells #[pT A,iV 96,iV 8] 51));have HR:=hid (Zab w1 (.cells #[pT A,iV 96,iV 8] 51))
 refine(Zk4 (HX1.out.below bV.out) 96 8 (by omega) (by omega) 2 3 1 98 2 (by omega) (by omega) 3 1 1 (.inl ⟨rfl,rfl,rfl,rfl⟩) rfl L1.out L2.out).mono ?_
 rintro e w2 ⟨rfl,hx,hg⟩;have hr:=HM.out.at hg HR.out;have c0:=(Zaa hr 0).1;have c1:=(Zaa hr 1).1;have c2:=(Zaa hr 2).1
 have HX2:Hid (On A exS w2):=hid hx;have HB2:=hid ((HB1.out.below HX1.out bV.out).Zaq hg);clear hr hx hg HM HR;go_wp2_with fail
 refine(Zuc HX2.out 96 8 (by omega) (by omega) 3 (by omega) (by omega) G1.out).mono ?_
 rintro e w3 ⟨rfl,hb⟩;rw[R1.out];have HX3:=hid (HX2.out.below hb);have HB3:=hid (HB2.out.below HX2.out hb);clear hb c0 c1 c2;go_wp2_with fail;have bT:=hid (Zaj w3 (.cells #[.int .u8 3,.int .u8 1] 232))
 refine(Zx3 _).mono ?_
 rintro e w4 ⟨rfl,hb⟩;have hr:=Zd0 hb (Zab w3 (.cells #[.int .u8 3,.int .u8 1] 232));have c0:=(Zaa hr 0).1;have c1:=(Zaa hr 1).1
 have HF:=hid ((HB3.out.below HX3.out bT.out).below (HX3.out.below bT.out) hb);clear hb hr;go_wp2_with fail
 go_ret
 exact⟨rfl,HF.out.bel⟩
end
section
open Go Go.RowKit Go.Shelf
theorem Yj6 (w:World):Calls Tryz.prog 217 #[] w (Zan (.bool true) w):=by
 go_enter Tryz.func217,Tryz.ntmps217;go_wp2_with fail
 refine(Yg6 _).mono ?_
 rintro e w1 ⟨rfl,hb⟩;have HB:=hid hb;clear hb;go_wp2_with fail
 go_ret
 exact⟨rfl,HB.out⟩
theorem Yj5 (w:World):Calls Tryz.prog 218 #[] w (Zan (.bool true) w):=by
 go_enter Tryz.func218,Tryz.ntmps218;go_wp2_with fail
 refine(Yg5 _).mono ?_
 rintro e w1 ⟨rfl,hb⟩;have HB:=hid hb;clear hb;go_wp2_with fail
 go_ret
 exact⟨rfl,HB.out⟩
theorem Yao {A B:Nat} {s:ASt} {w w':World} {e:Ending} (hr:Zd7 s=false) (h:Zd6 B A 8 0 1 (fun _=>Option.none) s w e w'):
 ∃R' s',e=.returned (.tuple #[iV 4096,iV 0])/\BV B A 8 s' w'/\Bud 9 2 2 R' 2 s'/\Zam A w w'/\R' 0=some (1,true)/\s'.rf=(Zbs s).rf/\s'.lf=(Zbs s).lf:=by
 have u:upN 0 (2^1)=0:=by decide
 rcases h with⟨g1,x,l,R1,s0,⟨p1,p2,p3,p4,p5,p6⟩,rfl,R',s',h1,h2,h3,h4,h5,h6,h7⟩|⟨_,_,⟨q1,_⟩|⟨_,q2,_⟩⟩
 · rcases p6 with⟨rfl,rfl,rfl⟩|⟨c1,c2,c3,c4,rfl⟩
   · cases p2
   · rw[u]at c2
     simp at c2;subst c2;have a:=p4.al _ _ _ p2;have hl:2^1<=2^l:=Nat.pow_le_pow_right (by decide) p1;have hx:x=0:=by omega
     subst hx
     exact⟨R',s',rfl,h1,h2,h3,(h4 0 1).2 (.inl ⟨rfl,rfl⟩),h6,h7⟩
 · rw[u]at q1;omega
 · rw[hr]at q2;cases q2
theorem Zw6 {A B:Nat} {R:Zag} {s:ASt} {w w':World} {e:Ending} (hr:Zd7 s=false) (hR:Til 2 R 2) (h0:R 0=some (1,true)) (h:Zd6 B A 8 2 0 R s w e w'):
 ∃R' s',e=.returned (.tuple #[iV 12288,iV 0])/\BV B A 8 s' w'/\Bud 9 3 3 R' 3 s'/\Zam A w w'/\R' 0=some (1,true)/\R' 2=some (0,true)/\s'.rf=(Zbs s).rf/\s'.lf=(Zbs s).lf:=by
 have u:upN 2 (2^0)=2:=by decide
 rcases h with⟨g1,x,l,R1,s0,⟨p1,p2,p3,p4,p5,p6⟩,rfl,R',s',h1,h2,h3,h4,h5,h6,h7⟩|⟨_,_,⟨q1,_⟩|⟨_,q2,_⟩⟩
 · rcases p6 with⟨rfl,rfl,rfl⟩|⟨c1,c2,c3,c4,rfl⟩
   · have hx:=p4.lt p2
     have:=(hR.one h0 p2 (p:=x) (by omega) (by omega) (Nat.le_refl _) (by have:=Zae l;omega)).2.2
     cases this
   · rw[u]at c2
     simp at c2;subst c2;have a:=p4.al _ _ _ p2;have hl:=Zae l;have h01:=(p3 0 1).2 h0
     have hx:x=2:=by
      rcases Nat.lt_or_ge x 2 with c|c
      · have:=(p4.one h01 p2 (p:=x) (by omega) (by omega) (Nat.le_refl _) (by omega)).2.2
        cases this
      · omega
     subst hx
     exact⟨R',s',rfl,h1,h2,h3,(h4 0 1).2 (.inr h0),(h4 2 0).2 (.inl ⟨rfl,rfl⟩),h6,h7⟩
 · rw[u]at q1;omega
 · rw[hr]at q2;cases q2
theorem Zy7 {s t:ASt} (h1:t.rf=(Zbs s).rf) (h2:t.lf=(Zbs s).lf) (h:s.rf=false):t.rf=false:=by
 rw[h1];unfold Zbs;rw[h];simp[h]
theorem Zox {s:ASt} (h:s.rf=false):Zd7 s=false:=by unfold Zd7;rw[h];rfl
theorem Yg4 (w:World):Calls Tryz.prog 205 #[] w (Zan (.bool true) w):=by
 have L1:Hid (Zhl 9=9):=hid (by decide);go_enter Tryz.func205,Tryz.ntmps205;go_wp2_with fail
 refine(Zh3 9 _).mono ?_
 rintro e w1 ⟨A,rfl,hA,hx,hb,hm⟩;rw[L1.out]at hx;have HX1:=hid hx;have HB1:=hid hb;have HN:=hid (Yej hx (by show 9<=80;omega) ⟨rfl,rfl⟩);clear hx hb hm hA;go_wp2_with fail;refine HN.out.mono ?_;rintro e w2 (⟨q,_⟩|⟨_,q,_⟩|⟨n,B,hn,_,hr,rfl,hbv,hg,hBw⟩)
 · exact absurd q (by decide)
 · exact absurd q (by decide)
 have hn8:n=8:=by have:(Zco 9).L=9:=rfl;omega
 subst hn8;have HV2:=hid hbv;have HB2:=hid (HB1.out.Zaq hg);have hbu:Bud 9 0 0 (fun _=>Option.none) 0 (bS0 (Zco 9) 8):=Bud.start 8 (by omega) (by omega) _ _;have hrf:(bS0 (Zco 9) 8).rf=false:=rfl;have HA1:=hid (Zey hbv hbu 1 (by omega));have HRF:=hid hrf;clear hbv hg hBw hn hr hbu hrf HN;go_wp2_with fail;refine HA1.out.mono ?_;intro e w3 hap;obtain⟨R1,s1,rfl,hbv,hbu,hg,h0,hf1,hf2⟩:=Yao (Zox HRF.out) hap;have HV3:=hid hbv;have HB3:=hid (HB2.out.Zaq hg);have HA2:=hid (Zey hbv hbu 0 (by omega));have HRF1:=hid (Zy7 hf1 hf2 HRF.out);have HTI:=hid (And.intro hbu.ti h0);clear hap hbv hbu hg h0 hf1 hf2 HA1;go_wp2_with fail;refine HA2.out.mono ?_;intro e w4 hap;obtain⟨R2,s2,rfl,hbv,hbu,hg,h0,h2,hf1,hf2⟩:=Zw6 (Zox HRF1.out) HTI.out.1 HTI.out.2 hap;have HV4:=hid hbv;have HB4:=hid (HB3.out.Zaq hg);have HBU:=hid hbu;clear hap hbv hbu hg h0 h2 hf1 hf2 HA2;go_wp2_with fail
 refine(Yj6 _).mono ?_
 rintro e w5 ⟨rfl,hb⟩;have HV5:=hid (HV4.out.below hb);have HB5:=hid (HB4.out.below HV4.out.1 hb);clear hb;go_wp2_with fail
 refine(Yj5 _).mono ?_
 rintro e w6 ⟨rfl,hb⟩;have HV6:=hid (HV5.out.below hb);have HB6:=hid (HB5.out.below HV5.out.1 hb);clear hb;go_wp2_with fail
 refine(Zn7 HV6.out (by omega)).mono ?_
 rintro e w7 ⟨rfl,hb⟩;have HV7:=hid (HV6.out.below hb);have HB7:=hid (HB6.out.below HV6.out.1 hb);clear hb;go_wp2_with fail
 refine(Zrr HV7.out 3 (by omega) HBU.out.front HBU.out.gr).mono ?_
 rintro e w8 ⟨rfl,hb⟩;have HB8:=hid (HB7.out.below HV7.out.1 hb);clear hb;go_wp2_with fail
 go_ret
 exact⟨rfl,HB8.out.bel⟩
theorem Yj4 (w:World):Calls Tryz.prog 169 #[] w (Zan (.bool true) w):=by
 go_enter Tryz.func169,Tryz.ntmps169;go_wp2_with fail
 refine(Yg4 _).mono ?_
 rintro e w1 ⟨rfl,hb⟩;have HB:=hid hb;clear hb;go_wp2_with fail
 go_ret
 exact⟨rfl,HB.out⟩
end
section
open Go Go.RowKit Go.Shelf Go.Deep Go.ChangeShapes Go.WideShapes Go.ChangeAt
structure Ycg where
 d:Int
 k:Int
 n:Int
structure Ycg.ok (a:Ycg):Prop where
 d0:0<=a.d
 d1:a.d<=255
 k0: -9223372036854775808<=a.k
 k1:a.k<=9223372036854775807
 n0: -9223372036854775808<=a.n
 n1:a.n<=9223372036854775807
def Zyb (w:World) (b off:Nat) (a:Ycg):Prop:=
 w.cell? (aD b off)=some (.int .u8 a.d)/\w.cell? (aD b (off+1))=some (iV a.k)/\w.cell? (aD b (off+2))=some (iV a.n)
def Zpz (w:World) (p:Option Addr) (acts:List Ycg):Prop:=
 (acts=[])\/∃b off,p=some (aD b off)/\b<w.heap.size/\∀i (h:i<acts.length),Zyb w b (off+i*3) acts[i]/\acts[i].ok
section
variable {A P n cap:Nat} {s:ASt} {ps:List (Option Nat)} {p:Option Addr} {w:World}
end
end
section
open Go Go.RowKit Go.Shelf
def Zmo (m:Nat->UInt8) (i:Nat):Nat->UInt8:=fun k=>if k/4096<i then m k else 0
theorem Zt8 (m:Nat->UInt8):Zmo m 0=fun _=>0:=by funext k;simp[Zmo]
def Twin (A' P':Nat) (s:ASt) (p:Option Addr) (n cap i:Nat) (w wr:World):Prop:=
 ∃qs,ArX A' {s with mm:=Zmo s.mm i} P' qs p n cap wr/\(∀j b:Nat,qs[j]?=some (some b)->w.heap.size<=b)/\Below w.heap.size w wr/\w.heap.size<=A'/\w.heap.size<=P'
theorem Zm8:(Tryz.prog.info? 124).map (·.size)=some 4096:=by kernel_rfl
theorem Yf1 (m:Nat->UInt8) (i:Nat):(Zat m i).all (·.oneCell')=true:=by
 rw[Array.all_eq_true_iff_forall_mem];intro v hv;simp only[Zat,List.mem_toArray,List.mem_map]at hv;obtain⟨j,_,rfl⟩:=hv;rfl
theorem Zlj {x:World} {b:Nat} {m:Nat->UInt8} {i:Nat} (h:x.heap[b]?=some (.cells (Zat m i) 124 (0,0))):x.rangeAt b 0 (Zat m i).toList:=fun j v hv=>by
 rw[Nat.zero_add,(Zaa h j).1,<-Array.getElem?_toList];exact hv
theorem Yiv (w:World) (o:Obj):Below w.heap.size w (w.alloc o):=(Below.refl _ _).alloc (Nat.le_refl _) _
theorem Zsi (x:World) (a b:Array Value) (T U:TypeId):((x.alloc (.cells a T)).alloc (.cells b U)).heap[x.heap.size]?=some (.cells a T (0,0))/\((x.alloc (.cells a T)).alloc (.cells b U)).heap[x.heap.size+1]?=some (.cells b U (0,0)):=by
 refine⟨(Below.heap_alloc _ _ _ (by simp)).trans (Zab _ _),?_⟩
 have h:=Zab (x.alloc (.cells a T)) (.cells b U)
 rwa [show(x.alloc (.cells a T)).heap.size=x.heap.size+1 from by simp]at h
section
variable {A P n cap:Nat} {s:ASt} {ps:List (Option Nat)} {p:Option Addr} {w:World}
def Zoi (A:Nat) (s:ASt) (w:World) (e:Ending) (w':World):Prop:=
 ∃A',e=.returned (pT A')/\On A' s w'/\Below w.heap.size w w'/\w.heap.size<=A'/\(∀k,Zpx A' w' k->w.heap.size<=k)/\∀k,Ztr A' w' k->Ztr A w k
theorem Zr5 (h:ArX A s P ps p n cap w) (w2:World) (hw:(w.alloc (.cells (Zly s (w.heap.size+1) p n cap) 121)).alloc (.cells (Zm3 (List.replicate s.L none)) 122)=w2):
 Twin w.heap.size (w.heap.size+1) s p n cap 0 w w2:=by
 have hno:∀(i b:Nat),(List.replicate s.L (none:Option Nat))[i]?≠some (some b):=fun i b h=>by
  rw[List.getElem?_replicate]at h;split at h<;>cases h
 obtain⟨g1,g2⟩:=Zsi w (Zly s (w.heap.size+1) p n cap) (Zm3 (List.replicate s.L none)) 121 122;rw[hw]at g1 g2
 have hb:Below w.heap.size w w2:=by
  rw[<-hw];exact((Below.refl _ w).alloc (Nat.le_refl _) _).alloc (by simp) _
 refine⟨List.replicate s.L none,?_,fun j b h=>absurd h (hno j b),hb,Nat.le_refl _,by omega⟩
 exact{
  Zch:=h.Zch
  len:=by simp
  hd:=g1
  row:=g2
  pg:=fun i b h=>absurd h (hno i b)
  no:=fun i _ j _=>by rw[Zt8]
  un:=fun i b h=>absurd h (hno i b)
  edges:=h.edges.Zdn fun b off e=>hb.block b (h.ltE e)
  num:=h.num
  room:=h.room
  nil:=h.nil
  ap:=by omega
  apg:=fun i b h=>absurd h (hno i b)
  one:=fun i j b h _=>absurd h (hno i b)
  eap:=fun b off e=>⟨by have:=h.ltE e;omega,by have:=h.ltE e;omega,fun i=>hno i b⟩
  lfb:=h.lfb}
theorem ArX.congr {A P n cap:Nat} {s:ASt} {ps:List (Option Nat)} {p:Option Addr} {x:World} (h:ArX A s P ps p n cap x) {m':Nat->UInt8} (e:∀k,k<s.L*4096->s.mm k=m' k):ArX A {s with mm:=m'} P ps p n cap x:=by
 have lt:∀{i:Nat} {q:Option Nat},ps[i]?=some q->i<s.L:=fun{i q} hq=>by
  have:=(List.getElem?_eq_some_iff.1 hq).1;rwa [h.len]at this
 exact{h with
  pg:=fun i b hb=>by
   have hi:=lt hb;rw[h.pg i b hb,Zvj fun j hj=>e (i*4096+j) (by omega)]
  no:=fun i hi j hj=>by
   have hl:=lt hi;show m' _=0;rw[<-e _ (by omega)];exact h.no i hi j hj}
theorem Twin.skip (h:ArX A s P ps p n cap w) {A' P' i:Nat} {wr:World} (t:Twin A' P' s p n cap i w wr) (hq:ps[i]?=some none):Twin A' P' s p n cap (i+1) w wr:=by
 obtain⟨qs,hx,h1,h3⟩:=t
 have e:Zmo s.mm (i+1)=Zmo s.mm i:=by
  funext k
  unfold Zmo;by_cases e1:k/4096<i
  · rw[if_pos e1,if_pos (by omega)]
  · rw[if_neg e1]
    by_cases e2:k/4096=i
    · rw[if_pos (by omega)]
      have:=h.no i hq (k%4096) (by omega)
      rwa [show i*4096+k%4096=k by omega]at this
    · rw[if_neg (by omega)]
 exact⟨qs,by rw[e];exact hx,h1,h3⟩
theorem Twin.more {A' P' i b:Nat} {qs:List (Option Nat)} {x:World} (hx:ArX A' {s with mm:=Zmo s.mm i} P' qs p n cap x) (hb:qs[i]?=some (some b)) (h1:∀j b:Nat,qs[j]?=some (some b)->w.heap.size<=b)
 (h3:Below w.heap.size w x) (h4:w.heap.size<=A'/\w.heap.size<=P'):Twin A' P' s p n cap (i+1) w (x.setRow b (Zat s.mm i)):=by
 refine⟨qs,?_,h1,⟨h3.os,h3.tape,h3.output,by rw[size_setRow];exact h3.size,fun k hk=>(setRow_other _ _ _ _ (by have:=h1 i b hb;omega)).trans (h3.block k hk)⟩,h4⟩
 refine hx.Yf2 (m':=Zmo s.mm (i+1)) hb (by rw[size_setRow];exact Nat.le_refl _) ?_ (fun k _ hk=>setRow_other _ _ _ _ hk) (fun k hk=>?_)
 · rw[setRow_heap _ _ _ _ _ _ (hx.pg i b hb)]
   rw[Zvj (m:=s.mm) (m':=Zmo s.mm (i+1)) fun j hj=>by unfold Zmo;rw[if_pos (by omega)]]
 · show Zmo s.mm (i+1) k=Zmo s.mm i k
   unfold Zmo;by_cases e1:k/4096<i
   · rw[if_pos e1,if_pos (by omega)]
   · rw[if_neg e1,if_neg (by omega)]
theorem Zxn (h:ArX A s P ps p n cap w):Calls Tryz.prog 16 #[pT A] w (Zoi A s w):=by
 have hsm:=h.Zch.small;have hmk:=Zm0 s.L hsm;obtain⟨c0,c1,c2,c3,c4⟩:=h.head;have HX:=hid h;clear h;have hA:=HX.out.ltA
 have d2:(w.alloc (.cells #[iV (s.L:Int),.slice p n cap,.slice (some (aD P 0)) s.L s.L,.bool s.rf,iV (s.lf:Int)] 121)).cell? (aD A 2)=some (.slice (some (aD P 0)) s.L s.L):=
  ((Yiv w _).cell (p:=(aD A 2)) hA).trans c2
 have d3:((w.alloc (.cells #[iV (s.L:Int),.slice p n cap,.slice (some ⟨w.heap.size+1,0,none⟩) s.L s.L,.bool s.rf,iV (s.lf:Int)] 121)).alloc (.cells (Zm3 (List.replicate s.L none)) 122)).cell? (aD A 2)=some (.slice (some (aD P 0)) s.L s.L):=
  ((((Below.refl _ w).alloc (Nat.le_refl _) _).alloc (by simp) _).cell (p:=(aD A 2)) hA).trans c2
 have HST:=hid (Zr5 HX.out _ rfl);go_enter Tryz.func16,Tryz.ntmps16;go_wp2_with fail
 go_loopw[23] (fun i wr=>∃k:Nat,k<=s.L/\i=iV k/\Twin w.heap.size (w.heap.size+1) s p n cap k w wr) (fun i _=>s.L-(intOf i).toNat)
 case atStart=>exact⟨0,Nat.zero_le _,rfl,HST.out⟩
 case round=>
  clear HST d2 d3 c0 c1 c2 c3 c4 hmk;obtain⟨k,hk,rfl,ht⟩:=hrel;by_cases hlt:k<s.L
  · have hkl:k<ps.length:=by rw[HX.out.len];exact hlt
    have hbw:=ht.choose_spec.2.2.1;cases hq:ps[k]? with
    |none=>rw[List.getElem?_eq_none_iff]at hq;omega
    |some q=>
     have hsl:=(HX.out.below hbw).slot hq;cases q with
     |none=>
      simp only[Zie]at hsl;have HT:=hid (ht.skip HX.out hq);clear hq ht hbw;go_wp2_with fail;go_roundw
      case rel=>exact⟨k+1,by omega,by go_num,HT.out⟩
      case measure=>simp[intOf];omega
     |some b=>
      simp only[Zie]at hsl;have hpg:=(HX.out.below hbw).pg k b hq;have hbl:=HX.out.ltG hq;have hmem:=HX.out.un k b hq;have HPG:=hid hpg;have HT:=hid ht;have HU:Hid ((Tryz.prog.info? 124).map (·.size)=some (Zat s.mm k).toList.length):=hid (by rw[Zm8];simp[Zat]);have HQ:=hid (And.intro hq (And.intro hbl hmem));clear hq ht hbw hpg hbl hmem;go_upto_region 9 with fail;clear hsl;have hS0:(fun X:World=>X.rangeAt b 0 (Zat s.mm k).toList/\X.heap[b]?=some (.cells (Zat s.mm k) 124 (0,0))) wr.drew:=⟨Zlj (x:=wr.drew) HPG.out,HPG.out⟩;refine wp_region_held_drew (S:=fun X:World=>X.rangeAt b 0 (Zat s.mm k).toList/\X.heap[b]?=some (.cells (Zat s.mm k) 124 (0,0))) (by kernel_rfl) hS0 (fun hHeld=>?_);clear hS0;refine tk 0 (iV k) rfl hHeld (fun X hS=>by go_simp) ?_;refine tk 2 (pT b) rfl hHeld (fun X hS=>by go_simp) ?_;refine tk 3 (pT b) rfl hHeld (fun X hS=>by go_simp) ?_;refine wpAnyH_take (i:=4) (v:=.agg (Zat s.mm k)) rfl (by kernel_rfl) (by kernel_rfl) (by kernel_rfl) (fun _ _ _ h=>h) (yieldsIf_load_mid (by rfl) 124 (.tmp 33) rfl b 0 rfl (Zat s.mm k).toList _ (fun X hS=>hS.1) Tryz.underlying124 rfl HU.out) hHeld ?_
      try simp only[Act.put,apu]
      refine rd [1] (AllReadyH.cons rfl (fun K1 hK1=>?_) AllReadyH.nil);go_simp;obtain⟨qs,hx,h1q,hbw,hA1,hP1⟩:=HT.out;have hxd:ArX w.heap.size {s with mm:=Zmo s.mm k} (w.heap.size+1) qs p n cap wr.drew:=hx.below (Below.refl _ _).drew
      refine(Zjn hxd k hlt HQ.out.2.2).mono ?_
      rintro e x1 ⟨b2,qs2,rfl,hqb,hx1,hst⟩
      have hnb:b≠b2:=fun e=>by
       rcases hst.news k b2 hqb with h5|h5
       · have:=h1q k b2 h5;have:=HQ.out.2.1;omega
       · have:=HQ.out.2.1;have h6:wr.heap.size<=b2:=h5;have:=hbw.size;omega
      have hno:¬Own w.heap.size (w.heap.size+1) qs b:=fun ho=>by
       have:=HQ.out.2.1
       rcases ho with h5|h5|⟨j,h5⟩
       · omega
       · omega
       · have:=h1q j b h5;omega
      have hpg1:=(hst.block b (Nat.lt_of_lt_of_le HQ.out.2.1 hbw.size) hno).trans HPG.out;have hS1:(fun X:World=>X.rangeAt b 0 (Zat s.mm k).toList/\X.heap[b]?=some (.cells (Zat s.mm k) 124 (0,0))) x1:=⟨Zlj hpg1,hpg1⟩
      have HM:Hid (Twin w.heap.size (w.heap.size+1) s p n cap (k+1) w (x1.setRow b2 (Zat s.mm k))):=hid (Twin.more hx1 hqb (fun j c hc=>by
       rcases hst.news j c hc with h5|h5
       · exact h1q j c h5
       · exact Nat.le_trans hbw.size h5) (hbw.drew.trans (hst.below hbw.size hA1 hP1 h1q)) ⟨hA1,hP1⟩)
      have HX1:=hid (hx1.pg k b2 hqb)
      have HS2:Hid ((fun X:World=>X.rangeAt b 0 (Zat s.mm k).toList/\X.heap[b]?=some (.cells (Zat s.mm k) 124 (0,0))) (x1.setRow b2 (Zat s.mm k))):=hid (by
       have h7:=(setRow_other x1 b2 b (Zat s.mm k) hnb).trans hpg1
       exact⟨Zlj h7,h7⟩)
      clear hHeld hx h1q hbw hA1 hP1 hxd hqb hx1 hst hnb hno hpg1;refine hK1.out _ _ hS1 (fun hHeld=>?_);clear hK1 hS1
      try simp only[Act.put,apu]
      refine tk 5 (pT b2) rfl hHeld (fun X hS=>by go_simp) ?_;refine rd [6] (AllReadyH.cons rfl (fun K2 hK2=>?_) AllReadyH.nil);rw[if_pos (by rfl)];refine wp_store_row 124 (.tmp 35) (.tmp 34) rfl b2 (Zat s.mm k) rfl rfl 124 (Zat (Zmo s.mm k) k) HX1.out (by rw[Zm8,Zhh]) (by rw[Zhh,Zhh]) (Yf1 _ _) ?_;refine hK2.out _ _ HS2.out (fun _=>?_);clear hK2 hHeld HX1 HS2 HPG
      try simp only[Act.put,apu]
      refine wpAnyH_done (by kernel_rfl) ?_ _;go_wp2_with fail;go_roundw
      case rel=>exact⟨k+1,by omega,by go_num,HM.out⟩
      case measure=>simp[intOf];omega
  · have hk2:k=s.L:=by omega
    subst hk2;have HT:=hid ht;clear ht;go_wp2_with fail
    go_ret
    obtain⟨qs,hx,h1q,hbw,hA1,hP1⟩:=HT.out;have hx2:=hx.congr (m':=s.mm) fun i hi=>by show Zmo s.mm s.L i=s.mm i;unfold Zmo;rw[if_pos (by have:i<s.L*4096:=hi;omega)]
    refine⟨w.heap.size,rfl,⟨_,_,_,_,_,hx2⟩,hbw,Nat.le_refl _,fun i ho=>?_,fun i he=>?_⟩
    · rcases(Za0 hx2 i).1 ho with h5|h5|⟨j,h5⟩
      · omega
      · omega
      · exact h1q j i h5
    · obtain⟨off,h5⟩:=(Zbp hx2 i).1 he
      exact(Zbp HX.out i).2 ⟨off,h5⟩
end
end
section
open Go Go.RowKit Go.Shelf
theorem Zyn:tkT (fun _=>Option.none) 0=[]:=by rfl
theorem Zsl {A:Nat} {s:ASt} {w:World} (h:On A s w):Calls Tryz.prog 16 #[pT A] w (Zoi A s w):=by
 obtain⟨P,ps,p,n,cap,h⟩:=h;exact Zxn h
structure PB (Q n A B g:Nat) (R:Zag) (s:ASt) (u:Option Addr) (tc:Nat) (w0 x:World):Prop where
 dp:DP A B n g R s u x
 bq:Zht Q 1 (n:Int) (g:Int) (rfI s) (.slice u (tkT R g).length tc) x
 mq:Zbb A Q x
 bs:Ze0 A w0 x
 qs:w0.heap.size<=Q
section
variable {Q n A B g g' tc tc':Nat} {R R':Zag} {s s':ASt} {u u':Option Addr} {w0 x y:World}
end
end
section
open Go Go.RowKit Go.Shelf
theorem Zam.Zo6 {A:Nat} {w0 w:World} (h:Ze0 A w0 w):Zam A w0 w:=
 ⟨h.bel.os,h.bel.tape,h.bel.output,h.bel.size,fun k hk _=>h.bel.block k hk,fun k hk=> .inr (h.own k hk),fun k hk=> .inr (h.edg k hk)⟩
theorem Zzm {A B n:Nat} {s:ASt} {w w':World} {e:Ending} (hn:1<=n) (hr:Zd7 s=false) (h:Zd6 B A n 0 0 (fun _=>Option.none) s w e w'):
 ∃R' R1 s' l,e=.returned (.tuple #[iV 4096,iV 0])/\BV B A n s' w'/\Bud (n+1) 1 1 R' 1 s'/\Zam A w w'/\R' 0=some (0,true)/\(∀i k,R' i=some (k,true)->i=0)/\Zcx (fun _=>Option.none) s.mm s'.mm/\Sc n 0 0 (rfI s) (fun _=>Option.none) 1 0 l (rfI s') R1/\tkT R' 1=Zm9 (tkT (fun _=>Option.none) 0) 0 0/\s'.rf=(Zbs s).rf:=by
 have u:upN 0 (2^0)=0:=by decide
 rcases h with⟨g1,x,l,R1,s0,⟨p1,p2,p3,p4,p5,p6⟩,rfl,R',s',h1,h2,h3,h4,h5,h6,h7⟩|⟨_,_,⟨q1,_⟩|⟨_,q2,_⟩⟩
 · rcases p6 with⟨rfl,rfl,rfl⟩|⟨c1,c2,c3,c4,rfl⟩
   · cases p2
   · rw[u]at c2
     simp at c2;subst c2;have a:=p4.al _ _ _ p2;have hl:=Zae l;have hx:x=0:=by omega
     subst hx;have hr:rfI s'=rfI (Zbs s):=Zcr h6 h7;have hti:Til 0 (fun _=>Option.none) 0:=(Bud.start n hn (by have:=h2.c2;omega) false 0).ti
     refine⟨R',R1,s',l,rfl,h1,h2,h3,(h4 0 0).2 (.inl ⟨rfl,rfl⟩),fun i k c=>?_,?_,⟨p4,p3,p5,.inr ⟨c1,?_⟩⟩,?_,h6⟩
     · rcases(h4 i k).1 c with⟨c,_⟩|c
       · exact c
       · cases c
     · rw[Zdk]at h5;exact h5
     · unfold Zfl
       rw[if_neg (by rw[u];omega),(Yc2 s).2 c4,if_neg (by decide),hr,Zle,u]
     · exact Zo3 (l:=0) (c:=0) hti h2.ti h4 fun l c=>by cases c
 · rw[u]at q1;omega
 · rw[hr]at q2;cases q2
theorem PyS.first {n:Nat} {R:Zag} {s:ASt} (hrc:Rcy n 1 R 4096 (fun _=>[]) 16 (Zln s 4096)) (h0:R 0=some (0,true)) (hA:∀i k,R i=some (k,true)->i=0) (hz:∀p,2<=p->Zfi s.mm p):PyS n 1 16 R (fun _=>[]) [] (Zln s 4096) where
 rc:=hrc
 v0:=h0
 vq:=by rintro ⟨j,hj,hm⟩;cases hm
 ow:=fun c hc=>by cases hc
 nd:=.nil
 al:=fun i k e hi=>absurd (hA i k e) hi
 nt:=fun p hp=> .inl fun j hj=>by
  show Zc4 (Znf s.mm 4096) (4096+40) 16 (4096*p+8+j)=0;rw[Zav _ _ (by omega)];unfold Znf;rw[Zbt _ _ _ (by rw[List.length_replicate];omega)];exact hz p hp j hj
theorem Zne {n:Nat} {rf:Bool} {lf:Nat} {s':ASt} (hk:Zcx (fun _=>Option.none) (Zc4 (fun _=>0) 0 Zhr) s'.mm) (p:Nat) (hp:2<=p):Zfi s'.mm p:=fun j hj=>by
 have e:Zc4 (fun _=>(0:UInt8)) 0 Zhr (4096*p+8+j)=0:=Zav _ _ (by omega)
 rcases hk.2 (4096*p+8+j) (by omega) (by omega)with c|c
 · rw[c,e]
 · exact c
theorem BV.stR {B A n:Nat} {s:ASt} {w0 x:World} {L2:List Blk} {R:Nat} {c:Array Value} {t:TypeId} (h:BV B A n s x) (hf:Fr A w0 (⟨R,c,t⟩::L2) x) (vs:List Value) (k:Nat):BV B A n s (Bt.stR x R vs k):=by
 obtain⟨h1, -, -,h4⟩:=hf.bs ⟨R,c,t⟩ (by simp)
 have nb:B≠R:=fun e=>by
  have h3:=h.2.2;unfold Zj8 at h3;rw[e,h1]at h3;simp only[Option.some.injEq,Obj.cells.injEq]at h3;exact h4.2.1 h3.2.1
 exact⟨(Fr.Zc0 (L1:=[]) vs k x c hf h.1).2,h.2.1,(Zcn nb vs k x).trans h.2.2⟩
structure OpS (B A n:Nat) (s:ASt) (w:World) (L:List Blk) (x:World):Prop where
 bv:BV B A n s x
 fr:Fr A w L x
 bs:Ze0 A w x
section
variable {B A n:Nat} {s s':ASt} {w x y:World} {L:List Blk}
theorem OpS.below (h:OpS B A n s w L x) (hb:Below x.heap.size x y):OpS B A n s w L y:=⟨h.bv.below hb,h.fr.below h.bv.1 hb,h.bs.below h.bv.1 hb⟩
theorem OpS.Zf9 (h:OpS B A n s w L x) (hV:BV B A n s' y) (hg:Zam A x y):OpS B A n s' w L y:=⟨hV,h.fr.Zaq h.bv.1 hg,h.bs.Zaq hg⟩
theorem OpS.new (h:OpS B A n s w L x) (c:Array Value) (t:TypeId) (ht:Zc7 t):OpS B A n s w (⟨x.heap.size,c,t⟩::L) (x.alloc (.cells c t)):=⟨h.bv.below (Zaj _ _),h.fr.new h.bv.1 c t ht,h.bs.below h.bv.1 (Zaj _ _)⟩
end
def Yjk (N:Nat) (w:World) (e:Ending) (w':World):Prop:=∃Q B A n R s v,N=n+1/\e=.returned (.tuple #[rcP Q,v,.bool true])/\LwS Q B A n 1 16 R (fun _=>[]) [] s v w'/\s.rf=false/\Ze0 A w w'
theorem Ygh (N:Nat) (h3:3<=N) (h60:N<=60) (w:World):
 Calls Tryz.prog 13 #[iV N] w (Yjk N w):=by
 have HLN:Hid (Zhl (N:Int)=N):=hid (by unfold Zhl;omega);have HN:=hid (And.intro h3 h60);have HB0:=hid (Zaj w (.cells rqZ 33));have hz0:=Zab w (.cells rqZ 33);clear h3 h60;go_enter Tryz.func13,Tryz.ntmps13;go_upto_region 1 with fail;change Code.wp _ _ _ _ (w.alloc (.cells rqZ 33));obtain⟨x,hx⟩:=eX (w.alloc (.cells rqZ 33));obtain⟨D,hD⟩:=eX w.heap.size;have HD:=hid hD;rw[hx]at HB0 hz0;rw[hD]at hz0;rw[hx,hD];have HZ0:=hid hz0;clear hx hD hz0;go_wp2_with fail
 refine(Zh3 (N:Int) _).mono ?_
 rintro e w1 ⟨A,rfl,hA,hx,hbs,hm⟩;rw[HLN.out]at hx;have hDx:D<x.heap.size:=(Array.getElem?_eq_some_iff.1 HZ0.out).1
 have hfr:Fr A w [⟨D,rqZ,33⟩] w1:=⟨fun y hy=>by
  rw[List.mem_singleton]at hy;subst hy
  exact⟨(hbs.bel.block _ hDx).trans HZ0.out,hm D hDx,by rw[HD.out];exact Nat.le_refl _,Za3⟩,List.pairwise_singleton _ _,Zam.Zo6 (hbs.Zhz HB0.out)⟩
 have HX1:=hid hx;have HF1:=hid hfr;have HBS1:=hid (hbs.Zhz HB0.out);have HNW:=hid (Yej hx (by show N<=80;have:=HN.out;omega) ⟨rfl,rfl⟩);clear hx hbs hm hA hDx hfr HB0 HZ0 HD;go_wp2_with fail;refine HNW.out.mono ?_;rintro e w2 (⟨q,_⟩|⟨_,q,_⟩|⟨n,B,hn,hn1,hr,rfl,hbv,hg,hBw⟩)
 · exact absurd q (by show¬N<=1;have:=HN.out;omega)
 · exact absurd q (by rw[show Zd7 (Zco N)=false from rfl];decide)
 have hnN:N=n+1:=hn;subst hnN;have hn60:n+1<=60:=HN.out.2;have hn2:2<=n:=by have:=HN.out.1;omega
 have HX2:=hid (show OpS B A n (bS0 (Zco (n+1)) n) w [⟨D,rqZ,33⟩] w2 from⟨hbv,HF1.out.Zaq HX1.out hg,HBS1.out.Zaq hg⟩);have hbu:Bud (n+1) 0 0 (fun _=>Option.none) 0 (bS0 (Zco (n+1)) n):=Bud.start n (by omega) (by omega) _ _;have hrf:(bS0 (Zco (n+1)) n).rf=false:=rfl;have HBU:=hid hbu;have HAL:=hid fun X (hX:BV B A n (bS0 (Zco (n+1)) n) X)=>Zey hX hbu 0 (by omega)
 have HQN:=hid fun X=>Ya5 (n+1) (by omega) (-1) (by omega) X
 have hnv:Zzq (n+1) (-1)=.tuple #[bqV 1 (n:Int) 0 (-1) (.slice none 0 0),iV 0]:=by
  unfold Zzq;rw[if_neg (by omega),if_neg (by decide)];rw[show(((n+1:Nat):Int)-1)=(n:Int) by omega];rfl
 rw[hnv]at HQN;have HRI:Hid (rfI (bS0 (Zco (n+1)) n)= -1):=hid rfl;clear hbv hg hBw hn hr hbu hrf hnv HX1 HF1 HBS1 HNW hn1;go_wp2_with fail
 refine(HQN.out _).mono ?_
 rintro e w3 ⟨rfl,hb⟩;have HX3:=hid ((HX2.out.below hb).new #[iV 1,iV n,iV 0,iV (-1),.slice none 0 0] 27 (by unfold Zc7;decide));clear hb HX2 HQN;go_upto_region 5 with fail;change Code.wp _ _ _ _ (w3.alloc (.cells #[iV 1,iV n,iV 0,iV (-1),.slice none 0 0] 27));obtain⟨x3,hx3⟩:=eX (w3.alloc (.cells #[iV 1,iV n,iV 0,iV (-1),.slice none 0 0] 27));obtain⟨P,hP⟩:=eX w3.heap.size;rw[hx3,hP]at HX3;rw[hx3,hP];clear hx3 hP;go_wp2_with fail
 refine(HAL.out _ HX3.out.bv).mono ?_
 intro e w4 hap;obtain⟨R',R1,s',l,rfl,hbv,hbu,hg,h0,hA,hk,hsc,ht,hrf⟩:=Zzm (by omega) rfl hap;have HX4:=hid (HX3.out.Zf9 hbv hg);have HBU':=hid hbu;have HR0:=hid h0;have HRA:=hid hA;have HZN:=hid (Zne (n:=n) (rf:=false) (lf:=0) hk);have HRF:Hid (s'.rf=false):=hid hrf;have hri:rfI s'= -1:=by unfold rfI;rw[hrf];rfl
 rw[hri,HRI.out]at hsc;have HRI':=hid hri;have HTT:=hid ht;have hti:Til 0 (fun _=>Option.none) 0:=HBU.out.ti;have HQA:=hid fun X (hX:Zcg X none (tkT (fun _=>Option.none) 0))=>Zps 1 (-1) (by omega) n 0 (by omega) (by omega) none 0 (fun _=>Option.none) hti 0 (by omega) X hX 1 0 l (-1) R1 hsc (by omega)
 unfold Yh2 at HQA;rw[<-ht]at HQA;have hl0:(tkT (fun _=>Option.none) 0).length=0:=rfl;rw[hl0]at HQA;clear hap hbv hbu hg h0 hA hk hsc ht hrf hri hti hl0 HAL HX3 HRI HBU;have p0:=HX4.out.fr.cell0 0 rfl;have p1:=HX4.out.fr.cell0 1 rfl;have p2:=HX4.out.fr.cell0 2 rfl;have p3:=HX4.out.fr.cell0 3 rfl;have p4:=HX4.out.fr.cell0 4 rfl
 go_upto_region 7 with fail
 refine(HQA.out _ (.inl Zyn)).mono ?_
 rintro e w5 ⟨u,tc,rfl,hru,hb⟩;have HX5:=hid (HX4.out.below hb);have HRN:=hid hru;obtain⟨ln,hln⟩:=eX ((tkT R' 1).length);have HLN:=hid hln;rw[hln];clear hb hru hln HX4 HQA p0 p1 p2 p3 p4;have HX6:=hid (show OpS B A n s' w [⟨P,([iV 1,iV n,iV (1:Nat),iV (-1),.slice u ln tc]:List Value).toArray,27⟩,⟨D,rqZ,33⟩] (stR w5 P [iV 1,iV n,iV (1:Nat),iV (-1),.slice u ln tc] 0)from⟨HX5.out.bv.stR HX5.out.fr [iV 1,iV n,iV (1:Nat),iV (-1),.slice u ln tc] 0,HX5.out.fr.Zd9 HX5.out.bv.1 [iV 1,iV n,iV (1:Nat),iV (-1),.slice u ln tc] rfl,Ze0.Zc0 HX5.out.fr.ge0 [iV 1,iV n,iV (1:Nat),iV (-1),.slice u ln tc] 0 w5 HX5.out.bs HX5.out.bv.1 HX5.out.fr.Zji⟩);have HRN6:=hid (HRN.out.stR (Zm6 HRN.out (HX5.out.fr.cell0 2 rfl)) [iV 1,iV n,iV (1:Nat),iV (-1),.slice u ln tc] 0);have p0:=HX5.out.fr.cell0 0 rfl;have p1:=HX5.out.fr.cell0 1 rfl;have p2:=HX5.out.fr.cell0 2 rfl;have p3:=HX5.out.fr.cell0 3 rfl;have p4:=HX5.out.fr.cell0 4 rfl
 have z0:=HX5.out.fr.Za5 0;have z1:=HX5.out.fr.Za5 1;have z2:=HX5.out.fr.Za5 2;have z3:=HX5.out.fr.Za5 3;have z4:=HX5.out.fr.Za5 4
 go_upto_region 7 with fail;change Code.wp _ _ _ _ (stR w5 P [iV 1,iV n,iV (1:Nat),iV (-1),.slice u ln tc] 0);obtain⟨w6,hw6⟩:=eX (stR w5 P [iV 1,iV n,iV (1:Nat),iV (-1),.slice u ln tc] 0);rw[hw6]at HX6 HRN6⊢;clear hw6 HX5 HRN p0 p1 p2 p3 p4 z0 z1 z2 z3 z4;have hth:Zac s'.L s'.es (4096:Int) 64=0:=HBU'.out.there (by omega) (by omega) (by omega);have HOV:=hid fun X (hX:On A s' X)=>Zgw hX 4096 64 (by omega)
 unfold ofV at HOV;rw[hth,if_pos rfl]at HOV;clear hth;obtain⟨q0,q1⟩:=HX6.out.bv.all;go_upto_region 8 with fail
 refine(HOV.out _ HX6.out.bv.1).mono ?_
 rintro e w7 ⟨rfl,hb⟩;have HX7:=hid ((HX6.out.below hb).new #[pT A,iV 4096,iV 64] 40 (by unfold Zc7;decide));have HRN7:=hid ((HRN6.out.below hb).below (Zaj w7 (.cells #[pT A,iV 4096,iV 64] 40)));clear hb HX6 HRN6 HOV q0 q1;go_upto_region 8 with fail;change Code.wp _ _ _ _ (w7.alloc (.cells #[pT A,iV 4096,iV 64] 40));obtain⟨x7,hx7⟩:=eX (w7.alloc (.cells #[pT A,iV 4096,iV 64] 40));obtain⟨V,hV⟩:=eX w7.heap.size;rw[hx7,hV]at HX7;rw[hx7]at HRN7;rw[hx7,hV];clear hx7 hV;have HNR:=hid fun X (hX:BV B A n s' X)=>Zy3 hX HBU'.out HR0.out 4096 64 (by unfold adr;omega) (by unfold adr;omega) (by omega) (by omega)
 have v0:=HX7.out.fr.cell0 0 rfl;have v1:=HX7.out.fr.cell0 1 rfl;have v2:=HX7.out.fr.cell0 2 rfl
 go_upto_region 9 with fail
 refine(HNR.out _ HX7.out.bv).mono ?_
 rintro e w8 ⟨Q,rfl,hrv,hrc,hg,hQ⟩;have HX8:=hid (HX7.out.Zf9 hrv.1 hg);have HV8:=hid hrv;have HRC:=hid hrc;have HRN8:=hid (HRN7.out.Zaq HX7.out.bv.1 hg);clear hrv hrc hg hQ HX7 HRN7 HNR v0 v1 v2;have p0:=HX8.out.fr.Zak 0 rfl;have p1:=HX8.out.fr.Zak 1 rfl;have p2:=HX8.out.fr.Zak 2 rfl;have p3:=HX8.out.fr.Zak 3 rfl;have p4:=HX8.out.fr.Zak 4 rfl
 go_wp2_with fail
 refine(Ygu (n:Int) 1 (-1) u ln tc _).mono ?_
 rintro e w9 ⟨rfl,hb⟩;have HX9:=hid (HX8.out.below hb);have HV9:=hid (HV8.out.below hb);have HRN9:=hid (HRN8.out.below hb);clear hb HX8 HV8 HRN8 p0 p1 p2 p3 p4;have HFR:Hid (Fr A w [⟨D,rqZ,33⟩] w9):=hid HX9.out.fr.Zia.Zia;have oQ:=Zbl HFR.out.at0;have zQ:=Zap HFR.out.at0;have HFF:=hid (HFR.out.Zd9 HX9.out.bv.1 (rqL (n:Int) 1 (-1) 16 (.slice u ln tc) q0P q0N q0N (.slice none 0 0)) rfl);have HPY:=hid (PyS.first HRC.out HR0.out HRA.out HZN.out);have hl1:(tkT R' 1).length=1:=by rw[HTT.out];rfl
 have hd:DW A (n:Int) ((1:Nat):Int) (rfI (Zln s' 4096)) ((16:Nat):Int) (tkT R' 1) (fun _=>[]) [] (.agg (rqA (n:Int) 1 (-1) 16 (.slice u ln tc) q0P q0N q0N (.slice none 0 0))) (stR w9 D (rqL (n:Int) 1 (-1) 16 (.slice u ln tc) q0P q0N q0N (.slice none 0 0)) 0):=by
  refine⟨u,tc,q0P,q0N,q0N,none,0,0,?_,⟨HRN9.out.stR (Zm6 HRN9.out oQ.2.2.1) (rqL (n:Int) 1 (-1) 16 (.slice u ln tc) q0P q0N q0N (.slice none 0 0)) 0,by rw[hl1];omega,fun k hk=> .inl rfl,fun k=>rfl,fun k=>Nat.zero_le _,(fun k hk p hp=>by cases hp),fun k _=>rfl,fun k=>Nat.le_refl _,.inl ⟨rfl,rfl⟩,rfl,Nat.zero_le _⟩,fun k hk hq=>absurd rfl hq⟩
  rw[HLN.out,show rfI (Zln s' 4096)= -1 from HRI'.out];rfl
 have HPO:=hid ((⟨Q,B,A,n,R',Zln s' 4096,.agg (rqA (n:Int) 1 (-1) 16 (.slice u ln tc) q0P q0N q0N (.slice none 0 0)),rfl,rfl,⟨HV9.out.stR (L1:=[]) HFR.out (rqL (n:Int) 1 (-1) 16 (.slice u ln tc) q0P q0N q0N (.slice none 0 0)) 0,HPY.out,hd⟩,HRF.out,Ze0.Zc0 HFR.out.ge0 (rqL (n:Int) 1 (-1) 16 (.slice u ln tc) q0P q0N q0N (.slice none 0 0)) 0 w9 HX9.out.bs HX9.out.bv.1 HFR.out.Zji⟩:Yjk (n+1) w (.returned (.tuple #[rcP Q,.agg (rqA (n:Int) 1 (-1) 16 (.slice u ln tc) q0P q0N q0N (.slice none 0 0)),.bool true])) (stR w9 D (rqL (n:Int) 1 (-1) 16 (.slice u ln tc) q0P q0N q0N (.slice none 0 0)) 0)));clear hl1 hd;go_wp2_with fail;change bodyPost _ _ _ _ _ (stR w9 D (rqL (n:Int) 1 (-1) 16 (.slice u ln tc) q0P q0N q0N (.slice none 0 0)) 0);have yQ:=Zaf HFF.out.at0;obtain⟨z,hz⟩:=eX (stR w9 D (rqL (n:Int) 1 (-1) 16 (.slice u ln tc) q0P q0N q0N (.slice none 0 0)) 0);rw[hz]at HPO yQ⊢;exact bodyPost_ret (v:=.tuple #[rcP Q,.agg (rqA (n:Int) 1 (-1) 16 (.slice u ln tc) q0P q0N q0N (.slice none 0 0)),.bool true]) (by simp[results,Tryz.results13,go_sem,yQ]) rfl HPO.out
end
end Go.Proofs.YtgcidfenjlmljaaGreat.Bt
