import Derived.Test.YtgcidfenjlmljaaGreatPg40
import Derived.Laws.Bits64
import Derived.Test.YtgcidfenjlmljaaGreatPgR
set_option linter.unusedVariables false
set_option linter.unusedSimpArgs false
set_option maxRecDepth 100000
set_option maxHeartbeats 16000000
namespace Go.Proofs.YtgcidfenjlmljaaGreat.Bt
section
open Go Go.RowKit Go.Shelf
def Ybu (s x:Nat):Nat:=((s^^^x)*11400714819323198485%18446744073709551616)^^^((s^^^x)*11400714819323198485%18446744073709551616/4294967296)
theorem Zmg (n:Nat):IntKind.u64.wrap (n:Int)=((n%18446744073709551616:Nat):Int):=by
 have:IntKind.u64.wrap (n:Int)=(n:Int)%18446744073709551616:=by
  unfold IntKind.wrap;simp[IntKind.bits,IntKind.signed]
 rw[this];omega
theorem Yfb {a b:Nat} (ha:a<18446744073709551616) (hb:b<18446744073709551616):a^^^b<18446744073709551616:=Nat.xor_lt_two_pow (n:=64) ha hb
theorem Zih {s x:Nat} (hs:s<18446744073709551616) (hx:x<18446744073709551616):Zvv (s:Int) (x:Int)=((Ybu s x:Nat):Int):=by
 have h1:=bits_xor_u64_nat s x hs hx;unfold Zvv Ybu;rw[h1]
 have h2:IntKind.u64.wrap (((s^^^x:Nat):Int)*11400714819323198485)=(((s^^^x)*11400714819323198485%18446744073709551616:Nat):Int):=by
  rw[<-Zmg];rfl
 rw[h2];exact xorShift_u64 _ 4294967296 (Nat.mod_lt _ (by decide))
theorem Zvu (s x:Nat):Ybu s x<18446744073709551616:=by
 unfold Ybu;exact Yfb (Nat.mod_lt _ (by decide)) (by have:=Nat.mod_lt ((s^^^x)*11400714819323198485) (show 18446744073709551616>0 by decide);omega)
theorem Yil {t:Nat} (ht:t<18446744073709551616) (e:t*11400714819323198485%18446744073709551616=18405771256403199517):t=9978324691820313577:=by
 have h1:11400714819323198485*17428512612931826493%18446744073709551616=1:=by kernel_rfl
 have h2:18405771256403199517*17428512612931826493%18446744073709551616=9978324691820313577:=by kernel_rfl
 have h3:t*11400714819323198485*17428512612931826493%18446744073709551616=t:=by
  rw[Nat.mul_assoc,Nat.mul_mod,h1,Nat.mul_one,Nat.mod_mod,Nat.mod_eq_of_lt ht]
 rw[Nat.mul_mod,e]at h3;rw[<-h3,<-h2,Nat.mul_mod]
theorem Zzs {s v:Nat} (hs:s<18446744073709551616) (hv:v<18446744073709551616) (h:Ybu s v=Zhr):s^^^v=9978324691820313577:=by
 have ht:=Yfb hs hv;unfold Ybu at h;obtain⟨t,e⟩:=eX (s^^^v);rw[e]at h ht⊢;obtain⟨y,ey⟩:=eX (t*11400714819323198485%18446744073709551616);rw[ey]at h;have hy:y<18446744073709551616:=by rw[<-ey];exact Nat.mod_lt _ (by decide)
 have h2:(y^^^(y/4294967296))/4294967296=y/4294967296:=by
  have e1:∀z:Nat,z/4294967296=z>>>32:=fun z=>(Nat.shiftRight_eq_div_pow z 32).symm
  have e2:y/4294967296/4294967296=0:=by omega
  rw[e1 (y^^^(y/4294967296)),Nat.shiftRight_xor_distrib,<-e1,<-e1,e2,Nat.xor_zero]
 have h3:y=Zhr^^^(Zhr/4294967296):=by
  rw[<-h,h2,Nat.xor_assoc,Nat.xor_self,Nat.xor_zero]
 have h4:Zhr^^^(Zhr/4294967296)=18405771256403199517:=by kernel_rfl
 rw[h4]at h3;rw[h3]at ey;exact Yil ht ey
def Yjx:Bool:=(List.range 11).all fun o=>(List.range 82).all fun x=>decide (400000<Ybu (Ybu 1010332581368045008 o) (4096*x)^^^9978324691820313577)
theorem Ydg:Yjx=true:=by kernel_rfl
theorem Yj1 {o x y:Nat} (ho:o<=10) (hx:x<=81) (hy:y<=81):Zn1 0 (o:Int) ((4096*x:Nat):Int) ((4096*y:Nat):Int)≠(Zhr:Int):=by
 intro h;have e:∀n:Nat,n<18446744073709551616->Zyc (n:Int)=(n:Int):=fun n hn=>by unfold Zyc;rw[Zmg,Nat.mod_eq_of_lt hn]
 unfold Zn1 Yhy at h;have e0:Zyc 0=((0:Nat):Int):=e 0 (by omega);rw[e0,e o (by omega),e (4096*y) (by omega)]at h;simp only[List.foldl_cons,List.foldl_nil]at h
 have m1:Zvv 7741253900701559149 ((0:Nat):Int)=((1010332581368045008:Nat):Int):=by
  have:=Zih (s:=7741253900701559149) (x:=0) (by omega) (by omega)
  refine Eq.trans this ?_;exact congrArg Int.ofNat (by decide)
 rw[m1,Zih (by omega) (by omega),Zih (Zvu _ _) (by omega),Zih (Zvu _ _) (by omega)]at h;have h2:=Zzs (Zvu _ _) (by omega) (Int.ofNat.inj h);have h3:=List.all_eq_true.1 (List.all_eq_true.1 Ydg o (List.mem_range.2 (by omega))) x (List.mem_range.2 (by omega));have h4:=of_decide_eq_true h3;rw[<-h2,<-Nat.xor_assoc,Nat.xor_self,Nat.zero_xor]at h4;omega
end
section
open Go Go.RowKit Go.Shelf
def gvC (hs:List Hd) (a:Int):Hd:=hs.foldl (fun c x=>if x.a=a then x else c) hdZ
theorem Zq8 {hs:List Hd} {a:Int} {j:Nat} (h:j<hs.length):gvC (hs.take (j+1)) a=if(hs.getD j hdZ).a=a then hs.getD j hdZ else gvC (hs.take j) a:=by
 unfold gvC;rw[Zks h,List.foldl_append];rfl
theorem Fb.grow {w0 x y:World} {L:List Blk} (h:Fb w0 L x) {b0:Nat} (hl:∀z∈L,z.r<b0) (h0:w0.heap.size<=b0) (hb:Below b0 x y):Fb w0 L y:=
 ⟨fun z hz=>⟨(hb.block _ (hl z hz)).trans (h.bs z hz).1,(h.bs z hz).2⟩,h.nd,h.be.trans (hb.mono h0)⟩
theorem Zvm {w:World} {base:Nat} {e:TypeId} {size:Nat} {v:Value} {n:Nat} {xs:List Value} {R:Nat} (hR:R<base):∀(vs:List Value) (k:Nat) {x:World},x.ownsRow base e size v n xs->(stR x R vs k).ownsRow base e size v n xs
 |[],_,_,h=>h
 |u::vs,k,x,h=>Zvm (w:=w) hR vs (k+1) (x:=x.setCell (aD R k) u) (ownsRow_setCell_below h hR u)
abbrev hdA (c:Hd):Array Value:=#[iV c.a,iV c.o,.int .u64 c.u,iV c.x]
structure GvS (w:World) (b0 Cb E D:Nat) (vals:Array Value) (hs:List Hd) (a:Int) (j:Nat) (s6:Value) (x:World):Prop where
 fb:Fb w [⟨Cb,hdA (gvC (hs.take j) a),65⟩,⟨E,rqZ,33⟩,⟨D,vals,33⟩] x
 lt:Cb<b0/\E<b0/\D<b0/\w.heap.size<=b0
 ow:x.ownsRow b0 65 4 s6 (wo (hs.take j) a).length (hsL (wo (hs.take j) a))
 sz:b0<=x.heap.size
theorem GvS.hit {w:World} {b0 Cb E D:Nat} {vals:Array Value} {hs:List Hd} {a:Int} {j:Nat} {s6:Value} {x:World} (h:GvS w b0 Cb E D vals hs a j s6 x) (hj:j<hs.length) {c:Hd} (hc:hs.getD j hdZ=c) (e:c.a=a):
 GvS w b0 Cb E D vals hs a (j+1) s6 (stR (x.alloc (.cells (hdA c) 65)) Cb [iV c.a,iV c.o,.int .u64 c.u,iV c.x] 0):=by
 have hg:=Zq8 (a:=a) hj;have hw:=Zt1 (a:=a) hj;rw[hc,if_pos e]at hg hw;have hf:=(h.fb.below (Zaj x (.cells (hdA c) 65))).Zd9 [iV c.a,iV c.o,.int .u64 c.u,iV c.x] rfl
 exact⟨by rw[hg];exact hf,h.lt,by rw[hw];exact Zvm (w:=w) h.lt.1 _ _ (h.ow.alloc _),by rw[Zgr];have:=h.sz;simp;omega⟩
theorem GvS.Yjy {w:World} {b0 Cb E D:Nat} {vals:Array Value} {hs:List Hd} {a:Int} {j:Nat} {s6 v:Value} {x y:World} (h:GvS w b0 Cb E D vals hs a j s6 x) (hj:j<hs.length) {c:Hd} (hc:hs.getD j hdZ=c) (e:¬c.a=a)
 (ho:y.ownsRow b0 65 4 v ((wo (hs.take j) a).length+1) (hsL (wo (hs.take j) a)++hdL c)) (hb:Below b0 x y):GvS w b0 Cb E D vals hs a (j+1) v y:=by
 have hg:=Zq8 (a:=a) hj;have hw:=Zt1 (a:=a) hj;rw[hc,if_neg e]at hg hw;obtain⟨l1,l2,l3,l4⟩:=h.lt
 refine⟨?_,h.lt,?_,Nat.le_trans h.sz hb.size⟩
 · rw[hg]
   refine h.fb.grow (b0:=b0) (fun z hz=>?_) l4 hb;simp only[List.mem_cons,List.not_mem_nil,or_false]at hz;rcases hz with rfl|rfl|rfl
   · exact l1
   · exact l2
   · exact l3
 · rw[hw,Zkt]
   simpa[hsL]using ho
theorem Ydb {W:World} {base:Nat} {v:Value} {hs:List Hd} (h:W.ownsRow base 65 4 v hs.length (hsL hs)):∃op oc,v=.slice op hs.length oc/\Zof W v hs/\∀b off,op=some (aD b off)->base<=b:=by
 have h1:=Ybs h;rcases h.2 with⟨rfl,h0⟩|⟨g,cap,cur,rfl,hb,hg,hnc,_,hcs,htk⟩
 · exact⟨none,0,by rw[h0],h1,fun b off e=>by cases e⟩
 · exact⟨_,cap,rfl,h1,fun b off e=>by cases e;exact hb⟩
theorem Zrh {nn:Nat->Nat} {q:Nat->List Nat} (h:∀k,nn k=(q k).length):∀k,Zfz nn k=Zci q k
 |0=>rfl
 |k+1=>by unfold Zfz Zci;rw[Zrh h k,h k]
theorem Awy.Yjf {P:Nat->Option Addr} {q:Nat->List Nat} {op:Option Addr} {hs:List Hd} {D:Nat} (h:Awy P q op hs D) {b0:Nat} (hD:D<b0) {l:Nat} {l':List Nat} {p':Option Addr} (hg:∀g off,p'=some (aD g off)->b0<=g):Awy (up P l p') (Zde q l l') op hs D:=
 ⟨fun k hk hq g off e=>by
  by_cases c:k=l
  · subst c;rw[Zh7]at e;have:=hg g off e;omega
  · rw[Zix _ _ c]at e;rw[Zaz _ _ c]at hq;exact h.p k hk hq g off e,h.o⟩
def GvR (w:World) (b0 Cb E D:Nat) (vals:Array Value) (hs:List Hd) (a:Int) (n:Nat) (s6 s17:Value) (x:World):Prop:=∃j:Nat,j<=n/\s17=iV j/\GvS w b0 Cb E D vals hs a j s6 x
section
variable {w:World} {u:Option Addr} {L:List (Nat × Nat × Bool)} {P:Nat->Option Addr} {nn C:Nat->Nat} {q:Nat->List Nat} {op:Option Addr} {on oc:Nat} {hs:List Hd}
theorem Ztd (n g:Nat) (r:Int) (K:Nat) (hKb:K<=9223372036854775807) (tc:Nat) (h:DIn u L P nn C q op on oc hs w) (hhs:hs.length<=900) (hlq:∀k,k<5->(q k).length<=900) (a:Int) (Q:Ending->World->Prop)
 (hyes:Zik q a=true->∀v w',Zj4 (n:Int) (g:Int) r (K:Int) L q hs P w v w'->Q (.returned (.tuple #[v,iV 11])) w')
 (hno:Zik q a=false->(gvC hs a).u=0->∀v w',Zj4 (n:Int) (g:Int) r (K:Int) L q hs P w v w'->Q (.returned (.tuple #[v,iV 7])) w')
 (hcs:Zik q a=false->(gvC hs a).u≠0->∃p o:Nat,a=((4096*p:Nat):Int)/\1<=p/\p<=1000/\(gvC hs a).o=(o:Int)/\o<=10)
 (hfree:∀p o:Nat,a=((4096*p:Nat):Int)->(gvC hs a).o=(o:Int)->Zik q a=false->(gvC hs a).u≠0->(4<o\/K<Zci q 5+2^o)->∀v w',Zj4 (n:Int) (g:Int) r (K:Int) (wr8 L ((p:Int)-1)) q (wo hs a) P w v w'->Q (.returned (.tuple #[v,iV 0])) w')
 (hpush:∀p o:Nat,a=((4096*p:Nat):Int)->(gvC hs a).o=(o:Int)->Zik q a=false->(gvC hs a).u≠0->(o<=4/\Zci q 5+2^o<=K)->∀v w',Zj4 (n:Int) (g:Int) r (K:Int) L (Zde q o (p::q o)) (wo hs a) (up P o none) w v w'->Q (.returned (.tuple #[v,iV 0])) w'):
 Calls Tryz.prog 135 #[rqV (n:Int) (g:Int) r (K:Int) (.slice u L.length tc) P nn C (.slice op on oc),iV a] w Q:=by
 have HI:=hid h;have HKB:=hid hKb;have HHS:=hid hhs;have HLQ:=hid hlq;have HY:=hid hyes;have HNO:=hid hno;have HCS:=hid hcs;have HFRE:=hid hfree;have HPSH:=hid hpush
 have HA:Hid (∀Z,w.heap.size<=Z->Awy P q op hs Z):=hid fun Z hZ=>h.awy hZ
 have HCA:Hid (∀X,DIn u L P nn C q op on oc hs X->Calls Tryz.prog 189 #[rqV (n:Int) (g:Int) r (K:Int) (.slice u L.length tc) P nn C (.slice op on oc),iV a] X (Zan (.bool (Zik q a)) X)):=hid fun X hX=>Zpp (n:Int) (g:Int) r (K:Int) tc a hX
 obtain⟨ln,hln⟩:=eX L.length;have HLN:=hid hln;rw[hln]at HCA⊢;have hf:=((Fb.start w).new (rqA ((n:Int)) ((g:Int)) (r) ((K:Int)) (.slice u ln tc) (P) (nn) (C) (.slice op on oc)) 33).new rqZ 33;clear h hhs hyes hno hln hcs hfree hpush hKb hlq;go_enter Tryz.func135,Tryz.ntmps135;go_upto_region 1 with fail;change Code.wp _ _ _ _ ((w.alloc (.cells (rqA ((n:Int)) ((g:Int)) (r) ((K:Int)) (.slice u ln tc) (P) (nn) (C) (.slice op on oc)) 33)).alloc (.cells rqZ 33));have hE1:(w.alloc (.cells (rqA ((n:Int)) ((g:Int)) (r) ((K:Int)) (.slice u ln tc) (P) (nn) (C) (.slice op on oc)) 33)).heap.size=w.heap.size+1:=by simp
 obtain⟨x,hx⟩:=eX ((w.alloc (.cells (rqA ((n:Int)) ((g:Int)) (r) ((K:Int)) (.slice u ln tc) (P) (nn) (C) (.slice op on oc)) 33)).alloc (.cells rqZ 33));rw[hx,hE1]at hf;obtain⟨E,hE⟩:=eX (w.heap.size+1);obtain⟨D,hD⟩:=eX w.heap.size;have HDD:=hid (show w.heap.size<=D/\w.heap.size<=E by omega);rw[hE,hD]at hf;rw[hx,hE,hD];have HF:=hid hf;clear hx hE1 hE hD hf;obtain⟨c0,c1,c2,c3,c4,c5,c6,c7,c8,c9,c10,c11⟩:=Zaf HF.out.at1;go_wp2_with fail
 refine(HCA.out _ (HI.out.fb HF.out)).mono ?_
 rintro e w1 ⟨rfl,hb⟩;have HF1:=hid (HF.out.below hb);clear hb HF HCA c0 c1 c2 c3 c4 c5 c6 c7 c8 c9 c10 c11;obtain⟨hq,hhq⟩:=eX (Zik q a);rw[hhq];have HHQ:=hid hhq;clear hhq;cases hq with
 |true=>
  obtain⟨c0,c1,c2,c3,c4,c5,c6,c7,c8,c9,c10,c11⟩:=Zaf HF1.out.at1;obtain⟨z0,z1,z2,z3,z4,z5,z6,z7,z8,z9,z10,z11⟩:=Zap HF1.out.at0;obtain⟨o0,o1,o2,o3,o4,o5,o6,o7,o8,o9,o10,o11⟩:=Zbl HF1.out.at0;have hff:=HF1.out.Zd9 (rqL ((n:Int)) ((g:Int)) (r) ((K:Int)) (.slice u ln tc) (P) (nn) (C) (.slice op on oc)) rfl;have hdi:=HI.out.fb hff;have HQQ:=hid (HY.out HHQ.out _ _ (⟨u,tc,P,nn,C,op,on,oc,by rw[HLN.out],hdi,fun k hk c=> .inl rfl,hff.be⟩:Zj4 (n:Int) (g:Int) r (K:Int) L q hs P w (rqV ((n:Int)) ((g:Int)) (r) ((K:Int)) (.slice u ln tc) (P) (nn) (C) (.slice op on oc)) (stR w1 E (rqL ((n:Int)) ((g:Int)) (r) ((K:Int)) (.slice u ln tc) (P) (nn) (C) (.slice op on oc)) 0)));have HQ0:=hid (Zaf hff.at0);clear hff hdi HY HNO;go_wp2_with fail;change bodyPost _ _ _ _ _ (stR w1 E (rqL ((n:Int)) ((g:Int)) (r) ((K:Int)) (.slice u ln tc) (P) (nn) (C) (.slice op on oc)) 0);obtain⟨z,hz⟩:=eX (stR w1 E (rqL ((n:Int)) ((g:Int)) (r) ((K:Int)) (.slice u ln tc) (P) (nn) (C) (.slice op on oc)) 0);rw[hz]at HQQ HQ0⊢;obtain⟨q0,q1,q2,q3,q4,q5,q6,q7,q8,q9,q10,q11⟩:=HQ0.out;exact bodyPost_ret (v:=.tuple #[.agg (rqA ((n:Int)) ((g:Int)) (r) ((K:Int)) (.slice u ln tc) (P) (nn) (C) (.slice op on oc)),iV 11]) (by simp[results,Tryz.results135,go_sem,q0,q1,q2,q3,q4,q5,q6,q7,q8,q9,q10,q11]) rfl HQQ.out
 |false=>
  have HF2:=hid (HF1.out.new zCk 65);go_upto_region 5 with fail;obtain⟨i0,hi0,hz0,hz1,hz2⟩:=info_parts Tryz.Zq1;have HI0:=hid hi0;have HZ0:=hid hz0;have HZ1:=hid hz1;have HZ2:=hid hz2
  change Code.wp _ _ _ _ (w1.alloc (.cells zCk 65));obtain⟨x2,hx⟩:=eX (w1.alloc (.cells zCk 65));obtain⟨Cb,hC⟩:=eX w1.heap.size;rw[hx,hC]at HF2;rw[hx,hC];clear hi0 hz0 hz1 hz2 hx hC HF1 HY;obtain⟨b0,hb0⟩:=eX x2.heap.size
  have HS:Hid (GvR w b0 Cb E D (rqA ((n:Int)) ((g:Int)) (r) ((K:Int)) (.slice u ln tc) (P) (nn) (C) (.slice op on oc)) hs a on (.slice none 0 0) (iV ((0:Nat):Int)) x2):=hid ⟨0,Nat.zero_le _,rfl,HF2.out,by
   rw[<-hb0]
   exact⟨(Array.getElem?_eq_some_iff.1 HF2.out.at0).1,(Array.getElem?_eq_some_iff.1 HF2.out.at1).1,(Array.getElem?_eq_some_iff.1 HF2.out.at2).1,HF2.out.be.size⟩,World.ownsRow_nil _ _ _ _,by rw[hb0];exact Nat.le_refl _⟩
  obtain⟨c0,c1,c2,c3,c4,c5,c6,c7,c8,c9,c10,c11⟩:=Zaf HF2.out.at2;clear HF2 hb0;go_wp2_with fail
  go_loopw[6,17] (fun s6 s17 wr=>Hid (GvR w b0 Cb E D (rqA ((n:Int)) ((g:Int)) (r) ((K:Int)) (.slice u ln tc) (P) (nn) (C) (.slice op on oc)) hs a on s6 s17 wr)) (fun _ s17 _=>on-(intOf s17).toNat)
  case atStart=>exact HS
  case round=>
   clear HS c0 c1 c2 c3 c4 c5 c6 c7 c8 c9 c10 c11;obtain⟨j,hj,rfl,hgs⟩:=hrel.out;have HG:=hid hgs;clear hrel hgs;by_cases hjn:j<on
   · have hjn2:(j:Int)<(on:Int):=by omega
     have hjl:j<hs.length:=by have:=HI.out.hn;omega
     rcases(HI.out.fb HG.out.fb).ho with⟨h1,h2⟩|⟨b,cap,cc,fr,h1,h2,h3⟩
     · rw[h2]at hjl;exact absurd hjl (Nat.not_lt_zero _)
     · simp only[Value.slice.injEq]at h1
       obtain⟨k0,k1,q2,q3⟩:=h3 j hjl;obtain⟨c,hc⟩:=eX (hs.getD j hdZ);rw[hc]at k0 k1 q2 q3;have HCC:=hid hc;have hop:=h1.1;subst hop;clear h1 h2 h3 hc;by_cases hca:c.a=a
       · have d:(c.a==a)=true:=by simpa using hca
         have HG2:=hid (HG.out.hit hjl HCC.out hca);have hfa:=(HG.out.fb.new #[iV c.a,iV c.o,.int .u64 c.u,iV c.x] 65);obtain⟨gc,hgc⟩:=eX (gvC (hs.take j) a);rw[hgc]at hfa;clear hgc HG hca;go_upto_region 8 with fail;change Code.wp _ _ _ _ (wr.alloc (.cells #[iV c.a,iV c.o,.int .u64 c.u,iV c.x] 65));obtain⟨x3,hx⟩:=eX (wr.alloc (.cells #[iV c.a,iV c.o,.int .u64 c.u,iV c.x] 65));obtain⟨T,hT⟩:=eX wr.heap.size;rw[hx,hT]at hfa;rw[hx]at HG2;rw[hx,hT];clear hx hT k0 k1 q2 q3;have t0:=hfa.cell0 0 rfl;have t1:=hfa.cell0 1 rfl;have t2:=hfa.cell0 2 rfl;have t3:=hfa.cell0 3 rfl
         have z0:=hfa.Zda 0;have z1:=hfa.Zda 1;have z2:=hfa.Zda 2;have z3:=hfa.Zda 3
         have v0:x3.cell? (aD Cb 0)=some (iV gc.a):=hfa.Zak 0 rfl;have v1:x3.cell? (aD Cb 1)=some (iV gc.o):=hfa.Zak 1 rfl;have v2:x3.cell? (aD Cb 2)=some (.int .u64 gc.u):=hfa.Zak 2 rfl;have v3:x3.cell? (aD Cb 3)=some (iV gc.x):=hfa.Zak 3 rfl;clear hfa;have hw:wrap64 ((j:Int)+1)=((j+1:Nat):Int):=by rw[IntWalk.wrap64_in _ ⟨by omega,by have:=HHS.out;omega⟩];omega
         go_wp2_with fail;rw[hw]
         exact⟨hid ⟨j+1,by omega,rfl,HG2.out⟩,by simp[intOf];omega⟩
       · have d:(c.a==a)=false:=by simpa using hca
         have hrow2:=(HG.out.ow.alloc (.cells #[iV c.a,iV c.o,.int .u64 c.u,iV c.x] 65)).alloc (.cells #[iV c.a,iV c.o,.int .u64 c.u,iV c.x] 65);have hsz:=HG.out.sz;have hlo:(wo (hs.take j) a).length<=1000:=Nat.le_trans (Ybg _ _) (by rw[List.length_take];have:=HHS.out;omega);have HGG:=hid (fun v y=>HG.out.Yjy (v:=v) (y:=y) hjl HCC.out hca);have hbb:Below b0 wr ((wr.alloc (.cells #[iV c.a,iV c.o,.int .u64 c.u,iV c.x] 65)).alloc (.cells #[iV c.a,iV c.o,.int .u64 c.u,iV c.x] 65)):=((Below.refl b0 wr).alloc hsz _).alloc (by simp;omega) _;obtain⟨ol,hol⟩:=eX (wo (hs.take j) a);rw[hol]at hrow2 hlo HGG;clear hol HG
         go_wp2_with (at_builtin;refine wpList_append_own _ rfl _ _ 31 rfl b0 65 i0 (.agg #[iV 0,iV 0,.int .u64 0,iV 0]) 4 32 Tryz.underlying31 HI0.out HZ0.out HZ1.out HZ2.out rfl (by decide) _ _ _ rfl hrow2 ⟨_,0,none⟩ 1 1 (hdL c) rfl rfl (Zq6 c _ (by simp)) (by simp[hdL,Value.oneCell']) (by unfold maxLen;omega) (by omega) (Nat.le_trans hsz hbb.size) ?_;intro v' w5 hown' hgrow _;have HG3:=hid (HGG.out v' w5 hown' (Ze7 hrow2 hgrow (Nat.le_trans hsz hbb.size) hbb)))
         have hw:wrap64 ((j:Int)+1)=((j+1:Nat):Int):=by rw[IntWalk.wrap64_in _ ⟨by omega,by have:=HHS.out;omega⟩];omega
         go_wp2_with fail;rw[hw]
         exact⟨hid ⟨j+1,by omega,rfl,HG3.out⟩,by simp[intOf];omega⟩
   · have hjn2:¬(j:Int)<(on:Int):=by omega
     have ej:hs.take j=hs:=List.take_of_length_le (by have:=HI.out.hn;omega);have hfb:=HG.out.fb;have how:=HG.out.ow;rw[ej]at hfb how;obtain⟨gc,hgc⟩:=eX (gvC hs a);rw[hgc]at hfb;have HGC:=hid hgc;have HFB:=hid hfb;have HOW:=hid how;have HSZ:=hid HG.out.sz;have HLT:=hid HG.out.lt;have v2:wr.cell? (aD Cb 2)=some (.int .u64 gc.u):=hfb.cell0 2 rfl;clear hfb how hgc HG ej;by_cases hu0:gc.u=0
     · have d:(gc.u==0)=true:=by simpa using hu0
       obtain⟨c0,c1,c2,c3,c4,c5,c6,c7,c8,c9,c10,c11⟩:=Zaf HFB.out.at2;obtain⟨z0,z1,z2,z3,z4,z5,z6,z7,z8,z9,z10,z11⟩:=Zap HFB.out.at1;obtain⟨o0,o1,o2,o3,o4,o5,o6,o7,o8,o9,o10,o11⟩:=Zbl HFB.out.at1;have hff:=HFB.out.Zgk (rqL ((n:Int)) ((g:Int)) (r) ((K:Int)) (.slice u ln tc) (P) (nn) (C) (.slice op on oc)) rfl;have hdi:=HI.out.fb hff;have HQQ:=hid (HNO.out HHQ.out (by rw[HGC.out];exact hu0) _ _ (⟨u,tc,P,nn,C,op,on,oc,by rw[HLN.out],hdi,fun k hk c=> .inl rfl,hff.be⟩:Zj4 (n:Int) (g:Int) r (K:Int) L q hs P w (rqV ((n:Int)) ((g:Int)) (r) ((K:Int)) (.slice u ln tc) (P) (nn) (C) (.slice op on oc)) (stR wr E (rqL ((n:Int)) ((g:Int)) (r) ((K:Int)) (.slice u ln tc) (P) (nn) (C) (.slice op on oc)) 0)));have HQ0:=hid (Zaf hff.at1);clear hff hdi HNO;go_wp2_with fail;change bodyPost _ _ _ _ _ (stR wr E (rqL ((n:Int)) ((g:Int)) (r) ((K:Int)) (.slice u ln tc) (P) (nn) (C) (.slice op on oc)) 0);obtain⟨z,hz⟩:=eX (stR wr E (rqL ((n:Int)) ((g:Int)) (r) ((K:Int)) (.slice u ln tc) (P) (nn) (C) (.slice op on oc)) 0);rw[hz]at HQQ HQ0⊢;obtain⟨q0,q1,q2,q3,q4,q5,q6,q7,q8,q9,q10,q11⟩:=HQ0.out;exact bodyPost_ret (v:=.tuple #[.agg (rqA ((n:Int)) ((g:Int)) (r) ((K:Int)) (.slice u ln tc) (P) (nn) (C) (.slice op on oc)),iV 7]) (by simp[results,Tryz.results135,go_sem,q0,q1,q2,q3,q4,q5,q6,q7,q8,q9,q10,q11]) rfl HQQ.out
     · have d:(gc.u==0)=false:=by simpa using hu0
       obtain⟨p,o,hp,hp1,hp2,hgo,ho10⟩:=HCS.out HHQ.out (by rw[HGC.out];exact hu0);rw[HGC.out]at hgo;have HPA:=hid hp;clear hp;obtain⟨op2,oc2,rfl,hha,hnew⟩:=Ydb HOW.out;have HHA:=hid hha;have HNW:=hid hnew;obtain⟨lw,hlw⟩:=eX ((wo hs a).length);have HLW:=hid hlw;rw[hlw];have z11:=HFB.out.Zl1 11;have d11:=HFB.out.Zce 11 rfl
       clear HOW hha hnew hlw HNO;go_upto_region 15 with fail;change Code.wp _ _ _ _ (stR wr D [.slice op2 lw oc2] 11);have hf5:Fb w [⟨Cb,hdA gc,65⟩,⟨E,rqZ,33⟩,rqB D ((n:Int)) ((g:Int)) (r) ((K:Int)) (.slice u ln tc) (P) (nn) (C) (.slice op2 lw oc2)] (stR wr D [.slice op2 lw oc2] 11):=HFB.out.Zi2 [.slice op2 lw oc2] 11;have hd4:DIn u L P nn C q op2 lw oc2 (wo hs a) wr:={(HI.out.fb HFB.out)with ho:=by rw[<-HLW.out];exact HHA.out,hn:=HLW.out.symm,hl:=Nat.le_trans (Ybg _ _) HI.out.hl};have haw:∀Z,w.heap.size<=Z->Z<b0->Awy P q op2 (wo hs a) Z:=fun Z hZ hZ2=>⟨(HA.out Z hZ).p,fun b off e=> .inr (by have:=HNW.out b off e;omega)⟩
       have hd5:=hd4.put (HFB.out.Zce 2 rfl) (by intro b;simp) (haw D HDD.out.1 HLT.out.2.2.1) [.slice op2 lw oc2] 11;obtain⟨x5,hx5⟩:=eX (stR wr D [.slice op2 lw oc2] 11);rw[hx5]at hf5 hd5⊢;have HF5:=hid hf5;have HD5:=hid hd5
       have HAW:=hid (And.intro (haw D HDD.out.1 HLT.out.2.2.1) (haw E HDD.out.2 HLT.out.2.1));clear hx5 hf5 hd5 hd4 haw HFB HHA z11 d11 v2 d;obtain⟨PO,hPO⟩:=eX (2^o);have HPO2:=hid hPO;have hPb:PO<=1024:=by rw[<-hPO];exact Nat.le_trans (Nat.pow_le_pow_right (by decide) ho10) (by decide)
       have hcb:Zfz nn 5<=5*68719476736:=Zgm (fun k=>by rw[HI.out.nq k];have:=HI.out.nl k;omega) 5 (Nat.le_refl _);have HCN:=hid fun X=>Zdv P nn C (fun k=>by rw[HI.out.nq k];have:=HI.out.nl k;omega) X
       rw[Zrh HI.out.nq 5]at HCN hcb;have HPG:=hid fun X=>Zex o ho10 X
       rw[hPO]at HPG;obtain⟨bb,hbb⟩:=eX (decide (4<o\/K<Zci q 5+PO));have HBB:=hid hbb;have hKb:=HKB.out;obtain⟨cq,hcq⟩:=eX (Zci q 5);have HCQ:=hid hcq;rw[hcq]at HCN hcb HBB hbb;clear hPO hcq hbb
       go_cut[51] (fun s51 wx=>s51=.bool bb/\Fb w [⟨Cb,hdA gc,65⟩,⟨E,rqZ,33⟩,rqB D ((n:Int)) ((g:Int)) (r) ((K:Int)) (.slice u ln tc) (P) (nn) (C) (.slice op2 lw oc2)] wx/\DIn u L P nn C q op2 lw oc2 (wo hs a) wx)
       case first=>
        have t1:x5.cell? (aD Cb 1)=some (iV o):=by rw[<-hgo];exact HF5.out.cell0 1 rfl
        by_cases ho4:4<o
        · have k4:4<(o:Int):=by omega
          have k6:decide (4<(o:Int))=true:=decide_eq_true k4;have hbt:bb=true:=by rw[<-HBB.out];exact decide_eq_true (.inl ho4)
          have HX1:=hid (HF5.out.below (Below.refl x5.heap.size x5).drew);have HX2:=hid (HD5.out.below (Below.refl x5.heap.size x5).drew);have t1d:x5.drew.cell? (aD Cb 1)=some (iV o):=by rw[<-hgo];exact HX1.out.cell0 1 rfl
          refine wp_region_held_drew (S:=fun X:World=>X.cell? (aD Cb 1)=some (iV o)) (by kernel_rfl) t1d (fun hHeld=>?_);clear t1 t1d HF5 HD5;generalize x5.drew=x6 at*
          refine tk 0 (.pointer (some (aD Cb 1))) rfl hHeld (fun X hS=>by have s0:=hS;go_simp) ?_;refine tk 1 (iV o) rfl hHeld (fun X hS=>by have s0:=hS;go_simp) ?_;refine tk 2 (.bool true) rfl hHeld (fun X hS=>by have s0:=hS;go_simp) ?_;refine tk 3 (.bool true) rfl hHeld (fun X hS=>by have s0:=hS;go_simp) ?_;refine tu 4 rfl hHeld ?_;refine tu 5 rfl hHeld ?_;refine tu 6 rfl hHeld ?_;refine tu 7 rfl hHeld ?_;refine tu 8 rfl hHeld ?_;refine tu 9 rfl hHeld ?_;refine tu 10 rfl hHeld ?_;refine tu 11 rfl hHeld ?_;refine tu 12 rfl hHeld ?_;refine tu 13 rfl hHeld ?_;refine tk 14 (.bool true) rfl hHeld (fun X hS=>by have s0:=hS;go_simp) ?_;refine wpAnyH_done (by kernel_rfl) ?_ _;clear hHeld;go_wp2_with fail
          go_meet
          rw[hbt]
          exact⟨rfl,HX1.out,HX2.out⟩
        · have k4:¬4<(o:Int):=by omega
          have hs:IntKind.i64.wrap ((cq:Int)+(PO:Int))=((cq+PO:Nat):Int):=by rw[IntKind.wrap_i64];omega
          have hb2:decide ((K:Int)<(cq:Int)+(PO:Int))=bb:=by rw[<-HBB.out];exact decide_eq_decide.2 (by omega)
          have hb3:decide (K<cq+PO)=bb:=by rw[<-HBB.out];exact decide_eq_decide.2 (by omega)
          have HB3:=hid hb3;have HB2:=hid hb2
          clear hb3 hb2
          go_region_held3 (fun X=>X.cell? (aD Cb 1)=some (iV o)/\X.cell? (aD D 5)=some (.slice (P 0) (nn 0) (C 0))/\X.cell? (aD D 6)=some (.slice (P 1) (nn 1) (C 1))/\X.cell? (aD D 7)=some (.slice (P 2) (nn 2) (C 2))/\X.cell? (aD D 8)=some (.slice (P 3) (nn 3) (C 3))/\X.cell? (aD D 9)=some (.slice (P 4) (nn 4) (C 4))/\X.cell? (aD D 10)=some (iV K))
           (first|(have qq:=HF5.out.below (Below.refl _ _).drew;exact⟨by rw[<-hgo];exact qq.cell0 1 rfl,qq.Zce 5 rfl,qq.Zce 6 rfl,qq.Zce 7 rfl,qq.Zce 8 rfl,qq.Zce 9 rfl,qq.Zce 10 rfl⟩)|assumption)
           (first|(go_at_call 78
                   refine(HCN.out _).mono ?_
                   rintro e w' ⟨rfl,hb⟩;have hfc:Fb w [⟨Cb,hdA gc,65⟩,⟨E,rqZ,33⟩,rqB D ((n:Int)) ((g:Int)) (r) ((K:Int)) (.slice u ln tc) (P) (nn) (C) (.slice op2 lw oc2)] w':=(HF5.out.below (Below.refl _ _).drew).below hb;have hdc:=(HD5.out.below (Below.refl _ _).drew).below hb;have kc:=And.intro (show w'.cell? (aD Cb 1)=some (iV o) by rw[<-hgo];exact hfc.cell0 1 rfl) (And.intro (hfc.Zce 5 rfl) (And.intro (hfc.Zce 6 rfl) (And.intro (hfc.Zce 7 rfl) (And.intro (hfc.Zce 8 rfl) (And.intro (hfc.Zce 9 rfl) (hfc.Zce 10 rfl)))))))
                 |(go_at_call 145
                   refine(HPG.out _).mono ?_
                   rintro e w' ⟨rfl,hww⟩;subst hww))
          all_goals
           have HFX:Hid (Fb w [⟨Cb,hdA gc,65⟩,⟨E,rqZ,33⟩,rqB D ((n:Int)) ((g:Int)) (r) ((K:Int)) (.slice u ln tc) (P) (nn) (C) (.slice op2 lw oc2)] _):=hid hfc;have HDX:=hid hdc;clear hfc hdc kc HCN HPG;go_wp2_with fail
           go_meet
           exact⟨by first|rw[HB3.out]|rw[HB2.out],HFX.out,HDX.out⟩
       case rest=>
        obtain⟨rfl,hf6,hd6⟩:=hcut;have HF6:=hid hf6;have HD6:=hid hd6;clear hf6 hd6 HCN HPG HF5 HD5;cases bb with
        |true=>
         have HCND:Hid (4<o\/K<Zci q 5+2^o):=hid (by rw[HPO2.out,HCQ.out];exact of_decide_eq_true HBB.out);have HFR:=hid fun X (hX:Zcg X u L)=>Znx (n:Int) (g:Int) r (K:Int) u tc L HI.out.ln P nn C op2 lw oc2 p ⟨hp1,by omega⟩ hX
         rw[HLN.out]at HFR;rw[<-HPA.out]at HFR;obtain⟨c0,c1,c2,c3,c4,c5,c6,c7,c8,c9,c10,c11⟩:=Zaf HF6.out.at2;go_wp2_with fail
         refine(HFR.out _ HD6.out.rn).mono ?_
         rintro e w7 ⟨u7,t7,rfl,hr7,hb⟩;obtain⟨LW,hLW⟩:=eX (wr8 L ((p:Int)-1));rw[hLW]at hr7⊢;have HLW8:=hid hLW;obtain⟨l8,hl8⟩:=eX LW.length;have HL8:=hid hl8;rw[hl8];have HF7:=hid (HF6.out.below hb);have HD7:Hid (DIn u7 LW P nn C q op2 lw oc2 (wo hs a) w7):=hid {(HD6.out.below hb)with rn:=hr7,ln:=by rw[<-hLW];exact Nat.le_trans (Zk2 _ _) HI.out.ln};clear hb hr7 hLW hl8 HF6 HD6 HFR c0 c1 c2 c3 c4 c5 c6 c7 c8 c9 c10 c11 HPSH;obtain⟨z0,z1,z2,z3,z4,z5,z6,z7,z8,z9,z10,z11⟩:=Zap HF7.out.at1;obtain⟨o0,o1,o2,o3,o4,o5,o6,o7,o8,o9,o10,o11⟩:=Zbl HF7.out.at1;have hff:=HF7.out.Zgk (rqL ((n:Int)) ((g:Int)) (r) ((K:Int)) (.slice u7 l8 t7) (P) (nn) (C) (.slice op2 lw oc2)) rfl;have hdi:=HD7.out.put o2 (by intro b;simp) HAW.out.2 (rqL ((n:Int)) ((g:Int)) (r) ((K:Int)) (.slice u7 l8 t7) (P) (nn) (C) (.slice op2 lw oc2)) 0;have HQQ:=hid (HFRE.out p o HPA.out (by rw[HGC.out];exact hgo) HHQ.out (by rw[HGC.out];exact hu0) HCND.out _ _ (⟨u7,t7,P,nn,C,op2,lw,oc2,by rw[HLW8.out,HL8.out],by rw[HLW8.out];exact hdi,fun k hk c=> .inl rfl,hff.be⟩:Zj4 (n:Int) (g:Int) r (K:Int) (wr8 L ((p:Int)-1)) q (wo hs a) P w (rqV ((n:Int)) ((g:Int)) (r) ((K:Int)) (.slice u7 l8 t7) (P) (nn) (C) (.slice op2 lw oc2)) (stR w7 E (rqL ((n:Int)) ((g:Int)) (r) ((K:Int)) (.slice u7 l8 t7) (P) (nn) (C) (.slice op2 lw oc2)) 0)));have HQ0:=hid (Zaf hff.at1);clear hff hdi HFRE;go_wp2_with fail;change bodyPost _ _ _ _ _ (stR w7 E (rqL ((n:Int)) ((g:Int)) (r) ((K:Int)) (.slice u7 l8 t7) (P) (nn) (C) (.slice op2 lw oc2)) 0);obtain⟨z,hz⟩:=eX (stR w7 E (rqL ((n:Int)) ((g:Int)) (r) ((K:Int)) (.slice u7 l8 t7) (P) (nn) (C) (.slice op2 lw oc2)) 0);rw[hz]at HQQ HQ0⊢;obtain⟨q0,q1,q2,q3,q4,q5,q6,q7,q8,q9,q10,q11⟩:=HQ0.out;exact bodyPost_ret (v:=.tuple #[.agg (rqA ((n:Int)) ((g:Int)) (r) ((K:Int)) (.slice u7 l8 t7) (P) (nn) (C) (.slice op2 lw oc2)),iV 0]) (by simp[results,Tryz.results135,go_sem,q0,q1,q2,q3,q4,q5,q6,q7,q8,q9,q10,q11]) rfl HQQ.out
        |false=>
         have hcnd:¬(4<o\/K<cq+PO):=of_decide_eq_false HBB.out;have HCND:Hid (o<=4/\Zci q 5+2^o<=K):=hid (by rw[HPO2.out,HCQ.out];omega);have HO5:=hid (show o<5 by omega);have HPU:=hid fun X (hX:QAt P q X)=>Zvd P nn C q o p HO5.out X hX (HI.out.nq o) (HI.out.nl o) (HI.out.cn o)
         rw[<-HPA.out]at HPU;have HQP:Hid (∀X e w',Ycd P nn C q o p X e w'->∃p' c',e=.returned (.agg #[.slice (up P o p' 0) (up nn o (nn o+1) 0) (up C o c' 0),.slice (up P o p' 1) (up nn o (nn o+1) 1) (up C o c' 1),.slice (up P o p' 2) (up nn o (nn o+1) 2) (up C o c' 2),.slice (up P o p' 3) (up nn o (nn o+1) 3) (up C o c' 3),.slice (up P o p' 4) (up nn o (nn o+1) 4) (up C o c' 4)])/\Za7 w' p' (adI (p::q o))/\nn o+1<=c'/\(p'≠none/\∀g off,p'=some (aD g off)->X.heap.size<=g)/\Below X.heap.size X w'):=hid (by rintro X e w' ⟨p',c',rfl,hh⟩;exact⟨p',c',rfl,hh⟩);obtain⟨c0,c1,c2,c3,c4,c5,c6,c7,c8,c9,c10,c11⟩:=Zaf HF6.out.at2;have t1:wc.cell? (aD Cb 1)=some (iV o):=by rw[<-hgo];exact HF6.out.cell0 1 rfl
         clear hcnd HFRE;go_wp2_with fail
         refine(HPU.out _ HD6.out.qa).mono ?_
         intro e w7 hp7;obtain⟨p',c',rfl,r1,r2,r3,hb⟩:=HQP.out _ _ _ hp7;have HF7:=hid (HF6.out.below hb)
         have hbin:=HD6.out.bin hb HO5.out (l':=p::q o) (m:=nn o+1) r1 (by rw[HI.out.nq o];simp) r2 (fun e=>absurd e r3.1) r3.2 (by have:=HLQ.out o HO5.out;simp;omega) (fun p2 hp2=>by
          rcases List.mem_cons.1 hp2 with rfl|hp2
          · omega
          · exact HI.out.pg o HO5.out p2 hp2)
         have HDB:=hid hbin.1
         have HPF:Hid (Pfr (Zde q o (p::q o)) (up P o none) (up P o p') w):=hid fun k hk hq=>by
          rcases hbin.2 k hk hq with c|c
          · exact .inl c
          · exact .inr fun g off e=>Nat.le_trans HF6.out.be.size (c g off e)
         have hDlt:=(Array.getElem?_eq_some_iff.1 HF6.out.at2).1;have hElt:=(Array.getElem?_eq_some_iff.1 HF6.out.at1).1;have HAB:Hid (Awy (up P o p') (Zde q o (p::q o)) op2 (wo hs a) D/\Awy (up P o p') (Zde q o (p::q o)) op2 (wo hs a) E):=hid ⟨HAW.out.1.Yjf (b0:=wc.heap.size) hDlt r3.2,HAW.out.2.Yjf (b0:=wc.heap.size) hElt r3.2⟩;clear hp7 r1 r2 r3 hb hbin hDlt hElt HPU HQP HF6 HD6 c0 c1 c2 c3 c4 c5 c6 c7 c8 c9 c10 c11 t1;obtain⟨c0,c1,c2,c3,c4,c5,c6,c7,c8,c9,c10,c11⟩:=Zaf HF7.out.at2;obtain⟨z0,z1,z2,z3,z4,z5,z6,z7,z8,z9,z10,z11⟩:=Zap HF7.out.at2;go_upto_region 18 with fail;change Code.wp _ _ _ _ (stR w7 D [.slice (up P o p' 0) (up nn o (nn o+1) 0) (up C o c' 0),.slice (up P o p' 1) (up nn o (nn o+1) 1) (up C o c' 1),.slice (up P o p' 2) (up nn o (nn o+1) 2) (up C o c' 2),.slice (up P o p' 3) (up nn o (nn o+1) 3) (up C o c' 3),.slice (up P o p' 4) (up nn o (nn o+1) 4) (up C o c' 4)] 5);have hf8:Fb w [⟨Cb,hdA gc,65⟩,⟨E,rqZ,33⟩,rqB D ((n:Int)) ((g:Int)) (r) ((K:Int)) (.slice u ln tc) (up P o p') (up nn o (nn o+1)) (up C o c') (.slice op2 lw oc2)] (stR w7 D [.slice (up P o p' 0) (up nn o (nn o+1) 0) (up C o c' 0),.slice (up P o p' 1) (up nn o (nn o+1) 1) (up C o c' 1),.slice (up P o p' 2) (up nn o (nn o+1) 2) (up C o c' 2),.slice (up P o p' 3) (up nn o (nn o+1) 3) (up C o c' 3),.slice (up P o p' 4) (up nn o (nn o+1) 4) (up C o c' 4)] 5):=HF7.out.Zi2 [.slice (up P o p' 0) (up nn o (nn o+1) 0) (up C o c' 0),.slice (up P o p' 1) (up nn o (nn o+1) 1) (up C o c' 1),.slice (up P o p' 2) (up nn o (nn o+1) 2) (up C o c' 2),.slice (up P o p' 3) (up nn o (nn o+1) 3) (up C o c' 3),.slice (up P o p' 4) (up nn o (nn o+1) 4) (up C o c' 4)] 5;have hd8:=HDB.out.put c2 (by intro b;simp) HAB.out.1 [.slice (up P o p' 0) (up nn o (nn o+1) 0) (up C o c' 0),.slice (up P o p' 1) (up nn o (nn o+1) 1) (up C o c' 1),.slice (up P o p' 2) (up nn o (nn o+1) 2) (up C o c' 2),.slice (up P o p' 3) (up nn o (nn o+1) 3) (up C o c' 3),.slice (up P o p' 4) (up nn o (nn o+1) 4) (up C o c' 4)] 5;obtain⟨x8,hx8⟩:=eX (stR w7 D [.slice (up P o p' 0) (up nn o (nn o+1) 0) (up C o c' 0),.slice (up P o p' 1) (up nn o (nn o+1) 1) (up C o c' 1),.slice (up P o p' 2) (up nn o (nn o+1) 2) (up C o c' 2),.slice (up P o p' 3) (up nn o (nn o+1) 3) (up C o c' 3),.slice (up P o p' 4) (up nn o (nn o+1) 4) (up C o c' 4)] 5);rw[hx8]at hf8 hd8⊢;have HF8:=hid hf8;have HD8:=hid hd8
         clear hx8 hf8 hd8 HF7 HDB c0 c1 c2 c3 c4 c5 c6 c7 c8 c9 c10 c11 z0 z1 z2 z3 z4 z5 z6 z7 z8 z9 z10 z11;obtain⟨c0,c1,c2,c3,c4,c5,c6,c7,c8,c9,c10,c11⟩:=Zaf HF8.out.at2;obtain⟨z0,z1,z2,z3,z4,z5,z6,z7,z8,z9,z10,z11⟩:=Zap HF8.out.at1;obtain⟨o0,o1,o2,o3,o4,o5,o6,o7,o8,o9,o10,o11⟩:=Zbl HF8.out.at1;have hff:=HF8.out.Zgk (rqL ((n:Int)) ((g:Int)) (r) ((K:Int)) (.slice u ln tc) (up P o p') (up nn o (nn o+1)) (up C o c') (.slice op2 lw oc2)) rfl;have hdi:=HD8.out.put o2 (by intro b;simp) HAB.out.2 (rqL ((n:Int)) ((g:Int)) (r) ((K:Int)) (.slice u ln tc) (up P o p') (up nn o (nn o+1)) (up C o c') (.slice op2 lw oc2)) 0;have HQQ:=hid (HPSH.out p o HPA.out (by rw[HGC.out];exact hgo) HHQ.out (by rw[HGC.out];exact hu0) HCND.out _ _ (⟨u,tc,up P o p',up nn o (nn o+1),up C o c',op2,lw,oc2,by rw[HLN.out],hdi,HPF.out,hff.be⟩:Zj4 (n:Int) (g:Int) r (K:Int) L (Zde q o (p::q o)) (wo hs a) (up P o none) w (rqV ((n:Int)) ((g:Int)) (r) ((K:Int)) (.slice u ln tc) (up P o p') (up nn o (nn o+1)) (up C o c') (.slice op2 lw oc2)) (stR x8 E (rqL ((n:Int)) ((g:Int)) (r) ((K:Int)) (.slice u ln tc) (up P o p') (up nn o (nn o+1)) (up C o c') (.slice op2 lw oc2)) 0)));have HQ0:=hid (Zaf hff.at1);clear hff hdi HPSH;go_wp2_with fail;change bodyPost _ _ _ _ _ (stR x8 E (rqL ((n:Int)) ((g:Int)) (r) ((K:Int)) (.slice u ln tc) (up P o p') (up nn o (nn o+1)) (up C o c') (.slice op2 lw oc2)) 0);obtain⟨z,hz⟩:=eX (stR x8 E (rqL ((n:Int)) ((g:Int)) (r) ((K:Int)) (.slice u ln tc) (up P o p') (up nn o (nn o+1)) (up C o c') (.slice op2 lw oc2)) 0);rw[hz]at HQQ HQ0⊢;obtain⟨q0,q1,q2,q3,q4,q5,q6,q7,q8,q9,q10,q11⟩:=HQ0.out;exact bodyPost_ret (v:=.tuple #[.agg (rqA ((n:Int)) ((g:Int)) (r) ((K:Int)) (.slice u ln tc) (up P o p') (up nn o (nn o+1)) (up C o c') (.slice op2 lw oc2)),iV 0]) (by simp[results,Tryz.results135,go_sem,q0,q1,q2,q3,q4,q5,q6,q7,q8,q9,q10,q11]) rfl HQQ.out
end
end
end Go.Proofs.YtgcidfenjlmljaaGreat.Bt
