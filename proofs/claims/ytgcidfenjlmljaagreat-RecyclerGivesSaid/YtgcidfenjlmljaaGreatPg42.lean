import Derived.Test.YtgcidfenjlmljaaGreatPg41
import Derived.Test.YtgcidfenjlmljaaGreatPgR
set_option linter.unusedVariables false
set_option linter.unusedSimpArgs false
set_option maxRecDepth 100000
set_option maxHeartbeats 16000000
namespace Go.Proofs.YtgcidfenjlmljaaGreat.Bt
section
open Go Go.RowKit Go.Shelf
theorem Zt3 (n:Int) (h: -9223372036854775808<=n/\n<=9223372036854775807):wrap64 n=n:=by unfold wrap64;omega
theorem Yde (m:Nat->UInt8) (a:Nat):Zck m a 8=Zck m a 4+4294967296*Zck m (a+4) 4:=by
 have e:∀b,b=a+4->Zck m a 8=Zck m a 4+4294967296*Zck m b 4:=fun b hb=>by
  subst hb;simp only[Zck,Nat.add_assoc,Nat.reduceAdd];omega
 exact e _ rfl
theorem Zuu {m:Nat->UInt8} {a:Int} (h:Zoj a (rdO m a.toNat) (rdX m a.toNat)=false):stB m a=false:=by unfold stB;rw[h];rfl
theorem Zos {m:Nat->UInt8} {a:Int} (h:rdO m a.toNat<0\/10<rdO m a.toNat):stB m a=false:=Zuu (by
 cases e:Zoj a (rdO m a.toNat) (rdX m a.toNat)with
 |false=>rfl
 |true=>have:=((Zdt _ _ _).1 e).2.2.1;omega)
theorem Zoy {m:Nat->UInt8} {a v:Nat} (h:Zck m (a+8) 8=v) (hv:v<9223372036854775808):rdO m a=(v:Int)-1:=by
 unfold rdO n4;rw[Nat.mul_one,h,Zt3 (v:Int) (by omega),Zt3 _ (by omega)]
theorem Yee {L:Nat} {es:List Nat} {m:Nat->UInt8} {h b:Nat} {l:List Nat} (c:Ch L es m h b l):Zck m h 8=0\/Zck m h 8∈l:=by
 cases l with
 |nil=>exact .inl c.2
 |cons x l=>exact .inr (by rw[c.2.1];exact List.mem_cons_self ..)
theorem Zpg (a:Int):∀(hs:List Hd) (c0:Hd),(hs.foldl (fun c x=>if x.a=a then x else c) c0=c0/\∀c∈hs,c.a≠a)\/(hs.foldl (fun c x=>if x.a=a then x else c) c0∈hs/\(hs.foldl (fun c x=>if x.a=a then x else c) c0).a=a)
 |[],c0=> .inl ⟨rfl,fun c hc=>(by cases hc)⟩
 |x::hs,c0=>by
  rw[List.foldl_cons];by_cases e:x.a=a
  · rw[if_pos e]
    rcases Zpg a hs x with⟨h1,h2⟩|⟨h1,h2⟩
    · rw[h1];exact .inr ⟨List.mem_cons_self ..,e⟩
    · exact .inr ⟨List.mem_cons_of_mem _ h1,h2⟩
  · rw[if_neg e]
    rcases Zpg a hs c0 with⟨h1,h2⟩|⟨h1,h2⟩
    · exact .inl ⟨h1,fun c hc=>by
       rcases List.mem_cons.1 hc with rfl|hc
       · exact e
       · exact h2 c hc⟩
    · exact .inr ⟨List.mem_cons_of_mem _ h1,h2⟩
theorem Zwn (hs:List Hd) (a:Int):(gvC hs a=hdZ/\∀c∈hs,c.a≠a)\/(gvC hs a∈hs/\(gvC hs a).a=a):=Zpg a hs hdZ
theorem Zlz {q:Nat->List Nat} {a:Int}:Zik q a=true↔∃p,a=((4096*p:Nat):Int)/\InQ q p:=by
 unfold Zik adI;rw[List.any_eq_true]
 constructor
 · rintro ⟨k,hk,h⟩
   obtain⟨z,hz,e⟩:=List.any_eq_true.1 h;obtain⟨p,hp,rfl⟩:=List.mem_map.1 hz
   exact⟨p,(eq_of_beq e).symm,k,List.mem_range.1 hk,hp⟩
 · rintro ⟨p,e,k,hk,hp⟩
   exact⟨k,List.mem_range.2 hk,List.any_eq_true.2 ⟨_,List.mem_map.2 ⟨p,hp,rfl⟩,by rw[e];exact beq_self_eq_true _⟩⟩
section
variable {n g K:Nat} {R:Zag} {q:Nat->List Nat} {hs:List Hd} {s:ASt}
theorem Bud.low (h:Bud (n+1) g g R g s):stB s.mm 0=false:=by
 have hc:=h.c2;have hg:=h.gG
 have e1:rdO s.mm 0=(g:Int)-1:=Zoy h.gr (by omega)
 have key:∀k,k<=10->∃x,x<=81/\Zck s.mm (16+8*k) 8=4096*x:=fun k hk=>by
  rcases Yee (h.ls k hk)with e|e
  · exact⟨0,by omega,by omega⟩
  · obtain⟨i,h1,h2,h3,h4⟩:=Za4.1 e
    exact⟨1+i,by omega,by omega⟩
 by_cases c:g=0\/11<g
 · refine Zos ?_
   rw[show(0:Int).toNat=0 from rfl,e1];omega
 · obtain⟨x,hx,e2⟩:=key 0 (by omega)
   obtain⟨y,hy,e3⟩:=key 1 (by omega);have u2:rdU s.mm 0=((4096*x:Nat):Int):=by unfold rdU n4;rw[<-e2]
   have u3:rdX s.mm 0=((4096*y:Nat):Int):=by
    have:n4 s.mm 0 3=((4096*y:Nat):Int):=by unfold n4;rw[<-e3]
    unfold rdX;rw[this,Zt3 _ (by omega)]
   have u0:n4 s.mm 0 0=(Zhr:Int):=by unfold n4;rw[<-h.mr]
   obtain⟨o,ho⟩:∃o,g=o+1:=⟨g-1,by omega⟩
   have e4:rdO s.mm 0=(o:Int):=by rw[e1];omega
   unfold stB;rw[show(0:Int).toNat=0 from rfl,e4,u2,u3,u0,decide_eq_false (Yj1 (by omega) hx hy),Bool.and_false]
theorem PyS.view (h:PyS n g K R q hs s):stB s.mm 4096=false:=by
 have b:=h.rc.bn.many 1 (by omega);have l:=h.rc.len (j:=1) (by omega);have hP:hdP s.mm 4096 1<4294967296:=(Zsx _ _ _).1;have e:Zck s.mm (4096+8) 8=hdP s.mm 4096 1+4294967296*hdC s.mm 4096 1:=Yde _ _;have e1:rdO s.mm 4096=((hdP s.mm 4096 1+4294967296*hdC s.mm 4096 1:Nat):Int)-1:=Zoy e (by omega);refine Zos ?_;rw[show(4096:Int).toNat=4096 from rfl,e1];by_cases c:q 1=[]
 · have:=(h.rc.bz 1 (by omega)).1 c
   rw[c]at b
   have:hdC s.mm 4096 1=0:=b
   omega
 · have:0<(q 1).length:=List.length_pos_iff.2 c
   omega
theorem Zsm {m:Nat->UInt8} {p:Nat} (h:Zfi m p):stB m ((4096*p:Nat):Int)=false:=by
 have e:Zck m (4096*p+8) 8=0:=by
  have:=Zar (m:=m) (m':=fun _=>0) (a:=4096*p+8) (k:=8) fun j hj=>h j hj
  rw[this,Zif]
 refine Zos (.inl ?_);rw[Int.toNat_natCast,Zoy e (by omega)];omega
theorem PyS.none (h:PyS n g K R q hs s) {p:Nat} (h1:¬InQ q p) (h2:∀c∈hs,c.a≠((4096*p:Nat):Int)):stB s.mm ((4096*p:Nat):Int)=false:=by
 by_cases c:2<=p
 · rcases h.nt p c with d|d|⟨c,d1,d2⟩
   · exact Zsm d
   · exact absurd d h1
   · exact absurd d2 (h2 c d1)
 · have:p=0\/p=1:=by omega
   rcases this with rfl|rfl
   · exact h.rc.bu.low
   · exact h.view
def Found (R:Zag) (q:Nat->List Nat) (hs:List Hd) (s:ASt) (a:Int) (i k u:Nat):Prop:=
 gvC hs a=⟨(adr i:Int),(k:Int),(u:Int),0⟩/\a=(adr i:Int)/\i≠0/\R i=some (k,true)/\¬InQ q (1+i)/\0<u/\u<18446744073709551616/\rdV s a=.tuple #[cV (adr i:Int) (k:Int) (u:Int) 0,iV 0]
theorem PyS.rd (h:PyS n g K R q hs s) (a:Int) (ht:Zac s.L s.es a 32=0):
 (Zik q a=true/\∃c1 c3,rdV s a=.tuple #[cV a c1 0 c3,iV 0])\/(Zik q a=false/\(gvC hs a).u=0/\rdV s a=.tuple #[cV 0 0 0 0,iV 7])\/(Zik q a=false/\∃i k u,Found R q hs s a i k u):=by
 cases hq:Zik q a with
 |true=>
  obtain⟨p,rfl,j,hj,hp⟩:=Zlz.1 hq;have c:=h.rc.bn.at_ j hj p hp;refine .inl ⟨rfl,rdO s.mm (4096*p),rdX s.mm (4096*p),?_⟩;unfold rdV;rw[if_pos ht,if_pos c.st,Int.toNat_natCast,c.own]
 |false=>
  have hn:∀p,a=((4096*p:Nat):Int)->¬InQ q p:=fun p e c=>by
   have:=Zlz.2 ⟨p,e,c⟩
   rw[hq]at this;cases this
  rcases Zwn hs a with⟨e1,e2⟩|⟨e1,e2⟩
  · refine .inr (.inl ⟨rfl,by rw[e1];rfl,?_⟩)
    have:stB s.mm a=false:=by
     by_cases c:0<=a/\a%4096=0
     · obtain⟨p,rfl⟩:∃p:Nat,a=((4096*p:Nat):Int):=⟨(a/4096).toNat,by omega⟩
       exact h.none (hn p rfl) e2
     · refine Zuu ?_
       cases d:Zoj a (rdO s.mm a.toNat) (rdX s.mm a.toNat)with
       |false=>rfl
       |true=>have:=(Zdt _ _ _).1 d;omega
    unfold rdV;rw[if_pos ht,if_neg (by rw[this];decide)]
  · obtain⟨i,k,u,f1,f2,f3,f4,f5,f6,f7⟩:=h.ow _ e1
    have ea:a=(adr i:Int):=by rw[<-e2,f1]
    refine .inr (.inr ⟨rfl,i,k,u,f1,ea,f2,f3,f4,f5,f6,?_⟩);subst ea;unfold rdV;rw[if_pos ht,if_pos f7.s,Int.toNat_natCast,f7.o,f7.u,f7.x]
end
end
section
open Go Go.RowKit Go.Shelf
def Yev (A:Nat) (P:Nat->Option Addr) (q:Nat->List Nat) (w:World):Prop:=∀k,k<5->q k≠[]->∀b off,P k=some (aD b off)->Zbb A b w
def DW (A:Nat) (n g r K:Int) (L:List (Nat × Nat × Bool)) (q:Nat->List Nat) (hs:List Hd) (v:Value) (w:World):Prop:=
 ∃u c P nn C op on oc,v=rqV n g r K (.slice u L.length c) P nn C (.slice op on oc)/\DIn u L P nn C q op on oc hs w/\Yev A P q w
section
variable {A:Nat} {n g r K:Int} {s:ASt} {u:Option Addr} {L:List (Nat × Nat × Bool)} {P:Nat->Option Addr} {nn C:Nat->Nat} {q:Nat->List Nat} {op:Option Addr} {on oc:Nat} {hs:List Hd} {v:Value} {w y:World}
theorem Yev.Zaq (h:Yev A P q w) (hg:Zam A w y):Yev A P q y:=fun k hk hq b off e=>(h k hk hq b off e).Zaq hg
theorem DIn.Zaq (h:DIn u L P nn C q op on oc hs w) (hm:Yev A P q w) (ho:On A s w) (hg:Zam A w y):DIn u L P nn C q op on oc hs y:=
 {h with
  rn:=Zcg.Zaq ho hg h.rn
  qa:=fun k hk=>by
   rcases h.qa k hk with e|⟨b,off,e,hl,hc⟩
   · exact .inl e
   · by_cases hz:q k=[]
     · exact .inl (by rw[hz];rfl)
     · have hm:=hm k hk hz b off e
       exact .inr ⟨b,off,e,Nat.lt_of_lt_of_le hl hg.size,fun j hj=>(World.cell?_of_block (w:=w) (a:=(aD b (off+j))) (hm.same hg)).trans (hc j hj)⟩
  ho:=h.ho.Zaq ho hg}
end
structure LwS (Q B A n g K:Nat) (R:Zag) (q:Nat->List Nat) (hs:List Hd) (s:ASt) (v:Value) (w:World):Prop where
 rv:RcV Q B A n 4096 s w
 py:PyS n g K R q hs s
 dw:DW A (n:Int) (g:Int) (rfI s) (K:Int) (tkT R g) q hs v w
section
variable {Q B A n g K:Nat} {R:Zag} {q:Nat->List Nat} {hs:List Hd} {s:ASt} {v:Value} {w y:World}
theorem PyS.len (h:PyS n g K R q hs s):hs.length<=81:=by
 have hc:=h.rc.bu.c2;have hg:=h.rc.bu.gG
 have:=Zjh 81 (hs.map fun c=>c.a.toNat/4096) ?_ ?_
 · simpa using this
 · refine List.pairwise_map.2 ?_
   refine(List.Pairwise.and_mem.1 h.nd).imp fun{a b} ⟨ha,hb,hne⟩ e=>hne ?_
   obtain⟨i,_,_,rfl,_⟩:=h.ow a ha;obtain⟨j,_,_,rfl,_⟩:=h.ow b hb;have e2:(adr i:Int).toNat/4096=(adr j:Int).toNat/4096:=e
   show(adr i:Int)=(adr j:Int)
   rw[Int.toNat_natCast,Int.toNat_natCast]at e2;unfold adr at e2⊢;omega
 · intro p hp
   obtain⟨c,hc2,rfl⟩:=List.mem_map.1 hp;obtain⟨i,k,u,rfl,_,f,_⟩:=h.ow c hc2
   have:=h.rc.bu.addr f
   show(adr i:Int).toNat/4096<81
   rw[Int.toNat_natCast];unfold adr;omega
end
end
section
open Go Go.RowKit Go.Shelf
theorem Zp6 {A D b:Nat} {s:ASt}:∀(vs:List Value) (k:Nat) (x:World),On A s x->Zbb A D x->Zbb A b x->On A s (Bt.stR x D vs k)/\Zbb A b (Bt.stR x D vs k)
 |[],_,_,h,_,h2=>⟨h,h2⟩
 |v::vs,k,x,h,h1,h2=>Zp6 vs (k+1) _ (h.set h1 k v) (Zbb.set h h1 h1 k v) (Zbb.set h h1 h2 k v)
def Yjl (P:Nat->Option Addr) (q:Nat->List Nat) (Ds:List Nat):Prop:=∀D∈Ds,∀k,k<5->q k≠[]->∀b off,P k=some (aD b off)->b≠D
def DX (A:Nat) (n g r K:Int) (L:List (Nat × Nat × Bool)) (q:Nat->List Nat) (hs:List Hd) (u:Option Addr) (c:Nat) (P:Nat->Option Addr) (nn C:Nat->Nat) (op:Option Addr) (on oc:Nat) (v:Value) (Ds:List Nat) (w:World):Prop:=
 v=rqV n g r K (.slice u L.length c) P nn C (.slice op on oc)/\DIn u L P nn C q op on oc hs w/\Yev A P q w/\Yjl P q Ds
def DWo (A:Nat) (n g r K:Int) (L:List (Nat × Nat × Bool)) (q:Nat->List Nat) (hs:List Hd) (v:Value) (Ds:List Nat) (w:World):Prop:=
 ∃u c P nn C op on oc,DX A n g r K L q hs u c P nn C op on oc v Ds w
section
variable {A:Nat} {n g r K:Int} {s:ASt} {u:Option Addr} {c:Nat} {L:List (Nat × Nat × Bool)} {P:Nat->Option Addr} {nn C:Nat->Nat} {q:Nat->List Nat} {op:Option Addr} {on oc:Nat} {hs:List Hd} {v:Value} {w y x:World} {Ds:List Nat}
theorem DW.off (h:DW A n g r K L q hs v w) (hD:∀D∈Ds,w.heap.size<=D):DWo A n g r K L q hs v Ds w:=by
 obtain⟨u,c,P,nn,C,op,on,oc,h1,h2,h3⟩:=h
 refine⟨u,c,P,nn,C,op,on,oc,h1,h2,h3,fun D hd k hk hq b off e=>?_⟩
 have:=Zlv (h2.qa k hk) (by simpa[adI]using hq) e
 have:=hD D hd
 omega
theorem DWo.more (h:DWo A n g r K L q hs v Ds w) {D2:List Nat} (hD:∀D∈D2,w.heap.size<=D):DWo A n g r K L q hs v (D2++Ds) w:=by
 obtain⟨u,c,P,nn,C,op,on,oc,h1,h2,h3,h4⟩:=h
 refine⟨u,c,P,nn,C,op,on,oc,h1,h2,h3,fun D hd k hk hq b off e=>?_⟩
 rcases List.mem_append.1 hd with hd|hd
 · have:=Zlv (h2.qa k hk) (by simpa[adI]using hq) e
   have:=hD D hd
   omega
 · exact h4 D hd k hk hq b off e
theorem DWo.sub (h:DWo A n g r K L q hs v Ds w) {D2:List Nat} (hD:∀D∈D2,D∈Ds):DWo A n g r K L q hs v D2 w:=by
 obtain⟨u,c,P,nn,C,op,on,oc,h1,h2,h3,h4⟩:=h
 exact⟨u,c,P,nn,C,op,on,oc,h1,h2,h3,fun D hd=>h4 D (hD D hd)⟩
theorem DWo.Zaq (h:DWo A n g r K L q hs v Ds w) (ho:On A s w) (hg:Zam A w y):DWo A n g r K L q hs v Ds y:=by
 obtain⟨u,c,P,nn,C,op,on,oc,h1,h2,h3,h4⟩:=h
 exact⟨u,c,P,nn,C,op,on,oc,h1,h2.Zaq h3 ho hg,h3.Zaq hg,h4⟩
theorem DWo.stR (h:DWo A n g r K L q hs v Ds x) (ho:On A s x) {D:Nat} {cs:Array Value} {t:TypeId} {fr:Nat × Nat} {z:Int} (hd:x.heap[D]?=some (.cells cs t fr)) (ht:t≠65) (h2:x.cell? (aD D 2)=some (iV z)) (hm:Zbb A D x) (hD:D∈Ds) (vs:List Value) (k:Nat):
 DWo A n g r K L q hs v Ds (Bt.stR x D vs k):=by
 obtain⟨u,c,P,nn,C,op,on,oc,h1,h3,h4,h5⟩:=h
 exact⟨u,c,P,nn,C,op,on,oc,h1,h3.stR hd ht h2 (fun k hk hq b off e=>h5 D hD k hk hq b off e) vs k,fun k' hk hq b off e=>(Zp6 vs k x ho hm (h4 k' hk hq b off e)).2,h5⟩
theorem Zj4.dwo {q':Nat->List Nat} {P0:Nat->Option Addr} (hd:Zj4 n g r K L q' hs P0 w v y) (hm:Yev A P q w) (hf:Yjl P q Ds) (hD:∀D∈Ds,D<w.heap.size) (ho:On A s w) (hP:∀k,k<5->q' k≠[]->(P0 k=P k/\q k≠[])\/P0 k=none):DWo A n g r K L q' hs v Ds y:=by
 obtain⟨u,c,P',nn',C',op,on,oc,e,h1,h2,hb⟩:=hd
 refine⟨u,c,P',nn',C',op,on,oc,e,h1,fun k hk hq b off e2=>?_,fun D hD2 k hk hq b off e2=>?_⟩
 · rcases h2 k hk trivial with d|d
   · rw[d]at e2
     rcases hP k hk hq with⟨c1,c2⟩|c1
     · rw[c1]at e2
       exact(hm k hk c2 b off e2).Zaq (Zam.Zad ho hb)
     · rw[c1]at e2;cases e2
   · exact Zso ho hb (d b off e2) (Zlv (h1.qa k hk) (by simpa[adI]using hq) e2)
 · rcases h2 k hk trivial with d|d
   · rw[d]at e2
     rcases hP k hk hq with⟨c1,c2⟩|c1
     · rw[c1]at e2
       exact hf D hD2 k hk c2 b off e2
     · rw[c1]at e2;cases e2
   · have:=d b off e2
     have:=hD D hD2
     omega
theorem WkS.Zd9 {Q B n va:Nat} {s:ASt} {w x:World} {R:Nat} {c:Array Value} {t:TypeId} {L2:List Blk} (h:WkS Q B A n va s w (⟨R,c,t⟩::L2) x) (vs:List Value) (hc:c.size=vs.length):WkS Q B A n va s w (⟨R,vs.toArray,t⟩::L2) (Bt.stR x R vs 0):=
 ⟨h.rv.stR (L1:=[]) h.fr vs 0,h.fr.Zd9 h.rv.1.1 vs hc⟩
theorem WkS.Zgk {Q B n va:Nat} {s:ASt} {w x:World} {a0:Blk} {R:Nat} {c:Array Value} {t:TypeId} {L2:List Blk} (h:WkS Q B A n va s w (a0::⟨R,c,t⟩::L2) x) (vs:List Value) (hc:c.size=vs.length):WkS Q B A n va s w (a0::⟨R,vs.toArray,t⟩::L2) (Bt.stR x R vs 0):=
 ⟨h.rv.stR (L1:=[a0]) h.fr vs 0,h.fr.Zgk h.rv.1.1 vs hc⟩
end
end
section
open Go Go.RowKit Go.Shelf
section
variable {Q B A n g K:Nat} {R:Zag} {q:Nat->List Nat} {hs:List Hd} {s:ASt} {v:Value} {w y:World}
def Yhp (g K:Nat) (R:Zag) (q:Nat->List Nat) (hs:List Hd) (s:ASt) (a:Int) (R':Zag) (q':Nat->List Nat) (hs':List Hd) (s':ASt) (ans:Int):Prop:=
 (Zik q a=true/\ans=11/\R'=R/\q'=q/\hs'=hs/\s'=s)\/(Zik q a=false/\(gvC hs a).u=0/\ans=7/\R'=R/\q'=q/\hs'=hs/\s'=s)\/
 (Zik q a=false/\∃i k u,Found R q hs s a i k u/\ans=0/\hs'=wo hs a/\rfI s'=rfI s/\((k<=4/\Zci q 5+2^k<=K/\R'=R/\q'=Zde q k ((1+i)::q k))\/((4<k\/K<Zci q 5+2^k)/\q'=q/\Zh6 R R' i)))
theorem Zzg (hv:RcV Q B A n 4096 s w) (a:Int) (ha:a<=9223372036854775807) (ht:Zac s.L s.es a 32=3):
 Calls Tryz.prog 28 #[rcP Q,iV a] w (Zan (iV 3) w):=
 Zld hv a ha 0 0 0 0 3 3 (by unfold rdV;rw[if_neg (by omega)]) (.inl ⟨by omega,rfl⟩)
theorem Yfz (hv:RcV Q B A n 4096 s w) (h:PyS n g K R q hs s) (a:Int) (ha:a<=9223372036854775807) (ht:Zac s.L s.es a 32=0):
 Calls Tryz.prog 28 #[rcP Q,iV a] w fun e w'=>∃ans R' q' hs' s',e=.returned (iV ans)/\RcV Q B A n 4096 s' w'/\Zam A w w'/\PyS n g K R' q' hs' s'/\Yhp g K R q hs s a R' q' hs' s' ans:=by
 rcases h.rd a ht with⟨h1,c1,c3,h2⟩|⟨h1,h2,h3⟩|⟨h1,i,k,u,hf⟩
 · refine(Zld hv a ha a c1 0 c3 0 11 h2 (.inr ⟨rfl,rfl,rfl⟩)).mono ?_
   rintro e w' ⟨rfl,hb⟩
   exact⟨11,R,q,hs,s,rfl,hv.below hb,Zam.Zad hv.1.1 hb,h,.inl ⟨h1,rfl,rfl,rfl,rfl,rfl⟩⟩
 · refine(Zld hv a ha 0 0 0 0 7 7 h3 (.inl ⟨by omega,rfl⟩)).mono ?_
   rintro e w' ⟨rfl,hb⟩
   exact⟨7,R,q,hs,s,rfl,hv.below hb,Zam.Zad hv.1.1 hb,h,.inr (.inl ⟨h1,h2,rfl,rfl,rfl,rfl,rfl⟩)⟩
 · have hf0:=hf
   obtain⟨f1,rfl,f3,f4,f5,f6,f7,f8⟩:=hf
   refine(Zvb hv h.rc f4 (h.off f4 f3) f5 f6 f8 (Int.le_refl 0) (by omega)).mono ?_
   rintro e w' ⟨rfl,⟨⟨k1,k2⟩,h2,h3⟩|⟨k1,R',s',h2,h3,h4,h5,h6,h7,h8⟩⟩
   · exact⟨0,R,_,_,_,rfl,h2,h3,h.cache f4 f3 f5 (by omega) (Int.le_refl 0) (by omega),.inr (.inr ⟨h1,i,k,u,hf0,rfl,rfl,Zcr rfl rfl,.inl ⟨k1,k2,rfl,rfl⟩⟩)⟩
   · exact⟨0,R',_,_,s',rfl,h2,h4,h.gone f4 f3 f5 h3 h5 h6,.inr (.inr ⟨h1,i,k,u,hf0,rfl,rfl,Zcr h7 h8,.inr ⟨k1,rfl,h5⟩⟩)⟩
theorem Zv8 {s1:ASt} {r:Int} {x:World} (hp:PyS n g K R q hs s) (ho:On A s1 w) (a:Int) {R':Zag} {q':Nat->List Nat} {hs':List Hd} {s':ASt} {ans:Int} (hp':PyS n g K R' q' hs' s') (hr:Yhp g K R q hs s a R' q' hs' s' ans) {Ds:List Nat} (hDs:∀D∈Ds,D<w.heap.size) (hd:DWo A (n:Int) (g:Int) r (K:Int) (tkT R g) q hs v Ds w):
 Calls Tryz.prog 135 #[v,iV a] w fun e w'=>∃v',e=.returned (.tuple #[v',iV ans])/\DWo A (n:Int) (g:Int) r (K:Int) (tkT R' g) q' hs' v' Ds w'/\Below w.heap.size w w':=by
 obtain⟨u0,c,P,nn,C,op,on,oc,rfl,hi,hm,hf0⟩:=hd;have hbel:∀{n g r K:Int} {L q hs P v w'},Zj4 n g r K L q hs P w v w'->Below w.heap.size w w':=fun h=>by obtain⟨_,_,_,_,_,_,_,_,_,_,_,hb⟩:=h;exact hb
 have hl:=hp.len;have hl2:=fun k hk=>hp.rc.len (j:=k) hk
 refine Ztd n g r K hp.rc.kb c hi (by omega) (fun k hk=>by have:=hl2 k hk;omega) a _ (fun h1 v' w' hd=>?_) (fun h1 h2 v' w' hd=>?_) (fun h1 h2=>?_) (fun p o ea eo h1 h2 h3 v' w' hd=>?_) (fun p o ea eo h1 h2 h3 v' w' hd=>?_)
 · rcases hr with⟨_,rfl,rfl,rfl,rfl,rfl⟩|⟨d1,_⟩|⟨d1,_⟩
   · exact⟨v',rfl,hd.dwo hm hf0 hDs ho fun k _ hq=> .inl ⟨rfl,hq⟩,hbel hd⟩
   · rw[h1]at d1;cases d1
   · rw[h1]at d1;cases d1
 · rcases hr with⟨d1,_⟩|⟨_,_,rfl,rfl,rfl,rfl,rfl⟩|⟨_,i,k,u,hf,_⟩
   · rw[h1]at d1;cases d1
   · exact⟨v',rfl,hd.dwo hm hf0 hDs ho fun k _ hq=> .inl ⟨rfl,hq⟩,hbel hd⟩
   · have d:=h2
     rw[hf.1]at d;have d2:(u:Int)=0:=d
     have:=hf.2.2.2.2.2.1
     omega
 · rcases hr with⟨d1,_⟩|⟨_,d1,_⟩|⟨_,i,k,u,hf,_⟩
   · rw[h1]at d1;cases d1
   · exact absurd d1 h2
   · have b:=hp.rc.bu.addr hf.2.2.2.1
     have hc:=hp.rc.bu.c2;have hg:=hp.rc.bu.gG
     refine⟨1+i,k,by rw[hf.2.1,Za2],by omega,by omega,by rw[hf.1],by omega⟩
 · rcases hr with⟨d1,_⟩|⟨_,d1,_⟩|⟨_,i,k,u,hf,rfl,rfl,_,hk⟩
   · rw[h1]at d1;cases d1
   · exact absurd d1 h2
   · have e1:p=1+i:=by have:=hf.2.1;rw[ea]at this;unfold adr at this;omega
     have e2:o=k:=by
      rw[hf.1]at eo
      have:(k:Int)=(o:Int):=eo
      omega
     subst e1;subst e2
     rcases hk with⟨c1,c2,_⟩|⟨_,rfl,ht⟩
     · omega
     · refine⟨v',rfl,?_,hbel hd⟩
       have e3:(((1+i:Nat):Int)-1)=(i:Int):=by omega
       rw[e3,Yfc hp.rc.bu.ti hp'.rc.bu.ti ht]at hd;exact hd.dwo hm hf0 hDs ho fun k _ hq=> .inl ⟨rfl,hq⟩
 · rcases hr with⟨d1,_⟩|⟨_,d1,_⟩|⟨_,i,k,u,hf,rfl,rfl,_,hk⟩
   · rw[h1]at d1;cases d1
   · exact absurd d1 h2
   · have e1:p=1+i:=by have:=hf.2.1;rw[ea]at this;unfold adr at this;omega
     have e2:o=k:=by
      rw[hf.1]at eo
      have:(k:Int)=(o:Int):=eo
      omega
     subst e1;subst e2
     rcases hk with⟨c1,c2,rfl,rfl⟩|⟨c1,_⟩
     · refine⟨v',rfl,hd.dwo hm hf0 hDs ho fun k _ hq=>?_,hbel hd⟩
       by_cases e:k=o
       · subst e;exact .inr (Zh7 _ _ _)
       · rw[Zaz _ _ e]at hq
         exact .inl ⟨Zix _ _ e,hq⟩
     · omega
end
end
section
open Go Go.RowKit Go.Shelf
def Zzj (hs:List Hd) (m:Int):Int:=if hs=[]then 0 else(hs.getD (m.toNat%hs.length) hdZ).a
section
variable {w y:World} {u:Option Addr} {L:List (Nat × Nat × Bool)} {P:Nat->Option Addr} {nn C:Nat->Nat} {q:Nat->List Nat} {op:Option Addr} {on oc:Nat} {hs:List Hd}
theorem Ygg (n g r K:Int) (tc:Nat) (ho:Zof w (.slice op on oc) hs) (hn:on=hs.length) (hl:hs.length<=1000) (m:Int) (h0: -9223372036854775808<=m) (h1:m<=9223372036854775807):
 Calls Tryz.prog 68 #[rqV n g r K (.slice u L.length tc) P nn C (.slice op on oc),iV m] w (Zan (iV (Zzj hs m)) w):=by
 have hf:=(Fb.start w).new (rqA (n) (g) (r) (K) (.slice u L.length tc) (P) (nn) (C) (.slice op on oc)) 33;have HHO:=hid ho;have HHN:=hid hn;have HHL:=hid hl;clear ho hn hl;obtain⟨ln,hln⟩:=eX L.length;rw[hln]at hf⊢;clear hln;go_enter Tryz.func68,Tryz.ntmps68;go_upto_region 1 with fail;change Code.wp _ _ _ _ (w.alloc (.cells (rqA (n) (g) (r) (K) (.slice u ln tc) (P) (nn) (C) (.slice op on oc)) 33));obtain⟨x,hx⟩:=eX (w.alloc (.cells (rqA (n) (g) (r) (K) (.slice u ln tc) (P) (nn) (C) (.slice op on oc)) 33));rw[hx]at hf;obtain⟨D,hD⟩:=eX w.heap.size;have HB:=hid hf.be;have HOX:=hid (HHO.out.below hf.be);rw[hD]at hf;rw[hx,hD];have c11:x.cell? (aD D 11)=some (.slice op on oc):=hf.cell0 11 rfl;clear hx hD hf;by_cases hz:hs=[]
 · have e:on=0:=by rw[HHN.out,hz];rfl
   subst e;have HZ:=hid hz;clear hz;go_wp2_with fail
   go_ret
   exact⟨by rw[show Zzj hs m=0 from if_pos HZ.out];rfl,HB.out⟩
 · have hp:0<on:=by rw[HHN.out];exact List.length_pos_iff.2 hz
   have hon:on<=1000:=by rw[HHN.out];exact HHL.out
   obtain⟨j,hj⟩:=eX (m.toNat%on);have hjl:j<on:=by rw[<-hj];exact Nat.mod_lt _ hp
   rcases HOX.out with⟨_,e⟩|⟨b,cap,cs,fr,e,hb,hc⟩
   · exact absurd e hz
   · simp only[Value.slice.injEq]at e
     obtain⟨rfl, -, -⟩:=e;obtain⟨q0, -⟩:=hc j (by rw[<-HHN.out];exact hjl);have HZ:=hid (show(hs.getD j hdZ).a=Zzj hs m by unfold Zzj;rw[if_neg hz,<-HHN.out,hj]);obtain⟨z,hz2⟩:=eX ((hs.getD j hdZ).a);rw[hz2]at q0;have HZ2:=hid hz2;have n0:¬((on:Int)=0):=by omega
     clear hc hb hz2 hz
     have hm:(if 0<m then m else 0)%(on:Int)=(j:Int):=by
      by_cases c:0<m
      · obtain⟨M,rfl⟩:∃M:Nat,m=(M:Int):=⟨m.toNat,by omega⟩
        rw[if_pos c,<-hj,Int.toNat_natCast,Int.natCast_emod]
      · rw[if_neg c]
        have e0:m.toNat=0:=by omega
        rw[e0,Nat.zero_mod]at hj;rw[<-hj,Int.zero_emod];rfl
     have i0:0<=(j:Int):=by omega
     have i1:(j:Int)<(on:Int):=by omega
     clear hj;go_upto_region 3 with fail
     go_region
     go_wp2_with fail
     all_goals exact bodyPost_ret (v:=iV z) (by simp[results,Tryz.results68,go_sem]) rfl ⟨by rw[<-HZ.out,HZ2.out],HB.out.drew⟩
end
end
end Go.Proofs.YtgcidfenjlmljaaGreat.Bt
