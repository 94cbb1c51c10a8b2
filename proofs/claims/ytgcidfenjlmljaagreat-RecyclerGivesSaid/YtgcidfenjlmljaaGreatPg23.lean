import Derived.Test.YtgcidfenjlmljaaGreatPg22
import Derived.Laws.AppendOwn
import Derived.Test.YtgcidfenjlmljaaGreatPgR
set_option linter.unusedVariables false
set_option linter.unusedSimpArgs false
set_option maxRecDepth 100000
set_option maxHeartbeats 16000000
namespace Go.Proofs.YtgcidfenjlmljaaGreat.Bt
section
open Go Go.RowKit Go.Shelf
def Yht (k:Nat) (s:ByteArray) (v:Value) (x:World):Prop:=(k=0/\v=.slice none 0 0)\/(k=1/\∃g cap,v=.slice (some (aD g 0)) 1 cap/\x.cell? (aD g 0)=some (.string s))
structure Yhu (V b:Nat) (r:Int) (w x:World):Prop where
 v:x.heap[V]?=some (.cells #[.slice (some (aD b 0)) 1 1,iV r] 267 (0,0))
 o:x.heap[V+1]?=some (.cells #[.slice none 0 0,iV 0] 267 (0,0))
 b:x.heap[b]?=some (.cells #[.string ⟨#[]⟩] 9 (0,0))
 bel:Below w.heap.size w x
theorem Yhu.below {V b:Nat} {r:Int} {w x y:World} (h:Yhu V b r w x) (hb:Below x.heap.size x y):Yhu V b r w y:=
 ⟨Zd0 hb h.v,Zd0 hb h.o,(hb.block b (Array.getElem?_eq_some_iff.1 h.b).1).trans h.b,h.bel.trans (hb.mono h.bel.size)⟩
def Zya (w:World) (e:Ending) (w':World):Prop:=∃b,e=.returned (.tuple #[Ztu (some (aD b 0)) 1 1 (-1),iV 0])/\Below w.heap.size w w'
theorem Zoz (b:Nat) (w:World) (hb:w.heap[b]?=some (.cells #[.string ⟨#[]⟩] 9 (0,0))):
 Calls Tryz.prog 238 #[Ztu (some (aD b 0)) 1 1 (-1),iV 0,iV 1] w (Zya w):=by
 obtain⟨i0,hi,hz0,hz1,hz2⟩:=info_parts Tryz.Zhn;have HI:=hid hi;have HZ0:=hid hz0;have HZ1:=hid hz1;have HZ2:=hid hz2
 clear hi hz0 hz1 hz2;have HNS:=hid fun x=>Zo7 4096 (by omega) x
 generalize Zup (List.replicate 4096 0)=s at*
 obtain⟨q1,q2⟩:=Zbk w #[.slice (some (aD b 0)) 1 1,iV (-1)] #[.slice none 0 0,iV 0] 267 267;have HC0:Hid (Yhu w.heap.size b (-1) w _):=hid ⟨q1,q2,((Zbm w _ _).block b (Array.getElem?_eq_some_iff.1 hb).1).trans hb,Zbm w _ _⟩;clear hb q1 q2;go_enter Tryz.func238,Tryz.ntmps238;go_wp2_with fail
 refine(Zsa b (-1) _ HC0.out.b).mono ?_
 rintro e w1 ⟨rfl,hb⟩;have HC1:=hid (HC0.out.below hb);obtain⟨V,hV⟩:=eX w.heap.size;rw[hV]at HC1⊢;have HV:=hid hV;clear HC0 hb hV;have c0:=(Zaa HC1.out.v 0).1;have c1:=(Zaa HC1.out.v 1).1
 go_wp2_with fail
 go_loopw[9,10] (fun l v wr=>∃k:Nat,k<=1/\v=iV k/\Yht k s l wr/\Yhu V b (-1) w wr) (fun _ v _=>1-(intOf v).toNat)
 case atStart=>exact⟨0,by omega,rfl,.inl ⟨rfl,rfl⟩,HC1.out⟩
 case round=>
  obtain⟨k,hk,rfl,hl,hc⟩:=hrel;have HL:=hid hl;have HC:=hid hc
  clear hl hc HC1 c0 c1;by_cases hlt:k<1
  · obtain rfl:k=0:=by omega
    obtain rfl:u9=.slice none 0 0:=by
     rcases HL.out with⟨_,h⟩|⟨h,_⟩
     · exact h
     · cases h
    clear HL;go_wp2_with fail
    refine(HNS.out _).mono ?_
    rintro e w2 ⟨rfl,hb⟩;have HC2:=hid (HC.out.below hb);clear HC hb;go_wp2_with fail;go_roundw
    case rel=>
     refine⟨1,by omega,rfl,.inr ⟨rfl,_,_,rfl,?_⟩,HC2.out.below ((Zbm w2 _ _).drew)⟩
     have:=(Zaa (Zfy w2 (.cells #[.string s] 9) (.cells (#[.string s]++Builtin.zeroCells #[.string ⟨#[]⟩] ((Question.appendCap 1 0 9).cut (w2.tape w2.drawn (Question.appendCap 1 0 9))-1)) 9)) 0).1
     refine Eq.trans this ?_;rw[Array.getElem?_append_left (show 0<1 by omega)];rfl
    case measure=>exact(show(0:Nat)<1 by omega)
  · have hk1:k=1:=by omega
    obtain⟨g,cap,rfl,hcell⟩:∃g cap,u9=.slice (some (aD g 0)) 1 cap/\wr.cell? (aD g 0)=some (.string s):=by
     rcases HL.out with⟨h,_⟩|⟨_,h⟩
     · omega
     · exact h
    have HCL:=hid hcell;have c0:=(Zaa HC.out.v 0).1;have c1:=(Zaa HC.out.v 1).1
    have e0:=(Zaa HC.out.o 0).1;have e1:=(Zaa HC.out.o 1).1
    clear HL hcell;go_wp2_with fail
    refine(Zuz b g cap (-1) s _ HC.out.b HCL.out).mono ?_
    rintro e w2 ⟨b2,rfl,hb2,hb⟩;have HC2:=hid (HC.out.below hb);clear hb hb2 HCL HC c0 c1 e0 e1;have f1:=(Zaa HC2.out.o 0).2;have f2:=(Zaa HC2.out.o 1).2
    have e0:=(Zaa HC2.out.o 0).1;have e1:=(Zaa HC2.out.o 1).1
    go_wp2_with fail;have hz:=Zdf HC2.out.o rfl (.slice (some (aD b2 0)) 1 1) (iV (-1));have g0:=(Zaa hz 0).1;have g1:=(Zaa hz 1).1
    have hV:=HV.out;exact bodyPost_ret (v:=.tuple #[Ztu (some (aD b2 0)) 1 1 (-1),iV 0]) (by simp[results,Tryz.results238,go_sem,g0,g1]) rfl ⟨b2,rfl,(HC2.out.bel.setCell (p:=⟨V+1,0,none⟩) (by show _<=V+1;omega) _).setCell (p:=⟨V+1,1,none⟩) (by show _<=V+1;omega) _⟩
end
section
open Go Go.RowKit Go.Shelf
structure OB (A:Nat) (s:ASt) (w0 x:World):Prop where
 o:On A s x
 b:Ze0 A w0 x
theorem OB.below {A:Nat} {s:ASt} {w0 x y:World} (h:OB A s w0 x) (hb:Below x.heap.size x y):OB A s w0 y:=⟨h.o.below hb,h.b.below h.o hb⟩
theorem OB.Zaq {A:Nat} {s s':ASt} {w0 x y:World} (h:OB A s w0 x) (ho:On A s' y) (hg:Zam A x y):OB A s' w0 y:=⟨ho,h.b.Zaq hg⟩
theorem OB.set {A R:Nat} {s:ASt} {w0 x:World} (h:OB A s w0 x) (hm:Zbb A R x) (hR:w0.heap.size<=R) (o:Nat) (v:Value):OB A s w0 (x.setCell (aD R o) v):=⟨h.o.set hm o v,h.b.set h.o hm hR o v⟩
theorem Ydd {A:Nat} {s:ASt} {w0:World} (l:List (Nat × Nat × Value)):∀x,OB A s w0 x->(∀e∈l,Zbb A e.1 x/\w0.heap.size<=e.1)->OB A s w0 (l.foldl (fun x e=>x.setCell (aD e.1 e.2.1) e.2.2) x):=by
 induction l with
 |nil=>intro x h _;exact h
 |cons a l ih=>
  intro x h hm;have ha:=hm a (List.mem_cons_self ..);exact ih _ (h.set ha.1 ha.2 _ _) fun e he=>⟨Zbb.set h.o ha.1 (hm e (List.mem_cons_of_mem _ he)).1 _ _,(hm e (List.mem_cons_of_mem _ he)).2⟩
abbrev dvV (n:Nat):Value:=.agg #[iV 10,iV n]
def Yi5 (n:Nat) (w:World) (e:Ending) (w':World):Prop:=
 ∃A b,e=.returned (.tuple #[pT A,vwV A 10 n,Ztu (some (aD b 0)) 1 1 (-1),dvV n,.bool true])/\OB A (Zc9 1 (fun _=>0)) w w'
theorem Zhw (w:World) (a b c:Array Value) (ta tb tc:TypeId):((((w.alloc (.cells a ta)).alloc (.cells b tb)).alloc (.cells c tc)).heap.size=w.heap.size+3)/\Below w.heap.size w (((w.alloc (.cells a ta)).alloc (.cells b tb)).alloc (.cells c tc)):=
 ⟨by simp,(Zbm w _ _).alloc (by simp;omega) _⟩
structure Yhg (R:Nat) (x:World):Prop where
 a:x.heap[R]?=some (.cells #[.pointer none,iV 0,iV 0] 40 (0,0))
 b:x.heap[R+1]?=some (.cells #[.slice none 0 0,iV 0] 267 (0,0))
 c:x.heap[R+1+1]?=some (.cells #[iV 0,iV 0] 269 (0,0))
theorem Zba {x y:World} {B:Nat} {o:Obj} (hb:Below x.heap.size x y) (h:x.heap[B]?=some o):y.heap[B]?=some o:=(hb.block B (Array.getElem?_eq_some_iff.1 h).1).trans h
theorem Yhg.below {R:Nat} {x y:World} (h:Yhg R x) (hb:Below x.heap.size x y):Yhg R y:=⟨Zba hb h.a,Zba hb h.b,Zba hb h.c⟩
theorem Zg1 {x:World} {B R:Nat} (hne:B≠R) (u v z:Value):(((x.setCell (aD R 0) u).setCell (aD R 1) v).setCell (aD R 2) z).heap[B]?=x.heap[B]?:=
 (Below.heap_setCell _ (aD R 2) _ _ hne).trans (Zbu hne u v)
structure Pg (A R D:Nat) (p:Option Addr) (s:ASt) (w x:World):Prop where
 o:OB A s w x
 u:Yhg R x
 m0:Zbb A R x
 m1:Zbb A (R+1) x
 m2:Zbb A (R+1+1) x
 d:x.heap[D]?=some (.cells #[.slice p 1 1,iV (-1)] 267 (0,0))
 md:Zbb A D x
 rd:R+1+1<D
 wr:w.heap.size<=R
theorem Pg.Zaq {A R D:Nat} {p:Option Addr} {s s':ASt} {w x y:World} (h:Pg A R D p s w x) (ho:On A s' y) (hg:Zam A x y):Pg A R D p s' w y:=
 {h with o:=h.o.Zaq ho hg,u:=⟨h.m0.at hg h.u.a,h.m1.at hg h.u.b,h.m2.at hg h.u.c⟩,m0:=h.m0.Zaq hg,m1:=h.m1.Zaq hg,m2:=h.m2.Zaq hg,d:=h.md.at hg h.d,md:=h.md.Zaq hg}
theorem Pg.below {A R D:Nat} {p:Option Addr} {s:ASt} {w x y:World} (h:Pg A R D p s w x) (hb:Below x.heap.size x y):Pg A R D p s w y:=h.Zaq (h.o.o.below hb) (Zam.Zad h.o.o hb)
theorem Pg.Yju {A R D:Nat} {p q:Option Addr} {s:ASt} {w x:World} (h:Pg A R D p s w x):Pg A R D q s w ((x.setCell (aD D 0) (.slice q 1 1)).setCell (aD D 1) (iV (-1))):=by
 have hr:=h.rd;have hw:=h.wr
 have o1:=h.o.set h.md (by omega) 0 (.slice q 1 1);have md1:=Zbb.set h.o.o h.md h.md 0 (.slice q 1 1)
 exact{h with
  o:=o1.set md1 (by omega) 1 _
  u:=⟨(Zbu (by omega) _ _).trans h.u.a,(Zbu (by omega) _ _).trans h.u.b,(Zbu (by omega) _ _).trans h.u.c⟩
  m0:=Zbb.set o1.o md1 (Zbb.set h.o.o h.md h.m0 _ _) _ _
  m1:=Zbb.set o1.o md1 (Zbb.set h.o.o h.md h.m1 _ _) _ _
  m2:=Zbb.set o1.o md1 (Zbb.set h.o.o h.md h.m2 _ _) _ _
  d:=Zdf h.d rfl _ _
  md:=Zbb.set o1.o md1 md1 _ _}
theorem Zzi (n:Nat) (hn:n<=4000) (w:World):Calls Tryz.prog 234 #[iV n] w (Yi5 n w):=by
 have L1:Hid (Zhl 1=1):=hid (by decide);have E1:Hid (Zau (Zco 1) 0 1=0):=hid (by decide);have S1:Hid (Zaw (Zco 1) 0 1=Zc9 1 (fun _=>0)):=hid (Zl0 1 1 (by decide) (by decide) (by decide))
 have T1:Hid (Zac (Zc9 1 fun _=>0).L (Zc9 1 fun _=>0).es 10 n=0):=hid (by
  show Zac 1 [0,1] 10 n=0;rw[Zi0 (by omega) (by omega),if_pos (by omega)])
 have HV:Hid (∀pu a k,ofV pu a k 0=.agg #[.pointer pu,iV a,iV k]):=hid fun pu a k=>by unfold ofV;rw[if_pos rfl]
 obtain⟨hsz,hbl⟩:=Zhw w #[.pointer none,iV 0,iV 0] #[.slice none 0 0,iV 0] #[iV 0,iV 0] 40 267 269;obtain⟨q1,q2,q3⟩:=Zfq w #[.pointer none,iV 0,iV 0] #[.slice none 0 0,iV 0] #[iV 0,iV 0] 40 267 269;have HO0:Hid (Yhg w.heap.size _):=hid ⟨q1,q2,q3⟩;have HB0:=hid hbl;have HS0:=hid hsz;clear q1 q2 q3 hsz hbl;go_enter Tryz.func234,Tryz.ntmps234;go_wp2_with fail
 refine(Zh3 1 _).mono ?_
 rintro e w1 ⟨A,rfl,hA,hx,hb,hm⟩;rw[L1.out]at hx;have HX1:Hid (OB A (Zco 1) w w1):=hid ⟨hx,hb.Zhz HB0.out⟩;have HM1:Hid (∀j,j<3->Zbb A (w.heap.size+j) w1):=hid fun j hj=>hm _ (by rw[HS0.out];omega)
 have HO1:=hid (HO0.out.below hb.bel);clear hx hb hm HO0 HB0 hA;go_wp2_with fail
 refine(Zy4 _).mono ?_
 rintro e w2 ⟨b,rfl,hb2,hb⟩;have HX2:=hid (HX1.out.below hb);have HM2:Hid (∀j,j<3->Zbb A (w.heap.size+j) w2):=hid fun j hj=>(HM1.out j hj).Zaq (Zam.Zad HX1.out.o hb)
 have HO2:=hid (HO1.out.below hb);have HB2:=hid hb2;clear hb hb2 HX1 HM1 HO1;go_wp2_with fail;have hD:=Zab w2 (.cells #[.slice (some (aD b 0)) 1 1,iV (-1)] 267);have hmD:=Zbb.new HX2.out.o (.cells #[.slice (some (aD b 0)) 1 1,iV (-1)] 267);have bD:=Zaj w2 (.cells #[.slice (some (aD b 0)) 1 1,iV (-1)] 267);have gD:=Zam.Zad HX2.out.o bD
 have HP2:Hid (Pg A w.heap.size w2.heap.size (some (aD b 0)) (Zco 1) w _):=Lib.hid
  {o:=HX2.out.below bD,u:=HO2.out.below bD,m0:=(HM2.out 0 (by omega)).Zaq gD,m1:=(HM2.out 1 (by omega)).Zaq gD,m2:=(HM2.out 2 (by omega)).Zaq gD,d:=hD,md:=hmD,rd:=(HM2.out 2 (by omega)).lt,wr:=Nat.le_refl _}
 have HB3:=hid (Zba bD HB2.out);clear hD hmD bD gD HX2 HM2 HO2 HB2
 refine(Zd1 HP2.out.o.o 0 1 (by omega)).mono ?_
 rintro e w3 ⟨rfl,hx,hg⟩;rw[E1.out];rw[S1.out]at hx
 have HP3:=hid (HP2.out.Zaq hx hg);have HB4:=hid (hg.Zdn HP2.out.o.o HB3.out (by decide) (by decide) (by decide));clear hx hg HP2 HB3;have c0:=(Zaa HP3.out.d 0).1;have c1:=(Zaa HP3.out.d 1).1
 go_wp2_with fail
 refine(Zoz b _ HB4.out).mono ?_
 rintro e w4 ⟨b2,rfl,hb⟩;have HP4:=hid (HP3.out.below hb);clear hb c0 c1 HP3 HB4;have c0:=(Zaa HP4.out.d 0).1;have c1:=(Zaa HP4.out.d 1).1;have f0:=(Zaa HP4.out.d 0).2;have f1:=(Zaa HP4.out.d 1).2
 go_wp2_with fail;have HP5:=hid (HP4.out.Yju (q:=some (aD b2 0)));clear c0 c1 f0 f1 HP4
 refine(Zgw HP5.out.o.o 10 n (by omega)).mono ?_
 rintro e w5 ⟨rfl,hb⟩;rw[T1.out,HV.out];have HP6:=hid (HP5.out.below hb);clear hb HP5;go_upto_region 5 with fail;have hV:=Zab w5 (.cells #[pT A,iV 10,iV n] 40);have hDV:w2.heap.size<w5.heap.size:=HP6.out.md.lt;have HP7:=hid (HP6.out.below (Zaj w5 (.cells #[pT A,iV 10,iV n] 40)));obtain⟨x,hx⟩:=eX (w5.alloc (.cells #[pT A,iV 10,iV n] 40));obtain⟨V,hVV⟩:=eX w5.heap.size;obtain⟨D,hDD⟩:∃V,w2.heap.size=V:=⟨_,rfl⟩
 obtain⟨R,hRR⟩:∃V,w.heap.size=V:=⟨_,rfl⟩
 rw[hx]at HP7 hV⊢;rw[hVV]at hV hDV⊢;rw[hDD]at HP7 hDV⊢;rw[hRR]at HP7⊢;have HR:=hid hRR;clear hx hVV hDD hRR HP6;have u0:=(Zaa hV 0).1;have u1:=(Zaa hV 1).1;have u2:=(Zaa hV 2).1
 have d0:=(Zaa HP7.out.d 0).1;have d1:=(Zaa HP7.out.d 1).1
 have a0:=(Zaa HP7.out.u.a 0).1;have a1:=(Zaa HP7.out.u.a 1).1;have a2:=(Zaa HP7.out.u.a 2).1
 have b0:=(Zaa HP7.out.u.b 0).1;have b1:=(Zaa HP7.out.u.b 1).1
 have c0:=(Zaa HP7.out.u.c 0).1;have c1:=(Zaa HP7.out.u.c 1).1
 have fa0:=(Zaa HP7.out.u.a 0).2;have fa1:=(Zaa HP7.out.u.a 1).2;have fa2:=(Zaa HP7.out.u.a 2).2
 have fb0:=(Zaa HP7.out.u.b 0).2;have fb1:=(Zaa HP7.out.u.b 1).2
 have fc0:=(Zaa HP7.out.u.c 0).2;have fc1:=(Zaa HP7.out.u.c 1).2
 have hrd:=HP7.out.rd;have n1:¬D=R:=by omega
 have n2:¬D=R+1:=by omega
 have n3:¬D=R+1+1:=by omega
 have n4:¬V=R:=by omega
 have n5:¬V=R+1:=by omega
 have n6:¬V=R+1+1:=by omega
 clear hrd hDV hV
 go_region
 have hR:=HR.out
 have hob:=Ydd [(R,0,pT A),(R,1,iV 10),(R,2,iV n),(R+1,0,.slice (some (aD b2 0)) 1 1),(R+1,1,iV (-1)),(R+1+1,0,iV 10),(R+1+1,1,iV n)] x HP7.out.o (by
  intro e he;simp only[List.mem_cons,List.not_mem_nil,or_false]at he;rcases he with rfl|rfl|rfl|rfl|rfl|rfl|rfl
  · exact⟨HP7.out.m0,by show _<=R;omega⟩
  · exact⟨HP7.out.m0,by show _<=R;omega⟩
  · exact⟨HP7.out.m0,by show _<=R;omega⟩
  · exact⟨HP7.out.m1,by show _<=R+1;omega⟩
  · exact⟨HP7.out.m1,by show _<=R+1;omega⟩
  · exact⟨HP7.out.m2,by show _<=R+1+1;omega⟩
  · exact⟨HP7.out.m2,by show _<=R+1+1;omega⟩)
 have HOB:=hid (hob.below (Below.refl _ _).drew);have y1:=Za8 HP7.out.u.a rfl (pT A) (iV 10) (iV n);have y2:=(Zg1 (x:=x) (B:=R+1) (R:=R) (by omega) (pT A) (iV 10) (iV n)).trans HP7.out.u.b;have y3:=(Zg1 (x:=x) (B:=R+1+1) (R:=R) (by omega) (pT A) (iV 10) (iV n)).trans HP7.out.u.c;obtain⟨x1,hx1⟩:=eX (((x.setCell (aD R 0) (pT A)).setCell (aD R 1) (iV 10)).setCell (aD R 2) (iV n));rw[hx1]at y1 y2 y3;have z1:=(Zbu (x:=x1) (B:=R) (R:=R+1) (by omega) (.slice (some (aD b2 0)) 1 1) (iV (-1))).trans y1;have z2:=Zdf y2 rfl (.slice (some (aD b2 0)) 1 1) (iV (-1));have z3:=(Zbu (x:=x1) (B:=R+1+1) (R:=R+1) (by omega) (.slice (some (aD b2 0)) 1 1) (iV (-1))).trans y3;obtain⟨x2,hx2⟩:=eX ((x1.setCell ⟨R+1,0,none⟩ (.slice (some (aD b2 0)) 1 1)).setCell ⟨R+1,1,none⟩ (iV (-1)));rw[hx2]at z1 z2 z3;have v1:=(Zbu (x:=x2) (B:=R) (R:=R+1+1) (by omega) (iV 10) (iV n)).trans z1;have v2:=(Zbu (x:=x2) (B:=R+1) (R:=R+1+1) (by omega) (iV 10) (iV n)).trans z2;have v3:=Zdf z3 rfl (iV 10) (iV n);have HX12:=hid (And.intro hx1 hx2);have g0:=(Zaa v1 0).1;have g1:=(Zaa v1 1).1;have g2:=(Zaa v1 2).1;have g3:=(Zaa v2 0).1;have g4:=(Zaa v2 1).1;have g5:=(Zaa v3 0).1;have g6:=(Zaa v3 1).1
 clear u0 u1 u2 d0 d1 a0 a1 a2 b0 b1 c0 c1 fa0 fa1 fa2 fb0 fb1 fc0 fc1 hob y1 y2 y3 z1 z2 z3 v1 v2 v3;rw[hx1,hx2];clear hx1 hx2;go_wp2_with fail;exact bodyPost_ret (v:=.tuple #[pT A,vwV A 10 n,Ztu (some (aD b2 0)) 1 1 (-1),dvV n,.bool true]) (by simp[results,Tryz.results234,go_sem,g0,g1,g2,g3,g4,g5,g6]) rfl ⟨A,b2,rfl,by have:=HOB.out;rw[<-HX12.out.2,<-HX12.out.1];exact this⟩
end
section
open Go Go.RowKit Go.Shelf
theorem Zcy {P:Program} {ops:Array Oper} {rest:List Oper} {o:Oper} {a:Act} {w:World} {Q:Exit->Act->World->Prop} (hw:Region.wanted o (yielded ops a.tmps)=true) (ty:TypeId) (x:Operand) (ho:o.op=.load ty x)
 (g:Nat) (hx:a.eval x=pT g) (t:TypeId) (cs:Array Value) (fr:Nat × Nat) (d:TypeDesc) (hg:w.heap[g]?=some (.cells cs t fr))
 (hu:P.underlying ty=some d) (hd:(match d with| .struct _| .array _ _=>true|_=>false)=true) (hi:(P.info? ty).map (·.size)=some cs.size)
 (h:wpList P ops Q rest (a.put o.dst (.agg cs)) w):wpList P ops Q (o::rest) a w:=
 wpList_step fun K hK=>by rw[if_pos hw];exact wp_load_row ty x ho g hx t cs fr d hg hu hd hi (hK _ _ h)
def exF:Nat->Nat:=fP [1,2,8] 3
theorem Yiq:okV [1,2,8]=.tuple #[.agg (recC 3 exF),iV 0]:=rfl
theorem Zn8 (w:World):Calls Tryz.prog 229 #[] w (Zan (.bool true) w):=by
 have HSZ:Hid (∀f,(Tryz.prog.info? 195).map (·.size)=some (recC 3 f).size):=hid (fun f=>by rw[Zay];exact Tryz.Zd3);have F1:Hid (exF 1=1/\exF 2=3/\atF 3 exF 2=3):=hid (by decide);have HX:=hid Yiq;go_enter Tryz.func229,Tryz.ntmps229;go_wp2_with fail
 have hws:Yiy (w.alloc (.cells #[iV 1,iV 2,iV 8] 3)) (some (aD w.heap.size 0)) [1,2,8]:=by
  refine .inr ⟨w.heap.size,0,rfl,by simp,fun i hi=>?_⟩;rw[(Zaa (Zab w _) _).1,Nat.zero_add]
  have:i=0\/i=1\/i=2:=by simp at hi;omega
  rcases this with rfl|rfl|rfl<;>rfl
 refine(Yf9 _ 3 3 [1,2,8] rfl (by omega) (by omega) _ hws).mono ?_
 rintro e w1 ⟨rfl,hb⟩;rw[HX.out];have B1:=hid ((Zaj w (.cells #[iV 1,iV 2,iV 8] 3)).trans (hb.mono (by simp)));clear hws hb
 go_upto_region 2 with(refine wpList_store_row rfl 195 (.tmp 1) (.tmp 11) rfl w1.heap.size (recC 3 exF) rfl rfl 195 Zgg (Zab _ _) (HSZ.out _) (by rw[Zer,Zay]) (Zhe _ _) ?_;simp only[Act.put,List.setIfInBounds_toArray,List.set_cons_zero,List.set_cons_succ])
 obtain⟨y,hy⟩:=eX ((w1.alloc (.cells Zgg 195)).setRow w1.heap.size (recC 3 exF));obtain⟨R1,hR1⟩:∃B,w1.heap.size=B:=⟨_,rfl⟩
 have hv:VR R1 3 exF y:=by unfold VR;rw[<-hy,<-hR1];exact Zby (Zab _ _) _
 have by_:Below w.heap.size w y:=by rw[<-hy];exact below_setRow (B1.out.alloc B1.out.size _) B1.out.size _
 change Code.wp _ _ _ _ ((w1.alloc (.cells Zgg 195)).setRow w1.heap.size (recC 3 exF));rw[hy,hR1];have HV:=hid hv;have BY:=hid by_
 clear hv by_ hy hR1 B1;go_wp2_with fail
 refine(Zzi 20 (by omega) _).mono ?_
 rintro e w2 ⟨A,b,rfl,ho⟩;have HO2:Hid (OB A (Zc9 1 (fun _=>0)) w w2):=hid ⟨ho.o,ho.b.Zhz BY.out⟩;have HV2:=hid (VR.below HV.out ho.b.bel);clear ho HV BY;go_upto_region 3 with fail;obtain⟨q1,q2,q3⟩:=Zfq w2 #[pT A,iV 10,iV 20] #[.slice (some (aD b 0)) 1 1,iV (-1)] #[iV 10,iV 20] 40 267 269;have hb3:=(Zhw w2 #[pT A,iV 10,iV 20] #[.slice (some (aD b 0)) 1 1,iV (-1)] #[iV 10,iV 20] 40 267 269).2;have hrv:RV R1 w2.heap.size 3 exF A 10 20 _:=⟨HV2.out.below hb3,q1⟩;have HOx:=hid (HO2.out.below hb3);obtain⟨x,hx⟩:=eX ((((w2.alloc (.cells #[pT A,iV 10,iV 20] 40)).alloc (.cells #[.slice (some (aD b 0)) 1 1,iV (-1)] 267)).alloc (.cells #[iV 10,iV 20] 269)));obtain⟨V,hV⟩:=eX w2.heap.size;rw[hx]at hrv HOx⊢;rw[hV]at hrv⊢;have HR:=hid hrv;clear hx hV q1 q2 q3 hb3 hrv HV2 HO2;go_wp2_with fail
 refine(Zx3 _).mono ?_
 rintro e w3 ⟨rfl,hb⟩;have HR3:=hid (HR.out.below hb);have HO3:=hid (HOx.out.below hb);clear hb HR HOx
 go_wp2_with (refine Zcy rfl 195 (.tmp 1) rfl R1 rfl 195 (recC 3 exF) (0,0) _ HR3.out.1 Tryz.underlying195 rfl (HSZ.out _) ?_)
 refine(Yd4 3 exF (by omega) 2 _).mono ?_
 rintro e w4 ⟨rfl,hb⟩;rw[F1.out.2.2];have HR4:=hid (HR3.out.below hb);have HO4:=hid (HO3.out.below hb);clear hb HR3 HO3;have c0:=(Zaa HR4.out.2 0).1;have c1:=(Zaa HR4.out.2 1).1;have c2:=(Zaa HR4.out.2 2).1
 go_wp2_with (refine Zcy rfl 195 (.tmp 1) rfl R1 rfl 195 (recC 3 exF) (0,0) _ HR4.out.1 Tryz.underlying195 rfl (HSZ.out _) ?_)
 refine(Zwr 3 exF 10 20 (by omega) 1 (by omega) (by decide) (by decide) (by decide) 65536 (by omega) (by omega) (by decide)).mono ?_
 rintro e w5 ⟨rfl,hb⟩;have HR5:=hid (HR4.out.below hb);have HO5:=hid (HO4.out.below hb);clear hb HR4 HO4 c0 c1 c2;have c0:=(Zaa HR5.out.2 0).1;have c1:=(Zaa HR5.out.2 1).1;have c2:=(Zaa HR5.out.2 2).1
 go_wp2_with (refine Zcy rfl 195 (.tmp 1) rfl R1 rfl 195 (recC 3 exF) (0,0) _ HR5.out.1 Tryz.underlying195 rfl (HSZ.out _) ?_)
 refine(Zpk HO5.out.o 3 exF 10 20 (by omega) (by omega) (by omega) 1 (by omega) (by decide) (by decide) (by decide) 65535 (by omega) (by omega) (by decide)).mono ?_
 rintro e w6 ⟨rfl,hx,hg⟩;have HF:=hid (HO5.out.b.Zaq hg);have hz:Zb9 (Zc9 1 (fun _=>0)).L (Zc9 1 (fun _=>0)).es (Zai 10 20 (exF 1:Nat) (exF (1+1)-exF 1:Nat)) (exF (1+1)-exF 1:Nat)=0:=by decide+kernel
 rw[hz];clear hx hg c0 c1 c2 HR5 HO5 hz;go_wp2_with fail
 go_ret
 exact⟨rfl,HF.out.bel⟩
end
section
open Go Go.RowKit Go.Shelf
section
variable {A:Nat} {s:ASt} {w:World}
theorem Zw5 (h:On A s w) (n:Nat) (f:Nat->Nat) (va vs:Nat) (h1:va<=4294967296) (h2:vs<=4294967296) (hn:n<=32) (k:Nat) (hk:k<n) (hm:f k<=f (k+1)) (hs:f (k+1)<=1000):
 Calls Tryz.prog 194 #[.agg (recC n f),vwV A va vs,iV k] w
  (Zan (.tuple #[.int .u64 (ldV s (Zai va vs (f k:Nat) (f (k+1)-f k:Nat)) (f (k+1)-f k:Nat)),iV (Zb9 s.L s.es (Zai va vs (f k:Nat) (f (k+1)-f k:Nat)) (f (k+1)-f k:Nat))]) w):=by
 have HO:=hid h;have HH:Hid (Yaf n k=true):=hid (decide_eq_true ⟨by omega,by omega⟩);have HV:=hid (Zmz n f A va vs w);have HZ:Hid ((Tryz.prog.info? 195).map (·.size)=some (recC n f).size):=hid (by rw[Zay];exact Tryz.Zd3);clear h;go_enter Tryz.func194,Tryz.ntmps194
 go_wp2_with (refine wpList_load_row rfl 195 (.tmp 3) rfl w.heap.size rfl 195 (recC n f) (0,0) _ HV.out.1 Tryz.underlying195 rfl HZ.out ?_)
 refine(Zg4 n f k _).mono ?_
 rintro e w1 ⟨rfl,hb⟩;rw[HH.out];have B2:=hid ((Zbm w (.cells (recC n f) 195) (.cells #[pT A,iV va,iV vs] 40)).trans (hb.mono (by simp;omega)));have HV2:=HV.out.below hb;clear hb HV;go_wp2_with fail;obtain⟨B,hB⟩:=eX w.heap.size;obtain⟨V,hVV⟩:=eX (B+1);rw[hB]at HV2⊢;rw[hVV]at HV2⊢;clear hB hVV;have hu:=Tryz.underlying195;have hi:(Tryz.prog.info? 195).map (·.size)=some (recC n f).toList.length:=by rw[Array.length_toList];exact HZ.out
 have i0:0<=(k:Int):=by omega
 have i1:(k:Int)<33:=by omega
 refine wp_region_held_drew (S:=(fun x=>x.cell? (aD V 0)=some (pT A)/\x.cell? (aD V 1)=some (iV va)/\x.cell? (aD V 2)=some (iV vs)/\x.cell? (aD B (1+k))=some (iV ((f k:Nat):Int))/\x.rangeAt B 0 (recC n f).toList/\RV B V n f A va vs x)) (by kernel_rfl) ((HV2.below (Below.refl _ _).drew).all k (by omega)) (fun hHeld=>?_);refine tk 0 (.agg #[pT A,iV va,iV vs]) rfl hHeld (fun X hS=>by obtain⟨s1,s2,s3,s4,_,_⟩:=hS;go_simp) ?_;refine tk 1 (iV k) rfl hHeld (fun X hS=>by obtain⟨s1,s2,s3,s4,_,_⟩:=hS;go_simp) ?_;refine tk 2 (.pointer (some (aD B 1))) rfl hHeld (fun X hS=>by obtain⟨s1,s2,s3,s4,_,_⟩:=hS;go_simp) ?_;refine tk 3 (.pointer (some (aD B (1+k)))) rfl hHeld (fun X hS=>by obtain⟨s1,s2,s3,s4,_,_⟩:=hS;go_simp) ?_;refine tk 4 (iV ((f k:Nat):Int)) rfl hHeld (fun X hS=>by obtain⟨s1,s2,s3,s4,_,_⟩:=hS;go_simp) ?_;refine wpAnyH_take (i:=5) (v:=.agg (recC n f)) rfl (by kernel_rfl) (by kernel_rfl) (by kernel_rfl) (fun _ _ _ h=>h) (yieldsIf_load_mid (by rfl) 195 (.tmp 3) rfl B 0 rfl (recC n f).toList _ (fun X hS=>hS.2.2.2.2.1) hu rfl hi) hHeld ?_
 try simp only[Act.put,apu]
 refine tk 6 (iV k) rfl hHeld (fun X hS=>by obtain⟨s1,s2,s3,s4,_,_⟩:=hS;go_simp) ?_;refine wpAnyH_ready (rs:=[7]) (by kernel_rfl) (by simp) ?_;refine AllReadyH.cons rfl (fun K hK=>?_) AllReadyH.nil;go_simp
 refine(Zhp n f hn k hk hm hs _).mono ?_
 rintro e x1 ⟨rfl,hb1⟩;have b1:=(B2.out.trans ((Below.refl _ _).drew.mono B2.out.size)).trans (hb1.mono (B2.out.trans ((Below.refl _ _).drew.mono B2.out.size)).size);have k1:=((HV2.below (Below.refl _ _).drew).below hb1).all k (by omega);refine hK.out _ _ k1 (fun hHeld=>?_);clear hK
 try simp only[Act.put,apu]
 refine wpAnyH_ready (rs:=[8]) (by kernel_rfl) (by simp) ?_;refine AllReadyH.cons rfl (fun K hK=>?_) AllReadyH.nil;go_simp
 refine(Zfw (HO.out.below b1) va vs h1 h2 (f k:Nat) (f (k+1)-f k:Nat) (by omega)).mono ?_
 rintro e x2 ⟨rfl,hb2⟩;have b2:=b1.trans (hb2.mono b1.size);have k2:=(k1.2.2.2.2.2.below hb2).all k (by omega);refine hK.out _ _ k2 (fun hHeld=>?_);clear hK;generalize ldV s (Zai va vs (f k:Nat) (f (k+1)-f k:Nat)) (f (k+1)-f k:Nat)=LVV at*
 generalize Zb9 s.L s.es (Zai va vs (f k:Nat) (f (k+1)-f k:Nat)) (f (k+1)-f k:Nat)=NEE at*
 try simp only[Act.put,apu]
 refine tk 9 (.int .u64 LVV) rfl hHeld (fun X hS=>by obtain⟨s1,s2,s3,s4,_,_⟩:=hS;go_simp) ?_;refine tk 10 (iV NEE) rfl hHeld (fun X hS=>by obtain⟨s1,s2,s3,s4,_,_⟩:=hS;go_simp) ?_;refine tk 11 (.int .u64 LVV) rfl hHeld (fun X hS=>by obtain⟨s1,s2,s3,s4,_,_⟩:=hS;go_simp) ?_;refine tk 12 (iV NEE) rfl hHeld (fun X hS=>by obtain⟨s1,s2,s3,s4,_,_⟩:=hS;go_simp) ?_;refine wpAnyH_done (by kernel_rfl) ?_ _;have HF:=hid b2;clear HV2 k1 k2 b1 b2;go_wp2_with fail
 go_ret2
 exact⟨rfl,HF.out⟩
end
end
section
open Go Go.RowKit Go.Shelf
def Yjm (w:World) (p:Option Addr) (xs:List Int):Prop:=
 xs.length=0\/∃b off,p=some (aD b off)/\b<w.heap.size/\∀i,i<xs.length->w.cell? (aD b (off+i))=some (.int .u64 (xs.getD i 0))
structure Rec (n:Nat) (f:Nat->Nat):Prop where
 n32:n<=32
 f0:f 0=0
 mono:∀k,k<n->f k<=f (k+1)
 wide:∀k,k<n->f (k+1)-f k<=8
 whole:∀k,k<n->Za6 ((f (k+1)-f k:Nat):Int)=true
theorem Rec.le {n:Nat} {f:Nat->Nat} (h:Rec n f) {j k:Nat} (hjk:j<=k) (hk:k<=n):f j<=f k:=by
 induction k with
 |zero=>obtain rfl:j=0:=by omega
        exact Nat.le_refl _
 |succ k ih=>
  by_cases e:j=k+1
  · subst e;exact Nat.le_refl _
  · exact Nat.le_trans (ih (by omega) (by omega)) (h.mono k (by omega))
theorem Rec.small {n:Nat} {f:Nat->Nat} (h:Rec n f) {k:Nat} (hk:k<=n):f k<=8*k:=by
 induction k with
 |zero=>rw[h.f0];omega
 |succ k ih=>have:=ih (by omega);have:=h.wide k (by omega);have:=h.mono k (by omega);omega
def Zqh (m:Nat->UInt8) (an:Nat) (f:Nat->Nat) (xs:List Int):Nat->(Nat->UInt8)
 |0=>m
 |j+1=>Zb8 (Zqh m an f xs j) (an+f j) (Zfk (xs.getD j 0) (f (j+1)-f j))
section
variable {A:Nat} {s:ASt} {w:World}
def Zru (f:Nat->Nat) (xs:List Int) (j:Nat):Prop:=∀k,k<j->Zv3 (xs.getD k 0) (f (k+1)-f k)=false
end
end
section
open Go Go.RowKit Go.Shelf
def RVS (B V n:Nat) (f:Nat->Nat) (A va vs:Nat) (w x:World):Prop:=
 x.cell? (aD V 0)=some (pT A)/\x.cell? (aD V 1)=some (iV va)/\x.cell? (aD V 2)=some (iV vs)/\x.rangeAt B 0 (recC n f).toList/\RV B V n f A va vs x/\Below w.heap.size w x
theorem Zhx {B V n:Nat} {f:Nat->Nat} {A va vs:Nat} {w x:World} (h:RV B V n f A va vs x) (hb:Below w.heap.size w x):RVS B V n f A va vs w x:=
 ⟨(Zaa h.2 0).1,(Zaa h.2 1).1,(Zaa h.2 2).1,h.1.range,h,hb⟩
theorem Za9 {B V n:Nat} {f:Nat->Nat} {A va vs:Nat} {w x y:World} (h:RVS B V n f A va vs w x) (hb:Below x.heap.size x y):RVS B V n f A va vs w y:=
 Zhx (h.2.2.2.2.1.below hb) (h.2.2.2.2.2.trans (hb.mono h.2.2.2.2.2.size))
theorem Zp8 {B V n:Nat} {f:Nat->Nat} {A va vs:Nat} {w x:World} (h:RVS B V n f A va vs w x):B≠x.heap.size/\V≠x.heap.size:=by
 have h1:=(Array.getElem?_eq_some_iff.1 h.2.2.2.2.1.1).1;have h2:=(Array.getElem?_eq_some_iff.1 h.2.2.2.2.1.2).1;omega
theorem Zk7 {B V n:Nat} {f:Nat->Nat} {A va vs:Nat} {w x:World} (h:RVS B V n f A va vs w x) {R:Nat} (hne:B≠R/\V≠R) (u v z:Value) (hR:w.heap.size<=R):RVS B V n f A va vs w (((x.setCell (aD R 0) u).setCell (aD R 1) v).setCell (aD R 2) z):=
 Zhx ⟨(Zg1 hne.1 u v z).trans h.2.2.2.2.1.1,(Zg1 hne.2 u v z).trans h.2.2.2.2.1.2⟩ (((h.2.2.2.2.2.setCell (p:=(aD R 0)) hR u).setCell (p:=(aD R 1)) hR v).setCell (p:=(aD R 2)) hR z)
section
variable {A:Nat} {s:ASt} {w:World}
theorem Zw0 (h:On A s w) (n:Nat) (f:Nat->Nat) (hr:Rec n f) (va vs:Nat) (h1_:va<=4294967296) (h2_:vs<=4294967296) (p:Option Addr) (c:Nat) (xs:List Int) (hx:xs.length=n) (hxs:Yjm w p xs) (hb:∀k,k<n->0<=xs.getD k 0/\xs.getD k 0<18446744073709551616) (hsh:Zru f xs n)
 (hown:∀b off,p=some (aD b off)->¬Zpx A w b) (an:Nat) (han:Zai va vs 0 (f n:Nat)=an) (he:Zac s.L s.es (Zai va vs 0 (f n:Nat)) (f n:Nat)=0):
 Calls Tryz.prog 158 #[.agg (recC n f),vwV A va vs,.slice p n c] w (Ret A {s with mm:=Zqh s.mm an f xs n} (iV 0) w):=by
 have HV:=hid (Zmz n f A va vs w);have c0:=HV.out.1.n;have d1:((n:Int) !=(n:Int))=false:=by simp
 have hn32:=hr.n32;have HO:=hid h;rw[han]at he
 have han32:an<=4294967296:=by
  have hh:=(Zax h.Zch an (f n:Nat)).1 (by unfold Zac at he;cases hq:Zbd s.L s.es an (f n:Nat)with
   |true=>rfl
   |false=>rw[hq]at he;cases he)
  have:=h.Zch.small
  omega
 have HOW:=hid hown
 have HST:Hid (∀j,j<n->Zbx {s with mm:=Zqh s.mm an f xs j} (Zai an (f n) (f j:Nat) (f (j+1)-f j:Nat)) (f (j+1)-f j:Nat) (xs.getD j 0)={s with mm:=Zqh s.mm an f xs (j+1)}/\Zb9 s.L s.es (Zai an (f n) (f j:Nat) (f (j+1)-f j:Nat)) (f (j+1)-f j:Nat)=0):=hid (fun j hj=>by
  have hle:=hr.le (show j+1<=n by omega) (Nat.le_refl n);have hmo:=hr.mono j hj;have ha:Zai an (f n) (f j:Nat) (f (j+1)-f j:Nat)=((an+f j:Nat):Int):=by unfold Zai;rw[if_pos (by omega)];omega
  have hnu:Zb9 s.L s.es ((an+f j:Nat):Int) (f (j+1)-f j:Nat)=0:=by
   unfold Zb9;rw[hr.whole j hj,if_pos rfl];exact Zbn h.Zch he (by omega) (by omega) (by omega)
  rw[ha]
  refine⟨?_,hnu⟩
  unfold Zbx;rw[show Zb9 ({s with mm:=Zqh s.mm an f xs j}:ASt).L ({s with mm:=Zqh s.mm an f xs j}:ASt).es ((an+f j:Nat):Int) (f (j+1)-f j:Nat)=0 from hnu,if_pos rfl,Int.toNat_natCast,Int.toNat_natCast]
  rfl)
 have HA:=hid han;have HE:=hid he
 have HVO:Hid (∀pu a k,ofV pu a k 0=.agg #[.pointer pu,iV a,iV k]):=hid fun pu a k=>by unfold ofV;rw[if_pos rfl]
 have HZ:Hid ((Tryz.prog.info? 195).map (·.size)=some (recC n f).size):=hid (by rw[Zay];exact Tryz.Zd3);have hu:=Tryz.underlying195;have hi:(Tryz.prog.info? 195).map (·.size)=some (recC n f).toList.length:=by rw[Array.length_toList];exact HZ.out
 have HR:=hid hr;have HX:=hid hx;have HXS:=hid hxs;have HB:=hid hb;have HSH:=hid hsh
 have HW:=hid (Zbm w (.cells (recC n f) 195) (.cells #[pT A,iV va,iV vs] 40));clear hr hx hxs hb hsh h han he hown;go_enter Tryz.func158,Tryz.ntmps158;go_wp2_with fail;obtain⟨y,hy⟩:=eX ((w.alloc (.cells (recC n f) 195)).alloc (.cells #[pT A,iV va,iV vs] 40));obtain⟨B,hB⟩:=eX w.heap.size;obtain⟨V,hVV⟩:=eX (B+1);rw[hy]at HV HW c0⊢;rw[hB]at HV c0⊢;rw[hVV]at HV⊢;clear hy hB c0 hVV
 go_loopw[21] (fun v wr=>∃j:Nat,j<=n/\v=iV j/\RV B V n f A va vs wr/\Below w.heap.size w wr) (fun v _=>n-(intOf v).toNat)
 case atStart=>exact⟨0,Nat.zero_le _,rfl,HV.out,HW.out⟩
 case round=>
  obtain⟨j,hj,rfl,hv,hbw⟩:=hrel;have HVJ:=hid hv;have HBJ:=hid hbw
  clear hv hbw HV HW;by_cases hlt:j<n
  · obtain⟨b,off,rfl,hlt0,hc⟩:∃b off,p=some (aD b off)/\b<w.heap.size/\∀i,i<xs.length->w.cell? (aD b (off+i))=some (.int .u64 (xs.getD i 0)):=by
     rcases HXS.out with h|h
     · have:=HX.out;omega
     · exact h
    have hcj:wr.cell? (aD b (off+j))=some (.int .u64 (xs.getD j 0)):=(HBJ.out.cell (p:=(aD b (off+j))) hlt0).trans (hc j (by have:=HX.out;omega));have hbd:=HB.out j hlt;obtain⟨hb0,hb1⟩:=hbd;have HAJ:=hid (HSH.out j hlt);generalize xs.getD j 0=g at*
    clear hc
    go_wp2_with (refine wpList_load_row rfl 195 (.tmp 3) rfl B rfl 195 (recC n f) (0,0) _ HVJ.out.1 Tryz.underlying195 rfl HZ.out ?_)
    refine(Zjw n f hn32 j hlt (HR.out.mono j hlt) (by have:=HR.out.small (k:=j+1) (by omega);omega) (HR.out.wide j hlt) g hb0 hb1 _).mono ?_
    rintro e w2 ⟨rfl,hb⟩;rw[HAJ.out];have HV2:=hid (HVJ.out.below hb);have HB2:=hid (HBJ.out.trans (hb.mono HBJ.out.size));clear hb hcj HAJ;go_wp2_with fail;go_roundw
    case rel=>exact⟨j+1,by omega,by go_num,HV2.out,HB2.out⟩
    case measure=>simp[intOf];omega
  · clear hj
    go_wp2_with fail;refine wp_region_held_drew (S:=RVS B V n f A va vs w) (by kernel_rfl) (Zhx (RV.below HVJ.out (Below.refl _ _).drew) HBJ.out.drew) (fun hHeld=>?_);refine tk 0 (.agg #[pT A,iV va,iV vs]) rfl hHeld (fun X hS=>by obtain⟨s1,s2,s3,_,_,_⟩:=hS;go_simp) ?_;refine wpAnyH_take (i:=1) (v:=.agg (recC n f)) rfl (by kernel_rfl) (by kernel_rfl) (by kernel_rfl) (fun _ _ _ h=>h) (yieldsIf_load_mid (by rfl) 195 (.tmp 3) rfl B 0 rfl (recC n f).toList _ (fun X hS=>hS.2.2.2.1) hu rfl hi) hHeld ?_
    try simp only[Act.put,apu]
    refine wpAnyH_ready (rs:=[2,7]) (by kernel_rfl) (by simp) ?_
    refine(AllReadyH.cons rfl (fun K hK=>?_) (AllReadyH.cons rfl (fun K hK=>?_) AllReadyH.nil))
    · go_simp
      refine(Zg2 n f hn32 _).mono ?_
      rintro e x1 ⟨rfl,hb1⟩;have h1:=Za9 hHeld hb1;clear hHeld;refine hK.out _ _ h1 (fun hHeld=>?_);clear hK h1
      try simp only[Act.put,apu]
      refine wpAnyH_ready (rs:=[3,7]) (by kernel_rfl) (by simp) ?_
      refine(AllReadyH.cons rfl (fun K hK=>?_) (AllReadyH.cons rfl (fun K hK=>?_) AllReadyH.nil))
      focus
       go_simp
       refine(Zcl (HO.out.below hHeld.2.2.2.2.2) va vs h1_ h2_ 0 ((f n:Nat):Int) (by omega)).mono ?_
       rintro e x2 ⟨rfl,hb2⟩;rw[HA.out,HE.out,HVO.out];have h1:=Za9 hHeld hb2;refine hK.out _ _ h1 (fun hHeld2=>?_);clear hK h1
       try simp only[Act.put,apu]
       have hHeld3:=hHeld2;clear hHeld;have hHeld:=hHeld3;clear hHeld2 hHeld3;refine tk 4 (.tuple #[.agg #[pT A,iV an,iV ((f n:Nat):Int)],iV 0]) rfl hHeld (fun X hS=>by obtain⟨s1,s2,s3,_,_,_⟩:=hS;go_simp) ?_;refine tk 5 (.agg #[pT A,iV an,iV ((f n:Nat):Int)]) rfl hHeld (fun X hS=>by obtain⟨s1,s2,s3,_,_,_⟩:=hS;go_simp) ?_;refine tk 6 (iV 0) rfl hHeld (fun X hS=>by obtain⟨s1,s2,s3,_,_,_⟩:=hS;go_simp) ?_;refine wpAnyH_ready (rs:=[7]) (by kernel_rfl) (by simp) ?_
       refine(AllReadyH.cons rfl (fun K hK=>?_) AllReadyH.nil)
       go_simp;refine hK.out _ _ (Za9 hHeld (Zaj _ _)) (fun hHeld2=>?_);clear hK
       try simp only[Act.put,apu]
       refine wpAnyH_ready (rs:=[8]) (by kernel_rfl) (by simp) ?_
       refine(AllReadyH.cons rfl (fun K hK=>?_) AllReadyH.nil)
       go_simp;have hF:=Za9 hHeld (Zaj x2 (.cells #[pT A,iV an,iV ((f n:Nat):Int)] 40));refine hK.out _ _ hF (fun hHeld3=>?_);clear hK hHeld2
       try simp only[Act.put,apu]
       have VC9:VC x2.heap.size (some (aD A 0)) an (f n) (x2.alloc (.cells #[pT A,iV an,iV ((f n:Nat):Int)] 40)):=Zab _ _;clear hHeld;have hHeld:=hHeld3;clear hHeld3 hF;refine tk 9 (iV 0) rfl hHeld (fun X hS=>by obtain⟨s1,s2,s3,_,_,_⟩:=hS;go_simp) ?_;refine wpAnyH_done (by kernel_rfl) ?_ _;obtain⟨wF,hwF⟩:∃x,x2.alloc (.cells #[pT A,iV an,iV ((f n:Nat):Int)] 40)=x:=⟨_,rfl⟩
       obtain⟨R,hRR⟩:∃x,x2.heap.size=x:=⟨_,rfl⟩
       rw[hwF]at VC9 hHeld⊢;rw[hRR]at VC9⊢;clear hwF hRR
      rotate_left
      focus
       go_simp;have hR:=Zab x1 (.cells #[.pointer none,iV 0,iV 0] 40);have hne:B≠x1.heap.size/\V≠x1.heap.size:=Zp8 hHeld;have hRw:w.heap.size<=x1.heap.size:=hHeld.2.2.2.2.2.size;have h1:=Za9 hHeld (Zaj x1 (.cells #[.pointer none,iV 0,iV 0] 40));clear hHeld;refine hK.out _ _ h1 (fun hHeld=>?_);clear hK h1
       try simp only[Act.put,apu]
       refine wpAnyH_ready (rs:=[3]) (by kernel_rfl) (by simp) ?_
       refine(AllReadyH.cons rfl (fun K hK=>?_) AllReadyH.nil)
       go_simp
       refine(Zcl (HO.out.below hHeld.2.2.2.2.2) va vs h1_ h2_ 0 ((f n:Nat):Int) (by omega)).mono ?_
       rintro e x2 ⟨rfl,hb2⟩;rw[HA.out,HE.out,HVO.out];have h1:=Za9 hHeld hb2;refine hK.out _ _ h1 (fun hHeld2=>?_);clear hK h1
       try simp only[Act.put,apu]
       have hR2:=(hb2.block _ (Array.getElem?_eq_some_iff.1 hR).1).trans hR;clear hR;obtain⟨R,hRR⟩:∃x,x1.heap.size=x:=⟨_,rfl⟩
       rw[hRR]at hR2 hne hRw⊢;clear hRR;have hHeld3:=hHeld2;clear hHeld;have hHeld:=hHeld3;clear hHeld2 hHeld3;refine tk 4 (.tuple #[.agg #[pT A,iV an,iV ((f n:Nat):Int)],iV 0]) rfl hHeld (fun X hS=>by obtain⟨s1,s2,s3,_,_,_⟩:=hS;go_simp) ?_;refine tk 5 (.agg #[pT A,iV an,iV ((f n:Nat):Int)]) rfl hHeld (fun X hS=>by obtain⟨s1,s2,s3,_,_,_⟩:=hS;go_simp) ?_;refine tk 6 (iV 0) rfl hHeld (fun X hS=>by obtain⟨s1,s2,s3,_,_,_⟩:=hS;go_simp) ?_;refine wpAnyH_ready (rs:=[8]) (by kernel_rfl) (by simp) ?_
       refine(AllReadyH.cons rfl (fun K hK=>?_) AllReadyH.nil)
       have r0:=(Zaa hR2 0).1;have r1:=(Zaa hR2 1).1;have r2:=(Zaa hR2 2).1;have f0:=(Zaa hR2 0).2;have f1:=(Zaa hR2 1).2;have f2:=(Zaa hR2 2).2
       have HR2:=hid hR2;clear hR2;go_simp;have hF:=Zk7 hHeld hne (pT A) (iV an) (iV ((f n:Nat):Int)) hRw;refine hK.out _ _ hF (fun hHeld3=>?_);clear hK r0 r1 r2 f0 f1 f2
       try simp only[Act.put,apu]
       have VC9:VC R (some (aD A 0)) an (f n) _:=Za8 HR2.out rfl (pT A) (iV an) (iV ((f n:Nat):Int));clear hHeld;have hHeld:=hHeld3;clear hHeld3 hF;refine tk 9 (iV 0) rfl hHeld (fun X hS=>by obtain⟨s1,s2,s3,_,_,_⟩:=hS;go_simp) ?_;refine wpAnyH_done (by kernel_rfl) ?_ _;obtain⟨wF,hwF⟩:∃x,(((x2.setCell (aD R 0) (pT A)).setCell (aD R 1) (iV an)).setCell (aD R 2) (iV ((f n:Nat):Int)))=x:=⟨_,rfl⟩
       rw[hwF]at VC9 hHeld⊢;clear hwF
      all_goals
       have HRV:=hid hHeld.2.2.2.2.1;have HVC:=hid VC9;have HBF:=hid hHeld.2.2.2.2.2
       clear hHeld VC9;have HON:=hid (HO.out.below HBF.out);have HWN:=hid (Zam.Zad HO.out HBF.out)
       go_wp2_with fail
       go_loopw[43] (fun v wr2=>∃j:Nat,j<=n/\v=iV j/\On A {s with mm:=Zqh s.mm an f xs j} wr2/\RV B V n f A va vs wr2/\VC R (some (aD A 0)) an (f n) wr2/\Zam A w wr2) (fun v _=>n-(intOf v).toNat)
       case atStart=>exact⟨0,Nat.zero_le _,rfl,HON.out,HRV.out,HVC.out,HWN.out⟩
       case round=>
        obtain⟨j,hj,rfl,ho,hv,hvc,hg⟩:=hrel;have HOJ:=hid ho;have HV2:=hid hv;have HC2:=hid hvc;have HG2:=hid hg
        clear ho hv hvc hg HON HRV HVC HBF HWN;by_cases hlt:j<n
        · obtain⟨b,off,rfl,hlt0,hc⟩:∃b off,p=some (aD b off)/\b<w.heap.size/\∀i,i<xs.length->w.cell? (aD b (off+i))=some (.int .u64 (xs.getD i 0)):=by
           rcases HXS.out with h|h
           · have:=HX.out;omega
           · exact h
          have hcj:wr.cell? (aD b (off+j))=some (.int .u64 (xs.getD j 0)):=by
           have h2:=hc j (by have:=HX.out;omega);unfold World.cell? at h2⊢;rw[HG2.out.block b hlt0 (HOW.out b off rfl)];exact h2
          have hbd:=HB.out j hlt;obtain⟨hb0,hb1⟩:=hbd;have HSJ:=hid (HST.out j hlt);have HAJ:=hid (HSH.out j hlt);generalize xs.getD j 0=g at*
          clear hc;have c0:=(Zaa HC2.out 0).1;have c1:=(Zaa HC2.out 1).1;have c2:=(Zaa HC2.out 2).1
          go_wp2_with (refine wpList_load_row rfl 195 (.tmp 3) rfl B rfl 195 (recC n f) (0,0) _ HV2.out.1 Tryz.underlying195 rfl HZ.out ?_)
          refine(Zpk HOJ.out n f an (f n) han32 (by have:=HR.out.small (k:=n) (Nat.le_refl _);omega) hn32 j hlt (HR.out.mono j hlt) (by have:=HR.out.small (k:=j+1) (by omega);omega) (HR.out.wide j hlt) g hb0 hb1 HAJ.out).mono ?_
          rintro e w3 ⟨rfl,hx3,hg3⟩;rw[HSJ.out.1]at hx3;rw[HSJ.out.2];have HX3:=hid hx3;have HV3:=hid (HV2.out.Zaq HOJ.out hg3);have HC3:=hid (hg3.Zdn HOJ.out HC2.out (by decide) (by decide) (by decide));have HG3:=hid (HG2.out.trans hg3);clear hx3 hg3 c0 c1 c2 hcj;go_wp2_with fail;go_roundw
          case rel=>exact⟨j+1,by omega,by go_num,HX3.out,HV3.out,HC3.out,HG3.out⟩
          case measure=>simp[intOf];omega
        · obtain rfl:j=n:=by omega
          go_wp2_with fail
          go_ret
          exact⟨rfl,HOJ.out,HG2.out⟩
    · go_simp
      have hR:=Zab wr (.cells #[.pointer none,iV 0,iV 0] 40);have hne:B≠wr.heap.size/\V≠wr.heap.size:=Zp8 (Zhx HVJ.out HBJ.out);have hRw:w.heap.size<=wr.heap.size:=HBJ.out.size;have h1:=Za9 (Zhx HVJ.out HBJ.out) ((Zaj wr (.cells #[.pointer none,iV 0,iV 0] 40)).drew);clear hHeld;refine hK.out _ _ h1 (fun hHeld=>?_);clear hK h1
      try simp only[Act.put,apu]
      refine wpAnyH_ready (rs:=[2]) (by kernel_rfl) (by simp) ?_
      refine(AllReadyH.cons rfl (fun K hK=>?_) AllReadyH.nil)
      go_simp
      refine(Zg2 n f hn32 _).mono ?_
      rintro e x1 ⟨rfl,hb1⟩;have h1:=Za9 hHeld hb1;clear hHeld;refine hK.out _ _ h1 (fun hHeld=>?_);clear hK h1
      try simp only[Act.put,apu]
      have hR1:=(hb1.block wr.heap.size (by simp)).trans hR;clear hR;refine wpAnyH_ready (rs:=[3]) (by kernel_rfl) (by simp) ?_
      refine(AllReadyH.cons rfl (fun K hK=>?_) AllReadyH.nil)
      go_simp
      refine(Zcl (HO.out.below hHeld.2.2.2.2.2) va vs h1_ h2_ 0 ((f n:Nat):Int) (by omega)).mono ?_
      rintro e x2 ⟨rfl,hb2⟩;rw[HA.out,HE.out,HVO.out];have h1:=Za9 hHeld hb2;refine hK.out _ _ h1 (fun hHeld2=>?_);clear hK h1
      try simp only[Act.put,apu]
      have hR2:=(hb2.block _ (Array.getElem?_eq_some_iff.1 hR1).1).trans hR1;clear hR1;obtain⟨R,hRR⟩:∃x,wr.heap.size=x:=⟨_,rfl⟩
      rw[hRR]at hR2 hne hRw⊢;clear hRR;have hHeld3:=hHeld2;clear hHeld;have hHeld:=hHeld3;clear hHeld2 hHeld3;refine tk 4 (.tuple #[.agg #[pT A,iV an,iV ((f n:Nat):Int)],iV 0]) rfl hHeld (fun X hS=>by obtain⟨s1,s2,s3,_,_,_⟩:=hS;go_simp) ?_;refine tk 5 (.agg #[pT A,iV an,iV ((f n:Nat):Int)]) rfl hHeld (fun X hS=>by obtain⟨s1,s2,s3,_,_,_⟩:=hS;go_simp) ?_;refine tk 6 (iV 0) rfl hHeld (fun X hS=>by obtain⟨s1,s2,s3,_,_,_⟩:=hS;go_simp) ?_;refine wpAnyH_ready (rs:=[8]) (by kernel_rfl) (by simp) ?_
      refine(AllReadyH.cons rfl (fun K hK=>?_) AllReadyH.nil)
      have r0:=(Zaa hR2 0).1;have r1:=(Zaa hR2 1).1;have r2:=(Zaa hR2 2).1;have f0:=(Zaa hR2 0).2;have f1:=(Zaa hR2 1).2;have f2:=(Zaa hR2 2).2
      have HR2:=hid hR2;clear hR2;go_simp;have hF:=Zk7 hHeld hne (pT A) (iV an) (iV ((f n:Nat):Int)) hRw;refine hK.out _ _ hF (fun hHeld3=>?_);clear hK r0 r1 r2 f0 f1 f2
      try simp only[Act.put,apu]
      have VC9:VC R (some (aD A 0)) an (f n) _:=Za8 HR2.out rfl (pT A) (iV an) (iV ((f n:Nat):Int));clear hHeld;have hHeld:=hHeld3;clear hHeld3 hF;refine tk 9 (iV 0) rfl hHeld (fun X hS=>by obtain⟨s1,s2,s3,_,_,_⟩:=hS;go_simp) ?_;refine wpAnyH_done (by kernel_rfl) ?_ _;obtain⟨wF,hwF⟩:∃x,(((x2.setCell (aD R 0) (pT A)).setCell (aD R 1) (iV an)).setCell (aD R 2) (iV ((f n:Nat):Int)))=x:=⟨_,rfl⟩
      rw[hwF]at VC9 hHeld⊢;clear hwF;have HRV:=hid hHeld.2.2.2.2.1;have HVC:=hid VC9;have HBF:=hid hHeld.2.2.2.2.2
      clear hHeld VC9;have HON:=hid (HO.out.below HBF.out);have HWN:=hid (Zam.Zad HO.out HBF.out)
      go_wp2_with fail
      go_loopw[43] (fun v wr2=>∃j:Nat,j<=n/\v=iV j/\On A {s with mm:=Zqh s.mm an f xs j} wr2/\RV B V n f A va vs wr2/\VC R (some (aD A 0)) an (f n) wr2/\Zam A w wr2) (fun v _=>n-(intOf v).toNat)
      case atStart=>exact⟨0,Nat.zero_le _,rfl,HON.out,HRV.out,HVC.out,HWN.out⟩
      case round=>
       obtain⟨j,hj,rfl,ho,hv,hvc,hg⟩:=hrel;have HOJ:=hid ho;have HV2:=hid hv;have HC2:=hid hvc;have HG2:=hid hg
       clear ho hv hvc hg HON HRV HVC HBF HWN;by_cases hlt:j<n
       · obtain⟨b,off,rfl,hlt0,hc⟩:∃b off,p=some (aD b off)/\b<w.heap.size/\∀i,i<xs.length->w.cell? (aD b (off+i))=some (.int .u64 (xs.getD i 0)):=by
          rcases HXS.out with h|h
          · have:=HX.out;omega
          · exact h
         have hcj:wr.cell? (aD b (off+j))=some (.int .u64 (xs.getD j 0)):=by
          have h2:=hc j (by have:=HX.out;omega);unfold World.cell? at h2⊢;rw[HG2.out.block b hlt0 (HOW.out b off rfl)];exact h2
         have hbd:=HB.out j hlt;obtain⟨hb0,hb1⟩:=hbd;have HSJ:=hid (HST.out j hlt);have HAJ:=hid (HSH.out j hlt);generalize xs.getD j 0=g at*
         clear hc;have c0:=(Zaa HC2.out 0).1;have c1:=(Zaa HC2.out 1).1;have c2:=(Zaa HC2.out 2).1
         go_wp2_with (refine wpList_load_row rfl 195 (.tmp 3) rfl B rfl 195 (recC n f) (0,0) _ HV2.out.1 Tryz.underlying195 rfl HZ.out ?_)
         refine(Zpk HOJ.out n f an (f n) han32 (by have:=HR.out.small (k:=n) (Nat.le_refl _);omega) hn32 j hlt (HR.out.mono j hlt) (by have:=HR.out.small (k:=j+1) (by omega);omega) (HR.out.wide j hlt) g hb0 hb1 HAJ.out).mono ?_
         rintro e w3 ⟨rfl,hx3,hg3⟩;rw[HSJ.out.1]at hx3;rw[HSJ.out.2];have HX3:=hid hx3;have HV3:=hid (HV2.out.Zaq HOJ.out hg3);have HC3:=hid (hg3.Zdn HOJ.out HC2.out (by decide) (by decide) (by decide));have HG3:=hid (HG2.out.trans hg3);clear hx3 hg3 c0 c1 c2 hcj;go_wp2_with fail;go_roundw
         case rel=>exact⟨j+1,by omega,by go_num,HX3.out,HV3.out,HC3.out,HG3.out⟩
         case measure=>simp[intOf];omega
       · obtain rfl:j=n:=by omega
         go_wp2_with fail
         go_ret
         exact⟨rfl,HOJ.out,HG2.out⟩
end
end
section
open Go Go.RowKit Go.Shelf
def Zjg (n:Nat) (vf:Nat->Int) (j:Nat):Array Value:=((List.range n).map fun k=>Value.int .u64 (if k<j then vf k else 0)).toArray
theorem Zgx (n:Nat) (vf:Nat->Int) (j:Nat):(Zjg n vf j).size=n:=by simp[Zjg]
theorem Zig (n:Nat) (vf:Nat->Int) (j k:Nat) (hk:k<n):(Zjg n vf j)[k]?=some (.int .u64 (if k<j then vf k else 0)):=by simp[Zjg,hk]
theorem Zvr (n:Nat) (vf:Nat->Int) (j k:Nat) (hk:k<n) (h:j<=k):(Zjg n vf j)[k]?=some (.int .u64 0):=by rw[Zig _ _ _ _ hk,if_neg (by omega)]
theorem Znc (n:Nat) (vf:Nat->Int) (j:Nat) (hj:j<n):(Zjg n vf j).setIfInBounds j (.int .u64 (vf j))=Zjg n vf (j+1):=by
 apply Array.ext_getElem?
 intro k;by_cases hk:k<n
 · rw[Zig _ _ _ _ hk,Array.getElem?_setIfInBounds]
   by_cases e:j=k
   · subst e;rw[if_pos rfl,Zgx,if_pos hj,if_pos (by omega)]
   · rw[if_neg e,Zig _ _ _ _ hk]
     by_cases h:k<j
     · rw[if_pos h,if_pos (by omega)]
     · rw[if_neg h,if_neg (by omega)]
 · rw[Array.getElem?_eq_none (by rw[Array.size_setIfInBounds,Zgx];omega),Array.getElem?_eq_none (by rw[Zgx];omega)]
theorem Tryz.Ydu:(Tryz.prog.info? 63).map (fun i=>(i.zero,i.size,i.bytes))=some (some (.int .u64 0),1,8):=by kernel_rfl
theorem Zzw (n:Nat) (vf:Nat->Int):madeCells (Value.int .u64 0).cells (n*1)=Zjg n vf 0:=by
 apply Array.ext_getElem?
 intro j;by_cases hj:j<n
 · rw[Zig _ _ _ _ hj];simp[madeCells,hj,Value.cells,Nat.mod_one]
 · rw[Array.getElem?_eq_none (by rw[size_madeCells];omega),Array.getElem?_eq_none (by rw[Zgx];omega)]
theorem Zyw (n:Nat) (vf:Nat->Int) (hn:n<=1000) (w:World):
 (Instr.makeSlice 191 (iV n) (iV n)).run Tryz.prog w=.ok (.slice (some (aD w.heap.size 0)) n n) (w.alloc (.cells (Zjg n vf 0) 63)):=by
 obtain⟨i0,hi,hz0,hz1,hz2⟩:=info_parts Tryz.Ydu;have h:=run_make (P:=Tryz.prog) w 191 63 i0 (.int .u64 0) Tryz.underlying191 hi hz0 .i64 .i64 (n:Int) n (by omega) (Int.le_refl _) (by rw[hz2];omega) (by omega);rw[Int.toNat_natCast,hz1,Zzw n vf]at h;exact h
def Ye6 (s:ASt) (an:Nat) (f:Nat->Nat) (k:Nat):Int:=(Zck s.mm (an+f k) (f (k+1)-f k):Nat)
def Yjc (n:Nat) (vf:Nat->Int) (w:World) (e:Ending) (w':World):Prop:=
 ∃N,e=.returned (.tuple #[.slice (some (aD N 0)) n n,iV 0])/\w'.heap[N]?=some (.cells (Zjg n vf n) 63 (0,0))/\w.heap.size<=N/\Below w.heap.size w w'
section
variable {A:Nat} {s:ASt} {w:World}
theorem Yd5 (h:On A s w) (n:Nat) (f:Nat->Nat) (hr:Rec n f) (va vs:Nat) (h1_:va<=4294967296) (h2_:vs<=4294967296)
 (an:Nat) (han:Zai va vs 0 (f n:Nat)=an) (he:Zac s.L s.es (Zai va vs 0 (f n:Nat)) (f n:Nat)=0):
 Calls Tryz.prog 140 #[.agg (recC n f),vwV A va vs] w (Yjc n (Ye6 s an f) w):=by
 have HV:=hid (Zmz n f A va vs w);have hn32:=hr.n32;have HO:=hid h;rw[han]at he
 have han32:an<=4294967296:=by
  have hh:=(Zax h.Zch an (f n:Nat)).1 (by unfold Zac at he;cases hq:Zbd s.L s.es an (f n:Nat)with
   |true=>rfl
   |false=>rw[hq]at he;cases he)
  have:=h.Zch.small
  omega
 have HST:Hid (∀j,j<n->ldV s (Zai an (f n) (f j:Nat) (f (j+1)-f j:Nat)) (f (j+1)-f j:Nat)=Ye6 s an f j/\Zb9 s.L s.es (Zai an (f n) (f j:Nat) (f (j+1)-f j:Nat)) (f (j+1)-f j:Nat)=0):=hid (fun j hj=>by
  have hle:=hr.le (show j+1<=n by omega) (Nat.le_refl n);have hmo:=hr.mono j hj;have ha:Zai an (f n) (f j:Nat) (f (j+1)-f j:Nat)=((an+f j:Nat):Int):=by unfold Zai;rw[if_pos (by omega)];omega
  have hnu:Zb9 s.L s.es ((an+f j:Nat):Int) (f (j+1)-f j:Nat)=0:=by
   unfold Zb9;rw[hr.whole j hj,if_pos rfl];exact Zbn h.Zch he (by omega) (by omega) (by omega)
  rw[ha]
  refine⟨?_,hnu⟩
  unfold ldV;rw[if_pos hnu,Int.toNat_natCast,Int.toNat_natCast]
  rfl)
 have HA:=hid han;have HE:=hid he
 have HVO:Hid (∀pu a k,ofV pu a k 0=.agg #[.pointer pu,iV a,iV k]):=hid fun pu a k=>by unfold ofV;rw[if_pos rfl]
 have HZ:Hid ((Tryz.prog.info? 195).map (·.size)=some (recC n f).size):=hid (by rw[Zay];exact Tryz.Zd3);have hu:=Tryz.underlying195;have hi:(Tryz.prog.info? 195).map (·.size)=some (recC n f).toList.length:=by rw[Array.length_toList];exact HZ.out
 have HR:=hid hr;obtain⟨vf,hvf⟩:=eX (Ye6 s an f);rw[hvf]at HST⊢;have HMK:=Zyw n vf (by omega);have HW:=hid (Zbm w (.cells (recC n f) 195) (.cells #[pT A,iV va,iV vs] 40));clear hr h han he hvf;go_enter Tryz.func140,Tryz.ntmps140;go_wp2_with fail;obtain⟨wr,hy⟩:∃y,(w.alloc (.cells (recC n f) 195)).alloc (.cells #[pT A,iV va,iV vs] 40)=y:=⟨_,rfl⟩
 obtain⟨B,hB⟩:=eX w.heap.size;obtain⟨V,hVV⟩:=eX (B+1);rw[hy]at HV HW⊢;rw[hB]at HV⊢;rw[hVV]at HV⊢;clear hy hB hVV;have HVJ:=HV;have HBJ:=HW
 clear HV HW;refine wp_region_held_drew (S:=RVS B V n f A va vs w) (by kernel_rfl) (Zhx (RV.below HVJ.out (Below.refl _ _).drew) HBJ.out.drew) (fun hHeld=>?_);refine tk 0 (.agg #[pT A,iV va,iV vs]) rfl hHeld (fun X hS=>by obtain⟨s1,s2,s3,_,_,_⟩:=hS;go_simp) ?_;refine wpAnyH_take (i:=1) (v:=.agg (recC n f)) rfl (by kernel_rfl) (by kernel_rfl) (by kernel_rfl) (fun _ _ _ h=>h) (yieldsIf_load_mid (by rfl) 195 (.tmp 2) rfl B 0 rfl (recC n f).toList _ (fun X hS=>hS.2.2.2.1) hu rfl hi) hHeld ?_
 try simp only[Act.put,apu]
 refine wpAnyH_ready (rs:=[2,7]) (by kernel_rfl) (by simp) ?_
 refine(AllReadyH.cons rfl (fun K hK=>?_) (AllReadyH.cons rfl (fun K hK=>?_) AllReadyH.nil))
 · go_simp
   refine(Zg2 n f hn32 _).mono ?_
   rintro e x1 ⟨rfl,hb1⟩;have h1:=Za9 hHeld hb1;clear hHeld;refine hK.out _ _ h1 (fun hHeld=>?_);clear hK h1
   try simp only[Act.put,apu]
   refine wpAnyH_ready (rs:=[3,7]) (by kernel_rfl) (by simp) ?_
   refine(AllReadyH.cons rfl (fun K hK=>?_) (AllReadyH.cons rfl (fun K hK=>?_) AllReadyH.nil))
   focus
    go_simp
    refine(Zcl (HO.out.below hHeld.2.2.2.2.2) va vs h1_ h2_ 0 ((f n:Nat):Int) (by omega)).mono ?_
    rintro e x2 ⟨rfl,hb2⟩;rw[HA.out,HE.out,HVO.out];have h1:=Za9 hHeld hb2;refine hK.out _ _ h1 (fun hHeld2=>?_);clear hK h1
    try simp only[Act.put,apu]
    have hHeld3:=hHeld2;clear hHeld;have hHeld:=hHeld3;clear hHeld2 hHeld3;refine tk 4 (.tuple #[.agg #[pT A,iV an,iV ((f n:Nat):Int)],iV 0]) rfl hHeld (fun X hS=>by obtain⟨s1,s2,s3,_,_,_⟩:=hS;go_simp) ?_;refine tk 5 (.agg #[pT A,iV an,iV ((f n:Nat):Int)]) rfl hHeld (fun X hS=>by obtain⟨s1,s2,s3,_,_,_⟩:=hS;go_simp) ?_;refine tk 6 (iV 0) rfl hHeld (fun X hS=>by obtain⟨s1,s2,s3,_,_,_⟩:=hS;go_simp) ?_;refine wpAnyH_ready (rs:=[7]) (by kernel_rfl) (by simp) ?_
    refine(AllReadyH.cons rfl (fun K hK=>?_) AllReadyH.nil)
    go_simp;refine hK.out _ _ (Za9 hHeld (Zaj _ _)) (fun hHeld2=>?_);clear hK
    try simp only[Act.put,apu]
    refine wpAnyH_ready (rs:=[8]) (by kernel_rfl) (by simp) ?_
    refine(AllReadyH.cons rfl (fun K hK=>?_) AllReadyH.nil)
    go_simp;have hF:=Za9 hHeld (Zaj x2 (.cells #[pT A,iV an,iV ((f n:Nat):Int)] 40));refine hK.out _ _ hF (fun hHeld3=>?_);clear hK hHeld2
    try simp only[Act.put,apu]
    have VC9:VC x2.heap.size (some (aD A 0)) an (f n) (x2.alloc (.cells #[pT A,iV an,iV ((f n:Nat):Int)] 40)):=Zab _ _;clear hHeld;have hHeld:=hHeld3;clear hHeld3 hF;refine tk 9 (iV 0) rfl hHeld (fun X hS=>by obtain⟨s1,s2,s3,_,_,_⟩:=hS;go_simp) ?_;refine wpAnyH_done (by kernel_rfl) ?_ _;obtain⟨wF,hwF⟩:∃x,x2.alloc (.cells #[pT A,iV an,iV ((f n:Nat):Int)] 40)=x:=⟨_,rfl⟩
    obtain⟨R,hRR⟩:∃x,x2.heap.size=x:=⟨_,rfl⟩
    rw[hwF]at VC9 hHeld⊢;rw[hRR]at VC9⊢;clear hwF hRR
   rotate_left
   focus
    go_simp;have hR:=Zab x1 (.cells #[.pointer none,iV 0,iV 0] 40);have hne:B≠x1.heap.size/\V≠x1.heap.size:=Zp8 hHeld;have hRw:w.heap.size<=x1.heap.size:=hHeld.2.2.2.2.2.size;have h1:=Za9 hHeld (Zaj x1 (.cells #[.pointer none,iV 0,iV 0] 40));clear hHeld;refine hK.out _ _ h1 (fun hHeld=>?_);clear hK h1
    try simp only[Act.put,apu]
    refine wpAnyH_ready (rs:=[3]) (by kernel_rfl) (by simp) ?_
    refine(AllReadyH.cons rfl (fun K hK=>?_) AllReadyH.nil)
    go_simp
    refine(Zcl (HO.out.below hHeld.2.2.2.2.2) va vs h1_ h2_ 0 ((f n:Nat):Int) (by omega)).mono ?_
    rintro e x2 ⟨rfl,hb2⟩;rw[HA.out,HE.out,HVO.out];have h1:=Za9 hHeld hb2;refine hK.out _ _ h1 (fun hHeld2=>?_);clear hK h1
    try simp only[Act.put,apu]
    have hR2:=(hb2.block _ (Array.getElem?_eq_some_iff.1 hR).1).trans hR;clear hR;obtain⟨R,hRR⟩:∃x,x1.heap.size=x:=⟨_,rfl⟩
    rw[hRR]at hR2 hne hRw⊢;clear hRR;have hHeld3:=hHeld2;clear hHeld;have hHeld:=hHeld3;clear hHeld2 hHeld3;refine tk 4 (.tuple #[.agg #[pT A,iV an,iV ((f n:Nat):Int)],iV 0]) rfl hHeld (fun X hS=>by obtain⟨s1,s2,s3,_,_,_⟩:=hS;go_simp) ?_;refine tk 5 (.agg #[pT A,iV an,iV ((f n:Nat):Int)]) rfl hHeld (fun X hS=>by obtain⟨s1,s2,s3,_,_,_⟩:=hS;go_simp) ?_;refine tk 6 (iV 0) rfl hHeld (fun X hS=>by obtain⟨s1,s2,s3,_,_,_⟩:=hS;go_simp) ?_;refine wpAnyH_ready (rs:=[8]) (by kernel_rfl) (by simp) ?_
    refine(AllReadyH.cons rfl (fun K hK=>?_) AllReadyH.nil)
    have r0:=(Zaa hR2 0).1;have r1:=(Zaa hR2 1).1;have r2:=(Zaa hR2 2).1;have f0:=(Zaa hR2 0).2;have f1:=(Zaa hR2 1).2;have f2:=(Zaa hR2 2).2
    have HR2:=hid hR2;clear hR2;go_simp;have hF:=Zk7 hHeld hne (pT A) (iV an) (iV ((f n:Nat):Int)) hRw;refine hK.out _ _ hF (fun hHeld3=>?_);clear hK r0 r1 r2 f0 f1 f2
    try simp only[Act.put,apu]
    have VC9:VC R (some (aD A 0)) an (f n) _:=Za8 HR2.out rfl (pT A) (iV an) (iV ((f n:Nat):Int));clear hHeld;have hHeld:=hHeld3;clear hHeld3 hF;refine tk 9 (iV 0) rfl hHeld (fun X hS=>by obtain⟨s1,s2,s3,_,_,_⟩:=hS;go_simp) ?_;refine wpAnyH_done (by kernel_rfl) ?_ _;obtain⟨wF,hwF⟩:∃x,(((x2.setCell (aD R 0) (pT A)).setCell (aD R 1) (iV an)).setCell (aD R 2) (iV ((f n:Nat):Int)))=x:=⟨_,rfl⟩
    rw[hwF]at VC9 hHeld⊢;clear hwF
   all_goals
    have HRV:=hid hHeld.2.2.2.2.1;have HVC:=hid VC9;have HBF:=hid hHeld.2.2.2.2.2
    have c0:=HRV.out.1.n;clear hHeld VC9;go_wp2_with fail;have HNB:=hid (Zab wF (.cells (Zjg n vf 0) 63));have HRV1:=hid (HRV.out.below (Zaj wF (.cells (Zjg n vf 0) 63)));have HVC1:=hid (HVC.out.below (Zaj wF (.cells (Zjg n vf 0) 63)));have HBF1:=hid (HBF.out.alloc HBF.out.size (.cells (Zjg n vf 0) 63))
    have HNE:Hid (B≠wF.heap.size/\V≠wF.heap.size/\R≠wF.heap.size/\w.heap.size<=wF.heap.size):=hid (by
     have h1:=(Array.getElem?_eq_some_iff.1 HRV.out.1).1;have h2:=(Array.getElem?_eq_some_iff.1 HRV.out.2).1;have h3:=(Array.getElem?_eq_some_iff.1 HVC.out).1;have h4:=HBF.out.size
     omega)
    obtain⟨N,hNN⟩:∃x,wF.heap.size=x:=⟨_,rfl⟩
    obtain⟨wN,hwN⟩:∃x,wF.alloc (.cells (Zjg n vf 0) 63)=x:=⟨_,rfl⟩
    rw[hwN]at HNB HRV1 HVC1 HBF1⊢;rw[hNN]at HNB HNE⊢;clear hNN hwN HRV HVC HBF c0
    go_loopw[25] (fun v wr2=>∃j:Nat,j<=n/\v=iV j/\wr2.heap[N]?=some (.cells (Zjg n vf j) 63 (0,0))/\RV B V n f A va vs wr2/\VC R (some (aD A 0)) an (f n) wr2/\Below w.heap.size w wr2) (fun v _=>n-(intOf v).toNat)
    case atStart=>exact⟨0,Nat.zero_le _,rfl,HNB.out,HRV1.out,HVC1.out,HBF1.out⟩
    case round=>
     obtain⟨j,hj,rfl,ho,hv,hvc,hg⟩:=hrel;have HN2:=hid ho;have HV2:=hid hv;have HC2:=hid hvc;have HG2:=hid hg
     clear ho hv hvc hg HNB HRV1 HVC1 HBF1;by_cases hlt:j<n
     · have HSJ:=hid (HST.out j hlt)
       have c0:=(Zaa HC2.out 0).1;have c1:=(Zaa HC2.out 1).1;have c2:=(Zaa HC2.out 2).1
       go_wp2_with (refine wpList_load_row rfl 195 (.tmp 2) rfl B rfl 195 (recC n f) (0,0) _ HV2.out.1 Tryz.underlying195 rfl HZ.out ?_)
       refine(Zw5 (HO.out.below HG2.out) n f an (f n) han32 (by have:=HR.out.small (k:=n) (Nat.le_refl _);omega) hn32 j hlt (HR.out.mono j hlt) (by have:=HR.out.small (k:=j+1) (by omega);omega)).mono ?_
       rintro e w3 ⟨rfl,hb3⟩;rw[HSJ.out.1,HSJ.out.2];have HN3:=hid (Zba hb3 HN2.out);have HV3:=hid (HV2.out.below hb3);have HC3:=hid (HC2.out.below hb3);have HG3:=hid (HG2.out.trans (hb3.mono HG2.out.size));clear hb3 c0 c1 c2;have e0:w3.cell? (aD N j)=some (.int .u64 0):=(Zaa HN3.out j).1.trans (Zvr n vf j j hlt (Nat.le_refl _));have e1:=(Zaa HN3.out j).2;go_wp2_with fail;go_roundw
       case rel=>
        refine⟨j+1,by omega,by go_num,?_,⟨(Zah _ HNE.out.1).trans HV3.out.1,(Zah _ HNE.out.2.1).trans HV3.out.2⟩,(Zah _ HNE.out.2.2.1).trans HC3.out,HG3.out.setCell (p:=(aD N j)) HNE.out.2.2.2 _⟩
        rw[heap_set HN3.out,Znc n vf j hlt]
       case measure=>simp[intOf];omega
     · obtain rfl:j=n:=by omega
       go_wp2_with fail
       go_ret2
       exact⟨N,rfl,HN2.out,HNE.out.2.2.2,HG2.out⟩
 · go_simp
   have hR:=Zab wr (.cells #[.pointer none,iV 0,iV 0] 40);have hne:B≠wr.heap.size/\V≠wr.heap.size:=Zp8 (Zhx HVJ.out HBJ.out);have hRw:w.heap.size<=wr.heap.size:=HBJ.out.size;have h1:=Za9 (Zhx HVJ.out HBJ.out) ((Zaj wr (.cells #[.pointer none,iV 0,iV 0] 40)).drew);clear hHeld;refine hK.out _ _ h1 (fun hHeld=>?_);clear hK h1
   try simp only[Act.put,apu]
   refine wpAnyH_ready (rs:=[2]) (by kernel_rfl) (by simp) ?_
   refine(AllReadyH.cons rfl (fun K hK=>?_) AllReadyH.nil)
   go_simp
   refine(Zg2 n f hn32 _).mono ?_
   rintro e x1 ⟨rfl,hb1⟩;have h1:=Za9 hHeld hb1;clear hHeld;refine hK.out _ _ h1 (fun hHeld=>?_);clear hK h1
   try simp only[Act.put,apu]
   have hR1:=(hb1.block wr.heap.size (by simp)).trans hR;clear hR;refine wpAnyH_ready (rs:=[3]) (by kernel_rfl) (by simp) ?_
   refine(AllReadyH.cons rfl (fun K hK=>?_) AllReadyH.nil)
   go_simp
   refine(Zcl (HO.out.below hHeld.2.2.2.2.2) va vs h1_ h2_ 0 ((f n:Nat):Int) (by omega)).mono ?_
   rintro e x2 ⟨rfl,hb2⟩;rw[HA.out,HE.out,HVO.out];have h1:=Za9 hHeld hb2;refine hK.out _ _ h1 (fun hHeld2=>?_);clear hK h1
   try simp only[Act.put,apu]
   have hR2:=(hb2.block _ (Array.getElem?_eq_some_iff.1 hR1).1).trans hR1;clear hR1;obtain⟨R,hRR⟩:∃x,wr.heap.size=x:=⟨_,rfl⟩
   rw[hRR]at hR2 hne hRw⊢;clear hRR;have hHeld3:=hHeld2;clear hHeld;have hHeld:=hHeld3;clear hHeld2 hHeld3;refine tk 4 (.tuple #[.agg #[pT A,iV an,iV ((f n:Nat):Int)],iV 0]) rfl hHeld (fun X hS=>by obtain⟨s1,s2,s3,_,_,_⟩:=hS;go_simp) ?_;refine tk 5 (.agg #[pT A,iV an,iV ((f n:Nat):Int)]) rfl hHeld (fun X hS=>by obtain⟨s1,s2,s3,_,_,_⟩:=hS;go_simp) ?_;refine tk 6 (iV 0) rfl hHeld (fun X hS=>by obtain⟨s1,s2,s3,_,_,_⟩:=hS;go_simp) ?_;refine wpAnyH_ready (rs:=[8]) (by kernel_rfl) (by simp) ?_
   refine(AllReadyH.cons rfl (fun K hK=>?_) AllReadyH.nil)
   have r0:=(Zaa hR2 0).1;have r1:=(Zaa hR2 1).1;have r2:=(Zaa hR2 2).1;have f0:=(Zaa hR2 0).2;have f1:=(Zaa hR2 1).2;have f2:=(Zaa hR2 2).2
   have HR2:=hid hR2;clear hR2;go_simp;have hF:=Zk7 hHeld hne (pT A) (iV an) (iV ((f n:Nat):Int)) hRw;refine hK.out _ _ hF (fun hHeld3=>?_);clear hK r0 r1 r2 f0 f1 f2
   try simp only[Act.put,apu]
   have VC9:VC R (some (aD A 0)) an (f n) _:=Za8 HR2.out rfl (pT A) (iV an) (iV ((f n:Nat):Int));clear hHeld;have hHeld:=hHeld3;clear hHeld3 hF;refine tk 9 (iV 0) rfl hHeld (fun X hS=>by obtain⟨s1,s2,s3,_,_,_⟩:=hS;go_simp) ?_;refine wpAnyH_done (by kernel_rfl) ?_ _;obtain⟨wF,hwF⟩:∃x,(((x2.setCell (aD R 0) (pT A)).setCell (aD R 1) (iV an)).setCell (aD R 2) (iV ((f n:Nat):Int)))=x:=⟨_,rfl⟩
   rw[hwF]at VC9 hHeld⊢;clear hwF;have HRV:=hid hHeld.2.2.2.2.1;have HVC:=hid VC9;have HBF:=hid hHeld.2.2.2.2.2
   have c0:=HRV.out.1.n;clear hHeld VC9;go_wp2_with fail;have HNB:=hid (Zab wF (.cells (Zjg n vf 0) 63));have HRV1:=hid (HRV.out.below (Zaj wF (.cells (Zjg n vf 0) 63)));have HVC1:=hid (HVC.out.below (Zaj wF (.cells (Zjg n vf 0) 63)));have HBF1:=hid (HBF.out.alloc HBF.out.size (.cells (Zjg n vf 0) 63))
   have HNE:Hid (B≠wF.heap.size/\V≠wF.heap.size/\R≠wF.heap.size/\w.heap.size<=wF.heap.size):=hid (by
    have h1:=(Array.getElem?_eq_some_iff.1 HRV.out.1).1;have h2:=(Array.getElem?_eq_some_iff.1 HRV.out.2).1;have h3:=(Array.getElem?_eq_some_iff.1 HVC.out).1;have h4:=HBF.out.size
    omega)
   obtain⟨N,hNN⟩:∃x,wF.heap.size=x:=⟨_,rfl⟩
   obtain⟨wN,hwN⟩:∃x,wF.alloc (.cells (Zjg n vf 0) 63)=x:=⟨_,rfl⟩
   rw[hwN]at HNB HRV1 HVC1 HBF1⊢;rw[hNN]at HNB HNE⊢;clear hNN hwN HRV HVC HBF c0
   go_loopw[25] (fun v wr2=>∃j:Nat,j<=n/\v=iV j/\wr2.heap[N]?=some (.cells (Zjg n vf j) 63 (0,0))/\RV B V n f A va vs wr2/\VC R (some (aD A 0)) an (f n) wr2/\Below w.heap.size w wr2) (fun v _=>n-(intOf v).toNat)
   case atStart=>exact⟨0,Nat.zero_le _,rfl,HNB.out,HRV1.out,HVC1.out,HBF1.out⟩
   case round=>
    obtain⟨j,hj,rfl,ho,hv,hvc,hg⟩:=hrel;have HN2:=hid ho;have HV2:=hid hv;have HC2:=hid hvc;have HG2:=hid hg
    clear ho hv hvc hg HNB HRV1 HVC1 HBF1;by_cases hlt:j<n
    · have HSJ:=hid (HST.out j hlt)
      have c0:=(Zaa HC2.out 0).1;have c1:=(Zaa HC2.out 1).1;have c2:=(Zaa HC2.out 2).1
      go_wp2_with (refine wpList_load_row rfl 195 (.tmp 2) rfl B rfl 195 (recC n f) (0,0) _ HV2.out.1 Tryz.underlying195 rfl HZ.out ?_)
      refine(Zw5 (HO.out.below HG2.out) n f an (f n) han32 (by have:=HR.out.small (k:=n) (Nat.le_refl _);omega) hn32 j hlt (HR.out.mono j hlt) (by have:=HR.out.small (k:=j+1) (by omega);omega)).mono ?_
      rintro e w3 ⟨rfl,hb3⟩;rw[HSJ.out.1,HSJ.out.2];have HN3:=hid (Zba hb3 HN2.out);have HV3:=hid (HV2.out.below hb3);have HC3:=hid (HC2.out.below hb3);have HG3:=hid (HG2.out.trans (hb3.mono HG2.out.size));clear hb3 c0 c1 c2;have e0:w3.cell? (aD N j)=some (.int .u64 0):=(Zaa HN3.out j).1.trans (Zvr n vf j j hlt (Nat.le_refl _));have e1:=(Zaa HN3.out j).2;go_wp2_with fail;go_roundw
      case rel=>
       refine⟨j+1,by omega,by go_num,?_,⟨(Zah _ HNE.out.1).trans HV3.out.1,(Zah _ HNE.out.2.1).trans HV3.out.2⟩,(Zah _ HNE.out.2.2.1).trans HC3.out,HG3.out.setCell (p:=(aD N j)) HNE.out.2.2.2 _⟩
       rw[heap_set HN3.out,Znc n vf j hlt]
      case measure=>simp[intOf];omega
    · obtain rfl:j=n:=by omega
      go_wp2_with fail
      go_ret2
      exact⟨N,rfl,HN2.out,HNE.out.2.2.2,HG2.out⟩
end
end
end Go.Proofs.YtgcidfenjlmljaaGreat.Bt
