import Derived.Test.YtgcidfenjlmljaaGreatPg11
import Derived.Test.YtgcidfenjlmljaaGreatPgR
set_option linter.unusedVariables false
set_option linter.unusedSimpArgs false
set_option maxRecDepth 100000
set_option maxHeartbeats 16000000
namespace Go.Proofs.YtgcidfenjlmljaaGreat.Bt
section
open Go Go.RowKit Go.Shelf
structure Blk where
 r:Nat
 c:Array Value
 t:TypeId
def Zc7 (t:TypeId):Prop:=(t≠121/\t≠122/\t≠124)/\t≠53/\t≠42
structure Fr (A:Nat) (w0:World) (L:List Blk) (x:World):Prop where
 bs:∀y∈L,x.heap[y.r]?=some (.cells y.c y.t (0,0))/\Zbb A y.r x/\w0.heap.size<=y.r/\Zc7 y.t
 nd:L.Pairwise fun a b=>a.r≠b.r
 wt:Zam A w0 x
section
variable {A:Nat} {s:ASt} {w0 x y:World} {L:List Blk}
theorem Fr.start (A:Nat) (w:World):Fr A w [] w:=⟨(fun _ h=>by cases h),.nil,Zam.refl _ _⟩
theorem Fr.new (h:Fr A w0 L x) (ho:On A s x) (c:Array Value) (t:TypeId) (ht:Zc7 t):Fr A w0 (⟨x.heap.size,c,t⟩::L) (x.alloc (.cells c t)):=by
 have hb:=Zaj x (.cells c t);have hg:=Zam.Zad ho hb
 refine⟨fun z hz=>?_,?_,h.wt.trans hg⟩
 · rcases List.mem_cons.1 hz with rfl|hz
   · exact⟨Zab _ _,Zbb.new ho _,h.wt.size,ht⟩
   · obtain⟨a1,a2,a3,a4⟩:=h.bs z hz
     exact⟨(hb.block _ a2.lt).trans a1,a2.Zaq hg,a3,a4⟩
 · refine List.pairwise_cons.2 ⟨fun z hz=>?_,h.nd⟩
   have:=(h.bs z hz).2.1.lt
   show x.heap.size≠z.r;omega
theorem Fr.Zaq (h:Fr A w0 L x) (ho:On A s x) (hg:Zam A x y):Fr A w0 L y:=
 ⟨fun z hz=>by
  obtain⟨a1,a2,a3,a4⟩:=h.bs z hz
  exact⟨hg.Zdn ho a1 a4.1.1 a4.1.2.1 a4.1.2.2,a2.Zaq hg,a3,a4⟩,h.nd,h.wt.trans hg⟩
theorem Fr.below (h:Fr A w0 L x) (ho:On A s x) (hb:Below x.heap.size x y):Fr A w0 L y:=h.Zaq ho (Zam.Zad ho hb)
theorem Fr.at {L1 L2:List Blk} {b:Blk} (h:Fr A w0 (L1++b::L2) x):x.heap[b.r]?=some (.cells b.c b.t (0,0)):=(h.bs b (by simp)).1
theorem Fr.Ygd {L1 L2:List Blk} {b:Blk} (h:Fr A w0 (L1++b::L2) x):Zbb A b.r x:=(h.bs b (by simp)).2.1
theorem Fr.ge {L1 L2:List Blk} {b:Blk} (h:Fr A w0 (L1++b::L2) x):w0.heap.size<=b.r:=(h.bs b (by simp)).2.2.1
theorem Fr.ne {L1 L2:List Blk} {b:Blk} (h:Fr A w0 (L1++b::L2) x) {z:Blk} (hz:z∈L1\/z∈L2):z.r≠b.r:=by
 have:=List.pairwise_append.1 h.nd
 rcases hz with hz|hz
 · exact this.2.2 z hz b (List.mem_cons_self ..)
 · exact fun e=>(List.pairwise_cons.1 this.2.1).1 z hz e.symm
theorem Fr.cell {L1 L2:List Blk} {b:Blk} (h:Fr A w0 (L1++b::L2) x) (k:Nat) {v:Value} (hv:b.c[k]?=some v):x.cell? (aD b.r k)=some v/\x.frozen? (aD b.r k)=false:=
 ⟨((Zaa h.at k).1).trans hv,(Zaa h.at k).2⟩
theorem Fr.set {L1 L2:List Blk} {b:Blk} (h:Fr A w0 (L1++b::L2) x) (ho:On A s x) (k:Nat) (v:Value):Fr A w0 (L1++⟨b.r,b.c.setIfInBounds k v,b.t⟩::L2) (x.setCell (aD b.r k) v):=by
 have hm:=h.Ygd
 refine⟨fun z hz=>?_,?_,h.wt.set ho hm h.ge k v⟩
 · rcases List.mem_append.1 hz with hz|hz
   · obtain⟨a1,a2,a3,a4⟩:=h.bs z (List.mem_append.2 (.inl hz))
     exact⟨(Zah v (h.ne (.inl hz))).trans a1,Zbb.set ho hm a2 k v,a3,a4⟩
   · rcases List.mem_cons.1 hz with rfl|hz
     · exact⟨heap_set h.at v,Zbb.set ho hm hm k v,h.ge,(h.bs b (by simp)).2.2.2⟩
     · obtain⟨a1,a2,a3,a4⟩:=h.bs z (List.mem_append.2 (.inr (List.mem_cons_of_mem _ hz)))
       exact⟨(Zah v (h.ne (.inr hz))).trans a1,Zbb.set ho hm a2 k v,a3,a4⟩
 · have:=List.pairwise_append.1 h.nd
   have h2:=List.pairwise_cons.1 this.2.1;refine List.pairwise_append.2 ⟨this.1,List.pairwise_cons.2 ⟨h2.1,h2.2⟩,fun a ha c hc=>?_⟩;rcases List.mem_cons.1 hc with rfl|hc
   · exact this.2.2 a ha b (List.mem_cons_self ..)
   · exact this.2.2 a ha c (List.mem_cons_of_mem _ hc)
theorem Fr.drop {L1 L2:List Blk} {b:Blk} (h:Fr A w0 (L1++b::L2) x):Fr A w0 (L1++L2) x:=
 ⟨fun z hz=>h.bs z (by
  rcases List.mem_append.1 hz with hz|hz
  · exact List.mem_append.2 (.inl hz)
  · exact List.mem_append.2 (.inr (List.mem_cons_of_mem _ hz))),h.nd.sublist (by simp),h.wt⟩
def stR (x:World) (B:Nat):List Value->Nat->World
 |[],_=>x
 |v::t,k=>stR (x.setCell (aD B k) v) B t (k+1)
def Zka (c:Array Value):List Value->Nat->Array Value
 |[],_=>c
 |v::t,k=>Zka (c.setIfInBounds k v) t (k+1)
theorem Fr.Zc0 {L1 L2:List Blk} {R:Nat} {t:TypeId}:∀(vs:List Value) (k:Nat) (x:World) (c:Array Value),Fr A w0 (L1++⟨R,c,t⟩::L2) x->On A s x->Fr A w0 (L1++⟨R,Zka c vs k,t⟩::L2) (stR x R vs k)/\On A s (stR x R vs k)
 |[],_,_,_,h,ho=>⟨h,ho⟩
 |v::vs,k,x,c,h,ho=>Fr.Zc0 vs (k+1) _ _ (h.set ho k v) (ho.set h.Ygd k v)
theorem Zcn {R j:Nat} (hj:j≠R):∀(vs:List Value) (k:Nat) (x:World),(stR x R vs k).heap[j]?=x.heap[j]?
 |[],_,_=>rfl
 |v::vs,k,x=>(Zcn hj vs (k+1) _).trans (Zah v hj)
theorem Ze0.Zc0 {R:Nat} (hR:w0.heap.size<=R):∀(vs:List Value) (k:Nat) (x:World),Ze0 A w0 x->On A s x->Zbb A R x->Ze0 A w0 (stR x R vs k)
 |[],_,_,h,_,_=>h
 |v::vs,k,x,h,ho,hm=>Ze0.Zc0 hR vs (k+1) _ (h.set ho hm hR k v) (ho.set hm k v) (Zbb.set ho hm hm k v)
theorem Fr.at0 {R:Nat} {c:Array Value} {t:TypeId} {L2:List Blk} (h:Fr A w0 (⟨R,c,t⟩::L2) x):x.heap[R]?=some (.cells c t (0,0)):=Fr.at (L1:=[]) h
theorem Fr.cell0 {R:Nat} {c:Array Value} {t:TypeId} {L2:List Blk} (h:Fr A w0 (⟨R,c,t⟩::L2) x) (k:Nat) {v:Value} (hv:c[k]?=some v):x.cell? (aD R k)=some v:=(Fr.cell (L1:=[]) h k hv).1
theorem Fr.Za5 {R:Nat} {c:Array Value} {t:TypeId} {L2:List Blk} (h:Fr A w0 (⟨R,c,t⟩::L2) x) (k:Nat):x.frozen? (aD R k)=false:=(Zaa (Fr.at (L1:=[]) h) k).2
theorem Fr.Zji {R:Nat} {c:Array Value} {t:TypeId} {L2:List Blk} (h:Fr A w0 (⟨R,c,t⟩::L2) x):Zbb A R x:=Fr.Ygd (L1:=[]) h
theorem Fr.ge0 {R:Nat} {c:Array Value} {t:TypeId} {L2:List Blk} (h:Fr A w0 (⟨R,c,t⟩::L2) x):w0.heap.size<=R:=Fr.ge (L1:=[]) h
theorem Fr.Zdz {R:Nat} {c:Array Value} {t:TypeId} {L2:List Blk} (h:Fr A w0 (⟨R,c,t⟩::L2) x) (ho:On A s x) (vs:List Value) (k:Nat):Fr A w0 (⟨R,Zka c vs k,t⟩::L2) (stR x R vs k):=(Fr.Zc0 (L1:=[]) vs k x c h ho).1
theorem Fr.Zia {R:Nat} {c:Array Value} {t:TypeId} {L2:List Blk} (h:Fr A w0 (⟨R,c,t⟩::L2) x):Fr A w0 (L2) x:=Fr.drop (L1:=[]) h
theorem Fr.at1 {a0:Blk} {R:Nat} {c:Array Value} {t:TypeId} {L2:List Blk} (h:Fr A w0 (a0::⟨R,c,t⟩::L2) x):x.heap[R]?=some (.cells c t (0,0)):=Fr.at (L1:=[a0]) h
theorem Fr.Zak {a0:Blk} {R:Nat} {c:Array Value} {t:TypeId} {L2:List Blk} (h:Fr A w0 (a0::⟨R,c,t⟩::L2) x) (k:Nat) {v:Value} (hv:c[k]?=some v):x.cell? (aD R k)=some v:=(Fr.cell (L1:=[a0]) h k hv).1
theorem Fr.Zda {a0:Blk} {R:Nat} {c:Array Value} {t:TypeId} {L2:List Blk} (h:Fr A w0 (a0::⟨R,c,t⟩::L2) x) (k:Nat):x.frozen? (aD R k)=false:=(Zaa (Fr.at (L1:=[a0]) h) k).2
theorem Fr.Ygc {a0:Blk} {R:Nat} {c:Array Value} {t:TypeId} {L2:List Blk} (h:Fr A w0 (a0::⟨R,c,t⟩::L2) x):Zbb A R x:=Fr.Ygd (L1:=[a0]) h
theorem Fr.Zft {a0:Blk} {R:Nat} {c:Array Value} {t:TypeId} {L2:List Blk} (h:Fr A w0 (a0::⟨R,c,t⟩::L2) x) (ho:On A s x) (vs:List Value) (k:Nat):Fr A w0 (a0::⟨R,Zka c vs k,t⟩::L2) (stR x R vs k):=(Fr.Zc0 (L1:=[a0]) vs k x c h ho).1
theorem Fr.Yir {a0:Blk} {R:Nat} {c:Array Value} {t:TypeId} {L2:List Blk} (h:Fr A w0 (a0::⟨R,c,t⟩::L2) x):Fr A w0 (a0::L2) x:=Fr.drop (L1:=[a0]) h
theorem Fr.at2 {a0 a1:Blk} {R:Nat} {c:Array Value} {t:TypeId} {L2:List Blk} (h:Fr A w0 (a0::a1::⟨R,c,t⟩::L2) x):x.heap[R]?=some (.cells c t (0,0)):=Fr.at (L1:=[a0,a1]) h
theorem Fr.Zce {a0 a1:Blk} {R:Nat} {c:Array Value} {t:TypeId} {L2:List Blk} (h:Fr A w0 (a0::a1::⟨R,c,t⟩::L2) x) (k:Nat) {v:Value} (hv:c[k]?=some v):x.cell? (aD R k)=some v:=(Fr.cell (L1:=[a0,a1]) h k hv).1
theorem Fr.Yij {a0 a1:Blk} {R:Nat} {c:Array Value} {t:TypeId} {L2:List Blk} (h:Fr A w0 (a0::a1::⟨R,c,t⟩::L2) x):Zbb A R x:=Fr.Ygd (L1:=[a0,a1]) h
theorem Fr.Zi2 {a0 a1:Blk} {R:Nat} {c:Array Value} {t:TypeId} {L2:List Blk} (h:Fr A w0 (a0::a1::⟨R,c,t⟩::L2) x) (ho:On A s x) (vs:List Value) (k:Nat):Fr A w0 (a0::a1::⟨R,Zka c vs k,t⟩::L2) (stR x R vs k):=(Fr.Zc0 (L1:=[a0,a1]) vs k x c h ho).1
theorem Fr.at3 {a0 a1 a2:Blk} {R:Nat} {c:Array Value} {t:TypeId} {L2:List Blk} (h:Fr A w0 (a0::a1::a2::⟨R,c,t⟩::L2) x):x.heap[R]?=some (.cells c t (0,0)):=Fr.at (L1:=[a0,a1,a2]) h
theorem Fr.Zfs {a0 a1 a2:Blk} {R:Nat} {c:Array Value} {t:TypeId} {L2:List Blk} (h:Fr A w0 (a0::a1::a2::⟨R,c,t⟩::L2) x) (ho:On A s x) (vs:List Value) (k:Nat):Fr A w0 (a0::a1::a2::⟨R,Zka c vs k,t⟩::L2) (stR x R vs k):=(Fr.Zc0 (L1:=[a0,a1,a2]) vs k x c h ho).1
end
end
end Go.Proofs.YtgcidfenjlmljaaGreat.Bt
