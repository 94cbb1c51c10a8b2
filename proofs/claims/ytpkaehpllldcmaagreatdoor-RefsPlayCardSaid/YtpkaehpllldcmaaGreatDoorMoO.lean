/- On, VwNil, OnB, FdB, FdC. -/
import Derived.Test.YtpkaehpllldcmaaGreatDoorMoN
import Derived.Test.YtpkaehpllldcmaaGreatDoorMoM
import Derived.Laws.Rows
import Derived.Deep.DeepCutAuto
import Derived.RegionTactic
import Derived.Test.YtpkaehpllldcmaaGreatDoorMoA
import Derived.Deep.MidRow
section
namespace Go.Proofs.YtpkaehpllldcmaaGreatDoor.Bt
open Go Go.RowKit Go.Shelf
set_option linter.unusedVariables false
def On (A:Nat) (s:ASt) (w:World):Prop:=∃P ps p n cap,ArX A s P ps p n cap w
def OwnW (A:Nat) (w:World) (k:Nat):Prop:=∃s P ps p n cap,ArX A s P ps p n cap w∧Own A P ps k
def EdgW (A:Nat) (w:World) (k:Nat):Prop:=∃s P ps p n cap off,ArX A s P ps p n cap w∧p=some ⟨k,off,none⟩
structure Went (A:Nat) (w w':World):Prop where
 os:w'.os=w.os
 tape:w'.tape=w.tape
 output:w'.output=w.output
 size:w.heap.size≤w'.heap.size
 block:∀k,k<w.heap.size→¬OwnW A w k→w'.heap[k]?=w.heap[k]?
 news:∀k,OwnW A w' k→OwnW A w k∨w.heap.size≤k
 edge:∀k,EdgW A w' k→EdgW A w k∨w.heap.size≤k
theorem ptrV_inj {a b:Option Nat} (h:ptrV a=ptrV b):a=b:=by
 cases a<;>cases b<;>simp_all [ptrV]
theorem rowV_inj {a b:List (Option Nat)} (h:rowV a=rowV b):a=b:=by
 have h1:a.map ptrV=b.map ptrV:=by simpa[rowV]using h
 clear h
 induction a generalizing b with
 |nil=>cases b with
  |nil=>rfl
  |cons y b=>simp at h1
 |cons x a ih=>cases b with
  |nil=>simp at h1
  |cons y b=>
   simp only[List.map_cons,List.cons.injEq]at h1
   rw[ptrV_inj h1.1,ih h1.2]
theorem ArX.same {A P n cap:Nat} {s:ASt} {ps:List (Option Nat)} {p:Option Addr} {w:World} {P2 n2 cap2:Nat} {s2:ASt} {ps2:List (Option Nat)} {p2:Option Addr}
 (h:ArX A s P ps p n cap w) (k:ArX A s2 P2 ps2 p2 n2 cap2 w):P=P2∧ps=ps2:=by
 have h1:=h.hd;rw[k.hd]at h1
 have hP:P2=P:=by
  simp only[Option.some.injEq,Obj.cells.injEq,headV]at h1
  have:=congrArg (fun x:Array Value=>x[2]?) h1.1
  simp at this
  exact this.1
 subst hP
 have h2:=h.row;rw[k.row]at h2
 simp only[Option.some.injEq,Obj.cells.injEq]at h2
 exact⟨rfl,(rowV_inj h2.1).symm⟩
theorem ownW_iff {A P n cap:Nat} {s:ASt} {ps:List (Option Nat)} {p:Option Addr} {w:World} (h:ArX A s P ps p n cap w) (k:Nat):OwnW A w k↔Own A P ps k:=by
 constructor
 · rintro ⟨s2,P2,ps2,p2,n2,cap2,h2,ho⟩
   obtain⟨rfl,rfl⟩:=h.same h2
   exact ho
 · intro ho;exact⟨s,P,ps,p,n,cap,h,ho⟩
theorem ArX.sameP {A P n cap:Nat} {s:ASt} {ps:List (Option Nat)} {p:Option Addr} {w:World} {P2 n2 cap2:Nat} {s2:ASt} {ps2:List (Option Nat)} {p2:Option Addr}
 (h:ArX A s P ps p n cap w) (k:ArX A s2 P2 ps2 p2 n2 cap2 w):p=p2:=by
 have h1:=h.hd;rw[k.hd]at h1
 simp only[Option.some.injEq,Obj.cells.injEq,headV]at h1
 have:=congrArg (fun x:Array Value=>x[1]?) h1.1
 simp at this
 exact this.1.symm
theorem edgW_iff {A P n cap:Nat} {s:ASt} {ps:List (Option Nat)} {p:Option Addr} {w:World} (h:ArX A s P ps p n cap w) (k:Nat):EdgW A w k↔∃off,p=some ⟨k,off,none⟩:=by
 constructor
 · rintro ⟨s2,P2,ps2,p2,n2,cap2,off,h2,ho⟩
   exact⟨off,(h.sameP h2).trans ho⟩
 · rintro ⟨off,ho⟩;exact⟨s,P,ps,p,n,cap,off,h,ho⟩
theorem On.good {A:Nat} {s:ASt} {w:World} (h:On A s w):Good s.L s.es:=by obtain⟨P,ps,p,n,cap,h⟩:=h;exact h.good
theorem On.below {A:Nat} {s:ASt} {x y:World} (h:On A s x) (hb:Below x.heap.size x y):On A s y:=by
 obtain⟨P,ps,p,n,cap,h⟩:=h;exact⟨P,ps,p,n,cap,h.below hb⟩
theorem Went.refl (A:Nat) (w:World):Went A w w:=⟨rfl,rfl,rfl,Nat.le_refl _,fun _ _ _=>rfl,fun _ h=> .inl h,fun _ h=> .inl h⟩
theorem Went.of_below {A:Nat} {s:ASt} {w w':World} (h:On A s w) (hb:Below w.heap.size w w'):Went A w w':=by
 obtain⟨P,ps,p,n,cap,h⟩:=h
 exact⟨hb.os,hb.tape,hb.output,hb.size,fun k hk _=>hb.block k hk,fun k hk=> .inl ((ownW_iff h k).2 ((ownW_iff (h.below hb) k).1 hk)),fun k hk=> .inl ((edgW_iff h k).2 ((edgW_iff (h.below hb) k).1 hk))⟩
theorem Went.trans {A:Nat} {w w1 w2:World} (h:Went A w w1) (k:Went A w1 w2):Went A w w2:=by
 refine⟨k.os.trans h.os,k.tape.trans h.tape,k.output.trans h.output,Nat.le_trans h.size k.size,fun i hi hn=>?_,fun i hi=>?_,fun i hi=>?_⟩
 · refine(k.block i (Nat.lt_of_lt_of_le hi h.size) fun ho=>?_).trans (h.block i hi hn)
   rcases h.news i ho with h1|h1
   · exact hn h1
   · omega
 · rcases k.news i hi with h1|h1
   · exact h.news i h1
   · exact .inr (Nat.le_trans h.size h1)
 · rcases k.edge i hi with h1|h1
   · exact h.edge i h1
   · exact .inr (Nat.le_trans h.size h1)
theorem Went.of_turned {A P n cap:Nat} {s s':ASt} {ps:List (Option Nat)} {p:Option Addr} {w w':World} (h:ArX A s P ps p n cap w) (ht:Turned A P ps p s' w w'):On A s' w'∧Went A w w':=by
 obtain⟨ps',p',n',cap',h1,h2,h3⟩:=ht
 refine⟨⟨P,ps',p',n',cap',h1⟩,⟨h2.os,h2.tape,h2.output,h2.size,fun k hk hn=>h2.block k hk fun ho=>hn ((ownW_iff h k).2 ho),fun k hk=>?_,fun k hk=>?_⟩⟩
 rotate_left
 · obtain⟨off,ho⟩:=(edgW_iff h1 k).1 hk
   rcases h3 k off ho with h4|h4
   · exact .inl ((edgW_iff h k).2 ⟨off,h4▸ho⟩)
   · exact .inr h4
 rcases(ownW_iff h1 k).1 hk with rfl|rfl|⟨j,hj⟩
 · exact .inl ((ownW_iff h _).2 (.inl rfl))
 · exact .inl ((ownW_iff h _).2 (.inr (.inl rfl)))
 · rcases h2.news j k hj with h3|h3
   · exact .inl ((ownW_iff h _).2 (.inr (.inr ⟨j,h3⟩)))
   · exact .inr h3
theorem Went.keep {A:Nat} {s:ASt} {w w':World} (h:On A s w) (k:Went A w w') {B:Nat} {c:Array Value} {T:TypeId} {fr:Nat × Nat} (hB:w.heap[B]?=some (.cells c T fr))
 (h1:T≠78) (h2:T≠88) (h3:T≠90):w'.heap[B]?=some (.cells c T fr):=by
 obtain⟨P,ps,p,n,cap,h⟩:=h
 exact(k.block B (Array.getElem?_eq_some_iff.1 hB).1 fun ho=>own_not h hB h1 h2 h3 ((ownW_iff h _).1 ho)).trans hB
structure Mine (A R:Nat) (w:World):Prop where
 lt:R<w.heap.size
 own:¬OwnW A w R
 edg:¬EdgW A w R
theorem Mine.went {A R:Nat} {w w':World} (h:Mine A R w) (k:Went A w w'):Mine A R w':=by
 refine⟨Nat.lt_of_lt_of_le h.lt k.size,fun ho=>?_,fun ho=>?_⟩
 · rcases k.news R ho with h1|h1
   · exact h.own h1
   · have:=h.lt;omega
 · rcases k.edge R ho with h1|h1
   · exact h.edg h1
   · have:=h.lt;omega
theorem Mine.new {A:Nat} {s:ASt} {w:World} (h:On A s w) (o:Obj):Mine A w.heap.size (w.alloc o):=by
 obtain⟨P,ps,p,n,cap,h⟩:=h
 have h2:=h.below ((Below.refl _ _).alloc (Nat.le_refl _) o)
 refine⟨by simp,fun ho=>?_,fun ho=>?_⟩
 · rcases(ownW_iff h2 _).1 ho with h3|h3|⟨i,h3⟩
   · have:=h.ltA;omega
   · have:=h.ltP;omega
   · have:=h.ltG h3;omega
 · obtain⟨off,h3⟩:=(edgW_iff h2 _).1 ho
   have:=h.ltE h3;omega
theorem set_other {x:World} {R o k:Nat} (v:Value) (h:k≠R):(x.setCell ⟨R,o,none⟩ v).heap[k]?=x.heap[k]?:=Below.heap_setCell _ ⟨R,o,none⟩ _ _ h
structure Base (A:Nat) (w0 w:World):Prop where
 bel:Below w0.heap.size w0 w
 own:∀k,OwnW A w k→w0.heap.size≤k
 edg:∀k,EdgW A w k→w0.heap.size≤k
theorem Base.rebase {A:Nat} {w0 w1 x:World} (h:Base A w1 x) (hb:Below w0.heap.size w0 w1):Base A w0 x:=
 ⟨hb.trans (h.bel.mono hb.size),fun k hk=>Nat.le_trans hb.size (h.own k hk),fun k hk=>Nat.le_trans hb.size (h.edg k hk)⟩
theorem Base.went {A:Nat} {w0 w w':World} (h:Base A w0 w) (k:Went A w w'):Base A w0 w':=by
 refine⟨h.bel.trans ⟨k.os,k.tape,k.output,k.size,fun i hi=>k.block i (Nat.lt_of_lt_of_le hi h.bel.size) fun ho=>?_⟩,fun i hi=>?_,fun i hi=>?_⟩
 rotate_right
 · rcases k.edge i hi with h1|h1
   · exact h.edg i h1
   · exact Nat.le_trans h.bel.size h1
 · have:=h.own i ho;omega
 · rcases k.news i hi with h1|h1
   · exact h.own i h1
   · exact Nat.le_trans h.bel.size h1
theorem Base.below {A:Nat} {s:ASt} {w0 w w':World} (h:Base A w0 w) (hA:On A s w) (hb:Below w.heap.size w w'):Base A w0 w':=h.went (Went.of_below hA hb)
def Ret (A:Nat) (s':ASt) (r:Value) (w:World) (e:Ending) (w':World):Prop:=e=.returned r∧On A s' w'∧Went A w w'
def Gives (r:Value) (w:World) (e:Ending) (w':World):Prop:=e=.returned r∧Below w.heap.size w w'
section
variable {A:Nat} {s:ASt} {w:World}
theorem On.ret {s':ASt} {r:Value} {e:Ending} {w':World} {P n cap:Nat} {ps:List (Option Nat)} {p:Option Addr} (h:ArX A s P ps p n cap w) (k:e=.returned r∧Turned A P ps p s' w w'):Ret A s' r w e w':=
 ⟨k.1,Went.of_turned h k.2⟩
def ldV (s:ASt) (a k:Int):Int:=if numE s.L s.es a k=0 then(numV s.mm a.toNat k.toNat:Int)else 0
def byV (s:ASt) (a k:Int):ByteArray:=if thereE s.L s.es a k=0 then strL (getM s.mm a.toNat k.toNat)else⟨#[]⟩
abbrev vwV (A va vs:Nat):Value:=.agg #[.pointer (some ⟨A,0,none⟩),.int .i64 (va:Int),.int .i64 (vs:Int)]
theorem on_load (h:On A s w) (va vs:Nat) (h1:va≤4294967296) (h2:vs≤4294967296) (a k:Int) (ha:a≤9223372036854775807):
 Calls Tryz.prog 128 #[vwV A va vs,.int .i64 a,.int .i64 k] w (Gives (.tuple #[.int .u64 (ldV s (addrV va vs a k) k),.int .i64 (numE s.L s.es (addrV va vs a k) k)]) w):=by
 obtain⟨P,ps,p,n,cap,h⟩:=h;exact vload_any h va vs h1 h2 a k ha
theorem on_bytes (h:On A s w) (va vs:Nat) (h1:va≤4294967296) (h2:vs≤4294967296) (a k:Int) (ha:a≤9223372036854775807):
 Calls Tryz.prog 240 #[vwV A va vs,.int .i64 a,.int .i64 k] w (Gives (.tuple #[.string (byV s (addrV va vs a k) k),.int .i64 (thereE s.L s.es (addrV va vs a k) k)]) w):=by
 obtain⟨P,ps,p,n,cap,h⟩:=h;exact vbytes_any h va vs h1 h2 a k ha
theorem on_store (h:On A s w) (va vs:Nat) (h1:va≤4294967296) (h2:vs≤4294967296) (a k x:Int) (ha:a≤9223372036854775807) (hx:0≤x):
 Calls Tryz.prog 113 #[vwV A va vs,.int .i64 a,.int .i64 k,.int .u64 x] w (Ret A (storeS s (addrV va vs a k) k x) (.int .i64 (numE s.L s.es (addrV va vs a k) k)) w):=by
 obtain⟨P,ps,p,n,cap,h⟩:=h;exact(vstore_any h va vs h1 h2 a k x ha hx).mono fun e w' k=>On.ret h k
theorem on_put (h:On A s w) (va vs:Nat) (h1:va≤4294967296) (h2:vs≤4294967296) (a:Int) (ha:a≤9223372036854775807) (x:ByteArray) (hx:x.size≤9223372036854775807):
 Calls Tryz.prog 222 #[vwV A va vs,.int .i64 a,.string x] w (Ret A (putS s (addrV va vs a x.size) x.data.toList) (.int .i64 (thereE s.L s.es (addrV va vs a x.size) x.data.toList.length)) w):=by
 obtain⟨P,ps,p,n,cap,h⟩:=h;exact(vput_any h va vs h1 h2 a ha x hx).mono fun e w' k=>On.ret h k
theorem on_fill (h:On A s w) (va vs:Nat) (h1:va≤4294967296) (h2:vs≤4294967296) (a k:Int) (ha:a≤9223372036854775807) (y:UInt8):
 Calls Tryz.prog 56 #[vwV A va vs,.int .i64 a,.int .i64 k,.int .u8 (y.toNat:Int)] w (Ret A (fillS s (addrV va vs a k) k y) (.int .i64 (thereE s.L s.es (addrV va vs a k) k)) w):=by
 obtain⟨P,ps,p,n,cap,h⟩:=h;exact(vfill_any h va vs h1 h2 a k ha y).mono fun e w' k=>On.ret h k
theorem on_copy (h:On A s w) (va vs:Nat) (h1:va≤4294967296) (h2:vs≤4294967296) (tq fr k:Int) (ha:tq≤9223372036854775807) (hf:fr≤9223372036854775807):
 Calls Tryz.prog 55 #[vwV A va vs,.int .i64 tq,.int .i64 fr,.int .i64 k] w (Ret A (copyS s (addrV va vs tq k) (addrV va vs fr k) k) (.int .i64 (copyE s (addrV va vs tq k) (addrV va vs fr k) k)) w):=by
 obtain⟨P,ps,p,n,cap,h⟩:=h;exact(vcopy_any h va vs h1 h2 tq fr k ha hf).mono fun e w' k=>On.ret h k
theorem on_part (h:On A s w) (va vs:Nat) (h1:va≤4294967296) (h2:vs≤4294967296) (a k:Int) (ha:a≤9223372036854775807):
 Calls Tryz.prog 64 #[vwV A va vs,.int .i64 a,.int .i64 k] w (Gives (.tuple #[ofV (some ⟨A,0,none⟩) (addrV va vs a k) k (thereE s.L s.es (addrV va vs a k) k),.int .i64 (thereE s.L s.es (addrV va vs a k) k)]) w):=by
 obtain⟨P,ps,p,n,cap,h⟩:=h;exact vpart_any h va vs h1 h2 a k ha
theorem on_of (h:On A s w) (a k:Int) (ha:a≤9223372036854775807):
 Calls Tryz.prog 7 #[.pointer (some ⟨A,0,none⟩),.int .i64 a,.int .i64 k] w (Gives (.tuple #[ofV (some ⟨A,0,none⟩) a k (thereE s.L s.es a k),.int .i64 (thereE s.L s.es a k)]) w):=by
 obtain⟨P,ps,p,n,cap,h⟩:=h;exact vof_any h a k ha
theorem on_commit (h:On A s w) (a k:Int) (ha:a≤9223372036854775807):
 Calls Tryz.prog 6 #[.pointer (some ⟨A,0,none⟩),.int .i64 a,.int .i64 k] w (Ret A (commitS s a k) (.int .i64 (commitE s a k)) w):=by
 obtain⟨P,ps,p,n,cap,h⟩:=h;exact(commit_any h a k ha).mono fun e w' k=>On.ret h k
theorem on_aput (h:On A s w) (a:Int) (ha:a≤9223372036854775807) (x:ByteArray) (hx:x.size≤9223372036854775807):
 Calls Tryz.prog 52 #[.pointer (some ⟨A,0,none⟩),.int .i64 a,.string x] w (Ret A (putS s a x.data.toList) (.int .i64 (thereE s.L s.es a x.data.toList.length)) w):=by
 obtain⟨P,ps,p,n,cap,h⟩:=h;exact(put_any h a ha x hx).mono fun e w' k=>On.ret h k
theorem on_afill (h:On A s w) (a k:Int) (ha:a≤9223372036854775807) (y:UInt8):
 Calls Tryz.prog 94 #[.pointer (some ⟨A,0,none⟩),.int .i64 a,.int .i64 k,.int .u8 (y.toNat:Int)] w (Ret A (fillS s a k y) (.int .i64 (thereE s.L s.es a k)) w):=by
 obtain⟨P,ps,p,n,cap,h⟩:=h;exact(fill_any h a k ha y).mono fun e w' k=>On.ret h k
theorem on_abytes (h:On A s w) (a k:Int) (ha:a≤9223372036854775807):
 Calls Tryz.prog 51 #[.pointer (some ⟨A,0,none⟩),.int .i64 a,.int .i64 k] w (Gives (.tuple #[.string (byV s a k),.int .i64 (thereE s.L s.es a k)]) w):=by
 obtain⟨P,ps,p,n,cap,h⟩:=h;exact bytes_any h a k ha
end
theorem on_new (c:Int) (w:World):Calls Tryz.prog 5 #[.int .i64 c] w fun e w'=>∃A,e=.returned (.pointer (some ⟨A,0,none⟩))∧w.heap.size≤A∧On A (newS (lenN c)) w'∧Base A w w'∧∀R,R<w.heap.size→Mine A R w':=by
 refine(arena_new c w).mono ?_
 rintro e w' ⟨A,P,he,hA,hP,hx,hb⟩
 have hO:∀k,OwnW A w' k→w.heap.size≤k:=fun k hk=>by
  rcases(ownW_iff hx k).1 hk with rfl|rfl|⟨i,hi⟩
  · exact hA
  · exact hP
  · rw[List.getElem?_replicate]at hi;split at hi<;>cases hi
 refine⟨A,he,hA,⟨_,_,_,_,_,hx⟩,⟨hb,hO,fun k hk=>by obtain⟨off,h3⟩:=(edgW_iff hx k).1 hk;cases h3⟩,fun R hR=>⟨Nat.lt_of_lt_of_le hR hb.size,fun ho=>?_,fun ho=>?_⟩⟩
 · have:=hO R ho;omega
 · obtain⟨off,h3⟩:=(edgW_iff hx R).1 ho;cases h3
end Go.Proofs.YtpkaehpllldcmaaGreatDoor.Bt
end
section
namespace Go.Proofs.YtpkaehpllldcmaaGreatDoor.Bt
open Go Go.RowKit Go.Shelf
set_option linter.unusedVariables false
end Go.Proofs.YtpkaehpllldcmaaGreatDoor.Bt
end
section
namespace Go.Proofs.YtpkaehpllldcmaaGreatDoor.Bt
open Go Go.RowKit Go.Shelf
set_option linter.unusedVariables false
theorem below2 (w:World) (o o':Obj):Below w.heap.size w ((w.alloc o).alloc o'):=((Below.refl _ _).alloc (Nat.le_refl _) _).alloc (by simp) _
theorem heap_old2 (w:World) (o o':Obj):((w.alloc o).alloc o').heap[w.heap.size+1]?=some o':=by
 have h:=heap_new (w.alloc o) o'
 rwa [show(w.alloc o).heap.size=w.heap.size+1 from by simp]at h
theorem bel1 (w:World) (o:Obj):Below w.heap.size w (w.alloc o):=(Below.refl _ _).alloc (Nat.le_refl _) _
theorem pairs_new (x:World) (a b:Array Value) (T U:TypeId):((x.alloc (.cells a T)).alloc (.cells b U)).heap[x.heap.size]?=some (.cells a T (0,0))∧((x.alloc (.cells a T)).alloc (.cells b U)).heap[x.heap.size+1]?=some (.cells b U (0,0)):=
 ⟨(Below.heap_alloc _ _ _ (by simp)).trans (heap_new _ _),heap_old2 _ _ _⟩
theorem there_part {L:Nat} {es:List Nat} (g:Good L es) {a n b k:Int} (h:thereE L es a n=0) (h1:a≤b) (h2:0≤k) (h3:b+k≤a+n):thereE L es b k=0:=by
 have hb:thereB L es a n=true:=by unfold thereE at h;cases hq:thereB L es a n with
  |true=>rfl
  |false=>rw[hq]at h;cases h
 obtain⟨t0,t1,t2,t3⟩:=(there_iff g a n).1 hb
 have:thereB L es b k=true:=(there_iff g b k).2 ⟨by omega,h2,by omega,fun i i1 i2=>t3 i (by omega) (by omega)⟩
 unfold thereE;rw[this];rfl
theorem heap_far2 {x:World} {B R:Nat} (hne:B≠R) (u v:Value):((x.setCell ⟨R,0,none⟩ u).setCell ⟨R,1,none⟩ v).heap[B]?=x.heap[B]?:=
 (Below.heap_setCell _ ⟨R,1,none⟩ _ _ hne).trans (Below.heap_setCell _ ⟨R,0,none⟩ _ _ hne)
end Go.Proofs.YtpkaehpllldcmaaGreatDoor.Bt
end
section
namespace Go.Proofs.YtpkaehpllldcmaaGreatDoor.Bt
open Go Go.RowKit Go.Shelf
set_option linter.unusedVariables false
def recC (n:Nat) (f:Nat→Nat):Array Value:=((.int .i64 (n:Int))::(List.range 33).map fun i=>Value.int .i64 ((f i:Nat):Int)).toArray
theorem recC_size (n:Nat) (f:Nat→Nat):(recC n f).size=34:=by simp[recC]
theorem recC_0 (n:Nat) (f:Nat→Nat):(recC n f)[0]?=some (.int .i64 (n:Int)):=by simp[recC]
theorem recC_at (n:Nat) (f:Nat→Nat) (i:Nat) (h:i<33):(recC n f)[1+i]?=some (.int .i64 ((f i:Nat):Int)):=by
 rw[Nat.add_comm];simp[recC,h]
def VR (B n:Nat) (f:Nat→Nat) (x:World):Prop:=x.heap[B]?=some (.cells (recC n f) 122 (0,0))
theorem VR.below {B n:Nat} {f:Nat→Nat} {x y:World} (h:VR B n f x) (hb:Below x.heap.size x y):VR B n f y:=(hb.block _ (Array.getElem?_eq_some_iff.1 h).1).trans h
theorem VR.n {B n:Nat} {f:Nat→Nat} {x:World} (h:VR B n f x):x.cell? ⟨B,0,none⟩=some (.int .i64 (n:Int)):=(cell_blk h 0).1.trans (recC_0 n f)
theorem VR.f {B n:Nat} {f:Nat→Nat} {x:World} (h:VR B n f x) (i:Nat) (hi:i<33):x.cell? ⟨B,1+i,none⟩=some (.int .i64 ((f i:Nat):Int)):=(cell_blk h _).1.trans (recC_at n f i hi)
def hasF (n:Nat) (i:Int):Bool:=decide (0≤i∧i<n)
theorem fhas_any (n:Nat) (f:Nat→Nat) (i:Int) (w:World):Calls Tryz.prog 112 #[.agg (recC n f),.int .i64 i] w (Gives (.bool (hasF n i)) w):=by
 have hv:VR w.heap.size n f (w.alloc (.cells (recC n f) 122)):=heap_new _ _
 have c0:=hv.n
 clear hv
 by_cases h0:0≤i
 · by_cases h1:i<n
   · have HB:Hid (hasF n i=true):=Lib.hid (decide_eq_true ⟨h0,h1⟩)
     go_enter Tryz.func112,Tryz.ntmps112
     go_wp2_with fail
     go_ret
     exact⟨by rw[HB.out];rfl,bel1 _ _⟩
   · have HB:Hid (hasF n i=false):=Lib.hid (decide_eq_false fun h=>h1 h.2)
     go_enter Tryz.func112,Tryz.ntmps112
     go_wp2_with fail
     go_ret
     exact⟨by rw[HB.out];rfl,bel1 _ _⟩
 · have HB:Hid (hasF n i=false):=Lib.hid (decide_eq_false fun h=>h0 h.1)
   go_enter Tryz.func112,Tryz.ntmps112
   go_wp2_with fail
   go_ret
   exact⟨by rw[HB.out];rfl,bel1 _ _⟩
theorem fsize_any (n:Nat) (f:Nat→Nat) (hn:n≤32) (w:World):Calls Tryz.prog 96 #[.agg (recC n f)] w (Gives (.int .i64 ((f n:Nat):Int)) w):=by
 have hv:VR w.heap.size n f (w.alloc (.cells (recC n f) 122)):=heap_new _ _
 have c0:=hv.n
 have c1:=hv.f n (by omega)
 clear hv
 go_enter Tryz.func96,Tryz.ntmps96
 go_wp2_with fail
 go_ret
 exact⟨rfl,bel1 _ _⟩
theorem Tryz.infoRec:(Tryz.prog.info? 122).map (·.size)=some 34:=by kernel_rfl
theorem fwidth_any (n:Nat) (f:Nat→Nat) (hn:n≤32) (k:Nat) (hk:k<n) (hm:f k≤f (k+1)) (hs:f (k+1)≤1000) (w:World):
 Calls Tryz.prog 114 #[.agg (recC n f),.int .i64 (k:Int)] w (Gives (.int .i64 ((f (k+1)-f k:Nat):Int)) w):=by
 have hv:VR w.heap.size n f (w.alloc (.cells (recC n f) 122)):=heap_new _ _
 have c0:=hv.f k (by omega)
 have c1:=hv.f (k+1) (by omega)
 have HR:Hid (((f (k+1)-f k:Nat):Int)=(f (k+1):Int)-f k):=Lib.hid (by omega)
 have e1:((k:Int)+1).toNat=k+1:=by omega
 clear hv
 go_enter Tryz.func114,Tryz.ntmps114
 go_wp2_with fail
 go_region
 go_wp2_with fail
 go_ret
 exact⟨by rw[HR.out];rfl,(bel1 _ _).drew⟩
def longB (x:Int) (W:Nat):Bool:=x/2^(8*W) !=0
theorem flong_any (n:Nat) (f:Nat→Nat) (hn:n≤32) (k:Nat) (hk:k<n) (hm:f k≤f (k+1)) (hs:f (k+1)≤1000) (hW:f (k+1)-f k≤8) (x:Int) (hx:0≤x) (hx2:x<18446744073709551616) (w:World):
 Calls Tryz.prog 95 #[.agg (recC n f),.int .i64 (k:Int),.int .u64 x] w (Gives (.bool (longB x (f (k+1)-f k))) w):=by
 have hv:VR w.heap.size n f (w.alloc (.cells (recC n f) 122)):=heap_new _ _
 have HV:=Lib.hid hv
 have HZ:Hid ((Tryz.prog.info? 122).map (·.size)=some (recC n f).size):=Lib.hid (by rw[recC_size];exact Tryz.infoRec)
 clear hv
 go_enter Tryz.func95,Tryz.ntmps95
 go_wp2_with (refine wpList_load_row rfl 122 (.tmp 3) rfl w.heap.size rfl 122 (recC n f) (0,0) _ HV.out Tryz.underlying122 rfl HZ.out ?_)
 refine(fwidth_any n f hn k hk hm hs _).mono ?_
 rintro e w1 ⟨rfl,hb⟩
 have B1:=Lib.hid ((bel1 w (.cells (recC n f) 122)).trans (hb.mono (by simp)))
 clear hb
 generalize f (k+1)-f k=W at*
 go_wp2_with fail
 go_ret
 exact⟨rfl,B1.out⟩
end Go.Proofs.YtpkaehpllldcmaaGreatDoor.Bt
end
section
namespace Go.Proofs.YtpkaehpllldcmaaGreatDoor.Bt
open Go Go.RowKit Go.Shelf
set_option linter.unusedVariables false
set_option linter.unusedSimpArgs false
def RV (B V n:Nat) (f:Nat→Nat) (A va vs:Nat) (x:World):Prop:=VR B n f x∧VC V (some ⟨A,0,none⟩) va vs x
theorem RV.below {B V n:Nat} {f:Nat→Nat} {A va vs:Nat} {x y:World} (h:RV B V n f A va vs x) (hb:Below x.heap.size x y):RV B V n f A va vs y:=⟨h.1.below hb,h.2.below hb⟩
theorem RV.went {B V n:Nat} {f:Nat→Nat} {A va vs:Nat} {x y:World} {s:ASt} (h:RV B V n f A va vs x) (ho:On A s x) (hg:Went A x y):RV B V n f A va vs y:=
 ⟨hg.keep ho h.1 (by decide) (by decide) (by decide),hg.keep ho h.2 (by decide) (by decide) (by decide)⟩
theorem VR.range {B n:Nat} {f:Nat→Nat} {x:World} (h:VR B n f x):x.rangeAt B 0 (recC n f).toList:=fun j v hv=>by
 rw[(cell_blk h _).1,Nat.zero_add];simpa using hv
theorem RV.all {B V n:Nat} {f:Nat→Nat} {A va vs:Nat} {x:World} (h:RV B V n f A va vs x) (k:Nat) (hk:k<33):
 x.cell? ⟨V,0,none⟩=some (.pointer (some ⟨A,0,none⟩))∧x.cell? ⟨V,1,none⟩=some (.int .i64 (va:Int))∧x.cell? ⟨V,2,none⟩=some (.int .i64 (vs:Int))∧x.cell? ⟨B,1+k,none⟩=some (.int .i64 ((f k:Nat):Int))∧x.rangeAt B 0 (recC n f).toList∧RV B V n f A va vs x:=
 ⟨(cell_blk h.2 0).1,(cell_blk h.2 1).1,(cell_blk h.2 2).1,h.1.f k hk,h.1.range,h⟩
theorem rv_new (n:Nat) (f:Nat→Nat) (A va vs:Nat) (w:World):
 RV w.heap.size (w.heap.size+1) n f A va vs ((w.alloc (.cells (recC n f) 122)).alloc (.cells #[.pointer (some ⟨A,0,none⟩),.int .i64 (va:Int),.int .i64 (vs:Int)] 30)):=by
 obtain⟨q1,q2⟩:=pairs_new w (recC n f) #[.pointer (some ⟨A,0,none⟩),.int .i64 (va:Int),.int .i64 (vs:Int)] 122 30
 exact⟨q1,q2⟩
section
variable {A:Nat} {s:ASt} {w:World}
set_option maxHeartbeats 1000000 in
theorem fset_on (h:On A s w) (n:Nat) (f:Nat→Nat) (va vs:Nat) (h1:va≤4294967296) (h2:vs≤4294967296) (hn:n≤32) (k:Nat) (hk:k<n) (hm:f k≤f (k+1)) (hs:f (k+1)≤1000) (hW:f (k+1)-f k≤8) (x:Int) (hx:0≤x) (hx2:x<18446744073709551616) (hl:longB x (f (k+1)-f k)=false):
 Calls Tryz.prog 80 #[.agg (recC n f),vwV A va vs,.int .i64 (k:Int),.int .u64 x] w
  (Ret A (storeS s (addrV va vs (f k:Nat) (f (k+1)-f k:Nat)) (f (k+1)-f k:Nat) x) (.int .i64 (numE s.L s.es (addrV va vs (f k:Nat) (f (k+1)-f k:Nat)) (f (k+1)-f k:Nat))) w):=by
 have HO:=Lib.hid h
 have HH:Hid (hasF n k=true):=Lib.hid (decide_eq_true ⟨by omega,by omega⟩)
 have HL:=Lib.hid hl
 have HV:=Lib.hid (rv_new n f A va vs w)
 have HZ:Hid ((Tryz.prog.info? 122).map (·.size)=some (recC n f).size):=Lib.hid (by rw[recC_size];exact Tryz.infoRec)
 clear hl h
 go_enter Tryz.func80,Tryz.ntmps80
 go_wp2_with (refine wpList_load_row rfl 122 (.tmp 4) rfl w.heap.size rfl 122 (recC n f) (0,0) _ HV.out.1 Tryz.underlying122 rfl HZ.out ?_)
 refine(fhas_any n f k _).mono ?_
 rintro e w1 ⟨rfl,hb⟩
 rw[HH.out]
 have B1:=Lib.hid ((below2 w (.cells (recC n f) 122) (.cells #[.pointer (some ⟨A,0,none⟩),.int .i64 (va:Int),.int .i64 (vs:Int)] 30)).trans (hb.mono (by simp;omega)))
 have HV1:=Lib.hid (HV.out.below hb)
 clear hb HV
 go_wp2_with (refine wpList_load_row rfl 122 (.tmp 4) rfl w.heap.size rfl 122 (recC n f) (0,0) _ HV1.out.1 Tryz.underlying122 rfl HZ.out ?_)
 refine(flong_any n f hn k hk hm hs hW x hx hx2 _).mono ?_
 rintro e w2 ⟨rfl,hb⟩
 rw[HL.out]
 have B2:=Lib.hid (B1.out.trans (hb.mono B1.out.size))
 have HV2:=HV1.out.below hb
 clear hb HV1 B1
 go_wp2_with fail
 obtain⟨B,hB⟩:∃B,w.heap.size=B:=⟨_,rfl⟩
 obtain⟨V,hVV⟩:∃V,B+1=V:=⟨_,rfl⟩
 rw[hB]at HV2⊢
 rw[hVV]at HV2⊢
 clear hB hVV
 have hu:=Tryz.underlying122
 have hi:(Tryz.prog.info? 122).map (·.size)=some (recC n f).toList.length:=by rw[Array.length_toList];exact HZ.out
 have i0:0≤(k:Int):=by omega
 have i1:(k:Int)<33:=by omega
 refine wp_region_held_drew (S:=(fun x=>x.cell? ⟨V,0,none⟩=some (.pointer (some ⟨A,0,none⟩))∧x.cell? ⟨V,1,none⟩=some (.int .i64 (va:Int))∧x.cell? ⟨V,2,none⟩=some (.int .i64 (vs:Int))∧x.cell? ⟨B,1+k,none⟩=some (.int .i64 ((f k:Nat):Int))∧x.rangeAt B 0 (recC n f).toList∧RV B V n f A va vs x)) (by kernel_rfl) ((HV2.below (Below.refl _ _).drew).all k (by omega)) (fun hHeld=>?_)
 refine tk 0 (.agg #[.pointer (some ⟨A,0,none⟩),.int .i64 (va:Int),.int .i64 (vs:Int)]) rfl hHeld (fun X hS=>by obtain⟨s1,s2,s3,s4,_,_⟩:=hS;go_simp) ?_
 refine tk 1 (.int .i64 (k:Int)) rfl hHeld (fun X hS=>by obtain⟨s1,s2,s3,s4,_,_⟩:=hS;go_simp) ?_
 refine tk 2 (.pointer (some ⟨B,1,none⟩)) rfl hHeld (fun X hS=>by obtain⟨s1,s2,s3,s4,_,_⟩:=hS;go_simp) ?_
 refine tk 3 (.pointer (some ⟨B,1+k,none⟩)) rfl hHeld (fun X hS=>by obtain⟨s1,s2,s3,s4,_,_⟩:=hS;go_simp) ?_
 refine tk 4 (.int .i64 ((f k:Nat):Int)) rfl hHeld (fun X hS=>by obtain⟨s1,s2,s3,s4,_,_⟩:=hS;go_simp) ?_
 refine wpAnyH_take (i:=5) (v:=.agg (recC n f)) rfl (by kernel_rfl) (by kernel_rfl) (by kernel_rfl) (fun _ _ _ h=>h) (yieldsIf_load_mid (by rfl) 122 (.tmp 4) rfl B 0 rfl (recC n f).toList _ (fun X hS=>hS.2.2.2.2.1) hu rfl hi) hHeld ?_
 simp only[Act.put,List.getElem_toArray,List.getElem_cons_zero,List.getElem_cons_succ,List.setIfInBounds_toArray,List.set_cons_zero,List.set_cons_succ]
 refine tk 6 (.int .i64 (k:Int)) rfl hHeld (fun X hS=>by obtain⟨s1,s2,s3,s4,_,_⟩:=hS;go_simp) ?_
 refine tk 8 (.int .u64 x) rfl hHeld (fun X hS=>by obtain⟨s1,s2,s3,s4,_,_⟩:=hS;go_simp) ?_
 refine wpAnyH_ready (rs:=[7]) (by kernel_rfl) (by simp) ?_
 refine AllReadyH.cons rfl (fun K hK=>?_) AllReadyH.nil
 go_simp
 refine(fwidth_any n f hn k hk hm hs _).mono ?_
 rintro e x1 ⟨rfl,hb1⟩
 have g1:=(HO.out.below (B2.out.trans ((Below.refl _ _).drew.mono B2.out.size))).below hb1
 have k1:=((HV2.below (Below.refl _ _).drew).below hb1).all k (by omega)
 have W1:=(Went.of_below HO.out (B2.out.trans (((Below.refl _ _).drew.trans hb1).mono B2.out.size)))
 refine hK.out _ _ k1 (fun hHeld=>?_)
 clear hK
 try simp only[Act.put,List.getElem_toArray,List.getElem_cons_zero,List.getElem_cons_succ,List.setIfInBounds_toArray,List.set_cons_zero,List.set_cons_succ]
 refine wpAnyH_ready (rs:=[9]) (by kernel_rfl) (by simp) ?_
 refine AllReadyH.cons rfl (fun K hK=>?_) AllReadyH.nil
 go_simp
 refine(on_store g1 va vs h1 h2 (f k:Nat) (f (k+1)-f k:Nat) x (by omega) hx).mono ?_
 rintro e x2 ⟨rfl,g2,hw2⟩
 have k2:=(k1.2.2.2.2.2.went g1 hw2).all k (by omega)
 have W2:=W1.trans hw2
 refine hK.out _ _ k2 (fun hHeld=>?_)
 clear hK
 try simp only[Act.put,List.getElem_toArray,List.getElem_cons_zero,List.getElem_cons_succ,List.setIfInBounds_toArray,List.set_cons_zero,List.set_cons_succ]
 refine tk 10 (.int .i64 (numE s.L s.es (addrV va vs (f k:Nat) (f (k+1)-f k:Nat)) (f (k+1)-f k:Nat))) rfl hHeld (fun X hS=>by obtain⟨s1,s2,s3,s4,_,_⟩:=hS;go_simp) ?_
 refine wpAnyH_done (by kernel_rfl) ?_ _
 have HF:=Lib.hid (And.intro g2 W2)
 clear HV2 k1 k2 g1 g2 W1 W2 hw2
 go_wp2_with fail
 go_ret
 exact⟨rfl,HF.out.1,HF.out.2⟩
end
end Go.Proofs.YtpkaehpllldcmaaGreatDoor.Bt
end
