import Derived.Test.YtpkaehpllldcmaaGreatDoorMoA
import Derived.Test.YtpkaehpllldcmaaGreatDoorMoI
import Derived.Test.YtpkaehpllldcmaaGreatDoorMoJ
namespace Go.Proofs.YtpkaehpllldcmaaGreatDoor.Bt
open Go Go.RowKit Go.Shelf
set_option linter.unusedVariables false
set_option linter.unusedSimpArgs false
attribute [local go_sem] Oper.semAt_some
def covM {a n:Nat} (m:Nat→UInt8) (str:List UInt8) (l:List (Pc a n)):Nat→UInt8:=fun k=>if a≤k∧k<a+n∧cov l (k-a)=true then str.getD (k-a) 0 else m k
theorem covM_nil {a n:Nat} (m:Nat→UInt8) (str:List UInt8):covM (a:=a) (n:=n) m str []=m:=by
 funext k;unfold covM;rw[if_neg (by rintro ⟨_,_,h⟩;cases h)]
theorem covM_all {a n:Nat} (m:Nat→UInt8) (str:List UInt8) (hs:str.length=n) (l:List (Pc a n)) (h:∀i,i<n→cov l i=true):covM m str l=putM m a str:=by
 funext k;unfold covM putM
 by_cases hk:a≤k∧k<a+n
 · rw[if_pos ⟨hk.1,hk.2,h _ (by omega)⟩,if_pos (by omega)]
 · rw[if_neg (by rintro ⟨x,y,_⟩;exact hk ⟨x,y⟩),if_neg (by omega)]
theorem covM_snoc {a n:Nat} (m:Nat→UInt8) (str:List UInt8) (l:List (Pc a n)) (x:Pc a n) (k:Nat):
 covM m str (l++[x]) k=if a+x.1.1≤k∧k<a+x.1.1+x.1.2 then str.getD (k-a) 0 else covM m str l k:=by
 have hx:=x.2
 unfold covM
 rw[cov_snoc]
 by_cases h1:a+x.1.1≤k∧k<a+x.1.1+x.1.2
 · rw[if_pos h1,if_pos ⟨by omega,by omega,by rw[decide_eq_true (by omega),Bool.or_true]⟩]
 · rw[if_neg h1]
   by_cases h2:a≤k∧k<a+n∧cov l (k-a)=true
   · rw[if_pos h2,if_pos ⟨h2.1,h2.2.1,by rw[h2.2.2,Bool.true_or]⟩]
   · rw[if_neg h2,if_neg]
     rintro ⟨x1,x2,x3⟩
     rw[Bool.or_eq_true,decide_eq_true_iff]at x3
     rcases x3 with x3|x3
     · exact h2 ⟨x1,x2,x3⟩
     · omega
def strV (str:List UInt8) (d k:Nat):List Value:=(List.range k).map fun j=>Value.int .u8 ((str.getD (d+j) 0).toNat:Int)
theorem strV_length (str:List UInt8) (d k:Nat):(strV str d k).length=k:=by simp[strV]
theorem page_put {a n:Nat} (m:Nat→UInt8) (str:List UInt8) (l:List (Pc a n)) (x:Pc a n) {g1 g2:Nat} (h1:(a+x.1.1)/4096=g1) (h2:(a+x.1.1)%4096=g2):
 ((pgCells (covM m str l) g1).toList.take g2++strV str x.1.1 x.1.2++(pgCells (covM m str l) g1).toList.drop (g2+x.1.2)).toArray=pgCells (covM m str (l++[x])) g1:=by
 have hx:=x.2
 have hlen:(pgCells (covM m str l) g1).toList.length=4096:=by rw[Array.length_toList,pg_size]
 apply Array.ext_getElem?
 intro i
 by_cases hi:i<4096
 · rw[pg_get _ _ i hi,covM_snoc,List.getElem?_toArray]
   by_cases c1:i<g2
   · rw[List.append_assoc,List.getElem?_append_left (by rw[List.length_take];omega),List.getElem?_take,if_pos c1,Array.getElem?_toList,pg_get _ _ i hi,if_neg (by omega)]
   · by_cases c2:i<g2+x.1.2
     · rw[List.append_assoc,List.getElem?_append_right (by rw[List.length_take];omega),List.length_take,hlen,List.getElem?_append_left (by rw[strV_length];omega),if_pos (by omega)]
       have e:i-min g2 4096=i-g2:=by omega
       have e2:g1*4096+i-a=x.1.1+(i-g2):=by omega
       rw[e,e2]
       simp only[strV,List.getElem?_map]
       rw[List.getElem?_range (by omega)]
       rfl
     · rw[List.getElem?_append_right (by simp only[List.length_append,List.length_take,strV_length,hlen];omega)]
       simp only[List.length_append,List.length_take,strV_length,hlen]
       rw[List.getElem?_drop,Array.getElem?_toList,if_neg (by omega)]
       have e:g2+x.1.2+(i-(min g2 4096+x.1.2))=i:=by omega
       rw[e,pg_get _ _ i hi]
 · rw[Array.getElem?_eq_none (by simp only[List.size_toArray,List.length_append,List.length_take,List.length_drop,strV_length,hlen];omega),Array.getElem?_eq_none (by rw[pg_size];omega)]
theorem copy_str (W:World) (b g m:Nat) (cur:Array Value) (T:TypeId) (hb:W.heap[b]?=some (.cells cur T (0,0))) (s:ByteArray) (d:Nat) (hm:d+m≤s.size) (hfit:g+m≤cur.size) (c:Nat) (ty:TypeId):
 (Builtin.copy_ #[173,9] ty #[.slice (some ⟨b,g,none⟩) m c,.string (s.extract d s.size)]).run Tryz.prog W=
  .ok (goInt m) (W.setRow b (cur.toList.take g++strV s.data.toList d m++cur.toList.drop (g+m)).toArray):=by
 obtain⟨i0,hi,hz0,hz1,hz2⟩:=info_parts Tryz.infoByte
 have hst:=run_storeCells_at Tryz.prog b g T (strV s.data.toList d m) 0 cur W hb (by rw[strV_length];omega) (fun v hv=>by simp only[strV,List.mem_map]at hv;obtain⟨_,_,rfl⟩:=hv;rfl)
 have hsz:(s.extract d s.size).size=s.size-d:=by simp[ByteArray.size_extract]
 have hmin:Nat.min (s.size-d) m=m:=Nat.min_eq_right (by omega)
 have hcs:List.take (min (d+m) s.size-d) (List.drop d (List.map (fun b=>Value.int .u8 ((b:UInt8).toNat:Int)) s.data.toList))=strV s.data.toList d m:=by
  have hl:s.data.toList.length=s.size:=by rw[Array.length_toList];rfl
  rw[show min (d+m) s.size-d=m from by omega]
  apply List.ext_getElem?
  intro j
  by_cases hj:j<m
  · rw[List.getElem?_take,if_pos hj,List.getElem?_drop,List.getElem?_map]
    simp only[strV,List.getElem?_map]
    have e:s.data.toList[d+j]?=some (s.data.toList.getD (d+j) 0):=by rw[List.getD_eq_getElem?_getD,List.getElem?_eq_getElem (by omega)];rfl
    rw[List.getElem?_range hj,e]
    rfl
  · rw[List.getElem?_take,if_neg hj,List.getElem?_eq_none (by rw[strV_length];omega)]
 simp only[Nat.add_zero,strV_length]at hst
 simp[Builtin.copy_,run_underlying Tryz.underlying173,Builtin.lenOf,Builtin.firstCells,sizeOf,typeInfo,hi,hsz,hmin]
 rw[hcs,hst]
 simp[Result.andThen,List.append_assoc]
theorem own_not {A P n cap:Nat} {s:ASt} {ps:List (Option Nat)} {p:Option Addr} {x:World} (h:ArX A s P ps p n cap x) {k:Nat} {c:Array Value} {T:TypeId} {fr:Nat × Nat} (hk:x.heap[k]?=some (.cells c T fr))
 (h1:T≠78) (h2:T≠88) (h3:T≠90):¬Own A P ps k:=by
 rintro (rfl|rfl|⟨i,hi⟩)
 · rw[h.hd]at hk;simp only[Option.some.injEq,Obj.cells.injEq]at hk;exact h1 hk.2.1.symm
 · rw[h.row]at hk;simp only[Option.some.injEq,Obj.cells.injEq]at hk;exact h2 hk.2.1.symm
 · rw[h.pg i k hi]at hk;simp only[Option.some.injEq,Obj.cells.injEq]at hk;exact h3 hk.2.1.symm
theorem own_cells {A P n cap:Nat} {s:ASt} {ps:List (Option Nat)} {p:Option Addr} {x:World} (h:ArX A s P ps p n cap x) {k:Nat} {o:Obj} (hk:x.heap[k]?=some o) (ho:o.isCells=false):¬Own A P ps k:=by
 rintro (rfl|rfl|⟨i,hi⟩)
 · rw[h.hd]at hk;simp only[Option.some.injEq]at hk;rw[←hk]at ho;cases ho
 · rw[h.row]at hk;simp only[Option.some.injEq]at hk;rw[←hk]at ho;cases ho
 · rw[h.pg i k hi]at hk;simp only[Option.some.injEq]at hk;rw[←hk]at ho;cases ho
theorem Step.others {A P n cap:Nat} {s:ASt} {ps ps':List (Option Nat)} {p:Option Addr} {x y:World} (h:ArX A s P ps p n cap x) (st:Step A P ps ps' x y):KeepsOthers x y:=
 ⟨st.size,fun k o hk ho=>(st.block k (Array.getElem?_eq_some_iff.1 hk).1 (own_cells h hk ho)).trans hk⟩
theorem Step.setRow {A P n cap:Nat} {s:ASt} {ps:List (Option Nat)} {p:Option Addr} {x:World} {i b:Nat} (hb:ps[i]?=some (some b)) (c:Array Value):Step A P ps ps x (x.setRow b c):=
 ⟨rfl,rfl,rfl,by rw[setRow_size];exact Nat.le_refl _,fun k _ hn=>setRow_other _ _ _ _ (fun e=>hn (.inr (.inr ⟨i,by rw[e];exact hb⟩))),fun _ _ e=> .inl e⟩
theorem ArX.grown {A P n cap:Nat} {s:ASt} {ps:List (Option Nat)} {p:Option Addr} {x y:World} {row:Option Nat} (h:ArX A s P ps p n cap x) (hg:x.grownBy y row) (hr:∀r,row=some r→∃o:Obj,x.heap[r]?=some o∧o.isCells=false):ArX A s P ps p n cap y:=by
 exact{h with
  hd:=(grownBy_keeps_cells hg hr h.hd rfl).trans h.hd
  row:=(grownBy_keeps_cells hg hr h.row rfl).trans h.row
  pg:=fun i b hb=>(grownBy_keeps_cells hg hr (h.pg i b hb) rfl).trans (h.pg i b hb)
  edges:=by
   rcases h.edges with he|⟨b,off,he,hlt,hc⟩
   · exact .inl he
   · exact .inr ⟨b,off,he,Nat.lt_of_lt_of_le hlt hg.size,fun k hk=>cell_kept (hc k hk) hg hr⟩}
theorem Step.grown {A P:Nat} {ps ps':List (Option Nat)} {w x y:World} {row:Option Nat} (h:Step A P ps ps' w x) (hg:x.grownBy y row) (hr:∀r,row=some r→w.heap.size≤r):Step A P ps ps' w y:=
 ⟨hg.os.trans h.os,hg.tape.trans h.tape,hg.output.trans h.output,Nat.le_trans h.size hg.size,fun k hk hn=>(hg.block k (Nat.lt_of_lt_of_le hk h.size) (fun e=>by have:=hr k e.symm;omega)).trans (h.block k hk hn),h.news⟩
section
variable {A P n cap:Nat} {s:ASt} {ps:List (Option Nat)} {p:Option Addr} {w:World}
def putS (s:ASt) (a:Int) (x:List UInt8):ASt:=if thereE s.L s.es a x.length=0 then{s with mm:=putM s.mm a.toNat x}else s
def PutPost (A P:Nat) (s:ASt) (ps:List (Option Nat)) (p:Option Addr) (a:Int) (x:List UInt8) (w:World) (e:Ending) (w':World):Prop:=
 e=.returned (.int .i64 (thereE s.L s.es a x.length))∧Turned A P ps p (putS s a x) w w'
set_option maxRecDepth 100000 in
set_option maxHeartbeats 4000000 in
theorem put_yes (h:ArX A s P ps p n cap w) (a:Nat) (x:ByteArray) (hx:x.size≤9223372036854775807) (hn:thereE s.L s.es a x.size=0):
 CallsIn Fence.wide 4 Tryz.prog 52 #[.pointer (some ⟨A,0,none⟩),.int .i64 a,.string x] w (PutPost A P s ps p a x.data.toList w):=by
 have ht:thereB s.L s.es a x.size=true:=by
  unfold thereE at hn
  cases hq:thereB s.L s.es a x.size with
  |true=>rfl
  |false=>rw[hq]at hn;cases hn
 obtain⟨t0,t1,t2,t3⟩:=(there_iff h.good a x.size).1 ht
 have HM:Hid (∀i:Int,a≤i→i<a+x.size→mem s.es (i/4096)=true):=Lib.hid t3
 have hsm:=h.good.small
 have hk32:x.size≤4294967296:=by omega
 have ha32:a≤4294967296:=by omega
 have hlx:x.data.toList.length=x.size:=by rw[Array.length_toList];rfl
 have HNU:=Lib.hid hn
 have HLX:=Lib.hid hlx
 have HX:=Lib.hid h
 have hltA:=h.ltA
 clear t3 hn ht h hlx
 refine callsIn_of_wp_marks Tryz.func52 rfl trivial ?_ rfl
 simp only[Tryz.ntmps52,List.size_toArray,List.length_cons,List.length_nil,Nat.reduceAdd,Nat.reduceSub,Array.replicate_succ,Array.replicate_zero,List.push_toArray,List.append_toArray,List.nil_append,List.cons_append]
 gi_wp2_with fail
 obtain⟨w0,hw0⟩:∃w0,(w.alloc (.cells #[.pointer (some ⟨A,0,none⟩)] 25)).alloc (.cells #[.string x] 9)=w0:=⟨_,rfl⟩
 have B0:Below w.heap.size w w0:=by rw[←hw0];exact((Below.refl w.heap.size w).alloc (Nat.le_refl _) _).alloc (by simp) _
 have hs0:w0.heap.size=w.heap.size+2:=by rw[←hw0];simp
 have hbA:w0.heap[w.heap.size]?=some (.cells #[.pointer (some ⟨A,0,none⟩)] 25 (0,0)):=by
  rw[←hw0,Below.heap_alloc _ _ _ (by simp)];exact heap_new _ _
 have hbX:w0.heap[w.heap.size+1]?=some (.cells #[.string x] 9 (0,0)):=by
  rw[←hw0];have:=heap_new (w.alloc (.cells #[.pointer (some ⟨A,0,none⟩)] 25)) (.cells #[.string x] 9);simpa using this
 rw[hw0]
 clear hw0
 refine⟨trivial,(callsIn_wide.2 (there_any (HX.out.below B0) a x.size (by omega))).mono ?_⟩
 rintro e w1 ⟨rfl,hb1⟩
 rw[HNU.out]
 have B1:Below w.heap.size w w1:=B0.trans (hb1.mono (by omega))
 have hs1:w.heap.size+2≤w1.heap.size:=by have:=hb1.size;omega
 have gbA:=(hb1.block _ (by omega)).trans hbA
 have gbX:=(hb1.block _ (by omega)).trans hbX
 have c0:w1.cell? ⟨w.heap.size,0,none⟩=some (.pointer (some ⟨A,0,none⟩)):=(cell_blk gbA 0).1
 have cx:w1.cell? ⟨w.heap.size+1,0,none⟩=some (.string x):=(cell_blk gbX 0).1
 clear hb1 hbA hbX hs0
 gi_wp2_with (refine⟨trivial,?_⟩;gi_at_call 92;refine(callsIn_wide.2 (pieces_fn a x.size _)).mono ?_;rintro e w' ⟨rfl,rfl⟩)
 obtain⟨w2,hw2⟩:∃w2,(w1.alloc (.cells #[.int .i64 (a:Int)] 3)).alloc (.cells #[.int .i64 (x.size:Int)] 3)=w2:=⟨_,rfl⟩
 have hsz:w2.heap.size=w1.heap.size+2:=by rw[←hw2];simp
 have hB2:Below w1.heap.size w1 w2:=by rw[←hw2];exact((Below.refl _ w1).alloc (Nat.le_refl _) _).alloc (by simp) _
 have gBa:w2.heap[w1.heap.size]?=some (.cells #[.int .i64 (a:Int)] 3 (0,0)):=by
  rw[←hw2,Below.heap_alloc _ _ _ (by simp)];exact heap_new _ _
 have gBn:w2.heap[w1.heap.size+1]?=some (.cells #[.int .i64 (x.size:Int)] 3 (0,0)):=by
  rw[←hw2];have:=heap_new (w1.alloc (.cells #[.int .i64 (a:Int)] 3)) (.cells #[.int .i64 (x.size:Int)] 3);simpa using this
 have fbA:=(hB2.block _ (by omega)).trans gbA
 have fbX:=(hB2.block _ (by omega)).trans gbX
 have BW2:Below w.heap.size w w2:=B1.trans (hB2.mono B1.size)
 rw[hw2]
 clear hw2 c0 cx gbA gbX
 refine wpIn_rangeFunc_ownH rfl (by omega) (gf:=127) (lb:=#[.pointer (some ⟨w1.heap.size+1,0,none⟩),.pointer (some ⟨w1.heap.size,0,none⟩)]) rfl trivial (enters_of Tryz.func127 (by kernel_rfl) rfl)
  (pieces_stops (4-1) (w1.heap.size+1) w1.heap.size a x.size hk32 ha32 w2 (by omega) (by omega) (cell_blk gBn 0).1 (cell_blk gBa 0).1) K2.trans (K2.put (by omega) (by omega)) (Below.refl _ _) (fun _=>rfl)
  (fun pre W=>((∃ps',ArX A {s with mm:=covM s.mm x.data.toList pre} P ps' p n cap W∧Step A P ps ps' w W)∧(W.heap[w.heap.size]?=some (.cells #[.pointer (some ⟨A,0,none⟩)] 25 (0,0))∧W.heap[w.heap.size+1]?=some (.cells #[.string x] 9 (0,0))∧W.heap[w1.heap.size]?=some (.cells #[.int .i64 (a:Int)] 3 (0,0))∧W.heap[w1.heap.size+1]?=some (.cells #[.int .i64 (x.size:Int)] 3 (0,0))))∧w2.heap.size≤W.heap.size)
  (fun _ _ _=>False)
  (OwnFrom.and (OwnFrom.and (fun pre X Y row hs hg hr=>by
   obtain⟨ps',h1,h2⟩:=hs
   exact⟨ps',h1.grown hg (fun r e=>(hr r e).2),h2.grown hg (fun r e=>Nat.le_trans BW2.size (hr r e).1)⟩)
   (fun pre X Y row hs hg hr=>⟨(grownBy_keeps_cells hg (fun r e=>(hr r e).2) hs.1 rfl).trans hs.1,(grownBy_keeps_cells hg (fun r e=>(hr r e).2) hs.2.1 rfl).trans hs.2.1,(grownBy_keeps_cells hg (fun r e=>(hr r e).2) hs.2.2.1 rfl).trans hs.2.2.1,(grownBy_keeps_cells hg (fun r e=>(hr r e).2) hs.2.2.2 rfl).trans hs.2.2.2⟩))
   (fun pre X Y row hs hg hr=>Nat.le_trans hs hg.size))
  (fun _ _ _ _ _ hs _ _=>hs)
  ⟨⟨⟨ps,by rw[covM_nil];exact HX.out.below BW2,Step.of_below BW2⟩,fbA,fbX,gBa,gBn⟩,Nat.le_refl _⟩
  (fun y a' W=>∃V,w2.heap.size≤V∧a'={tmps:=#[.pointer (some ⟨A,0,none⟩),.int .i64 a,.string x,.pointer (some ⟨w.heap.size,0,none⟩),undef,.pointer (some ⟨w.heap.size+1,0,none⟩),.int .i64 0,.int .i64 0,.int .i64 (y.1.1:Int),.pointer (some ⟨V,0,none⟩),.pointer (some ⟨A,0,none⟩),.int .i64 a,.string x,.int .i64 (x.size:Int),.int .i64 0,.int .i64 0,.bool false,undef,.int .i64 a,.string x,.int .i64 (x.size:Int),.func (.func 127) #[] #[.pointer (some ⟨w1.heap.size+1,0,none⟩),.pointer (some ⟨w1.heap.size,0,none⟩)],.int .i64 (y.1.1:Int),.agg #[.int .i64 (((a+y.1.1)/4096:Nat):Int),.int .i64 (((a+y.1.1)%4096:Nat):Int),.int .i64 (((a+y.1.1)%4096+y.1.2:Nat):Int)],undef,undef,undef,undef,undef,undef,undef,undef,undef,undef,undef,undef,undef,undef],defers:=[]}∧W.heap[V]?=some (.cells #[.int .i64 (((a+y.1.1)/4096:Nat):Int),.int .i64 (((a+y.1.1)%4096:Nat):Int),.int .i64 (((a+y.1.1)%4096+y.1.2:Nat):Int)] 178 (0,0)))
  (fun y a' _ X Y row hs hg hr=>by
   obtain⟨V,h1,h2,h3⟩:=hs
   exact⟨V,h1,h2,(grownBy_keeps_cells hg (fun r e=>(hr r e).2) h3 rfl).trans h3⟩)
  ?assign ?body ?done ?stop
 case assign=>
  intro l pre y W K hI hK
  simp only[encPc]
  generalize (a+y.1.1)%4096+y.1.2=g3 at*
  generalize (a+y.1.1)/4096=g1 at*
  generalize (a+y.1.1)%4096=g2 at*
  obtain⟨⟨⟨ps',i1,i2⟩,iA,iX,ia,ik⟩,iS⟩:=hI
  have IA:=Lib.hid iA;have IX:=Lib.hid iX;have Ia:=Lib.hid ia;have Ik:=Lib.hid ik
  clear iA iX ia ik
  gi_wp2
  exact hK _ _ ((KeepsOthers.alloc _ _).from _) ⟨Below.heap_alloc _ _ _ (by omega),Below.heap_alloc _ _ _ (by omega)⟩
   ⟨⟨⟨ps',i1.below ((Below.refl _ _).alloc (Nat.le_refl _) _),i2.trans (Step.of_below ((Below.refl _ _).alloc (Nat.le_refl _) _))⟩,(Below.heap_alloc _ _ _ (by omega)).trans IA.out,(Below.heap_alloc _ _ _ (by omega)).trans IX.out,(Below.heap_alloc _ _ _ (by omega)).trans Ia.out,(Below.heap_alloc _ _ _ (by omega)).trans Ik.out⟩,by simp;omega⟩
   ⟨W.heap.size,iS,rfl,heap_new _ _⟩
 case body=>
  rintro l pre y a' W hl hlr ⟨⟨⟨ps',hxA,hst⟩,iA,iX,ia,ik⟩,iS⟩ ⟨V,hV,rfl,hcV⟩ hlen
  obtain⟨hy0,hy1,hy2⟩:=y.2
  have hVlt:V<W.heap.size:=(Array.getElem?_eq_some_iff.1 hcV).1
  have hi:(a+y.1.1)/4096<s.L:=by omega
  have hm':mem s.es (((a+y.1.1)/4096:Nat):Int)=true:=by
   have:=HM.out ((a+y.1.1:Nat):Int) (by omega) (by omega)
   rw[show((((a+y.1.1)/4096:Nat)):Int)=((a+y.1.1:Nat):Int)/4096 from by omega];exact this
  obtain⟨d,hd⟩:∃d,y.1.1=d:=⟨_,rfl⟩
  obtain⟨m,hm⟩:∃m,y.1.2=m:=⟨_,rfl⟩
  obtain⟨g1,hg1⟩:∃g1,(a+d)/4096=g1:=⟨_,rfl⟩
  obtain⟨g2,hg2⟩:∃g2,(a+d)%4096=g2:=⟨_,rfl⟩
  simp only[hd,hm]at hy0 hy1 hy2 hi hm' hcV⊢
  simp only[hg1,hg2]at hy2 hi hm' hcV⊢
  have HD:=Lib.hid hd;have HMm:=Lib.hid hm;have HG1:=Lib.hid hg1;have HG2:=Lib.hid hg2
  clear hd hm hg1 hg2
  have IA:=Lib.hid iA;have IX:=Lib.hid iX;have Ia:=Lib.hid ia;have Ik:=Lib.hid ik;have HCV:=Lib.hid hcV
  have HXA:=Lib.hid hxA
  have z1:(d:Int)≤(x.size:Int):=by omega
  have z2:d≤x.size:=by omega
  have HSP:=fun b=>slice_page b g2 m hy0 hy2
  have hS0:(fun X:World=>X.cell? ⟨w.heap.size,0,none⟩=some (.pointer (some ⟨A,0,none⟩))∧X.cell? ⟨w.heap.size+1,0,none⟩=some (.string x)∧X.cell? ⟨V,0,none⟩=some (.int .i64 (g1:Int))∧X.cell? ⟨V,1,none⟩=some (.int .i64 (g2:Int))∧X.cell? ⟨V,2,none⟩=some (.int .i64 ((g2+m:Nat):Int))) W.drew:=
   ⟨(cell_blk (w:=W.drew) iA 0).1,(cell_blk (w:=W.drew) iX 0).1,(cell_blk (w:=W.drew) hcV 0).1,(cell_blk (w:=W.drew) hcV 1).1,(cell_blk (w:=W.drew) hcV 2).1⟩
  clear iA iX ia ik hcV hxA
  gi_wp2_with fail
  refine round_held (fun X:World=>X.cell? ⟨w.heap.size,0,none⟩=some (.pointer (some ⟨A,0,none⟩))∧X.cell? ⟨w.heap.size+1,0,none⟩=some (.string x)∧X.cell? ⟨V,0,none⟩=some (.int .i64 (g1:Int))∧X.cell? ⟨V,1,none⟩=some (.int .i64 (g2:Int))∧X.cell? ⟨V,2,none⟩=some (.int .i64 ((g2+m:Nat):Int))) (by kernel_rfl) (by kernel_rfl) (fun⟨_,_,h⟩=>h) ?_
  refine tk 0 (.pointer (some ⟨A,0,none⟩)) rfl hS0 (fun X hS=>by obtain⟨s1,s2,s3,s4,s5⟩:=hS;go_simp) ?_
  refine tk 1 (.pointer (some ⟨V,0,none⟩)) rfl hS0 (fun X hS=>by obtain⟨s1,s2,s3,s4,s5⟩:=hS;go_simp) ?_
  refine tk 2 (.int .i64 (g1:Int)) rfl hS0 (fun X hS=>by obtain⟨s1,s2,s3,s4,s5⟩:=hS;go_simp) ?_
  refine tk 5 (.pointer (some ⟨V,1,none⟩)) rfl hS0 (fun X hS=>by obtain⟨s1,s2,s3,s4,s5⟩:=hS;go_simp) ?_
  refine tk 6 (.int .i64 (g2:Int)) rfl hS0 (fun X hS=>by obtain⟨s1,s2,s3,s4,s5⟩:=hS;go_simp) ?_
  refine tk 7 (.pointer (some ⟨V,2,none⟩)) rfl hS0 (fun X hS=>by obtain⟨s1,s2,s3,s4,s5⟩:=hS;go_simp) ?_
  refine tk 8 (.int .i64 ((g2+m:Nat):Int)) rfl hS0 (fun X hS=>by obtain⟨s1,s2,s3,s4,s5⟩:=hS;go_simp) ?_
  refine tk 10 (.string x) rfl hS0 (fun X hS=>by obtain⟨s1,s2,s3,s4,s5⟩:=hS;go_simp) ?_
  refine tk 11 (.int .i64 (d:Int)) rfl hS0 (fun X hS=>by obtain⟨s1,s2,s3,s4,s5⟩:=hS;go_simp) ?_
  refine tk 12 (.string (x.extract d x.size)) rfl hS0 (fun X hS=>by obtain⟨s1,s2,s3,s4,s5⟩:=hS;go_simp) ?_
  refine rd [3] (AllReadyH.cons rfl (fun K1 hK1=>?_) AllReadyH.nil)
  go_simp
  refine(laid_page (HXA.out.below (Below.refl _ _).drew) g1 hi hm').mono ?_
  rintro e W2 ⟨b,ps2,rfl,hpb,hx2,hs2⟩
  have hxd:=HXA.out.below (Below.refl W.heap.size W).drew
  have hltW:∀k,k<w2.heap.size→k<W.drew.heap.size:=fun k hk=>Nat.lt_of_lt_of_le hk iS
  have JA:=Lib.hid ((hs2.block _ (hltW _ (by omega)) (own_not hxd (k:=w.heap.size) IA.out (by decide) (by decide) (by decide))).trans IA.out)
  have JX:=Lib.hid ((hs2.block _ (hltW _ (by omega)) (own_not hxd (k:=w.heap.size+1) IX.out (by decide) (by decide) (by decide))).trans IX.out)
  have Ja:=Lib.hid ((hs2.block _ (hltW _ (by omega)) (own_not hxd (k:=w1.heap.size) Ia.out (by decide) (by decide) (by decide))).trans Ia.out)
  have Jk:=Lib.hid ((hs2.block _ (hltW _ (by omega)) (own_not hxd (k:=w1.heap.size+1) Ik.out (by decide) (by decide) (by decide))).trans Ik.out)
  have JV:=Lib.hid ((hs2.block V hVlt (own_not hxd (k:=V) HCV.out (by decide) (by decide) (by decide))).trans HCV.out)
  have hS1:(fun X:World=>X.cell? ⟨w.heap.size,0,none⟩=some (.pointer (some ⟨A,0,none⟩))∧X.cell? ⟨w.heap.size+1,0,none⟩=some (.string x)∧X.cell? ⟨V,0,none⟩=some (.int .i64 (g1:Int))∧X.cell? ⟨V,1,none⟩=some (.int .i64 (g2:Int))∧X.cell? ⟨V,2,none⟩=some (.int .i64 ((g2+m:Nat):Int))) W2:=
   ⟨(cell_blk JA.out 0).1,(cell_blk JX.out 0).1,(cell_blk JV.out 0).1,(cell_blk JV.out 1).1,(cell_blk JV.out 2).1⟩
  have HPB:=Lib.hid hpb;have HX2:=Lib.hid hx2;have HS2:=Lib.hid hs2
  have HBN:=fun(k:Nat) (c:Array Value) (T:TypeId) (hk:W2.heap[k]?=some (.cells c T (0,0))) (h1:T≠78) (h2:T≠88) (h3:T≠90)=>(fun e=>own_not hx2 hk h1 h2 h3 (.inr (.inr ⟨g1,by rw[e];exact hpb⟩)):k≠b)
  have hpg2:=Lib.hid (hx2.pg g1 b hpb)
  have HCP:Hid (∀ty,(Builtin.copy_ #[173,9] ty #[.slice (some ⟨b,g2,none⟩) m (4096-g2),.string (x.extract d x.size)]).run Tryz.prog W2=.ok (goInt m) (W2.setRow b (pgCells (covM s.mm x.data.toList (pre++[y])) g1))):=Lib.hid fun ty=>by
   have h:=copy_str W2 b g2 m _ _ hpg2.out x d hy1 (by rw[pg_size];exact hy2) (4096-g2) ty
   have e:=page_put s.mm x.data.toList pre y (g1:=g1) (g2:=g2) (by rw[HD.out];exact HG1.out) (by rw[HD.out];exact HG2.out)
   rw[HD.out,HMm.out]at e
   rw[h]
   exact congrArg (fun c=>Result.ok (goInt m) (W2.setRow b c)) e
  clear hpb hx2 hs2 hxd hltW
  refine hK1.out _ _ hS1 (fun _=>?_)
  clear hK1
  try simp only[Act.put,List.getElem_toArray,List.getElem_cons_zero,List.getElem_cons_succ,List.setIfInBounds_toArray,List.set_cons_zero,List.set_cons_succ]
  refine tk 4 (.pointer (some ⟨b,0,none⟩)) rfl hS1 (fun X hS=>by obtain⟨s1,s2,s3,s4,s5⟩:=hS;go_simp) ?_
  have HSPb:=HSP b
  clear HSP
  refine tk 9 (.slice (some ⟨b,g2,none⟩) m (4096-g2)) rfl hS1 (fun X hS=>by obtain⟨s1,s2,s3,s4,s5⟩:=hS;go_simp) ?_
  have HCP2:=HCP.out
  refine rd [13] (AllReadyH.cons rfl (fun K2 hK2=>?_) AllReadyH.nil)
  go_simp
  have hS2:(fun X:World=>X.cell? ⟨w.heap.size,0,none⟩=some (.pointer (some ⟨A,0,none⟩))∧X.cell? ⟨w.heap.size+1,0,none⟩=some (.string x)∧X.cell? ⟨V,0,none⟩=some (.int .i64 (g1:Int))∧X.cell? ⟨V,1,none⟩=some (.int .i64 (g2:Int))∧X.cell? ⟨V,2,none⟩=some (.int .i64 ((g2+m:Nat):Int))) (W2.setRow b (pgCells (covM s.mm x.data.toList (pre++[y])) g1)):=
   ⟨(cell_blk ((setRow_other _ _ _ _ (HBN _ _ _ JA.out (by decide) (by decide) (by decide))).trans JA.out) 0).1,(cell_blk ((setRow_other _ _ _ _ (HBN _ _ _ JX.out (by decide) (by decide) (by decide))).trans JX.out) 0).1,
    (cell_blk ((setRow_other _ _ _ _ (HBN _ _ _ JV.out (by decide) (by decide) (by decide))).trans JV.out) 0).1,(cell_blk ((setRow_other _ _ _ _ (HBN _ _ _ JV.out (by decide) (by decide) (by decide))).trans JV.out) 1).1,(cell_blk ((setRow_other _ _ _ _ (HBN _ _ _ JV.out (by decide) (by decide) (by decide))).trans JV.out) 2).1⟩
  refine hK2.out _ _ hS2 (fun _=>?_)
  clear hK2 hS1 hS2
  refine wpAnyH_done (by kernel_rfl) ?_ _
  have hstR:Step A P ps2 ps2 W2 (W2.setRow b (pgCells (covM s.mm x.data.toList (pre++[y])) g1)):=Step.setRow (n:=n) (cap:=cap) (s:=s) (p:=p) HPB.out _
  have hWD:Step A P ps' ps2 W W2:=(Step.of_below (Below.refl _ _).drew).trans HS2.out
  refine⟨((Step.others HXA.out hWD).trans (Step.others HX2.out hstR)).from _,⟨?_,?_⟩,⟨⟨ps2,?_,(hst.trans hWD).trans hstR⟩,?_,?_,?_,?_⟩,?_⟩
  · exact(setRow_other _ _ _ _ (HBN _ _ _ Jk.out (by decide) (by decide) (by decide))).trans (Jk.out.trans Ik.out.symm)
  · exact(setRow_other _ _ _ _ (HBN _ _ _ Ja.out (by decide) (by decide) (by decide))).trans (Ja.out.trans Ia.out.symm)
  · have hpd:=HX2.out.paged (m':=covM s.mm x.data.toList (pre++[y])) HPB.out (by rw[setRow_size];exact Nat.le_refl _) (setRow_heap _ _ _ _ _ _ hpg2.out) (fun k _ hk=>setRow_other _ _ _ _ hk) (fun k hk=>by
     rw[covM_snoc,if_neg]
     have h1:=HD.out;have h2:=HMm.out;have h3:=HG1.out;have h4:=HG2.out
     rw[h1,h2]
     omega)
    exact hpd
  · exact(setRow_other _ _ _ _ (HBN _ _ _ JA.out (by decide) (by decide) (by decide))).trans JA.out
  · exact(setRow_other _ _ _ _ (HBN _ _ _ JX.out (by decide) (by decide) (by decide))).trans JX.out
  · exact(setRow_other _ _ _ _ (HBN _ _ _ Ja.out (by decide) (by decide) (by decide))).trans Ja.out
  · exact(setRow_other _ _ _ _ (HBN _ _ _ Jk.out (by decide) (by decide) (by decide))).trans Jk.out
  · rw[setRow_size];exact Nat.le_trans iS hWD.size
 case done=>
  rintro D xs W hD hS ⟨⟨⟨ps',hxA,hst⟩,iA,iX,ia,ik⟩,iS⟩ hK
  rw[covM_all s.mm x.data.toList HLX.out xs hS]at hxA
  have HXA:=Lib.hid hxA;have HST:=Lib.hid hst
  clear hxA hst iA iX ia ik
  gi_wp2_with fail
  have hg:=grownBy_putObj' W D (.deferred none)
  have hr:∀r,some D=some r→∃o:Obj,W.heap[r]?=some o∧o.isCells=false:=fun r e=>by cases e;exact⟨_,hK,rfl⟩
  refine⟨by simp,.inl ⟨_,_,rfl,run_takeDeferred hK,?_⟩⟩
  refine⟨_,results_tmp rfl _ _ _,?_,ps',p,n,cap,?_,HST.out.grown hg (fun r e=>by cases e;exact Nat.le_trans BW2.size hD),fun _ _ _=> .inl rfl⟩
  · rw[HLX.out,HNU.out];rfl
  · unfold putS
    rw[HLX.out,HNU.out,if_pos rfl,Int.toNat_natCast]
    exact HXA.out.grown hg hr
 case stop=>
  rintro D c pre W _ _ h _
  exact h.elim
end
end Go.Proofs.YtpkaehpllldcmaaGreatDoor.Bt
