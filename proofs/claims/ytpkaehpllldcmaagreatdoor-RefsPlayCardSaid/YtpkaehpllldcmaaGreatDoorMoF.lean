/- BitsCount, ArMath, ArAt. -/
import Derived.Test.YtpkaehpllldcmaaGreatDoorMoE
section
namespace Go.Proofs.YtpkaehpllldcmaaGreatDoor.Bt
open Go Go.RowKit Go.Shelf
attribute [local go_sem] Oper.semAt_some
def countV (L:Nat) (es:List Nat) (fr n:Int):Int:=if withinB L fr n then(memCount es fr.toNat n.toNat:Int)else 0
def CountPost (L:Nat) (es:List Nat) (fr n:Int) (w:World) (e:Ending) (w':World):Prop:=e=.returned (.tuple #[.int .i64 (countV L es fr n),.int .i64 (laidErr L fr n)])∧Below w.heap.size w w'
theorem cnt_facts {w w1:World} {L m cap:Nat} {p:Option Addr} {fr n:Int} (hb:Below (((w.alloc (.cells #[.int .i64 (L:Int),.slice p m cap] 73)).alloc (.cells #[.int .i64 fr] 3)).alloc (.cells #[.int .i64 n] 3)).heap.size (((w.alloc (.cells #[.int .i64 (L:Int),.slice p m cap] 73)).alloc (.cells #[.int .i64 fr] 3)).alloc (.cells #[.int .i64 n] 3)) w1) (y:World) (hy:Below w1.heap.size w1 y):
 y.cell? ⟨w.heap.size,0,none⟩=some (.int .i64 (L:Int))∧y.cell? ⟨w.heap.size,1,none⟩=some (.slice p m cap)∧y.cell? ⟨w.heap.size+1,0,none⟩=some (.int .i64 fr)∧y.cell? ⟨w.heap.size+1+1,0,none⟩=some (.int .i64 n)∧Below w.heap.size w y∧w.heap.size+3≤w1.heap.size:=by
 obtain⟨h1,h2,h3⟩:=three_new w #[.int .i64 (L:Int),.slice p m cap] #[.int .i64 fr] #[.int .i64 n] 73 3 3
 have hs:(((w.alloc (.cells #[.int .i64 (L:Int),.slice p m cap] 73)).alloc (.cells #[.int .i64 fr] 3)).alloc (.cells #[.int .i64 n] 3)).heap.size=w.heap.size+3:=by simp
 have hB:Below w.heap.size w (((w.alloc (.cells #[.int .i64 (L:Int),.slice p m cap] 73)).alloc (.cells #[.int .i64 fr] 3)).alloc (.cells #[.int .i64 n] 3)):=(((Below.refl _ w).alloc (Nat.le_refl _) _).alloc (by simp) _).alloc (by simp;omega) _
 have hy':=hb.trans (hy.mono hb.size)
 have z1:=(hy'.block _ (by omega)).trans h1
 have z2:=(hy'.block _ (by omega)).trans h2
 have z3:=(hy'.block _ (by omega)).trans h3
 exact⟨(cell_blk z1 0).1,(cell_blk z1 1).1,(cell_blk z2 0).1,(cell_blk z3 0).1,hB.trans (hy'.mono (by omega)),by have:=hb.size;omega⟩
set_option maxRecDepth 100000 in
set_option maxHeartbeats 4000000 in
theorem count_in (L:Nat) (p:Option Addr) (m cap:Nat) (es:List Nat) (fr n:Int) (w:World) (g:Good L es) (hm:m=es.length) (hrow:RowAt w p es) (hw:withinB L fr n=true):
 CallsIn Fence.wide 4 Tryz.prog 48 #[.agg #[.int .i64 L,.slice p m cap],.int .i64 fr,.int .i64 n] w (CountPost L es fr n w):=by
 have hL:=g.small
 have hgl:=good_len g
 have hwi:0≤fr∧0≤n∧n≤L-fr:=by simpa[withinB]using hw
 have HV:Hid (countV L es fr n=sumP fr n (pairs es)):=Lib.hid (by
  unfold countV;rw[hw,if_pos rfl,memCount_sum g,show((fr.toNat:Nat):Int)=fr from by omega,show((n.toNat:Nat):Int)=n from by omega])
 have HE:Hid (laidErr L fr n=0):=Lib.hid (by unfold laidErr;rw[hw];rfl)
 have HW:=Lib.hid hw
 have HM:=Lib.hid hm
 have hml:m≤1048577:=by omega
 clear hm hw
 refine callsIn_of_wp_marks Tryz.func48 rfl trivial ?_ rfl
 simp only[Tryz.ntmps48,List.size_toArray,List.length_cons,List.length_nil,Nat.reduceAdd,Nat.reduceSub,Array.replicate_succ,Array.replicate_zero,List.push_toArray,List.append_toArray,List.nil_append,List.cons_append]
 gi_wp2_with (first|(refine⟨trivial,?_⟩;gi_at_call 87;refine(callsIn_wide.2 (within_any L hL p m cap _ _ (by omega) _)).mono ?_;rw[HW.out];rintro e w1 ⟨rfl,hb1⟩;obtain⟨k0,k1,k2,k3,kB,ksz⟩:=cnt_facts hb1 (w1.alloc (.cells #[.int .i64 0] 3)) ((Below.refl _ _).alloc (Nat.le_refl _) _))|(refine⟨trivial,?_⟩;gi_at_call 88;refine(callsIn_wide.2 (rows_fn L p m cap _)).mono ?_;rintro e w' ⟨rfl,rfl⟩))
 have kT:(w1.alloc (.cells #[.int .i64 0] 3)).cell? ⟨w1.heap.size,0,none⟩=some (.int .i64 0):=by simp
 have kZ:(w1.alloc (.cells #[.int .i64 0] 3)).frozen? ⟨w1.heap.size,0,none⟩=false:=by simp
 have BX:Below w1.heap.size w1 ((w1.alloc (.cells #[.int .i64 0] 3)).alloc (.cells #[.int .i64 (L:Int),.slice p m cap] 73)):=((Below.refl _ _).alloc (Nat.le_refl _) _).alloc (by simp) _
 have hc1:((w1.alloc (.cells #[.int .i64 0] 3)).alloc (.cells #[.int .i64 (L:Int),.slice p m cap] 73)).cell? ⟨w1.heap.size+1,1,none⟩=some (.slice p m cap):=by
  simp
 have hsz:((w1.alloc (.cells #[.int .i64 0] 3)).alloc (.cells #[.int .i64 (L:Int),.slice p m cap] 73)).heap.size=w1.heap.size+2:=by simp
 obtain⟨b,hbl,hbT,hRow⟩:∃b,b<w1.heap.size+2∧b≠w1.heap.size∧RowIn b ((w1.alloc (.cells #[.int .i64 0] 3)).alloc (.cells #[.int .i64 (L:Int),.slice p m cap] 73)) p es:=by
  have hB2:Below w.heap.size w ((w1.alloc (.cells #[.int .i64 0] 3)).alloc (.cells #[.int .i64 (L:Int),.slice p m cap] 73)):=kB.trans (((Below.refl _ _).alloc (Nat.le_refl _) _).mono kB.size)
  rcases hrow with⟨rfl,rfl⟩|⟨b,off,rfl,hlt,hc⟩
  · exact⟨w1.heap.size+1,by omega,by omega,.inl ⟨rfl,rfl⟩⟩
  · exact⟨b,by omega,by omega,.inr ⟨off,rfl,fun k hk=>(hB2.cell (p:=⟨b,off+k,none⟩) hlt).trans (hc k hk)⟩⟩
 refine wpIn_rangeFunc_ownF rfl (by omega) (gf:=125) (lb:=#[.pointer (some ⟨w1.heap.size+1,0,none⟩)]) rfl trivial (enters_of Tryz.func125 (by kernel_rfl) rfl)
  (rows_stops (4-1) (w1.heap.size+1) b L m cap p es g HM.out _ (by rw[hsz];omega) (by rw[hsz];omega) hc1 hRow) K2.trans (K2.put (by rw[hsz];omega) (by rw[hsz];omega)) (Below.refl _ _) (fun _=>rfl)
  (fun pre W=>(W.cell? ⟨w1.heap.size,0,none⟩=some (.int .i64 (sumP fr n pre))∧W.frozen? ⟨w1.heap.size,0,none⟩=false)∧Below w1.heap.size w1 W)
  (fun _ _ _=>False)
  (OwnFrom.and (Own.from (fun s A B row hs hg hr=>⟨cell_kept hs.1 hg hr,(frozen_kept hs.1 hg hr).trans hs.2⟩) _) (ownFrom_below (Nat.le_refl _) (by rw[hsz];omega)))
  (fun _ _ _ _ _ hs _ _=>hs)
  ⟨⟨by rw[((Below.refl _ _).alloc (Nat.le_refl _) _:Below (w1.alloc (.cells #[.int .i64 0] 3)).heap.size _ _).cell (p:=⟨w1.heap.size,0,none⟩) (by simp)];exact kT,by rw[((Below.refl _ _).alloc (Nat.le_refl _) _:Below (w1.alloc (.cells #[.int .i64 0] 3)).heap.size _ _).frozen (p:=⟨w1.heap.size,0,none⟩) (by simp)];exact kZ⟩,BX⟩
  (fun x=>{tmps:=#[.agg #[.int .i64 L,.slice p m cap],.int .i64 fr,.int .i64 n,.pointer (some ⟨w.heap.size,0,none⟩),.pointer (some ⟨w.heap.size+1,0,none⟩),.pointer (some ⟨w.heap.size+1+1,0,none⟩),.int .i64 0,.int .i64 0,.pointer (some ⟨w1.heap.size,0,none⟩),.int .i64 (x.1.1:Int),.int .i64 (x.1.2:Int),undef,undef,.agg #[.int .i64 L,.slice p m cap],.int .i64 fr,.int .i64 n,.bool true,.bool false,.agg #[.int .i64 L,.slice p m cap],.func (.func 125) #[] #[.pointer (some ⟨w1.heap.size+1,0,none⟩)],.int .i64 (x.1.1:Int),.int .i64 (x.1.2:Int),undef,undef,undef,undef,undef,undef,undef,undef,undef,undef,undef,undef,undef,undef,undef,undef,undef],defers:=[]}) ?assign ?body ?done ?stop
 case assign=>
  intro l x W K hK
  simp only[encPr]
  gi_wp2
  exact hK
 case body=>
  rintro l pre x W ⟨⟨hc,hf⟩,hB⟩ hlt
  obtain⟨_,_,q2,q3,qB,_⟩:=cnt_facts hb1 W hB
  have hx:=x.2
  have hsb:=sumP_bd hwi.1 hwi.2.1 (by omega) pre
  have hob:=ovP_bd hwi.1 hwi.2.1 (by omega) x
  have hlen:pre.length<es.length/2:=hlt
  have HOV:Hid (ovP fr n x=ovI fr n x.1.1 ((x.1.1:Int)+x.1.2)):=Lib.hid rfl
  have HSN:=Lib.hid (sumP_snoc fr n pre x)
  obtain⟨⟨a,c⟩,hxx⟩:=x
  simp only at hx HOV⊢
  have hob2:0≤ovI fr n a (a+c)∧ovI fr n a (a+c)≤1048576:=hob
  have hsx:0≤sumP fr n pre+ovI fr n a (a+c)∧sumP fr n pre+ovI fr n a (a+c)≤9223372036854775807:=by omega
  have wa:IntKind.i64.wrap ((a:Int)+c)=a+c:=IntWalk.i64_in _ (by omega)
  have wb:IntKind.i64.wrap (fr+n)=fr+n:=IntWalk.i64_in _ (by omega)
  by_cases g1:(a:Int)<fr
  · by_cases g2:fr+n<(a:Int)+c
    · gi_wp2
      refine round_still_tail 11 (by kernel_rfl) (by kernel_rfl) (by kernel_rfl) ?_
      simp only[List.take_succ_cons,List.take_zero,List.drop_succ_cons,List.drop_zero]
      repeat still_step
      refine wpStill_nil ?_
      clear wa wb
      gi_wp2
      all_goals
       refine⟨(KeepsOthers.drew _).trans (KeepsOthers.setCell _ _ _),⟨Below.heap_setCell W.drew ⟨w1.heap.size,0,none⟩ _ _ (by show w1.heap.size+1≠w1.heap.size;omega),Below.heap_setCell W.drew ⟨w1.heap.size,0,none⟩ _ _ (by exact hbT)⟩,⟨(World.cell?_setCell_same' _ _ _ (by simp[hc])).trans ?_,(World.frozen?_setCell _ _ _ _).trans hf⟩,hB.drew.setCell (p:=⟨w1.heap.size,0,none⟩) (Nat.le_refl _) _⟩
       rw[HSN.out,HOV.out]
       exact congrArg (fun z=>some (Value.int .i64 z)) (by unfold ovI;omega)
    · gi_wp2
      refine round_still_tail 11 (by kernel_rfl) (by kernel_rfl) (by kernel_rfl) ?_
      simp only[List.take_succ_cons,List.take_zero,List.drop_succ_cons,List.drop_zero]
      repeat still_step
      refine wpStill_nil ?_
      clear wa wb
      gi_wp2
      all_goals
       refine⟨(KeepsOthers.drew _).trans (KeepsOthers.setCell _ _ _),⟨Below.heap_setCell W.drew ⟨w1.heap.size,0,none⟩ _ _ (by show w1.heap.size+1≠w1.heap.size;omega),Below.heap_setCell W.drew ⟨w1.heap.size,0,none⟩ _ _ (by exact hbT)⟩,⟨(World.cell?_setCell_same' _ _ _ (by simp[hc])).trans ?_,(World.frozen?_setCell _ _ _ _).trans hf⟩,hB.drew.setCell (p:=⟨w1.heap.size,0,none⟩) (Nat.le_refl _) _⟩
       rw[HSN.out,HOV.out]
       exact congrArg (fun z=>some (Value.int .i64 z)) (by unfold ovI;omega)
  · by_cases g2:fr+n<(a:Int)+c
    · gi_wp2
      refine round_still_tail 11 (by kernel_rfl) (by kernel_rfl) (by kernel_rfl) ?_
      simp only[List.take_succ_cons,List.take_zero,List.drop_succ_cons,List.drop_zero]
      repeat still_step
      refine wpStill_nil ?_
      clear wa wb
      gi_wp2
      all_goals
       refine⟨(KeepsOthers.drew _).trans (KeepsOthers.setCell _ _ _),⟨Below.heap_setCell W.drew ⟨w1.heap.size,0,none⟩ _ _ (by show w1.heap.size+1≠w1.heap.size;omega),Below.heap_setCell W.drew ⟨w1.heap.size,0,none⟩ _ _ (by exact hbT)⟩,⟨(World.cell?_setCell_same' _ _ _ (by simp[hc])).trans ?_,(World.frozen?_setCell _ _ _ _).trans hf⟩,hB.drew.setCell (p:=⟨w1.heap.size,0,none⟩) (Nat.le_refl _) _⟩
       rw[HSN.out,HOV.out]
       exact congrArg (fun z=>some (Value.int .i64 z)) (by unfold ovI;omega)
    · gi_wp2
      refine round_still_tail 11 (by kernel_rfl) (by kernel_rfl) (by kernel_rfl) ?_
      simp only[List.take_succ_cons,List.take_zero,List.drop_succ_cons,List.drop_zero]
      repeat still_step
      refine wpStill_nil ?_
      clear wa wb
      gi_wp2
      all_goals
       refine⟨(KeepsOthers.drew _).trans (KeepsOthers.setCell _ _ _),⟨Below.heap_setCell W.drew ⟨w1.heap.size,0,none⟩ _ _ (by show w1.heap.size+1≠w1.heap.size;omega),Below.heap_setCell W.drew ⟨w1.heap.size,0,none⟩ _ _ (by exact hbT)⟩,⟨(World.cell?_setCell_same' _ _ _ (by simp[hc])).trans ?_,(World.frozen?_setCell _ _ _ _).trans hf⟩,hB.drew.setCell (p:=⟨w1.heap.size,0,none⟩) (Nat.le_refl _) _⟩
       rw[HSN.out,HOV.out]
       exact congrArg (fun z=>some (Value.int .i64 z)) (by unfold ovI;omega)
 case done=>
  rintro D ys W hD rfl ⟨⟨hc,hf⟩,hB⟩ hK
  obtain⟨_,_,q2,q3,qB,_⟩:=cnt_facts hb1 W hB
  gi_wp2
  refine⟨by simp,.inl ⟨_,_,rfl,run_takeDeferred hK,?_⟩⟩
  exact⟨_,results_tmp2 rfl _ _ _,by rw[HV.out,HE.out];rfl,qB.trans ((belowK_b (w:=w1) (Nat.le_refl _) W D _ _ (by rw[hsz]at hD;omega) hK rfl rfl).mono (by omega))⟩
 case stop=>
  rintro D c pre W _ _ h _
  exact h.elim
theorem count_out (L:Nat) (p:Option Addr) (m cap:Nat) (es:List Nat) (fr n:Int) (w:World) (hL:L≤1048576) (hf:fr≤9223372036854775807) (hw:withinB L fr n=false):
 Calls Tryz.prog 48 #[.agg #[.int .i64 L,.slice p m cap],.int .i64 fr,.int .i64 n] w (CountPost L es fr n w):=by
 have HV:Hid (countV L es fr n=0):=Lib.hid (by unfold countV;rw[hw];rfl)
 have HE:Hid (laidErr L fr n=3):=Lib.hid (by unfold laidErr;rw[hw];rfl)
 have HW:=Lib.hid hw;clear hw
 go_enter Tryz.func48,Tryz.ntmps48
 go_wp2_with fail
 refine(within_any L hL p m cap _ _ hf _).mono ?_
 rw[HW.out]
 rintro e w1 ⟨rfl,hb1⟩
 obtain⟨_,_,_,_,kB,_⟩:=cnt_facts hb1 w1 (Below.refl _ _)
 go_wp2_with fail
 go_ret2
 exact⟨by rw[HV.out,HE.out];rfl,kB⟩
theorem count_any (L:Nat) (p:Option Addr) (m cap:Nat) (es:List Nat) (fr n:Int) (w:World) (g:Good L es) (hm:m=es.length) (hrow:RowAt w p es) (hf:fr≤9223372036854775807):
 Calls Tryz.prog 48 #[.agg #[.int .i64 L,.slice p m cap],.int .i64 fr,.int .i64 n] w (CountPost L es fr n w):=by
 cases hw:withinB L fr n with
 |false=>exact count_out L p m cap es fr n w g.small hf hw
 |true=>exact callsIn_wide.1 (count_in L p m cap es fr n w g hm hrow hw)
end Go.Proofs.YtpkaehpllldcmaaGreatDoor.Bt
end
section
namespace Go.Proofs.YtpkaehpllldcmaaGreatDoor.Bt
open Go Go.RowKit
structure ASt where
 L:Nat
 es:List Nat
 mm:Nat→UInt8
 rf:Bool
 lf:Nat
def thereB (L:Nat) (es:List Nat) (a n:Int):Bool:=
 decide (0≤a∧0≤n∧n≤(L:Int)*4096-a)&&(decide (n=0)|| !(firstB L es (a/4096) false&&decide (firstV L es (a/4096) false≤(a+n-1)/4096)))
def thereE (L:Nat) (es:List Nat) (a n:Int):Int:=if thereB L es a n then 0 else 3
theorem mem_of_has {L:Nat} {es:List Nat} {j:Int} (h0:0≤j) (h1:j<L):hasB L es j=mem es j:=by
 unfold hasB;rw[decide_eq_true ⟨h0,h1⟩];rfl
theorem there_iff {L:Nat} {es:List Nat} (g:Good L es) (a n:Int):
 thereB L es a n=true↔0≤a∧0≤n∧a+n≤(L:Int)*4096∧∀i:Int,a≤i→i<a+n→mem es (i/4096)=true:=by
 unfold thereB
 rw[Bool.and_eq_true,decide_eq_true_iff,Bool.or_eq_true,decide_eq_true_iff]
 constructor
 · rintro ⟨⟨h0,h1,h2⟩,h3⟩
   refine⟨h0,h1,by omega,fun i hi hi2=>?_⟩
   rcases h3 with h3|h3
   · omega
   · have hlt:i/4096<(L:Int):=by omega
     rw[←mem_of_has (by omega) hlt]
     cases hb:firstB L es (a/4096) false with
     |true=>
      obtain⟨_,f1,f2,f3,f4⟩:=first_true g hb
      rw[hb]at h3
      have h3':(a+n-1)/4096<firstV L es (a/4096) false:=by simpa using h3
      have:=f4 (i/4096) (by unfold fI;split<;>omega) (by omega)
      simpa using this
     |false=>
      have:=(first_false g hb).2 (i/4096) (by unfold fI;split<;>omega) hlt
      simpa using this
 · rintro ⟨h0,h1,h2,h3⟩
   refine⟨⟨h0,h1,by omega⟩,?_⟩
   by_cases hn:n=0
   · exact .inl hn
   · refine .inr ?_
     cases hb:firstB L es (a/4096) false with
     |false=>rfl
     |true=>
      obtain⟨f0,f1,f2,f3,f4⟩:=first_true g hb
      by_cases hle:firstV L es (a/4096) false≤(a+n-1)/4096
      · exfalso
        have hm:=h3 (max a (4096*firstV L es (a/4096) false)) (by omega) (by omega)
        have hd:max a (4096*firstV L es (a/4096) false)/4096=firstV L es (a/4096) false:=by omega
        rw[hd,←mem_of_has f2 f3,f0]at hm
        cases hm
      · simp[hle]
def pgCells (m:Nat→UInt8) (i:Nat):Array Value:=((List.range 4096).map fun j=>Value.int .u8 ((m (i*4096+j)).toNat:Int)).toArray
theorem pg_size (m:Nat→UInt8) (i:Nat):(pgCells m i).size=4096:=by simp[pgCells]
theorem pg_get (m:Nat→UInt8) (i j:Nat) (hj:j<4096):(pgCells m i)[j]?=some (.int .u8 ((m (i*4096+j)).toNat:Int)):=by simp[pgCells,hj]
theorem pg_ext {m m':Nat→UInt8} {i:Nat} (h:∀j,j<4096→m (i*4096+j)=m' (i*4096+j)):pgCells m i=pgCells m' i:=by
 exact congrArg List.toArray (List.map_congr_left fun j hj=>by rw[h j (List.mem_range.1 hj)])
theorem pg_set {m m':Nat→UInt8} {i j:Nat} (hj:j<4096) {y:UInt8} (h:∀k,k<4096→m' (i*4096+k)=if k=j then y else m (i*4096+k)):
 (pgCells m i).setIfInBounds j (.int .u8 (y.toNat:Int))=pgCells m' i:=by
 apply Array.ext_getElem?
 intro k
 by_cases hk:k<4096
 · rw[pg_get m' i k hk,h k hk,Array.getElem?_setIfInBounds]
   by_cases e:j=k
   · subst e;simp[pg_size,hj]
   · rw[if_neg e,if_neg (Ne.symm e),pg_get m i k hk]
 · rw[Array.getElem?_eq_none (by rw[Array.size_setIfInBounds,pg_size];omega),Array.getElem?_eq_none (by rw[pg_size];omega)]
def putM (m:Nat→UInt8) (a:Nat) (s:List UInt8):Nat→UInt8:=fun i=>if a≤i∧i<a+s.length then s.getD (i-a) 0 else m i
def getM (m:Nat→UInt8) (a n:Nat):List UInt8:=(List.range n).map fun i=>m (a+i)
theorem getM_length (m:Nat→UInt8) (a n:Nat):(getM m a n).length=n:=by simp[getM]
theorem getM_get (m:Nat→UInt8) (a n i:Nat) (h:i<n):(getM m a n).getD i 0=m (a+i):=by simp[getM,List.getD_eq_getElem?_getD,h]
theorem putM_nil (m:Nat→UInt8) (a:Nat):putM m a []=m:=by funext i;simp[putM];omega
theorem putM_out (m:Nat→UInt8) (a:Nat) (s:List UInt8) {i:Nat} (h:i<a∨a+s.length≤i):putM m a s i=m i:=by unfold putM;rw[if_neg (by omega)]
theorem putM_in (m:Nat→UInt8) (a:Nat) (s:List UInt8) {i:Nat} (h:i<s.length):putM m a s (a+i)=s.getD i 0:=by unfold putM;rw[if_pos (by omega),Nat.add_sub_cancel_left]
theorem putM_snoc (m:Nat→UInt8) (a:Nat) (s:List UInt8) (c:UInt8):putM m a (s++[c])=fun i=>if i=a+s.length then c else putM m a s i:=by
 funext i
 unfold putM
 simp only[List.length_append,List.length_singleton]
 by_cases e:i=a+s.length
 · subst e;rw[if_pos (by omega),if_pos rfl];simp[List.getD_eq_getElem?_getD]
 · rw[if_neg e]
   by_cases h:a≤i∧i<a+s.length
   · rw[if_pos (by omega),if_pos h];simp[List.getD_eq_getElem?_getD,List.getElem?_append,show i-a<s.length from by omega]
   · rw[if_neg (by omega),if_neg h]
end Go.Proofs.YtpkaehpllldcmaaGreatDoor.Bt
end
section
namespace Go.Proofs.YtpkaehpllldcmaaGreatDoor.Bt
set_option linter.unusedVariables false
open Go Go.RowKit
def ptrV:Option Nat→Value
 |none=> .pointer none
 |some b=> .pointer (some ⟨b,0,none⟩)
def rowV (ps:List (Option Nat)):Array Value:=(ps.map ptrV).toArray
theorem rowV_get (ps:List (Option Nat)) (i:Nat):(rowV ps)[i]?=(ps[i]?).map ptrV:=by simp[rowV]
theorem rowV_set (ps:List (Option Nat)) (i:Nat) (v:Option Nat):(rowV ps).setIfInBounds i (ptrV v)=rowV (ps.set i v):=by
 simp[rowV,List.map_set]
def headV (s:ASt) (P:Nat) (p:Option Addr) (n cap:Nat):Array Value:=
 #[.int .i64 (s.L:Int),.slice p n cap,.slice (some ⟨P,0,none⟩) s.L s.L,.bool s.rf,.int .i64 (s.lf:Int)]
structure ArX (A:Nat) (s:ASt) (P:Nat) (ps:List (Option Nat)) (p:Option Addr) (n cap:Nat) (x:World):Prop where
 good:Good s.L s.es
 len:ps.length=s.L
 hd:x.heap[A]?=some (.cells (headV s P p n cap) 78 (0,0))
 row:x.heap[P]?=some (.cells (rowV ps) 88 (0,0))
 pg:∀(i b:Nat),ps[i]?=some (some b)→x.heap[b]?=some (.cells (pgCells s.mm i) 90 (0,0))
 no:∀(i:Nat),ps[i]?=some none→∀(j:Nat),j<4096→s.mm (i*4096+j)=0
 un:∀(i b:Nat),ps[i]?=some (some b)→mem s.es (i:Int)=true
 edges:RowAt x p s.es
 num:n=s.es.length
 room:n≤cap
 nil:p=none→cap=0
 ap:A≠P
 apg:∀(i b:Nat),ps[i]?=some (some b)→b≠A∧b≠P
 one:∀(i j b:Nat),ps[i]?=some (some b)→ps[j]?=some (some b)→i=j
 eap:∀b off,p=some ⟨b,off,none⟩→b≠A∧b≠P∧∀i:Nat,ps[i]?≠some (some b)
 lfb:s.lf≤9223372036854775807
def Own (A P:Nat) (ps:List (Option Nat)) (k:Nat):Prop:=k=A∨k=P∨∃i:Nat,ps[i]?=some (some k)
structure Step (A P:Nat) (ps ps':List (Option Nat)) (w w':World):Prop where
 os:w'.os=w.os
 tape:w'.tape=w.tape
 output:w'.output=w.output
 size:w.heap.size≤w'.heap.size
 block:∀k,k<w.heap.size→¬Own A P ps k→w'.heap[k]?=w.heap[k]?
 news:∀i b:Nat,ps'[i]?=some (some b)→ps[i]?=some (some b)∨w.heap.size≤b
theorem Step.refl (A P:Nat) (ps:List (Option Nat)) (w:World):Step A P ps ps w w:=⟨rfl,rfl,rfl,Nat.le_refl _,fun _ _ _=>rfl,fun _ _ h=> .inl h⟩
theorem Step.of_below {A P:Nat} {ps:List (Option Nat)} {w w':World} (h:Below w.heap.size w w'):Step A P ps ps w w':=
 ⟨h.os,h.tape,h.output,h.size,fun k hk _=>h.block k hk,fun _ _ h=> .inl h⟩
theorem Step.trans {A P:Nat} {ps ps1 ps2:List (Option Nat)} {w w1 w2:World} (h:Step A P ps ps1 w w1) (k:Step A P ps1 ps2 w1 w2):Step A P ps ps2 w w2:=by
 refine⟨k.os.trans h.os,k.tape.trans h.tape,k.output.trans h.output,Nat.le_trans h.size k.size,fun i hi hn=>?_,fun i b hb=>?_⟩
 · refine(k.block i (Nat.lt_of_lt_of_le hi h.size) fun ho=>?_).trans (h.block i hi hn)
   rcases ho with rfl|rfl|⟨j,hj⟩
   · exact hn (.inl rfl)
   · exact hn (.inr (.inl rfl))
   · rcases h.news j i hj with h1|h1
     · exact hn (.inr (.inr ⟨j,h1⟩))
     · omega
 · rcases k.news i b hb with h1|h1
   · exact h.news i b h1
   · exact .inr (Nat.le_trans h.size h1)
theorem Step.below {A P B:Nat} {ps ps':List (Option Nat)} {w w':World} (h:Step A P ps ps' w w') (hB:B≤w.heap.size) (hA:B≤A) (hP:B≤P) (hp:∀i b:Nat,ps[i]?=some (some b)→B≤b):Below B w w':=
 ⟨h.os,h.tape,h.output,h.size,fun k hk=>h.block k (by omega) fun ho=>by
  rcases ho with rfl|rfl|⟨j,hj⟩
  · omega
  · omega
  · have:=hp j k hj;omega⟩
theorem ArX.kept {A P n cap:Nat} {s:ASt} {ps:List (Option Nat)} {p:Option Addr} {x y:World} (h:ArX A s P ps p n cap x)
 (hs:x.heap.size≤y.heap.size) (hA:y.heap[A]?=x.heap[A]?) (hP:y.heap[P]?=x.heap[P]?) (hp:∀i b:Nat,ps[i]?=some (some b)→y.heap[b]?=x.heap[b]?) (he:∀b off,p=some ⟨b,off,none⟩→y.heap[b]?=x.heap[b]?):ArX A s P ps p n cap y:=
 {h with
  hd:=hA.trans h.hd
  row:=hP.trans h.row
  pg:=fun i b hb=>(hp i b hb).trans (h.pg i b hb)
  edges:=h.edges.keep he}
theorem ArX.ltA {A P n cap:Nat} {s:ASt} {ps:List (Option Nat)} {p:Option Addr} {x:World} (h:ArX A s P ps p n cap x):A<x.heap.size:=(Array.getElem?_eq_some_iff.1 h.hd).1
theorem ArX.ltP {A P n cap:Nat} {s:ASt} {ps:List (Option Nat)} {p:Option Addr} {x:World} (h:ArX A s P ps p n cap x):P<x.heap.size:=(Array.getElem?_eq_some_iff.1 h.row).1
theorem ArX.ltG {A P n cap:Nat} {s:ASt} {ps:List (Option Nat)} {p:Option Addr} {x:World} (h:ArX A s P ps p n cap x) {i b:Nat} (hb:ps[i]?=some (some b)):b<x.heap.size:=(Array.getElem?_eq_some_iff.1 (h.pg i b hb)).1
theorem ArX.ltE {A P n cap:Nat} {s:ASt} {ps:List (Option Nat)} {p:Option Addr} {x:World} (h:ArX A s P ps p n cap x) {b off:Nat} (hb:p=some ⟨b,off,none⟩):b<x.heap.size:=by
 have:=h.edges;rw[hb]at this;exact this.lt
theorem ArX.below {A P n cap:Nat} {s:ASt} {ps:List (Option Nat)} {p:Option Addr} {x y:World} (h:ArX A s P ps p n cap x) (hb:Below x.heap.size x y):ArX A s P ps p n cap y:=
 h.kept hb.size (hb.block _ h.ltA) (hb.block _ h.ltP) (fun _ _ e=>hb.block _ (h.ltG e)) (fun _ _ e=>hb.block _ (h.ltE e))
def Head (A P:Nat) (s:ASt) (p:Option Addr) (n cap:Nat) (x:World):Prop:=
 x.cell? ⟨A,0,none⟩=some (.int .i64 (s.L:Int))∧x.cell? ⟨A,1,none⟩=some (.slice p n cap)∧x.cell? ⟨A,2,none⟩=some (.slice (some ⟨P,0,none⟩) s.L s.L)∧x.cell? ⟨A,3,none⟩=some (.bool s.rf)∧x.cell? ⟨A,4,none⟩=some (.int .i64 (s.lf:Int))
theorem ArX.head {A P n cap:Nat} {s:ASt} {ps:List (Option Nat)} {p:Option Addr} {x:World} (h:ArX A s P ps p n cap x):Head A P s p n cap x:=
 ⟨(cell_blk h.hd 0).1,(cell_blk h.hd 1).1,(cell_blk h.hd 2).1,(cell_blk h.hd 3).1,(cell_blk h.hd 4).1⟩
theorem ArX.free {A P n cap:Nat} {s:ASt} {ps:List (Option Nat)} {p:Option Addr} {x:World} (h:ArX A s P ps p n cap x) (o:Nat):x.frozen? ⟨A,o,none⟩=false:=(cell_blk h.hd o).2
theorem ArX.slot {A P n cap:Nat} {s:ASt} {ps:List (Option Nat)} {p:Option Addr} {x:World} (h:ArX A s P ps p n cap x) {i:Nat} {q:Option Nat} (hq:ps[i]?=some q):x.cell? ⟨P,i,none⟩=some (ptrV q):=by
 rw[(cell_blk h.row i).1,rowV_get,hq];rfl
theorem ArX.byte {A P n cap:Nat} {s:ASt} {ps:List (Option Nat)} {p:Option Addr} {x:World} (h:ArX A s P ps p n cap x) {i b j:Nat} (hq:ps[i]?=some (some b)) (hj:j<4096):x.cell? ⟨b,j,none⟩=some (.int .u8 ((s.mm (i*4096+j)).toNat:Int)):=by
 rw[(cell_blk (h.pg i b hq) j).1,pg_get _ _ _ hj]
theorem ArX.paged {A P n cap:Nat} {s:ASt} {ps:List (Option Nat)} {p:Option Addr} {x y:World} (h:ArX A s P ps p n cap x) {i b:Nat} (hb:ps[i]?=some (some b)) {m':Nat→UInt8}
 (hs:x.heap.size≤y.heap.size) (hy:y.heap[b]?=some (.cells (pgCells m' i) 90 (0,0))) (ho:∀k,k<x.heap.size→k≠b→y.heap[k]?=x.heap[k]?) (hm:∀k,k/4096≠i→m' k=s.mm k):
 ArX A {s with mm:=m'} P ps p n cap y:=by
 have hbA:=h.apg i b hb
 exact{h with
  hd:=(ho A h.ltA (Ne.symm hbA.1)).trans h.hd
  row:=(ho P h.ltP (Ne.symm hbA.2)).trans h.row
  pg:=fun j c hc=>by
   by_cases e:c=b
   · subst e
     have hij:=h.one i j c hb hc
     subst hij
     exact hy
   · refine(ho c (h.ltG hc) e).trans ((h.pg j c hc).trans ?_)
     have hij:i≠j:=fun e2=>by subst e2;rw[hb]at hc;cases hc;exact e rfl
     rw[pg_ext fun k hk=>(hm (j*4096+k) (by omega)).symm]
  no:=fun j hj k hk=>by
   have hij:i≠j:=fun e2=>by subst e2;rw[hb]at hj;cases hj
   show m' _=0
   rw[hm _ (by omega)];exact h.no j hj k hk
  edges:=h.edges.keep fun c off e=>by
   have hc:=h.eap c off e
   exact ho c (h.ltE e) fun e2=>hc.2.2 i (by rw[e2];exact hb)}
theorem heap_set {x:World} {b o:Nat} {c:Array Value} {T:TypeId} {fr:Nat × Nat} (h:x.heap[b]?=some (.cells c T fr)) (v:Value):(x.setCell ⟨b,o,none⟩ v).heap[b]?=some (.cells (c.setIfInBounds o v) T fr):=by
 simp[World.setCell,Array.getElem?_modify,h]
theorem heap_new (x:World) (o:Obj):(x.alloc o).heap[x.heap.size]?=some o:=by
 show(x.heap.push o)[x.heap.size]?=_
 simp
theorem set_size (x:World) (a:Addr) (v:Value):(x.setCell a v).heap.size=x.heap.size:=by simp[World.setCell]
def Turned (A P:Nat) (ps:List (Option Nat)) (p:Option Addr) (s':ASt) (w w':World):Prop:=
 ∃ps' p' n' cap',ArX A s' P ps' p' n' cap' w'∧Step A P ps ps' w w'∧(∀b off,p'=some ⟨b,off,none⟩→p'=p∨w.heap.size≤b)
theorem Turned.trans {A P:Nat} {ps:List (Option Nat)} {p:Option Addr} {s' s2:ASt} {w w1 w2:World} {ps1:List (Option Nat)} {p1:Option Addr} (st:Step A P ps ps1 w w1) (hp1:∀b off,p1=some ⟨b,off,none⟩→p1=p∨w.heap.size≤b)
 (h:Turned A P ps1 p1 s2 w1 w2):Turned A P ps p s2 w w2:=by
 obtain⟨ps',p',n',cap',h1,h2,h3⟩:=h
 refine⟨ps',p',n',cap',h1,st.trans h2,fun b off e=>?_⟩
 rcases h3 b off e with h4|h4
 · rw[h4]at e⊢;exact hp1 b off e
 · exact .inr (Nat.le_trans st.size h4)
end Go.Proofs.YtpkaehpllldcmaaGreatDoor.Bt
end
