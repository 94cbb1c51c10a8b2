import Derived.Test.YtpkaehpllldcmaaGreatDoorMoA
import Derived.Test.YtpkaehpllldcmaaGreatDoorMoO
import Derived.Deep.MidRow
import Derived.Deep.DeepCutAuto
import Derived.Deep.RegionHeld3
namespace Go.Proofs.YtpkaehpllldcmaaGreatDoor.Bt
open Go Go.RowKit Go.Shelf
set_option linter.unusedVariables false
set_option linter.unusedSimpArgs false
def upTo (m:Nat→UInt8) (i:Nat):Nat→UInt8:=fun k=>if k/4096<i then m k else 0
theorem upTo_zero (m:Nat→UInt8):upTo m 0=fun _=>0:=by funext k;simp[upTo]
def Twin (A' P':Nat) (s:ASt) (p:Option Addr) (n cap i:Nat) (w wr:World):Prop:=
 ∃qs,ArX A' {s with mm:=upTo s.mm i} P' qs p n cap wr∧(∀j b:Nat,qs[j]?=some (some b)→w.heap.size≤b)∧Below w.heap.size w wr∧w.heap.size≤A'∧w.heap.size≤P'
theorem page_size:(Tryz.prog.info? 90).map (·.size)=some 4096:=by kernel_rfl
theorem pg_one (m:Nat→UInt8) (i:Nat):(pgCells m i).all (·.oneCell')=true:=by
 rw[Array.all_eq_true_iff_forall_mem]
 intro v hv
 simp only[pgCells,List.mem_toArray,List.mem_map]at hv
 obtain⟨j,_,rfl⟩:=hv
 rfl
theorem pg_range {x:World} {b:Nat} {m:Nat→UInt8} {i:Nat} (h:x.heap[b]?=some (.cells (pgCells m i) 90 (0,0))):x.rangeAt b 0 (pgCells m i).toList:=fun j v hv=>by
 rw[Nat.zero_add,(cell_blk h j).1,←Array.getElem?_toList];exact hv
theorem bel1' (w:World) (o:Obj):Below w.heap.size w (w.alloc o):=(Below.refl _ _).alloc (Nat.le_refl _) _
theorem pairs_new2 (x:World) (a b:Array Value) (T U:TypeId):((x.alloc (.cells a T)).alloc (.cells b U)).heap[x.heap.size]?=some (.cells a T (0,0))∧((x.alloc (.cells a T)).alloc (.cells b U)).heap[x.heap.size+1]?=some (.cells b U (0,0)):=by
 refine⟨(Below.heap_alloc _ _ _ (by simp)).trans (heap_new _ _),?_⟩
 have h:=heap_new (x.alloc (.cells a T)) (.cells b U)
 rwa [show(x.alloc (.cells a T)).heap.size=x.heap.size+1 from by simp]at h
section
variable {A P n cap:Nat} {s:ASt} {ps:List (Option Nat)} {p:Option Addr} {w:World}
def ClonePost (A:Nat) (s:ASt) (w:World) (e:Ending) (w':World):Prop:=
 ∃A',e=.returned (.pointer (some ⟨A',0,none⟩))∧On A' s w'∧Below w.heap.size w w'∧w.heap.size≤A'∧(∀k,OwnW A' w' k→w.heap.size≤k)∧∀k,EdgW A' w' k→EdgW A w k
theorem twin_start (h:ArX A s P ps p n cap w) (w2:World) (hw:(w.alloc (.cells (headV s (w.heap.size+1) p n cap) 78)).alloc (.cells (rowV (List.replicate s.L none)) 88)=w2):
 Twin w.heap.size (w.heap.size+1) s p n cap 0 w w2:=by
 have hno:∀(i b:Nat),(List.replicate s.L (none:Option Nat))[i]?≠some (some b):=fun i b h=>by
  rw[List.getElem?_replicate]at h;split at h<;>cases h
 obtain⟨g1,g2⟩:=pairs_new2 w (headV s (w.heap.size+1) p n cap) (rowV (List.replicate s.L none)) 78 88
 rw[hw]at g1 g2
 have hb:Below w.heap.size w w2:=by
  rw[←hw];exact((Below.refl _ w).alloc (Nat.le_refl _) _).alloc (by simp) _
 refine⟨List.replicate s.L none,?_,fun j b h=>absurd h (hno j b),hb,Nat.le_refl _,by omega⟩
 exact{
  good:=h.good
  len:=by simp
  hd:=g1
  row:=g2
  pg:=fun i b h=>absurd h (hno i b)
  no:=fun i _ j _=>by rw[upTo_zero]
  un:=fun i b h=>absurd h (hno i b)
  edges:=h.edges.keep fun b off e=>hb.block b (h.ltE e)
  num:=h.num
  room:=h.room
  nil:=h.nil
  ap:=by omega
  apg:=fun i b h=>absurd h (hno i b)
  one:=fun i j b h _=>absurd h (hno i b)
  eap:=fun b off e=>⟨by have:=h.ltE e;omega,by have:=h.ltE e;omega,fun i=>hno i b⟩
  lfb:=h.lfb}
theorem ArX.congr {A P n cap:Nat} {s:ASt} {ps:List (Option Nat)} {p:Option Addr} {x:World} (h:ArX A s P ps p n cap x) {m':Nat→UInt8} (e:∀k,k<s.L*4096→s.mm k=m' k):ArX A {s with mm:=m'} P ps p n cap x:=by
 have lt:∀{i:Nat} {q:Option Nat},ps[i]?=some q→i<s.L:=fun{i q} hq=>by
  have:=(List.getElem?_eq_some_iff.1 hq).1;rwa [h.len]at this
 exact{h with
  pg:=fun i b hb=>by
   have hi:=lt hb
   rw[h.pg i b hb,pg_ext fun j hj=>e (i*4096+j) (by omega)]
  no:=fun i hi j hj=>by
   have hl:=lt hi
   show m' _=0
   rw[←e _ (by omega)];exact h.no i hi j hj}
theorem Twin.skip (h:ArX A s P ps p n cap w) {A' P' i:Nat} {wr:World} (t:Twin A' P' s p n cap i w wr) (hq:ps[i]?=some none):Twin A' P' s p n cap (i+1) w wr:=by
 obtain⟨qs,hx,h1,h3⟩:=t
 have e:upTo s.mm (i+1)=upTo s.mm i:=by
  funext k
  unfold upTo
  by_cases e1:k/4096<i
  · rw[if_pos e1,if_pos (by omega)]
  · rw[if_neg e1]
    by_cases e2:k/4096=i
    · rw[if_pos (by omega)]
      have:=h.no i hq (k%4096) (by omega)
      rwa [show i*4096+k%4096=k by omega]at this
    · rw[if_neg (by omega)]
 exact⟨qs,by rw[e];exact hx,h1,h3⟩
theorem Twin.more {A' P' i b:Nat} {qs:List (Option Nat)} {x:World} (hx:ArX A' {s with mm:=upTo s.mm i} P' qs p n cap x) (hb:qs[i]?=some (some b)) (h1:∀j b:Nat,qs[j]?=some (some b)→w.heap.size≤b)
 (h3:Below w.heap.size w x) (h4:w.heap.size≤A'∧w.heap.size≤P'):Twin A' P' s p n cap (i+1) w (x.setRow b (pgCells s.mm i)):=by
 refine⟨qs,?_,h1,⟨h3.os,h3.tape,h3.output,by rw[size_setRow];exact h3.size,fun k hk=>(setRow_other _ _ _ _ (by have:=h1 i b hb;omega)).trans (h3.block k hk)⟩,h4⟩
 refine hx.paged (m':=upTo s.mm (i+1)) hb (by rw[size_setRow];exact Nat.le_refl _) ?_ (fun k _ hk=>setRow_other _ _ _ _ hk) (fun k hk=>?_)
 · rw[setRow_heap _ _ _ _ _ _ (hx.pg i b hb)]
   rw[pg_ext (m:=s.mm) (m':=upTo s.mm (i+1)) fun j hj=>by unfold upTo;rw[if_pos (by omega)]]
 · show upTo s.mm (i+1) k=upTo s.mm i k
   unfold upTo
   by_cases e1:k/4096<i
   · rw[if_pos e1,if_pos (by omega)]
   · rw[if_neg e1,if_neg (by omega)]
set_option maxRecDepth 100000 in
set_option maxHeartbeats 4000000 in
theorem clone_any (h:ArX A s P ps p n cap w):Calls Tryz.prog 18 #[.pointer (some ⟨A,0,none⟩)] w (ClonePost A s w):=by
 have hsm:=h.good.small
 have hmk:=run_pages s.L hsm
 obtain⟨c0,c1,c2,c3,c4⟩:=h.head
 have HX:=Lib.hid h
 clear h
 have hA:=HX.out.ltA
 have d2:(w.alloc (.cells #[.int .i64 (s.L:Int),.slice p n cap,.slice (some ⟨P,0,none⟩) s.L s.L,.bool s.rf,.int .i64 (s.lf:Int)] 78)).cell? ⟨A,2,none⟩=some (.slice (some ⟨P,0,none⟩) s.L s.L):=
  ((bel1' w _).cell (p:=⟨A,2,none⟩) hA).trans c2
 have d3:((w.alloc (.cells #[.int .i64 (s.L:Int),.slice p n cap,.slice (some ⟨w.heap.size+1,0,none⟩) s.L s.L,.bool s.rf,.int .i64 (s.lf:Int)] 78)).alloc (.cells (rowV (List.replicate s.L none)) 88)).cell? ⟨A,2,none⟩=some (.slice (some ⟨P,0,none⟩) s.L s.L):=
  ((((Below.refl _ w).alloc (Nat.le_refl _) _).alloc (by simp) _).cell (p:=⟨A,2,none⟩) hA).trans c2
 have HST:=Lib.hid (twin_start HX.out _ rfl)
 go_enter Tryz.func18,Tryz.ntmps18
 go_wp2_with fail
 go_loopw[23] (fun i wr=>∃k:Nat,k≤s.L∧i=.int .i64 (k:Int)∧Twin w.heap.size (w.heap.size+1) s p n cap k w wr) (fun i _=>s.L-(intOf i).toNat)
 case atStart=>exact⟨0,Nat.zero_le _,rfl,HST.out⟩
 case round=>
  clear HST d2 d3 c0 c1 c2 c3 c4 hmk
  obtain⟨k,hk,rfl,ht⟩:=hrel
  by_cases hlt:k<s.L
  · have hkl:k<ps.length:=by rw[HX.out.len];exact hlt
    have hbw:=ht.choose_spec.2.2.1
    cases hq:ps[k]? with
    |none=>rw[List.getElem?_eq_none_iff]at hq;omega
    |some q=>
     have hsl:=(HX.out.below hbw).slot hq
     cases q with
     |none=>
      simp only[ptrV]at hsl
      have HT:=Lib.hid (ht.skip HX.out hq)
      clear hq ht hbw
      go_wp2_with fail
      go_roundw
      case rel=>exact⟨k+1,by omega,by go_num,HT.out⟩
      case measure=>simp[intOf];omega
     |some b=>
      simp only[ptrV]at hsl
      have hpg:=(HX.out.below hbw).pg k b hq
      have hbl:=HX.out.ltG hq
      have hmem:=HX.out.un k b hq
      have HPG:=Lib.hid hpg
      have HT:=Lib.hid ht
      have HU:Hid ((Tryz.prog.info? 90).map (·.size)=some (pgCells s.mm k).toList.length):=Lib.hid (by rw[page_size];simp[pgCells])
      have HQ:=Lib.hid (And.intro hq (And.intro hbl hmem))
      clear hq ht hbw hpg hbl hmem
      go_upto_region 9 with fail
      clear hsl
      have hS0:(fun X:World=>X.rangeAt b 0 (pgCells s.mm k).toList∧X.heap[b]?=some (.cells (pgCells s.mm k) 90 (0,0))) wr.drew:=⟨pg_range (x:=wr.drew) HPG.out,HPG.out⟩
      refine wp_region_held_drew (S:=fun X:World=>X.rangeAt b 0 (pgCells s.mm k).toList∧X.heap[b]?=some (.cells (pgCells s.mm k) 90 (0,0))) (by kernel_rfl) hS0 (fun hHeld=>?_)
      clear hS0
      refine tk 0 (.int .i64 (k:Int)) rfl hHeld (fun X hS=>by go_simp) ?_
      refine tk 2 (.pointer (some ⟨b,0,none⟩)) rfl hHeld (fun X hS=>by go_simp) ?_
      refine tk 3 (.pointer (some ⟨b,0,none⟩)) rfl hHeld (fun X hS=>by go_simp) ?_
      refine wpAnyH_take (i:=4) (v:=.agg (pgCells s.mm k)) rfl (by kernel_rfl) (by kernel_rfl) (by kernel_rfl) (fun _ _ _ h=>h) (yieldsIf_load_mid (by rfl) 90 (.tmp 33) rfl b 0 rfl (pgCells s.mm k).toList _ (fun X hS=>hS.1) Tryz.underlying90 rfl HU.out) hHeld ?_
      try simp only[Act.put,List.getElem_toArray,List.getElem_cons_zero,List.getElem_cons_succ,List.setIfInBounds_toArray,List.set_cons_zero,List.set_cons_succ]
      refine rd [1] (AllReadyH.cons rfl (fun K1 hK1=>?_) AllReadyH.nil)
      go_simp
      obtain⟨qs,hx,h1q,hbw,hA1,hP1⟩:=HT.out
      have hxd:ArX w.heap.size {s with mm:=upTo s.mm k} (w.heap.size+1) qs p n cap wr.drew:=hx.below (Below.refl _ _).drew
      refine(laid_page hxd k hlt HQ.out.2.2).mono ?_
      rintro e x1 ⟨b2,qs2,rfl,hqb,hx1,hst⟩
      have hnb:b≠b2:=fun e=>by
       rcases hst.news k b2 hqb with h5|h5
       · have:=h1q k b2 h5;have:=HQ.out.2.1;omega
       · have:=HQ.out.2.1;have h6:wr.heap.size≤b2:=h5;have:=hbw.size;omega
      have hno:¬Own w.heap.size (w.heap.size+1) qs b:=fun ho=>by
       have:=HQ.out.2.1
       rcases ho with h5|h5|⟨j,h5⟩
       · omega
       · omega
       · have:=h1q j b h5;omega
      have hpg1:=(hst.block b (Nat.lt_of_lt_of_le HQ.out.2.1 hbw.size) hno).trans HPG.out
      have hS1:(fun X:World=>X.rangeAt b 0 (pgCells s.mm k).toList∧X.heap[b]?=some (.cells (pgCells s.mm k) 90 (0,0))) x1:=⟨pg_range hpg1,hpg1⟩
      have HM:Hid (Twin w.heap.size (w.heap.size+1) s p n cap (k+1) w (x1.setRow b2 (pgCells s.mm k))):=Lib.hid (Twin.more hx1 hqb (fun j c hc=>by
       rcases hst.news j c hc with h5|h5
       · exact h1q j c h5
       · exact Nat.le_trans hbw.size h5) (hbw.drew.trans (hst.below hbw.size hA1 hP1 h1q)) ⟨hA1,hP1⟩)
      have HX1:=Lib.hid (hx1.pg k b2 hqb)
      have HS2:Hid ((fun X:World=>X.rangeAt b 0 (pgCells s.mm k).toList∧X.heap[b]?=some (.cells (pgCells s.mm k) 90 (0,0))) (x1.setRow b2 (pgCells s.mm k))):=Lib.hid (by
       have h7:=(setRow_other x1 b2 b (pgCells s.mm k) hnb).trans hpg1
       exact⟨pg_range h7,h7⟩)
      clear hHeld hx h1q hbw hA1 hP1 hxd hqb hx1 hst hnb hno hpg1
      refine hK1.out _ _ hS1 (fun hHeld=>?_)
      clear hK1 hS1
      try simp only[Act.put,List.getElem_toArray,List.getElem_cons_zero,List.getElem_cons_succ,List.setIfInBounds_toArray,List.set_cons_zero,List.set_cons_succ]
      refine tk 5 (.pointer (some ⟨b2,0,none⟩)) rfl hHeld (fun X hS=>by go_simp) ?_
      refine rd [6] (AllReadyH.cons rfl (fun K2 hK2=>?_) AllReadyH.nil)
      rw[if_pos (by rfl)]
      refine wp_store_row 90 (.tmp 35) (.tmp 34) rfl b2 (pgCells s.mm k) rfl rfl 90 (pgCells (upTo s.mm k) k) HX1.out (by rw[page_size,pg_size]) (by rw[pg_size,pg_size]) (pg_one _ _) ?_
      refine hK2.out _ _ HS2.out (fun _=>?_)
      clear hK2 hHeld HX1 HS2 HPG
      try simp only[Act.put,List.getElem_toArray,List.getElem_cons_zero,List.getElem_cons_succ,List.setIfInBounds_toArray,List.set_cons_zero,List.set_cons_succ]
      refine wpAnyH_done (by kernel_rfl) ?_ _
      go_wp2_with fail
      go_roundw
      case rel=>exact⟨k+1,by omega,by go_num,HM.out⟩
      case measure=>simp[intOf];omega
  · have hk2:k=s.L:=by omega
    subst hk2
    have HT:=Lib.hid ht
    clear ht
    go_wp2_with fail
    go_ret
    obtain⟨qs,hx,h1q,hbw,hA1,hP1⟩:=HT.out
    have hx2:=hx.congr (m':=s.mm) fun i hi=>by show upTo s.mm s.L i=s.mm i;unfold upTo;rw[if_pos (by have:i<s.L*4096:=hi;omega)]
    refine⟨w.heap.size,rfl,⟨_,_,_,_,_,hx2⟩,hbw,Nat.le_refl _,fun i ho=>?_,fun i he=>?_⟩
    · rcases(ownW_iff hx2 i).1 ho with h5|h5|⟨j,h5⟩
      · omega
      · omega
      · exact h1q j i h5
    · obtain⟨off,h5⟩:=(edgW_iff hx2 i).1 he
      exact(edgW_iff HX.out i).2 ⟨off,h5⟩
end
end Go.Proofs.YtpkaehpllldcmaaGreatDoor.Bt
