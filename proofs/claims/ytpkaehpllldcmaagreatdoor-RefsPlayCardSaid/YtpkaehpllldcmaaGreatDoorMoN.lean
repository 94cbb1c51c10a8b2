/- ArFill, VwFill. -/
import Derived.Test.YtpkaehpllldcmaaGreatDoorMoA
import Derived.Test.YtpkaehpllldcmaaGreatDoorMoL
import Derived.Test.YtpkaehpllldcmaaGreatDoorMoJ
import Derived.Test.YtpkaehpllldcmaaGreatDoorMoM
section
namespace Go.Proofs.YtpkaehpllldcmaaGreatDoor.Bt
open Go Go.RowKit Go.Shelf
set_option linter.unusedVariables false
set_option linter.unusedSimpArgs false
attribute [local go_sem] Oper.semAt_some
section
variable {A P n cap:Nat} {s:ASt} {ps:List (Option Nat)} {p:Option Addr} {w:World}
def fillS (s:ASt) (a k:Int) (y:UInt8):ASt:=if thereE s.L s.es a k=0 then{s with mm:=putM s.mm a.toNat (List.replicate k.toNat y)}else s
def FillPost (A P:Nat) (s:ASt) (ps:List (Option Nat)) (p:Option Addr) (a k:Int) (y:UInt8) (w:World) (e:Ending) (w':World):Prop:=
 e=.returned (.int .i64 (thereE s.L s.es a k))∧Turned A P ps p (fillS s a k y) w w'
set_option maxRecDepth 100000 in
set_option maxHeartbeats 4000000 in
theorem fill_yes (h:ArX A s P ps p n cap w) (a:Nat) (N:Nat) (y:UInt8) (hn:thereE s.L s.es a N=0):
 CallsIn Fence.wide 4 Tryz.prog 94 #[.pointer (some ⟨A,0,none⟩),.int .i64 a,.int .i64 N,.int .u8 (y.toNat:Int)] w (FillPost A P s ps p a N y w):=by
 have ht:thereB s.L s.es a N=true:=by
  unfold thereE at hn
  cases hq:thereB s.L s.es a N with
  |true=>rfl
  |false=>rw[hq]at hn;cases hn
 obtain⟨t0,t1,t2,t3⟩:=(there_iff h.good a N).1 ht
 have HM:Hid (∀i:Int,a≤i→i<a+N→mem s.es (i/4096)=true):=Lib.hid t3
 have hsm:=h.good.small
 have hk32:N≤4294967296:=by omega
 have ha32:a≤4294967296:=by omega
 have HNU:=Lib.hid hn
 have HX:=Lib.hid h
 have hltA:=h.ltA
 clear t3 hn ht h
 refine callsIn_of_wp_marks Tryz.func94 rfl trivial ?_ rfl
 simp only[Tryz.ntmps94,List.size_toArray,List.length_cons,List.length_nil,Nat.reduceAdd,Nat.reduceSub,Array.replicate_succ,Array.replicate_zero,List.push_toArray,List.append_toArray,List.nil_append,List.cons_append]
 gi_wp2_with fail
 obtain⟨w0,hw0⟩:∃w0,(w.alloc (.cells #[.pointer (some ⟨A,0,none⟩)] 25)).alloc (.cells #[.int .u8 (y.toNat:Int)] 5)=w0:=⟨_,rfl⟩
 have B0:Below w.heap.size w w0:=by rw[←hw0];exact((Below.refl w.heap.size w).alloc (Nat.le_refl _) _).alloc (by simp) _
 have hs0:w0.heap.size=w.heap.size+2:=by rw[←hw0];simp
 have hbA:w0.heap[w.heap.size]?=some (.cells #[.pointer (some ⟨A,0,none⟩)] 25 (0,0)):=by
  rw[←hw0,Below.heap_alloc _ _ _ (by simp)];exact heap_new _ _
 have hbX:w0.heap[w.heap.size+1]?=some (.cells #[.int .u8 (y.toNat:Int)] 5 (0,0)):=by
  rw[←hw0];have:=heap_new (w.alloc (.cells #[.pointer (some ⟨A,0,none⟩)] 25)) (.cells #[.int .u8 (y.toNat:Int)] 5);simpa using this
 rw[hw0]
 clear hw0
 refine⟨trivial,(callsIn_wide.2 (there_any (HX.out.below B0) a N (by omega))).mono ?_⟩
 rintro e w1 ⟨rfl,hb1⟩
 rw[HNU.out]
 have B1:Below w.heap.size w w1:=B0.trans (hb1.mono (by omega))
 have hs1:w.heap.size+2≤w1.heap.size:=by have:=hb1.size;omega
 have gbA:=(hb1.block _ (by omega)).trans hbA
 have gbX:=(hb1.block _ (by omega)).trans hbX
 have c0:w1.cell? ⟨w.heap.size,0,none⟩=some (.pointer (some ⟨A,0,none⟩)):=(cell_blk gbA 0).1
 have cx:w1.cell? ⟨w.heap.size+1,0,none⟩=some (.int .u8 (y.toNat:Int)):=(cell_blk gbX 0).1
 clear hb1 hbA hbX hs0
 gi_wp2_with (refine⟨trivial,?_⟩;gi_at_call 92;refine(callsIn_wide.2 (pieces_fn a N _)).mono ?_;rintro e w' ⟨rfl,rfl⟩)
 obtain⟨w2,hw2⟩:∃w2,(w1.alloc (.cells #[.int .i64 (a:Int)] 3)).alloc (.cells #[.int .i64 (N:Int)] 3)=w2:=⟨_,rfl⟩
 have hsz:w2.heap.size=w1.heap.size+2:=by rw[←hw2];simp
 have hB2:Below w1.heap.size w1 w2:=by rw[←hw2];exact((Below.refl _ w1).alloc (Nat.le_refl _) _).alloc (by simp) _
 have gBa:w2.heap[w1.heap.size]?=some (.cells #[.int .i64 (a:Int)] 3 (0,0)):=by
  rw[←hw2,Below.heap_alloc _ _ _ (by simp)];exact heap_new _ _
 have gBn:w2.heap[w1.heap.size+1]?=some (.cells #[.int .i64 (N:Int)] 3 (0,0)):=by
  rw[←hw2];have:=heap_new (w1.alloc (.cells #[.int .i64 (a:Int)] 3)) (.cells #[.int .i64 (N:Int)] 3);simpa using this
 have fbA:=(hB2.block _ (by omega)).trans gbA
 have fbX:=(hB2.block _ (by omega)).trans gbX
 have BW2:Below w.heap.size w w2:=B1.trans (hB2.mono B1.size)
 rw[hw2]
 clear hw2 c0 cx gbA gbX
 refine wpIn_rangeFunc_ownH rfl (by omega) (gf:=127) (lb:=#[.pointer (some ⟨w1.heap.size+1,0,none⟩),.pointer (some ⟨w1.heap.size,0,none⟩)]) rfl trivial (enters_of Tryz.func127 (by kernel_rfl) rfl)
  (pieces_stops (4-1) (w1.heap.size+1) w1.heap.size a N hk32 ha32 w2 (by omega) (by omega) (cell_blk gBn 0).1 (cell_blk gBa 0).1) K2.trans (K2.put (by omega) (by omega)) (Below.refl _ _) (fun _=>rfl)
  (fun pre W=>((∃ps',ArX A {s with mm:=covM s.mm (List.replicate N y) pre} P ps' p n cap W∧Step A P ps ps' w W)∧(W.heap[w.heap.size]?=some (.cells #[.pointer (some ⟨A,0,none⟩)] 25 (0,0))∧W.heap[w.heap.size+1]?=some (.cells #[.int .u8 (y.toNat:Int)] 5 (0,0))∧W.heap[w1.heap.size]?=some (.cells #[.int .i64 (a:Int)] 3 (0,0))∧W.heap[w1.heap.size+1]?=some (.cells #[.int .i64 (N:Int)] 3 (0,0))))∧w2.heap.size≤W.heap.size)
  (fun _ _ _=>False)
  (OwnFrom.and (OwnFrom.and (fun pre X Y row hs hg hr=>by
   obtain⟨ps',h1,h2⟩:=hs
   exact⟨ps',h1.grown hg (fun r e=>(hr r e).2),h2.grown hg (fun r e=>Nat.le_trans BW2.size (hr r e).1)⟩)
   (fun pre X Y row hs hg hr=>⟨(grownBy_keeps_cells hg (fun r e=>(hr r e).2) hs.1 rfl).trans hs.1,(grownBy_keeps_cells hg (fun r e=>(hr r e).2) hs.2.1 rfl).trans hs.2.1,(grownBy_keeps_cells hg (fun r e=>(hr r e).2) hs.2.2.1 rfl).trans hs.2.2.1,(grownBy_keeps_cells hg (fun r e=>(hr r e).2) hs.2.2.2 rfl).trans hs.2.2.2⟩))
   (fun pre X Y row hs hg hr=>Nat.le_trans hs hg.size))
  (fun _ _ _ _ _ hs _ _=>hs)
  ⟨⟨⟨ps,by rw[covM_nil];exact HX.out.below BW2,Step.of_below BW2⟩,fbA,fbX,gBa,gBn⟩,Nat.le_refl _⟩
  (fun x a' W=>∃V,w2.heap.size≤V∧a'={tmps:=#[.pointer (some ⟨A,0,none⟩),.int .i64 a,.int .i64 N,.int .u8 (y.toNat:Int),.pointer (some ⟨w.heap.size,0,none⟩),undef,undef,.pointer (some ⟨w.heap.size+1,0,none⟩),.int .i64 0,.int .i64 0,undef,.pointer (some ⟨V,0,none⟩),undef,undef,.pointer (some ⟨A,0,none⟩),.int .i64 a,.int .i64 N,.int .i64 0,.int .i64 0,.bool false,undef,.int .i64 a,.int .i64 N,.func (.func 127) #[] #[.pointer (some ⟨w1.heap.size+1,0,none⟩),.pointer (some ⟨w1.heap.size,0,none⟩)],.int .i64 (x.1.1:Int),.agg #[.int .i64 (((a+x.1.1)/4096:Nat):Int),.int .i64 (((a+x.1.1)%4096:Nat):Int),.int .i64 (((a+x.1.1)%4096+x.1.2:Nat):Int)],undef,undef,undef,undef,undef,undef,undef,undef,undef,undef,undef,undef,undef,undef,undef,undef,undef,undef,undef,undef,undef,undef,undef,undef,undef,undef,undef,undef,undef,undef,undef,undef,undef],defers:=[]}∧W.heap[V]?=some (.cells #[.int .i64 (((a+x.1.1)/4096:Nat):Int),.int .i64 (((a+x.1.1)%4096:Nat):Int),.int .i64 (((a+x.1.1)%4096+x.1.2:Nat):Int)] 178 (0,0)))
  (fun x a' _ X Y row hs hg hr=>by
   obtain⟨V,h1,h2,h3⟩:=hs
   exact⟨V,h1,h2,(grownBy_keeps_cells hg (fun r e=>(hr r e).2) h3 rfl).trans h3⟩)
  ?assign ?body ?done ?stop
 case assign=>
  intro l pre x W K hI hK
  simp only[encPc]
  generalize (a+x.1.1)%4096+x.1.2=g3 at*
  generalize (a+x.1.1)/4096=g1 at*
  generalize (a+x.1.1)%4096=g2 at*
  obtain⟨⟨⟨ps',i1,i2⟩,iA,iX,ia,ik⟩,iS⟩:=hI
  have IA:=Lib.hid iA;have IX:=Lib.hid iX;have Ia:=Lib.hid ia;have Ik:=Lib.hid ik
  clear iA iX ia ik
  gi_wp2
  exact hK _ _ ((KeepsOthers.alloc _ _).from _) ⟨Below.heap_alloc _ _ _ (by omega),Below.heap_alloc _ _ _ (by omega)⟩
   ⟨⟨⟨ps',i1.below ((Below.refl _ _).alloc (Nat.le_refl _) _),i2.trans (Step.of_below ((Below.refl _ _).alloc (Nat.le_refl _) _))⟩,(Below.heap_alloc _ _ _ (by omega)).trans IA.out,(Below.heap_alloc _ _ _ (by omega)).trans IX.out,(Below.heap_alloc _ _ _ (by omega)).trans Ia.out,(Below.heap_alloc _ _ _ (by omega)).trans Ik.out⟩,by simp;omega⟩
   ⟨W.heap.size,iS,rfl,heap_new _ _⟩
 case body=>
  rintro l pre x a' W hl hlr ⟨⟨⟨ps',hxA,hst⟩,iA,iX,ia,ik⟩,iS⟩ ⟨V,hV,rfl,hcV⟩ hlen
  obtain⟨hx0,hx1,hx2⟩:=x.2
  have hVlt:V<W.heap.size:=(Array.getElem?_eq_some_iff.1 hcV).1
  have hi:(a+x.1.1)/4096<s.L:=by omega
  have hm':mem s.es (((a+x.1.1)/4096:Nat):Int)=true:=by
   have:=HM.out ((a+x.1.1:Nat):Int) (by omega) (by omega)
   rw[show((((a+x.1.1)/4096:Nat)):Int)=((a+x.1.1:Nat):Int)/4096 from by omega];exact this
  obtain⟨d,hd⟩:∃d,x.1.1=d:=⟨_,rfl⟩
  obtain⟨m,hm⟩:∃m,x.1.2=m:=⟨_,rfl⟩
  obtain⟨g1,hg1⟩:∃g1,(a+d)/4096=g1:=⟨_,rfl⟩
  obtain⟨g2,hg2⟩:∃g2,(a+d)%4096=g2:=⟨_,rfl⟩
  simp only[hd,hm]at hx0 hx1 hx2 hi hm' hcV⊢
  simp only[hg1,hg2]at hx2 hi hm' hcV⊢
  have HD:=Lib.hid hd;have HMm:=Lib.hid hm;have HG1:=Lib.hid hg1;have HG2:=Lib.hid hg2
  clear hd hm hg1 hg2
  have IA:=Lib.hid iA;have IX:=Lib.hid iX;have Ia:=Lib.hid ia;have Ik:=Lib.hid ik;have HCV:=Lib.hid hcV
  have HXA:=Lib.hid hxA
  have cA:W.cell? ⟨w.heap.size,0,none⟩=some (.pointer (some ⟨A,0,none⟩)):=(cell_blk iA 0).1
  have cX:W.cell? ⟨w.heap.size+1,0,none⟩=some (.int .u8 (y.toNat:Int)):=(cell_blk iX 0).1
  have v0:W.cell? ⟨V,0,none⟩=some (.int .i64 (g1:Int)):=(cell_blk hcV 0).1
  have c2:W.cell? ⟨A,2,none⟩=some (.slice (some ⟨P,0,none⟩) s.L s.L):=hxA.head.2.2.1
  have hil:g1<ps'.length:=by rw[hxA.len];exact hi
  clear iA iX ia ik hcV hxA
  obtain⟨yv,hyv⟩:∃yv,(y.toNat:Int)=yv:=⟨_,rfl⟩
  rw[hyv]at cX⊢
  have HYV:=Lib.hid hyv
  have HW:(yv=0∧ps'[g1]?=some none)∨(yv=0∧∃b,ps'[g1]?=some (some b))∨¬yv=0:=by
   by_cases hy:yv=0
   · cases hq:ps'[g1]? with
     |none=>rw[List.getElem?_eq_none_iff]at hq;omega
     |some q=>cases q with
      |none=>exact .inl ⟨hy,rfl⟩
      |some b=>exact .inr (.inl ⟨hy,b,rfl⟩)
   · exact .inr (.inr hy)
  clear hyv
  rcases HW with⟨rfl,hq⟩|HB
  · have hsl:=HXA.out.slot hq
    simp only[ptrV]at hsl
    have HQ:=Lib.hid hq;clear hq
    gi_wp2_with fail
    refine round_still_tail 12 (by kernel_rfl) (by kernel_rfl) (by kernel_rfl) ?_
    simp only[List.take_succ_cons,List.take_zero,List.drop_succ_cons,List.drop_zero]
    iterate 12 still_step
    refine wpStill_nil ?_
    gi_wp2_with fail
    have hsame:covM s.mm (List.replicate N y) (pre++[x])=covM s.mm (List.replicate N y) pre:=by
     funext k
     rw[covM_snoc]
     split
     · rename_i hk
       have hD:=HD.out;have hMm:=HMm.out;have hG1:=HG1.out;have hG2:=HG2.out
       rw[hD,hMm]at hk
       have hz:=HXA.out.no g1 HQ.out (k-g1*4096) (by omega)
       rw[show g1*4096+(k-g1*4096)=k from by omega]at hz
       have hz':covM s.mm (List.replicate N y) pre k=0:=hz
       rw[hz']
       have hy0:y=0:=by
        have:=HYV.out
        exact UInt8.toNat_inj.1 (by rw[show(0:UInt8).toNat=0 from rfl];omega)
       rw[hy0,List.getD_eq_getElem?_getD,List.getElem?_replicate,if_pos (by omega)];rfl
     · rfl
    exact⟨(KeepsOthers.drew _).from _,K2.drew _,⟨⟨ps',by rw[hsame];exact HXA.out.below (Below.refl _ _).drew,hst.trans (Step.of_below (Below.refl _ _).drew)⟩,IA.out,(by have h:=IX.out;rw[HYV.out]at h;exact h),Ia.out,Ik.out⟩,iS⟩
  rcases HB with⟨rfl,b0,hq⟩|hy0
  have hsl:=HXA.out.slot hq
  simp only[ptrV]at hsl
  clear hq
  gi_wp2_with fail
  refine round_still_tail 12 (by kernel_rfl) (by kernel_rfl) (by kernel_rfl) ?_
  simp only[List.take_succ_cons,List.take_zero,List.drop_succ_cons,List.drop_zero]
  iterate 12 still_step
  refine wpStill_nil ?_
  gi_wp2_with fail
  rotate_left
  have hy1:(yv==0)=false:=by simpa using hy0
  clear hy0
  gi_wp2_with fail
  have hS9:(fun X:World=>X.cell? ⟨w.heap.size+1,0,none⟩=some (.int .u8 yv)) W.drew:=cX
  refine round_held (fun X:World=>X.cell? ⟨w.heap.size+1,0,none⟩=some (.int .u8 yv)) (by kernel_rfl) (by kernel_rfl) (fun⟨_,_,h⟩=>h) ?_
  refine tk 0 (.int .u8 yv) rfl hS9 (fun X hS=>by go_simp) ?_
  refine tk 1 (.bool false) rfl hS9 (fun X hS=>by go_simp) ?_
  refine tk 2 (.bool false) rfl hS9 (fun X hS=>by go_simp) ?_
  refine tu 3 rfl hS9 ?_
  refine tu 4 rfl hS9 ?_
  refine tu 5 rfl hS9 ?_
  refine tu 6 rfl hS9 ?_
  refine tu 7 rfl hS9 ?_
  refine tu 8 rfl hS9 ?_
  refine tu 9 rfl hS9 ?_
  refine tu 10 rfl hS9 ?_
  refine tu 11 rfl hS9 ?_
  refine tk 12 (.bool false) rfl hS9 (fun X hS=>by go_simp) ?_
  refine wpAnyH_done (by kernel_rfl) ?_ _
  clear hS9
  gi_wp2_with fail
  all_goals
   have HSP:=fun b=>slice_page b g2 m hx0 hx2
   have hS0:(fun X:World=>X.cell? ⟨w.heap.size,0,none⟩=some (.pointer (some ⟨A,0,none⟩))∧X.cell? ⟨V,0,none⟩=some (.int .i64 (g1:Int))∧X.cell? ⟨V,1,none⟩=some (.int .i64 (g2:Int))∧X.cell? ⟨V,2,none⟩=some (.int .i64 ((g2+m:Nat):Int))) W.drew.drew:=
    ⟨(cell_blk (w:=W.drew.drew) IA.out 0).1,(cell_blk (w:=W.drew.drew) HCV.out 0).1,(cell_blk (w:=W.drew.drew) HCV.out 1).1,(cell_blk (w:=W.drew.drew) HCV.out 2).1⟩
   refine round_held (fun X:World=>X.cell? ⟨w.heap.size,0,none⟩=some (.pointer (some ⟨A,0,none⟩))∧X.cell? ⟨V,0,none⟩=some (.int .i64 (g1:Int))∧X.cell? ⟨V,1,none⟩=some (.int .i64 (g2:Int))∧X.cell? ⟨V,2,none⟩=some (.int .i64 ((g2+m:Nat):Int))) (by kernel_rfl) (by kernel_rfl) (fun⟨_,_,h⟩=>h) ?_
   refine tk 0 (.pointer (some ⟨A,0,none⟩)) rfl hS0 (fun X hS=>by obtain⟨s1,s2,s3,s4⟩:=hS;go_simp) ?_
   refine tk 1 (.pointer (some ⟨V,0,none⟩)) rfl hS0 (fun X hS=>by obtain⟨s1,s2,s3,s4⟩:=hS;go_simp) ?_
   refine tk 2 (.int .i64 (g1:Int)) rfl hS0 (fun X hS=>by obtain⟨s1,s2,s3,s4⟩:=hS;go_simp) ?_
   refine tk 5 (.pointer (some ⟨V,1,none⟩)) rfl hS0 (fun X hS=>by obtain⟨s1,s2,s3,s4⟩:=hS;go_simp) ?_
   refine tk 6 (.int .i64 (g2:Int)) rfl hS0 (fun X hS=>by obtain⟨s1,s2,s3,s4⟩:=hS;go_simp) ?_
   refine tk 7 (.pointer (some ⟨V,2,none⟩)) rfl hS0 (fun X hS=>by obtain⟨s1,s2,s3,s4⟩:=hS;go_simp) ?_
   refine tk 8 (.int .i64 ((g2+m:Nat):Int)) rfl hS0 (fun X hS=>by obtain⟨s1,s2,s3,s4⟩:=hS;go_simp) ?_
   refine rd [3] (AllReadyH.cons rfl (fun K1 hK1=>?_) AllReadyH.nil)
   go_simp
   refine(laid_page (HXA.out.below (show Below W.heap.size W W.drew.drew from(Below.refl _ _).drew.drew)) g1 hi hm').mono ?_
   rintro e W2 ⟨b,ps2,rfl,hpb,hx2',hs2⟩
   have hxd:=HXA.out.below (show Below W.heap.size W W.drew.drew from(Below.refl _ _).drew.drew)
   have hltW:∀k,k<w2.heap.size→k<W.drew.drew.heap.size:=fun k hk=>Nat.lt_of_lt_of_le hk iS
   have JA:=Lib.hid ((hs2.block _ (hltW _ (by omega)) (own_not hxd (k:=w.heap.size) IA.out (by decide) (by decide) (by decide))).trans IA.out)
   have JX:=Lib.hid ((hs2.block _ (hltW _ (by omega)) (own_not hxd (k:=w.heap.size+1) IX.out (by decide) (by decide) (by decide))).trans IX.out)
   have Ja:=Lib.hid ((hs2.block _ (hltW _ (by omega)) (own_not hxd (k:=w1.heap.size) Ia.out (by decide) (by decide) (by decide))).trans Ia.out)
   have Jk:=Lib.hid ((hs2.block _ (hltW _ (by omega)) (own_not hxd (k:=w1.heap.size+1) Ik.out (by decide) (by decide) (by decide))).trans Ik.out)
   have JV:=Lib.hid ((hs2.block V hVlt (own_not hxd (k:=V) HCV.out (by decide) (by decide) (by decide))).trans HCV.out)
   have hS1:(fun X:World=>X.cell? ⟨w.heap.size,0,none⟩=some (.pointer (some ⟨A,0,none⟩))∧X.cell? ⟨V,0,none⟩=some (.int .i64 (g1:Int))∧X.cell? ⟨V,1,none⟩=some (.int .i64 (g2:Int))∧X.cell? ⟨V,2,none⟩=some (.int .i64 ((g2+m:Nat):Int))) W2:=
    ⟨(cell_blk JA.out 0).1,(cell_blk JV.out 0).1,(cell_blk JV.out 1).1,(cell_blk JV.out 2).1⟩
   have HPB:=Lib.hid hpb;have HX2:=Lib.hid hx2';have HS2:=Lib.hid hs2
   clear hpb hx2' hs2 hxd hltW
   refine hK1.out _ _ hS1 (fun _=>?_)
   clear hK1
   try simp only[Act.put,List.getElem_toArray,List.getElem_cons_zero,List.getElem_cons_succ,List.setIfInBounds_toArray,List.set_cons_zero,List.set_cons_succ]
   refine tk 4 (.pointer (some ⟨b,0,none⟩)) rfl hS1 (fun X hS=>by obtain⟨s1,s2,s3,s4⟩:=hS;go_simp) ?_
   have HSPb:=HSP b
   clear HSP
   refine tk 9 (.slice (some ⟨b,g2,none⟩) m (4096-g2)) rfl hS1 (fun X hS=>by obtain⟨s1,s2,s3,s4⟩:=hS;go_simp) ?_
   refine tk 10 (.slice (some ⟨b,g2,none⟩) m (4096-g2)) rfl hS1 (fun X hS=>by obtain⟨s1,s2,s3,s4⟩:=hS;go_simp) ?_
   refine wpAnyH_done (by kernel_rfl) ?_ _
   clear hS0 hS1
   gi_wp2_with fail
   gi_loopw [51] (fun i wr=>∃j:Nat,j≤m∧i=.int .i64 j∧ArX A {s with mm:=putM (covM s.mm (List.replicate N y) pre) (a+d) (List.replicate j y)} P ps2 p n cap wr∧Step A P ps2 ps2 W2 wr) (fun i _=>m-(intOf i).toNat)
   case atStart=>exact⟨0,Nat.zero_le _,rfl,by rw[show List.replicate 0 y=[]from rfl,putM_nil];exact HX2.out,Step.of_below (Below.refl _ _)⟩
   case round=>
    obtain⟨j,hj,rfl,hxj,hsj⟩:=hrel
    have hnX:=own_not HX2.out JX.out (by decide) (by decide) (by decide)
    have gX:=(hsj.block _ (Array.getElem?_eq_some_iff.1 JX.out).1 hnX).trans JX.out
    have cXr:=(cell_blk gX 0).1
    rw[HYV.out]at cXr
    by_cases hlt:j<m
    · have q9:g2+j<4096:=by omega
      have hby:=hxj.byte HPB.out q9
      have hfr:=(cell_blk (hxj.pg _ b HPB.out) (g2+j)).2
      have HSB:=Lib.hid (hxj.setByte HPB.out q9 y)
      have HSJ:=Lib.hid hsj
      clear hxj hsj gX hnX
      gi_wp2_with fail
      have e:putM (covM s.mm (List.replicate N y) pre) (a+d) (List.replicate (j+1) y)=fun k=>if k=g1*4096+(g2+j)then y else putM (covM s.mm (List.replicate N y) pre) (a+d) (List.replicate j y) k:=by
       have h1:=HG1.out;have h2:=HG2.out
       rw[List.replicate_succ',putM_snoc,List.length_replicate,show a+d+j=g1*4096+(g2+j)from by omega]
      refine⟨⟨j+1,by omega,by go_num,?_,?_⟩,by simp[intOf];omega⟩
      · rw[e]
        have h:=HSB.out.1
        rw[HYV.out]at h
        exact h
      · have h:=HSJ.out.trans HSB.out.2
        rw[HYV.out]at h
        exact h
    · have hje:j=m:=by omega
      subst hje
      have HXJ:=Lib.hid hxj
      have HSJ:=Lib.hid hsj
      clear hxj hsj gX hnX cXr
      gi_wp2_with fail
      have hcov:putM (covM s.mm (List.replicate N y) pre) (a+d) (List.replicate j y)=covM s.mm (List.replicate N y) (pre++[x]):=by
       have h1:=HD.out;have h2:=HMm.out
       funext k
       rw[covM_snoc,h1,h2]
       unfold putM
       rw[List.length_replicate]
       by_cases c:a+d≤k∧k<a+d+j
       · rw[if_pos c,if_pos c,List.getD_eq_getElem?_getD,List.getD_eq_getElem?_getD,List.getElem?_replicate,List.getElem?_replicate,if_pos (by omega),if_pos (by omega)]
       · rw[if_neg c,if_neg c]
      have hWD:Step A P ps' ps2 W W2:=(Step.of_below (show Below W.heap.size W W.drew.drew from(Below.refl _ _).drew.drew)).trans HS2.out
      have hBK:=fun(k:Nat) (c:Array Value) (T:TypeId) (hk:W2.heap[k]?=some (.cells c T (0,0))) (h1:T≠78) (h2:T≠88) (h3:T≠90)=>(HSJ.out.block k (Array.getElem?_eq_some_iff.1 hk).1 (own_not HX2.out hk h1 h2 h3)).trans hk
      have hfin:=HXJ.out
      rw[hcov]at hfin
      refine⟨((Step.others HXA.out hWD).trans (Step.others HX2.out HSJ.out)).from _,⟨?_,?_⟩,⟨⟨ps2,hfin,(hst.trans hWD).trans HSJ.out⟩,?_,?_,?_,?_⟩,?_⟩
      · exact(hBK _ _ _ Jk.out (by decide) (by decide) (by decide)).trans Ik.out.symm
      · exact(hBK _ _ _ Ja.out (by decide) (by decide) (by decide)).trans Ia.out.symm
      · exact hBK _ _ _ JA.out (by decide) (by decide) (by decide)
      · have h:=hBK _ _ _ JX.out (by decide) (by decide) (by decide)
        try rw[HYV.out]at h
        exact h
      · exact hBK _ _ _ Ja.out (by decide) (by decide) (by decide)
      · exact hBK _ _ _ Jk.out (by decide) (by decide) (by decide)
      · exact Nat.le_trans iS (Nat.le_trans hWD.size HSJ.out.size)
 case done=>
  rintro D xs W hD hS ⟨⟨⟨ps',hxA,hst⟩,iA,iX,ia,ik⟩,iS⟩ hK
  rw[covM_all s.mm (List.replicate N y) (by simp) xs hS]at hxA
  have HXA:=Lib.hid hxA;have HST:=Lib.hid hst
  clear hxA hst iA iX ia ik
  gi_wp2_with fail
  have hg:=grownBy_putObj' W D (.deferred none)
  have hr:∀r,some D=some r→∃o:Obj,W.heap[r]?=some o∧o.isCells=false:=fun r e=>by cases e;exact⟨_,hK,rfl⟩
  refine⟨by simp,.inl ⟨_,_,rfl,run_takeDeferred hK,?_⟩⟩
  refine⟨_,results_tmp rfl _ _ _,?_,ps',p,n,cap,?_,HST.out.grown hg (fun r e=>by cases e;exact Nat.le_trans BW2.size hD),fun _ _ _=> .inl rfl⟩
  · rw[HNU.out];rfl
  · unfold fillS
    rw[HNU.out,if_pos rfl,Int.toNat_natCast,Int.toNat_natCast]
    exact HXA.out.grown hg hr
 case stop=>
  rintro D c pre W _ _ h _
  exact h.elim
theorem fill_no (h:ArX A s P ps p n cap w) (a k:Int) (ha:a≤9223372036854775807) (y:UInt8) (hn:thereE s.L s.es a k≠0):
 Calls Tryz.prog 94 #[.pointer (some ⟨A,0,none⟩),.int .i64 a,.int .i64 k,.int .u8 (y.toNat:Int)] w (FillPost A P s ps p a k y w):=by
 have hb0:(thereE s.L s.es a k !=0)=true:=by rw[bne_iff_ne];exact hn
 have HNE:=Lib.hid hn
 have HX:=Lib.hid h
 clear hn h
 go_enter Tryz.func94,Tryz.ntmps94
 go_wp2_with fail
 have B0:Below w.heap.size w ((w.alloc (.cells #[.pointer (some ⟨A,0,none⟩)] 25)).alloc (.cells #[.int .u8 (y.toNat:Int)] 5)):=((Below.refl w.heap.size w).alloc (Nat.le_refl _) _).alloc (by simp) _
 refine(there_any (HX.out.below B0) a k ha).mono ?_
 rintro e w1 ⟨rfl,hb⟩
 have B1:=B0.trans (hb.mono B0.size)
 clear hb
 go_wp2_with fail
 go_ret
 refine⟨rfl,ps,p,n,cap,?_,Step.of_below B1,fun _ _ _=> .inl rfl⟩
 unfold fillS
 rw[if_neg HNE.out];exact HX.out.below B1
theorem fill_any (h:ArX A s P ps p n cap w) (a k:Int) (ha:a≤9223372036854775807) (y:UInt8):
 Calls Tryz.prog 94 #[.pointer (some ⟨A,0,none⟩),.int .i64 a,.int .i64 k,.int .u8 (y.toNat:Int)] w (FillPost A P s ps p a k y w):=by
 by_cases hn:thereE s.L s.es a k=0
 · have ht:thereB s.L s.es a k=true:=by
    unfold thereE at hn
    cases hq:thereB s.L s.es a k with
    |true=>rfl
    |false=>rw[hq]at hn;cases hn
   obtain⟨t0,t1,t2,t3⟩:=(there_iff h.good a k).1 ht
   obtain⟨an,rfl⟩:∃an:Nat,a=an:=⟨a.toNat,by omega⟩
   obtain⟨kn,rfl⟩:∃kn:Nat,k=kn:=⟨k.toNat,by omega⟩
   exact callsIn_wide.1 (fill_yes h an kn y hn)
 · exact fill_no h a k ha y hn
end
end Go.Proofs.YtpkaehpllldcmaaGreatDoor.Bt
end
section
namespace Go.Proofs.YtpkaehpllldcmaaGreatDoor.Bt
open Go Go.RowKit Go.Shelf
set_option linter.unusedVariables false
section
variable {A P n cap:Nat} {s:ASt} {ps:List (Option Nat)} {p:Option Addr} {w:World}
theorem vfill_any (h:ArX A s P ps p n cap w) (va vs:Nat) (h1:va≤4294967296) (h2:vs≤4294967296) (a k:Int) (ha:a≤9223372036854775807) (y:UInt8):
 Calls Tryz.prog 56 #[.agg #[.pointer (some ⟨A,0,none⟩),.int .i64 (va:Int),.int .i64 (vs:Int)],.int .i64 a,.int .i64 k,.int .u8 (y.toNat:Int)] w (FillPost A P s ps p (addrV va vs a k) k y w):=
 (vfill_gen _ va vs h1 h2 a ha k _ w _ _ (fun X hX=>fill_any (h.below hX) _ k (addrV_le h1 h2 a k) y) (keepsV_ar h _)).mono fun e w' ht=>thru_turned ht
theorem vpart_any (h:ArX A s P ps p n cap w) (va vs:Nat) (h1:va≤4294967296) (h2:vs≤4294967296) (a k:Int) (ha:a≤9223372036854775807):
 Calls Tryz.prog 64 #[.agg #[.pointer (some ⟨A,0,none⟩),.int .i64 (va:Int),.int .i64 (vs:Int)],.int .i64 a,.int .i64 k] w fun e w'=>
  e=.returned (.tuple #[ofV (some ⟨A,0,none⟩) (addrV va vs a k) k (thereE s.L s.es (addrV va vs a k) k),.int .i64 (thereE s.L s.es (addrV va vs a k) k)])∧Below w.heap.size w w':=by
 have hof:=fun X (hX:Below w.heap.size w X)=>vof_any (h.below hX) (addrV va vs a k) k (addrV_le h1 h2 a k)
 generalize thereE s.L s.es (addrV va vs a k) k=E at*
 unfold ofV at hof⊢
 by_cases hE:E=0
 · simp only[if_pos hE]at hof⊢
   exact vpart_gen _ va vs h1 h2 a k ha w _ _ _ E hof
 · simp only[if_neg hE]at hof⊢
   exact vpart_gen _ va vs h1 h2 a k ha w _ _ _ E hof
end
end Go.Proofs.YtpkaehpllldcmaaGreatDoor.Bt
end
