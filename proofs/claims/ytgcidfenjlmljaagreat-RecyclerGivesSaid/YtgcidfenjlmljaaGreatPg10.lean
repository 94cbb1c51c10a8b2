import Derived.Test.YtgcidfenjlmljaaGreatPg08
import Derived.Test.YtgcidfenjlmljaaGreatPg09
import Derived.Test.YtgcidfenjlmljaaGreatPgR
set_option linter.unusedVariables false
set_option linter.unusedSimpArgs false
set_option maxRecDepth 100000
set_option maxHeartbeats 16000000
namespace Go.Proofs.YtgcidfenjlmljaaGreat.Bt
section
open Go Go.RowKit Go.Shelf
attribute [local go_sem] Oper.semAt_some
section
variable {A P n cap:Nat} {s:ASt} {ps:List (Option Nat)} {p:Option Addr} {w:World}
def Zg3 (s:ASt) (a k:Int) (y:UInt8):ASt:=if Zac s.L s.es a k=0 then{s with mm:=Zb8 s.mm a.toNat (List.replicate k.toNat y)}else s
def Zis (A P:Nat) (s:ASt) (ps:List (Option Nat)) (p:Option Addr) (a k:Int) (y:UInt8) (w:World) (e:Ending) (w':World):Prop:=
 e=.returned (iV (Zac s.L s.es a k))/\Zel A P ps p (Zg3 s a k y) w w'
theorem Yan (h:ArX A s P ps p n cap w) (a:Nat) (N:Nat) (y:UInt8) (hn:Zac s.L s.es a N=0):
 CallsIn Fence.wide 4 Tryz.prog 33 #[pT A,iV a,iV N,.int .u8 (y.toNat:Int)] w (Zis A P s ps p a N y w):=by
 have ht:Zbd s.L s.es a N=true:=by
  unfold Zac at hn;cases hq:Zbd s.L s.es a N with
  |true=>rfl
  |false=>rw[hq]at hn;cases hn
 obtain⟨t0,t1,t2,t3⟩:=(Zax h.Zch a N).1 ht;have HM:Hid (∀i:Int,a<=i->i<a+N->mem s.es (i/4096)=true):=hid t3;have hsm:=h.Zch.small;have hk32:N<=4294967296:=by omega
 have ha32:a<=4294967296:=by omega
 have HNU:=hid hn;have HX:=hid h;have hltA:=h.ltA;clear t3 hn ht h;refine callsIn_of_wp_marks Tryz.func33 rfl trivial ?_ rfl;simp only[Tryz.ntmps33,List.size_toArray,List.length_cons,List.length_nil,Nat.reduceAdd,Nat.reduceSub,Array.replicate_succ,Array.replicate_zero,List.push_toArray,List.append_toArray,List.nil_append,List.cons_append]
 gi_wp2_with fail
 obtain⟨w0,hw0⟩:=eX ((w.alloc (.cells #[pT A] 38)).alloc (.cells #[.int .u8 (y.toNat:Int)] 5));have B0:Below w.heap.size w w0:=by rw[<-hw0];exact((Below.refl w.heap.size w).alloc (Nat.le_refl _) _).alloc (by simp) _
 have hs0:w0.heap.size=w.heap.size+2:=by rw[<-hw0];simp
 have hbA:w0.heap[w.heap.size]?=some (.cells #[pT A] 38 (0,0)):=by
  rw[<-hw0,Below.heap_alloc _ _ _ (by simp)];exact Zab _ _
 have hbX:w0.heap[w.heap.size+1]?=some (.cells #[.int .u8 (y.toNat:Int)] 5 (0,0)):=by
  rw[<-hw0];have:=Zab (w.alloc (.cells #[pT A] 38)) (.cells #[.int .u8 (y.toNat:Int)] 5);simpa using this
 rw[hw0];clear hw0
 refine⟨trivial,(callsIn_wide.2 (Zep (HX.out.below B0) a N (by omega))).mono ?_⟩
 rintro e w1 ⟨rfl,hb1⟩;rw[HNU.out];have B1:Below w.heap.size w w1:=B0.trans (hb1.mono (by omega));have hs1:w.heap.size+2<=w1.heap.size:=by have:=hb1.size;omega
 have gbA:=(hb1.block _ (by omega)).trans hbA;have gbX:=(hb1.block _ (by omega)).trans hbX;have c0:w1.cell? (aD w.heap.size 0)=some (pT A):=(Zaa gbA 0).1;have cx:w1.cell? ⟨w.heap.size+1,0,none⟩=some (.int .u8 (y.toNat:Int)):=(Zaa gbX 0).1;clear hb1 hbA hbX hs0
 gi_wp2_with (refine⟨trivial,?_⟩;gi_at_call 96;refine(callsIn_wide.2 (Zm7 a N _)).mono ?_;rintro e w' ⟨rfl,rfl⟩)
 obtain⟨w2,hw2⟩:=eX ((w1.alloc (.cells #[iV a] 3)).alloc (.cells #[iV N] 3));have hsz:w2.heap.size=w1.heap.size+2:=by rw[<-hw2];simp
 have hB2:Below w1.heap.size w1 w2:=by rw[<-hw2];exact((Below.refl _ w1).alloc (Nat.le_refl _) _).alloc (by simp) _
 have gBa:w2.heap[w1.heap.size]?=some (.cells #[iV a] 3 (0,0)):=by
  rw[<-hw2,Below.heap_alloc _ _ _ (by simp)];exact Zab _ _
 have gBn:w2.heap[w1.heap.size+1]?=some (.cells #[iV N] 3 (0,0)):=by
  rw[<-hw2];have:=Zab (w1.alloc (.cells #[iV a] 3)) (.cells #[iV N] 3);simpa using this
 have fbA:=(hB2.block _ (by omega)).trans gbA;have fbX:=(hB2.block _ (by omega)).trans gbX;have BW2:Below w.heap.size w w2:=B1.trans (hB2.mono B1.size);rw[hw2];clear hw2 c0 cx gbA gbX
 refine wpIn_rangeFunc_ownH rfl (by omega) (gf:=162) (lb:=#[.pointer (some ⟨w1.heap.size+1,0,none⟩),.pointer (some (aD w1.heap.size 0))]) rfl trivial (enters_of Tryz.func162 (by kernel_rfl) rfl)
  (Zh0 (4-1) (w1.heap.size+1) w1.heap.size a N hk32 ha32 w2 (by omega) (by omega) (Zaa gBn 0).1 (Zaa gBa 0).1) K2.trans (K2.put (by omega) (by omega)) (Below.refl _ _) (fun _=>rfl)
  (fun pre W=>((∃ps',ArX A {s with mm:=Zol s.mm (List.replicate N y) pre} P ps' p n cap W/\Step A P ps ps' w W)/\(W.heap[w.heap.size]?=some (.cells #[pT A] 38 (0,0))/\W.heap[w.heap.size+1]?=some (.cells #[.int .u8 (y.toNat:Int)] 5 (0,0))/\W.heap[w1.heap.size]?=some (.cells #[iV a] 3 (0,0))/\W.heap[w1.heap.size+1]?=some (.cells #[iV N] 3 (0,0))))/\w2.heap.size<=W.heap.size)
  (fun _ _ _=>False)
  (OwnFrom.and (OwnFrom.and (fun pre X Y row hs hg hr=>by
   obtain⟨ps',h1,h2⟩:=hs
   exact⟨ps',h1.grown hg (fun r e=>(hr r e).2),h2.grown hg (fun r e=>Nat.le_trans BW2.size (hr r e).1)⟩)
   (fun pre X Y row hs hg hr=>⟨(grownBy_keeps_cells hg (fun r e=>(hr r e).2) hs.1 rfl).trans hs.1,(grownBy_keeps_cells hg (fun r e=>(hr r e).2) hs.2.1 rfl).trans hs.2.1,(grownBy_keeps_cells hg (fun r e=>(hr r e).2) hs.2.2.1 rfl).trans hs.2.2.1,(grownBy_keeps_cells hg (fun r e=>(hr r e).2) hs.2.2.2 rfl).trans hs.2.2.2⟩))
   (fun pre X Y row hs hg hr=>Nat.le_trans hs hg.size))
  (fun _ _ _ _ _ hs _ _=>hs)
  ⟨⟨⟨ps,by rw[Yav];exact HX.out.below BW2,Step.Zad BW2⟩,fbA,fbX,gBa,gBn⟩,Nat.le_refl _⟩
  (fun x a' W=>∃V,w2.heap.size<=V/\a'={tmps:=#[pT A,iV a,iV N,.int .u8 (y.toNat:Int),.pointer (some (aD w.heap.size 0)),undef,undef,.pointer (some ⟨w.heap.size+1,0,none⟩),iV 0,iV 0,undef,pT V,undef,undef,pT A,iV a,iV N,iV 0,iV 0,.bool false,undef,iV a,iV N,.func (.func 162) #[] #[.pointer (some ⟨w1.heap.size+1,0,none⟩),.pointer (some (aD w1.heap.size 0))],iV (x.1.1:Int),.agg #[iV (((a+x.1.1)/4096:Nat):Int),iV (((a+x.1.1)%4096:Nat):Int),iV (((a+x.1.1)%4096+x.1.2:Nat):Int)],undef,undef,undef,undef,undef,undef,undef,undef,undef,undef,undef,undef,undef,undef,undef,undef,undef,undef,undef,undef,undef,undef,undef,undef,undef,undef,undef,undef,undef,undef,undef,undef,undef],defers:=[]}/\W.heap[V]?=some (.cells #[iV (((a+x.1.1)/4096:Nat):Int),iV (((a+x.1.1)%4096:Nat):Int),iV (((a+x.1.1)%4096+x.1.2:Nat):Int)] 160 (0,0)))
  (fun x a' _ X Y row hs hg hr=>by
   obtain⟨V,h1,h2,h3⟩:=hs
   exact⟨V,h1,h2,(grownBy_keeps_cells hg (fun r e=>(hr r e).2) h3 rfl).trans h3⟩)
  ?assign ?body ?done ?stop
 case assign=>
  intro l pre x W K hI hK;simp only[Zw9];generalize (a+x.1.1)%4096+x.1.2=g3 at*
  generalize (a+x.1.1)/4096=g1 at*
  generalize (a+x.1.1)%4096=g2 at*
  obtain⟨⟨⟨ps',i1,i2⟩,iA,iX,ia,ik⟩,iS⟩:=hI;have IA:=hid iA;have IX:=hid iX;have Ia:=hid ia;have Ik:=hid ik
  clear iA iX ia ik
  gi_wp2
  exact hK _ _ ((KeepsOthers.alloc _ _).from _) ⟨Below.heap_alloc _ _ _ (by omega),Below.heap_alloc _ _ _ (by omega)⟩
   ⟨⟨⟨ps',i1.below ((Below.refl _ _).alloc (Nat.le_refl _) _),i2.trans (Step.Zad ((Below.refl _ _).alloc (Nat.le_refl _) _))⟩,(Below.heap_alloc _ _ _ (by omega)).trans IA.out,(Below.heap_alloc _ _ _ (by omega)).trans IX.out,(Below.heap_alloc _ _ _ (by omega)).trans Ia.out,(Below.heap_alloc _ _ _ (by omega)).trans Ik.out⟩,by simp;omega⟩
   ⟨W.heap.size,iS,rfl,Zab _ _⟩
 case body=>
  rintro l pre x a' W hl hlr ⟨⟨⟨ps',hxA,hst⟩,iA,iX,ia,ik⟩,iS⟩ ⟨V,hV,rfl,hcV⟩ hlen;obtain⟨hx0,hx1,hx2⟩:=x.2;have hVlt:V<W.heap.size:=(Array.getElem?_eq_some_iff.1 hcV).1;have hi:(a+x.1.1)/4096<s.L:=by omega
  have hm':mem s.es (((a+x.1.1)/4096:Nat):Int)=true:=by
   have:=HM.out ((a+x.1.1:Nat):Int) (by omega) (by omega)
   rw[show((((a+x.1.1)/4096:Nat)):Int)=((a+x.1.1:Nat):Int)/4096 from by omega];exact this
  obtain⟨d,hd⟩:=eX x.1.1;obtain⟨m,hm⟩:=eX x.1.2;obtain⟨g1,hg1⟩:=eX ((a+d)/4096);obtain⟨g2,hg2⟩:=eX ((a+d)%4096);simp only[hd,hm]at hx0 hx1 hx2 hi hm' hcV⊢;simp only[hg1,hg2]at hx2 hi hm' hcV⊢;have HD:=hid hd;have HMm:=hid hm;have HG1:=hid hg1;have HG2:=hid hg2
  clear hd hm hg1 hg2;have IA:=hid iA;have IX:=hid iX;have Ia:=hid ia;have Ik:=hid ik;have HCV:=hid hcV
  have HXA:=hid hxA;have cA:W.cell? (aD w.heap.size 0)=some (pT A):=(Zaa iA 0).1;have cX:W.cell? ⟨w.heap.size+1,0,none⟩=some (.int .u8 (y.toNat:Int)):=(Zaa iX 0).1;have v0:W.cell? (aD V 0)=some (iV g1):=(Zaa hcV 0).1;have c2:W.cell? (aD A 2)=some (.slice (some (aD P 0)) s.L s.L):=hxA.head.2.2.1;have hil:g1<ps'.length:=by rw[hxA.len];exact hi
  clear iA iX ia ik hcV hxA;obtain⟨yv,hyv⟩:=eX ((y.toNat:Int));rw[hyv]at cX⊢;have HYV:=hid hyv
  have HW:(yv=0/\ps'[g1]?=some none)\/(yv=0/\∃b,ps'[g1]?=some (some b))\/¬yv=0:=by
   by_cases hy:yv=0
   · cases hq:ps'[g1]? with
     |none=>rw[List.getElem?_eq_none_iff]at hq;omega
     |some q=>cases q with
      |none=>exact .inl ⟨hy,rfl⟩
      |some b=>exact .inr (.inl ⟨hy,b,rfl⟩)
   · exact .inr (.inr hy)
  clear hyv;rcases HW with⟨rfl,hq⟩|HB
  · have hsl:=HXA.out.slot hq
    simp only[Zie]at hsl;have HQ:=hid hq;clear hq
    gi_wp2_with fail
    refine Zbr 12 (by kernel_rfl) (by kernel_rfl) (by kernel_rfl) ?_;simp only[List.take_succ_cons,List.take_zero,List.drop_succ_cons,List.drop_zero]
    iterate 12 still_step
    refine wpStill_nil ?_
    gi_wp2_with fail
    have hsame:Zol s.mm (List.replicate N y) (pre++[x])=Zol s.mm (List.replicate N y) pre:=by
     funext k
     rw[Zny]
     split
     · rename_i hk
       have hD:=HD.out;have hMm:=HMm.out;have hG1:=HG1.out;have hG2:=HG2.out
       rw[hD,hMm]at hk;have hz:=HXA.out.no g1 HQ.out (k-g1*4096) (by omega);rw[show g1*4096+(k-g1*4096)=k from by omega]at hz;have hz':Zol s.mm (List.replicate N y) pre k=0:=hz;rw[hz']
       have hy0:y=0:=by
        have:=HYV.out
        exact UInt8.toNat_inj.1 (by rw[show(0:UInt8).toNat=0 from rfl];omega)
       rw[hy0,List.getD_eq_getElem?_getD,List.getElem?_replicate,if_pos (by omega)];rfl
     · rfl
    exact⟨(KeepsOthers.drew _).from _,K2.drew _,⟨⟨ps',by rw[hsame];exact HXA.out.below (Below.refl _ _).drew,hst.trans (Step.Zad (Below.refl _ _).drew)⟩,IA.out,(by have h:=IX.out;rw[HYV.out]at h;exact h),Ia.out,Ik.out⟩,iS⟩
  rcases HB with⟨rfl,b0,hq⟩|hy0
  have hsl:=HXA.out.slot hq;simp only[Zie]at hsl;clear hq
  gi_wp2_with fail
  refine Zbr 12 (by kernel_rfl) (by kernel_rfl) (by kernel_rfl) ?_;simp only[List.take_succ_cons,List.take_zero,List.drop_succ_cons,List.drop_zero]
  iterate 12 still_step
  refine wpStill_nil ?_
  gi_wp2_with fail
  rotate_left
  have hy1:(yv==0)=false:=by simpa using hy0
  clear hy0
  gi_wp2_with fail
  have hS9:(fun X:World=>X.cell? ⟨w.heap.size+1,0,none⟩=some (.int .u8 yv)) W.drew:=cX;refine Zkm (fun X:World=>X.cell? ⟨w.heap.size+1,0,none⟩=some (.int .u8 yv)) (by kernel_rfl) (by kernel_rfl) (fun⟨_,_,h⟩=>h) ?_;refine tk 0 (.int .u8 yv) rfl hS9 (fun X hS=>by go_simp) ?_;refine tk 1 (.bool false) rfl hS9 (fun X hS=>by go_simp) ?_;refine tk 2 (.bool false) rfl hS9 (fun X hS=>by go_simp) ?_;refine tu 3 rfl hS9 ?_;refine tu 4 rfl hS9 ?_;refine tu 5 rfl hS9 ?_;refine tu 6 rfl hS9 ?_;refine tu 7 rfl hS9 ?_;refine tu 8 rfl hS9 ?_;refine tu 9 rfl hS9 ?_;refine tu 10 rfl hS9 ?_;refine tu 11 rfl hS9 ?_;refine tk 12 (.bool false) rfl hS9 (fun X hS=>by go_simp) ?_;refine wpAnyH_done (by kernel_rfl) ?_ _;clear hS9
  gi_wp2_with fail
  all_goals
   have HSP:=fun b=>Zkj b g2 m hx0 hx2
   have hS0:(fun X:World=>X.cell? (aD w.heap.size 0)=some (pT A)/\X.cell? (aD V 0)=some (iV g1)/\X.cell? (aD V 1)=some (iV g2)/\X.cell? (aD V 2)=some (iV ((g2+m:Nat):Int))) W.drew.drew:=
    ⟨(Zaa (w:=W.drew.drew) IA.out 0).1,(Zaa (w:=W.drew.drew) HCV.out 0).1,(Zaa (w:=W.drew.drew) HCV.out 1).1,(Zaa (w:=W.drew.drew) HCV.out 2).1⟩
   refine Zkm (fun X:World=>X.cell? (aD w.heap.size 0)=some (pT A)/\X.cell? (aD V 0)=some (iV g1)/\X.cell? (aD V 1)=some (iV g2)/\X.cell? (aD V 2)=some (iV ((g2+m:Nat):Int))) (by kernel_rfl) (by kernel_rfl) (fun⟨_,_,h⟩=>h) ?_;refine tk 0 (pT A) rfl hS0 (fun X hS=>by obtain⟨s1,s2,s3,s4⟩:=hS;go_simp) ?_;refine tk 1 (pT V) rfl hS0 (fun X hS=>by obtain⟨s1,s2,s3,s4⟩:=hS;go_simp) ?_;refine tk 2 (iV g1) rfl hS0 (fun X hS=>by obtain⟨s1,s2,s3,s4⟩:=hS;go_simp) ?_;refine tk 5 (.pointer (some (aD V 1))) rfl hS0 (fun X hS=>by obtain⟨s1,s2,s3,s4⟩:=hS;go_simp) ?_;refine tk 6 (iV g2) rfl hS0 (fun X hS=>by obtain⟨s1,s2,s3,s4⟩:=hS;go_simp) ?_;refine tk 7 (.pointer (some (aD V 2))) rfl hS0 (fun X hS=>by obtain⟨s1,s2,s3,s4⟩:=hS;go_simp) ?_;refine tk 8 (iV ((g2+m:Nat):Int)) rfl hS0 (fun X hS=>by obtain⟨s1,s2,s3,s4⟩:=hS;go_simp) ?_;refine rd [3] (AllReadyH.cons rfl (fun K1 hK1=>?_) AllReadyH.nil);go_simp
   refine(Zjn (HXA.out.below (show Below W.heap.size W W.drew.drew from(Below.refl _ _).drew.drew)) g1 hi hm').mono ?_
   rintro e W2 ⟨b,ps2,rfl,hpb,hx2',hs2⟩;have hxd:=HXA.out.below (show Below W.heap.size W W.drew.drew from(Below.refl _ _).drew.drew);have hltW:∀k,k<w2.heap.size->k<W.drew.drew.heap.size:=fun k hk=>Nat.lt_of_lt_of_le hk iS
   have JA:=hid ((hs2.block _ (hltW _ (by omega)) (Ze6 hxd (k:=w.heap.size) IA.out (by decide) (by decide) (by decide))).trans IA.out);have JX:=hid ((hs2.block _ (hltW _ (by omega)) (Ze6 hxd (k:=w.heap.size+1) IX.out (by decide) (by decide) (by decide))).trans IX.out);have Ja:=hid ((hs2.block _ (hltW _ (by omega)) (Ze6 hxd (k:=w1.heap.size) Ia.out (by decide) (by decide) (by decide))).trans Ia.out);have Jk:=hid ((hs2.block _ (hltW _ (by omega)) (Ze6 hxd (k:=w1.heap.size+1) Ik.out (by decide) (by decide) (by decide))).trans Ik.out);have JV:=hid ((hs2.block V hVlt (Ze6 hxd (k:=V) HCV.out (by decide) (by decide) (by decide))).trans HCV.out)
   have hS1:(fun X:World=>X.cell? (aD w.heap.size 0)=some (pT A)/\X.cell? (aD V 0)=some (iV g1)/\X.cell? (aD V 1)=some (iV g2)/\X.cell? (aD V 2)=some (iV ((g2+m:Nat):Int))) W2:=
    ⟨(Zaa JA.out 0).1,(Zaa JV.out 0).1,(Zaa JV.out 1).1,(Zaa JV.out 2).1⟩
   have HPB:=hid hpb;have HX2:=hid hx2';have HS2:=hid hs2
   clear hpb hx2' hs2 hxd hltW;refine hK1.out _ _ hS1 (fun _=>?_);clear hK1
   try simp only[Act.put,apu]
   refine tk 4 (pT b) rfl hS1 (fun X hS=>by obtain⟨s1,s2,s3,s4⟩:=hS;go_simp) ?_;have HSPb:=HSP b;clear HSP;refine tk 9 (.slice (some (aD b g2)) m (4096-g2)) rfl hS1 (fun X hS=>by obtain⟨s1,s2,s3,s4⟩:=hS;go_simp) ?_;refine tk 10 (.slice (some (aD b g2)) m (4096-g2)) rfl hS1 (fun X hS=>by obtain⟨s1,s2,s3,s4⟩:=hS;go_simp) ?_;refine wpAnyH_done (by kernel_rfl) ?_ _;clear hS0 hS1
   gi_wp2_with fail
   gi_loopw [51] (fun i wr=>∃j:Nat,j<=m/\i=iV j/\ArX A {s with mm:=Zb8 (Zol s.mm (List.replicate N y) pre) (a+d) (List.replicate j y)} P ps2 p n cap wr/\Step A P ps2 ps2 W2 wr) (fun i _=>m-(intOf i).toNat)
   case atStart=>exact⟨0,Nat.zero_le _,rfl,by rw[show List.replicate 0 y=[]from rfl,Zqi];exact HX2.out,Step.Zad (Below.refl _ _)⟩
   case round=>
    obtain⟨j,hj,rfl,hxj,hsj⟩:=hrel;have hnX:=Ze6 HX2.out JX.out (by decide) (by decide) (by decide);have gX:=(hsj.block _ (Array.getElem?_eq_some_iff.1 JX.out).1 hnX).trans JX.out;have cXr:=(Zaa gX 0).1;rw[HYV.out]at cXr;by_cases hlt:j<m
    · have q9:g2+j<4096:=by omega
      have hby:=hxj.byte HPB.out q9;have hfr:=(Zaa (hxj.pg _ b HPB.out) (g2+j)).2;have HSB:=hid (hxj.Zuy HPB.out q9 y);have HSJ:=hid hsj;clear hxj hsj gX hnX
      gi_wp2_with fail
      have e:Zb8 (Zol s.mm (List.replicate N y) pre) (a+d) (List.replicate (j+1) y)=fun k=>if k=g1*4096+(g2+j)then y else Zb8 (Zol s.mm (List.replicate N y) pre) (a+d) (List.replicate j y) k:=by
       have h1:=HG1.out;have h2:=HG2.out
       rw[List.replicate_succ',Zjd,List.length_replicate,show a+d+j=g1*4096+(g2+j)from by omega]
      refine⟨⟨j+1,by omega,by go_num,?_,?_⟩,by simp[intOf];omega⟩
      · rw[e]
        have h:=HSB.out.1;rw[HYV.out]at h;exact h
      · have h:=HSJ.out.trans HSB.out.2
        rw[HYV.out]at h;exact h
    · have hje:j=m:=by omega
      subst hje;have HXJ:=hid hxj;have HSJ:=hid hsj;clear hxj hsj gX hnX cXr
      gi_wp2_with fail
      have hcov:Zb8 (Zol s.mm (List.replicate N y) pre) (a+d) (List.replicate j y)=Zol s.mm (List.replicate N y) (pre++[x]):=by
       have h1:=HD.out;have h2:=HMm.out
       funext k
       rw[Zny,h1,h2];unfold Zb8;rw[List.length_replicate];by_cases c:a+d<=k/\k<a+d+j
       · rw[if_pos c,if_pos c,List.getD_eq_getElem?_getD,List.getD_eq_getElem?_getD,List.getElem?_replicate,List.getElem?_replicate,if_pos (by omega),if_pos (by omega)]
       · rw[if_neg c,if_neg c]
      have hWD:Step A P ps' ps2 W W2:=(Step.Zad (show Below W.heap.size W W.drew.drew from(Below.refl _ _).drew.drew)).trans HS2.out;have hBK:=fun(k:Nat) (c:Array Value) (T:TypeId) (hk:W2.heap[k]?=some (.cells c T (0,0))) (h1:T≠121) (h2:T≠122) (h3:T≠124)=>(HSJ.out.block k (Array.getElem?_eq_some_iff.1 hk).1 (Ze6 HX2.out hk h1 h2 h3)).trans hk
      have hfin:=HXJ.out;rw[hcov]at hfin
      refine⟨((Step.others HXA.out hWD).trans (Step.others HX2.out HSJ.out)).from _,⟨?_,?_⟩,⟨⟨ps2,hfin,(hst.trans hWD).trans HSJ.out⟩,?_,?_,?_,?_⟩,?_⟩
      · exact(hBK _ _ _ Jk.out (by decide) (by decide) (by decide)).trans Ik.out.symm
      · exact(hBK _ _ _ Ja.out (by decide) (by decide) (by decide)).trans Ia.out.symm
      · exact hBK _ _ _ JA.out (by decide) (by decide) (by decide)
      · have h:=hBK _ _ _ JX.out (by decide) (by decide) (by decide)
        try rw[HYV.out]at h
        exact h
      · exact hBK _ _ _ Ja.out (by decide) (by decide) (by decide)
      · exact hBK _ _ _ Jk.out (by decide) (by decide) (by decide)
      · exact Nat.le_trans iS (Nat.le_trans hWD.size HSJ.out.size)
 case done=>
  rintro D xs W hD hS ⟨⟨⟨ps',hxA,hst⟩,iA,iX,ia,ik⟩,iS⟩ hK;rw[Yaw s.mm (List.replicate N y) (by simp) xs hS]at hxA;have HXA:=hid hxA;have HST:=hid hst
  clear hxA hst iA iX ia ik
  gi_wp2_with fail
  have hg:=grownBy_putObj' W D (.deferred none);have hr:∀r,some D=some r->∃o:Obj,W.heap[r]?=some o/\o.isCells=false:=fun r e=>by cases e;exact⟨_,hK,rfl⟩
  refine⟨by simp,.inl ⟨_,_,rfl,run_takeDeferred hK,?_⟩⟩
  refine⟨_,results_tmp rfl _ _ _,?_,ps',p,n,cap,?_,HST.out.grown hg (fun r e=>by cases e;exact Nat.le_trans BW2.size hD),fun _ _ _=> .inl rfl⟩
  · rw[HNU.out];rfl
  · unfold Zg3
    rw[HNU.out,if_pos rfl,Int.toNat_natCast,Int.toNat_natCast];exact HXA.out.grown hg hr
 case stop=>
  rintro D c pre W _ _ h _;exact h.elim
theorem Yd3 (h:ArX A s P ps p n cap w) (a k:Int) (ha:a<=9223372036854775807) (y:UInt8) (hn:Zac s.L s.es a k≠0):
 Calls Tryz.prog 33 #[pT A,iV a,iV k,.int .u8 (y.toNat:Int)] w (Zis A P s ps p a k y w):=by
 have hb0:(Zac s.L s.es a k !=0)=true:=by rw[bne_iff_ne];exact hn
 have HNE:=hid hn;have HX:=hid h;clear hn h;go_enter Tryz.func33,Tryz.ntmps33;go_wp2_with fail;have B0:Below w.heap.size w ((w.alloc (.cells #[pT A] 38)).alloc (.cells #[.int .u8 (y.toNat:Int)] 5)):=((Below.refl w.heap.size w).alloc (Nat.le_refl _) _).alloc (by simp) _
 refine(Zep (HX.out.below B0) a k ha).mono ?_
 rintro e w1 ⟨rfl,hb⟩;have B1:=B0.trans (hb.mono B0.size);clear hb;go_wp2_with fail
 go_ret
 refine⟨rfl,ps,p,n,cap,?_,Step.Zad B1,fun _ _ _=> .inl rfl⟩
 unfold Zg3;rw[if_neg HNE.out];exact HX.out.below B1
theorem Zrd (h:ArX A s P ps p n cap w) (a k:Int) (ha:a<=9223372036854775807) (y:UInt8):
 Calls Tryz.prog 33 #[pT A,iV a,iV k,.int .u8 (y.toNat:Int)] w (Zis A P s ps p a k y w):=by
 by_cases hn:Zac s.L s.es a k=0
 · have ht:Zbd s.L s.es a k=true:=by
    unfold Zac at hn;cases hq:Zbd s.L s.es a k with
    |true=>rfl
    |false=>rw[hq]at hn;cases hn
   obtain⟨t0,t1,t2,t3⟩:=(Zax h.Zch a k).1 ht;obtain⟨an,rfl⟩:∃an:Nat,a=an:=⟨a.toNat,by omega⟩
   obtain⟨kn,rfl⟩:∃kn:Nat,k=kn:=⟨k.toNat,by omega⟩
   exact callsIn_wide.1 (Yan h an kn y hn)
 · exact Yd3 h a k ha y hn
end
end
section
open Go Go.RowKit Go.Shelf
section
variable {A P n cap:Nat} {s:ASt} {ps:List (Option Nat)} {p:Option Addr} {w:World}
theorem Zt7 (h:ArX A s P ps p n cap w) (va vs:Nat) (h1:va<=4294967296) (h2:vs<=4294967296) (a k:Int) (ha:a<=9223372036854775807) (y:UInt8):
 Calls Tryz.prog 129 #[.agg #[pT A,iV va,iV vs],iV a,iV k,.int .u8 (y.toNat:Int)] w (Zis A P s ps p (Zai va vs a k) k y w):=
 (Zt6 _ va vs h1 h2 a ha k _ w _ _ (fun X hX=>Zrd (h.below hX) _ k (Zg8 h1 h2 a k) y) (Zjo h _)).mono fun e w' ht=>Ziz ht
theorem Zt4 (h:ArX A s P ps p n cap w) (va vs:Nat) (h1:va<=4294967296) (h2:vs<=4294967296) (a k:Int) (ha:a<=9223372036854775807):
 Calls Tryz.prog 66 #[.agg #[pT A,iV va,iV vs],iV a,iV k] w fun e w'=>
  e=.returned (.tuple #[ofV (some (aD A 0)) (Zai va vs a k) k (Zac s.L s.es (Zai va vs a k) k),iV (Zac s.L s.es (Zai va vs a k) k)])/\Below w.heap.size w w':=by
 have hof:=fun X (hX:Below w.heap.size w X)=>Zoq (h.below hX) (Zai va vs a k) k (Zg8 h1 h2 a k)
 generalize Zac s.L s.es (Zai va vs a k) k=E at*
 unfold ofV at hof⊢;by_cases hE:E=0
 · simp only[if_pos hE]at hof⊢
   exact Zmm _ va vs h1 h2 a k ha w _ _ _ E hof
 · simp only[if_neg hE]at hof⊢
   exact Zmm _ va vs h1 h2 a k ha w _ _ _ E hof
end
end
section
open Go Go.RowKit Go.Shelf
def On (A:Nat) (s:ASt) (w:World):Prop:=∃P ps p n cap,ArX A s P ps p n cap w
def Zpx (A:Nat) (w:World) (k:Nat):Prop:=∃s P ps p n cap,ArX A s P ps p n cap w/\Own A P ps k
def Ztr (A:Nat) (w:World) (k:Nat):Prop:=∃s P ps p n cap off,ArX A s P ps p n cap w/\p=some (aD k off)
structure Zam (A:Nat) (w w':World):Prop where
 os:w'.os=w.os
 tape:w'.tape=w.tape
 output:w'.output=w.output
 size:w.heap.size<=w'.heap.size
 block:∀k,k<w.heap.size->¬Zpx A w k->w'.heap[k]?=w.heap[k]?
 news:∀k,Zpx A w' k->Zpx A w k\/w.heap.size<=k
 edge:∀k,Ztr A w' k->Ztr A w k\/w.heap.size<=k
theorem Zzf {a b:Option Nat} (h:Zie a=Zie b):a=b:=by
 cases a<;>cases b<;>simp_all [Zie]
theorem Zy1 {a b:List (Option Nat)} (h:Zm3 a=Zm3 b):a=b:=by
 have h1:a.map Zie=b.map Zie:=by simpa[Zm3]using h
 clear h
 induction a generalizing b with
 |nil=>cases b with
  |nil=>rfl
  |cons y b=>simp at h1
 |cons x a ih=>cases b with
  |nil=>simp at h1
  |cons y b=>
   simp only[List.map_cons,List.cons.injEq]at h1;rw[Zzf h1.1,ih h1.2]
theorem ArX.same {A P n cap:Nat} {s:ASt} {ps:List (Option Nat)} {p:Option Addr} {w:World} {P2 n2 cap2:Nat} {s2:ASt} {ps2:List (Option Nat)} {p2:Option Addr}
 (h:ArX A s P ps p n cap w) (k:ArX A s2 P2 ps2 p2 n2 cap2 w):P=P2/\ps=ps2:=by
 have h1:=h.hd;rw[k.hd]at h1
 have hP:P2=P:=by
  simp only[Option.some.injEq,Obj.cells.injEq,Zly]at h1
  have:=congrArg (fun x:Array Value=>x[2]?) h1.1
  simp at this;exact this.1
 subst hP;have h2:=h.row;rw[k.row]at h2
 simp only[Option.some.injEq,Obj.cells.injEq]at h2
 exact⟨rfl,(Zy1 h2.1).symm⟩
theorem Za0 {A P n cap:Nat} {s:ASt} {ps:List (Option Nat)} {p:Option Addr} {w:World} (h:ArX A s P ps p n cap w) (k:Nat):Zpx A w k↔Own A P ps k:=by
 constructor
 · rintro ⟨s2,P2,ps2,p2,n2,cap2,h2,ho⟩
   obtain⟨rfl,rfl⟩:=h.same h2;exact ho
 · intro ho;exact⟨s,P,ps,p,n,cap,h,ho⟩
theorem ArX.Yia {A P n cap:Nat} {s:ASt} {ps:List (Option Nat)} {p:Option Addr} {w:World} {P2 n2 cap2:Nat} {s2:ASt} {ps2:List (Option Nat)} {p2:Option Addr}
 (h:ArX A s P ps p n cap w) (k:ArX A s2 P2 ps2 p2 n2 cap2 w):p=p2:=by
 have h1:=h.hd;rw[k.hd]at h1
 simp only[Option.some.injEq,Obj.cells.injEq,Zly]at h1
 have:=congrArg (fun x:Array Value=>x[1]?) h1.1
 simp at this;exact this.1.symm
theorem Zbp {A P n cap:Nat} {s:ASt} {ps:List (Option Nat)} {p:Option Addr} {w:World} (h:ArX A s P ps p n cap w) (k:Nat):Ztr A w k↔∃off,p=some (aD k off):=by
 constructor
 · rintro ⟨s2,P2,ps2,p2,n2,cap2,off,h2,ho⟩
   exact⟨off,(h.Yia h2).trans ho⟩
 · rintro ⟨off,ho⟩;exact⟨s,P,ps,p,n,cap,off,h,ho⟩
theorem On.Zch {A:Nat} {s:ASt} {w:World} (h:On A s w):Good s.L s.es:=by obtain⟨P,ps,p,n,cap,h⟩:=h;exact h.Zch
theorem On.below {A:Nat} {s:ASt} {x y:World} (h:On A s x) (hb:Below x.heap.size x y):On A s y:=by
 obtain⟨P,ps,p,n,cap,h⟩:=h;exact⟨P,ps,p,n,cap,h.below hb⟩
theorem Zam.refl (A:Nat) (w:World):Zam A w w:=⟨rfl,rfl,rfl,Nat.le_refl _,fun _ _ _=>rfl,fun _ h=> .inl h,fun _ h=> .inl h⟩
theorem Zam.Zad {A:Nat} {s:ASt} {w w':World} (h:On A s w) (hb:Below w.heap.size w w'):Zam A w w':=by
 obtain⟨P,ps,p,n,cap,h⟩:=h
 exact⟨hb.os,hb.tape,hb.output,hb.size,fun k hk _=>hb.block k hk,fun k hk=> .inl ((Za0 h k).2 ((Za0 (h.below hb) k).1 hk)),fun k hk=> .inl ((Zbp h k).2 ((Zbp (h.below hb) k).1 hk))⟩
theorem Zam.trans {A:Nat} {w w1 w2:World} (h:Zam A w w1) (k:Zam A w1 w2):Zam A w w2:=by
 refine⟨k.os.trans h.os,k.tape.trans h.tape,k.output.trans h.output,Nat.le_trans h.size k.size,fun i hi hn=>?_,fun i hi=>?_,fun i hi=>?_⟩
 · refine(k.block i (Nat.lt_of_lt_of_le hi h.size) fun ho=>?_).trans (h.block i hi hn)
   rcases h.news i ho with h1|h1
   · exact hn h1
   · omega
 · rcases k.news i hi with h1|h1
   · exact h.news i h1
   · exact .inr (Nat.le_trans h.size h1)
 · rcases k.edge i hi with h1|h1
   · exact h.edge i h1
   · exact .inr (Nat.le_trans h.size h1)
theorem Zam.Znb {A P n cap:Nat} {s s':ASt} {ps:List (Option Nat)} {p:Option Addr} {w w':World} (h:ArX A s P ps p n cap w) (ht:Zel A P ps p s' w w'):On A s' w'/\Zam A w w':=by
 obtain⟨ps',p',n',cap',h1,h2,h3⟩:=ht
 refine⟨⟨P,ps',p',n',cap',h1⟩,⟨h2.os,h2.tape,h2.output,h2.size,fun k hk hn=>h2.block k hk fun ho=>hn ((Za0 h k).2 ho),fun k hk=>?_,fun k hk=>?_⟩⟩
 rotate_left
 · obtain⟨off,ho⟩:=(Zbp h1 k).1 hk
   rcases h3 k off ho with h4|h4
   · exact .inl ((Zbp h k).2 ⟨off,h4▸ho⟩)
   · exact .inr h4
 rcases(Za0 h1 k).1 hk with rfl|rfl|⟨j,hj⟩
 · exact .inl ((Za0 h _).2 (.inl rfl))
 · exact .inl ((Za0 h _).2 (.inr (.inl rfl)))
 · rcases h2.news j k hj with h3|h3
   · exact .inl ((Za0 h _).2 (.inr (.inr ⟨j,h3⟩)))
   · exact .inr h3
theorem Zam.Zdn {A:Nat} {s:ASt} {w w':World} (h:On A s w) (k:Zam A w w') {B:Nat} {c:Array Value} {T:TypeId} {fr:Nat × Nat} (hB:w.heap[B]?=some (.cells c T fr))
 (h1:T≠121) (h2:T≠122) (h3:T≠124):w'.heap[B]?=some (.cells c T fr):=by
 obtain⟨P,ps,p,n,cap,h⟩:=h
 exact(k.block B (Array.getElem?_eq_some_iff.1 hB).1 fun ho=>Ze6 h hB h1 h2 h3 ((Za0 h _).1 ho)).trans hB
structure Zbb (A R:Nat) (w:World):Prop where
 lt:R<w.heap.size
 own:¬Zpx A w R
 edg:¬Ztr A w R
theorem Zbb.Zaq {A R:Nat} {w w':World} (h:Zbb A R w) (k:Zam A w w'):Zbb A R w':=by
 refine⟨Nat.lt_of_lt_of_le h.lt k.size,fun ho=>?_,fun ho=>?_⟩
 · rcases k.news R ho with h1|h1
   · exact h.own h1
   · have:=h.lt;omega
 · rcases k.edge R ho with h1|h1
   · exact h.edg h1
   · have:=h.lt;omega
theorem Zbb.same {A R:Nat} {w w':World} (h:Zbb A R w) (k:Zam A w w'):w'.heap[R]?=w.heap[R]?:=k.block R h.lt h.own
theorem Zbb.at {A R:Nat} {w w':World} (h:Zbb A R w) (k:Zam A w w') {o:Obj} (ho:w.heap[R]?=some o):w'.heap[R]?=some o:=(h.same k).trans ho
theorem Zbb.new {A:Nat} {s:ASt} {w:World} (h:On A s w) (o:Obj):Zbb A w.heap.size (w.alloc o):=by
 obtain⟨P,ps,p,n,cap,h⟩:=h;have h2:=h.below ((Below.refl _ _).alloc (Nat.le_refl _) o)
 refine⟨by simp,fun ho=>?_,fun ho=>?_⟩
 · rcases(Za0 h2 _).1 ho with h3|h3|⟨i,h3⟩
   · have:=h.ltA;omega
   · have:=h.ltP;omega
   · have:=h.ltG h3;omega
 · obtain⟨off,h3⟩:=(Zbp h2 _).1 ho
   have:=h.ltE h3;omega
theorem Zah {x:World} {R o k:Nat} (v:Value) (h:k≠R):(x.setCell (aD R o) v).heap[k]?=x.heap[k]?:=Below.heap_setCell _ (aD R o) _ _ h
theorem Zbb.arx {A P n cap R:Nat} {s:ASt} {ps:List (Option Nat)} {p:Option Addr} {w:World} (h:ArX A s P ps p n cap w) (hm:Zbb A R w) (o:Nat) (v:Value):ArX A s P ps p n cap (w.setCell (aD R o) v):=
 h.kept (by simp[World.setCell]) (Zah v fun e=>hm.own ((Za0 h R).2 (.inl e.symm))) (Zah v fun e=>hm.own ((Za0 h R).2 (.inr (.inl e.symm)))) (fun i b hb=>Zah v fun e=>hm.own ((Za0 h R).2 (.inr (.inr ⟨i,e▸hb⟩))))
  (fun b off e=>Zah v fun e2=>hm.edg ((Zbp h R).2 ⟨off,e2▸e⟩))
theorem On.set {A R:Nat} {s:ASt} {w:World} (h:On A s w) (hm:Zbb A R w) (o:Nat) (v:Value):On A s (w.setCell (aD R o) v):=by
 obtain⟨P,ps,p,n,cap,h⟩:=h;exact⟨P,ps,p,n,cap,Zbb.arx h hm o v⟩
theorem Zhi {A R:Nat} {s:ASt} {w:World} (h:On A s w) (hm:Zbb A R w) (o:Nat) (v:Value) (k:Nat):(Zpx A (w.setCell (aD R o) v) k↔Zpx A w k)/\(Ztr A (w.setCell (aD R o) v) k↔Ztr A w k):=by
 obtain⟨P,ps,p,n,cap,h⟩:=h;have h2:=Zbb.arx h hm o v
 exact⟨(Za0 h2 k).trans (Za0 h k).symm,(Zbp h2 k).trans (Zbp h k).symm⟩
theorem Zbb.set {A R R2:Nat} {s:ASt} {w:World} (h:On A s w) (hm:Zbb A R w) (hm2:Zbb A R2 w) (o:Nat) (v:Value):Zbb A R2 (w.setCell (aD R o) v):=
 ⟨by have:=hm2.lt;simpa[World.setCell]using this,fun ho=>hm2.own ((Zhi h hm o v R2).1.1 ho),fun ho=>hm2.edg ((Zhi h hm o v R2).2.1 ho)⟩
theorem Zam.set {A R:Nat} {s:ASt} {w x:World} (k:Zam A w x) (h:On A s x) (hm:Zbb A R x) (hR:w.heap.size<=R) (o:Nat) (v:Value):Zam A w (x.setCell (aD R o) v):=
 ⟨k.os,k.tape,k.output,by have:=k.size;simpa[World.setCell]using this,fun i hi hn=>(Zah v (by omega)).trans (k.block i hi hn),fun i hi=>k.news i ((Zhi h hm o v i).1.1 hi),fun i hi=>k.edge i ((Zhi h hm o v i).2.1 hi)⟩
structure Ze0 (A:Nat) (w0 w:World):Prop where
 bel:Below w0.heap.size w0 w
 own:∀k,Zpx A w k->w0.heap.size<=k
 edg:∀k,Ztr A w k->w0.heap.size<=k
theorem Ze0.Zhz {A:Nat} {w0 w1 x:World} (h:Ze0 A w1 x) (hb:Below w0.heap.size w0 w1):Ze0 A w0 x:=
 ⟨hb.trans (h.bel.mono hb.size),fun k hk=>Nat.le_trans hb.size (h.own k hk),fun k hk=>Nat.le_trans hb.size (h.edg k hk)⟩
theorem Ze0.Zaq {A:Nat} {w0 w w':World} (h:Ze0 A w0 w) (k:Zam A w w'):Ze0 A w0 w':=by
 refine⟨h.bel.trans ⟨k.os,k.tape,k.output,k.size,fun i hi=>k.block i (Nat.lt_of_lt_of_le hi h.bel.size) fun ho=>?_⟩,fun i hi=>?_,fun i hi=>?_⟩
 rotate_right
 · rcases k.edge i hi with h1|h1
   · exact h.edg i h1
   · exact Nat.le_trans h.bel.size h1
 · have:=h.own i ho;omega
 · rcases k.news i hi with h1|h1
   · exact h.own i h1
   · exact Nat.le_trans h.bel.size h1
theorem Ze0.set {A R:Nat} {s:ASt} {w0 x:World} (k:Ze0 A w0 x) (h:On A s x) (hm:Zbb A R x) (hR:w0.heap.size<=R) (o:Nat) (v:Value):Ze0 A w0 (x.setCell (aD R o) v):=
 ⟨k.bel.setCell (p:=(aD R o)) hR v,fun i hi=>k.own i ((Zhi h hm o v i).1.1 hi),fun i hi=>k.edg i ((Zhi h hm o v i).2.1 hi)⟩
theorem Ze0.below {A:Nat} {s:ASt} {w0 w w':World} (h:Ze0 A w0 w) (hA:On A s w) (hb:Below w.heap.size w w'):Ze0 A w0 w':=h.Zaq (Zam.Zad hA hb)
def Ret (A:Nat) (s':ASt) (r:Value) (w:World) (e:Ending) (w':World):Prop:=e=.returned r/\On A s' w'/\Zam A w w'
def Zan (r:Value) (w:World) (e:Ending) (w':World):Prop:=e=.returned r/\Below w.heap.size w w'
section
variable {A:Nat} {s:ASt} {w:World}
theorem On.ret {s':ASt} {r:Value} {e:Ending} {w':World} {P n cap:Nat} {ps:List (Option Nat)} {p:Option Addr} (h:ArX A s P ps p n cap w) (k:e=.returned r/\Zel A P ps p s' w w'):Ret A s' r w e w':=
 ⟨k.1,Zam.Znb h k.2⟩
def ldV (s:ASt) (a k:Int):Int:=if Zb9 s.L s.es a k=0 then(Zck s.mm a.toNat k.toNat:Int)else 0
def byV (s:ASt) (a k:Int):ByteArray:=if Zac s.L s.es a k=0 then Zup (getM s.mm a.toNat k.toNat)else⟨#[]⟩
abbrev vwV (A va vs:Nat):Value:=.agg #[pT A,iV va,iV vs]
theorem Zfw (h:On A s w) (va vs:Nat) (h1:va<=4294967296) (h2:vs<=4294967296) (a k:Int) (ha:a<=9223372036854775807):
 Calls Tryz.prog 63 #[vwV A va vs,iV a,iV k] w (Zan (.tuple #[.int .u64 (ldV s (Zai va vs a k) k),iV (Zb9 s.L s.es (Zai va vs a k) k)]) w):=by
 obtain⟨P,ps,p,n,cap,h⟩:=h;exact Zmn h va vs h1 h2 a k ha
theorem Zdr (h:On A s w) (va vs:Nat) (h1:va<=4294967296) (h2:vs<=4294967296) (a k x:Int) (ha:a<=9223372036854775807) (hx:0<=x):
 Calls Tryz.prog 92 #[vwV A va vs,iV a,iV k,.int .u64 x] w (Ret A (Zbx s (Zai va vs a k) k x) (iV (Zb9 s.L s.es (Zai va vs a k) k)) w):=by
 obtain⟨P,ps,p,n,cap,h⟩:=h;exact(Zkf h va vs h1 h2 a k x ha hx).mono fun e w' k=>On.ret h k
theorem Zo5 (h:On A s w) (va vs:Nat) (h1:va<=4294967296) (h2:vs<=4294967296) (a k:Int) (ha:a<=9223372036854775807) (y:UInt8):
 Calls Tryz.prog 129 #[vwV A va vs,iV a,iV k,.int .u8 (y.toNat:Int)] w (Ret A (Zg3 s (Zai va vs a k) k y) (iV (Zac s.L s.es (Zai va vs a k) k)) w):=by
 obtain⟨P,ps,p,n,cap,h⟩:=h;exact(Zt7 h va vs h1 h2 a k ha y).mono fun e w' k=>On.ret h k
theorem Zcl (h:On A s w) (va vs:Nat) (h1:va<=4294967296) (h2:vs<=4294967296) (a k:Int) (ha:a<=9223372036854775807):
 Calls Tryz.prog 66 #[vwV A va vs,iV a,iV k] w (Zan (.tuple #[ofV (some (aD A 0)) (Zai va vs a k) k (Zac s.L s.es (Zai va vs a k) k),iV (Zac s.L s.es (Zai va vs a k) k)]) w):=by
 obtain⟨P,ps,p,n,cap,h⟩:=h;exact Zt4 h va vs h1 h2 a k ha
theorem Zgw (h:On A s w) (a k:Int) (ha:a<=9223372036854775807):
 Calls Tryz.prog 17 #[pT A,iV a,iV k] w (Zan (.tuple #[ofV (some (aD A 0)) a k (Zac s.L s.es a k),iV (Zac s.L s.es a k)]) w):=by
 obtain⟨P,ps,p,n,cap,h⟩:=h;exact Zoq h a k ha
theorem Zd1 (h:On A s w) (a k:Int) (ha:a<=9223372036854775807):
 Calls Tryz.prog 115 #[pT A,iV a,iV k] w (Ret A (Zaw s a k) (iV (Zau s a k)) w):=by
 obtain⟨P,ps,p,n,cap,h⟩:=h;exact(Zhq h a k ha).mono fun e w' k=>On.ret h k
theorem Zzo (h:On A s w) (a k:Int) (ha:a<=9223372036854775807) (y:UInt8):
 Calls Tryz.prog 33 #[pT A,iV a,iV k,.int .u8 (y.toNat:Int)] w (Ret A (Zg3 s a k y) (iV (Zac s.L s.es a k)) w):=by
 obtain⟨P,ps,p,n,cap,h⟩:=h;exact(Zrd h a k ha y).mono fun e w' k=>On.ret h k
theorem Zvq (h:On A s w) (a k:Int) (ha:a<=9223372036854775807):
 Calls Tryz.prog 34 #[pT A,iV a,iV k] w (Zan (.tuple #[.string (byV s a k),iV (Zac s.L s.es a k)]) w):=by
 obtain⟨P,ps,p,n,cap,h⟩:=h;exact Zn3 h a k ha
end
theorem Zh3 (c:Int) (w:World):Calls Tryz.prog 54 #[iV c] w fun e w'=>∃A,e=.returned (pT A)/\w.heap.size<=A/\On A (Zco (Zhl c)) w'/\Ze0 A w w'/\∀R,R<w.heap.size->Zbb A R w':=by
 refine(Zj2 c w).mono ?_
 rintro e w' ⟨A,P,he,hA,hP,hx,hb⟩
 have hO:∀k,Zpx A w' k->w.heap.size<=k:=fun k hk=>by
  rcases(Za0 hx k).1 hk with rfl|rfl|⟨i,hi⟩
  · exact hA
  · exact hP
  · rw[List.getElem?_replicate]at hi;split at hi<;>cases hi
 refine⟨A,he,hA,⟨_,_,_,_,_,hx⟩,⟨hb,hO,fun k hk=>by obtain⟨off,h3⟩:=(Zbp hx k).1 hk;cases h3⟩,fun R hR=>⟨Nat.lt_of_lt_of_le hR hb.size,fun ho=>?_,fun ho=>?_⟩⟩
 · have:=hO R ho;omega
 · obtain⟨off,h3⟩:=(Zbp hx R).1 ho;cases h3
end
end Go.Proofs.YtgcidfenjlmljaaGreat.Bt
