import Derived.Test.YtgcidfenjlmljaaGreatPg14
import Derived.Laws.CopyRow
import Derived.Test.YtgcidfenjlmljaaGreatPg03
import Derived.Deep.DeepCutAuto
import Derived.Test.YtgcidfenjlmljaaGreatPgR
set_option linter.unusedVariables false
set_option linter.unusedSimpArgs false
set_option maxRecDepth 100000
set_option maxHeartbeats 16000000
namespace Go.Proofs.YtgcidfenjlmljaaGreat.Bt
section
open Go Go.RowKit Go.Shelf
attribute [local go_sem] Oper.semAt_some
def LkL (s:ASt) (va vs:Nat) (k:Int) (lp:List Lk):Prop:=
 ((k<0\/((vs/8:Nat):Int)<=k)/\lp=[])\/∃(kn:Nat) (ms:List Nat),k=(kn:Int)/\kn<vs/8/\Ch s.L s.es s.mm (va+8*kn) 0 ms/\lp=prs (va+8*kn) 8 ms
theorem Zo9 (n x y A va vs:Nat) (s:ASt) (h1:va<=4294967296) (h2:vs<=4294967296) (k:Int) (lp:List Lk) (hl:LkL s va vs k lp) (w:World) (hA:On A s w) (hx:Zbb A x w) (hy:Zbb A y w) (hb:Zfd x y A va vs k w):
 Yji 40 Fence.wide n Tryz.prog 222 #[pT x,pT y] (Yas A) (KL A s x y) (fun ys=>ys=lp) (fun pre=>pre<+:lp) lp.length w:=fun l J Jx W hW hJ hJx hY h0=>by
 rcases hl with⟨hk,rfl⟩|⟨kn,ms,rfl,hkn,hC,rfl⟩
 · exact(Zsq n l x y A va vs h2 k hk J W (hb.below hW) (fun X Y hX hg=>hJ [] X Y none hX hg (fun r e=>by cases e)) h0).mono fun e W' ⟨he,hj⟩=>⟨he,.inl ⟨[],rfl,hj⟩⟩
 · exact Zv7 n l x y A va vs kn _ rfl s h1 h2 hkn ms J Jx W (hA.below hW) hC (hx.Zfh hA hW) (hy.Zfh hA hW) (hb.below hW) hJ hY h0
theorem Zz1 (pa:Option Addr) (va vs:Nat) (k:Int) (w:World):
 Calls Tryz.prog 208 #[lsP pa va vs,iV k] w fun e w'=>e=.returned (.func (.func 222) #[] #[.pointer (some ⟨w.heap.size+1,0,none⟩),.pointer (some (aD w.heap.size 0))])/\w'=(w.alloc (.cells #[.pointer pa,iV va,iV vs] 50)).alloc (.cells #[iV k] 3):=by
 have hmf:∀(fn:Fn) (first cap:Array Value) (w:World),(Instr.makeFunc fn first cap).run Tryz.prog w=.ok (.func fn first cap) w:=fun _ _ _ _=>rfl
 go_enter Tryz.func208,Tryz.ntmps208
 go_wp2
 go_ret
 exact⟨rfl,rfl⟩
def isF (f:Int) (x:Lk):Bool:=decide (x.2.2=0)||decide (f<=(x.2.2:Int))
def Zye (A:Nat) (lp:List Lk) (f:Int):Value:=match lp.find? (isF f)with
 |some x=> .tuple #[vwV A x.1 x.2.1,iV (x.2.2:Int),iV 0]
 |none=> .tuple #[.agg #[.pointer none,iV 0,iV 0],iV 0,iV 3]
theorem Zrc (h z:Nat) (ms:List Nat) (f:Int) (hp:∀m∈ms,0<m):(prs h z ms).find? (isF f)=some (fnd h z ms f):=by
 induction ms generalizing h z with
 |nil=>simp[prs,fnd,isF]
 |cons m t ih=>
  have hm:=hp m (by simp);unfold prs fnd;by_cases hf:f<=(m:Int)
  · rw[if_pos hf,List.find?_cons_of_pos (by simp[isF,hf])]
  · rw[if_neg hf,List.find?_cons_of_neg (by simp[isF];omega)]
    exact ih m 16 fun c hc=>hp c (List.mem_cons_of_mem _ hc)
structure Zoh (A B va vs:Nat) (f:Int) (a z:Value) (v u e:Value) (W:World):Prop where
 ls:W.heap[B]?=some (.cells #[pT A,iV va,iV vs] 50 (0,0))
 fr:W.heap[B+1]?=some (.cells #[iV f] 3 (0,0))
 r0:W.heap[B+2]?=some (.cells #[a,z,v] 40 (0,0))
 r1:W.heap[B+3]?=some (.cells #[u] 3 (0,0))
 r2:W.heap[B+4]?=some (.cells #[e] 45 (0,0))
theorem Zoh.kept {A B va vs:Nat} {f:Int} {a z v u e:Value} {W W':World} (h:Zoh A B va vs f a z v u e W) (hk:∀k,B<=k->k<=B+4->W'.heap[k]?=W.heap[k]?):Zoh A B va vs f a z v u e W':=
 ⟨(hk _ (by omega) (by omega)).trans h.ls,(hk _ (by omega) (by omega)).trans h.fr,(hk _ (by omega) (by omega)).trans h.r0,(hk _ (by omega) (by omega)).trans h.r1,(hk _ (by omega) (by omega)).trans h.r2⟩
theorem Zzz {T:TypeId} {B k:Nat} {W W':World} {row:Option Nat} (hg:W.grownBy W' row) (hr:∀r,row=some r->B<=r/\∃o:Obj,W.heap[r]?=some o/\(o.isCells=false\/OfT T o)) (hk:k<B) (hs:k<W.heap.size):W'.heap[k]?=W.heap[k]?:=
 hg.block k hs fun e=>by have:=(hr k e.symm).1;omega
theorem Zoh.put {A B va vs:Nat} {f:Int} {a z v u e:Value} {W:World} (h:Zoh A B va vs f a z v u e W) (a' z' v' u' e':Value):
 Zoh A B va vs f a' z' v' u' e' (((((W.setCell ⟨B+2,0,none⟩ a').setCell ⟨B+2,1,none⟩ z').setCell ⟨B+2,2,none⟩ v').setCell ⟨B+3,0,none⟩ u').setCell ⟨B+4,0,none⟩ e'):=by
 refine⟨?_,?_,?_,?_,?_⟩
 · exact(Zah e' (by omega)).trans ((Zah u' (by omega)).trans ((Ye2 (by omega) a' z' v').trans h.ls))
 · exact(Zah e' (by omega)).trans ((Zah u' (by omega)).trans ((Ye2 (by omega) a' z' v').trans h.fr))
 · exact(Zah e' (by omega)).trans ((Zah u' (by omega)).trans (Za8 h.r0 rfl a' z' v'))
 · exact(Zah e' (by omega)).trans (heap_set ((Ye2 (by omega) a' z' v').trans h.r1) u')
 · exact heap_set ((Zah u' (by omega)).trans ((Ye2 (by omega) a' z' v').trans h.r2)) e'
theorem Zxz {B:Nat} {w W:World} (h:Below B w W) (a' z' v' u' e':Value):
 Below B w (((((W.setCell ⟨B+2,0,none⟩ a').setCell ⟨B+2,1,none⟩ z').setCell ⟨B+2,2,none⟩ v').setCell ⟨B+3,0,none⟩ u').setCell ⟨B+4,0,none⟩ e'):=
 ((((h.setCell (p:=⟨B+2,0,none⟩) (by show B<=B+2;omega) _).setCell (p:=⟨B+2,1,none⟩) (by show B<=B+2;omega) _).setCell (p:=⟨B+2,2,none⟩) (by show B<=B+2;omega) _).setCell (p:=⟨B+3,0,none⟩) (by show B<=B+3;omega) _).setCell (p:=⟨B+4,0,none⟩) (by show B<=B+4;omega) _
theorem Zko (W:World) (B:Nat) (a' z' v' u' e':Value):
 KeepsOthers W (((((W.setCell ⟨B+2,0,none⟩ a').setCell ⟨B+2,1,none⟩ z').setCell ⟨B+2,2,none⟩ v').setCell ⟨B+3,0,none⟩ u').setCell ⟨B+4,0,none⟩ e'):=
 ((((KeepsOthers.setCell _ _ _).trans (KeepsOthers.setCell _ _ _)).trans (KeepsOthers.setCell _ _ _)).trans (KeepsOthers.setCell _ _ _)).trans (KeepsOthers.setCell _ _ _)
theorem size_put (W:World) (B:Nat) (a' z' v' u' e':Value):
 (((((W.setCell ⟨B+2,0,none⟩ a').setCell ⟨B+2,1,none⟩ z').setCell ⟨B+2,2,none⟩ v').setCell ⟨B+3,0,none⟩ u').setCell ⟨B+4,0,none⟩ e').heap.size=W.heap.size:=by simp[World.setCell]
structure FdI (A B va vs:Nat) (f:Int) (w:World) (a z v u e:Value) (W:World):Prop where
 bx:Zoh A B va vs f a z v u e W
 bel:Below B w W
 sz:B+7<=W.heap.size
theorem FdI.grown {A B va vs:Nat} {f:Int} {w:World} {a z v u e:Value} {W W':World} {T:TypeId} {row:Option Nat} (h:FdI A B va vs f w a z v u e W) (hg:W.grownBy W' row) (hr:∀r,row=some r->B+7<=r/\∃o:Obj,W.heap[r]?=some o/\(o.isCells=false\/OfT T o)):FdI A B va vs f w a z v u e W':=
 ⟨h.bx.kept fun k h1 h2=>Zzz hg hr (by omega) (by have:=h.sz;omega),h.bel.grown hg (by have:=h.sz;omega) (fun k e=>by have:=(hr k e).1;omega),Nat.le_trans h.sz hg.size⟩
theorem FdI.put {A B va vs:Nat} {f:Int} {w:World} {a z v u e:Value} {W:World} (h:FdI A B va vs f w a z v u e W) (a' z' v' u' e':Value):
 FdI A B va vs f w a' z' v' u' e' (((((W.setCell ⟨B+2,0,none⟩ a').setCell ⟨B+2,1,none⟩ z').setCell ⟨B+2,2,none⟩ v').setCell ⟨B+3,0,none⟩ u').setCell ⟨B+4,0,none⟩ e'):=
 ⟨h.bx.put _ _ _ _ _,Zxz h.bel _ _ _ _ _,by rw[size_put];exact h.sz⟩
theorem FdI.obj {A B va vs:Nat} {f:Int} {w:World} {a z v u e:Value} {W:World} (h:FdI A B va vs f w a z v u e W) {D:Nat} (hD:B+7<=D) (hK:W.heap[D]?=some (.deferred (some []))) (o':Obj):FdI A B va vs f w a z v u e (W.putObj D o'):=
 h.grown (T:=0) (grownBy_putObj' W D o') (fun r e=>by cases e;exact⟨hD,_,hK,.inl rfl⟩)
theorem FdI.all {A B va vs:Nat} {f:Int} {w:World} {a z v u e:Value} {W:World} (h:FdI A B va vs f w a z v u e W):
 W.cell? ⟨B+2,0,none⟩=some a/\W.cell? ⟨B+2,1,none⟩=some z/\W.cell? ⟨B+2,2,none⟩=some v/\W.cell? ⟨B+3,0,none⟩=some u/\W.cell? ⟨B+4,0,none⟩=some e/\W.cell? ⟨B+1,0,none⟩=some (iV f)/\
 W.frozen? ⟨B+2,0,none⟩=false/\W.frozen? ⟨B+2,1,none⟩=false/\W.frozen? ⟨B+2,2,none⟩=false/\W.frozen? ⟨B+3,0,none⟩=false/\W.frozen? ⟨B+4,0,none⟩=false:=
 ⟨(Zaa h.bx.r0 0).1,(Zaa h.bx.r0 1).1,(Zaa h.bx.r0 2).1,(Zaa h.bx.r1 0).1,(Zaa h.bx.r2 0).1,(Zaa h.bx.fr 0).1,(Zaa h.bx.r0 0).2,(Zaa h.bx.r0 1).2,(Zaa h.bx.r0 2).2,(Zaa h.bx.r1 0).2,(Zaa h.bx.r2 0).2⟩
theorem Yd2 {lp p:List Lk} {x:Lk} {f:Int} (hpre:p++[x]<+:lp) (hp:∀y∈p,isF f y=false) (hx:isF f x=true):lp.find? (isF f)=some x:=by
 obtain⟨q,rfl⟩:=hpre;rw[List.find?_append,List.find?_append];have h1:p.find? (isF f)=none:=List.find?_eq_none.2 fun y hy=>by rw[hp y hy];simp
 rw[h1];simp[hx]
def NoF (f:Int) (l:List Lk):Prop:=∀y∈l,isF f y=false
theorem NoF.nil (f:Int):NoF f []:=fun _ h=>by cases h
theorem NoF.snoc {f:Int} {l:List Lk} {x:Lk} (h:NoF f l) (hx:isF f x=false):NoF f (l++[x]):=fun y hy=>by
 rcases List.mem_append.1 hy with h'|h'
 · exact h y h'
 · rw[List.mem_singleton.1 h'];exact hx
def FdJ (A B va vs:Nat) (f:Int) (w:World) (pre:List Lk) (W:World):Prop:=NoF f pre/\FdI A B va vs f w (.pointer none) (iV 0) (iV 0) (iV 0) (iV 0) W
def FdX (A B va vs:Nat) (f:Int) (w:World) (c:Code) (pre:List Lk) (W:World):Prop:=
 c=.ret/\∃p x,pre=p++[x]/\NoF f p/\isF f x=true/\FdI A B va vs f w (pT A) (iV (x.1:Int)) (iV (x.2.1:Int)) (iV (x.2.2:Int)) (iV 0) W
theorem Zz4 (A:Nat) (s:ASt) (w:World) (h:On A s w) (va vs:Nat) (h1:va<=4294967296) (h2:vs<=4294967296) (k f:Int) (lp:List Lk) (hl:LkL s va vs k lp):
 CallsIn Fence.wide 5 Tryz.prog 182 #[lsP (some (aD A 0)) va vs,iV k,iV f] w (Zan (Zye A lp f) w):=by
 have HL:=hid hl;have HO:=hid h;clear hl h;refine callsIn_of_wp_marks Tryz.func182 rfl trivial ?_ rfl;simp only[Tryz.ntmps182,List.size_toArray,List.length_cons,List.length_nil,Nat.reduceAdd,Nat.reduceSub,Array.replicate_succ,Array.replicate_zero,List.push_toArray,List.append_toArray,List.nil_append,List.cons_append]
 gi_wp2_with fail
 obtain⟨B,hB⟩:=eX w.heap.size;obtain⟨w5,hw5⟩:=eX ((((((w.alloc (.cells #[pT A,iV va,iV vs] 50)).alloc (.cells #[iV f] 3)).alloc (.cells #[.pointer none,iV 0,iV 0] 40)).alloc (.cells #[iV 0] 3)).alloc (.cells #[iV 0] 45)));have s5:w5.heap.size=B+5:=by rw[<-hw5,<-hB];simp
 have b5:Below B w w5:=by
  rw[<-hw5,<-hB];exact(((((Below.refl _ w).alloc (Nat.le_refl _) _).alloc (by simp) _).alloc (by simp;omega) _).alloc (by simp;omega) _).alloc (by simp;omega) _
 have x5:Zoh A B va vs f (.pointer none) (iV 0) (iV 0) (iV 0) (iV 0) w5:=by
  obtain⟨g1,g2,g3,g4⟩:=Zrb w #[pT A,iV va,iV vs] #[iV f] #[.pointer none,iV 0,iV 0] #[iV 0] 50 3 40 3
  have up:∀{k:Nat} {o:Obj},k<w.heap.size+4->((((w.alloc (.cells #[pT A,iV va,iV vs] 50)).alloc (.cells #[iV f] 3)).alloc (.cells #[.pointer none,iV 0,iV 0] 40)).alloc (.cells #[iV 0] 3)).heap[k]?=some o->w5.heap[k]?=some o:=fun hk h=>by
   rw[<-hw5];exact(Below.heap_alloc _ _ _ (by simp;omega)).trans h
  rw[<-hB]
  refine⟨up (by omega) g1,up (by omega) g2,up (by omega) g3,up (by omega) g4,?_⟩
  have:=Zab ((((w.alloc (.cells #[pT A,iV va,iV vs] 50)).alloc (.cells #[iV f] 3)).alloc (.cells #[.pointer none,iV 0,iV 0] 40)).alloc (.cells #[iV 0] 3)) (.cells #[iV 0] 45)
  rw[hw5]at this
  simpa using this
 rw[hw5,hB];clear hw5
 refine⟨trivial,(callsIn_wide.2 (Zz1 _ va vs k _)).mono ?_⟩
 rintro e w' ⟨rfl,rfl⟩;obtain⟨w7,hw7⟩:=eX ((w5.alloc (.cells #[pT A,iV va,iV vs] 50)).alloc (.cells #[iV k] 3));have s7:w7.heap.size=B+7:=by rw[<-hw7];simp[s5]
 have b57:Below w5.heap.size w5 w7:=by rw[<-hw7];exact Zbm _ _ _
 have i7:FdI A B va vs f w (.pointer none) (iV 0) (iV 0) (iV 0) (iV 0) w7:=
  ⟨x5.kept fun k' _ _=>b57.block _ (by omega),b5.trans (b57.mono (by omega)),by omega⟩
 have bx7:Zfd (B+6) (B+5) A va vs k w7:=by
  obtain⟨g1,g2⟩:=Zbk w5 #[pT A,iV va,iV vs] #[iV k] 50 3;rw[hw7,s5]at g1 g2
  exact⟨g2,g1⟩
 have ho5:=HO.out.below (show Below w.heap.size w w5 from hB▸b5)
 have hm5:Zbb A (B+5) w7/\Zbb A (B+6) w7:=by
  have m1:=Zbb.new ho5 (.cells #[pT A,iV va,iV vs] 50);have o1:=ho5.below (Zaj w5 (.cells #[pT A,iV va,iV vs] 50));have m2:=Zbb.new o1 (.cells #[iV k] 3);have m3:=m1.Zfh o1 (Zaj _ (.cells #[iV k] 3));rw[hw7]at m2 m3;rw[s5]at m3;rw[World.size_alloc,s5]at m2
  exact⟨m3,m2⟩
 have ho7:=ho5.below b57;rw[hw7,s5];clear hw7 ho5 b57 x5 b5
 gi_wp2_with fail
 have hlx:B+6<w7.heap.size/\B+5<w7.heap.size:=by omega
 refine Yc5 (T:=40) rfl (by omega) (gf:=222) (lb:=#[.pointer (some ⟨B+6,0,none⟩),.pointer (some ⟨B+5,0,none⟩)]) rfl trivial (enters_of Tryz.func222 (by kernel_rfl) rfl)
  (Zo9 (5-1) (B+6) (B+5) A va vs s h1 h2 k lp HL.out w7 ho7 hm5.2 hm5.1 bx7) KL.trans (KL.put hlx.1 hlx.2) (fun _=>rfl)
  (FdJ A B va vs f w)
  (FdX A B va vs f w)
  (fun pre X Y row hs hg hr=>⟨hs.1,hs.2.grown hg (by rw[<-s7];exact hr)⟩)
  (fun c pre X Y row hs hg hr=>by
   obtain⟨e0,p,x,e1,e2,e3,hi⟩:=hs
   exact⟨e0,p,x,e1,e2,e3,hi.grown hg (by rw[<-s7];exact hr)⟩)
  ⟨NoF.nil f,i7⟩
  (fun x a' W=>∃V,B+7<=V/\a'={tmps:=#[.agg #[pT A,iV va,iV vs],iV k,iV f,pT B,undef,.pointer (some ⟨B+1,0,none⟩),.pointer (some ⟨B+2,0,none⟩),.pointer (some ⟨B+3,0,none⟩),.pointer (some ⟨B+4,0,none⟩),pT V,iV (x.2.2:Int),pT B,pT B,pT A,.bool false,undef,.agg #[pT A,iV va,iV vs],iV k,.func (.func 222) #[] #[.pointer (some ⟨B+6,0,none⟩),.pointer (some ⟨B+5,0,none⟩)],.agg #[pT A,iV (x.1:Int),iV (x.2.1:Int)],iV (x.2.2:Int),undef,undef,undef,undef,undef,undef,undef,undef,undef,undef],defers:=[]}/\W.heap[V]?=some (.cells #[pT A,iV (x.1:Int),iV (x.2.1:Int)] 40 (0,0)))
  (fun x a' _ X Y row hs hg hr=>by
   obtain⟨V,e1,e2,e3⟩:=hs
   exact⟨V,e1,e2,(grownBy_keeps_cells hg (fun r e=>(hr r e).2) e3 rfl).trans e3⟩)
  ?assign ?body ?done ?stop
 case assign=>
  intro l pre x W K hI hK;simp only[Yas]
  gi_wp2
  exact hK _ _ ((KeepsOthers.alloc _ _).from _) (KL.below (by have:=hI.2.sz;omega) (by have:=hI.2.sz;omega) (Zaj _ _)) ⟨hI.1,hI.2.grown (T:=0) (World.grownBy_alloc W _ none) (fun r e=>by cases e)⟩ ⟨W.heap.size,hI.2.sz,rfl,Zab _ _⟩
 case body=>
  rintro l pre x a' W ⟨hp,hi⟩ ⟨V,hV,rfl,hcV⟩ hlen;have HI:=hid hi;have HP:=hid hp;obtain⟨c0,c1,c2,c3,c4,c5,f0,f1,f2,f3,f4⟩:=hi.all;have v0:=(Zaa hcV 0).1;have v1:=(Zaa hcV 1).1;have v2:=(Zaa hcV 2).1;clear hp hi hcV
  have fin:Hid (isF f x=true->KeepsFrom (B+7) W (((((W.setCell ⟨B+2,0,none⟩ (pT A)).setCell ⟨B+2,1,none⟩ (iV (x.1:Int))).setCell ⟨B+2,2,none⟩ (iV (x.2.1:Int))).setCell ⟨B+3,0,none⟩ (iV (x.2.2:Int))).setCell ⟨B+4,0,none⟩ (iV 0))/\FdX A B va vs f w .ret (pre++[x]) (((((W.setCell ⟨B+2,0,none⟩ (pT A)).setCell ⟨B+2,1,none⟩ (iV (x.1:Int))).setCell ⟨B+2,2,none⟩ (iV (x.2.1:Int))).setCell ⟨B+3,0,none⟩ (iV (x.2.2:Int))).setCell ⟨B+4,0,none⟩ (iV 0))):=hid fun hx=>
   ⟨(Zko W B _ _ _ _ _).from _,rfl,pre,x,rfl,HP.out,hx,HI.out.put _ _ _ _ _⟩
  obtain⟨xa,xz,xm⟩:=x;by_cases hz:xm=0
  · have HX:Hid (isF f (xa,xz,xm)=true):=hid (by simp[isF,hz])
    subst hz
    gi_wp2_with fail
    exact fin.out HX.out
  · by_cases hf:f<=(xm:Int)
    · have HX:Hid (isF f (xa,xz,xm)=true):=hid (by simp[isF,hf])
      gi_wp2_with fail
      exact fin.out HX.out
    · have HX:Hid (isF f (xa,xz,xm)=false):=hid (by simp[isF,hz];omega)
      gi_wp2_with fail
      exact⟨KeepsFrom.refl _ _,KL.refl _,HP.out.snoc HX.out,HI.out⟩
 case done=>
  rintro D ys W hD rfl ⟨hp,hi⟩ hK;obtain⟨c0,c1,c2,c3,c4,c5,f0,f1,f2,f3,f4⟩:=hi.all;have HI:=hid (hi.put (.pointer none) (iV 0) (iV 0) (iV 0) (iV 3));have HK':=hid ((Zko W B (.pointer none) (iV 0) (iV 0) (iV 0) (iV 3)).same D _ hK rfl)
  have HV:Hid (Zye A ys f=.tuple #[.agg #[.pointer none,iV 0,iV 0],iV 0,iV 3]):=hid (by
   unfold Zye;rw[List.find?_eq_none.2 fun y hy=>by rw[hp y hy];simp])
  clear hi hp hK
  gi_wp2_with fail
  refine⟨by simp,.inl ⟨_,_,rfl,run_takeDeferred HK'.out,?_⟩⟩
  have hz:=HI.out.obj (by omega) HK'.out (.deferred none);obtain⟨c0,c1,c2,c3,c4,_⟩:=hz.all
  refine⟨.tuple #[.agg #[.pointer none,iV 0,iV 0],iV 0,iV 3],?_,by rw[HV.out],hB▸hz.bel⟩
  simp[results,Tryz.f182,go_sem,c0,c1,c2,c3,c4]
 case stop=>
  rintro D c pre W hD hpre ⟨rfl,p,x,rfl,hp,hx,hi⟩ hK
  have HV:Hid (Zye A lp f=.tuple #[vwV A x.1 x.2.1,iV (x.2.2:Int),iV 0]):=hid (by
   unfold Zye;rw[Yd2 hpre hp hx])
  gi_wp2_with fail
  refine⟨by simp,.inl ⟨_,_,rfl,run_takeDeferred hK,?_⟩⟩
  have hz:=hi.obj (by omega) hK (.deferred none);obtain⟨c0,c1,c2,c3,c4,_⟩:=hz.all
  refine⟨.tuple #[vwV A x.1 x.2.1,iV (x.2.2:Int),iV 0],?_,by rw[HV.out],hB▸hz.bel⟩
  simp[results,Tryz.f182,go_sem,c0,c1,c2,c3,c4]
theorem Zz5 {A:Nat} {s:ASt} {w:World} (h:On A s w) (va vs:Nat) (h1:va<=4294967296) (h2:vs<=4294967296) (k f:Int) (lp:List Lk) (hl:LkL s va vs k lp):
 Calls Tryz.prog 182 #[lsP (some (aD A 0)) va vs,iV k,iV f] w (Zan (Zye A lp f) w):=callsIn_wide.1 (Zz4 A s w h va vs h1 h2 k f lp hl)
end
section
open Go Go.RowKit Go.Shelf
attribute [local go_sem] Oper.semAt_some
end
section
open Go Go.RowKit Go.Shelf
def atV (lp:List Lk) (f:Int):Int:=match lp.find? (isF f)with|some x=>(x.2.2:Int)|none=>0
theorem Yal (A:Nat) (lp:List Lk) (f:Int):∃p a z e,Zye A lp f=.tuple #[.agg #[.pointer p,iV a,iV z],iV (atV lp f),iV e]:=by
 unfold Zye atV;cases lp.find? (isF f)with
 |some x=>exact⟨_,_,_,_,rfl⟩
 |none=>exact⟨_,_,_,_,rfl⟩
section
variable {A:Nat} {s:ASt} {w:World}
theorem Ybx (h:On A s w) (va vs:Nat) (h1:va<=4294967296) (h2:vs<=4294967296) (k:Int) (lp:List Lk) (hl:LkL s va vs k lp):
 Calls Tryz.prog 178 #[lsP (some (aD A 0)) va vs,iV k] w (Zan (.tuple #[iV (atV lp 1),.bool (decide (0<atV lp 1))]) w):=by
 have hb0:=Zaj w (.cells #[pT A,iV va,iV vs] 50);have HF:=hid (Zz5 (h.below hb0) va vs h1 h2 k 1 lp hl);have HB:=hid hb0;clear h hl hb0;obtain⟨p,a,z,er,hv⟩:=Yal A lp 1;have HV:=hid hv;clear hv;go_enter Tryz.func178,Tryz.ntmps178;go_wp2_with fail;refine HF.out.mono ?_;rintro e w1 ⟨rfl,hb⟩;rw[HV.out];have HB1:=hid (HB.out.trans (hb.mono HB.out.size));clear hb;generalize atV lp 1=m at*
 go_wp2_with fail
 go_ret2
 exact⟨rfl,HB1.out.alloc HB1.out.size _⟩
def LsK (s:ASt) (va vs:Nat) (k:Int) (h0:Nat) (ms:List Nat):Prop:=∃kn:Nat,k=(kn:Int)/\kn<vs/8/\h0=va+8*kn/\Ch s.L s.es s.mm h0 0 ms
theorem LsK.lk {va vs h0:Nat} {k:Int} {ms:List Nat} (h:LsK s va vs k h0 ms):LkL s va vs k (prs h0 8 ms):=by
 obtain⟨kn,e,hk,rfl,hc⟩:=h;exact .inr ⟨kn,ms,e,hk,hc,rfl⟩
theorem LsK.ch {va vs h0:Nat} {k:Int} {ms:List Nat} (h:LsK s va vs k h0 ms):Ch s.L s.es s.mm h0 0 ms:=by
 obtain⟨kn,e,hk,rfl,hc⟩:=h;exact hc
theorem Zpm {h0:Nat} {ms:List Nat} (hc:Ch s.L s.es s.mm h0 0 ms) (f:Int):Zye A (prs h0 8 ms) f=.tuple #[vwV A (fnd h0 8 ms f).1 (fnd h0 8 ms f).2.1,iV ((fnd h0 8 ms f).2.2:Int),iV 0]:=by
 unfold Zye;rw[Zrc h0 8 ms f hc.gt]
end
end
section
open Go Go.RowKit Go.Shelf
theorem Ch.next {L:Nat} {es:List Nat} {mm:Nat->UInt8} (g:Good L es):∀{h b:Nat} {ms:List Nat},Ch L es mm h b ms->∀x∈ms,(nxt mm x=0\/x<nxt mm x)/\nxt mm x<=4294967296
 |_,_,[],_,x,hx=>by cases hx
 |_,_,m::t,k,x,hx=>by
  rcases List.mem_cons.1 hx with rfl|hx
  · cases t with
    |nil=>have:=k.2.2.2.2.2;unfold nxt;omega
    |cons m2 t2=>have h2:=k.2.2.2.2;have h3:=Zb4 g h2.2.2.2.1;have h4:=h2.2.1;have h5:=h2.2.2.1;unfold nxt;omega
  · exact Ch.next g k.2.2.2.2 x hx
theorem Zek {A:Nat} {w w':World} {k:Nat} {o:Obj} (hb:Below w.heap.size w w') (h:w.heap[k]?=some o):w'.heap[k]?=some o:=(hb.block k (Array.getElem?_eq_some_iff.1 h).1).trans h
def Zx5 (A L M fa fz xa xz:Nat) (W:World):Prop:=W.heap[L]?=some (.cells #[pT A,iV fa,iV fz] 40 (0,0))/\W.heap[M]?=some (.cells #[pT A,iV xa,iV xz] 40 (0,0))
theorem Zx5.all {A L M fa fz xa xz:Nat} {W:World} (h:Zx5 A L M fa fz xa xz W):W.cell? (aD L 0)=some (pT A)/\W.cell? (aD L 1)=some (iV fa)/\W.cell? (aD L 2)=some (iV fz)/\
 W.cell? (aD M 0)=some (pT A)/\W.cell? (aD M 1)=some (iV xa)/\W.cell? (aD M 2)=some (iV xz)/\Zx5 A L M fa fz xa xz W:=
 ⟨(Zaa h.1 0).1,(Zaa h.1 1).1,(Zaa h.1 2).1,(Zaa h.2 0).1,(Zaa h.2 1).1,(Zaa h.2 2).1,h⟩
theorem Zx5.below {A L M fa fz xa xz:Nat} {W W':World} (h:Zx5 A L M fa fz xa xz W) (hb:Below W.heap.size W W'):Zx5 A L M fa fz xa xz W':=⟨Zek (A:=A) hb h.1,Zek (A:=A) hb h.2⟩
theorem Zx5.Zaq {A L M fa fz xa xz:Nat} {s:ASt} {W W':World} (h:Zx5 A L M fa fz xa xz W) (ho:On A s W) (hg:Zam A W W'):Zx5 A L M fa fz xa xz W':=⟨hg.Zdn ho h.1 (by decide) (by decide) (by decide),hg.Zdn ho h.2 (by decide) (by decide) (by decide)⟩
section
variable {A:Nat} {s:ASt} {w:World}
theorem Ye0 (h:On A s w) (va vs:Nat) (h1:va<=4294967296) (h2:vs<=4294967296) (k:Int) (h0 x:Nat) (ms:List Nat) (hl:LsK s va vs k h0 ms) (hx:0<x) (hm:x∈ms):
 Calls Tryz.prog 185 #[lsP (some (aD A 0)) va vs,iV k,iV x] w (Zan (iV 9) w):=by
 have hb0:=Zaj w (.cells #[pT A,iV va,iV vs] 50);have hch:=hl.ch;have hTT:Zac s.L s.es x 16=0:=hch.Yge x hm;have hxx:=Zb4 h.Zch hTT;have HF:=hid (Zz5 (h.below hb0) va vs h1 h2 k x _ hl.lk);have HB:=hid hb0;have HO:=hid h;have HC:=hid (Zab w (.cells #[pT A,iV va,iV vs] 50));have HV:=hid (Zpm (A:=A) hch x);have HCH:=hid hch;have HIS:=hid (Zw1 hch 8 x hx);have HFT:=hid (Zjv h.Zch hch 8 x);have HSZ:=hid (Zil h0 8 ms x);have HV0:Hid (∀pu a k,ofV pu a k 0=.agg #[.pointer pu,iV a,iV k]):=hid fun pu a k=>by unfold ofV;rw[if_pos rfl]
 have HD:Hid (decide ((x:Int)<1)=false):=hid (by simp;omega);have HXP:=hid hx;clear h hl hb0 hch hx;go_enter Tryz.func185,Tryz.ntmps185;go_wp2_with fail;refine HF.out.mono ?_;rintro e w1 ⟨rfl,hb⟩;rw[HV.out];have hc1:=Zek (A:=A) hb HC.out;have HB1:=hid (HB.out.trans (hb.mono HB.out.size));generalize hfa:(fnd h0 8 ms x).1=fa at*
 generalize hfz:(fnd h0 8 ms x).2.1=fz at*
 generalize hfm:(fnd h0 8 ms x).2.2=fm at*
 have HFA:=hid hfa;have HFZ:=hid hfz;have HFM:=hid hfm
 have HFT':=HFT;have HSZ':=HSZ;have HIS':=HIS
 have HXX:=hid hxx;clear HFT HSZ HIS hfa hfz hfm HV HF hxx;have hl1:=Zab w1 (.cells #[pT A,iV fa,iV fz] 40);have hc2:=Zek (A:=A) (Zaj w1 (.cells #[pT A,iV fa,iV fz] 40)) hc1;have c0:=(Zaa hc2 0).1;have hb2:=HB1.out.alloc HB1.out.size (.cells #[pT A,iV fa,iV fz] 40);have HX1:=hid (And.intro hl1 hc2);have HOF:=hid (Zgw (HO.out.below hb2) x 16 (by have:=HXX.out;omega));have HB2:=hid hb2;clear hb hc1 hl1 hc2 hb2;have hT:=hTT;clear hTT
 obtain rfl:fm=x:=HIS'.out.2 hm
 have HT:=hid hT;clear hT hm;have hd:=HD.out;go_wp2_with fail;refine HOF.out.mono ?_;rintro e w2 ⟨rfl,hb⟩;rw[HT.out,HV0.out];have HB3:=hid (HB2.out.trans (hb.mono HB2.out.size));clear hb c0;go_wp2_with fail
 go_ret
 exact⟨rfl,HB3.out.alloc HB3.out.size _⟩
theorem Zqz (h:On A s w) (va vs:Nat) (h1:va<=4294967296) (h2:vs<=4294967296) (k:Int) (h0 x:Nat) (ms:List Nat) (hl:LsK s va vs k h0 ms) (hx:0<x) (hm:x∉ms) (hT:Zac s.L s.es x 16=0):
 Calls Tryz.prog 185 #[lsP (some (aD A 0)) va vs,iV k,iV x] w (Ret A {s with mm:=Zc4 (Zc4 s.mm x (fnd h0 8 ms x).2.2) (fnd h0 8 ms x).1 x} (iV 0) w):=by
 have hb0:=Zaj w (.cells #[pT A,iV va,iV vs] 50);have hch:=hl.ch;have hTT:Zac s.L s.es x 16=0:=hT;have hxx:=Zb4 h.Zch hTT;have HF:=hid (Zz5 (h.below hb0) va vs h1 h2 k x _ hl.lk);have HB:=hid hb0;have HO:=hid h;have HC:=hid (Zab w (.cells #[pT A,iV va,iV vs] 50));have HV:=hid (Zpm (A:=A) hch x);have HCH:=hid hch;have HIS:=hid (Zw1 hch 8 x hx);have HFT:=hid (Zjv h.Zch hch 8 x);have HSZ:=hid (Zil h0 8 ms x);have HV0:Hid (∀pu a k,ofV pu a k 0=.agg #[.pointer pu,iV a,iV k]):=hid fun pu a k=>by unfold ofV;rw[if_pos rfl]
 have HD:Hid (decide ((x:Int)<1)=false):=hid (by simp;omega);have HXP:=hid hx;clear h hl hb0 hch hx;go_enter Tryz.func185,Tryz.ntmps185;go_wp2_with fail;refine HF.out.mono ?_;rintro e w1 ⟨rfl,hb⟩;rw[HV.out];have hc1:=Zek (A:=A) hb HC.out;have HB1:=hid (HB.out.trans (hb.mono HB.out.size));generalize hfa:(fnd h0 8 ms x).1=fa at*
 generalize hfz:(fnd h0 8 ms x).2.1=fz at*
 generalize hfm:(fnd h0 8 ms x).2.2=fm at*
 have HFA:=hid hfa;have HFZ:=hid hfz;have HFM:=hid hfm
 have HFT':=HFT;have HSZ':=HSZ;have HIS':=HIS
 have HXX:=hid hxx;clear HFT HSZ HIS hfa hfz hfm HV HF hxx;have hl1:=Zab w1 (.cells #[pT A,iV fa,iV fz] 40);have hc2:=Zek (A:=A) (Zaj w1 (.cells #[pT A,iV fa,iV fz] 40)) hc1;have c0:=(Zaa hc2 0).1;have hb2:=HB1.out.alloc HB1.out.size (.cells #[pT A,iV fa,iV fz] 40);have HX1:=hid (And.intro hl1 hc2);have HOF:=hid (Zgw (HO.out.below hb2) x 16 (by have:=HXX.out;omega));have HB2:=hid hb2;clear hb hc1 hl1 hc2 hb2;have HNE:Hid (((fm:Int)==(x:Int))=false):=hid (by have h3:fm≠x:=fun e=>hm (HIS'.out.1 e);exact beq_eq_false_iff_ne.2 (fun e=>h3 (by omega)))
 have hfm32:fm<=4294967296:=by
  rw[<-HFM.out];rcases Zpl h0 8 ms x with⟨e,_⟩|⟨e,_⟩
  · omega
  · have:=HCH.out.lt HO.out.Zch _ e;omega
 have hfa32:fa<=4294967296:=by have:=Zb4 HO.out.Zch HFT'.out;omega
 have HT:=hid hT;have HT8:=hid (Zfr HO.out.Zch hT (j:=8) (by omega) (by omega));clear hT hm;have hd:=HD.out;go_wp2_with fail;refine HOF.out.mono ?_;rintro e w2 ⟨rfl,hb⟩;rw[HT.out,HV0.out];have ho2:=(HO.out.below HB2.out).below hb;have hl2:=Zek (A:=A) hb HX1.out.1;have hc2:=Zek (A:=A) hb HX1.out.2;have hm3:=Zab w2 (.cells #[pT A,iV x,iV (16:Int)] 40);have hl3:=Zek (A:=A) (Zaj w2 (.cells #[pT A,iV x,iV (16:Int)] 40)) hl2;have ho3:=ho2.below (Zaj w2 (.cells #[pT A,iV x,iV (16:Int)] 40));have HB3:=hid ((HB2.out.trans (hb.mono HB2.out.size)).alloc (HB2.out.trans (hb.mono HB2.out.size)).size (.cells #[pT A,iV x,iV (16:Int)] 40));have HLD:=hid (Ydk ho3 x 16 fm (by have:=HXX.out;omega) (by omega) (by omega) hfm32 HT8.out);have HX3:=hid (And.intro hl3 ho3);have m0:=(Zaa hm3 0).1;have m1:=(Zaa hm3 1).1;have m2:=(Zaa hm3 2).1
 clear hb c0 ho2 hl2 hc2 hm3 hl3 ho3 hd;have hne:=HNE.out;go_wp2_with fail;refine HLD.out.mono ?_;rintro e w3 ⟨rfl,ho4,hg4⟩;have hl4:=hg4.Zdn HX3.out.2 HX3.out.1 (by decide) (by decide) (by decide);have HG4:=hid ((Zam.Zad HO.out HB3.out).trans hg4);have HL2:=hid (Ydk ho4 fa fz x hfa32 (by have:=HSZ'.out;omega) (by have:=HSZ'.out;omega) (by have:=HXX.out;omega) HFT'.out);have l0:=(Zaa hl4 0).1;have l1:=(Zaa hl4 1).1;have l2:=(Zaa hl4 2).1
 clear ho4 hg4 hl4 m0 m1 m2;go_wp2_with fail;refine HL2.out.mono ?_;rintro e w4 ⟨rfl,ho5,hg5⟩;have HF:=hid (And.intro ho5 (HG4.out.trans hg5));clear ho5 hg5 l0 l1 l2;go_wp2_with fail
 go_ret
 exact⟨rfl,HF.out.1,HF.out.2⟩
theorem Zqu (h:On A s w) (va vs:Nat) (h1:va<=4294967296) (h2:vs<=4294967296) (k:Int) (h0 x:Nat) (ms:List Nat) (hl:LsK s va vs k h0 ms) (hx:0<x) (hm:x∈ms):
 Calls Tryz.prog 123 #[lsP (some (aD A 0)) va vs,iV k,iV x] w (Ret A {s with mm:=Zc4 s.mm (fnd h0 8 ms x).1 (nxt s.mm x)} (iV 0) w):=by
 have hb0:=Zaj w (.cells #[pT A,iV va,iV vs] 50);have hch:=hl.ch;have hTT:Zac s.L s.es x 16=0:=hch.Yge x hm;have hxx:=Zb4 h.Zch hTT;have HF:=hid (Zz5 (h.below hb0) va vs h1 h2 k x _ hl.lk);have HB:=hid hb0;have HO:=hid h;have HC:=hid (Zab w (.cells #[pT A,iV va,iV vs] 50));have HV:=hid (Zpm (A:=A) hch x);have HCH:=hid hch;have HIS:=hid (Zw1 hch 8 x hx);have HFT:=hid (Zjv h.Zch hch 8 x);have HSZ:=hid (Zil h0 8 ms x);have HV0:Hid (∀pu a k,ofV pu a k 0=.agg #[.pointer pu,iV a,iV k]):=hid fun pu a k=>by unfold ofV;rw[if_pos rfl]
 have HD:Hid (decide ((x:Int)<1)=false):=hid (by simp;omega);have HXP:=hid hx;clear h hl hb0 hch hx;go_enter Tryz.func123,Tryz.ntmps123;go_wp2_with fail;refine HF.out.mono ?_;rintro e w1 ⟨rfl,hb⟩;rw[HV.out];have hc1:=Zek (A:=A) hb HC.out;have HB1:=hid (HB.out.trans (hb.mono HB.out.size));generalize hfa:(fnd h0 8 ms x).1=fa at*
 generalize hfz:(fnd h0 8 ms x).2.1=fz at*
 generalize hfm:(fnd h0 8 ms x).2.2=fm at*
 have HFA:=hid hfa;have HFZ:=hid hfz;have HFM:=hid hfm
 have HFT':=HFT;have HSZ':=HSZ;have HIS':=HIS
 have HXX:=hid hxx;clear HFT HSZ HIS hfa hfz hfm HV HF hxx;have hl1:=Zab w1 (.cells #[pT A,iV fa,iV fz] 40);have hc2:=Zek (A:=A) (Zaj w1 (.cells #[pT A,iV fa,iV fz] 40)) hc1;have c0:=(Zaa hc2 0).1;have hb2:=HB1.out.alloc HB1.out.size (.cells #[pT A,iV fa,iV fz] 40);have HX1:=hid (And.intro hl1 hc2);have HOF:=hid (Zgw (HO.out.below hb2) x 16 (by have:=HXX.out;omega));have HB2:=hid hb2;clear hb hc1 hl1 hc2 hb2;have hT:=hTT;clear hTT
 obtain rfl:fm=x:=HIS'.out.2 hm
 obtain⟨hn1,hn2⟩:=HCH.out.next HO.out.Zch fm hm;have hfa32:fa<=4294967296:=by have:=Zb4 HO.out.Zch HFT'.out;omega
 have HT:=hid hT;have HT8:=hid (Zfr HO.out.Zch hT (j:=8) (by omega) (by omega))
 have HRN:Hid ((if((nxt s.mm fm:Nat):Int)<=(fm:Int)then 0 else((nxt s.mm fm:Nat):Int))=((nxt s.mm fm:Nat):Int)):=hid (by
  rcases hn1 with e|e
  · rw[if_pos (by omega)];omega
  · rw[if_neg (by omega)])
 have HN2:=hid hn2;have HNX:Hid (Zck s.mm fm 8=nxt s.mm fm):=hid rfl;clear hT hm hn1 hn2;generalize nxt s.mm fm=nx at*
 have hd:=HD.out;go_wp2_with fail;refine HOF.out.mono ?_;rintro e w2 ⟨rfl,hb⟩;rw[HT.out,HV0.out];have ho2:=(HO.out.below HB2.out).below hb;have hl2:=Zek (A:=A) hb HX1.out.1;have hm3:=Zab w2 (.cells #[pT A,iV fm,iV (16:Int)] 40);have hl3:=Zek (A:=A) (Zaj w2 (.cells #[pT A,iV fm,iV (16:Int)] 40)) hl2;have ho3:=ho2.below (Zaj w2 (.cells #[pT A,iV fm,iV (16:Int)] 40));have HB3:=hid ((HB2.out.trans (hb.mono HB2.out.size)).alloc (HB2.out.trans (hb.mono HB2.out.size)).size (.cells #[pT A,iV fm,iV (16:Int)] 40));have HX3:=hid (And.intro hl3 (And.intro hm3 ho3));clear hb c0 ho2 hl2 hm3 hl3 ho3;have HN8:Hid (Zac s.L s.es (fa:Int) 8=0):=HFT';go_upto_region 9 with fail;have HTW:Zx5 A w1.heap.size w2.heap.size fa fz fm 16 (w2.alloc (.cells #[pT A,iV fm,iV (16:Int)] 40)):=⟨HX3.out.1,HX3.out.2.1⟩;obtain⟨L1,hL1⟩:=eX w1.heap.size;obtain⟨M2,hM2⟩:=eX w2.heap.size;have HO3:=hid HX3.out.2.2;obtain⟨w3,hw3⟩:=eX (w2.alloc (.cells #[pT A,iV fm,iV (16:Int)] 40));rw[hL1,hM2,hw3]at HTW;rw[hw3]at HO3 HB3;rw[hL1,hM2,hw3];clear HX3 hL1 hM2 hw3 hd HX1
 go_region_held3 (fun x=>x.cell? (aD L1 0)=some (pT A)/\x.cell? (aD L1 1)=some (iV fa)/\x.cell? (aD L1 2)=some (iV fz)/\x.cell? (aD M2 0)=some (pT A)/\x.cell? (aD M2 1)=some (iV fm)/\x.cell? (aD M2 2)=some (iV 16)/\Zx5 A L1 M2 fa fz fm 16 x)
  (first|exact(HTW.below (Below.refl _ _).drew).all|assumption)
  (first|(go_at_call 184;refine(Zv9 (HO3.out.below (Below.refl _ _).drew) fm 16 nx (by have:=HXX.out;omega) (by omega) (by omega) HN2.out HT8.out HNX.out fm).mono ?_;rintro e w' ⟨rfl,hbb⟩;rw[HRN.out];have hnx:=((HTW.below (Below.refl _ _).drew).below hbb).all;have hoo:=(HO3.out.below (Below.refl _ _).drew).below hbb;have hbw:=HB3.out.trans ((Below.refl _ w3).drew.trans hbb|>.mono HB3.out.size))
        |(go_at_call 183;refine(Ydk hoo fa fz nx hfa32 (by have:=HSZ'.out;omega) (by have:=HSZ'.out;omega) HN2.out HN8.out).mono ?_;rintro e w'' ⟨rfl,ho4,hg4⟩;have hny:=(hnx.2.2.2.2.2.2.Zaq hoo hg4).all))
 all_goals
  have HF:=hid (And.intro ho4 ((Zam.Zad HO.out hbw).trans hg4));clear HTW hnx hny ho4 hg4 hoo hbw hbb;go_wp2_with fail
  go_ret
  exact⟨rfl,HF.out.1,HF.out.2⟩
end
end
end Go.Proofs.YtgcidfenjlmljaaGreat.Bt
