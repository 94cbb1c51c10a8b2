import Derived.RangeFuncNested
import Derived.Test.YtgcidfenjlmljaaGreatPg13
import Derived.Test.YtgcidfenjlmljaaGreatPg08
import Derived.Test.YtgcidfenjlmljaaGreatPg03
import Derived.Test.YtgcidfenjlmljaaGreatPgR
set_option linter.unusedVariables false
set_option linter.unusedSimpArgs false
set_option maxRecDepth 100000
set_option maxHeartbeats 16000000
namespace Go.Proofs.YtgcidfenjlmljaaGreat.Bt
section
open Go Go.RowKit
def OfT (T:TypeId) (o:Obj):Prop:=∃c fr,o=.cells c T fr
def Ye8 {β:Type} (T:TypeId) (B:Nat) (I:β->World->Prop):Prop:=
 ∀s W W' row,I s W->W.grownBy W' row->(∀r,row=some r->B<=r/\∃o:Obj,W.heap[r]?=some o/\(o.isCells=false\/OfT T o))->I s W'
def Ybc {β:Type} (T:TypeId) (B:Nat) (J:β->World->Prop):Prop:=
 ∀s W W' row,J s W->W.grownBy W' row->(∀r,row=some r->B<=r/\∃o:Obj,W.heap[r]?=some o/\(o.isWalk=true\/OfT T o))->J s W'
def Yji {α:Type} (T:TypeId) (F:Fence) (n:Nat) (P:Program) (g:Nat) (lb:Array Value) (encs:α->Array Value) (Kp:World->World->Prop) (S Sp:List α->Prop) (N:Nat) (w:World):Prop:=
 ∀(l:Nat) (J Jx:List α->World->Prop) (W:World),Below w.heap.size w W->Ybc T W.heap.size J->Ybc T W.heap.size Jx->
  (∀pre x W1,J pre W1->pre.length<N->YieldAt F (n-1) P l (encs x) W1 fun e W'=>
   (e=.returned (.bool true)/\J (pre++[x]) W'/\Kp W1 W')\/(e=.returned (.bool false)/\Jx (pre++[x]) W'))->
  J [] W->
  CallsIn F n P g (#[.func (.yield l) #[] #[]]++lb) W fun e W'=>(∃v,e=.returned v)/\((∃xs,S xs/\J xs W')\/(∃pre,Sp pre/\Jx pre W'))
theorem Ye8.one {β:Type} {T:TypeId} {B:Nat} {I:β->World->Prop} (h:Ye8 T B I) {s:β} {W:World} (o:Obj) (hs:I s W):I s (W.alloc o):=
 h s W _ none hs (World.grownBy_alloc W o none) (fun r e=>by cases e)
theorem Ye8.Zf9 {β:Type} {T:TypeId} {B:Nat} {I:β->World->Prop} (h:Ye8 T B I) {s:β} {W:World} {l:Nat} {o:Obj} (o':Obj) (hs:I s W) (hB:B<=l) (hl:W.heap[l]?=some o) (ho:o.isCells=false):I s (W.putObj l o'):=
 h s W _ (some l) hs (grownBy_putObj' W l o') (fun r e=>by cases e;exact⟨hB,o,hl,.inl ho⟩)
theorem stays {T:TypeId} {B:Nat} {W W':World} {row:Option Nat} (hg:W.grownBy W' row) (hr:∀r,row=some r->B<=r/\∃o:Obj,W.heap[r]?=some o/\(o.isWalk=true\/OfT T o))
 {k:Nat} {o:Obj} (hk:W.heap[k]?=some o) (hw:o.isWalk=false) (ht:¬OfT T o):W'.heap[k]?=some o:=by
 refine(hg.block k (Array.getElem?_eq_some_iff.1 hk).1 fun e=>?_).trans hk
 obtain⟨_,o',ho',h⟩:=hr k e.symm;rw[hk]at ho';cases ho'
 rcases h with h|h
 · rw[hw]at h;cases h
 · exact ht h
theorem Yc5 {α:Type} {T:TypeId} {F:Fence} {n:Nat} {P:Program} {g:Operand} {ps:Array Tmp} {assign body:Code} {Q:Exit->Act->World->Prop} {a:Act} {w:World}
 (hro:F.round=none) (h1:1<=n) {gf:Nat} {lb:Array Value} (hg:a.eval g=.func (.func gf) #[] lb) (hFg:F.fn gf) (eg:∀args w,(callFunc gf args).run P w=.ok (.enter gf args) w)
 {encs:α->Array Value} {Kp:World->World->Prop} {S Sp:List α->Prop} {N:Nat} (hseq:Yji T F (n-1) P gf lb encs Kp S Sp N w)
 (hKt:∀{A B C:World},Kp A B->Kp B C->Kp A C) (hKb:∀(W:World) (l:Nat) (o o':Obj),w.heap.size<=l->W.heap[l]?=some o->o.isCells=false->o.isWalk=false->Kp W (W.putObj l o')) (hps:∀x,(encs x).size=ps.size)
 (I:List α->World->Prop) (Ix:Code->List α->World->Prop) (hI:Ye8 T w.heap.size I) (hIx:∀c,Ye8 T w.heap.size (Ix c)) (h0:I [] w)
 (Ax:α->Act->World->Prop) (hAx:∀x a',OwnFrom w.heap.size (fun(_:Unit) W=>Ax x a' W))
 (hassign:∀(l:Nat) (pre:List α) (x:α) (W:World) (K:Act->World->Prop),I pre W->(∀a' W',KeepsFrom w.heap.size W W'->Kp W W'->I pre W'->Ax x a' W'->K a' W')->
  assign.wpIn (F.inRound l) (n-1-1) P (Exit.then K (fun _ _ _=>False)) {tmps:=(ps.zip (encs x)).foldl (fun t (p,v)=>t.setIfInBounds p v) a.tmps,defers:=[]} W)
 (hbody:∀(l:Nat) (pre:List α) (x:α) (a':Act) (W:World),I pre W->Ax x a' W->pre.length<N->body.wpIn (F.inRound l) (n-1-1) P (ownPostG w.heap.size Kp I Ix (pre++[x]) W) a' W)
 (hdone:∀(D:Nat) (xs:List α) (W:World),w.heap.size<=D->S xs->I xs W->W.heap[D]?=some (.deferred (some []))->Q .normal {a with defers:={target:=.collected D,args:=#[]}::a.defers} W)
 (hstop:∀(D:Nat) (c:Code) (pre:List α) (W:World),w.heap.size<=D->Sp pre->Ix c pre W->W.heap[D]?=some (.deferred (some []))->c.wpIn F n P Q {a with defers:={target:=.collected D,args:=#[]}::a.defers} W):
 (Code.rangeFunc g ps assign body).wpIn F n P Q a w:=by
 refine wpIn_rangeFunc fun fn hfn=>?_
 rw[hro];obtain⟨D,hD⟩:=eX w.heap.size;obtain⟨mk,hmk⟩:∃mk:LoopState->Option Code->Loop,mk=fun st pe=>{state:=st,pending:=pe,fn:=fn,tmps:=a.tmps,params:=ps,assign:=assign,body:=body,defers:=D}:=⟨_,rfl⟩
 have mks:∀st pe,(mk st pe).state=st/\(mk st pe).pending=pe/\(∀st',{mk st pe with state:=st'}=mk st' pe)/\(∀st' pe',{mk st pe with state:=st',pending:=pe'}=mk st' pe'):=fun st pe=>by rw[hmk];exact⟨rfl,rfl,fun _=>rfl,fun _ _=>rfl⟩
 obtain⟨Bk,hBk⟩:∃Bk:LoopState->Option Code->World->Prop,Bk=fun st pe W=>W.heap[D+1]?=some (.loop (mk st pe))/\W.heap[D]?=some (.deferred (some [])):=⟨_,rfl⟩
 have put:∀{st pe} st' pe' {W:World},Bk st pe W->Bk st' pe' (W.putObj (D+1) (.loop (mk st' pe'))):=fun{st pe} st' pe' {W} h=>by
  rw[hBk]at h⊢
  exact⟨World.putObj_heap_same (Array.getElem?_eq_some_iff.1 h.1).1,(World.putObj_heap_other (by omega)).trans h.2⟩
 have kept:∀{st pe} {W W':World},KeepsFrom D W W'->Bk st pe W->Bk st pe W':=fun hk h=>by
  rw[hBk]at h⊢
  exact⟨hk.same _ _ (by omega) h.1 rfl,hk.same _ _ (Nat.le_refl _) h.2 rfl⟩
 have walked:∀{st pe} {W W':World} {row:Option Nat} {B:Nat},W.grownBy W' row->(∀r,row=some r->B<=r/\∃o:Obj,W.heap[r]?=some o/\(o.isWalk=true\/OfT T o))->Bk st pe W->Bk st pe W':=fun hg' hr h=>by
  rw[hBk]at h⊢
  exact⟨stays hg' hr h.1 rfl (fun⟨_,_,e⟩=>by cases e),stays hg' hr h.2 rfl (fun⟨_,_,e⟩=>by cases e)⟩
 have turnI:∀{st pe s} st' pe' {W:World},Bk st pe W->I s W->I s (W.putObj (D+1) (.loop (mk st' pe'))):=fun{st pe s} st' pe' {W} h hs=>by
  rw[hBk]at h;exact hI.Zf9 _ hs (by omega) h.1 rfl
 have turnX:∀{st pe s c} st' pe' {W:World},Bk st pe W->Ix c s W->Ix c s (W.putObj (D+1) (.loop (mk st' pe'))):=fun{st pe s c} st' pe' {W} h hs=>by
  rw[hBk]at h;exact(hIx _).Zf9 _ hs (by omega) h.1 rfl
 have turnK:∀{st pe} st' pe' {W:World},Bk st pe W->Kp W (W.putObj (D+1) (.loop (mk st' pe'))):=fun{st pe} st' pe' {W} h=>by
  rw[hBk]at h;exact hKb _ _ _ _ (by omega) h.1 rfl rfl
 obtain⟨W1,hW1⟩:=eX ((w.alloc (.deferred (some []))).alloc (.loop (mk .ready none)))
 have hB1:Bk .ready none W1:=by
  rw[hBk,<-hW1,<-hD]
  refine⟨?_,(Below.heap_alloc _ _ _ (by simp)).trans (World.alloc_heap_new w _)⟩
  have:=World.alloc_heap_new (w.alloc (.deferred (some []))) (.loop (mk .ready none));rwa [World.size_alloc]at this
 have hI1:I [] W1:=by rw[<-hW1];exact hI.one _ (hI.one _ h0)
 have hs1:D<=W1.heap.size:=by rw[<-hW1,<-hD];simp;omega
 have hb1:Below w.heap.size w W1:=by rw[<-hW1];exact((Below.refl _ w).alloc (Nat.le_refl _) _).alloc (by simp) _
 refine⟨D+1,[{target:=.collected D,args:=#[]}],W1,{target:=.fn (.func gf) lb,args:=#[.func (.yield (D+1)) #[] #[]]},W1,gf,#[.func (.yield (D+1)) #[] #[]]++lb,W1,?_,?_,?_,?_,fun _=>h1,?_⟩
 · rw[<-hW1,hmk,<-hD];exact run_enterLoop_outer _ _ _ _ _
 · simp only[resolve,hg];simp[go_sem]
 · intro f' hf';simp[Target.leads]at hf';subst hf';exact hFg
 · simp[invoke,go_sem,eg]
 have up:∀{A:World} {row:Option Nat},(∀r,row=some r->W1.heap.size<=r/\∃o:Obj,A.heap[r]?=some o/\(o.isWalk=true\/OfT T o))->(∀r,row=some r->w.heap.size<=r/\∃o:Obj,A.heap[r]?=some o/\(o.isCells=false\/OfT T o)):=
  fun hr r e=>by obtain⟨hB,o,ho,h⟩:=hr r e;exact⟨by omega,o,ho,h.imp Obj.not_cells_of_walk id⟩
 refine(hseq (D+1) (fun pre W=>I pre W/\Bk .ready none W) (fun pre W=>∃c,Ix c pre W/\Bk .done (some c) W) W1 hb1
  (fun s A B row hs hg' hr=>⟨hI s A B row hs.1 hg' (up hr),walked hg' hr hs.2⟩)
  (fun s A B row hs hg' hr=>by obtain⟨c,hc,hk⟩:=hs;exact⟨c,hIx c s A B row hc hg' (up hr),walked hg' hr hk⟩)
  ?_ ⟨hI1,hB1⟩).mono ?_
 ·
  rintro pre x W ⟨hi,hk⟩ hlen;have hl:W.heap[D+1]?=some (.loop (mk .ready none)):=by rw[hBk]at hk;exact hk.1
  have hy:=run_yield (P:=P) (args:=encs x) hl (by rw[hmk];exact hps x);rw[hmk]at hy
  refine⟨fn,_,assign,body,hy,roundIn_of_wpIn hfn (hassign _ pre x W _ hi ?_)⟩
  clear hy hl;intro a' Wa hkf hkp hia hax;have hka:=kept (by rw[<-hD];exact hkf) hk;have hl:Wa.heap[D+1]?=some (.loop (mk .ready none)):=by rw[hBk]at hka;exact hka.1
  have hbeg:=run_beginRound (P:=P) hl (mks _ _).1;rw[(mks _ _).2.2.1]at hbeg
  refine⟨_,hbeg,?_⟩
  have hkb:=put .busy none hka;have hkk:=turnK .busy none hka;refine wpIn_mono (hbody _ pre x a' _ (turnI .busy none hka hia) ((hAx x a') () _ _ (some (D+1)) hax (grownBy_putObj' _ _ _) (fun r e=>by cases e;exact⟨by omega,_,hl,rfl⟩)) hlen) ?_
  have fin:∀(jump:Option Code) (W3:World),KeepsFrom D (Wa.putObj (D+1) (.loop (mk .busy none))) W3->
   (Instr.endRound (D+1) jump).run P W3=.ok (.bool jump.isNone) (W3.putObj (D+1) (.loop (mk (if jump.isNone then .ready else .done) jump)))/\Bk .busy none W3:=fun jump W3 hk3=>by
   have h3:=kept hk3 hkb;have hl3:W3.heap[D+1]?=some (.loop (mk .busy none)):=by rw[hBk]at h3;exact h3.1
   have:=run_endRound (P:=P) jump hl3
   rw[(mks _ _).2.2.2]at this
   exact⟨this,h3⟩
  rintro e a3 W3 hp;cases e with
  |normal=>
   obtain⟨hk3,hkp3,hi3⟩:=hp;obtain⟨hr,h3⟩:=fin none W3 (by rw[<-hD];rw[<-hD]at hk3;exact hk3)
   exact⟨_,_,hr,.inl ⟨rfl,⟨turnI _ _ h3 hi3,put _ _ h3⟩,hKt hkp (hKt (hKt hkk hkp3) (turnK _ _ h3))⟩⟩
  |ret=>
   obtain⟨hk3,hi3⟩:=hp;obtain⟨hr,h3⟩:=fin (some .ret) W3 (by rw[<-hD];rw[<-hD]at hk3;exact hk3)
   exact⟨_,_,hr,.inr ⟨rfl,.ret,turnX _ _ h3 hi3,put _ _ h3⟩⟩
  |exit id=>
   obtain⟨hk3,hi3⟩:=hp;obtain⟨hr,h3⟩:=fin (some (.exit id)) W3 (by rw[<-hD];rw[<-hD]at hk3;exact hk3)
   exact⟨_,_,hr,.inr ⟨rfl,.exit id,turnX _ _ h3 hi3,put _ _ h3⟩⟩
  |goto t=>
   obtain⟨hk3,hi3⟩:=hp;obtain⟨hr,h3⟩:=fin (some (.goto t)) W3 (by rw[<-hD];rw[<-hD]at hk3;exact hk3)
   exact⟨_,_,hr,.inr ⟨rfl,.goto t,turnX _ _ h3 hi3,put _ _ h3⟩⟩
  |panic ch=>exact hp.elim
  |outgrown=>exact hp.elim
 ·
  have shut:∀{st pe} {W:World},st≠ .busy->Bk st pe W->(Instr.endLoop (D+1)).run P W=.ok pe (W.putObj (D+1) (.loop (mk .exhausted pe))):=fun{st pe W} hst h=>by
   have hl:W.heap[D+1]?=some (.loop (mk st pe)):=by rw[hBk]at h;exact h.1
   have:=run_endLoop (P:=P) hl (by rw[(mks st pe).1];exact hst)
   rw[(mks st pe).2.2.1,(mks st pe).2.1]at this;exact this
  have dfr:∀{st pe} {W:World},Bk st pe W->W.heap[D]?=some (.deferred (some [])):=fun h=>by rw[hBk]at h;exact h.2
  rintro e W2 ⟨⟨v,rfl⟩,(⟨xs,hS,hi,hk⟩|⟨pre,hSp,c,hi,hk⟩)⟩
  · exact⟨none,_,shut (by intro e;cases e) hk,hdone _ xs _ (by omega) hS (turnI _ _ hk hi) (dfr (put .exhausted none hk))⟩
  · exact⟨some c,_,shut (by intro e;cases e) hk,hstop _ c pre _ (by omega) hSp (turnX _ _ hk hi) (dfr (put .exhausted (some c) hk))⟩
end
section
open Go Go.RowKit Go.Shelf
attribute [local go_sem] Oper.semAt_some
section
variable {P:Program} {ops:Array Oper} {Q:Exit->Act->World->Prop} {S:World->Prop} {n:Nat} {md:Region.Mode}
theorem Zmi {o:Oper} {a:Act} {K:Act->World->Prop} (r:Result Next) (h:o.upon P a K Q r):o.uponIn Fence.wide n P a K Q r:=by
 unfold Oper.upon at h;unfold Oper.uponIn
 split at h
 · exact h
 · exact h
 · exact h
 · exact⟨fun hd=>by simp[Fence.wide]at hd,callsIn_wide.2 h⟩
 · exact⟨fun hd=>by simp[Fence.wide]at hd,fun c cs _=>by
    obtain⟨v,w',r,s⟩:=h c cs
    exact⟨v,w',r,stepsIn_wide.2 s⟩⟩
 · exact h
 · exact h.elim
theorem Zmh {i:Nat} (hLO:¬LetsOut Q) {K:Act->World->Prop} {a:Act} {w:World} (h:wpOp P ops Q i K a w):wpOpIn Fence.wide n P ops Q i K a w:=by
 unfold wpOp at h;unfold wpOpIn;cases ho:ops[i]? with
 |none=>rw[ho]at h;exact h
 |some o=>
  rw[ho]at h
  simp only at h⊢
  by_cases hw:Region.wanted o (yielded ops a.tmps)=true
  · rw[if_pos hw]at h⊢
    rcases h with h|⟨_,h⟩
    · refine⟨fun _ _=>trivial,?_⟩
      rw[show Fence.wide.round=none from rfl,Oper.semAt_none];exact Zmi _ h
    · exact absurd h hLO
  · rw[if_neg hw]at h⊢
    exact⟨fun _ _=>trivial,h⟩
theorem Ziu (hLO:¬LetsOut Q):∀(fuel:Nat) (listed:Array Bool) (a:Act) (w:World),wpAny P md ops Q fuel listed a w->wpAnyIn Fence.wide n P md ops Q fuel listed a w
 |0,_,_,_,h=>h
 |fuel+1,listed,a,w,h=>⟨h.1,fun i hi=>wpOpIn_mono (fun a' w' h'=>Ziu hLO fuel _ a' w' h') (Zmh hLO (h.2 i hi))⟩
theorem Ziv {id:Nat} {a:Act} {w:World} {K:Act->World->Prop} {Q':Exit->Act->World->Prop} (S:World->Prop) (hm:P.follows .mixedOrders=true)
 (h:wpAnyH P .any ops (Exit.then K fun _ _ _=>False) S ops.size (Array.replicate ops.size false) a w.drew):(Code.region id ops true).wpIn Fence.wide n P (Exit.then K Q') a w:=
 wpIn_mono (wpIn_region_any hm (Ziu (fun⟨_,_,h⟩=>h) _ _ _ _ (wpAny_of_held _ _ _ _ h))) fun e a' w' h'=>by cases e<;>first|exact h'|exact h'.elim
end
theorem Zju (W:World) (b o:Nat) (v:Value):W.grownBy (W.setCell (aD b o) v) (some b):=
 ⟨rfl,rfl,rfl,by simp[World.setCell],fun k _ hk=>Below.heap_setCell _ (aD b o) _ _ (fun e=>hk (by rw[e]))⟩
theorem Zfb {W W':World} (h:Below W.heap.size W W'):W.grownBy W' none:=⟨h.os,h.tape,h.output,h.size,fun k hk _=>h.block k hk⟩
theorem Zrt {A P n cap l:Nat} {s:ASt} {ps:List (Option Nat)} {p:Option Addr} {x:World} {o:Obj} (h:ArX A s P ps p n cap x) (hl:x.heap[l]?=some o) (ho:o.isCells=false) (o':Obj):ArX A s P ps p n cap (x.putObj l o'):=by
 have ne:∀{k:Nat} {c:Array Value} {T:TypeId} {fr:Nat × Nat},x.heap[k]?=some (.cells c T fr)->(x.putObj l o').heap[k]?=some (.cells c T fr):=fun{k c T fr} hk=>
  (World.putObj_heap_other (fun e=>by subst e;rw[hl]at hk;cases hk;cases ho)).trans hk
 exact{h with
  hd:=ne h.hd
  row:=ne h.row
  pg:=fun i b hb=>ne (h.pg i b hb)
  edges:=by
   rcases h.edges with h1|⟨b,off,h1,h2,h3⟩
   · exact .inl h1
   · refine .inr ⟨b,off,h1,by simpa[World.putObj]using h2,fun k hk=>?_⟩
     have h4:=h3 k hk;obtain⟨o2,ho2,hc2⟩:=cells_of_cell h4
     rw[World.cell?_of_block (w:=x) (a:=(aD b (off+k))) (World.putObj_heap_other (fun e=>by
      rw[show b=l from e]at ho2;rw[hl]at ho2;cases ho2;rw[ho]at hc2;cases hc2))]
     exact h4}
theorem On.Zf9 {A l:Nat} {s:ASt} {x:World} {o:Obj} (h:On A s x) (hl:x.heap[l]?=some o) (ho:o.isCells=false) (o':Obj):On A s (x.putObj l o'):=by
 obtain⟨P,ps,p,n,cap,h⟩:=h;exact⟨P,ps,p,n,cap,Zrt h hl ho o'⟩
theorem Zbb.Zf9 {A l k:Nat} {s:ASt} {x:World} {o:Obj} (h:On A s x) (hl:x.heap[l]?=some o) (ho:o.isCells=false) (o':Obj) (hm:Zbb A k x):Zbb A k (x.putObj l o'):=by
 obtain⟨P,ps,p,n,cap,h⟩:=h;have h2:=Zrt h hl ho o'
 exact⟨by have:=hm.lt;simpa[World.putObj]using this,fun e=>hm.own ((Za0 h k).2 ((Za0 h2 k).1 e)),fun e=>hm.edg ((Zbp h k).2 ((Zbp h2 k).1 e))⟩
theorem Zbb.Zfh {A k:Nat} {s:ASt} {x y:World} (h:On A s x) (hb:Below x.heap.size x y) (hm:Zbb A k x):Zbb A k y:=hm.Zaq (Zam.Zad h hb)
def KL (A:Nat) (s:ASt) (x y:Nat) (W W':World):Prop:=
 K2 x y W W'/\(On A s W->On A s W'/\∀k,Zbb A k W->Zbb A k W')/\∀(k:Nat) (c:Array Value),W.heap[k]?=some (Obj.cells c 40 (0,0))->W'.heap[k]?=some (Obj.cells c 40 (0,0))
theorem KL.trans {A:Nat} {s:ASt} {x y:Nat} {B C D:World} (h:KL A s x y B C) (k:KL A s x y C D):KL A s x y B D:=
 ⟨h.1.trans k.1,fun o=>⟨(k.2.1 (h.2.1 o).1).1,fun i hi=>(k.2.1 (h.2.1 o).1).2 i ((h.2.1 o).2 i hi)⟩,fun i c e=>k.2.2 i c (h.2.2 i c e)⟩
theorem KL.refl {A:Nat} {s:ASt} {x y:Nat} (W:World):KL A s x y W W:=⟨K2.refl _,fun o=>⟨o,fun _ h=>h⟩,fun _ _ e=>e⟩
theorem KL.put {A:Nat} {s:ASt} {x y:Nat} {w:World} (hx:x<w.heap.size) (hy:y<w.heap.size) (W:World) (l:Nat) (o o':Obj) (hl:w.heap.size<=l) (h:W.heap[l]?=some o) (hc:o.isCells=false) (hw:o.isWalk=false):KL A s x y W (W.putObj l o'):=
 ⟨K2.put hx hy W l o o' hl h hc hw,fun ho=>⟨ho.Zf9 h hc o',fun k hk=>Zbb.Zf9 ho h hc o' hk⟩,fun k c e=>(World.putObj_heap_other (fun e2=>by subst e2;rw[h]at e;cases e;cases hc)).trans e⟩
theorem KL.below {A:Nat} {s:ASt} {x y:Nat} {W W':World} (hx:x<W.heap.size) (hy:y<W.heap.size) (hb:Below W.heap.size W W'):KL A s x y W W':=
 ⟨⟨hb.block _ hx,hb.block _ hy⟩,fun o=>⟨o.below hb,fun k hk=>hk.Zfh o hb⟩,fun k c e=>(hb.block k (Array.getElem?_eq_some_iff.1 e).1).trans e⟩
abbrev Lk:=Nat × Nat × Nat
def Yas (A:Nat) (x:Lk):Array Value:=#[vwV A x.1 x.2.1,iV (x.2.2:Int)]
theorem Yfy (a z:Nat) (l:List Nat):0<(prs a z l).length:=by cases l<;>simp[prs]
def Yhk (A:Nat) (s:ASt) (V x y:Nat) (W0:World) (all:List Lk) (J:List Lk->World->Prop) (e t:Value) (wr:World):Prop:=
 ∃(pre:List Lk) (a z b:Nat) (rest:List Nat),e=iV 0/\t=iV b/\pre++prs a z rest=all/\Ch s.L s.es s.mm a b rest/\(8<=z/\z<=16/\a<=4294967296/\b<=4294967296)/\
  J pre wr/\On A s wr/\Zbb A V wr/\wr.heap[V]?=some (.cells #[pT A,iV a,iV z] 40 (0,0))/\K2 x y W0 wr
end
section
open Go Go.RowKit Go.Shelf
attribute [local go_sem] Oper.semAt_some
def Zfd (x y A va vs:Nat) (k:Int) (W:World):Prop:=
 W.heap[x]?=some (.cells #[iV k] 3 (0,0))/\W.heap[y]?=some (.cells #[pT A,iV va,iV vs] 50 (0,0))
theorem Zfd.k2 {x y A va vs:Nat} {k:Int} {W W':World} (h:Zfd x y A va vs k W) (hk:K2 x y W W'):Zfd x y A va vs k W':=⟨hk.1.trans h.1,hk.2.trans h.2⟩
theorem Zfd.below {x y A va vs:Nat} {k:Int} {W W':World} (h:Zfd x y A va vs k W) (hb:Below W.heap.size W W'):Zfd x y A va vs k W':=
 ⟨(hb.block _ (Array.getElem?_eq_some_iff.1 h.1).1).trans h.1,(hb.block _ (Array.getElem?_eq_some_iff.1 h.2).1).trans h.2⟩
theorem Zfd.all {x y A va vs:Nat} {k:Int} {W:World} (h:Zfd x y A va vs k W):W.cell? (aD x 0)=some (iV k)/\W.cell? (aD y 0)=some (pT A)/\W.cell? (aD y 1)=some (iV va)/\W.cell? (aD y 2)=some (iV vs):=
 ⟨(Zaa h.1 0).1,(Zaa h.2 0).1,(Zaa h.2 1).1,(Zaa h.2 2).1⟩
theorem Zsq (n l x y A va vs:Nat) (h2:vs<=4294967296) (k:Int) (hk:k<0\/((vs/8:Nat):Int)<=k) (J:List Lk->World->Prop) (W:World) (hbx:Zfd x y A va vs k W)
 (hJ:∀X Y,J [] X->X.grownBy Y none->J [] Y) (h0:J [] W):
 CallsIn Fence.wide n Tryz.prog 222 #[.func (.yield l) #[] #[],pT x,pT y] W fun e W'=>(∃v,e=.returned v)/\J [] W':=by
 have HB:=hid hbx;have HJ:=hid hJ;have H0:=hid h0;clear hbx hJ h0;refine callsIn_of_wp Tryz.func222 rfl trivial ?_ rfl;simp only[Tryz.ntmps222,List.size_toArray,List.length_cons,List.length_nil,Nat.reduceAdd,Nat.reduceSub,Array.replicate_succ,Array.replicate_zero,List.push_toArray,List.append_toArray,List.nil_append,List.cons_append]
 gi_wp2_with fail
 by_cases hk0:k<0
 · clear hk
   have hS0:Zfd x y A va vs k W.drew:=HB.out.below (Below.refl _ _).drew;have HF:=hid (HJ.out _ W.drew H0.out (Zfb (Below.refl _ _).drew));refine Ziv (Zfd x y A va vs k) (by kernel_rfl) ?_;refine tk 0 (iV k) rfl hS0 (fun X hS=>by obtain⟨s1,s2,s3,s4⟩:=hS.all;go_simp) ?_;refine tk 1 (.bool true) rfl hS0 (fun X hS=>by obtain⟨s1,s2,s3,s4⟩:=hS.all;go_simp) ?_;refine tk 2 (.bool true) rfl hS0 (fun X hS=>by obtain⟨s1,s2,s3,s4⟩:=hS.all;go_simp) ?_;refine tu 3 rfl hS0 ?_;refine tu 4 rfl hS0 ?_;refine tu 5 rfl hS0 ?_;refine tu 6 rfl hS0 ?_;refine tk 7 (.bool true) rfl hS0 (fun X hS=>by obtain⟨s1,s2,s3,s4⟩:=hS.all;go_simp) ?_;refine wpAnyH_done (by kernel_rfl) ?_ _;clear hS0
   gi_wp2_with fail
   exact bodyPost_ret (results_none rfl _ _ _) rfl ⟨⟨_,rfl⟩,HF.out⟩
 · have hkl:(vs:Int)/8<=k:=by omega
   clear hk;have hS0:Zfd x y A va vs k W.drew:=HB.out.below (Below.refl _ _).drew;refine Ziv (Zfd x y A va vs k) (by kernel_rfl) ?_;refine tk 0 (iV k) rfl hS0 (fun X hS=>by obtain⟨s1,s2,s3,s4⟩:=hS.all;go_simp) ?_;refine tk 1 (.bool false) rfl hS0 (fun X hS=>by obtain⟨s1,s2,s3,s4⟩:=hS.all;go_simp) ?_;refine tk 2 (.bool false) rfl hS0 (fun X hS=>by obtain⟨s1,s2,s3,s4⟩:=hS.all;go_simp) ?_;refine tk 3 (iV k) rfl hS0 (fun X hS=>by obtain⟨s1,s2,s3,s4⟩:=hS.all;go_simp) ?_;refine tk 4 (.agg #[pT A,iV va,iV vs]) rfl hS0 (fun X hS=>by obtain⟨s1,s2,s3,s4⟩:=hS.all;go_simp) ?_;refine rd [5] (AllReadyH.cons rfl (fun K1 hK1=>?_) AllReadyH.nil);go_simp
   refine(Zqv _ va vs h2 _).mono ?_
   rintro e W2 ⟨rfl,hb⟩;have hS1:=hS0.below hb;refine hK1.out _ _ hS1 (fun _=>?_);clear hK1 hS0
   try simp only[Act.put,apu]
   refine tk 6 (.bool true) rfl hS1 (fun X hS=>by obtain⟨s1,s2,s3,s4⟩:=hS.all;go_simp) ?_;refine tk 7 (.bool true) rfl hS1 (fun X hS=>by obtain⟨s1,s2,s3,s4⟩:=hS.all;go_simp) ?_;refine wpAnyH_done (by kernel_rfl) ?_ _;have HF:=hid (HJ.out _ W2 (HJ.out _ W.drew H0.out (Zfb (Below.refl _ _).drew)) (Zfb hb));clear hS1 hb
   gi_wp2_with fail
   exact bodyPost_ret (results_none rfl _ _ _) rfl ⟨⟨_,rfl⟩,HF.out⟩
theorem Zt2 {J:List Lk->World->Prop} {B:Nat} (hJ:Ybc 40 B J) {pre:List Lk} {X:World} {V:Nat} {c:Array Value} (hj:J pre X) (hB:B<=V) (hV:X.heap[V]?=some (.cells c 40 (0,0))) (u v z:Value):
 J pre (((X.setCell (aD V 0) u).setCell (aD V 1) v).setCell (aD V 2) z):=by
 have h1:=hJ pre _ _ (some V) hj (Zju X V 0 u) (fun r e=>by cases e;exact⟨hB,_,hV,.inr ⟨_,_,rfl⟩⟩);have h2:=hJ pre _ _ (some V) h1 (Zju _ V 1 v) (fun r e=>by cases e;exact⟨hB,_,heap_set hV u,.inr ⟨_,_,rfl⟩⟩);exact hJ pre _ _ (some V) h2 (Zju _ V 2 z) (fun r e=>by cases e;exact⟨hB,_,heap_set (heap_set hV u) v,.inr ⟨_,_,rfl⟩⟩)
theorem Zng {A R:Nat} {s:ASt} {x:World} (h:On A s x) (hm:Zbb A R x) (u v z:Value):
 On A s (((x.setCell (aD R 0) u).setCell (aD R 1) v).setCell (aD R 2) z)/\∀k,Zbb A k x->Zbb A k (((x.setCell (aD R 0) u).setCell (aD R 1) v).setCell (aD R 2) z):=by
 have h1:=h.set hm 0 u;have m1:=Zbb.set h hm hm 0 u;have h2:=h1.set m1 1 v;have m2:=Zbb.set h1 m1 m1 1 v
 exact⟨h2.set m2 2 z,fun k hk=>Zbb.set h2 m2 (Zbb.set h1 m1 (Zbb.set h hm hk 0 u) 1 v) 2 z⟩
theorem Ye2 {x:World} {B R:Nat} (hne:B≠R) (u v z:Value):(((x.setCell (aD R 0) u).setCell (aD R 1) v).setCell (aD R 2) z).heap[B]?=x.heap[B]?:=
 (Zah z hne).trans ((Zah v hne).trans (Zah u hne))
theorem Zv7 (n l x y A va vs k a0:Nat) (ha0:va+8*k=a0) (s:ASt) (h1:va<=4294967296) (h2:vs<=4294967296) (hk:k<vs/8) (ms:List Nat) (J Jx:List Lk->World->Prop) (W:World) (hA:On A s W) (hC:Ch s.L s.es s.mm a0 0 ms)
 (hx:Zbb A x W) (hy:Zbb A y W)
 (hbx:Zfd x y A va vs k W) (hJ:Ybc 40 W.heap.size J)
 (hY:∀pre x' W1,J pre W1->pre.length<(prs a0 8 ms).length->YieldAt Fence.wide (n-1) Tryz.prog l (Yas A x') W1 fun e W'=>
  (e=.returned (.bool true)/\J (pre++[x']) W'/\KL A s x y W1 W')\/(e=.returned (.bool false)/\Jx (pre++[x']) W')) (h0:J [] W):
 CallsIn Fence.wide n Tryz.prog 222 #[.func (.yield l) #[] #[],pT x,pT y] W fun e W'=>(∃v,e=.returned v)/\
  ((∃ys,ys=prs a0 8 ms/\J ys W')\/(∃pre,pre<+:prs a0 8 ms/\Jx pre W')):=by
 have g:=hA.Zch;have HG:=hid g;have hth:=hC.there;have hlt:a0+8<=4294967296:=by have:=Zb4 g hth;omega
 have HT:=hid hth;have HB:=hid hbx;have HJ:=hid hJ;have H0:=hid h0;have HA:=hid hA;have HC:=hid hC;have HY:=hid hY;have HMX:=hid hx;have HMY:=hid hy;have JB:Hid (∀pre X Y,J pre X->Below X.heap.size X Y->J pre Y):=hid fun pre X Y hj hb=>hJ pre X Y none hj (Zfb hb) (fun r e=>by cases e)
 have HAD:Hid (Zai va vs ((k:Int)*8) 8=(a0:Int)):=hid (by unfold Zai;rw[if_pos (by omega)];omega);have HV:Hid (∀pu a k,ofV pu a k 0=.agg #[.pointer pu,iV a,iV k]):=hid fun pu a k=>by unfold ofV;rw[if_pos rfl]
 clear g hth hbx hJ h0 hA hC hY hx hy ha0;refine callsIn_of_wp Tryz.func222 rfl trivial ?_ rfl;simp only[Tryz.ntmps222,List.size_toArray,List.length_cons,List.length_nil,Nat.reduceAdd,Nat.reduceSub,Array.replicate_succ,Array.replicate_zero,List.push_toArray,List.append_toArray,List.nil_append,List.cons_append]
 gi_wp2_with fail
 have hk0:¬(k:Int)<0:=by omega
 have hkl:(k:Int)<(vs:Int)/8:=by omega
 have hS0:Zfd x y A va vs k W.drew:=HB.out.below (Below.refl _ _).drew;refine Ziv (Zfd x y A va vs k) (by kernel_rfl) ?_;refine tk 0 (iV k) rfl hS0 (fun X hS=>by obtain⟨s1,s2,s3,s4⟩:=hS.all;go_simp) ?_;refine tk 1 (.bool false) rfl hS0 (fun X hS=>by obtain⟨s1,s2,s3,s4⟩:=hS.all;go_simp) ?_;refine tk 2 (.bool false) rfl hS0 (fun X hS=>by obtain⟨s1,s2,s3,s4⟩:=hS.all;go_simp) ?_;refine tk 3 (iV k) rfl hS0 (fun X hS=>by obtain⟨s1,s2,s3,s4⟩:=hS.all;go_simp) ?_;refine tk 4 (.agg #[pT A,iV va,iV vs]) rfl hS0 (fun X hS=>by obtain⟨s1,s2,s3,s4⟩:=hS.all;go_simp) ?_;refine rd [5] (AllReadyH.cons rfl (fun K1 hK1=>?_) AllReadyH.nil);go_simp
 refine(Zqv _ va vs h2 _).mono ?_
 rintro e W2 ⟨rfl,hb⟩;have hS1:=hS0.below hb;refine hK1.out _ _ hS1 (fun _=>?_);clear hK1 hS0
 try simp only[Act.put,apu]
 refine tk 6 (.bool false) rfl hS1 (fun X hS=>by obtain⟨s1,s2,s3,s4⟩:=hS.all;go_simp) ?_;refine tk 7 (.bool false) rfl hS1 (fun X hS=>by obtain⟨s1,s2,s3,s4⟩:=hS.all;go_simp) ?_;refine wpAnyH_done (by kernel_rfl) ?_ _;have HA2:=hid ((HA.out.below (Below.refl _ _).drew).below hb);have HJ2:=hid (JB.out _ W.drew _ (JB.out _ W _ H0.out (Below.refl _ _).drew) hb);have HMX2:=hid ((HMX.out.Zfh HA.out (Below.refl _ _).drew).Zfh (HA.out.below (Below.refl _ _).drew) hb);have HMY2:=hid ((HMY.out.Zfh HA.out (Below.refl _ _).drew).Zfh (HA.out.below (Below.refl _ _).drew) hb);have hsz:W.heap.size<=W2.heap.size:=hb.size;have HB2:=hid hS1;obtain⟨c0,c1,c2,c3⟩:=hS1.all;clear hS1 hb hk0 hkl
 gi_wp2_with fail
 refine⟨trivial,fun hd=>by simp[Fence.wide]at hd,(callsIn_wide.2 (Zcl HA2.out va vs h1 h2 ((k:Int)*8) 8 (by omega))).mono ?_⟩
 rintro e W3 ⟨rfl,hb⟩;rw[HAD.out,HT.out,HV.out];have HA3:=hid (HA2.out.below hb);have HJ3:=hid (JB.out _ _ _ HJ2.out hb);have HMX3:=hid (HMX2.out.Zfh HA2.out hb);have HMY3:=hid (HMY2.out.Zfh HA2.out hb);have HB3:=hid (HB2.out.below hb);have hsz3:W.heap.size<=W3.heap.size:=Nat.le_trans hsz hb.size;clear c0 c1 c2 c3 hb
 gi_wp2_with fail
 obtain⟨V,hVV⟩:=eX W3.heap.size;have hn0:=Zab W3 (.cells #[pT A,iV a0,iV 8] 40);have hmV:=Zbb.new HA3.out (.cells #[pT A,iV a0,iV 8] 40);have bV:=Zaj W3 (.cells #[pT A,iV a0,iV 8] 40);have hltx:x<W3.heap.size:=(Array.getElem?_eq_some_iff.1 HB3.out.1).1;have hlty:y<W3.heap.size:=(Array.getElem?_eq_some_iff.1 HB3.out.2).1
 have HST:Hid (Yhk A s V x y W3 (prs a0 8 ms) J (iV 0) (iV 0) (W3.alloc (.cells #[pT A,iV a0,iV 8] 40))):=Lib.hid
  ⟨[],a0,8,0,ms,rfl,rfl,rfl,HC.out,⟨by omega,by omega,by omega,by omega⟩,JB.out _ _ _ HJ3.out bV,HA3.out.below bV,hVV▸hmV,hVV▸hn0,⟨bV.block _ hltx,bV.block _ hlty⟩⟩
 have HBX:Hid (∀X,K2 x y W3 X->Zfd x y A va vs k X):=hid fun X hX=>HB3.out.k2 hX
 rw[hVV]at hsz3 hltx hlty⊢;clear hn0 hmV bV hVV
 gi_loopw [5,6] (fun e t wr=>Yhk A s V x y W3 (prs a0 8 ms) J e t wr) (fun _ t _=>4294967296-(intOf t).toNat)
 case atStart=>exact HST.out
 case round=>
  obtain⟨pre,a,z,b,rest,rfl,rfl,hall,hch,⟨hz8,hz16,ha32,hb32⟩,hj,ho,hm,hv,hk2⟩:=hrel;have hN:=hch.there
  obtain⟨nx,hnum,hnx,hnr⟩:∃nx:Nat,Zck s.mm a 8=nx/\nx<=4294967296/\((rest=[]/\nx=0)\/∃t,rest=nx::t/\b<nx):=by
   cases rest with
   |nil=>exact⟨0,hch.2,by omega,.inl ⟨rfl,rfl⟩⟩
   |cons m t=>exact⟨m,hch.2.1,by have:=Zb4 HG.out hch.2.2.2.1;omega,.inr ⟨t,rfl,hch.2.2.1⟩⟩
  have HR:Hid ((if(nx:Int)<=(b:Int)then 0 else(nx:Int))=(nx:Int)):=hid (by
   rcases hnr with⟨_,rfl⟩|⟨t,_,h⟩
   · rw[if_pos (by omega)];rfl
   · rw[if_neg (by omega)])
  have hlen:pre.length<(prs a0 8 ms).length:=by
   rw[<-hall,List.length_append];have:=Yfy a z rest;omega
  have HALL:=hid hall;have HCH:=hid hch;have HNR:=hid hnr;have c0:=(Zaa hv 0).1;have c1:=(Zaa hv 1).1;have c2:=(Zaa hv 2).1;have HP:=hid (And.intro hj (And.intro ho (And.intro hm (And.intro hv hk2))));have HFO:=hid (Zv9 ho a z nx ha32 (by omega) hz8 hnx hN hnum b);have hlt2:V<wr.heap.size:=(Array.getElem?_eq_some_iff.1 hv).1;clear hall hch hnr hj ho hm hv hk2 hN hnum
  gi_wp2_with fail
  refine⟨trivial,fun hd=>by simp[Fence.wide]at hd,(callsIn_wide.2 HFO.out).mono ?_⟩
  rintro e W4 ⟨rfl,hb⟩;rw[HR.out];obtain⟨hj,ho,hm,hv,hk2⟩:=HP.out;have hj4:=JB.out _ _ _ hj hb;have ho4:=ho.below hb;have hm4:=hm.Zfh ho hb;have hv4:=(hb.block V hlt2).trans hv;have hk4:K2 x y wr W4:=⟨hb.block _ (Array.getElem?_eq_some_iff.1 (HBX.out _ hk2).1).1,hb.block _ (Array.getElem?_eq_some_iff.1 (HBX.out _ hk2).2).1⟩;have hk24:=hk2.trans hk4;obtain⟨fn,tmps,assign,body,hy,hR⟩:=HY.out pre (a,z,nx) W4 hj4 hlen;simp only[Yas]at hy;have d0:=(Zaa hv4 0).1;have d1:=(Zaa hv4 1).1;have d2:=(Zaa hv4 2).1;have HQ:=hid (And.intro ho4 (And.intro hm4 (And.intro hv4 hk24)));clear hj ho hm hv hk2 hj4 ho4 hm4 hv4 hk4 hk24 c0 c1 c2 hb hlen
  gi_wp2_with fail
  refine⟨fun hd=>by simp[Fence.wide]at hd,hR.mono ?_⟩
  clear d0 d1 d2 hy;rintro e W5 (⟨rfl,hJ5,hk5⟩|⟨rfl,hJx5⟩)
  · rcases HNR.out with⟨hr0,rfl⟩|⟨t,hr0,hlt5⟩
    · subst hr0
      have HF:=hid hJ5;clear hJ5 hk5
      gi_wp2_with fail
      exact bodyPost_ret (results_none rfl _ _ _) rfl ⟨⟨_,rfl⟩,.inl ⟨_,HALL.out,HF.out⟩⟩
    · subst hr0
      obtain⟨ho4,hm4,hv4,hk24⟩:=HQ.out;obtain⟨ho5,hmm⟩:=hk5.2.1 ho4;have hm5:=hmm _ hm4;have hv5:=hk5.2.2 _ _ hv4;have hk25:=hk24.trans hk5.1;have hT:=HCH.out.2.2.2.1;have hnz:¬nx=0:=by omega
      obtain⟨_,c1,c2,c3⟩:=(HBX.out _ hk25).all;have HT5:=hid hT;have HP5:=hid (And.intro hJ5 (And.intro ho5 (And.intro hm5 (And.intro hv5 hk25))));have HOF:=hid (Zgw ho5 nx 16 (by omega));have HLB:=hid hlt5;clear hJ5 hk5 ho4 hm4 hv4 hk24 ho5 hmm hm5 hv5 hk25 hT hlt5
      gi_wp2_with fail
      refine⟨trivial,fun hd=>by simp[Fence.wide]at hd,(callsIn_wide.2 HOF.out).mono ?_⟩
      rintro e W6 ⟨rfl,hb⟩;rw[HT5.out,HV.out];obtain⟨hJ5,ho5,hm5,hv5,hk25⟩:=HP5.out;have hj6:=JB.out _ _ _ hJ5 hb;have ho6:=ho5.below hb;have hm6:=hm5.Zfh ho5 hb;have hv6:=(hb.block V (Array.getElem?_eq_some_iff.1 hv5).1).trans hv5;have hk6:K2 x y W3 W6:=hk25.trans ⟨hb.block _ (Array.getElem?_eq_some_iff.1 (HBX.out _ hk25).1).1,hb.block _ (Array.getElem?_eq_some_iff.1 (HBX.out _ hk25).2).1⟩;have d0:=(Zaa hv6 0).1;have d1:=(Zaa hv6 1).1;have d2:=(Zaa hv6 2).1;have f0:=(Zaa hv6 0).2;have f1:=(Zaa hv6 1).2;have f2:=(Zaa hv6 2).2;have HP6:=hid (And.intro hj6 (And.intro ho6 (And.intro hm6 (And.intro hv6 hk6))));clear hJ5 ho5 hm5 hv5 hk25 hj6 ho6 hm6 hv6 hk6 hb c1 c2 c3
      gi_wp2_with fail
      have HLX:=hid (show x≠V/\y≠V from⟨by omega,by omega⟩);go_roundw
      case rel=>
       obtain⟨hj6,ho6,hm6,hv6,hk6⟩:=HP6.out
       refine⟨pre++[(a,z,nx)],nx,16,nx,t,rfl,rfl,?_,HCH.out.2.2.2.2,⟨by omega,by omega,hnx,hnx⟩,Zt2 HJ.out hj6 hsz3 hv6 _ _ _,(Zng ho6 hm6 _ _ _).1,(Zng ho6 hm6 _ _ _).2 _ hm6,Za8 hv6 rfl _ _ _,?_⟩
       · rw[<-HALL.out,List.append_assoc];rfl
       · exact hk6.trans ⟨Ye2 HLX.out.1 _ _ _,Ye2 HLX.out.2 _ _ _⟩
      case measure=>have:=HLB.out;simp[intOf];omega
  · have HF:=hid hJx5
    clear hJx5
    gi_wp2_with fail
    refine bodyPost_ret (results_none rfl _ _ _) rfl ⟨⟨_,rfl⟩,.inr ⟨pre++[(a,z,nx)],?_,HF.out⟩⟩;rw[<-HALL.out];rcases HNR.out with⟨rfl,rfl⟩|⟨t,rfl,_⟩
    · exact List.prefix_rfl
    · exact⟨prs nx 16 t,by rw[List.append_assoc];rfl⟩
end
end Go.Proofs.YtgcidfenjlmljaaGreat.Bt
