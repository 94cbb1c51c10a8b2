import Derived.Test.YtgcidfenjlmljaaGreatPg01
import Derived.StillTail
import Derived.StillTailTactics
import Derived.OrdersIn
import Derived.TacticsIn
import Derived.ControlIn
import Derived.RangeFuncCalls
import Derived.WalkKit
import Derived.Test.YtgcidfenjlmljaaGreatPgR
set_option linter.unusedVariables false
set_option linter.unusedSimpArgs false
set_option maxRecDepth 100000
set_option maxHeartbeats 16000000
namespace Go.Proofs.YtgcidfenjlmljaaGreat.Bt
section
open Go Go.RowKit
theorem Znk {L:Nat} {es:List Nat} {fr n:Int} {inn:Bool} (h:Zao L fr n=false\/n=0):Zcd L es fr n inn=es:=by
 unfold Zcd;rcases h with h|h
 · rw[h];rfl
 · subst h;simp
theorem Zqy (L:Nat) (p:Option Addr) (m cap:Nat) (es:List Nat) (fr n:Int) (inn:Bool) (w:World) (g:Good L es) (hrow:Zb1 w p es) (hm:m=es.length) (hcap:m<=cap) (hcn:p=none->cap=0)
 (hf:fr<=9223372036854775807):
 Calls Tryz.prog 207 #[.agg #[iV L,.slice p m cap],iV fr,iV n,.bool inn] w (Zdg L p es fr n inn w):=by
 have hL:=g.small;have hgl:=Zct g;cases hw:Zao L fr n with
 |false=>
  have HS:Hid (Zcd L es fr n inn=es):=hid (Znk (.inl hw));have HE:Hid (Zbo L fr n=3):=hid (by unfold Zbo;rw[hw];rfl);have HW:=hid hw;clear hw
  have HM:=hid hm;clear hm
  have HP:=hid hcn;clear hcn
  go_enter Tryz.func207,Tryz.ntmps207;go_wp2_with fail
  refine(Zb7 L hL p m cap _ _ hf _).mono ?_
  rw[HW.out];rintro e w1 ⟨rfl,hb⟩
  have H1:Zc8 w L p m cap es w1:=by
   refine Zc8.next (x:=(w.alloc (.cells #[iV L,.slice p m cap] 118)).alloc (.cells #[iV 0,.slice none 0 0] 118)) ?_ (hb.mono (by simp))
   refine⟨by simp,by simp,by simp,by simp,by simp,by simp,by simp,((Below.refl _ _).alloc (Nat.le_refl _) _).alloc (by simp) _,?_⟩
   exact(hrow.below ((Below.refl _ _).alloc (Nat.le_refl _) _)).below ((Below.refl _ _).alloc (by simp) _)
  have hc0:=H1.c0;have hc1:=H1.c1;have f2:=H1.r0;have f3:=H1.r1;have f4:=H1.fz;have f5:=H1.fz1
  go_wp2_with fail
  exact bodyPost_ret (v:=.tuple #[.agg #[iV L,.slice p m cap],iV 3]) (by simp[results,Tryz.results207,go_sem,(Zbq f2 f3 (iV L) (.slice p m cap)).1,(Zbq f2 f3 (iV L) (.slice p m cap)).2]) rfl
   ⟨p,m,cap,by rw[HE.out],by rw[HS.out];exact HM.out,hcap,HP.out,by
    rw[HS.out];exact hrow.below ((H1.bl.setCell (p:=⟨w.heap.size+1,0,none⟩) (by show _<=w.heap.size+1;omega) _).setCell (p:=⟨w.heap.size+1,1,none⟩) (by show _<=w.heap.size+1;omega) _),.inl rfl,
    (H1.bl.setCell (p:=⟨w.heap.size+1,0,none⟩) (by show _<=w.heap.size+1;omega) _).setCell (p:=⟨w.heap.size+1,1,none⟩) (by show _<=w.heap.size+1;omega) _⟩
 |true=>
  have hwi:0<=fr/\0<=n/\n<=L-fr:=by simpa[Zao]using hw
  by_cases hn:n=0
  · subst hn
    have HS:Hid (Zcd L es fr 0 inn=es):=hid (Znk (.inr rfl));have HE:Hid (Zbo L fr 0=0):=hid (by unfold Zbo;rw[hw];rfl);have HW:=hid hw;clear hw
    have HM:=hid hm;clear hm
    have HP:=hid hcn;clear hcn
    go_enter Tryz.func207,Tryz.ntmps207;go_wp2_with fail
    refine(Zb7 L hL p m cap _ _ hf _).mono ?_
    rw[HW.out];rintro e w1 ⟨rfl,hb⟩
    have H1:Zc8 w L p m cap es w1:=by
     refine Zc8.next (x:=(w.alloc (.cells #[iV L,.slice p m cap] 118)).alloc (.cells #[iV 0,.slice none 0 0] 118)) ?_ (hb.mono (by simp))
     refine⟨by simp,by simp,by simp,by simp,by simp,by simp,by simp,((Below.refl _ _).alloc (Nat.le_refl _) _).alloc (by simp) _,?_⟩
     exact(hrow.below ((Below.refl _ _).alloc (Nat.le_refl _) _)).below ((Below.refl _ _).alloc (by simp) _)
    have hc0:=H1.c0;have hc1:=H1.c1;have f2:=H1.r0;have f3:=H1.r1;have f4:=H1.fz;have f5:=H1.fz1
    go_wp2_with fail
    exact bodyPost_ret (v:=.tuple #[.agg #[iV L,.slice p m cap],iV 0]) (by simp[results,Tryz.results207,go_sem,(Zbq f2 f3 (iV L) (.slice p m cap)).1,(Zbq f2 f3 (iV L) (.slice p m cap)).2]) rfl
     ⟨p,m,cap,by rw[HE.out],by rw[HS.out];exact HM.out,hcap,HP.out,by
      rw[HS.out];exact hrow.below ((H1.bl.setCell (p:=⟨w.heap.size+1,0,none⟩) (by show _<=w.heap.size+1;omega) _).setCell (p:=⟨w.heap.size+1,1,none⟩) (by show _<=w.heap.size+1;omega) _),.inl rfl,
      (H1.bl.setCell (p:=⟨w.heap.size+1,0,none⟩) (by show _<=w.heap.size+1;omega) _).setCell (p:=⟨w.heap.size+1,1,none⟩) (by show _<=w.heap.size+1;omega) _⟩
  · obtain⟨f,rfl⟩:=Int.eq_ofNat_of_zero_le hwi.1
    obtain⟨k,rfl⟩:=Int.eq_ofNat_of_zero_le hwi.2.1;have hk0:0<k:=by omega
    have hfk:f+k<=L:=by omega
    rcases hrow with⟨rfl,rfl⟩|⟨b,off,rfl,hlt,hc⟩
    · obtain rfl:cap=0:=hcn rfl
      obtain rfl:m=0:=hm
      cases inn
      · exact Zsv L f k w g hk0 hfk
      · exact Zsu L f k w g hk0 hfk
    · have hr:Zb1 w (some (aD b off)) es:=.inr ⟨b,off,rfl,hlt,hc⟩
      by_cases h1:Zcm (cnt es f)=inn
      · by_cases h2:Zcm (cnt es (f+k+1))=inn
        · exact Ydt L b off m cap es f k inn w g hr hm hcap hk0 hfk h1 h2
        · exact Yds L b off m cap es f k inn w g hr hm hcap hk0 hfk h1 (by revert h2;cases Zcm (cnt es (f+k+1))<;>cases inn<;>simp)
      · by_cases h2:Zcm (cnt es (f+k+1))=inn
        · exact Ydr L b off m cap es f k inn w g hr hm hcap hk0 hfk (by revert h1;cases Zcm (cnt es f)<;>cases inn<;>simp) h2
        · exact Ydq L b off m cap es f k inn w g hr hm hcap hk0 hfk (by revert h1;cases Zcm (cnt es f)<;>cases inn<;>simp) (by revert h2;cases Zcm (cnt es (f+k+1))<;>cases inn<;>simp)
theorem Zet {L:Nat} {es:List Nat} (g:Good L es) (fr n:Int) (inn:Bool):Good L (Zcd L es fr n inn):=by
 unfold Zcd;by_cases h:(Zao L fr n&&decide (n≠0))=true
 · rw[if_pos h]
   have h':(0<=fr/\0<=n/\n<=L-fr)/\n≠0:=by simpa[Zao]using h
   exact Zwb g (by omega) (by omega) inn
 · rw[if_neg h];exact g
theorem Zu7 {w w0 w1:World} {p p':Option Addr} {es es':List Nat} {v0 v1:Value} (hrow:Zb1 w p es) (hr':Zb1 w1 p' es') (ha:p'=p\/∃a,p'=some a/\w0.heap.size<=a.block) (hs:w0.heap.size=w.heap.size+2):
 Zb1 ((w1.setCell ⟨w.heap.size+1,0,none⟩ v0).setCell ⟨w.heap.size+1,1,none⟩ v1) p' es':=by
 rcases hr' with h|⟨b,off,rfl,hlt,hc⟩
 · exact .inl h
 · have hne:b≠w.heap.size+1:=by
    rcases ha with h|⟨a,h,h2⟩
    · subst h
      rcases hrow with⟨h,_⟩|⟨b',off',h,hlt',_⟩
      · cases h
      · cases h;omega
    · cases h;have h3:w0.heap.size<=b:=h2;omega
   have he:((w1.setCell ⟨w.heap.size+1,0,none⟩ v0).setCell ⟨w.heap.size+1,1,none⟩ v1).heap[b]?=w1.heap[b]?:=by
    rw[Below.heap_setCell _ ⟨w.heap.size+1,1,none⟩ _ _ (by exact hne),Below.heap_setCell _ ⟨w.heap.size+1,0,none⟩ _ _ (by exact hne)]
   have hl2:b<((w1.setCell ⟨w.heap.size+1,0,none⟩ v0).setCell ⟨w.heap.size+1,1,none⟩ v1).heap.size:=by
    have e:=he;rw[Array.getElem?_eq_getElem hlt]at e;exact(Array.getElem?_eq_some_iff.1 e).1
   refine .inr ⟨b,off,rfl,hl2,fun k hk=>?_⟩;rw[World.cell?_of_block (w:=w1) (a:=(aD b (off+k))) he];exact hc k hk
theorem Zp0 (L:Nat) (p:Option Addr) (m cap:Nat) (es:List Nat) (fr n:Int) (w:World) (g:Good L es) (hrow:Zb1 w p es) (hm:m=es.length) (hcap:m<=cap) (hcn:p=none->cap=0)
 (hf:fr<=9223372036854775807):
 Calls Tryz.prog 177 #[.agg #[iV L,.slice p m cap],iV fr,iV n] w (Zdg L p es fr n true w):=by
 have HM:=hid hm;have HP:=hid hcn;clear hm hcn
 go_enter Tryz.func177,Tryz.ntmps177;go_wp2_with fail
 refine(Zqy L p m cap es _ _ _ _ g ((hrow.below ((Below.refl _ _).alloc (Nat.le_refl _) _)).below ((Below.refl _ _).alloc (by simp) _)) HM.out hcap HP.out hf).mono ?_
 rintro e w1 ⟨p',n',cap',rfl,hn',hc',hp',hr',ha',hb⟩;have HN:=hid hn';have HP2:=hid hp';clear hn' hp'
 have hb2:Below w.heap.size w w1:=(((Below.refl _ _).alloc (Nat.le_refl _) _).alloc (by simp) _).trans (hb.mono (by simp;omega));have f2:w1.cell? ⟨w.heap.size+1,0,none⟩=some (iV 0):=by rw[hb.cell (p:=⟨w.heap.size+1,0,none⟩) (by simp)];simp
 have f3:w1.cell? ⟨w.heap.size+1,1,none⟩=some (.slice none 0 0):=by rw[hb.cell (p:=⟨w.heap.size+1,1,none⟩) (by simp)];simp
 have f4:w1.frozen? ⟨w.heap.size+1,0,none⟩=false:=by rw[hb.frozen (p:=⟨w.heap.size+1,0,none⟩) (by simp)];simp
 have f5:w1.frozen? ⟨w.heap.size+1,1,none⟩=false:=by rw[hb.frozen (p:=⟨w.heap.size+1,1,none⟩) (by simp)];simp
 go_wp2_with fail;have hbf:Below w.heap.size w ((w1.setCell ⟨w.heap.size+1,0,none⟩ (iV L)).setCell ⟨w.heap.size+1,1,none⟩ (.slice p' n' cap')):=(hb2.setCell (p:=⟨w.heap.size+1,0,none⟩) (by show _<=w.heap.size+1;omega) _).setCell (p:=⟨w.heap.size+1,1,none⟩) (by show _<=w.heap.size+1;omega) _
 exact bodyPost_ret (v:=.tuple #[.agg #[iV L,.slice p' n' cap'],iV (Zbo L fr n)]) (by simp[results,Tryz.results177,go_sem,(Zbq f2 f3 (iV L) (.slice p' n' cap')).1,(Zbq f2 f3 (iV L) (.slice p' n' cap')).2]) rfl
  ⟨p',n',cap',rfl,HN.out,hc',HP2.out,Zu7 hrow hr' ha' (by simp),by rcases ha' with h|⟨a,h,h2⟩;exact .inl h;exact .inr ⟨a,h,by simp at h2;omega⟩,hbf⟩
theorem Zoo (L:Nat) (p:Option Addr) (m cap:Nat) (es:List Nat) (fr n:Int) (w:World) (g:Good L es) (hrow:Zb1 w p es) (hm:m=es.length) (hcap:m<=cap) (hcn:p=none->cap=0)
 (hf:fr<=9223372036854775807):
 Calls Tryz.prog 247 #[.agg #[iV L,.slice p m cap],iV fr,iV n] w (Zdg L p es fr n false w):=by
 have HM:=hid hm;have HP:=hid hcn;clear hm hcn
 go_enter Tryz.func247,Tryz.ntmps247;go_wp2_with fail
 refine(Zqy L p m cap es _ _ _ _ g ((hrow.below ((Below.refl _ _).alloc (Nat.le_refl _) _)).below ((Below.refl _ _).alloc (by simp) _)) HM.out hcap HP.out hf).mono ?_
 rintro e w1 ⟨p',n',cap',rfl,hn',hc',hp',hr',ha',hb⟩;have HN:=hid hn';have HP2:=hid hp';clear hn' hp'
 have hb2:Below w.heap.size w w1:=(((Below.refl _ _).alloc (Nat.le_refl _) _).alloc (by simp) _).trans (hb.mono (by simp;omega));have f2:w1.cell? ⟨w.heap.size+1,0,none⟩=some (iV 0):=by rw[hb.cell (p:=⟨w.heap.size+1,0,none⟩) (by simp)];simp
 have f3:w1.cell? ⟨w.heap.size+1,1,none⟩=some (.slice none 0 0):=by rw[hb.cell (p:=⟨w.heap.size+1,1,none⟩) (by simp)];simp
 have f4:w1.frozen? ⟨w.heap.size+1,0,none⟩=false:=by rw[hb.frozen (p:=⟨w.heap.size+1,0,none⟩) (by simp)];simp
 have f5:w1.frozen? ⟨w.heap.size+1,1,none⟩=false:=by rw[hb.frozen (p:=⟨w.heap.size+1,1,none⟩) (by simp)];simp
 go_wp2_with fail;have hbf:Below w.heap.size w ((w1.setCell ⟨w.heap.size+1,0,none⟩ (iV L)).setCell ⟨w.heap.size+1,1,none⟩ (.slice p' n' cap')):=(hb2.setCell (p:=⟨w.heap.size+1,0,none⟩) (by show _<=w.heap.size+1;omega) _).setCell (p:=⟨w.heap.size+1,1,none⟩) (by show _<=w.heap.size+1;omega) _
 exact bodyPost_ret (v:=.tuple #[.agg #[iV L,.slice p' n' cap'],iV (Zbo L fr n)]) (by simp[results,Tryz.results247,go_sem,(Zbq f2 f3 (iV L) (.slice p' n' cap')).1,(Zbq f2 f3 (iV L) (.slice p' n' cap')).2]) rfl
  ⟨p',n',cap',rfl,HN.out,hc',HP2.out,Zu7 hrow hr' ha' (by simp),by rcases ha' with h|⟨a,h,h2⟩;exact .inl h;exact .inr ⟨a,h,by simp at h2;omega⟩,hbf⟩
end
end Go.Proofs.YtgcidfenjlmljaaGreat.Bt
namespace Go.Proofs.YtgcidfenjlmljaaGreat
section
open Go
section
variable {P:Program} {ops:Array Oper} {w:World} {n:Nat} {Q:Exit->Act->World->Prop}
theorem Zmj {i:Nat} {K:Act->Prop} {K':Act->World->Prop} {a:Act} (h:∀b,K b->K' b w) (hs:stOp P ops w i K a):wpOpIn Fence.wide n P ops Q i K' a w:=by
 unfold stOp at hs;unfold wpOpIn;cases ho:ops[i]? with
 |none=>rw[ho]at hs;exact h _ hs
 |some o=>
  rw[ho]at hs
  simp only at hs⊢
  by_cases hw:Region.wanted o (yielded ops a.tmps)=true
  · rw[if_pos hw]at hs⊢
    refine⟨fun _ _=>trivial,?_⟩
    rw[show Fence.wide.round=none from rfl,Oper.semAt_none];unfold Oper.still at hs;generalize (execOp a.eval o).run P w=r at hs
    match r,hs with
    | .ok (.value v) w',⟨hx,hk⟩=>subst hx;exact h _ hk
    | .ok .skip w',⟨hx,hk⟩=>subst hx;exact h _ hk
    | .ok (.enter f args) w',⟨hx,v,hc,hk⟩=>
     subst hx
     exact⟨fun hd=>by simp[Fence.wide]at hd,callsIn_wide.2 (hc.mono fun e w2 ⟨he,hw2⟩=>by subst he;subst hw2;exact h _ hk)⟩
  · rw[if_neg hw]at hs⊢
    exact⟨fun _ _=>trivial,h _ hs⟩
theorem Zmk {m g:Nat} {L:Array Bool->Act->Prop} (hL:∀listed b,L listed b->wpAnyIn Fence.wide n P .any ops Q g listed b w):
 ∀(f:Nat) (listed:Array Bool) (b:Act),wpAnyL P .any ops w m L f listed b->wpAnyIn Fence.wide n P .any ops Q (g+f) listed b w:=by
 intro f
 induction f with
 |zero=>intro listed b h;exact hL _ _ h
 |succ f ih=>
  intro listed b h
  refine⟨fun he=>absurd he h.1,fun i hi=>?_⟩
  exact Zmj (fun c hc=>ih _ c hc) (h.2 i hi).2
theorem Zop:∀(t:List Oper) (k:Nat) (listed:Array Bool) (b:Act) (x:World),(∀j,t[j]?=ops[k+j]?)->Region.seqB .any ops t.length k listed=true->
 wpListIn Fence.wide n P ops Q t b x->wpAnyIn Fence.wide n P .any ops Q t.length listed b x:=by
 intro t
 induction t with
 |nil=>intro k listed b x _ hB h;exact⟨by simpa[Region.seqB]using hB,h⟩
 |cons o t ih=>
  intro k listed b x ht hB h;have hk:ops[k]?=some o:=by have:=ht 0;simpa using this.symm
  simp only[List.length_cons,Region.seqB,Bool.and_eq_true,decide_eq_true_eq]at hB;obtain⟨hB1,hB2⟩:=hB
  refine⟨fun he=>(by rw[hB1]at he;cases he),fun i hi=>?_⟩
  have hik:i=k:=by rw[hB1]at hi;simpa using hi
  subst hik;have hop:wpOpIn Fence.wide n P ops Q i (wpListIn Fence.wide n P ops Q t) b x:=by unfold wpOpIn;rw[hk];exact h
  refine wpOpIn_mono (fun c y hc=>ih (i+1) _ c y (fun j=>?_) hB2 hc) hop
  have:=ht (j+1)
  rw[List.getElem?_cons_succ]at this;rw[this];congr 1;omega
theorem Zit {id:Nat} {a:Act} {l:List Oper} (m:Nat) (hm:P.follows .mixedOrders=true) (hB:Region.lexTailB .any l.toArray m=true)
 (h:wpStill P l.toArray w.drew (fun b=>wpListIn Fence.wide n P l.toArray Q (l.drop m) b w.drew) (l.take m) a):
 (Code.region id l.toArray true).wpIn Fence.wide n P Q a w:=by
 have hB':=hB;simp only[Region.lexTailB,Bool.and_eq_true,decide_eq_true_eq]at hB';obtain⟨⟨⟨⟨c1,c2⟩,c3⟩,c4⟩,c5⟩:=hB';have hlt:m<l.length:=by simpa using c2
 have e1:(l.take m).length=m:=by simp;omega
 have e2:(l.drop m).length=l.toArray.size-m:=by simp
 have start:HeadInv .any l.toArray m (Array.replicate l.toArray.size false):=
  ⟨by simp,fun j oj _ hl=>(by rw[getD_replicate_false]at hl;cases hl),fun t _ ht=>getD_in (by simpa using ht) (getD_replicate_false _ _)⟩
 have head:=wpAnyL_lex (md:=.any) (g:=l.toArray.size-m) c1 c3 c4 c2 (l.take m) 0 _ a
  (fun j hj=>by rw[e1]at hj;simp[hj]) (by simpa using e1) start (by rw[e1];exact c5) h
 rw[e1]at head;refine wpIn_region_any hm ?_
 have all:=Zmk (n:=n) (Q:=Q) (g:=l.toArray.size-m) (fun listed b hb=>by
  have:=Zop (n:=n) (Q:=Q) (l.drop m) m listed b {w with drawn:=w.drawn+1} (fun j=>by simp[List.getElem?_drop]) (by rw[e2];exact hb.1) hb.2
  rwa [e2]at this) m _ a head
 rwa [show l.toArray.size-m+m=l.toArray.size from by omega]at all
def Zgj (ops:Array Oper):Bool:=ops.toList.all fun o=>match o.op with| .defer _=>false|_=>true
theorem Zkp {ops:Array Oper} (h:Zgj ops=true) {i:Nat} {o:Oper} (ho:ops[i]?=some o):∀c,o.op≠ .defer c:=by
 intro c hc
 have hm:o∈ops.toList:=by
  obtain⟨h1,h2⟩:=Array.getElem?_eq_some_iff.1 ho;rw[<-h2];simp
 have:=List.all_eq_true.1 h o hm
 rw[hc]at this;cases this
theorem Zlb {l i:Nat} (hnd:Zgj ops=true) {K:Act->Prop} {K':Act->World->Prop} {a:Act} (h:∀b,K b->K' b w) (hs:stOp P ops w i K a):wpOpIn (Fence.wide.inRound l) n P ops Q i K' a w:=by
 unfold stOp at hs;unfold wpOpIn;cases ho:ops[i]? with
 |none=>rw[ho]at hs;exact h _ hs
 |some o=>
  rw[ho]at hs
  simp only at hs⊢
  by_cases hw:Region.wanted o (yielded ops a.tmps)=true
  · rw[if_pos hw]at hs⊢
    refine⟨fun _ _=>trivial,?_⟩
    rw[show(Fence.wide.inRound l).round=some l from rfl,Oper.semAt_some _ _ _ (Zkp hnd ho)];unfold Oper.still at hs;generalize (execOp a.eval o).run P w=r at hs
    match r,hs with
    | .ok (.value v) w',⟨hx,hk⟩=>subst hx;exact h _ hk
    | .ok .skip w',⟨hx,hk⟩=>subst hx;exact h _ hk
    | .ok (.enter f args) w',⟨hx,v,hc,hk⟩=>
     subst hx
     exact⟨fun hd=>by simp[Fence.inRound,Fence.wide]at hd,CallsIn.inRound l (callsIn_wide.2 (hc.mono fun e w2 ⟨he,hw2⟩=>by subst he;subst hw2;exact h _ hk))⟩
  · rw[if_neg hw]at hs⊢
    exact⟨fun _ _=>trivial,h _ hs⟩
theorem Zlc {l m g:Nat} (hnd:Zgj ops=true) {L:Array Bool->Act->Prop} (hL:∀listed b,L listed b->wpAnyIn (Fence.wide.inRound l) n P .any ops Q g listed b w):
 ∀(f:Nat) (listed:Array Bool) (b:Act),wpAnyL P .any ops w m L f listed b->wpAnyIn (Fence.wide.inRound l) n P .any ops Q (g+f) listed b w:=by
 intro f
 induction f with
 |zero=>intro listed b h;exact hL _ _ h
 |succ f ih=>
  intro listed b h
  exact⟨fun he=>absurd he h.1,fun i hi=>Zlb hnd (fun c hc=>ih _ c hc) (h.2 i hi).2⟩
theorem Zm4 {l:Nat}:∀(t:List Oper) (k:Nat) (listed:Array Bool) (b:Act) (x:World),(∀j,t[j]?=ops[k+j]?)->Region.seqB .any ops t.length k listed=true->
 wpListIn (Fence.wide.inRound l) n P ops Q t b x->wpAnyIn (Fence.wide.inRound l) n P .any ops Q t.length listed b x:=by
 intro t
 induction t with
 |nil=>intro k listed b x _ hB h;exact⟨by simpa[Region.seqB]using hB,h⟩
 |cons o t ih=>
  intro k listed b x ht hB h;have hk:ops[k]?=some o:=by have:=ht 0;simpa using this.symm
  simp only[List.length_cons,Region.seqB,Bool.and_eq_true,decide_eq_true_eq]at hB;obtain⟨hB1,hB2⟩:=hB
  refine⟨fun he=>(by rw[hB1]at he;cases he),fun i hi=>?_⟩
  have hik:i=k:=by rw[hB1]at hi;simpa using hi
  subst hik;have hop:wpOpIn (Fence.wide.inRound l) n P ops Q i (wpListIn (Fence.wide.inRound l) n P ops Q t) b x:=by unfold wpOpIn;rw[hk];exact h
  refine wpOpIn_mono (fun c y hc=>ih (i+1) _ c y (fun j=>?_) hB2 hc) hop
  have:=ht (j+1)
  rw[List.getElem?_cons_succ]at this;rw[this];congr 1;omega
theorem Zbr {id r:Nat} {a:Act} {l:List Oper} (m:Nat) (hm:P.follows .mixedOrders=true) (hB:Region.lexTailB .any l.toArray m=true) (hnd:Zgj l.toArray=true)
 (h:wpStill P l.toArray w.drew (fun b=>wpListIn (Fence.wide.inRound r) n P l.toArray Q (l.drop m) b w.drew) (l.take m) a):
 (Code.region id l.toArray true).wpIn (Fence.wide.inRound r) n P Q a w:=by
 have hB':=hB;simp only[Region.lexTailB,Bool.and_eq_true,decide_eq_true_eq]at hB';obtain⟨⟨⟨⟨c1,c2⟩,c3⟩,c4⟩,c5⟩:=hB';have hlt:m<l.length:=by simpa using c2
 have e1:(l.take m).length=m:=by simp;omega
 have e2:(l.drop m).length=l.toArray.size-m:=by simp
 have start:HeadInv .any l.toArray m (Array.replicate l.toArray.size false):=
  ⟨by simp,fun j oj _ hl=>(by rw[getD_replicate_false]at hl;cases hl),fun t _ ht=>getD_in (by simpa using ht) (getD_replicate_false _ _)⟩
 have head:=wpAnyL_lex (md:=.any) (g:=l.toArray.size-m) c1 c3 c4 c2 (l.take m) 0 _ a
  (fun j hj=>by rw[e1]at hj;simp[hj]) (by simpa using e1) start (by rw[e1];exact c5) h
 rw[e1]at head;refine wpIn_region_any hm ?_
 have all:=Zlc (n:=n) (Q:=Q) (l:=r) (g:=l.toArray.size-m) hnd (fun listed b hb=>by
  have:=Zm4 (n:=n) (Q:=Q) (l:=r) (l.drop m) m listed b {w with drawn:=w.drawn+1} (fun j=>by simp[List.getElem?_drop]) (by rw[e2];exact hb.1) hb.2
  rwa [e2]at this) m _ a head
 rwa [show l.toArray.size-m+m=l.toArray.size from by omega]at all
end
end
end Go.Proofs.YtgcidfenjlmljaaGreat
