/- EvU, EvV, EvW, EvX, EvY, EvZ, EvZa, EvZb, EvZc. -/
import Derived.Test.YtpkaehpllldcmaaGreatDoorMeD
import Derived.RangeFuncLeaves
import Derived.RangeFuncRecord
import Derived.Lib.Join
section
namespace Ev
open Go Go.RowKit
set_option linter.unusedVariables false
set_option linter.unusedSimpArgs false
section
variable {X:Spx} {P:Program} {nt:Nat} {o:Oper} {d:DS}
theorem calls_in {r:Option Nat} {n:Nat} {f:FuncId} {args:Array Value} {w:World} {R:Ending→World→Prop} (h:Calls P f args w R):CallsIn (Fr r) n P f args w R:=by
 have h':CallsIn Fence.wide n P f args w R:=callsIn_wide.2 h
 exact⟨trivial,fun cs hr=>h'.2 cs (room_wide _)⟩
theorem round_in {r:Option Nat} {n i:Nat} {f:FuncId} {tmps:Array Value} {x y:Code} {w:World} {R:Ending→World→Prop} (h:RoundIn Fence.wide 0 P i f tmps x y w R):RoundIn (Fr r) n P i f tmps x y w R:=
 ⟨trivial,fun c cs _=>h.2 c cs (room_wide _)⟩
theorem snd_call {g:Operand} {y:OP} {ys:List OP} {cc:Call} (hop:o.op=.call cc) (hcc:cc.callee=.value g) (hd:cDst nt o.dst=.mk d) (h1:cOpd nt g=.mk y) (h2:cOpds nt cc.args.toList=.mk ys):OSnd X P nt (fCall d y ys) o:=by
 intro cal hcal t h c df k v' h' c' e
 have e0:rdL t ys (fun l=>cal (y t) l h c fun v h c=>d v t fun t=>k t h c df)=.fin v' h' c':=e
 rw[rdL_eq]at e0
 obtain⟨v,h1',c1,e1,hw⟩:=hcal _ _ _ _ _ _ _ _ e0
 obtain⟨t1,ht1,e2⟩:=dst_eq hd v t fun t=>k t h1' c1 df
 rw[e2]at e1
 refine⟨t1,h1',c1,e1,fun w0 ρ a w r n Q K hR hT hK=>?_⟩
 have hres:execOp a.eval o=(do let d←Deferred.ofValue (a.eval g) (cc.args.map a.eval);invoke d.target d.args):=by
  simp[execOp,hop,resolve,hcc]
 have hl:(cc.args.toList.map a.eval).toArray=cc.args.map a.eval:=by apply Array.ext';simp
 have fin:∀x w',(∃ρ',Le ρ ρ'∧HR X P w0 ρ' h1' c1 w'∧den ρ' v=some x∧Kp h h1' c∧c≤c1)→K (a.put o.dst x) w':=by
  rintro x w' ⟨ρ',g1,g2,g3,g4,g5⟩
  obtain⟨g7,g8⟩:=dst_ok hd ht1 (hT.mono g1) g3
  exact hK ρ' _ w' g1 g2 g7 g4 g5 g8
 refine⟨fun _ _=>trivial,?_⟩
 rw[Oper.semAt_eq _ _ _ (by rw[hop];simp),hres]
 rcases hw w0 ρ w _ _ hR (opd_den h1 hT) (opds_den h2 hT)with⟨f,args,r1,r2⟩|⟨_,i,f,tmps,x,b,r1,r2⟩
 · rw[hl]at r1
   rw[r1]
   refine⟨fun hh=>by simp[Fr,Fence.wide]at hh,calls_in (r2.mono ?_)⟩
   rintro e w' ⟨x,rfl,hx⟩
   exact fin x w' hx
 · rw[hl]at r1
   rw[r1]
   refine⟨fun hh=>by simp[Fr,Fence.wide]at hh,round_in (r2.mono ?_)⟩
   rintro e w' ⟨x,rfl,hx⟩
   exact fin x w' hx
def LSnd (X:Spx) (P:Program) (nt:Nat) (f:OC) (o:Oper):Prop:=∀cal t h c df k v' h' c',f cal t h c df k=.fin v' h' c'→∃v t1,dT o.dst t v t1∧(∀n,o.dst=some n→n<nt∧n<256)∧k t1 h c df=.fin v' h' c'∧
 ∀w0 ρ (a:Act) w,HR X P w0 ρ h c w→TR ρ nt t a.tmps→∃x,den ρ v=some x∧(execOp a.eval o).run P w=.ok (.value x) w
theorem VSnd.l {f:OC} {o:Oper} {d:DS} (h:VSnd X P nt d f o):LSnd X P nt f o:=by
 intro cal t hh c df k v' h' c' e
 obtain⟨v,e1,w1⟩:=h.2.2 cal t hh c df k v' h' c' e
 obtain⟨t1,ht1,e2⟩:=dst_eq h.2.1 v t fun t=>k t hh c df
 rw[e2]at e1
 refine⟨v,t1,ht1,fun n hn=>?_,e1,w1⟩
 have hd:=h.2.1
 rw[hn]at hd
 simp only[cDst]at hd
 cases hb:okT nt n with
 |false=>rw[hb]at hd;cases hd
 |true=>exact okT_iff.1 hb
def OB (X:Spx) (P:Program) (nt:Nat) (f:OC) (o:Oper):Prop:=OSnd X P nt f o∧(isLight o.op=true→LSnd X P nt f o)
theorem VSnd.b {f:OC} {o:Oper} {d:DS} (h:VSnd X P nt d f o):OB X P nt f o:=⟨h.o,fun _=>h.l⟩
theorem OSnd.b {f:OC} {o:Oper} (h:OSnd X P nt f o) (hl:isLight o.op=false):OB X P nt f o:=⟨h,fun hh=>by rw[hl]at hh;cases hh⟩
theorem bad_b {n:Nat}:OB X P nt (badO n) o:=⟨snd_bad,fun _ cal t h c df k v' h' c' e=>(by cases e)⟩
theorem bx_cases {α:Type} {z:Nat} {b:Bx α} {g:α→Bx OC} {f:OC} (h:bx z b g=.mk f):(∃a,b=.mk a∧g a=.mk f)∨f=badO z:=by
 cases b with
 |mk a=>exact .inl ⟨a,rfl,h⟩
 |no=>cases h;exact .inr rfl
theorem bif_cases {α:Type} {b:Bool} {x y z:α} (h:(bif b then x else y)=z):(b=true∧x=z)∨(b=false∧y=z):=by cases b;exact .inr ⟨rfl,h⟩;exact .inl ⟨rfl,h⟩
theorem opds1 {l:List Operand} {y:OP} (h:cOpds nt l=.mk [y]):∃x,l=[x]∧cOpd nt x=.mk y:=by
 cases l with
 |nil=>cases h
 |cons a l=>
  unfold cOpds at h
  split at h
  · rename_i x' y' h1 h2
    cases h
    cases l with
    |nil=>exact⟨a,rfl,h1⟩
    |cons b l=>
     unfold cOpds at h2
     split at h2<;>cases h2
  · cases h
theorem opds2 {l:List Operand} {y y':OP} (h:cOpds nt l=.mk [y,y']):∃x x',l=[x,x']∧cOpd nt x=.mk y∧cOpd nt x'=.mk y':=by
 cases l with
 |nil=>cases h
 |cons a l=>
  unfold cOpds at h
  split at h
  · rename_i x1 y1 h1 h2
    cases h
    obtain⟨b,rfl,h3⟩:=opds1 h2
    exact⟨a,b,rfl,h1,h3⟩
  · cases h
theorem cOp_both {f:OC} (h:cOp P (types P) nt o=.mk f):OB X P nt f o:=by
 unfold cOp at h
 rcases bx_cases h with⟨d,hd,h⟩|rfl
 case inr=>exact bad_b
 cases hop:o.op<;>simp only[hop]at h
 case move x=>
  rcases bx_cases h with⟨y,hy,h⟩|rfl
  · cases h;exact(snd_mv (.inl hop) hd hy).b
  · exact bad_b
 case assign x=>
  rcases bx_cases h with⟨y,hy,h⟩|rfl
  · cases h;exact(snd_mv (.inr hop) hd hy).b
  · exact bad_b
 case pick c x y=>
  rcases bx_cases h with⟨y1,h1,h⟩|rfl
  case inr=>exact bad_b
  rcases bx_cases h with⟨y2,h2,h⟩|rfl
  case inr=>exact bad_b
  rcases bx_cases h with⟨y3,h3,h⟩|rfl
  case inr=>exact bad_b
  cases h;exact(snd_pick hop hd h1 h2 h3).b
 case alloc t=>
  split at h
  · rename_i l hl
    split at h
    · rename_i z hz
      rcases bif_cases h with⟨hb,h⟩|⟨_,h⟩
      · cases h;exact(snd_alloc hop hd hl hz (Nat.eq_of_beq_eq_true hb)).b (by simp[isLight,hop, *])
      · cases h;exact bad_b
    · cases h;exact bad_b
  · cases h;exact bad_b
 case box t x=>
  rcases bx_cases h with⟨y,hy,h⟩|rfl
  · cases h;exact(snd_box hop hd hy).b (by simp[isLight,hop, *])
  · exact bad_b
 case build t ps=>
  split at h
  · rename_i z fs hz hT
    obtain⟨l,hz1,hz2⟩:=Option.bind_eq_some_iff.1 hz
    rcases bif_cases h with⟨_,h⟩|⟨hb,h⟩
    · cases h;exact bad_b
    · simp only[Bool.or_eq_false_iff,Bool.not_eq_false']at hb
      rcases bx_cases h with⟨os,ho,h⟩|rfl
      · cases h;exact(snd_build hop hd hz1 hz2 hb.2 ho (.inl ⟨_,hT,hb.1,rfl⟩)).b
      · exact bad_b
  · rename_i z n e hz hT
    obtain⟨l,hz1,hz2⟩:=Option.bind_eq_some_iff.1 hz
    rcases bif_cases h with⟨_,h⟩|⟨hb,h⟩
    · cases h;exact bad_b
    · simp only[Bool.or_eq_false_iff,Bool.not_eq_false']at hb
      rcases bx_cases h with⟨os,ho,h⟩|rfl
      · cases h;exact(snd_build hop hd hz1 hz2 hb.2 ho (.inr ⟨_,_,hT,hb.1,rfl⟩)).b
      · exact bad_b
  · cases h;exact bad_b
 case buildSlice t n ps=>
  split at h
  · rename_i e hT
    split at h
    · rename_i z hz
      obtain⟨l,hz1,hz2⟩:=Option.bind_eq_some_iff.1 hz
      rcases bif_cases h with⟨hb,h⟩|⟨_,h⟩
      · simp only[Bool.and_eq_true]at hb
        rcases bx_cases h with⟨os,ho,h⟩|rfl
        · cases h;exact(snd_bsl hop hd hT hz1 hz2 (Nat.eq_of_beq_eq_true hb.1.1) (by simpa using hb.1.2) (Nat.le_of_ble_eq_true hb.2) ho).b (by simp[isLight,hop, *])
        · exact bad_b
      · cases h;exact bad_b
    · cases h;exact bad_b
  · cases h;exact bad_b
 case load t x=>
  rcases bx_cases h with⟨y,hy,h⟩|rfl
  case inr=>exact bad_b
  split at h
  · rename_i D hT
    rcases bif_cases h with⟨hb,h⟩|⟨hb,h⟩
    · cases h;exact(snd_lda hop hd hy hT hb).b
    · cases h;exact(snd_ld hop hd hy hT hb).b
  · cases h;exact bad_b
 case store t x y=>
  rcases bx_cases h with⟨y1,h1,h⟩|rfl
  case inr=>exact bad_b
  rcases bx_cases h with⟨y2,h2,h⟩|rfl
  case inr=>exact bad_b
  split at h
  · rename_i D hdst hT
    cases h;exact(snd_st hop hdst h1 h2 hT).b (by simp[isLight,hop, *])
  · cases h;exact bad_b
 case nilCheck x=>
  rcases bx_cases h with⟨y,hy,h⟩|rfl
  · cases h;exact(snd_nck hop hd hy).b
  · exact bad_b
 case binOp op t x y p=>
  rcases bx_cases h with⟨y1,h1,h⟩|rfl
  case inr=>exact bad_b
  rcases bx_cases h with⟨y2,h2,h⟩|rfl
  case inr=>exact bad_b
  split at h
  · rename_i k hT
    rcases bx_cases h with⟨g,hg,h⟩|rfl
    · cases h;exact(snd_ar hop hd h1 h2 (cAr_ok hg)).b
    · exact bad_b
  · rename_i hT
    rcases bx_cases h with⟨g,hg,h⟩|rfl
    · cases h;exact(snd_ar hop hd h1 h2 (cSr_ok hg)).b
    · exact bad_b
  · rename_i hn1 hn2
    split at h
    · rcases bif_cases h with⟨_,h⟩|⟨hb,h⟩
      · cases h;exact bad_b
      · split at h
        · rename_i q hq
          cases h
          obtain⟨D,hD,_⟩:=cQ_st hq
          exact(snd_eq hop hd h1 h2 hD (fun k hk=>hn1 k (by rw[hD,hk])) (fun hk=>hn2 (by rw[hD,hk])) hb hq).b
        · cases h;exact bad_b
    · rcases bif_cases h with⟨_,h⟩|⟨hb,h⟩
      · cases h;exact bad_b
      · split at h
        · rename_i q hq
          cases h
          obtain⟨D,hD,_⟩:=cQ_st hq
          exact(snd_ne hop hd h1 h2 hD (fun k hk=>hn1 k (by rw[hD,hk])) (fun hk=>hn2 (by rw[hD,hk])) hb hq).b
        · cases h;exact bad_b
    · cases h;exact bad_b
 case unOp op t x=>
  rcases bx_cases h with⟨y,hy,h⟩|rfl
  case inr=>exact bad_b
  split at h
  · cases h;exact(snd_no hop hd hy).b
  · cases h;exact(snd_ng hop hd hy).b
  · cases h;exact bad_b
 case convert s t x=>
  rcases bx_cases h with⟨y,hy,h⟩|rfl
  case inr=>exact bad_b
  split at h
  · rename_i hs hT;cases h;exact(snd_cv hop hd hy hs hT).b
  · rename_i hs hT;cases h;exact(snd_cs hop hd hy hs hT).b
  · rename_i hs hT
    split at h
    · rename_i hE;cases h;exact(snd_bs hop hd hy hs hE hT).b
    · cases h;exact bad_b
  · cases h;exact bad_b
 case makeFunc g fs cs=>
  cases g<;>simp only at h
  case func g=>
   rcases bx_cases h with⟨y1,h1,h⟩|rfl
   case inr=>exact bad_b
   rcases bx_cases h with⟨y2,h2,h⟩|rfl
   case inr=>exact bad_b
   cases h;exact(snd_mkf hop hd h1 h2).b
  all_goals(cases h;exact bad_b)
 case makeSlice t x y=>
  rcases bx_cases h with⟨y1,h1,h⟩|rfl
  case inr=>exact bad_b
  rcases bx_cases h with⟨y2,h2,h⟩|rfl
  case inr=>exact bad_b
  split at h
  · rename_i e hT
    split at h
    · rename_i zl hz
      split at h
      · rename_i z hzz
        rcases bif_cases h with⟨hb,h⟩|⟨_,h⟩
        · simp only[Bool.and_eq_true]at hb
          cases h;exact(snd_mks hop hd h1 h2 hT hz hzz (Nat.eq_of_beq_eq_true hb.2) (by simpa using hb.1)).b (by simp[isLight,hop, *])
        · cases h;exact bad_b
      · cases h;exact bad_b
    · cases h;exact bad_b
  · cases h;exact bad_b
 case slice t x lo hi mx=>
  rcases bx_cases h with⟨y,h1,h⟩|rfl
  case inr=>exact bad_b
  rcases bx_cases h with⟨ol,h2,h⟩|rfl
  case inr=>exact bad_b
  rcases bx_cases h with⟨oh,h3,h⟩|rfl
  case inr=>exact bad_b
  rcases bx_cases h with⟨om,h4,h⟩|rfl
  case inr=>exact bad_b
  rcases bif_cases h with⟨_,h⟩|⟨hb,h⟩
  · cases h;exact bad_b
  split at h
  · rename_i hT
    split at h
    · have hm:=cOpt_none h4;rw[hm]at hop;cases h;exact(snd_sls hop hd h1 h2 h3 hT).b
    · cases h;exact bad_b
  · rename_i e hT
    rcases bif_cases h with⟨hk,h⟩|⟨_,h⟩
    · cases h;exact(snd_sli hop hd h1 h2 h3 h4 hb hT hk).b
    · cases h;exact bad_b
  · rename_i n e hT
    rcases bif_cases h with⟨hk,h⟩|⟨_,h⟩
    · cases h;exact(snd_slp hop hd h1 h2 h3 h4 hb hT hk).b
    · cases h;exact bad_b
  · cases h;exact bad_b
 case fieldAddr t x g=>
  rcases bx_cases h with⟨y,h1,h⟩|rfl
  case inr=>exact bad_b
  split at h
  · rename_i fs hT
    split at h
    · rename_i g hg
      rcases bif_cases h with⟨_,h⟩|⟨hb,h⟩
      · cases h;exact bad_b
      · cases h;exact(snd_fa hop hd h1 hT hg hb).b
    · cases h;exact bad_b
  · cases h;exact bad_b
 case field t x g=>
  rcases bx_cases h with⟨y,h1,h⟩|rfl
  case inr=>exact bad_b
  split at h
  · rename_i fs hT
    split at h
    · rename_i g hg
      rcases bif_cases h with⟨_,h⟩|⟨hb,h⟩
      · cases h;exact bad_b
      · rcases bif_cases h with⟨ha,h⟩|⟨ha,h⟩
        · cases h;exact(snd_fla hop hd h1 hT hg (by simpa using hb) ha).b
        · cases h;exact(snd_fl hop hd h1 hT hg (by simpa using hb) ha).b
    · cases h;exact bad_b
  · cases h;exact bad_b
 case indexAddr t x i=>
  rcases bx_cases h with⟨y1,h1,h⟩|rfl
  case inr=>exact bad_b
  rcases bx_cases h with⟨y2,h2,h⟩|rfl
  case inr=>exact bad_b
  split at h
  · rename_i e hT
    rcases bif_cases h with⟨hb,h⟩|⟨_,h⟩
    · cases h;exact(snd_ia hop hd h1 h2 hT hb).b
    · cases h;exact bad_b
  · rename_i n e hT
    rcases bif_cases h with⟨hb,h⟩|⟨_,h⟩
    · cases h;exact(snd_iaa hop hd h1 h2 hT hb).b
    · cases h;exact bad_b
  · cases h;exact bad_b
 case index t x i=>
  rcases bx_cases h with⟨y1,h1,h⟩|rfl
  case inr=>exact bad_b
  rcases bx_cases h with⟨y2,h2,h⟩|rfl
  case inr=>exact bad_b
  split at h
  · rename_i hT;cases h;exact(snd_ixs hop hd h1 h2 hT).b
  · rename_i n e hT
    rcases bif_cases h with⟨_,h⟩|⟨hb,h⟩
    · cases h;exact bad_b
    · rcases bif_cases h with⟨ha,h⟩|⟨ha,h⟩
      · cases h;exact(snd_ixa hop hd h1 h2 hT (by simpa using hb) ha).b
      · cases h;exact(snd_ix hop hd h1 h2 hT (by simpa using hb) ha).b
  · cases h;exact bad_b
 case extract x i=>
  rcases bx_cases h with⟨y,h1,h⟩|rfl
  · cases h;exact(snd_ex hop hd h1).b
  · exact bad_b
 case call cc=>
  cases hcc:cc.callee<;>simp only[hcc]at h
  case value g=>
   rcases bx_cases h with⟨y,h1,h⟩|rfl
   case inr=>exact bad_b
   rcases bx_cases h with⟨ys,h2,h⟩|rfl
   case inr=>exact bad_b
   cases h;exact(snd_call hop hcc hd h1 h2).b (by simp[isLight,hop, *])
  case builtin b=>
   rcases bx_cases h with⟨ys,h2,h⟩|rfl
   case inr=>exact bad_b
   split at h
   · rename_i y t hat
     obtain⟨x,ha,h1⟩:=opds1 h2
     cases b<;>simp only at h
     case len=>
      split at h
      · rename_i hT;cases h;exact(snd_lnS hop hcc ha hat hd h1 hT).b
      · rename_i hT;cases h;exact(snd_lnL hop hcc ha hat hd h1 hT).b
      · rename_i hT;cases h;exact(snd_lna (y:=y) hop hcc ha hat hd (.inl ⟨_,hT⟩)).b
      · rename_i r hT
        split at h
        · rename_i hr;cases h;exact(snd_lna (y:=y) hop hcc ha hat hd (.inr ⟨_,_,hT,hr⟩)).b
        · cases h;exact bad_b
      · cases h;exact bad_b
     case cap=>
      split at h
      · rename_i hT;cases h;exact(snd_cp hop hcc ha hat hd h1 hT).b
      · cases h;exact bad_b
     all_goals(cases h;exact bad_b)
   · rename_i y1 y2 t u hat
     obtain⟨x,x',ha,h1,h3⟩:=opds2 h2
     cases b<;>simp only at h
     case append=>
      split at h
      · rename_i e e' hT hU
        split at h
        · rename_i l hz
          rcases bif_cases h with⟨hb,h⟩|⟨_,h⟩
          · simp only[Bool.and_eq_true]at hb
            cases h;exact(snd_app hop hcc ha hat hd h1 h3 hT (.inl ⟨_,hU⟩) hz (by simpa using hb.1.1) (by simpa using hb.1.2) (Nat.eq_of_beq_eq_true hb.2)).b (by simp[isLight,hop, *])
          · cases h;exact bad_b
        · cases h;exact bad_b
      · rename_i e hT hU
        split at h
        · rename_i l hz
          rcases bif_cases h with⟨hb,h⟩|⟨_,h⟩
          · simp only[Bool.and_eq_true]at hb
            cases h;exact(snd_app hop hcc ha hat hd h1 h3 hT (.inr hU) hz (by simpa using hb.1.1) (by simpa using hb.1.2) (Nat.eq_of_beq_eq_true hb.2)).b (by simp[isLight,hop, *])
          · cases h;exact bad_b
        · cases h;exact bad_b
      · cases h;exact bad_b
     case copy=>
      split at h
      · rename_i e hT
        rcases bif_cases h with⟨hk,h⟩|⟨_,h⟩
        · cases h;exact(snd_cpy hop hcc ha hat hd h1 h3 hT hk).b (by simp[isLight,hop, *])
        · cases h;exact bad_b
      · cases h;exact bad_b
     case max=>cases h;exact(snd_mx hop hcc ha hd h1 h3).b
     case min=>cases h;exact(snd_mn hop hcc ha hd h1 h3).b
     all_goals(cases h;exact bad_b)
   · cases h;exact bad_b
  all_goals(cases h;exact bad_b)
 case makeMap t r=>
  cases r with
  |some r=>cases h;exact bad_b
  |none=>
   simp only at h
   split at h
   · rename_i kt et hT
     split at h
     · rename_i hk he
       rcases bif_cases h with⟨_,h⟩|⟨_,h⟩
       · cases h;exact(snd_mm hop hd hk he).b (by simp[isLight,hop, *])
       · cases h;exact bad_b
     · cases h;exact bad_b
   · cases h;exact bad_b
 case lookup t x y q=>
  cases q with
  |true=>cases h;exact bad_b
  |false=>
   simp only at h
   rcases bx_cases h with⟨y1,h1,h⟩|rfl
   case inr=>exact bad_b
   rcases bx_cases h with⟨y2,h2,h⟩|rfl
   case inr=>exact bad_b
   split at h
   · rename_i kt et hT
     split at h
     · rename_i hk he
       rcases bif_cases h with⟨hb,h⟩|⟨_,h⟩
       · cases h;exact(snd_lk hop hd h1 h2 hT hb).b (by simp[isLight,hop, *])
       · cases h;exact bad_b
     · cases h;exact bad_b
   · cases h;exact bad_b
 case mapUpdate t x y z=>
  rcases bx_cases h with⟨y1,h1,h⟩|rfl
  case inr=>exact bad_b
  rcases bx_cases h with⟨y2,h2,h⟩|rfl
  case inr=>exact bad_b
  rcases bx_cases h with⟨y3,h3,h⟩|rfl
  case inr=>exact bad_b
  split at h
  · rename_i kt et hdst hT
    split at h
    · cases h;exact(snd_mu hop hdst h1 h2 h3 hT).b (by simp[isLight,hop, *])
    · cases h;exact bad_b
  · cases h;exact bad_b
 all_goals(cases h;exact bad_b)
theorem cOp_ok {f:OC} (h:cOp P (types P) nt o=.mk f):OSnd X P nt f o:=(cOp_both h).1
end
end Ev
end
section
namespace Ev
open Go Go.RowKit
set_option linter.unusedVariables false
set_option linter.unusedSimpArgs false
section
variable (X:Spx) (P:Program)
def GSnd (nt:Nat) (ops:Array Oper) (f:OC) (o:Oper):Prop:=∀cal,CalOK X P cal→∀t h c df k v' h' c',f cal t h c df k=.fin v' h' c'→
 ∃t1 h1 c1,k t1 h1 c1 df=.fin v' h' c'∧∀w0 ρ a w r n Q K,HR X P w0 ρ h c w→TR ρ nt t a.tmps→
  (∀ρ' a' w',Le ρ ρ'→HR X P w0 ρ' h1 c1 w'→TR ρ' nt t1 a'.tmps→Kp h h1 c→c≤c1→a'.defers=a.defers→K a' w')→
  if Region.wanted o (yielded ops a.tmps)=true then o.wpIn (Fr r) n P a w K Q else K (a.put o.dst undef) w
def RSnd (nt:Nat) (ops:Array Oper) (f:OC) (is:List Nat):Prop:=∀cal,CalOK X P cal→∀t h c df k v' h' c',f cal t h c df k=.fin v' h' c'→
 ∃t1 h1 c1,k t1 h1 c1 df=.fin v' h' c'∧∀w0 ρ a w r n Q,HR X P w0 ρ h c w→TR ρ nt t a.tmps→
  (∀ρ' a' w',Le ρ ρ'→HR X P w0 ρ' h1 c1 w'→TR ρ' nt t1 a'.tmps→Kp h h1 c→c≤c1→a'.defers=a.defers→Q .normal a' w')→wpOpsIn (Fr r) n P ops Q is a w
end
section
variable {X:Spx} {P:Program} {nt:Nat} {o:Oper} {d:DS} {ops:Array Oper}
theorem den_b {ρ:Rho} {v:V} {b:Bool} (h:den ρ v=some (.bool b)):v=.b b:=by
 cases v<;>simp only[den,Option.map_eq_some_iff,Option.bind_eq_some_iff,Option.some.injEq,reduceCtorEq,and_false,exists_false,Value.bool.injEq]at h
 · cases h
 · rw[h]
theorem cGO_ok {f:OC} (h:cGO P (types P) nt ops o=.mk f):GSnd X P nt ops f o:=by
 unfold cGO at h
 split at h
 · rename_i hg
   intro cal hcal t hh c df k v' h' c' e
   obtain⟨t1,h1,c1,e1,hw⟩:=cOp_ok h cal hcal t hh c df k v' h' c' e
   refine⟨t1,h1,c1,e1,fun w0 ρ a w r n Q K hR hT hK=>?_⟩
   rw[if_pos (by simp[Region.wanted,hg])]
   exact hw w0 ρ a w r n Q K hR hT hK
 · rename_i j want hg
   split at h
   · rename_i t0 ht0
     rcases bx_cases h with⟨g,hgo,h⟩|rfl
     case inr=>intro cal _ t hh c df k v' h' c' e;exact(by cases e)
     rcases bx_cases h with⟨d,hd,h⟩|rfl
     case inr=>intro cal _ t hh c df k v' h' c' e;exact(by cases e)
     rcases bx_cases h with⟨f0,hf,h⟩|rfl
     case inr=>intro cal _ t hh c df k v' h' c' e;exact(by cases e)
     cases h
     intro cal hcal t hh c df k v' h' c' e
     have hwant:∀{ρ:Rho} {a:Act},TR ρ nt t a.tmps→(∀b,g t=.b b→Region.wanted o (yielded ops a.tmps)=(b==want))∧((∀b,g t≠ .b b)→Region.wanted o (yielded ops a.tmps)=false):=by
      intro ρ a hT
      have hv:=opd_den hgo hT
      have he:a.eval (.tmp t0)=a.tmps.getD t0 undef:=rfl
      rw[he]at hv
      constructor
      · intro b hb
        have hx:=bool_den hb hv
        have hget:a.tmps[t0]?=some (.bool b):=by
         rw[Array.getD_eq_getD_getElem?]at hx
         cases hq:a.tmps[t0]? with
         |none=>rw[hq]at hx;simp[undef]at hx
         |some y=>rw[hq]at hx;simp at hx;rw[hx]
        simp[Region.wanted,hg,yielded,ht0,hget]
      · intro hb
        have hno:yielded ops a.tmps j=none:=by
         unfold yielded
         rw[ht0]
         simp only[Option.bind_some]
         split
         · rename_i b hq
           exfalso
           rw[Array.getD_eq_getD_getElem?,hq]at hv
           exact hb b (den_b hv)
         · rfl
        simp[Region.wanted,hg,hno]
     have skip:(d .u t fun t=>k t hh c df)=.fin v' h' c'→(∀{ρ:Rho} {a:Act},TR ρ nt t a.tmps→Region.wanted o (yielded ops a.tmps)=false)→
      ∃t1 h1 c1,k t1 h1 c1 df=.fin v' h' c'∧∀w0 ρ a w r n Q K,HR X P w0 ρ hh c w→TR ρ nt t a.tmps→
       (∀ρ' a' w',Le ρ ρ'→HR X P w0 ρ' h1 c1 w'→TR ρ' nt t1 a'.tmps→Kp hh h1 c→c≤c1→a'.defers=a.defers→K a' w')→
       if Region.wanted o (yielded ops a.tmps)=true then o.wpIn (Fr r) n P a w K Q else K (a.put o.dst undef) w:=by
      intro e2 hw
      obtain⟨t1,ht1,e3⟩:=dst_eq hd .u t fun t=>k t hh c df
      rw[e3]at e2
      refine⟨t1,hh,c,e2,fun w0 ρ a w r n Q K hR hT hK=>?_⟩
      rw[if_neg (by rw[hw hT];simp)]
      obtain⟨g7,g8⟩:=dst_ok hd ht1 hT (x:=undef) (by simp[den])
      exact hK ρ _ w (Le.refl _) hR g7 (Kp.refl _ _) (Nat.le_refl _) g8
     have go:f0 cal t hh c df k=.fin v' h' c'→(∀{ρ:Rho} {a:Act},TR ρ nt t a.tmps→Region.wanted o (yielded ops a.tmps)=true)→
      ∃t1 h1 c1,k t1 h1 c1 df=.fin v' h' c'∧∀w0 ρ a w r n Q K,HR X P w0 ρ hh c w→TR ρ nt t a.tmps→
       (∀ρ' a' w',Le ρ ρ'→HR X P w0 ρ' h1 c1 w'→TR ρ' nt t1 a'.tmps→Kp hh h1 c→c≤c1→a'.defers=a.defers→K a' w')→
       if Region.wanted o (yielded ops a.tmps)=true then o.wpIn (Fr r) n P a w K Q else K (a.put o.dst undef) w:=by
      intro e2 hw
      obtain⟨t1,h1,c1,e1,hw2⟩:=cOp_ok hf cal hcal t hh c df k v' h' c' e2
      refine⟨t1,h1,c1,e1,fun w0 ρ a w r n Q K hR hT hK=>?_⟩
      rw[if_pos (hw hT)]
      exact hw2 w0 ρ a w r n Q K hR hT hK
     rcases asW_fin e with⟨b,e1,e2⟩|⟨e1,e2⟩
     · cases b<;>cases want
       · exact go e2 fun hT=>by rw[(hwant hT).1 _ e1];rfl
       · exact skip e2 fun hT=>by rw[(hwant hT).1 _ e1];rfl
       · exact skip e2 fun hT=>by rw[(hwant hT).1 _ e1];rfl
       · exact go e2 fun hT=>by rw[(hwant hT).1 _ e1];rfl
     · exact skip e2 fun hT=>(hwant hT).2 e1
   · cases h;intro cal _ t hh c df k v' h' c' e;exact(by cases e)
theorem cReg_ok:∀(l:List Oper) (i:Nat) (f:OC),ops.toList.drop i=l→cReg P (types P) nt ops l=.mk f→RSnd X P nt ops f (List.range' i l.length)
 |[],i,f,hl,h=>by
  cases h
  intro cal _ t hh c df k v' h' c' e
  exact⟨t,hh,c,e,fun w0 ρ a w r n Q hR hT hK=>hK ρ a w (Le.refl _) hR hT (Kp.refl _ _) (Nat.le_refl _) rfl⟩
 |o::l,i,f,hl,h=>by
  unfold cReg at h
  rcases bx_cases h with⟨f1,h1,h⟩|rfl
  case inr=>intro cal _ t hh c df k v' h' c' e;exact(by cases e)
  rcases bx_cases h with⟨f2,h2,h⟩|rfl
  case inr=>intro cal _ t hh c df k v' h' c' e;exact(by cases e)
  cases h
  have hlt:i<ops.toList.length:=by
   have:=congrArg List.length hl;simp only[List.length_drop,List.length_cons]at this;omega
  have hget:ops[i]?=some o:=by
   have e:=congrArg (·[0]?) hl
   simpa[List.getElem?_drop]using e
  have hnext:ops.toList.drop (i+1)=l:=by
   have:=congrArg List.tail hl
   simpa[List.tail_drop]using this
  have ih:=cReg_ok l (i+1) f2 hnext h2
  intro cal hcal t hh c df k v' h' c' e
  obtain⟨t1,hh1,c1,e1,w1⟩:=cGO_ok h1 cal hcal t hh c df (fun t h c df=>f2 cal t h c df k) v' h' c' e
  obtain⟨t2,hh2,c2,e2,w2⟩:=ih cal hcal t1 hh1 c1 df k v' h' c' e1
  refine⟨t2,hh2,c2,e2,fun w0 ρ a w r n Q hR hT hK=>?_⟩
  have:=w1 w0 ρ a w r n Q (wpOpsIn (Fr r) n P ops Q (List.range' (i+1) l.length)) hR hT fun ρ' a' w' l1 r1 r2 r3 r4 r5=>
   w2 w0 ρ' a' w' r n Q r1 r2 fun ρ2 a2 w2' l2 q1 q2 q3 q4 q5=>hK ρ2 a2 w2' (l1.trans l2) q1 q2 (r3.trans q3 r4) (Nat.le_trans r4 q4) (q5.trans r5)
  simp only[List.length_cons,List.range'_succ,wpOpsIn,hget]
  split
  · rename_i hw;rw[if_pos hw]at this;exact this
  · rename_i hw;rw[if_neg hw]at this;exact⟨fun _ _=>trivial,this⟩
end
end Ev
end
section
namespace Ev
open Go Go.RowKit
set_option linter.unusedVariables false
set_option linter.unusedSimpArgs false
def DF (ρ:Rho):List Nat→List Deferred→Prop
 |[],[]=>True
 |k::l,d::ds=>(∃p,ρ k=some p∧d.target=.collected p.1)∧DF ρ l ds
 |_,_=>False
def DOK (ρ:Rho) (h:HP) (c:Nat) (df:List Nat) (ds:List Deferred):Prop:=DF ρ df ds∧df.Nodup∧∀k∈df,k<c∧hget h k=.df
theorem DF.mono {ρ ρ':Rho} (hl:Le ρ ρ'):∀{l:List Nat} {ds:List Deferred},DF ρ l ds→DF ρ' l ds
 |[],[],_=>trivial
 |k::l,d::ds,⟨⟨p,h1,h2⟩,h3⟩=>⟨⟨p,hl _ _ h1,h2⟩,DF.mono hl h3⟩
theorem DOK.mono {ρ ρ':Rho} {h h1:HP} {c c1:Nat} {df:List Nat} {ds:List Deferred} (H:DOK ρ h c df ds) (hl:Le ρ ρ') (hk:Kp h h1 c) (hc:c≤c1):DOK ρ' h1 c1 df ds:=
 ⟨H.1.mono hl,H.2.1,fun k hk'=>⟨Nat.lt_of_lt_of_le (H.2.2 k hk').1 hc,hk k (H.2.2 k hk').1 (H.2.2 k hk').2⟩⟩
def exO:Ex→Exit| .nx=> .normal| .ex i=> .exit i| .rt=> .ret
def kx (kn:K) (ke:KE):Ex→K| .nx=>kn|e=>ke e
section
variable (X:Spx) (P:Program)
structure At (w0:Base) (ρ:Rho) (nt:Nat) (h:HP) (cc:Nat) (df:List Nat) (ρ':Rho) (t1:TM) (h1:HP) (c1:Nat) (df1:List Nat) (a:Act) (w:World):Prop where
 le:Le ρ ρ'
 hr:HR X P w0 ρ' h1 c1 w
 tr:TR ρ' nt t1 a.tmps
 dk:DOK ρ' h1 c1 df1 a.defers
 kp:Kp h h1 cc
 cl:cc≤c1
 nw:∀k∈df1,k∈df∨cc≤k
def CSnd (nt:Nat) (one:Bool) (F:CC) (c:Code):Prop:=∀cal,CalOK X P cal→∀t h cc df kn ke v' h' c',F cal t h cc df kn ke=.fin v' h' c'→
 ∃e t1 h1 c1 df1,kx kn ke e t1 h1 c1 df1=.fin v' h' c'∧∀w0 ρ a w r n Q,(one=true→r=none)→HR X P w0 ρ h cc w→TR ρ nt t a.tmps→DOK ρ h cc df a.defers→
  (∀ρ' a' w',At X P w0 ρ nt h cc df ρ' t1 h1 c1 df1 a' w'→Q (exO e) a' w')→c.wpIn (Fr r) n P Q a w
end
section
variable {X:Spx} {P:Program} {nt:Nat} {one:Bool}
theorem At.refl {w0:Base} {ρ:Rho} {t:TM} {h:HP} {cc:Nat} {df:List Nat} {a:Act} {w:World} (hR:HR X P w0 ρ h cc w) (hT:TR ρ nt t a.tmps) (hD:DOK ρ h cc df a.defers):At X P w0 ρ nt h cc df ρ t h cc df a w:=
 ⟨Le.refl _,hR,hT,hD,Kp.refl _ _,Nat.le_refl _,fun k hk=> .inl hk⟩
theorem At.trans {w0:Base} {ρ ρ1 ρ2:Rho} {t1 t2:TM} {h h1 h2:HP} {cc c1 c2:Nat} {df df1 df2:List Nat} {a1 a2:Act} {w1 w2:World}
 (A:At X P w0 ρ nt h cc df ρ1 t1 h1 c1 df1 a1 w1) (B:At X P w0 ρ1 nt h1 c1 df1 ρ2 t2 h2 c2 df2 a2 w2):At X P w0 ρ nt h cc df ρ2 t2 h2 c2 df2 a2 w2:=
 ⟨A.le.trans B.le,B.hr,B.tr,B.dk,A.kp.trans B.kp A.cl,Nat.le_trans A.cl B.cl,fun k hk=>by
  rcases B.nw k hk with h|h
  · exact A.nw k h
  · exact .inr (Nat.le_trans A.cl h)⟩
theorem csnd_bad {n:Nat} {c:Code}:CSnd X P nt one (badC n) c:=fun cal _ t h cc df kn ke v' h' c' e=>(by cases e)
theorem csnd_skip:CSnd X P nt one skC .skip:=fun cal _ t h cc df kn ke v' h' c' e=>
 ⟨.nx,t,h,cc,df,e,fun w0 ρ a w r n Q _ hR hT hD hK=>wpIn_skip (hK ρ a w (At.refl hR hT hD))⟩
theorem csnd_ret:CSnd X P nt one rtC .ret:=fun cal _ t h cc df kn ke v' h' c' e=>
 ⟨.rt,t,h,cc,df,e,fun w0 ρ a w r n Q _ hR hT hD hK=>wpIn_ret (hK ρ a w (At.refl hR hT hD))⟩
theorem csnd_exit {i:Nat}:CSnd X P nt one (exC i) (.exit i):=fun cal _ t h cc df kn ke v' h' c' e=>
 ⟨.ex i,t,h,cc,df,e,fun w0 ρ a w r n Q _ hR hT hD hK=>wpIn_exit (hK ρ a w (At.refl hR hT hD))⟩
theorem csnd_region {id:Nat} {ops:Array Oper} {f:OC} (h:RSnd X P nt ops f (List.range ops.size)):CSnd X P nt one (rgC f) (.region id ops false):=by
 intro cal hcal t hh cc df kn ke v' h' c' e
 obtain⟨t1,h1,c1,e1,hw⟩:=h cal hcal t hh cc df kn v' h' c' e
 refine⟨.nx,t1,h1,c1,df,e1,fun w0 ρ a w r n Q _ hR hT hD hK=>wpIn_region (hw w0 ρ a w r n Q hR hT fun ρ' a' w' l1 r1 r2 r3 r4 r5=>?_)⟩
 exact hK ρ' a' w' ⟨l1,r1,r2,by rw[r5];exact hD.mono l1 r3 r4,r3,r4,fun k hk=> .inl hk⟩
theorem csnd_seq {f g:CC} {x y:Code} (hf:CSnd X P nt one f x) (hg:CSnd X P nt one g y):CSnd X P nt one (sqC f g) (.seq x y):=by
 intro cal hcal t hh cc df kn ke v' h' c' e
 obtain⟨e1,t1,h1,c1,df1,k1,w1⟩:=hf cal hcal t hh cc df (fun t h c df=>g cal t h c df kn ke) ke v' h' c' e
 cases e1 with
 |nx=>
  obtain⟨e2,t2,h2,c2,df2,k2,w2⟩:=hg cal hcal t1 h1 c1 df1 kn ke v' h' c' k1
  exact⟨e2,t2,h2,c2,df2,k2,fun w0 ρ a w r n Q ho hR hT hD hK=>wpIn_seq (w1 w0 ρ a w r n _ ho hR hT hD fun ρ' a' w' A=>w2 w0 ρ' a' w' r n Q ho A.hr A.tr A.dk fun ρ2 a2 w2' B=>hK ρ2 a2 w2' (A.trans B))⟩
 |ex i=>exact⟨.ex i,t1,h1,c1,df1,k1,fun w0 ρ a w r n Q ho hR hT hD hK=>wpIn_seq (w1 w0 ρ a w r n _ ho hR hT hD hK)⟩
 |rt=>exact⟨.rt,t1,h1,c1,df1,k1,fun w0 ρ a w r n Q ho hR hT hD hK=>wpIn_seq (w1 w0 ρ a w r n _ ho hR hT hD hK)⟩
theorem csnd_cond {c:Operand} {o:OP} {f g:CC} {x y:Code} (hc:cOpd nt c=.mk o) (hf:CSnd X P nt one f x) (hg:CSnd X P nt one g y):CSnd X P nt one (cdC o f g) (.cond c x y):=by
 intro cal hcal t hh cc df kn ke v' h' c' e
 obtain⟨b,e1,e2⟩:=asB_fin e
 cases b with
 |true=>
  obtain⟨e3,t1,h1,c1,df1,k1,w1⟩:=hf cal hcal t hh cc df kn ke v' h' c' e2
  exact⟨e3,t1,h1,c1,df1,k1,fun w0 ρ a w r n Q ho hR hT hD hK=>wpIn_cond_true (bool_den e1 (opd_den hc hT)) (w1 w0 ρ a w r n Q ho hR hT hD hK)⟩
 |false=>
  obtain⟨e3,t1,h1,c1,df1,k1,w1⟩:=hg cal hcal t hh cc df kn ke v' h' c' e2
  exact⟨e3,t1,h1,c1,df1,k1,fun w0 ρ a w r n Q ho hR hT hD hK=>wpIn_cond_false (bool_den e1 (opd_den hc hT)) (w1 w0 ρ a w r n Q ho hR hT hD hK)⟩
theorem csnd_block {i:Nat} {f:CC} {x:Code} (hf:CSnd X P nt one f x):CSnd X P nt one (bkC i f) (.block i x):=by
 intro cal hcal t hh cc df kn ke v' h' c' e
 obtain⟨e1,t1,h1,c1,df1,k1,w1⟩:=hf cal hcal t hh cc df kn (fun e t h c df=>exI i e (kn t h c df) (ke e t h c df)) v' h' c' e
 cases e1 with
 |nx=>exact⟨.nx,t1,h1,c1,df1,k1,fun w0 ρ a w r n Q ho hR hT hD hK=>wpIn_block (w1 w0 ρ a w r n _ ho hR hT hD hK)⟩
 |rt=>exact⟨.rt,t1,h1,c1,df1,k1,fun w0 ρ a w r n Q ho hR hT hD hK=>wpIn_block (w1 w0 ρ a w r n _ ho hR hT hD hK)⟩
 |ex j=>
  have k2:ifT (Nat.beq j i) (kn t1 h1 c1 df1) (ke (.ex j) t1 h1 c1 df1)=.fin v' h' c':=k1
  cases hb:Nat.beq j i with
  |true=>
   rw[hb,ifT_true rfl]at k2
   refine⟨.nx,t1,h1,c1,df1,k2,fun w0 ρ a w r n Q ho hR hT hD hK=>wpIn_block (w1 w0 ρ a w r n _ ho hR hT hD fun ρ' a' w' A=>?_)⟩
   show if j=i then _ else _
   rw[if_pos (Nat.eq_of_beq_eq_true hb)]
   exact hK ρ' a' w' A
  |false=>
   rw[hb,ifT_false rfl]at k2
   refine⟨.ex j,t1,h1,c1,df1,k2,fun w0 ρ a w r n Q ho hR hT hD hK=>wpIn_block (w1 w0 ρ a w r n _ ho hR hT hD fun ρ' a' w' A=>?_)⟩
   show if j=i then _ else _
   rw[if_neg (Nat.ne_of_beq_eq_false hb)]
   exact hK ρ' a' w' A
def LoopAt (F:Fence) (n:Nat) (P:Program) (c:Code) (Q:Exit→Act→World→Prop) (a:Act) (w:World):Prop:=
 ∀(b:Frame) (k:List Item) (cs:List Frame),b.roundOf=F.round→F.fn b.fn→F.room (cs.length+1+n)→
  ∃e a' w',Q e a' w'∧ArrivesIn (Machine.fenced P F) P (lone (b.atR a (.code c:: .inLoop c::k)) cs w) b k cs e a' w'
theorem loopAt_step {F:Fence} {n:Nat} {c:Code} {Q:Exit→Act→World→Prop} {a:Act} {w:World} (h:c.wpIn F n P (Exit.then (LoopAt F n P c Q) Q) a w):LoopAt F n P c Q a w:=by
 intro b k cs hro hb hr
 obtain⟨e,a₁,w₁,hq,harr⟩:=h b (.inLoop c::k) cs hro hb hr
 cases e with
 |normal=>
  obtain⟨e₂,a₂,w₂,hq₂,harr₂⟩:=hq b k cs hro hb hr
  exact⟨e₂,a₂,w₂,hq₂,.of_steps (StepsIn.trans harr (.one (fenced_calm hb hr rfl) stepR_inLoop)) harr₂⟩
 |exit id=>exact⟨_,a₁,w₁,hq,.pass (x:=.inLoop c) rfl (fun _ _=> .inl (by simp)) harr⟩
 |goto l=>exact⟨_,a₁,w₁,hq,.pass (x:=.inLoop c) rfl (fun _ _=> .inl (by simp)) harr⟩
 |ret=>exact⟨_,a₁,w₁,hq,.pass (x:=.inLoop c) rfl (fun _ _=> .inl (by simp)) harr⟩
 |panic ch=>exact⟨_,a₁,w₁,hq,.pass (x:=.inLoop c) rfl (fun _ _=> .inl (by simp)) harr⟩
 |outgrown=>exact⟨_,a₁,w₁,hq,.pass (x:=.inLoop c) rfl (fun _ _=> .inl (by simp)) harr⟩
theorem loopAt_loop {F:Fence} {n:Nat} {c:Code} {Q:Exit→Act→World→Prop} {a:Act} {w:World} (h:LoopAt F n P c Q a w):(Code.loop c).wpIn F n P Q a w:=by
 intro b k cs hro hb hr
 obtain⟨e,a',w',hq,harr⟩:=h b k cs hro hb hr
 exact⟨e,a',w',hq,.of_steps (.one (fenced_calm hb hr rfl) stepR_loop) harr⟩
theorem csnd_loop {N:Nat} {f:CC} {x:Code} (hf:CSnd X P nt one f x):CSnd X P nt one (lpC N f) (.loop x):=by
 intro cal hcal t hh cc df kn ke v' h' c' e
 have key:∀N t hh cc df,(Nat.rec (motive:=fun _=>K) (fun _ _ _ _=> .bad 83) (fun _ ih t h c df=>f cal t h c df ih ke) N t hh cc df:R)=.fin v' h' c'→
  ∃e t1 h1 c1 df1,kx kn ke e t1 h1 c1 df1=.fin v' h' c'∧∀w0 ρ a w r n Q,(one=true→r=none)→HR X P w0 ρ hh cc w→TR ρ nt t a.tmps→DOK ρ hh cc df a.defers→
   (∀ρ' a' w',At X P w0 ρ nt hh cc df ρ' t1 h1 c1 df1 a' w'→Q (exO e) a' w')→LoopAt (Fr r) n P x Q a w:=by
  intro N
  induction N with
  |zero=>intro t hh cc df e;cases e
  |succ N ih=>
   intro t hh cc df e
   obtain⟨e1,t1,h1,c1,df1,k1,w1⟩:=hf cal hcal t hh cc df _ ke v' h' c' e
   cases e1 with
   |nx=>
    obtain⟨e2,t2,h2,c2,df2,k2,w2⟩:=ih t1 h1 c1 df1 k1
    exact⟨e2,t2,h2,c2,df2,k2,fun w0 ρ a w r n Q ho hR hT hD hK=>loopAt_step (w1 w0 ρ a w r n _ ho hR hT hD fun ρ' a' w' A=>w2 w0 ρ' a' w' r n Q ho A.hr A.tr A.dk fun ρ2 a2 w2' B=>hK ρ2 a2 w2' (A.trans B))⟩
   |ex i=>exact⟨.ex i,t1,h1,c1,df1,k1,fun w0 ρ a w r n Q ho hR hT hD hK=>loopAt_step (w1 w0 ρ a w r n _ ho hR hT hD hK)⟩
   |rt=>exact⟨.rt,t1,h1,c1,df1,k1,fun w0 ρ a w r n Q ho hR hT hD hK=>loopAt_step (w1 w0 ρ a w r n _ ho hR hT hD hK)⟩
 obtain⟨e1,t1,h1,c1,df1,k1,w1⟩:=key N t hh cc df e
 exact⟨e1,t1,h1,c1,df1,k1,fun w0 ρ a w r n Q ho hR hT hD hK=>loopAt_loop (w1 w0 ρ a w r n Q ho hR hT hD hK)⟩
end
end Ev
end
section
namespace Ev
open Go Go.RowKit
set_option linter.unusedVariables false
set_option linter.unusedSimpArgs false
section
variable {X:Spx} {P:Program} {nt:Nat} {one:Bool} {w0:Base} {w:World} {ρ:Rho} {h:HP} {c:Nat}
theorem HR.put (H:HR X P w0 ρ h c w) {a:Nat} {p:Nat × Nat} {b:Blk} {o:Obj} (ha:ρ a=some p) (hx:hget h a≠ .x) (hsp:∀s,hget h a≠ .sp s) (hs:∀s,b≠ .sp s) (hB:BR X P ρ a (w.putObj p.1 o) b):HR X P w0 ρ (Ev.hs h a b) c (w.putObj p.1 o):=
 H.set ha hx hsp hs World.putObj_size rfl rfl rfl (fun k hk=>World.putObj_heap_other hk) hB
theorem nK_fin {b:Blk} {k:HP→Nat→R} {v:V} {h':HP} {c':Nat} (e:newK b h c k=.fin v h' c'):c≤65535∧k (hs h c b) (c+1)=.fin v h' c':=by
 obtain⟨e1,e2⟩:=ifT_fin (show ifT (Nat.ble c (nat_lit 65535)) (hset b h c fun h=>fN (Nat.add c (nat_lit 1)) fun x=>k h x) (.bad 16)=_ from e)
 rw[hset_eq,fN_eq]at e2
 exact⟨Nat.le_of_ble_eq_true e1,e2⟩
theorem lpK_fin {a:Nat} {k:Nat→Ex→Nat→TM→R} {v:V} {h':HP} {c':Nat} (e:lpK h a k=.fin v h' c'):∃st pe g t,hget h a=.lp st pe g t∧k st pe g t=.fin v h' c':=by
 unfold lpK at e
 cases hb:hget h a with
 |lp st pe g t=>rw[hb]at e;exact⟨st,pe,g,t,rfl,e⟩
 |_=>rw[hb]at e;cases e
theorem asF_fin {v:V} {q:R} {v':V} {h':HP} {c':Nat} (e:asF v q=.fin v' h' c'):∃g x y,v=.f g x y∧q=.fin v' h' c':=by
 cases v with
 |f g x y=>exact⟨g,x,y,rfl,e⟩
 |_=>cases e
theorem HR.lp (H:HR X P w0 ρ h c w) {a st g:Nat} {pe:Ex} {t:TM} {p:Nat × Nat} (ha:ρ a=some p) (e:hget h a=.lp st pe g t):
 ∃L fn bd,w.heap[p.1]?=some (.loop L)∧L.state=stt st∧L.pending=pnd pe∧P.funcs[g]?=some fn∧fn.body=some bd∧findR bd=[(L.params,L.assign,L.body)]∧TR ρ fn.ntmps t L.tmps:=by
 have:=H.blk a (H.dom _ _ ha).1;rw[e]at this
 obtain⟨p',L,fn,bd,h1,h2⟩:=this
 rw[ha]at h1;cases h1
 exact⟨L,fn,bd,h2⟩
theorem HR.lpPut (H:HR X P w0 ρ h c w) {a st st' g:Nat} {pe pe':Ex} {t:TM} {p:Nat × Nat} {L:Loop} (ha:ρ a=some p) (e:hget h a=.lp st pe g t) (hL:w.heap[p.1]?=some (.loop L)) {s':LoopState} {q':Option Code} (h1:s'=stt st') (h2:q'=pnd pe'):
 HR X P w0 ρ (hs h a (.lp st' pe' g t)) c (w.putObj p.1 (.loop {L with state:=s',pending:=q'})):=by
 obtain⟨L',fn,bd,r1,r2,r3,r4,r5,r6,r7⟩:=H.lp ha e
 rw[hL]at r1;cases r1
 exact H.put ha (by rw[e];simp) (by rw[e];simp) (by simp) ⟨p,{L with state:=s',pending:=q'},fn,bd,ha,World.putObj_heap_same (H.dom _ _ ha).2.2,h1,h2,r4,r5,r6,r7⟩
theorem csnd_rf {o:Operand} {f:OP} {ps:Array Tmp} {a b:Code} {g:Nat} {fn:Func} {bd:Code} (hf:P.funcs[g]?=some fn) (hb:fn.body=some bd) (hr:findR bd=[(ps,a,b)]) (ho:cOpd fn.ntmps o=.mk f) (hone:one=true):
 CSnd X P fn.ntmps one (rfC g f) (.rangeFunc o ps a b):=by
 intro cal hcal t h cc df kn ke v' h' c' e
 obtain⟨e1,e2⟩:=nK_fin e
 obtain⟨e3,e4⟩:=nK_fin e2
 obtain⟨gg,xs,ys,e5,e6⟩:=asF_fin e4
 obtain⟨v,h1,c1,e7,hw⟩:=hcal _ _ _ _ _ _ _ _ e6
 obtain⟨st,pe,g',t',e8,e9⟩:=lpK_fin e7
 cases hst:Nat.beq st 1 with
 |true=>rw[hst]at e9;cases e9
 |false=>
 rw[hst,ifT_false rfl,hset_eq]at e9
 have fin:∃e,kx kn ke e t (hs h1 (cc+1) (.lp 3 pe g' t')) c1 (cc::df)=.fin v' h' c'∧e=pe:=by
  cases pe with
  |nx=>exact⟨.nx,e9,rfl⟩
  |ex i=>exact⟨.ex i,e9,rfl⟩
  |rt=>exact⟨.rt,e9,rfl⟩
 obtain⟨e0,k0,rfl⟩:=fin
 refine⟨e0,t,_,c1,cc::df,k0,fun w0 ρ ac w r n Q hro hR hT hD hK=>?_⟩
 have hrn:=hro hone
 subst hrn
 refine wpIn_rangeFunc fun fn' _=>?_
 have hle:=hR.le
 have hR1:=hR.new (b:=.df) e1 (.deferred (some [])) 0 (by simp) (by simp) ⟨(w.heap.size,0),up_self _ _ _,World.alloc_heap_new _ _⟩
 have hl1:=hR.le_up (w.heap.size,0)
 let L:Loop:={state:=.ready,pending:=none,fn:=fn',tmps:=ac.tmps,params:=ps,assign:=a,body:=b,defers:=w.heap.size}
 have hR2:=hR1.new (b:=.lp 0 .nx g t) e3 (.loop L) 0 (by simp) (by simp) ⟨((w.alloc (.deferred (some []))).heap.size,0),L,fn,bd,up_self _ _ _,World.alloc_heap_new _ _,rfl,rfl,hf,hb,hr,(hT.mono hl1).mono (hR1.le_up _)⟩
 have hl2:=hR1.le_up ((w.alloc (.deferred (some []))).heap.size,0)
 have hs1:(w.alloc (.deferred (some []))).heap.size=w.heap.size+1:=World.size_alloc _ _
 generalize hρ2:up (up ρ cc (w.heap.size,0)) (cc+1) ((w.alloc (.deferred (some []))).heap.size,0)=ρ2 at hR2 hl2
 have hy:ρ2 (cc+1)=some (w.heap.size+1,0):=by rw[←hρ2,up_self,hs1]
 have hm:ρ2 cc=some (w.heap.size,0):=hl2 _ _ (up_self _ _ _)
 have hg2:∀k,k<cc+1+1→hget (hs (hs h cc .df) (cc+1) (.lp 0 .nx g t)) k=if k=cc+1 then .lp 0 .nx g t else if k=cc then .df else hget h k:=fun k hk=>by
  rw[hget_hs _ _ (by omega) (by omega)]
  split
  · rfl
  · rw[hget_hs _ _ (by omega) (by omega)]
 have hv:=opd_den ho ((hT.mono hl1).mono hl2)
 have hd:=hw w0 ρ2 _ _ [.func (.yield (w.heap.size+1)) #[] #[]] hR2 hv (by simp[denL,den,hy])
 rw[e5]at hv
 simp only[den,Option.bind_eq_some_iff,Option.map_eq_some_iff]at hv
 obtain⟨fs,hfs,cs,hcs,hval⟩:=hv
 rcases hd with⟨f',args,r1,r2⟩|⟨⟨i,hi⟩,_⟩
 case inr=>rw[e5]at hi;cases hi
 have hval':ac.eval o=.func (.func gg) fs.toArray cs.toArray:=hval.symm
 rw[hval']at r1
 simp only[Deferred.ofValue,Sem.run_bind,Sem.run_pure,Result.andThen_ok]at r1
 have hres:(resolve ac.eval (rangeCall o (w.heap.size+1)) 0).run P ((w.alloc (.deferred (some []))).alloc (.loop L))=.ok ⟨.fn (.func gg) cs.toArray,fs.toArray++#[.func (.yield (w.heap.size+1)) #[] #[]]⟩ ((w.alloc (.deferred (some []))).alloc (.loop L)):=by
  have hm':Array.map ac.eval #[.const (.func (.yield (w.heap.size+1)) #[] #[])]=#[.func (.yield (w.heap.size+1)) #[] #[]]:=by simp[Act.eval]
  simp only[resolve,rangeCall,hval',Deferred.ofValue,hm',Sem.run_pure]
 have hent:(Instr.enterLoop fn' ac.tmps ps a b (Fr none).round).run P w=.ok (w.heap.size+1,[{target:=.collected w.heap.size,args:=#[]}]) ((w.alloc (.deferred (some []))).alloc (.loop L)):=run_enterLoop_outer _ _ _ _ _
 have hdep:((Fr none).depth.isSome=true→1≤n):=fun hh=>by simp[Fr,Fence.wide]at hh
 refine⟨_,_,_,_,_,f',args,_,hent,hres,fun _ _=>trivial,r1,hdep,?_⟩
 refine calls_in (r2.mono ?_)
 · rintro e w' ⟨x,rfl,ρ3,l3,q1,q2,q3,q4⟩
   have hy3:=l3 _ _ hy
   have hm3:=l3 _ _ hm
   obtain⟨L3,fn3,bd3,j1,j2,j3,j4,j5,j6,j7⟩:=q1.lp hy3 e8
   have hbusy:L3.state≠ .busy:=by
    rw[j2]
    match st,hst with
    |0,_=>simp[stt]
    |2,_=>simp[stt]
    |n+3,_=>simp[stt]
   have hR3:=q1.lpPut (st':=3) (pe':=e0) hy3 e8 j1 (s':=.exhausted) (q':=L3.pending) rfl j3
   have hdf:hget h1 cc=.df:=q3 cc (by omega) (by rw[hg2 cc (by omega),if_neg (by omega),if_pos rfl])
   have hc1:=q1.le
   have hdf3:∀k,k<c1→hget (hs h1 (cc+1) (.lp 3 e0 g' t')) k=if k=cc+1 then .lp 3 e0 g' t' else hget h1 k:=fun k hk=>hget_hs _ _ (by omega) (by omega)
   have hkp:Kp h (hs h1 (cc+1) (.lp 3 e0 g' t')) cc:=fun k hk hh=>by
    rw[hdf3 k (by omega),if_neg (by omega)]
    exact q3 k (by omega) (by rw[hg2 k (by omega),if_neg (by omega),if_neg (by omega)];exact hh)
   have hA:At X P w0 ρ fn.ntmps h cc df ρ3 t (hs h1 (cc+1) (.lp 3 e0 g' t')) c1 (cc::df) {ac with defers:=[{target:=.collected w.heap.size,args:=#[]}]++ac.defers} (w'.putObj (w.heap.size+1) (.loop {L3 with state:=.exhausted,pending:=L3.pending})):=by
    have hle3:Le ρ ρ3:=(hl1.trans hl2).trans l3
    refine⟨hle3,hR3,hT.mono hle3,⟨⟨⟨_,hm3,rfl⟩,(hD.mono hle3 hkp (by omega)).1⟩,List.nodup_cons.2 ⟨fun hin=>absurd (hD.2.2 _ hin).1 (by omega),hD.2.1⟩,fun k hk=>?_⟩,hkp,by omega,fun k hk=>?_⟩
    · rcases List.mem_cons.1 hk with rfl|hk
      · exact⟨by omega,by rw[hdf3 _ (by omega),if_neg (by omega)];exact hdf⟩
      · exact(hD.mono hle3 hkp (by omega)).2.2 k hk
    · rcases List.mem_cons.1 hk with rfl|hk
      · exact .inr (Nat.le_refl _)
      · exact .inl hk
   refine⟨_,_,run_endLoop j1 hbusy,?_⟩
   rw[j3]at hA⊢
   cases e0 with
   |nx=>exact hK _ _ _ hA
   |ex i=>exact wpIn_exit (hK _ _ _ hA)
   |rt=>exact wpIn_ret (hK _ _ _ hA)
end
end Ev
end
section
namespace Ev
open Go Go.RowKit
set_option linter.unusedVariables false
set_option linter.unusedSimpArgs false
section
variable (X:Spx) (P:Program)
def DrawnOK:Prop:=∀nt one id ops f,cDrawn P (types P) nt ops=.mk f→CSnd X P nt one f (.region id ops true)
end
section
variable {X:Spx} {P:Program}
theorem bc_cases {α:Type} {z:Nat} {b:Bx α} {g:α→Bx CC} {f:CC} (h:bc z b g=.mk f):(∃a,b=.mk a∧g a=.mk f)∨f=badC z:=by
 cases b with
 |mk a=>exact .inl ⟨a,rfl,h⟩
 |no=>cases h;exact .inr rfl
theorem cC_ok (hD:DrawnOK X P) {g:Nat} {fn:Func} {bd:Code} {one:Bool} (hg:one=true→P.funcs[g]?=some fn∧fn.body=some bd):∀(c:Code) (F:CC),cC P (types P) one g fn.ntmps c=.mk F→(one=true→∀x∈findR c,findR bd=[x])→CSnd X P fn.ntmps one F c
 | .skip,F,h,_=>by unfold cC at h;cases h;exact csnd_skip
 | .ret,F,h,_=>by unfold cC at h;cases h;exact csnd_ret
 | .exit i,F,h,_=>by unfold cC at h;cases h;exact csnd_exit
 | .scope c,F,h,_=>by unfold cC at h;cases h;exact csnd_bad
 | .label c,F,h,_=>by unfold cC at h;cases h;exact csnd_bad
 | .goto c,F,h,_=>by unfold cC at h;cases h;exact csnd_bad
 | .refuse c,F,h,_=>by unfold cC at h;cases h;exact csnd_bad
 | .region id ops d,F,h,_=>by
  unfold cC at h
  cases d with
  |true=>exact hD _ _ _ _ _ h
  |false=>
   rcases bc_cases h with⟨f,h1,h⟩|rfl
   · cases h
     have:=cReg_ok (X:=X) ops.toList 0 f (by simp) h1
     refine csnd_region ?_
     rw[List.range_eq_range']
     simpa using this
   · exact csnd_bad
 | .seq a b,F,h,hf=>by
  unfold cC at h
  rcases bc_cases h with⟨f1,h1,h⟩|rfl
  case inr=>exact csnd_bad
  rcases bc_cases h with⟨f2,h2,h⟩|rfl
  case inr=>exact csnd_bad
  cases h
  exact csnd_seq (cC_ok hD hg a f1 h1 fun ho x hx=>hf ho x (by unfold findR;exact List.mem_append_left _ hx)) (cC_ok hD hg b f2 h2 fun ho x hx=>hf ho x (by unfold findR;exact List.mem_append_right _ hx))
 | .cond c a b,F,h,hf=>by
  unfold cC at h
  rcases bc_cases h with⟨f0,h0,h⟩|rfl
  case inr=>exact csnd_bad
  rcases bc_cases h with⟨f1,h1,h⟩|rfl
  case inr=>exact csnd_bad
  rcases bc_cases h with⟨f2,h2,h⟩|rfl
  case inr=>exact csnd_bad
  cases h
  exact csnd_cond h0 (cC_ok hD hg a f1 h1 fun ho x hx=>hf ho x (by unfold findR;exact List.mem_append_left _ hx)) (cC_ok hD hg b f2 h2 fun ho x hx=>hf ho x (by unfold findR;exact List.mem_append_right _ hx))
 | .block i c,F,h,hf=>by
  unfold cC at h
  rcases bc_cases h with⟨f1,h1,h⟩|rfl
  case inr=>exact csnd_bad
  cases h
  exact csnd_block (cC_ok hD hg c f1 h1 fun ho x hx=>hf ho x (by unfold findR;exact hx))
 | .loop c,F,h,hf=>by
  unfold cC at h
  rcases bc_cases h with⟨f1,h1,h⟩|rfl
  case inr=>exact csnd_bad
  cases h
  exact csnd_loop (cC_ok hD hg c f1 h1 fun ho x hx=>hf ho x (by unfold findR;exact hx))
 | .rangeFunc o ps a b,F,h,hf=>by
  unfold cC at h
  rcases bif_cases h with⟨hb,h⟩|⟨_,h⟩
  · rcases bc_cases h with⟨f1,h1,h⟩|rfl
    · cases h
      exact csnd_rf (hg hb).1 (hg hb).2 (hf hb _ (by unfold findR;simp)) h1 hb
    · exact csnd_bad
  · cases h;exact csnd_bad
def resV (m:Array Value):ResultVar→Sem Value
 | .tmp t=>pure (m.getD t undef)
 | .cell a t=>do loadVar t (←asAddr (m.getD a undef))
theorem results_eq (fn:Func) (m:Array Value):results fn m=(do let l←fn.results.toList.mapM (resV m);pure (if h:l.toArray.size=1 then l.toArray[0]else .tuple l.toArray)):=by
 unfold results
 rw[Array.mapM_eq_mapM_toList]
 have key:∀F:ResultVar→Sem Value,(∀r,F r=resV m r)→(do let vs←List.toArray<$>List.mapM F fn.results.toList;pure (if h:vs.size=1 then vs[0]else .tuple vs))=(do let l←fn.results.toList.mapM (resV m);pure (if h:l.toArray.size=1 then l.toArray[0]else .tuple l.toArray)):=by
  intro F hF
  rw[show F=resV m from funext hF]
  simp
 exact key _ fun r=>by cases r<;>rfl
def RVok (X:Spx) (P:Program) (nt:Nat) (f:RS) (r:ResultVar):Prop:=∀t h k v' h' c',f t h k=.fin v' h' c'→∃v,k v=.fin v' h' c'∧∀w0 ρ c w m,HR X P w0 ρ h c w→TR ρ nt t m→∃x,den ρ v=some x∧(resV m r).run P w=.ok x w
theorem cRV_ok {nt:Nat} {r:ResultVar} {f:RS} (h:cRV (types P) nt r=.mk f):RVok X P nt f r:=by
 cases r with
 |tmp s=>
  simp only[cRV]at h
  split at h
  · rename_i o ho
    cases h
    intro t h k v' h' c' e
    have e':fV (o t) k=.fin v' h' c':=e
    rw[fV_eq]at e'
    refine⟨_,e',fun w0 ρ c w m hR hT=>⟨_,opd_den (a:=⟨m,[]⟩) ho hT,rfl⟩⟩
  · cases h
 |cell s T=>
  simp only[cRV]at h
  split at h
  · rename_i o D ho hT
    rcases bif_cases h with⟨hg,h⟩|⟨hg,h⟩
    · cases h
      intro t h k v' h' c' e
      obtain⟨b,r,e1,e2⟩:=asP_fin e
      obtain⟨ty,m',q,z,u,e3,e4,e5⟩:=ldK_fin e2
      refine⟨_,e5,fun w0 ρ c w m hR hTR=>?_⟩
      obtain⟨p,d1,d2⟩:=ptr_den e1 (opd_den (a:=⟨m,[]⟩) ho hTR)
      obtain⟨vs,c1,c2,c3,c4⟩:=hR.cells (P:=P) d1 e3 e4
      obtain⟨i,hi,hs,_⟩:=(und_under hT).2
      refine⟨.agg vs.toArray,by simp[den,c2],?_⟩
      have d3:m.getD s undef=.pointer (some ⟨p.1,r,none⟩):=d2
      rw[hs]at c4
      simp[resV,d3,asAddr,loadVar,run_isAgg P hT,hg,run_sizeOf P hi,c4]
    · cases h
      intro t h k v' h' c' e
      obtain⟨b,r,e1,e2⟩:=asP_fin e
      obtain⟨ty,m',q,z,u,e3,e4⟩:=blk_fin e2
      obtain⟨e5,e6⟩:=ifT_fin e4
      rw[fV_eq]at e6
      refine⟨_,e6,fun w0 ρ c w m hR hTR=>?_⟩
      obtain⟨p,d1,d2⟩:=ptr_den e1 (opd_den (a:=⟨m,[]⟩) ho hTR)
      obtain⟨v,c1,c2⟩:=hR.cell d1 e3 (by simpa[Nat.blt_eq]using e5)
      refine⟨v,c2,?_⟩
      have d3:m.getD s undef=.pointer (some ⟨p.1,r,none⟩):=d2
      simp[resV,d3,asAddr,loadVar,run_isAgg P hT,hg,load,Sem.run,c1]
  · cases h
theorem cRVs_ok {nt:Nat}:∀{l:List ResultVar} {f:TM→HP→(List V→R)→R},cRVs (types P) nt l=.mk f→∀t h k v' h' c',f t h k=.fin v' h' c'→∃vs,vs.length=l.length∧k vs=.fin v' h' c'∧
 ∀w0 ρ c w m,HR X P w0 ρ h c w→TR ρ nt t m→∃xs,denL ρ vs=some xs∧(l.mapM (resV m)).run P w=.ok xs w
 |[],f,hf=>by
  cases hf
  intro t h k v' h' c' e
  exact⟨[],rfl,e,fun w0 ρ c w m _ _=>⟨[],rfl,by simp⟩⟩
 |r::l,f,hf=>by
  unfold cRVs at hf
  split at hf
  · rename_i f1 f2 h1 h2
    cases hf
    intro t h k v' h' c' e
    obtain⟨v,e1,w1⟩:=cRV_ok (X:=X) h1 t h _ v' h' c' e
    obtain⟨vs,hl,e2,w2⟩:=cRVs_ok h2 t h _ v' h' c' e1
    refine⟨v::vs,by simp[hl],e2,fun w0 ρ c w m hR hT=>?_⟩
    obtain⟨x,d1,r1⟩:=w1 w0 ρ c w m hR hT
    obtain⟨xs,d2,r2⟩:=w2 w0 ρ c w m hR hT
    exact⟨x::xs,denL_cons.2 ⟨x,xs,rfl,d1,d2⟩,by simp[List.mapM_cons,r1,r2]⟩
  · cases hf
theorem cRs_ok {fn:Func} {f:RS} (hf:cRs (types P) fn.ntmps fn.results.toList=.mk f):∀t h k v' h' c',f t h k=.fin v' h' c'→∃v,k v=.fin v' h' c'∧∀w0 ρ c w m,HR X P w0 ρ h c w→TR ρ fn.ntmps t m→∃x,den ρ v=some x∧(results fn m).run P w=.ok x w:=by
 unfold cRs at hf
 split at hf
 · rename_i hr
   cases hf
   intro t h k v' h' c' e
   exact⟨_,e,fun w0 ρ c w m _ _=>⟨.tuple #[],by simp[den,denL],by rw[results_eq,hr];simp⟩⟩
 · rename_i r hr
   intro t h k v' h' c' e
   obtain⟨v,e1,w1⟩:=cRV_ok (X:=X) hf t h k v' h' c' e
   refine⟨v,e1,fun w0 ρ c w m hR hT=>?_⟩
   obtain⟨x,d1,r1⟩:=w1 w0 ρ c w m hR hT
   exact⟨x,d1,by rw[results_eq,hr];simp[r1]⟩
 · rename_i l h0 h1
   split at hf
   · rename_i g hg
     cases hf
     intro t h k v' h' c' e
     obtain⟨vs,hl,e1,w1⟩:=cRVs_ok (X:=X) hg t h _ v' h' c' e
     refine⟨_,e1,fun w0 ρ c w m hR hT=>?_⟩
     obtain⟨xs,d1,r1⟩:=w1 w0 ρ c w m hR hT
     refine⟨.tuple xs.toArray,by simp[den,d1],?_⟩
     have hlen:xs.length≠1:=by
      rw[denL_length d1,hl]
      intro hh
      obtain⟨r,hr⟩:=List.length_eq_one_iff.1 hh
      exact h1 r hr
     rw[results_eq]
     simp[r1,hlen]
   · cases hf
end
end Ev
end
section
namespace Ev
open Go Go.RowKit
set_option linter.unusedVariables false
set_option linter.unusedSimpArgs false
section
variable {X:Spx} {P:Program}
theorem HR.below {w0:Base} {w w':World} {ρ:Rho} {h:HP} {c:Nat} (H:HR X P w0 ρ h c w) (B:Below w.heap.size w w'):HR X P w0 ρ h c w':=by
 have hIn:∀A s,X.In A s w→X.In A s w'∧∀j,X.Ft A w' j↔X.Ft A w j:=fun A s hI=>X.mv hI fun j hj=>B.block j (X.lt hI hj)
 refine⟨H.bel.below B,H.le,fun k q hk=>⟨(H.dom k q hk).1,(H.dom k q hk).2.1,Nat.lt_of_lt_of_le (H.dom k q hk).2.2 B.size⟩,H.inj,fun k hk=>?_,fun k s A hb' hA k' p' hx' hne hk'=>?_,H.one.of (fun k s A hk hA=>⟨hk,hA,fun j hj=>?_⟩) (fun j hj=> .inl hj),H.noc⟩
 · exact(H.blk k hk).mono (Le.refl _) (fun p hp=>B.block _ (H.dom _ _ hp).2.2) fun a p _ _ hI=>(hIn _ _ hI).1
 · have hI:=H.blk k (H.dom _ _ hA).1;rw[hb']at hI
   obtain⟨p,h1,h2⟩:=hI
   have hA2:=hA
   rw[h1]at hA2;cases hA2
   rw[(hIn _ _ h2).2]
   exact H.sep k s _ hb' hA k' p' hx' hne hk'
 · have hI:=H.blk k (H.dom _ _ hA).1;rw[hk]at hI
   obtain⟨p,h1,h2⟩:=hI
   rw[h1]at hA;cases hA
   exact((hIn _ _ h2).2 j).1 hj
theorem dfK_ok:∀{df:List Nat} {h:HP} {k:HP→R} {v':V} {h':HP} {c':Nat},dfK df h k=.fin v' h' c'→∃h2,k h2=.fin v' h' c'∧
 ∀w0 ρ c w ds fn m n (Q:Ending→World→Prop),HR X P w0 ρ h c w→DOK ρ h c df ds→(∀w2,HR X P w0 ρ h2 c w2→(∀j,j<c→j∉df→hget h2 j=hget h j)→∃x,(results fn m).run P w2=.ok x w2∧Q (.returned x) w2)→LeavesInM (Fr none) n P fn m Q ds .returning w
 |[],h,k,v',h',c',e=>⟨h,e,fun w0 ρ c w ds fn m n Q hR hD hQ=>by
  cases ds with
  |nil=>exact hQ w hR fun _ _ _=>rfl
  |cons d ds=>exact hD.1.elim⟩
 |a::df,h,k,v',h',c',e=>by
  have e0:hset .x h a (fun h=>dfK df h k)=.fin v' h' c':=e
  rw[hset_eq]at e0
  obtain⟨h2,e1,w1⟩:=dfK_ok e0
  refine⟨h2,e1,fun w0 ρ c w ds fn m n Q hR hD hQ=>?_⟩
  cases ds with
  |nil=>exact hD.1.elim
  |cons d ds=>
   obtain⟨⟨⟨p,hp,ht⟩,hrest⟩,hnd,hdf⟩:=hD
   obtain⟨hac,hag⟩:=hdf a (by simp)
   have hc:=hR.le
   have hg:∀j,j<c→hget (hs h a .x) j=if j=a then .x else hget h j:=fun j hj=>hget_hs _ _ (by omega) (by omega)
   have hb:=hR.blk a hac
   rw[hag]at hb
   obtain⟨p',q1,q2⟩:=hb
   rw[hp]at q1;cases q1
   refine⟨by simp,.inl ⟨p.1,_,ht,run_takeDeferred q2,?_⟩⟩
   have hR':=hR.put (b:=.x) (o:=.deferred none) hp (by rw[hag];simp) (by rw[hag];simp) (by simp) trivial
   obtain⟨hna,hnd'⟩:=List.nodup_cons.1 hnd
   refine w1 w0 ρ c _ ds fn m n Q hR' ⟨hrest,hnd',fun j hj=>?_⟩ fun w2 hR2 hk=>hQ w2 hR2 fun j hj hnj=>?_
   · obtain⟨g1,g2⟩:=hdf j (List.mem_cons_of_mem _ hj)
     have hne:j≠a:=fun hh=>by subst hh;exact hna hj
     exact⟨g1,by rw[hg j g1,if_neg hne];exact g2⟩
   · rw[hk j hj (fun hh=>hnj (List.mem_cons_of_mem _ hh)),hg j hj,if_neg (fun hh=>hnj (by rw[hh];simp))]
set_option maxRecDepth 100000 in
theorem slots_ok {i:Nat} {d:DS} (h:slots[i]?=some d):i<256∧∀v t (k:TM→R),d v t k=k (ts t i v):=by
 have hall:slots.map Bx.mk=(List.range 256).map fun i=>dOp (i6N (i/16)) (i6N (i%16)):=rfl
 have hl:slots.length=256:=by have:=congrArg List.length hall;simpa using this
 have hi:i<256:=by rw[←hl];exact(List.getElem?_eq_some_iff.1 h).1
 refine⟨hi,fun v t k=>dOp_eq hi ?_ v t k⟩
 have:=congrArg (·[i]?) hall
 simp only[List.getElem?_map,h,Option.map_some,List.getElem?_range hi]at this
 exact(Option.some.inj this).symm
theorem argT_ok:∀(l:List V) (i:Nat) (t:TM) {k:TM→R} {v':V} {h':HP} {c':Nat},argT l (slots.drop i) t k=.fin v' h' c'→∃t1,k t1=.fin v' h' c'∧∀j,j<256→tg t1 j=if i≤j then l.getD (j-i) (tg t j)else tg t j
 |[],i,t,k,v',h',c',e=>⟨t,e,fun j hj=>by simp⟩
 |v::l,i,t,k,v',h',c',e=>by
  cases hs:slots.drop i with
  |nil=>rw[hs]at e;cases e
  |cons d ds=>
   rw[hs]at e
   have hd:slots[i]?=some d:=by
    have:=congrArg (·[0]?) hs
    simpa[List.getElem?_drop]using this
   have hn:slots.drop (i+1)=ds:=by
    have:=congrArg List.tail hs
    simpa[List.tail_drop]using this
   obtain⟨hi,hds⟩:=slots_ok hd
   have e0:d v t (fun t=>argT l ds t k)=.fin v' h' c':=e
   rw[hds,←hn]at e0
   obtain⟨t1,e1,w1⟩:=argT_ok l (i+1) _ e0
   refine⟨t1,e1,fun j hj=>?_⟩
   rw[w1 j hj,tg_ts _ _ hi hj]
   by_cases h1:i+1≤j
   · rw[if_pos h1,if_pos (show i≤j by omega),show j-i=(j-(i+1))+1 by omega]
     simp only[List.getD_cons_succ]
     rw[if_neg (show¬j=i by omega)]
   · rw[if_neg h1]
     by_cases h2:j=i
     · subst h2;simp
     · rw[if_neg h2,if_neg (show¬i≤j by omega)]
theorem args_tr {ρ:Rho} {l:List V} {vs:List Value} {t1:TM} {nt:Nat} (hl:denL ρ l=some vs) (h:∀j,j<256→tg t1 j=l.getD j .u):TR ρ nt t1 (vs.toArray++Array.replicate (nt-vs.toArray.size) undef):=by
 have hlen:=denL_length hl
 refine⟨by simp;omega,fun i hi hj=>?_⟩
 rw[h i hj]
 by_cases hlt:i<vs.length
 · have hil:i<l.length:=by omega
   obtain⟨x,hx,hd⟩:=denL_get hl (List.getElem?_eq_getElem hil)
   refine⟨x,by rw[Array.getElem?_append_left (by simpa using hlt)];simpa using hx,?_⟩
   rw[List.getD_eq_getElem?_getD,List.getElem?_eq_getElem hil];exact hd
 · refine⟨undef,?_,?_⟩
   · rw[Array.getElem?_append_right (by simp;omega),Array.getElem?_replicate,if_pos (by simp;omega)]
   · rw[List.getD_eq_getElem?_getD,List.getElem?_eq_none (by omega)];simp[den]
end
end Ev
end
section
namespace Ev
open Go Go.RowKit
set_option linter.unusedVariables false
set_option linter.unusedSimpArgs false
section
variable (P:Program)
def KnOK (g:Nat) (v:V):Prop:=∃fn bd x,P.funcs[g]?=some fn∧(fn.name== "runtime.NumGoroutine")=false∧fn.body=some bd∧(∀ρ,den ρ v=some x)∧∀w,Calls P g #[] w fun e w'=>e=.returned x∧Below w.heap.size w w'
def JnOK (g:Nat):Prop:=∃fn bd,P.funcs[g]?=some fn∧(fn.name== "runtime.NumGoroutine")=false∧fn.body=some bd∧
 (∀(sep:ByteArray) w,Calls P g #[.slice none 0 0,.string sep] w fun e w'=>e=.returned (.string ⟨#[]⟩)∧w'=w)∧
 ∀(bk o c:Nat) (xs:List ByteArray) (sep:ByteArray) (w:World),(∀(j:Nat) x,xs[j]?=some x→w.cell? ⟨bk,o+j,none⟩=some (.string x))→bk<w.heap.size→xs.length≤140737488355328→xs.length≤c→(Lib.join (xs.map (·.data.toList)) sep.data.toList).length≤140737488355328→
  Calls P g #[.slice (some ⟨bk,o,none⟩) xs.length c,.string sep] w fun e w'=>e=.returned (.string ⟨(Lib.join (xs.map (·.data.toList)) sep.data.toList).toArray⟩)∧Below w.heap.size w w'
def ArOK (X:Spx) (g:Nat) (f:List V→HP→Nat→KV→R→R):Prop:=∀l h c k z v' h' c',f l h c k z=.fin v' h' c'→z=.fin v' h' c'∨∃v h1 c1,k v h1 c1=.fin v' h' c'∧
 ∀w0 ρ w lv,HR X P w0 ρ h c w→denL ρ l=some lv→Calls P g lv.toArray w fun e w'=>∃x,e=.returned x∧∃ρ',Le ρ ρ'∧HR X P w0 ρ' h1 c1 w'∧den ρ' v=some x∧Kp h h1 c∧c≤c1
def FTok (X:Spx) (ft:T CF):Prop:=∀g,(∀rs b r,T.get CF.no ft g=.fn rs b r→∃fn,P.funcs[g]?=some fn∧cF P (types P) g fn=.fn rs b r)∧(∀v,T.get CF.no ft g=.kn v→KnOK P g v)∧(T.get CF.no ft g=.jn→JnOK P g)∧∀f rs b r,T.get CF.no ft g=.ar f rs b r→∃fn,P.funcs[g]?=some fn∧cF P (types P) g fn=.fn rs b r∧ArOK P X g f
theorem mapF_get:∀(l:List Func) (i j:Nat),(mapF P (types P) l i)[j]?=(l[j]?).map (cF P (types P) (i+j))
 |[],i,j=>by simp[mapF]
 |f::l,i,0=>by simp[mapF]
 |f::l,i,j+1=>by
  show(cF P (types P) i f::mapF P (types P) l (i+1))[j+1]?=_
  rw[List.getElem?_cons_succ,mapF_get l (i+1) j,List.getElem?_cons_succ,show i+1+j=i+(j+1) by omega]
theorem cF_kn {g:Nat} {fn:Func} {v:V}:cF P (types P) g fn≠ .kn v:=by
 unfold cF
 split
 · split
   · cases (fn.name== "runtime.NumGoroutine")<;>simp
   · simp
 · simp
theorem cF_jn {g:Nat} {fn:Func}:cF P (types P) g fn≠ .jn:=by
 unfold cF
 split
 · split
   · cases (fn.name== "runtime.NumGoroutine")<;>simp
   · simp
 · simp
theorem get_table (g:Nat):T.get CF.no (table P) g=((P.funcs[g]?).map (cF P (types P) g)).getD .no:=by
 unfold table
 rw[get_bld]
 have hg:=mapF_get P P.funcs.toList 0 g
 simp only[Array.getElem?_toList,Nat.zero_add]at hg
 split
 · rw[Nat.sub_zero,List.getD_eq_getElem?_getD,hg]
 · rename_i hh
   have hn:(mapF P (types P) P.funcs.toList 0)[g]?=none:=List.getElem?_eq_none (by omega)
   rw[hg]at hn
   rw[hn];rfl
theorem cF_ar {g:Nat} {fn:Func} {f:List V→HP→Nat→KV→R→R} {rs:RS} {b:CC} {r:RL}:cF P (types P) g fn≠ .ar f rs b r:=by
 unfold cF
 split
 · split
   · cases (fn.name== "runtime.NumGoroutine")<;>simp
   · simp
 · simp
theorem table_ok (X:Spx):FTok P X (table P):=by
 intro g
 rw[get_table]
 cases hf:P.funcs[g]? with
 |none=>exact⟨fun rs b r h=>(by simp at h),fun v h=>(by simp at h),fun h=>(by simp at h),fun f rs b r h=>(by simp at h)⟩
 |some fn=>exact⟨fun rs b r h=>⟨fn,rfl,h⟩,fun v h=>absurd h (cF_kn P),fun h=>absurd h (cF_jn P),fun f rs b r h=>absurd h (cF_ar P)⟩
end
section
variable {X:Spx} {P:Program}
theorem cF_fn {g:Nat} {fn:Func} {rs:RS} {b:CC} {r:RL} (h:cF P (types P) g fn=.fn rs b r):∃bd,fn.body=some bd∧cRs (types P) fn.ntmps fn.results.toList=.mk rs∧cC P (types P) (Nat.beq (findR bd).length 1) g fn.ntmps bd=.mk b∧(fn.name== "runtime.NumGoroutine")=false∧r=cRL P (types P) g fn.ntmps bd:=by
 unfold cF at h
 split at h
 · rename_i bd hb
   split at h
   · rename_i rs' f' h1 h2
     cases hn:fn.name== "runtime.NumGoroutine" with
     |true=>rw[hn]at h;cases h
     |false=>
      rw[hn]at h
      simp only[cond_false,CF.fn.injEq]at h
      obtain⟨rfl,rfl,rfl⟩:=h
      exact⟨bd,hb,h1,h2,rfl,rfl⟩
   · cases h
 · cases h
theorem body_ok (hD:DrawnOK X P) {cal:CAL} (hcal:CalOK X P cal) {g:Nat} {fn:Func} {rs:RS} {b:CC} {r:RL} (hf:P.funcs[g]?=some fn) (hc:cF P (types P) g fn=.fn rs b r) {l:List V} {h:HP} {c:Nat} {k:KV} {v':V} {h':HP} {c':Nat}
 (e:(argT l slots t0 fun t=>bodyE b cal rs t h c k)=.fin v' h' c'):∃v h1 c1,k v h1 c1=.fin v' h' c'∧
  ∀w0 ρ w lv,HR X P w0 ρ h c w→denL ρ l=some lv→Calls P g lv.toArray w fun e w'=>∃x,e=.returned x∧∃ρ',Le ρ ρ'∧HR X P w0 ρ' h1 c1 w'∧den ρ' v=some x∧Kp h h1 c∧c≤c1:=by
 obtain⟨bd,hb,hrs,hcc,hname,_⟩:=cF_fn hc
 obtain⟨t1,e1,ht⟩:=argT_ok l 0 t0 (k:=fun t=>bodyE b cal rs t h c k) (by simpa using e)
 have hsnd:CSnd X P fn.ntmps (Nat.beq (findR bd).length 1) b bd:=by
  refine cC_ok hD (fun _=>⟨hf,hb⟩) bd b hcc fun ho x hx=>?_
  obtain⟨y,hy⟩:=List.length_eq_one_iff.1 (Nat.eq_of_beq_eq_true ho)
  rw[hy]at hx⊢
  rw[List.mem_singleton.1 hx]
 obtain⟨ex,t2,h2,c2,df2,e2,w2⟩:=hsnd cal hcal t1 h c [] _ _ v' h' c' e1
 have e3:retE rs k t2 h2 c2 df2=.fin v' h' c'∧(ex=.nx∨ex=.rt):=by
  cases ex with
  |nx=>exact⟨e2,.inl rfl⟩
  |rt=>exact⟨e2,.inr rfl⟩
  |ex i=>cases e2
 obtain⟨e3,hex⟩:=e3
 obtain⟨h3,e4,w3⟩:=dfK_ok (X:=X) (P:=P) (show dfK df2 h2 (fun h=>rs t2 h fun v=>k v h c2)=.fin v' h' c' from e3)
 obtain⟨v,e5,w4⟩:=cRs_ok (X:=X) hrs t2 h3 _ v' h' c' e4
 refine⟨v,h3,c2,e5,fun w0 ρ w lv hR hl=>?_⟩
 refine(callsIn_wide (n:=1)).1 (callsIn_of_wp_marks (F:=Fence.wide) (n:=1) hf hb trivial ?_)
 refine w2 w0 ρ _ w none 1 _ (fun _=>rfl) hR (args_tr hl fun j hj=>?_) ⟨trivial,List.nodup_nil,fun k hk=>(by cases hk)⟩ fun ρ' a' w' A=>?_
 · have:=ht j hj
   simp only[Nat.zero_le,if_true,Nat.sub_zero,tg_t0 hj]at this
   exact this
 · have hlv:LeavesInM (Fr none) 1 P fn a'.tmps (fun e w'=>∃x,e=.returned x∧∃ρ',Le ρ ρ'∧HR X P w0 ρ' h3 c2 w'∧den ρ' v=some x∧Kp h h3 c∧c≤c2) a'.defers .returning w':=by
    refine w3 w0 ρ' c2 w' a'.defers fn a'.tmps 1 _ A.hr A.dk fun w5 hR5 hk5=>?_
    obtain⟨x,d1,r1⟩:=w4 w0 ρ' c2 w5 a'.tmps hR5 A.tr
    refine⟨x,r1,x,rfl,ρ',A.le,hR5,d1,fun k hk hdf=>?_,A.cl⟩
    rw[hk5 k (Nat.lt_of_lt_of_le hk A.cl) fun hin=>?_]
    · exact A.kp k hk hdf
    · rcases A.nw k hin with hh|hh
      · cases hh
      · omega
   rcases hex with rfl|rfl<;>exact hlv
end
end Ev
end
section
namespace Ev
open Go Go.RowKit
set_option linter.unusedVariables false
set_option linter.unusedSimpArgs false
section
variable {X:Spx} {P:Program}
theorem psT_ok {nt:Nat}:∀{l:List Nat} {ds:List DS} {vs:List V} {t:TM} {k:TM→R} {v':V} {h':HP} {c':Nat},cDs nt l=.mk ds→psT ds vs t k=.fin v' h' c'→∃t1,k t1=.fin v' h' c'∧vs.length=l.length∧
 ∀ρ m xs,denL ρ vs=some xs→TR ρ nt t m→TR ρ nt t1 ((l.zip xs).foldl (fun m (p:Nat × Value)=>m.setIfInBounds p.1 p.2) m)
 |[],ds,vs,t,k,v',h',c',hd,e=>by
  cases hd
  cases vs with
  |nil=>exact⟨t,e,rfl,fun ρ m xs _ hT=>by simpa using hT⟩
  |cons v vs=>cases e
 |s::l,ds,vs,t,k,v',h',c',hd,e=>by
  unfold cDs at hd
  split at hd
  · rename_i d ds' h1 h2
    cases hd
    cases vs with
    |nil=>cases e
    |cons v vs=>
     obtain⟨t0,ht0,e0⟩:=dst_eq h1 v t fun t=>psT ds' vs t k
     have e1:d v t (fun t=>psT ds' vs t k)=.fin v' h' c':=e
     rw[e0]at e1
     obtain⟨t1,e2,hl,w1⟩:=psT_ok h2 e1
     refine⟨t1,e2,by simp[hl],fun ρ m xs hx hT=>?_⟩
     obtain⟨x,xs',rfl,d1,d2⟩:=denL_cons.1 hx
     have:=(dst_ok (a:=⟨m,[]⟩) h1 ht0 hT d1).1
     simp only[List.zip_cons_cons,List.foldl_cons]
     exact w1 ρ _ xs' d2 this
  · cases hd
theorem rlK_fin {f:CF} {k:List DS→CC→CC→R} {v':V} {h':HP} {c':Nat} (e:rlK f k=.fin v' h' c'):∃rs b ps x y,f=.fn rs b (.mk ps x y)∧k ps x y=.fin v' h' c':=by
 cases f with
 |no=>cases e
 |jn=>cases e
 |ar g rs b r=>cases e
 |kn v=>cases e
 |fn rs b r=>
  cases r with
  |no=>cases e
  |mk ps x y=>exact⟨rs,b,ps,x,y,rfl,e⟩
theorem cRL_mk {g nt:Nat} {c:Code} {ps:List DS} {x y:CC} (h:RL.mk ps x y=cRL P (types P) g nt c):∃p a b,findR c=[(p,a,b)]∧cDs nt p.toList=.mk ps∧cC P (types P) false g nt a=.mk x∧cC P (types P) false g nt b=.mk y:=by
 unfold cRL at h
 split at h
 · rename_i p a b hr
   split at h
   · rename_i h1 h2 h3
     cases h
     exact⟨p,a,b,hr,h1,h2,h3⟩
   · cases h
 · cases h
theorem nilK_fin {l:List Nat} {k:R} {v':V} {h':HP} {c':Nat} (e:nilK l k=.fin v' h' c'):l=[]∧k=.fin v' h' c':=by
 cases l with
 |nil=>exact⟨rfl,e⟩
 |cons a l=>cases e
theorem DF_nil {ρ:Rho} {ds:List Deferred} (h:DF ρ [] ds):ds=[]:=by cases ds with|nil=>rfl|cons d ds=>exact h.elim
theorem yield_ok (hD:DrawnOK X P) {ft:T CF} (hft:FTok P X ft) {cal:CAL} (hcal:CalOK X P cal) {l:Nat} {vs:List V} {h:HP} {c:Nat} {k:KV} {v':V} {h':HP} {c':Nat} (e:yieldE ft cal l vs h c k=.fin v' h' c'):
 ∃v h1 c1,k v h1 c1=.fin v' h' c'∧∀w0 ρ w p lv,HR X P w0 ρ h c w→ρ l=some p→denL ρ vs=some lv→∃f tmps a b,(Instr.yield p.1 lv.toArray).run P w=.ok (.round p.1 f tmps a b) w∧
  RoundIn Fence.wide 0 P p.1 f tmps a b w fun e w'=>∃x,e=.returned x∧∃ρ',Le ρ ρ'∧HR X P w0 ρ' h1 c1 w'∧den ρ' v=some x∧Kp h h1 c∧c≤c1:=by
 obtain⟨st,pe,g,t,hg,e1⟩:=lpK_fin e
 obtain⟨rs,bb,ps,x,y,hT,e2⟩:=rlK_fin e1
 obtain⟨fn,hfn,hcF⟩:=(hft g).1 _ _ _ hT
 obtain⟨bd,hbd,_,_,_,hr⟩:=cF_fn hcF
 obtain⟨p0,a0,b0,hfr,hps,hx,hy⟩:=cRL_mk hr
 obtain⟨t1,e3,hlen,w1⟩:=psT_ok hps e2
 have sx:CSnd X P fn.ntmps false x a0:=cC_ok (fn:=fn) (bd:=bd) hD (fun hh=>by cases hh) a0 x hx (fun hh=>by cases hh)
 have sy:CSnd X P fn.ntmps false y b0:=cC_ok (fn:=fn) (bd:=bd) hD (fun hh=>by cases hh) b0 y hy (fun hh=>by cases hh)
 obtain⟨ex,t2,h2,c2,df2,e4,w2⟩:=sx cal hcal t1 h c [] _ _ v' h' c' e3
 cases ex with
 |ex i=>cases e4
 |rt=>cases e4
 |nx=>
 have e4':nilK df2 (lpK h2 l fun st pe g t'=>ifT (Nat.beq st 0) (hset (.lp 1 pe g t') h2 l fun h=>y cal t2 h c2 [] (fun _ h c df=>rndE .nx l h c df k) fun e _ h c df=>rndE e l h c df k) (.bad 90))=.fin v' h' c':=e4
 obtain⟨rfl,e5⟩:=nilK_fin e4'
 obtain⟨st2,pe2,g2,t2',hg2,e6⟩:=lpK_fin e5
 obtain⟨e7,e8⟩:=ifT_fin e6
 rw[hset_eq]at e8
 have hst2:st2=0:=Nat.eq_of_beq_eq_true e7
 subst hst2
 obtain⟨ey,t3,h3,c3,df3,e9,w3⟩:=sy cal hcal t2 _ c2 [] _ _ v' h' c' e8
 have e10:rndE ey l h3 c3 df3 k=.fin v' h' c':=by cases ey<;>exact e9
 obtain⟨rfl,e11⟩:=nilK_fin e10
 obtain⟨st3,pe3,g3,t3',hg3,e12⟩:=lpK_fin e11
 have fin:∃st4 pe4 bo,k (.b bo) (hs h3 l (.lp st4 pe4 g3 t3')) c3=.fin v' h' c'∧stt st4=(if(pnd ey).isNone then LoopState.ready else .done)∧pnd pe4=pnd ey∧bo=(pnd ey).isNone:=by
  cases ey with
  |nx=>rw[hset_eq]at e12;exact⟨0,.nx,true,e12,rfl,rfl,rfl⟩
  |ex i=>
   have e12':hset (.lp 2 (.ex i) g3 t3') h3 l (fun h=>k (.b false) h c3)=.fin v' h' c':=e12
   rw[hset_eq]at e12';exact⟨2,.ex i,false,e12',rfl,rfl,rfl⟩
  |rt=>
   have e12':hset (.lp 2 .rt g3 t3') h3 l (fun h=>k (.b false) h c3)=.fin v' h' c':=e12
   rw[hset_eq]at e12';exact⟨2,.rt,false,e12',rfl,rfl,rfl⟩
 obtain⟨st4,pe4,bo,e13,hst4,hpe4,rfl⟩:=fin
 refine⟨.b (pnd ey).isNone,_,c3,e13,fun w0 ρ w p lv hR hp hl=>?_⟩
 obtain⟨L,fn',bd',j1,j2,j3,j4,j5,j6,j7⟩:=hR.lp hp hg
 rw[hfn]at j4;cases j4
 rw[hbd]at j5;cases j5
 rw[hfr]at j6
 simp only[List.cons.injEq,Prod.mk.injEq,and_true]at j6
 obtain⟨q1,q2,q3⟩:=j6
 subst q1;subst q2;subst q3
 have hsz:lv.toArray.size=L.params.size:=by
  have:=denL_length hl
  simp only[List.size_toArray,this,hlen,Array.length_toList]
 have hyield:=run_yield (P:=P) j1 hsz
 have htr:TR ρ fn.ntmps t1 ((L.params.zip lv.toArray).foldl (fun tmps (x:Nat × Value)=>tmps.setIfInBounds x.1 x.2) L.tmps):=by
  have:=w1 ρ L.tmps lv hl j7
  rw[←Array.foldl_toList,Array.toList_zip]
  exact this
 refine⟨L.fn,_,L.assign,L.body,hyield,roundIn_of_wpIn trivial ?_⟩
 refine w2 w0 ρ _ w (some p.1) 0 _ (fun hh=>by cases hh) hR htr ⟨trivial,List.nodup_nil,fun k hk=>(by cases hk)⟩ fun ρ2 a2 w2' A=>?_
 have hp2:=A.le _ _ hp
 obtain⟨L2,fn2,bd2,i1,i2,i3,i4,i5,i6,i7⟩:=A.hr.lp hp2 hg2
 have hR3:=A.hr.lpPut (st':=1) (pe':=pe2) hp2 hg2 i1 (s':=.busy) (q':=L2.pending) rfl i3
 refine⟨_,run_beginRound i1 i2,?_⟩
 have hd2:=DF_nil A.dk.1
 refine w3 w0 ρ2 a2 _ (some p.1) 0 _ (fun hh=>by cases hh) hR3 A.tr ⟨by rw[hd2];trivial,List.nodup_nil,fun k hk=>(by cases hk)⟩ fun ρ3 a3 w3' B=>?_
 have hp3:=B.le _ _ hp2
 obtain⟨L3,fn3,bd3,m1,m2,m3,m4,m5,m6,m7⟩:=B.hr.lp hp3 hg3
 have hR4:=B.hr.lpPut (st':=st4) (pe':=pe4) hp3 hg3 m1 (s':=if(pnd ey).isNone then LoopState.ready else .done) (q':=pnd ey) hst4.symm hpe4.symm
 have hend:=run_endRound (P:=P) (pnd ey) m1
 have hlc:l<c:=(hR.dom _ _ hp).1
 have hc3:=B.hr.le
 have hc2:=A.hr.le
 have hc23:=B.cl
 have hc12:=A.cl
 have hkp:Kp h (hs h3 l (.lp st4 pe4 g3 t3')) c:=fun j hj hdf=>by
  have s1:=A.kp j hj hdf
  have hjl:j≠l:=fun hh=>by subst hh;rw[hg]at hdf;cases hdf
  have s2:=B.kp j (by omega) (by rw[hget_hs _ _ (by omega) (by omega),if_neg hjl];exact s1)
  rw[hget_hs _ _ (by omega) (by omega),if_neg hjl]
  exact s2
 have hres:∃x,Ending.returned (.bool (pnd ey).isNone)=Ending.returned x∧∃ρ',Le ρ ρ'∧HR X P w0 ρ' (hs h3 l (.lp st4 pe4 g3 t3')) c3 (w3'.putObj p.1 (.loop {L3 with state:=if(pnd ey).isNone then .ready else .done,pending:=pnd ey}))∧den ρ' (.b (pnd ey).isNone)=some x∧Kp h (hs h3 l (.lp st4 pe4 g3 t3')) c∧c≤c3:=
  ⟨_,rfl,ρ3,A.le.trans B.le,hR4,by simp[den],hkp,by omega⟩
 cases ey with
 |nx=>exact⟨_,_,hend,hres⟩
 |ex i=>exact⟨_,_,hend,hres⟩
 |rt=>exact⟨_,_,hend,hres⟩
end
end Ev
end
section
namespace Ev
open Go Go.RowKit
set_option linter.unusedVariables false
set_option linter.unusedSimpArgs false
section
variable {X:Spx} {P:Program}
theorem callFunc_ok {f:FuncId} {fn:Func} {c:Code} (hf:P.funcs[f]?=some fn) (hname:(fn.name== "runtime.NumGoroutine")=false) (hb:fn.body=some c) (args:Array Value) (w:World):(callFunc f args).run P w=.ok (.enter f args) w:=by
 have h1:fn.name≠ "runtime.NumGoroutine" :=by simpa using hname
 simp[callFunc,hf,h1,hb]
theorem sts_fin:∀{l:List V} {k:List (List Nat)→R} {v:V} {h:HP} {c:Nat},sts l k=.fin v h c→∃ls:List (List Nat),l=ls.map V.s∧k ls=.fin v h c
 |[],k,v,h,c,e=>⟨[],rfl,e⟩
 |x::l,k,v,h,c,e=>by
  obtain⟨s,rfl,e1⟩:=asS_fin (show asS x (fun s=>sts l fun l=>k (s::l))=.fin v h c from e)
  obtain⟨ls,rfl,e2⟩:=sts_fin e1
  exact⟨s::ls,rfl,e2⟩
def u8 (l:List Nat):List UInt8:=l.map UInt8.ofNat
theorem jnT_eq (sep:List Nat):∀r:List (List Nat),u8 (jnT sep r)=Lib.joinTail (u8 sep) (r.map u8)
 |[]=>rfl
 |y::r=>by
  show u8 (Ev.app sep (Ev.app y (jnT sep r)))=_
  rw[app_eq,app_eq]
  have:=jnT_eq sep r
  unfold Lib.joinTail at*
  simp only[u8,List.map_append,List.map_cons,List.flatten_cons,List.append_assoc]at*
  rw[this]
theorem jnN_eq (l:List (List Nat)) (sep:List Nat):u8 (jnN l sep)=Lib.join (l.map u8) (u8 sep):=by
 cases l with
 |nil=>rfl
 |cons x r=>
  show u8 (Ev.app x (jnT sep r))=_
  rw[app_eq,List.map_cons,Lib.join_cons,←jnT_eq]
  simp[u8]
theorem denL_strs (ρ:Rho):∀{ls:List (List Nat)} {vs:List Value},denL ρ (ls.map V.s)=some vs→vs=ls.map fun l=> .string (str l)
 |[],vs,h=>by simp only[denL,List.map_nil,Option.some.injEq]at h;subst h;rfl
 |l::ls,vs,h=>by
  obtain⟨x,xs,rfl,h1,h2⟩:=denL_cons.1 h
  simp[den]at h1
  rw[denL_strs ρ h2,←h1];rfl
theorem jnK_ok {g:Nat} (h4:∀(sep:ByteArray) w,Calls P g #[.slice none 0 0,.string sep] w fun e w'=>e=.returned (.string ⟨#[]⟩)∧w'=w)
 (h5:∀(bk o c:Nat) (xs:List ByteArray) (sep:ByteArray) (w:World),(∀(j:Nat) x,xs[j]?=some x→w.cell? ⟨bk,o+j,none⟩=some (.string x))→bk<w.heap.size→xs.length≤140737488355328→xs.length≤c→(Lib.join (xs.map (·.data.toList)) sep.data.toList).length≤140737488355328→
  Calls P g #[.slice (some ⟨bk,o,none⟩) xs.length c,.string sep] w fun e w'=>e=.returned (.string ⟨(Lib.join (xs.map (·.data.toList)) sep.data.toList).toArray⟩)∧Below w.heap.size w w')
 {l:List V} {h:HP} {c:Nat} {k:KV} {v':V} {h':HP} {c':Nat} (e:jnK l h c k=.fin v' h' c'):∃v,k v h c=.fin v' h' c'∧
  ∀w0 ρ w lv,HR X P w0 ρ h c w→denL ρ l=some lv→Calls P g lv.toArray w fun e w'=>∃x,e=.returned x∧∃ρ',Le ρ ρ'∧HR X P w0 ρ' h c w'∧den ρ' v=some x∧Kp h h c∧c≤c:=by
 cases l with
 |nil=>cases e
 |cons v l=>
 cases l with
 |nil=>cases e
 |cons s l=>
 cases l with
 |cons _ _=>cases e
 |nil=>
 obtain⟨sep,rfl,e1⟩:=asS_fin (show jnB v s h c k=.fin v' h' c' from e)
 rcases asL_fin e1 with⟨rfl,e2⟩|⟨a,o,n,ee,q,rfl,e2⟩
 · refine⟨_,e2,fun w0 ρ w lv hR hl=>?_⟩
   obtain⟨x,xs,rfl,d1,d2⟩:=denL_cons.1 hl
   obtain⟨y,ys,rfl,d3,d4⟩:=denL_cons.1 d2
   simp[den]at d1 d3
   simp[denL]at d4
   subst d4;subst d1;subst d3
   refine(h4 (str sep) w).mono ?_
   rintro e w' ⟨rfl,rfl⟩
   exact⟨_,rfl,ρ,Le.refl _,hR,by simp[den,str],Kp.refl _ _,Nat.le_refl _⟩
 · obtain⟨ty,m,q',z,u,hb,e3⟩:=blk_fin e2
   obtain⟨e4,e5⟩:=ifT_fin e3
   obtain⟨e6,e7⟩:=ifT_fin e5
   obtain⟨e8,e9⟩:=ifT_fin e7
   rw[cellsK_eq]at e9
   obtain⟨ls,g1,g2⟩:=sts_fin e9
   rw[fL_eq]at g2
   obtain⟨g3,g4⟩:=ifT_fin g2
   have hon:o+n≤m:=Nat.le_of_ble_eq_true e4
   have hn:n≤140737488355328:=Nat.le_of_ble_eq_true e8
   have hlen:ls.length=n:=by have:=congrArg List.length g1;simpa using this.symm
   refine⟨_,g4,fun w0 ρ w lv hR hl=>?_⟩
   obtain⟨x,xs,rfl,d1,d2⟩:=denL_cons.1 hl
   obtain⟨y,ys,rfl,d3,d4⟩:=denL_cons.1 d2
   simp only[den,Option.map_eq_some_iff]at d1
   obtain⟨p,hp,rfl⟩:=d1
   simp[den]at d3
   simp[denL]at d4
   subst d4;subst d3
   obtain⟨vs,k1,k2,k3,_⟩:=hR.cells (P:=P) hp hb hon
   rw[g1]at k2
   have hvs:=denL_strs ρ k2
   obtain⟨cs,r1,r2,r3,r4,r5,r6⟩:=hR.row hp hb
   have hcap:(ls.map str).length≤if q=true then p.2-ee else ee:=by
    rw[List.length_map,hlen]
    cases q with
    |false=>exact Nat.le_of_ble_eq_true e6
    |true=>
     have e6':ifT (Nat.beq q' 1) (Nat.ble (ee+n) m) false=true:=e6
     cases hq:Nat.beq q' 1 with
     |false=>rw[hq]at e6';cases e6'
     |true=>
      rw[hq]at e6'
      have h1:=Nat.eq_of_beq_eq_true hq
      subst h1
      have h2:ee+n≤m:=Nat.le_of_ble_eq_true e6'
      have h3:=r5 (by decide)
      simp only[if_true];omega
   have hjoin:Lib.join ((ls.map str).map (·.data.toList)) (str sep).data.toList=u8 (jnN ls sep):=by
    rw[jnN_eq]
    congr 1
    rw[List.map_map]
    exact List.map_congr_left fun l _=>rfl
   have hc:=h5 p.1 o (if q=true then p.2-ee else ee) (ls.map str) (str sep) w (fun j x hx=>by
    have hj:vs[j]?=some (.string x):=by
     rw[hvs]
     simp only[List.getElem?_map]at hx⊢
     cases hlj:ls[j]? with
     |none=>rw[hlj]at hx;cases hx
     |some l=>rw[hlj]at hx;simp at hx;simp[hx]
    have:=k3 j _ hj
    rw[addr_add]at this
    exact this) (hR.dom _ _ hp).2.2 (by simp[hlen,hn]) hcap (by rw[hjoin];unfold u8;rw[List.length_map,←len_eq];exact Nat.le_of_ble_eq_true g3)
   have hl2:(ls.map str).length=n:=by rw[List.length_map,hlen]
   rw[hl2]at hc
   refine hc.mono ?_
   rintro e w' ⟨rfl,hB⟩
   refine⟨_,rfl,ρ,Le.refl _,hR.below hB,?_,Kp.refl _ _,Nat.le_refl _⟩
   rw[hjoin];simp[den,str,u8]
theorem callE_ok (hD:DrawnOK X P) {ft:T CF} (hft:FTok P X ft) {cal:CAL} (hcal:CalOK X P cal) {g:Nat} {l:List V} {h:HP} {c:Nat} {k:KV} {v':V} {h':HP} {c':Nat} (e:callE slots ft cal g l h c k=.fin v' h' c'):
 ∃fn bd,P.funcs[g]?=some fn∧(fn.name== "runtime.NumGoroutine")=false∧fn.body=some bd∧∃v h1 c1,k v h1 c1=.fin v' h' c'∧
  ∀w0 ρ w lv,HR X P w0 ρ h c w→denL ρ l=some lv→Calls P g lv.toArray w fun e w'=>∃x,e=.returned x∧∃ρ',Le ρ ρ'∧HR X P w0 ρ' h1 c1 w'∧den ρ' v=some x∧Kp h h1 c∧c≤c1:=by
 unfold callE at e
 cases hT:T.get CF.no ft g with
 |no=>rw[hT]at e;cases e
 |jn=>
  rw[hT]at e
  obtain⟨fn,bd,h1,h2,h3,h4,h5⟩:=(hft g).2.2.1 hT
  obtain⟨v,e1,w1⟩:=jnK_ok (X:=X) h4 h5 e
  exact⟨fn,bd,h1,h2,h3,v,h,c,e1,w1⟩
 |kn v=>
  rw[hT]at e
  obtain⟨fn,bd,x,h1,h2,h3,h4,h5⟩:=(hft g).2.1 v hT
  cases l with
  |cons a l=>cases e
  |nil=>
   refine⟨fn,bd,h1,h2,h3,v,h,c,e,fun w0 ρ w lv hR hl=>?_⟩
   simp only[denL,Option.some.injEq]at hl
   subst hl
   exact(h5 w).mono fun e w' hh=>⟨x,hh.1,ρ,Le.refl _,hR.below hh.2,h4 ρ,Kp.refl _ _,Nat.le_refl _⟩
 |ar f rs b r=>
  rw[hT]at e
  obtain⟨fn,hfn,hc,hA⟩:=(hft g).2.2.2 _ _ _ _ hT
  obtain⟨bd,hb,_,_,hname,_⟩:=cF_fn hc
  rcases hA _ _ _ _ _ _ _ _ e with e1|⟨v,h1,c1,e1,w1⟩
  · exact⟨fn,bd,hfn,hname,hb,body_ok hD hcal hfn hc e1⟩
  · exact⟨fn,bd,hfn,hname,hb,v,h1,c1,e1,w1⟩
 |fn rs b r=>
  rw[hT]at e
  obtain⟨fn,hfn,hc⟩:=(hft g).1 _ _ _ hT
  obtain⟨bd,hb,_,_,hname,_⟩:=cF_fn hc
  exact⟨fn,bd,hfn,hname,hb,body_ok hD hcal hfn hc e⟩
theorem goE_ok (hD:DrawnOK X P) {ft:T CF} (hft:FTok P X ft) {cal:CAL} (hcal:CalOK X P cal):CalOK X P (goE slots ft cal):=by
 intro g l h c k v' h' c' e
 cases g with
 |y i=>
  obtain⟨v,h1,c1,e1,w1⟩:=yield_ok hD hft hcal (show yieldE ft cal i l h c k=.fin v' h' c' from e)
  refine⟨v,h1,c1,e1,fun w0 ρ w gv lv hR hg hl=> .inr ⟨⟨i,rfl⟩,?_⟩⟩
  simp only[den,Option.map_eq_some_iff]at hg
  obtain⟨p,hp,rfl⟩:=hg
  obtain⟨f,tmps,a,b,r1,r2⟩:=w1 w0 ρ w p lv hR hp hl
  refine⟨p.1,f,tmps,a,b,?_,r2⟩
  simp only[Deferred.ofValue,Sem.run_bind,Sem.run_pure,Result.andThen_ok,invoke]
  simpa using r1
 |f gg x y=>
  obtain⟨fn,bd,hfn,hname,hb,v,h1,c1,e1,w1⟩:=callE_ok hD hft hcal (show callE slots ft cal gg (Ev.app x (Ev.app l y)) h c k=.fin v' h' c' from e)
  refine⟨v,h1,c1,e1,fun w0 ρ w gv lv hR hg hl=> .inl ?_⟩
  simp only[den,Option.bind_eq_some_iff,Option.map_eq_some_iff]at hg
  obtain⟨xs,hx,ys,hy,rfl⟩:=hg
  have hargs:denL ρ (Ev.app x (Ev.app l y))=some (xs++(lv++ys)):=by
   rw[app_eq,app_eq];exact denL_append hx (denL_append hl hy)
  refine⟨gg,(xs++(lv++ys)).toArray,?_,(w1 w0 ρ w _ hR hargs).mono fun e w' hh=>hh⟩
  simp only[Deferred.ofValue,Sem.run_bind,Sem.run_pure,Result.andThen_ok,invoke]
  rw[callFunc_ok hfn hname hb]
  simp
 |_=>cases e
theorem callN_ok (hD:DrawnOK X P) {ft:T CF} (hft:FTok P X ft):∀n,CalOK X P (callN slots ft n)
 |0=>fun g l h c k v' h' c' e=>(by cases e)
 |n+1=>goE_ok hD hft (callN_ok hD hft n)
end
def Base.all (w:World):Base:=⟨w,fun k=>k<w.heap.size,fun _ h=>h,fun _=>False⟩
theorem HR.init {X:Spx} {P:Program} (b:Base) (hb:∀k,¬b.no k):HR X P b (fun _=>none) h0 0 b.w:=
 ⟨⟨rfl,rfl,rfl,Nat.le_refl _,fun _ _=>rfl⟩,by omega,fun k p h=>(by cases h),fun k k' p p' h=>(by cases h),fun k hk=>absurd hk (by omega),fun k a A _ h=>(by cases h),fun k a A _ h=>(by cases h),fun k hk=>absurd hk (hb k)⟩
end Ev
end
