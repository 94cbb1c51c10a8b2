/- EvZm, EvZn, EvZo, EvZp, EvSa, EvYa, EvYb. -/
import Derived.Test.YtpkaehpllldcmaaGreatDoorMeF
section
namespace Ev
open Go Go.RowKit
set_option linter.unusedVariables false
set_option linter.unusedSimpArgs false
section
variable {X:Spx} {P:Program} {nt:Nat} {ops:Array Oper} {t0:TM} {c0:Nat} {L:Array Bool} {a a0:Act} {ρ ρ':Rho} {t t2:TM}
def Vals (ops:Array Oper) (L:Array Bool) (a:Act) (ρ:Rho) (t:TM):Prop:=∀j oj n,ops[j]?=some oj→oj.dst=some n→L.getD j false=true→n<256→∃x,a.tmps[n]?=some x∧den ρ (tg t n)=some x
def Rst (ops:Array Oper) (L:Array Bool) (a a0:Act):Prop:=∀n,(∀j oj,ops[j]?=some oj→oj.dst=some n→L.getD j false=false)→a.tmps[n]?=a0.tmps[n]?
theorem put_ne {d:Option Nat} {n:Nat} {x:Value} (h:d≠some n):(a.put d x).tmps[n]?=a.tmps[n]?:=by
 cases d with
 |none=>rfl
 |some m=>exact Array.getElem?_setIfInBounds_ne (fun e=>h (by rw[e]))
theorem put_eq {n:Nat} {x:Value} (h:n<a.tmps.size):(a.put (some n) x).tmps[n]?=some x:=Array.getElem?_setIfInBounds_self_of_lt h
theorem put_size {d:Option Nat} {x:Value}:(a.put d x).tmps.size=a.tmps.size:=by
 cases d with
 |none=>rfl
 |some m=>exact Array.size_setIfInBounds
theorem put_defers {d:Option Nat} {x:Value}:(a.put d x).defers=a.defers:=by cases d<;>rfl
theorem set_ne {i j:Nat} (h:j≠i):(L.setIfInBounds i true).getD j false=L.getD j false:=by
 rw[Array.getD_eq_getD_getElem?,Array.getD_eq_getD_getElem?,Array.getElem?_setIfInBounds_ne (Ne.symm h)]
theorem set_self {i:Nat} (h:i<L.size):(L.setIfInBounds i true).getD i false=true:=by rw[getD_set h,if_pos rfl]
theorem set_true {i j:Nat} (hi:i<L.size) (h:L.getD j false=true):(L.setIfInBounds i true).getD j false=true:=by
 rw[getD_set hi];split;rfl;exact h
theorem vals_put (hC:Chk ops) {i:Nat} {o:Oper} {x:Value} (hi:ops[i]?=some o) (hz:i<L.size) (V:Vals ops L a ρ t) (hle:Le ρ ρ') (hst:∀j oj n,ops[j]?=some oj→oj.dst=some n→L.getD j false=true→n<256→j≠i→tg t2 n=tg t n)
 (hn:∀n,o.dst=some n→n<a.tmps.size∧den ρ' (tg t2 n)=some x):Vals ops (L.setIfInBounds i true) (a.put o.dst x) ρ' t2:=by
 intro j oj n hj hd hL hlt
 by_cases hji:j=i
 · subst hji
   rw[hi]at hj;cases hj
   rw[hd]
   exact⟨x,put_eq (hn n hd).1,(hn n hd).2⟩
 · rw[set_ne hji]at hL
   obtain⟨y,h1,h2⟩:=V j oj n hj hd hL hlt
   refine⟨y,?_,by rw[hst j oj n hj hd hL hlt hji];exact den_mono hle _ h2⟩
   rw[put_ne (fun e=>hji (hC.dd _ _ _ _ _ hj hi hd e))];exact h1
theorem rst_put {i:Nat} {o:Oper} {x:Value} (hi:ops[i]?=some o) (hz:i<L.size) (R:Rst ops L a a0):Rst ops (L.setIfInBounds i true) (a.put o.dst x) a0:=by
 intro n hn
 rw[put_ne fun e=>?_]
 · refine R n fun j oj hj hd=>?_
   have:=hn j oj hj hd
   by_cases hji:j=i
   · subst hji;rw[set_self hz]at this;cases this
   · rw[set_ne hji]at this;exact this
 · have:=hn i o hi e
   rw[set_self hz]at this;cases this
theorem lay_tr {ρ0:Rho} {i:Nat} {o:Oper} {t':TM} (hT0:TR ρ0 nt t0 a0.tmps) (hle:Le ρ0 ρ) (hz:a.tmps.size=a0.tmps.size) (V:Vals ops L a ρ t) (haft:∀j∈aft ops i,L.getD j false=true) (H:Own ops i o t0 t t'):TR ρ nt t' (lay a0 a (own ops i o)).tmps:=by
 refine⟨by rw[lay_size];exact hT0.1,fun n h1 h2=>?_⟩
 rw[lay_get a0 a hz,H n h2]
 by_cases hin:n∈own ops i o
 · rw[if_pos hin,if_pos hin]
   obtain⟨m,hm,om,hom,hd⟩:=own_mem hin
   exact V m om n hom hd (haft m hm) h2
 · rw[if_neg hin,if_neg hin]
   obtain⟨v,g1,g2⟩:=hT0.2 n h1 h2
   exact⟨v,g1,den_mono hle _ g2⟩
theorem lay_agrees (hC:Chk ops) {i:Nat} {o:Oper} (hi:ops[i]?=some o) (hz:a.tmps.size=a0.tmps.size) (R:Rst ops L a a0) (hD:Down ops L) (hLi:L.getD i false=false):Agrees ops o a (lay a0 a (own ops i o)):=by
 intro n hn
 rw[lay_get a0 a hz]
 by_cases hin:n∈own ops i o
 · rw[if_pos hin]
 · rw[if_neg hin]
   refine R n fun j oj hj hd=>?_
   cases hL:L.getD j false with
   |false=>rfl
   |true=>
    exfalso
    rcases hC.lk i j o oj n hi hj hd hn with rfl|h|h
    · rw[hLi]at hL;cases hL
    · exact hin (own_iff.2 ⟨⟨j,h,oj,hj,hd⟩,hn⟩)
    · rw[pres_sub hC.down hD (size_of hj) (fun k hk=>hD j hL k hk) h]at hLi;cases hLi
theorem adopt_all {w:World} {e:HP} {c:Nat}:∀(S:List Nat) (h hf:HP) (B:Base),Adp ops c0 e S h hf→S.Nodup→
 (∀i∈S,∃p ty n z u,ρ (c0+slot ops i)=some p∧B.out p.1∧hget e (c0+slot ops i)=.c ty n 0 z u∧BR X P ρ (c0+slot ops i) w (hget e (c0+slot ops i)))→
 (∀i∈S,∀j∈S,i≠j→∀p q,ρ (c0+slot ops i)=some p→ρ (c0+slot ops j)=some q→p.1≠q.1)→HR X P B ρ h c w→
 ∃B':Base,HR X P B' ρ hf c w∧B'.w=w∧(∀k,B.no k→B'.no k)∧(∀k,B'.out k↔B.out k∧∀i∈S,∀p,ρ (c0+slot ops i)=some p→k≠p.1)∧Kp h hf c
 |[],h,hf,B,hA,_,_,_,H=>by
  cases hA
  refine⟨⟨w,B.out,fun k hk=>Nat.lt_of_lt_of_le (B.lt k hk) H.bel.size,B.no⟩,H.base ⟨rfl,rfl,rfl,Nat.le_refl _,fun _ _=>rfl⟩ (fun k p hk hx=>(H.dom k p hk).2.1 hx) H.noc (fun k a A h1 h2=>(H.one k a A h1 h2).1),rfl,fun _ hk=>hk,fun k=>by simp,Kp.refl _ _⟩
 |i::S,h,hf,B,⟨hx,hA⟩,hnd,hE,hU,H=>by
  obtain⟨hni,hnS⟩:=List.nodup_cons.1 hnd
  obtain⟨p,ty,n,z,u,g1,g2,g3,g4⟩:=hE i (by simp)
  have H1:=H.adopt (b':=⟨w,fun k=>B.out k∧k≠p.1,fun k hk=>Nat.lt_of_lt_of_le (B.lt k hk.1) H.bel.size,B.no⟩) g1 hx g2 (fun s hh=>by rw[g3]at hh;cases hh) g4 ⟨rfl,rfl,rfl,Nat.le_refl _,fun _ _=>rfl⟩ (fun k hk=>hk) fun k hk=>hk
  obtain⟨B',k1,k2,k3,k4,k5⟩:=adopt_all S _ hf _ hA hnS (fun j hj=>by
   obtain⟨q,ty',n',z',u',r1,r2,r3,r4⟩:=hE j (List.mem_cons_of_mem _ hj)
   exact⟨q,ty',n',z',u',r1,⟨r2,hU j (List.mem_cons_of_mem _ hj) i (by simp) (fun e=>hni (e▸hj)) q p r1 g1⟩,r3,r4⟩) (fun j hj j' hj'=>hU j (List.mem_cons_of_mem _ hj) j' (List.mem_cons_of_mem _ hj')) H1
  have hlt:=(H.dom _ _ g1).1
  have hle:=H.le
  refine⟨B',k1,k2,k3,fun k=>?_,Kp.trans (Kp.hs hle (by omega) fun _ hh=>by rw[hx]at hh;cases hh) k5 (Nat.le_refl _)⟩
  rw[k4 k]
  constructor
  · rintro ⟨⟨q1,q2⟩,q3⟩
    refine⟨q1,fun j hj q hq=>?_⟩
    rcases List.mem_cons.1 hj with rfl|hj
    · rw[g1]at hq;cases hq;exact q2
    · exact q3 j hj q hq
  · rintro ⟨q1,q2⟩
    exact⟨⟨q1,q2 i (by simp) p g1⟩,fun j hj=>q2 j (List.mem_cons_of_mem _ hj)⟩
end
section
variable (X:Spx) (P:Program) (nt:Nat) (ops:Array Oper) (t0:TM) (c0:Nat) (an:List Nat) (b:Base) (ρ0:Rho) (h00:HP) (c00:Nat) (a0:Act) (F:TM→HP→Nat→Prop)
structure IS (l ad done:List Nat) (t:TM) (h e:HP) (c:Nat) (ρ:Rho) (B:Base) (L:Array Bool) (a:Act) (w:World):Prop where
 rest:Rest X P nt ops t0 c0 l ad t h e c F
 pk:Pk X P nt ops t0 c0 l ad t h e c
 ch:chain (pres ops ops.size) l=true
 ha:∀x∈ad,∀y∈l,x∈Pr ops y
 an:an=done++l
 dn:∀x∈done,L.getD x false=true
 nl:∀x∈l,L.getD x false=false
 al:∀x∈ad,L.getD x false=true
 hr:HR X P B ρ h c w
 bb:Bel b B.w
 bo:∀k,b.out k→B.out k
 bn:∀k,b.no k→B.no k
 le:Le ρ0 ρ
 kp:Kp h00 h c00
 cl:c00≤c
 df:a.defers=a0.defers
 sz:a.tmps.size=a0.tmps.size
 va:Vals ops L a ρ t
 rs:Rst ops L a a0
 kt:∀n,n<256→(∀(i:Nat) (o:Oper),ops[i]?=some o→o.dst≠some n)→tg t n=tg t0 n
 en:∀i,i<ops.size→erl ops i=true→L.getD i false=false→B.no (c0+slot ops i)
 ey:∀i,i<ops.size→erl ops i=true→L.getD i false=true→i∉ad→∃p ty n z u,ρ (c0+slot ops i)=some p∧B.out p.1∧¬b.out p.1∧hget e (c0+slot ops i)=.c ty n 0 z u∧BR X P ρ (c0+slot ops i) w (hget e (c0+slot ops i))
 ed:∀i j p q,erl ops i=true→erl ops j=true→L.getD i false=true→L.getD j false=true→i∉ad→j∉ad→i<ops.size→j<ops.size→i≠j→ρ (c0+slot ops i)=some p→ρ (c0+slot ops j)=some q→p.1≠q.1
end
section
variable {X:Spx} {P:Program} {nt:Nat} {ops:Array Oper} {t0:TM} {c0:Nat} {an:List Nat} {b:Base} {ρ0:Rho} {h00:HP} {c00:Nat} {a0:Act} {F:TM→HP→Nat→Prop}
theorem is_step (hC:Chk ops) (hT0:TR ρ0 nt t0 a0.tmps) (hbn:∀k,b.no k→k<c0) (han:∀x,x∈an↔x<ops.size∧nonA ops x=false) (hnd:an.Nodup)
 {l ad done:List Nat} {t:TM} {h e:HP} {c:Nat} {ρ:Rho} {B:Base} {L:Array Bool} {a:Act} {w:World} (S:IS X P nt ops t0 c0 an b ρ0 h00 c00 a0 F l ad done t h e c ρ B L a w) (hs:L.size=ops.size) (hD:Down ops L) {i:Nat} (hi:i∈Region.ready .any ops L) {r:Option Nat} {n:Nat} {Q:Exit→Act→World→Prop}:
 wpOpIn (Fr r) n P ops Q i (fun a' w'=>∃l ad done t h e c ρ B,IS X P nt ops t0 c0 an b ρ0 h00 c00 a0 F l ad done t h e c ρ B (L.setIfInBounds i true) a' w') a w:=by
 obtain⟨r1,r2,r3⟩:=ready_aft hi
 have hLi:L.getD i false=false:=by
  rw[Array.getD_eq_getD_getElem?]at r2⊢
  rw[Array.getElem?_eq_getElem (by omega)]at r2⊢
  simpa using r2
 have hiL:i<L.size:=by omega
 have ho:ops[i]?=some ops[i]:=Array.getElem?_eq_getElem r1
 generalize hoi:ops[i]=o at ho
 have hpre:∀k∈Pr ops i,L.getD k false=true:=fun k hk=>pres_sub hC.down hD r1 r3 hk
 have hrd:rdB (pres ops ops.size) l i=true:=rdB_iff.2 fun x hx hin=>by have:=S.nl x hx;rw[hpre x hin]at this;cases this
 have hia:i∉ad:=fun hh=>by rw[S.al i hh]at hLi;cases hLi
 have hAg:=lay_agrees hC ho S.sz S.rs hD hLi
 have hTR:∀t',Own ops i o t0 t t'→TR ρ nt t' (lay a0 a (own ops i o)).tmps:=fun t' H=>lay_tr hT0 S.le S.sz S.va r3 H
 have hsz:nt≤a.tmps.size:=by rw[S.sz];exact hT0.1
 have hbw:Bel b w:=S.bb.chain S.bo S.hr.bel
 have dn':∀x∈done,(L.setIfInBounds i true).getD x false=true:=fun x hx=>set_true hiL (S.dn x hx)
 have al':∀x∈ad,(L.setIfInBounds i true).getD x false=true:=fun x hx=>set_true hiL (S.al x hx)
 have no':∀j,(L.setIfInBounds i true).getD j false=false→j≠i∧L.getD j false=false:=fun j hj=>by
  by_cases hji:j=i
  · subst hji;rw[set_self hiL]at hj;cases hj
  · rw[set_ne hji]at hj;exact⟨hji,hj⟩
 have yes':∀j,(L.setIfInBounds i true).getD j false=true→j≠i→L.getD j false=true:=fun j hj hji=>by rw[set_ne hji]at hj;exact hj
 cases hn:nonA ops i with
 |true=>
  have hSF:=S.pk i o ho hn hrd hia
  have nl':∀x∈l,(L.setIfInBounds i true).getD x false=false:=fun x hx=>by
   have hx2:=((han x).1 (by rw[S.an];exact List.mem_append_right _ hx)).2
   rw[set_ne fun e=>by subst e;rw[hn]at hx2;cases hx2];exact S.nl x hx
  rcases nonA_cases ho hn with⟨hl,hL⟩|⟨hl,hE,hEr⟩
  · obtain⟨t',v,g1,g2,g3⟩:=hSF.1 hL
    have hne:∀j,erl ops j=true→j≠i:=fun j hj e=>by
     subst e
     unfold erl at hj
     rw[ho]at hj
     have:isEarly o.op=true:=hj
     rw[light_early hL]at this;cases this
    refine g3.go ho hL S.hr (hTR t' g1) hAg fun x hx=>⟨l,ad,done,t,h,e,c,ρ,B,⟨S.rest,S.pk,S.ch,S.ha,S.an,dn',nl',al',S.hr,S.bb,S.bo,S.bn,S.le,S.kp,S.cl,by rw[put_defers];exact S.df,by rw[put_size];exact S.sz,?_,rst_put ho hiL S.rs,S.kt,?_,?_,?_⟩⟩
    · refine vals_put hC ho hiL S.va (Le.refl _) (fun _ _ _ _ _ _ _ _=>rfl) fun m hm=>?_
      obtain⟨q1,q2,q3⟩:=g2 m hm
      exact⟨Nat.lt_of_lt_of_le q1 hsz,by rw[q3];exact hx⟩
    · exact fun j hj her hjL=>S.en j hj her (no' j hjL).2
    · exact fun j hj her hjL hja=>S.ey j hj her (yes' j hjL (hne j her)) hja
    · exact fun j j' p q her her' hjL hjL' hja hja' hj hj' hjj=>S.ed j j' p q her her' (yes' j hjL (hne j her)) (yes' j' hjL' (hne j' her')) hja hja' hj hj' hjj
  · obtain⟨t',v,m,g1,g2,g3,g4,g5,g6,g7,g8⟩:=hSF.2 hE
    obtain⟨ty,n',z,u,q1,q2,q3⟩:=g8
    obtain⟨cs,x,k1,k2,k3,k4⟩:=q3 ρ w _ (hTR t' g1)
    have hno:=S.en i r1 hEr hLi
    obtain⟨hic,hin⟩:=S.hr.noc _ hno
    obtain⟨H2,hle⟩:=S.hr.early hic g7 hin (.cells cs ty) 0 (by have:=S.hr.bel.size;simp;omega) (by simp)
    have hns:(∀cs b,o.op≠ .select cs b)∧∀c,o.op≠ .defer c:=⟨fun _ _ hh=>(by rw[hh]at hE;cases hE),fun _ hh=>(by rw[hh]at hE;cases hE)⟩
    unfold wpOpIn
    simp only[ho]
    rw[if_pos (by rw[hAg.wanted];exact g5 ρ _ (hTR t' g1))]
    refine⟨fun _ _=>trivial,?_⟩
    rw[Oper.semAt_eq _ _ _ hns.2,hAg.exec hns.1,k4]
    have hwk:∀k,k<w.heap.size→(w.alloc (.cells cs ty)).heap[k]?=w.heap[k]?:=fun k hk=>Below.heap_alloc w _ k hk
    refine⟨l,ad,done,t,h,e,c,_,_,⟨S.rest,S.pk,S.ch,S.ha,S.an,dn',nl',al',H2,hbw.alloc _,fun k hk=> .inl (S.bo k hk),fun k hk=>⟨S.bn k hk,fun e=>by have:=hbn k hk;omega⟩,S.le.trans hle,S.kp,S.cl,by rw[put_defers];exact S.df,by rw[put_size];exact S.sz,?_,rst_put ho hiL S.rs,S.kt,?_,?_,?_⟩⟩
    · refine vals_put hC ho hiL S.va hle (fun _ _ _ _ _ _ _ _=>rfl) fun m' hm=>?_
      rw[g2]at hm;cases hm
      exact⟨Nat.lt_of_lt_of_le g3.1 hsz,by rw[g4];exact k3 _ (up_self _ _ _)⟩
    · intro j hj her hjL
      refine⟨S.en j hj her (no' j hjL).2,fun e=>(no' j hjL).1 (slot_inj her hEr (by omega))⟩
    · intro j hj her hjL hja
      by_cases hji:j=i
      · subst hji
        refine⟨(w.heap.size,0),ty,n',z,u,up_self _ _ _,.inr rfl,fun hh=>?_,q1,?_⟩
        · have:=b.lt _ hh
          have:=hbw.size
          simp only at*;omega
        · rw[q1]
          exact⟨(w.heap.size,0),cs,up_self _ _ _,by rw[World.alloc];simp,q2,by omega,fun _=>k1,fun hh=>absurd rfl hh,k2.mono hle⟩
      · obtain⟨p,ty',n'',z',u',s1,s2,s3,s4,s5⟩:=S.ey j hj her (yes' j hjL hji) hja
        refine⟨p,ty',n'',z',u',hle _ _ s1,.inl s2,s3,s4,s5.mono hle (fun p' hp'=>hwk _ (S.hr.dom _ _ hp').2.2) fun a' p' ha'=>?_⟩
        rw[s4]at ha';cases ha'
    · intro j j' p q her her' hjL hjL' hja hja' hj hj' hjj hp hq
      have old:∀j p,erl ops j=true→j≠i→up ρ (c0+slot ops i) (w.heap.size,0) (c0+slot ops j)=some p→ρ (c0+slot ops j)=some p:=fun j p her hji hp=>by
       unfold up at hp
       rw[if_neg fun e=>hji (slot_inj her hEr (by omega))]at hp
       exact hp
      by_cases hji:j=i
      · subst hji
        rw[up_self]at hp;cases hp
        have:=(S.hr.dom _ _ (old j' q her' (fun e=>hjj e.symm) hq)).2.2
        simp only;omega
      · by_cases hji':j'=i
        · subst hji'
          rw[up_self]at hq;cases hq
          have:=(S.hr.dom _ _ (old j p her hji hp)).2.2
          simp only;omega
        · exact S.ed j j' p q her her' (yes' j hjL hji) (yes' j' hjL' hji') hja hja' hj hj' hjj (old j p her hji hp) (old j' q her' hji' hq)
 |false=>
  have hil:i∈l:=by
   have:=(han i).2 ⟨r1,hn⟩
   rw[S.an]at this
   rcases List.mem_append.1 this with h1|h1
   · rw[S.dn i h1]at hLi;cases hLi
   · exact h1
  cases l with
  |nil=>cases hil
  |cons x l=>
   obtain⟨hc1,hc2⟩:=chain_iff.1 S.ch
   have hxi:i=x:=by
    rcases List.mem_cons.1 hil with h1|h1
    · exact h1
    · have:=S.nl x (by simp)
      rw[hpre x (hc1 i h1)]at this;cases this
   subst hxi
   obtain⟨o',hA,t',u1,h1,c1,t2,e2,q1,q2,q3,⟨hok,q4⟩,q5,q6,q7,q8,q9⟩:=S.rest
   rw[ho]at q1;cases q1
   have hner:erl ops i=false:=by
    unfold nonA at hn;simp only[Bool.or_eq_false_iff]at hn;exact hn.2
   have hnew:∀j,L.getD j false=true→j<ops.size→New ops l i j=false:=fun j hj hjs=>by
    have:rdB (pres ops ops.size) (i::l) j=true:=rdB_iff.2 fun y hy hin=>by
     have:=S.nl y hy
     rw[pres_sub hC.down hD hjs (fun k hk=>hD j hj k hk) hin]at this;cases this
    simp[New,this]
   have hmemS:∀j,j∈(ixs ops fun j=>erl ops j&&elm j (Pr ops i)&& !elm j ad)→j<ops.size∧erl ops j=true∧j∈Pr ops i∧j∉ad:=fun j hj=>by
    obtain⟨s1,s2⟩:=mem_ixs.1 hj
    simp only[Bool.and_eq_true,Bool.not_eq_true',elm_iff,elm_no]at s2
    exact⟨s1,s2.1.1,s2.1.2,s2.2⟩
   obtain⟨B',k1,k2,k3,k4,k5⟩:=adopt_all _ _ _ _ q2 ((ixs_lt _).imp fun h=>Nat.ne_of_lt h) (fun j hj=>by
    obtain⟨s1,s2,s3,s4⟩:=hmemS j hj
    obtain⟨p,ty,n',z,u,z1,z2,z3,z4,z5⟩:=S.ey j s1 s2 (hpre j s3) s4
    exact⟨p,ty,n',z,u,z1,z2,z4,z5⟩) (fun j hj j' hj' hjj p q hp hq=>by
    obtain⟨s1,s2,s3,s4⟩:=hmemS j hj
    obtain⟨y1,y2,y3,y4⟩:=hmemS j' hj'
    exact S.ed j j' p q s2 y2 (hpre j s3) (hpre j' y3) s4 y4 s1 y1 hjj hp hq) S.hr
   have main:∀v w',(∃ρ',Le ρ ρ'∧HR X P B' ρ' h1 c1 w'∧TR ρ' nt u1 ((lay a0 a (own ops i o)).put o.dst v).tmps∧Kp hA h1 c∧c≤c1)→
    ∃l ad done t h e c ρ B,IS X P nt ops t0 c0 an b ρ0 h00 c00 a0 F l ad done t h e c ρ B (L.setIfInBounds i true) (a.put o.dst v) w':=by
    rintro v w' ⟨ρ',l1,l2,l3,l4,l5⟩
    have hnd2:(i::l).Nodup:=by rw[S.an]at hnd;exact(List.nodup_append.1 hnd).2.1
    refine⟨l,Pr ops i,done++[i],t2,h1,e2,c1,ρ',B',⟨q9,q8,hc2,fun y hy y' hy'=>pres_trans hC.down ((han y').1 (by rw[S.an];simp[hy'])).1 (hc1 y' hy') hy,by rw[S.an];simp,fun y hy=>?_,fun y hy=>?_,fun y hy=>set_true hiL (hpre y hy),l2,by rw[k2];exact hbw,fun k hk=>?_,fun k hk=>k3 k (S.bn k hk),S.le.trans l1,(S.kp.trans k5 S.cl).trans l4 S.cl,Nat.le_trans S.cl l5,by rw[put_defers];exact S.df,by rw[put_size];exact S.sz,?_,rst_put ho hiL S.rs,?_,?_,?_,?_⟩⟩
    · rcases List.mem_append.1 hy with hy|hy
      · exact dn' y hy
      · simp only[List.mem_singleton]at hy;subst hy;exact set_self hiL
    · rw[set_ne fun e=>(List.nodup_cons.1 hnd2).1 (by rw[←e];exact hy)]
      exact S.nl y (List.mem_cons_of_mem _ hy)
    · refine(k4 k).2 ⟨S.bo k hk,fun j hj p hp e=>?_⟩
      obtain⟨s1,s2,s3,s4⟩:=hmemS j hj
      obtain⟨p',ty,n',z,u,z1,z2,z3,z4,z5⟩:=S.ey j s1 s2 (hpre j s3) s4
      rw[hp]at z1;cases z1
      exact z3 (e▸hk)
    · refine vals_put hC ho hiL S.va l1 (fun j oj m hj hd hjL hm hji=>q6 m hm (fun e=>hji (hC.dd _ _ _ _ _ hj ho hd e)) fun i' o' hi' hd'=>?_) fun m hm=>?_
      · rw[hC.dd _ _ _ _ _ hi' hj hd' hd];exact hnew j hjL (size_of hj)
      · obtain⟨s1,s2,s3⟩:=q5 m hm
        refine⟨Nat.lt_of_lt_of_le s1 hsz,?_⟩
        obtain⟨y,y1,y2⟩:=l3.2 m s1 s2
        rw[hm,put_eq (by rw[lay_size];exact Nat.lt_of_lt_of_le s1 hT0.1)]at y1
        cases y1
        rw[s3];exact y2
    · intro m hm hh
      rw[q6 m hm (hh i o ho) fun i' o' hi' hd'=>absurd hd' (hh i' o' hi')]
      exact S.kt m hm hh
    · exact fun j hj her hjL=>k3 _ (S.en j hj her (no' j hjL).2)
    · intro j hj her hjL hja
      have hji:j≠i:=fun e=>by subst e;rw[hner]at her;cases her
      have hjo:=yes' j hjL hji
      have hjad:j∉ad:=fun hh=>hja (S.ha j hh i (by simp))
      obtain⟨p,ty,n',z,u,z1,z2,z3,z4,z5⟩:=S.ey j hj her hjo hjad
      have hlt:=(S.hr.dom _ _ z1).1
      have hle:=S.hr.le
      have he2:=q7 j her (by omega) (hnew j hjo hj)
      have hout:B'.out p.1:=(k4 _).2 ⟨z2,fun j' hj' q hq=>by
       obtain⟨s1,s2,s3,s4⟩:=hmemS j' hj'
       exact S.ed j j' p q her s2 hjo (hpre j' s3) hjad s4 hj s1 (fun e=>hja (e▸s3)) z1 hq⟩
      refine⟨p,ty,n',z,u,l1 _ _ z1,hout,z3,by rw[he2];exact z4,?_⟩
      rw[he2]
      refine z5.mono l1 (fun p' hp'=>?_) fun a' p' ha'=>?_
      · rw[z1]at hp';cases hp'
        rw[l2.bel.block _ hout,k2]
      · rw[z4]at ha';cases ha'
    · intro j j' p q her her' hjL hjL' hja hja' hj hj' hjj hp hq
      have hji:j≠i:=fun e=>by subst e;rw[hner]at her;cases her
      have hji':j'≠i:=fun e=>by subst e;rw[hner]at her';cases her'
      have hjo:=yes' j hjL hji
      have hjo':=yes' j' hjL' hji'
      have hjad:j∉ad:=fun hh=>hja (S.ha j hh i (by simp))
      have hjad':j'∉ad:=fun hh=>hja' (S.ha j' hh i (by simp))
      obtain⟨p1,_,_,_,_,z1,_⟩:=S.ey j hj her hjo hjad
      obtain⟨p2,_,_,_,_,z2,_⟩:=S.ey j' hj' her' hjo' hjad'
      have e1:=l1 _ _ z1
      have e2:=l1 _ _ z2
      rw[hp]at e1;cases e1
      rw[hq]at e2;cases e2
      exact S.ed j j' p q her her' hjo hjo' hjad hjad' hj hj' hjj z1 z2
   have hAW:=q4 B' ρ (lay a0 a (own ops i o)) w r n (fun _ _ _=>False) (fun a1 w1=>∃ρ',Le ρ ρ'∧HR X P B' ρ' h1 c1 w1∧TR ρ' nt u1 a1.tmps∧Kp hA h1 c∧c≤c1∧a1.defers=(lay a0 a (own ops i o)).defers) k1 (hTR t' q3) fun ρ' a1 w1 l1 l2 l3 l4 l5 l6=>⟨ρ',l1,l2,l3,l4,l5,l6⟩
   unfold wpOpIn
   simp only[ho]
   rw[hAg.wanted]
   have hsel:(∀cs b,o.op≠ .select cs b)∧∀c,o.op≠ .defer c:=⟨fun _ _ hh=>(by rw[hh]at hok;cases hok),fun _ hh=>(by rw[hh]at hok;cases hok)⟩
   split
   · rename_i hw
     rw[if_pos hw]at hAW
     refine wpIn_agrees hAg hsel.1 hsel.2 hAW (fun v w' ⟨ρ',l1,l2,l3,l4,l5,l6⟩=>main v w' ⟨ρ',l1,l2,l3,l4,l5⟩) fun a1 w1 ⟨ρ',l1,l2,l3,l4,l5,l6⟩=>l6
   · rename_i hw
     rw[if_neg hw]at hAW
     obtain⟨ρ',l1,l2,l3,l4,l5,l6⟩:=hAW
     exact⟨fun _ _=>trivial,main undef w ⟨ρ',l1,l2,l3,l4,l5⟩⟩
end
end Ev
end
section
namespace Ev
open Go Go.RowKit
set_option linter.unusedVariables false
set_option linter.unusedSimpArgs false
section
variable {X:Spx} {P:Program}
theorem rsv_ok:∀{n:Nat} {h:HP} {c:Nat} {k:HP→Nat→R} {v':V} {h':HP} {c':Nat},rsv n h c k=.fin v' h' c'→∃h1,k h1 (c+n)=.fin v' h' c'∧∀b ρ w,HR X P b ρ h c w→HR X P b ρ h1 (c+n) w∧Kp h h1 c
 |0,h,c,k,v',h',c',e=>⟨h,e,fun b ρ w H=>⟨H,Kp.refl _ _⟩⟩
 |n+1,h,c,k,v',h',c',e=>by
  have e0:newK .x h c (fun h c=>rsv n h c k)=.fin v' h' c':=e
  obtain⟨e1,e2⟩:=newK_fin e0
  obtain⟨h1,e3,w1⟩:=rsv_ok e2
  refine⟨h1,by rw[show c+(n+1)=c+1+n by omega];exact e3,fun b ρ w H=>?_⟩
  obtain⟨H1,k1⟩:=H.rsv e1
  obtain⟨H2,k2⟩:=w1 b ρ w H1
  rw[show c+(n+1)=c+1+n by omega]
  exact⟨H2,k1.trans k2 (by omega)⟩
theorem drawn_ok (hm:P.follows .mixedOrders=true):DrawnOK X P:=by
 intro nt one id ops f hf
 unfold cDrawn at hf
 rw[fLL_eq,fL_eq]at hf
 rcases bif_cases hf with⟨hb,hf⟩|⟨_,hf⟩
 case inr=>cases hf;exact csnd_bad
 rw[Bool.and_eq_true,fRs_eq]at hb
 obtain⟨hch,hck⟩:=hb
 have hC:=chk_ok hck
 split at hf
 case h_2=>cases hf;exact csnd_bad
 rename_i s hs
 cases hf
 obtain⟨s1,s2,hs1,hs2,rfl⟩:=sqB_mk hs
 intro cal hcal t hh cc df kn ke v' h' c' e
 have e1:rsv (slot ops ops.size) hh cc (fun h1 c1=>sqS s1 s2 t cc cal t h1 h0 c1 df fun t h _ c=>kn t h c df)=.fin v' h' c':=e
 obtain⟨h1,e2,w1⟩:=rsv_ok (X:=X) (P:=P) e1
 obtain⟨t2,e3,e4,g1,g2,g3⟩:=all_stp (X:=X) hC _ _ _ _ (ixs_lt _) (fun i hi=>by
  obtain⟨q1,q2⟩:=mem_ixs.1 hi
  simp only[Bool.and_eq_true]at q2
  exact⟨q2.1,q1⟩) hs1 e2
 have han:∀x,x∈(ixs ops fun i=> !nonA ops i)↔x<ops.size∧nonA ops x=false:=fun x=>by rw[mem_ixs];simp
 have hnd:(ixs ops fun i=> !nonA ops i).Nodup:=(ixs_lt _).imp fun h=>Nat.ne_of_lt h
 have hPk:Pk X P nt ops t cc (ixs ops fun i=> !nonA ops i) [] t2 h1 e3 (cc+slot ops ops.size):=fun i o ho hn hr _=>g1 i (mem_ixs.2 ⟨size_of ho,by simp[hn,hr]⟩) o ho
 obtain⟨tF,hF,cF,⟨_,hfin⟩,hR0⟩:=rest_fix (segs_rest (X:=X) hC hcal _ _ _ _ _ _ _ hs2 hch (fun x hx=>(by cases hx)) (fun a ha=>(han a).1 ha) hPk e4)
 refine⟨.nx,tF,hF,cF,df,hfin,fun w0 ρ a w r n Q ho hR hT hD hK=>wpIn_region_any hm ?_⟩
 have hRd:HR X P w0 ρ hh cc {w with drawn:=w.drawn+1}:=hR.same rfl rfl rfl rfl
 obtain⟨hR1,hkp⟩:=w1 _ _ _ hRd
 have hle1:=hR1.le
 have hslot:∀i,i<ops.size→erl ops i=true→slot ops i<slot ops ops.size:=fun i hi he=>slot_lt hi he
 refine any_of hC.down (fun L a' w'=>∃l ad done t' h e c ρ' B,IS X P nt ops t cc (ixs ops fun i=> !nonA ops i) w0 ρ hh cc a (fun t h c=>t=tF∧h=hF∧c=cF) l ad done t' h e c ρ' B L a' w') ?_ ?_ _ _ _ _ (by rw[cnt_rep];exact Nat.le_refl _) (by simp) (fun i hi=>?_) ?_
 · rintro L a' w' hs hall ⟨l,ad,done,t',h,e,c,ρ',B,S⟩
   cases l with
   |cons x l=>
    exfalso
    have h1:=S.nl x (by simp)
    have h2:=((han x).1 (by rw[S.an];simp)).1
    rw[hall x h2]at h1;cases h1
   |nil=>
    obtain⟨hf,q1,rfl,rfl,rfl⟩:=S.rest
    have hmem:∀j,j∈(ixs ops fun i=>erl ops i&& !elm i ad)→j<ops.size∧erl ops j=true∧j∉ad:=fun j hj=>by
     obtain⟨s1,s2⟩:=mem_ixs.1 hj
     simp only[Bool.and_eq_true,Bool.not_eq_true',elm_no]at s2
     exact⟨s1,s2.1,s2.2⟩
    obtain⟨B',k1,k2,k3,k4,k5⟩:=adopt_all _ _ _ _ q1 ((ixs_lt _).imp fun h=>Nat.ne_of_lt h) (fun j hj=>by
     obtain⟨s1,s2,s3⟩:=hmem j hj
     obtain⟨p,ty,n',z,u,z1,z2,z3,z4,z5⟩:=S.ey j s1 s2 (hall j s1) s3
     exact⟨p,ty,n',z,u,z1,z2,z4,z5⟩) (fun j hj j' hj' hjj p q hp hq=>by
     obtain⟨s1,s2,s3⟩:=hmem j hj
     obtain⟨y1,y2,y3⟩:=hmem j' hj'
     exact S.ed j j' p q s2 y2 (hall j s1) (hall j' y1) s3 y3 s1 y1 hjj hp hq) S.hr
    have hbw:Bel w0 w':=S.bb.chain S.bo S.hr.bel
    have hkp':Kp hh hf cc:=S.kp.trans k5 S.cl
    refine hK ρ' a' w' ⟨S.le,k1.back (by rw[k2];exact hbw) (fun k hk=>(k4 k).2 ⟨S.bo k hk,fun j hj p hp ee=>?_⟩) (fun k hk=>k3 k (S.bn k hk)),⟨by rw[S.sz];exact hT.1,fun i hi hi2=>?_⟩,by rw[S.df];exact hD.mono S.le hkp' S.cl,hkp',S.cl,fun k hk=> .inl hk⟩
    · obtain⟨s1,s2,s3⟩:=hmem j hj
      obtain⟨p',ty,n',z,u,z1,z2,z3,z4,z5⟩:=S.ey j s1 s2 (hall j s1) s3
      rw[hp]at z1;cases z1
      exact z3 (ee▸hk)
    · by_cases hex:∃(j:Nat) (oj:Oper),ops[j]?=some oj∧oj.dst=some i
      · obtain⟨j,oj,hj,hd⟩:=hex
        exact S.va j oj i hj hd (hall j (size_of hj)) hi2
      · have hno:∀(j:Nat) (oj:Oper),ops[j]?=some oj→oj.dst≠some i:=fun j oj hj hd=>hex ⟨j,oj,hj,hd⟩
        obtain⟨x,x1,x2⟩:=hT.2 i hi hi2
        refine⟨x,?_,?_⟩
        · rw[S.rs i fun j oj hj hd=>absurd hd (hno j oj hj)];exact x1
        · rw[S.kt i hi2 hno];exact den_mono S.le _ x2
 · rintro L a' w' i hs hDn ⟨l,ad,done,t',h,e,c,ρ',B,S⟩ hi
   refine is_step hC hT (fun k hk=>(hR.noc k hk).1) han hnd S hs hDn hi
 · rw[Array.getD_eq_getD_getElem?,Array.getElem?_replicate]at hi
   split at hi<;>cases hi
 · have hfalse:∀j,(Array.replicate ops.size false).getD j false=false:=fun j=>by
    rw[Array.getD_eq_getD_getElem?,Array.getElem?_replicate]
    split<;>rfl
   have hbase:HR X P ⟨w0.w,w0.out,w0.lt,fun k=>w0.no k∨(cc≤k∧k<cc+slot ops ops.size)⟩ ρ h1 (cc+slot ops ops.size) {w with drawn:=w.drawn+1}:=
    hR1.base ⟨hR1.bel.os,hR1.bel.tape,hR1.bel.output,hR1.bel.size,hR1.bel.block⟩ (fun k p hk hx=>(hR1.dom k p hk).2.1 hx) (fun k hk=>by
     rcases hk with hk|⟨hk1,hk2⟩
     · exact hR1.noc k hk
     · refine⟨hk2,?_⟩
       cases hrk:ρ k with
       |none=>rfl
       |some p=>have:=(hR.dom k p hrk).1;omega) fun k a A h1 h2=>(hR1.one k a A h1 h2).1
   refine⟨_,[],[],t2,h1,e3,_,ρ,_,⟨hR0,hPk,hch,fun x hx=>(by cases hx),rfl,fun x hx=>(by cases hx),fun x _=>hfalse x,fun x hx=>(by cases hx),hbase,Bel.refl w0,fun k hk=>hk,fun k hk=> .inl hk,Le.refl _,hkp,by omega,rfl,rfl,fun j oj n hj hd hL=>(by rw[hfalse]at hL;cases hL),fun n _=>rfl,fun n hn hh=>?_,fun i hi he _=> .inr ⟨by omega,by have:=hslot i hi he;omega⟩,fun i hi he hL=>(by rw[hfalse]at hL;cases hL),fun i j p q _ _ hL=>(by rw[hfalse]at hL;cases hL)⟩⟩
   exact g2 n hn fun i _ o ho=>hh i o ho
end
end Ev
end
section
namespace Ev
open Go Go.RowKit
set_option linter.unusedVariables false
set_option linter.unusedSimpArgs false
inductive Rw where
 |kn (g:Nat) (v:V)|jn (g:Nat)|ar (g:Nat) (f:List V→HP→Nat→KV→R→R)
noncomputable def arOf (x:CF) (f:List V→HP→Nat→KV→R→R):CF:=CF.rec (motive:=fun _=>CF) .no .no (fun _=> .no) (fun rs b l=> .ar f rs b l) (fun _ _ _ _=> .no) x
section
variable (P:Program) (X:Spx)
def RwOK:Rw→Prop
 | .kn g v=>KnOK P g v
 | .jn g=>JnOK P g
 | .ar g f=>ArOK P X g f
end
section
variable {P:Program} {X:Spx}
end
end Ev
end
section
namespace Ev
open Go Go.RowKit
set_option linter.unusedVariables false
set_option linter.unusedSimpArgs false
structure Trn (X:Spx) (A:Nat) (w w':World):Prop where
 os:w'.os=w.os
 tape:w'.tape=w.tape
 output:w'.output=w.output
 size:w.heap.size≤w'.heap.size
 block:∀k,k<w.heap.size→¬X.Ft A w k→w'.heap[k]?=w.heap[k]?
 news:∀k,X.Ft A w' k→X.Ft A w k∨w.heap.size≤k
section
variable {X:Spx} {P:Program} {w0:Base} {w w':World} {ρ:Rho} {h:HP} {c:Nat}
theorem HR.turn (H:HR X P w0 ρ h c w) {a:Nat} {A:Nat × Nat} {s s':AS} (ha:ρ a=some A) (hs:hget h a=.sp s) (hI:X.In A.1 s' w') (ht:Trn X A.1 w w'):HR X P w0 ρ (Ev.hs h a (.sp s')) c w'∧Kp h (Ev.hs h a (.sp s')) c:=by
 have hac:=(H.dom a A ha).1
 have hle:=H.le
 have hg:∀k,k<c→hget (Ev.hs h a (.sp s')) k=if k=a then .sp s' else hget h k:=fun k hk=>hget_hs _ h (by omega) (by omega)
 have hgx:∀k p,ρ k=some p→hget (Ev.hs h a (.sp s')) k≠ .x→hget h k≠ .x:=fun k p hk hx=>by
  rw[hg k (H.dom _ _ hk).1]at hx
  split at hx
  · rename_i e;rw[e,hs];exact Blk.noConfusion
  · exact hx
 have lie:∀k p,ρ k=some p→hget h k≠ .x→k≠a→w'.heap[p.1]?=w.heap[p.1]?:=fun k p hk hx hka=>ht.block _ (H.dom _ _ hk).2.2 (H.sep a s A hs ha k p hx hka hk)
 have hFt:∀k a' A',k≠a→hget h k=.sp a'→ρ k=some A'→X.In A'.1 a' w'∧∀j,X.Ft A'.1 w' j↔X.Ft A'.1 w j:=fun k a' A' hka hk hA'=>by
  have:=H.blk k (H.dom _ _ hA').1;rw[hk]at this
  obtain⟨q,h1,h2⟩:=this
  rw[hA']at h1;cases h1
  exact X.mv h2 fun j hj=>ht.block _ (X.lt h2 hj) fun hj'=>(H.one k a' A' hk hA').2 a s A (Ne.symm hka) hs ha j hj hj'
 have hold:∀j,X.Ft A.1 w' j→X.Ft A.1 w j∨w.heap.size≤j:=ht.news
 refine⟨⟨⟨ht.os.trans H.bel.os,ht.tape.trans H.bel.tape,ht.output.trans H.bel.output,Nat.le_trans H.bel.size ht.size,fun k hk=>(ht.block k (Nat.lt_of_lt_of_le (w0.lt k hk) H.bel.size) fun hf=>(H.one a s A hs ha).1 k hf hk).trans (H.bel.block k hk)⟩,H.le,
  fun k q hk=>⟨(H.dom k q hk).1,fun hx=>(H.dom k q hk).2.1 (hgx k q hk hx),Nat.lt_of_lt_of_le (H.dom k q hk).2.2 ht.size⟩,fun k k' q q' hk hk' h1 h2 e=>H.inj k k' q q' hk hk' (hgx _ _ hk h1) (hgx _ _ hk' h2) e,fun k hk=>?_,fun k s1 A1 hb hA k' p' hx' hne hk'=>?_,fun k s1 A1 hk hA=>⟨fun j hj hout=>?_,fun k' s2 A2 hne hk' hA' j hj hj'=>?_⟩,H.noc⟩,Kp.hs hle (by omega) fun _ hh=>by rw[hs]at hh;cases hh⟩
 · rw[hg k hk]
   split
   · rename_i e;subst e;exact⟨A,ha,hI⟩
   · rename_i hka
     by_cases hkx:hget h k=.x
     · rw[hkx];trivial
     · exact(H.blk k hk).mono (Le.refl _) (fun q hq=>lie k q hq hkx hka) fun a' q hsp hq hI'=>(hFt k a' q hka hsp hq).1
 · rw[hg k (H.dom _ _ hA).1]at hb
   have hx2:=hgx k' p' hk' hx'
   split at hb
   · rename_i e;subst e
     rw[ha]at hA;cases hA
     intro hf
     rcases hold _ hf with h1|h1
     · exact H.sep _ s A hs ha k' p' hx2 hne hk' h1
     · have:=(H.dom _ _ hk').2.2;omega
   · rename_i hka
     rw[(hFt k s1 A1 hka hb hA).2]
     exact H.sep k s1 A1 hb hA k' p' hx2 hne hk'
 · rw[hg k (H.dom _ _ hA).1]at hk
   split at hk
   · rename_i e;subst e
     rw[ha]at hA;cases hA
     rcases hold _ hj with h1|h1
     · exact(H.one _ s A hs ha).1 j h1 hout
     · have:=w0.lt j hout;have:=H.bel.size;omega
   · rename_i hka
     exact(H.one k s1 A1 hk hA).1 j (((hFt k s1 A1 hka hk hA).2 j).1 hj) hout
 · rw[hg k (H.dom _ _ hA).1]at hk
   rw[hg k' (H.dom _ _ hA').1]at hk'
   split at hk
   · rename_i e;subst e
     rw[ha]at hA;cases hA
     split at hk'
     · rename_i e;exact hne e
     · rename_i hka
       have h2:=((hFt k' s2 A2 hka hk' hA').2 j).1 hj'
       rcases hold _ hj with h1|h1
       · exact(H.one _ s A hs ha).2 k' s2 A2 hne hk' hA' j h1 h2
       · have hI2:=H.blk k' (H.dom _ _ hA').1
         rw[hk']at hI2
         obtain⟨q,q1,q2⟩:=hI2
         rw[q1]at hA';cases hA'
         have:=X.lt q2 h2;omega
   · rename_i hka
     have h1:=((hFt k s1 A1 hka hk hA).2 j).1 hj
     split at hk'
     · rename_i e;subst e
       rw[ha]at hA';cases hA'
       rcases hold _ hj' with h2|h2
       · exact(H.one k s1 A1 hk hA).2 _ s A hne hs ha j h1 h2
       · have hI2:=H.blk k (H.dom _ _ hA).1
         rw[hk]at hI2
         obtain⟨q,q1,q2⟩:=hI2
         rw[q1]at hA;cases hA
         have:=X.lt q2 h1;omega
     · rename_i hka'
       exact(H.one k s1 A1 hk hA).2 k' s2 A2 hne hk' hA' j h1 (((hFt k' s2 A2 hka' hk' hA').2 j).1 hj')
theorem HR.newsp (H:HR X P w0 ρ h c w) (hc:c≤65535) {A:Nat} {s:AS} (hb:Below w.heap.size w w') (hA:w.heap.size≤A) (hA':A<w'.heap.size) (hI:X.In A s w') (hF:∀j,X.Ft A w' j→w.heap.size≤j):
 HR X P w0 (up ρ c (A,0)) (Ev.hs h c (.sp s)) (c+1) w'∧Le ρ (up ρ c (A,0))∧Kp h (Ev.hs h c (.sp s)) c:=by
 have H1:=H.below hb
 have hg:∀k,k<c+1→hget (Ev.hs h c (.sp s)) k=if k=c then .sp s else hget h k:=fun k hk=>hget_hs _ h (by omega) (by omega)
 have hdom:∀k p,up ρ c (A,0) k=some p→(k=c∧p=(A,0))∨(k≠c∧ρ k=some p):=fun k p hk=>by
  unfold up at hk
  split at hk
  · exact .inl ⟨by assumption,(Option.some.inj hk).symm⟩
  · exact .inr ⟨by assumption,hk⟩
 have hFt:∀k a A',hget h k=.sp a→ρ k=some A'→∀j,X.Ft A'.1 w' j→j<w.heap.size:=fun k a A' hk hA' j hj=>by
  have hI2:=H.blk k (H.dom _ _ hA').1
  rw[hk]at hI2
  obtain⟨q,q1,q2⟩:=hI2
  rw[q1]at hA';cases hA'
  exact X.lt q2 (((X.mv q2 fun i hi=>hb.block i (X.lt q2 hi)).2 j).1 hj)
 refine⟨⟨H1.bel,by omega,fun k p hk=>?_,fun k k' p p' hk hk' hx hx' e=>?_,fun k hk=>?_,fun k a1 A1 hb' hA1 k' p' hx' hne hk'=>?_,fun k a1 A1 hk hA1=>⟨fun j hj hout=>?_,fun k' a2 A2 hne hk' hA2 j hj hj'=>?_⟩,H1.noc_up _⟩,H.le_up _,Kp.new H hc⟩
 · rcases hdom k p hk with⟨rfl,rfl⟩|⟨h1,h2⟩
   · exact⟨by omega,fun _ hh=>absurd (w0.lt _ hh) (by have:=H.bel.size;simp only;omega),hA'⟩
   · obtain⟨g1,g2,g3⟩:=H1.dom k p h2
     exact⟨by omega,fun hx=>g2 (by rw[hg k (by omega),if_neg h1]at hx;exact hx),g3⟩
 · rcases hdom k p hk with⟨rfl,rfl⟩|⟨h1,h2⟩<;>rcases hdom k' p' hk' with⟨rfl,rfl⟩|⟨h3,h4⟩
   · rfl
   · have:=(H.dom _ _ h4).2.2;simp only at e;omega
   · have:=(H.dom _ _ h2).2.2;simp only at e;omega
   · have d1:=(H.dom _ _ h2).1
     have d2:=(H.dom _ _ h4).1
     rw[hg k (by omega),if_neg h1]at hx
     rw[hg k' (by omega),if_neg h3]at hx'
     exact H.inj k k' p p' h2 h4 hx hx' e
 · rw[hg k hk]
   split
   · rename_i e;subst e;exact⟨(A,0),up_self _ _ _,hI⟩
   · rename_i hne
     have hk':k<c:=by omega
     exact(H1.blk k hk').mono (H.le_up _) (fun _ _=>rfl) fun _ _ _ _ hI=>hI
 · rcases hdom k A1 hA1 with⟨rfl,rfl⟩|⟨h1,h2⟩
   · rcases hdom k' p' hk' with⟨h3,_⟩|⟨h3,h4⟩
     · exact absurd h3 hne
     · intro hf
       have:=hF _ hf
       have:=(H.dom _ _ h4).2.2;omega
   · have d1:=(H.dom _ _ h2).1
     rw[hg k (by omega),if_neg h1]at hb'
     rcases hdom k' p' hk' with⟨rfl,rfl⟩|⟨h3,h4⟩
     · intro hf
       have:=hFt k a1 A1 hb' h2 _ hf;simp only at this;omega
     · have d2:=(H.dom _ _ h4).1
       rw[hg k' (by omega),if_neg h3]at hx'
       exact H1.sep k a1 A1 hb' h2 k' p' hx' hne h4
 · rcases hdom k A1 hA1 with⟨rfl,rfl⟩|⟨h1,h2⟩
   · have:=hF _ hj
     have:=w0.lt j hout;have:=H.bel.size;omega
   · have d1:=(H.dom _ _ h2).1
     rw[hg k (by omega),if_neg h1]at hk
     exact(H1.one k a1 A1 hk h2).1 j hj hout
 · rcases hdom k A1 hA1 with⟨rfl,rfl⟩|⟨h1,h2⟩<;>rcases hdom k' A2 hA2 with⟨h3,h5⟩|⟨h3,h4⟩
   · exact hne h3
   · have d2:=(H.dom _ _ h4).1
     rw[hg k' (by omega),if_neg h3]at hk'
     have:=hFt k' a2 A2 hk' h4 _ hj'
     have:=hF _ hj;omega
   · have d1:=(H.dom _ _ h2).1
     rw[hg k (by omega),if_neg h1]at hk
     subst h5
     have:=hFt k a1 A1 hk h2 _ hj
     have:=hF _ hj';omega
   · have d1:=(H.dom _ _ h2).1
     have d2:=(H.dom _ _ h4).1
     rw[hg k (by omega),if_neg h1]at hk
     rw[hg k' (by omega),if_neg h3]at hk'
     exact(H1.one k a1 A1 hk h2).2 k' a2 A2 hne hk' h4 j hj hj'
end
end Ev
end
section
namespace Ev
open Go Go.RowKit
set_option linter.unusedVariables false
set_option linter.unusedSimpArgs false
noncomputable section
def asPz (v:V) (z:R) (q:Nat→Nat→R):R:=V.rec (motive_1:=fun _=>R→(Nat→Nat→R)→R) (motive_2:=fun _=>Unit) (fun z q=>z) (fun z q=>z) (fun z q=>z) (fun z q=>z) (fun _ z q=>z) (fun _ _ z q=>z) (fun _ z q=>z) (fun _ _ _ _ _ z q=>z) (fun _ _ z q=>z) (fun _ _ z q=>z) (fun _ z q=>z) (fun _ _ _ _ _ z q=>z) (fun _ _ z q=>z) (fun _ z q=>z) (fun a o z q=>q a o) (fun _ _ z q=>z) () (fun _ _ _ _=>()) v z q
def asAz (v:V) (z:R) (q:List V→R):R:=V.rec (motive_1:=fun _=>R→(List V→R)→R) (motive_2:=fun _=>Unit) (fun z q=>z) (fun z q=>z) (fun z q=>z) (fun z q=>z) (fun _ z q=>z) (fun _ _ z q=>z) (fun _ z q=>z) (fun _ _ _ _ _ z q=>z) (fun _ _ z q=>z) (fun l _ z q=>q l) (fun _ z q=>z) (fun _ _ _ _ _ z q=>z) (fun _ _ z q=>z) (fun _ z q=>z) (fun _ _ z q=>z) (fun _ _ z q=>z) () (fun _ _ _ _=>()) v z q
def asNz (v:V) (z:R) (q:Nat→Nat→R):R:=V.rec (motive_1:=fun _=>R→(Nat→Nat→R)→R) (motive_2:=fun _=>Unit) (fun z q=>z) (fun z q=>z) (fun z q=>z) (fun z q=>z) (fun _ z q=>z) (fun _ _ z q=>z) (fun _ z q=>z) (fun _ _ _ _ _ z q=>z) (fun _ _ z q=>z) (fun _ _ z q=>z) (fun _ z q=>z) (fun _ _ _ _ _ z q=>z) (fun _ _ z q=>z) (fun _ z q=>z) (fun _ _ z q=>z) (fun k m z q=>q k m) () (fun _ _ _ _=>()) v z q
def asSz (v:V) (z:R) (q:List Nat→R):R:=V.rec (motive_1:=fun _=>R→(List Nat→R)→R) (motive_2:=fun _=>Unit) (fun z q=>z) (fun z q=>z) (fun z q=>z) (fun z q=>z) (fun _ z q=>z) (fun _ _ z q=>z) (fun _ z q=>z) (fun _ _ _ _ _ z q=>z) (fun _ _ z q=>z) (fun _ _ z q=>z) (fun l z q=>q l) (fun _ _ _ _ _ z q=>z) (fun _ _ z q=>z) (fun _ z q=>z) (fun _ _ z q=>z) (fun _ _ z q=>z) () (fun _ _ _ _=>()) v z q
def spB (b:Blk) (z:R) (q:AS→R):R:=Blk.rec (motive:=fun _=>R→(AS→R)→R) (fun z _=>z) (fun z _=>z) (fun s _ q=>q s) (fun _ _ _ _ z _=>z) (fun _ _ _ _ _ z _=>z) (fun _ _ _ _ z _=>z) (fun _ _ _ z _=>z) b z q
def aS (s:AS) (q:Nat→List Nat→Nat→Bool→Nat→R):R:=AS.rec (motive:=fun _=>(Nat→List Nat→Nat→Bool→Nat→R)→R) (fun n es m r f q=>q n es m r f) s q
def l1 (l:List V) (z:R) (q:V→List V→R):R:=List.rec (motive:=fun _=>R→(V→List V→R)→R) (fun z _=>z) (fun v l _ _ q=>q v l) l z q
def l0 (l:List V) (z:R) (q:R):R:=List.rec (motive:=fun _=>R→R→R) (fun _ q=>q) (fun _ _ _ z _=>z) l z q
def nK (kd:Nat) (v:V) (z:R) (q:Nat→R):R:=asNz v z fun k m=>ifT (Nat.beq k kd) (q m) z
def n3 (v:V) (z:R) (q:Nat→R):R:=nK (nat_lit 3) v z q
def iff (b:Bool) (z:R) (q:R):R:=ifT b q z
def pA (v:V) (h:HP) (z:R) (q:Nat→AS→R):R:=asPz v z fun a o=>iff (Nat.beq o (nat_lit 0)) z (spB (hget h a) z fun s=>q a s)
def vA (v:V) (h:HP) (z:R) (q:Nat→AS→Nat→Nat→R):R:=asAz v z fun l=>l1 l z fun x l=>l1 l z fun y l=>l1 l z fun w l=>l0 l z (pA x h z fun a s=>n3 y z fun va=>n3 w z fun vs=>q a s va vs)
def pgs (es:List Nat) (x y:Nat):Bool:=List.rec (motive:=fun _=>Bool→Nat→Nat→Nat→Bool) (fun _ _ _ _=>false) (fun e _ ih b lo x y=>Bool.rec (motive:=fun _=>Bool) (ih true e x y) (ifT (Nat.ble lo x) (ifT (Nat.blt y e) true (ih false e x y)) false) b) es false (nat_lit 0) x y
def thr (n:Nat) (es:List Nat) (a k:Nat):Bool:=ifT (Nat.ble (Nat.add a k) (Nat.mul n (nat_lit 4096))) (ifT (Nat.beq k (nat_lit 0)) true (pgs es (Nat.div a (nat_lit 4096)) (Nat.div (Nat.sub (Nat.add a k) (nat_lit 1)) (nat_lit 4096)))) false
def p8 (k:Nat):Nat:=Nat.pow (nat_lit 2) (Nat.mul (nat_lit 8) k)
def gW (m a k:Nat):Nat:=Nat.mod (Nat.shiftRight m (Nat.mul (nat_lit 8) a)) (p8 k)
def sW (m a k x:Nat):Nat:=Nat.lor (Nat.lor (Nat.shiftLeft (Nat.shiftRight m (Nat.mul (nat_lit 8) (Nat.add a k))) (Nat.mul (nat_lit 8) (Nat.add a k))) (Nat.shiftLeft x (Nat.mul (nat_lit 8) a))) (Nat.mod m (p8 a))
def byL (k:Nat):Nat→List Nat:=Nat.rec (motive:=fun _=>Nat→List Nat) (fun _=>[]) (fun _ ih x=>Nat.mod x (nat_lit 256)::ih (Nat.div x (nat_lit 256))) k
def nuL (l:List Nat):Nat:=List.rec (motive:=fun _=>Nat) (nat_lit 0) (fun y _ ih=>Nat.add (Nat.mod y (nat_lit 256)) (Nat.mul (nat_lit 256) ih)) l
def reN (k y:Nat):Nat:=Nat.rec (motive:=fun _=>Nat) (nat_lit 0) (fun _ ih=>Nat.add (Nat.mod y (nat_lit 256)) (Nat.mul (nat_lit 256) ih)) k
def reZ (k y:Nat):Nat:=ifT (Nat.beq y (nat_lit 0)) (nat_lit 0) (reN k y)
def whl (k:Nat):Bool:=ifT (Nat.beq k (nat_lit 1)) true (ifT (Nat.beq k (nat_lit 2)) true (ifT (Nat.beq k (nat_lit 4)) true (Nat.beq k (nat_lit 8))))
def okV:V:=.i (nat_lit 3) (nat_lit 0)
def aLd (s:AS) (p k:Nat) (z:R) (q:Nat→R):R:=aS s fun n es m _ _=>iff (whl k) z (iff (thr n es p k) z (fN (gW m p k) q))
def aBy (s:AS) (p k:Nat) (z:R) (q:List Nat→R):R:=aS s fun n es m _ _=>iff (thr n es p k) z (fL (byL k (gW m p k)) q)
def aWr (s:AS) (p k x:Nat) (z:R) (q:AS→R):R:=aS s fun n es m r f=>iff (thr n es p k) z (fN (sW m p k x) fun m=>q (.mk n es m r f))
def aTh (s:AS) (p k:Nat) (z:R) (q:R):R:=aS s fun n es _ _ _=>iff (thr n es p k) z q
def aCp (s:AS) (p r k:Nat) (z:R) (q:AS→R):R:=aS s fun n es m _ _=>iff (thr n es r k) z (aWr s p k (gW m r k) z q)
def adr (va vs a k:Nat) (z:R) (q:Nat→R):R:=iff (Nat.ble (Nat.add a k) vs) z (iff (Nat.ble va (nat_lit 4294967296)) z (iff (Nat.ble vs (nat_lit 4294967296)) z (fN (Nat.add va a) q)))
abbrev AF:=List V→HP→Nat→KV→R→R
def xVLoad:AF:=fun l h c k z=>l1 l z fun v l=>vA v h z fun _ s va vs=>l1 l z fun x l=>n3 x z fun a=>l1 l z fun y l=>l0 l z (n3 y z fun n=>adr va vs a n z fun p=>aLd s p n z fun x=>k (.tu [.i (nat_lit 7) x,okV]) h c)
def xVStore:AF:=fun l h c k z=>l1 l z fun v l=>vA v h z fun A s va vs=>l1 l z fun x l=>n3 x z fun a=>l1 l z fun y l=>n3 y z fun n=>l1 l z fun w l=>l0 l z (nK (nat_lit 7) w z fun x=>adr va vs a n z fun p=>iff (whl n) z (aWr s p n (Nat.mod x (p8 n)) z fun s=>hset (.sp s) h A fun h=>k okV h c))
def xVBytes:AF:=fun l h c k z=>l1 l z fun v l=>vA v h z fun _ s va vs=>l1 l z fun x l=>n3 x z fun a=>l1 l z fun y l=>l0 l z (n3 y z fun n=>adr va vs a n z fun p=>aBy s p n z fun x=>k (.tu [.s x,okV]) h c)
def xVPut:AF:=fun l h c k z=>l1 l z fun v l=>vA v h z fun A s va vs=>l1 l z fun x l=>n3 x z fun a=>l1 l z fun y l=>l0 l z (asSz y z fun b=>adr va vs a (len b) z fun p=>aWr s p (len b) (nuL b) z fun s=>hset (.sp s) h A fun h=>k okV h c)
def xVFill:AF:=fun l h c k z=>l1 l z fun v l=>vA v h z fun A s va vs=>l1 l z fun x l=>n3 x z fun a=>l1 l z fun y l=>n3 y z fun n=>l1 l z fun w l=>l0 l z (nK (nat_lit 4) w z fun x=>iff (Nat.blt x (nat_lit 256)) z (adr va vs a n z fun p=>aWr s p n (reZ n x) z fun s=>hset (.sp s) h A fun h=>k okV h c))
def xVCopy:AF:=fun l h c k z=>l1 l z fun v l=>vA v h z fun A s va vs=>l1 l z fun x l=>n3 x z fun a=>l1 l z fun y l=>n3 y z fun b=>l1 l z fun w l=>l0 l z (n3 w z fun n=>adr va vs a n z fun p=>adr va vs b n z fun q=>iff (Nat.beq p q) (aCp s p q n z fun s=>hset (.sp s) h A fun h=>k okV h c) z)
def xVPart:AF:=fun l h c k z=>l1 l z fun v l=>vA v h z fun A s va vs=>l1 l z fun x l=>n3 x z fun a=>l1 l z fun y l=>l0 l z (n3 y z fun n=>adr va vs a n z fun p=>aTh s p n z (k (.tu [.ag [.p A (nat_lit 0),.i (nat_lit 3) p,.i (nat_lit 3) n],okV]) h c))
def xOf:AF:=fun l h c k z=>l1 l z fun v l=>pA v h z fun A s=>l1 l z fun x l=>n3 x z fun p=>l1 l z fun y l=>l0 l z (n3 y z fun n=>aTh s p n z (k (.tu [.ag [.p A (nat_lit 0),.i (nat_lit 3) p,.i (nat_lit 3) n],okV]) h c))
def xALoad:AF:=fun l h c k z=>l1 l z fun v l=>pA v h z fun _ s=>l1 l z fun x l=>n3 x z fun p=>l1 l z fun y l=>l0 l z (n3 y z fun n=>aLd s p n z fun x=>k (.tu [.i (nat_lit 7) x,okV]) h c)
def xAStore:AF:=fun l h c k z=>l1 l z fun v l=>pA v h z fun A s=>l1 l z fun x l=>n3 x z fun p=>l1 l z fun y l=>n3 y z fun n=>l1 l z fun w l=>l0 l z (nK (nat_lit 7) w z fun x=>iff (whl n) z (aWr s p n (Nat.mod x (p8 n)) z fun s=>hset (.sp s) h A fun h=>k okV h c))
def xABytes:AF:=fun l h c k z=>l1 l z fun v l=>pA v h z fun _ s=>l1 l z fun x l=>n3 x z fun p=>l1 l z fun y l=>l0 l z (n3 y z fun n=>aBy s p n z fun x=>k (.tu [.s x,okV]) h c)
def xAPut:AF:=fun l h c k z=>l1 l z fun v l=>pA v h z fun A s=>l1 l z fun x l=>n3 x z fun p=>l1 l z fun y l=>l0 l z (asSz y z fun b=>aWr s p (len b) (nuL b) z fun s=>hset (.sp s) h A fun h=>k okV h c)
def xAFill:AF:=fun l h c k z=>l1 l z fun v l=>pA v h z fun A s=>l1 l z fun x l=>n3 x z fun p=>l1 l z fun y l=>n3 y z fun n=>l1 l z fun w l=>l0 l z (nK (nat_lit 4) w z fun x=>iff (Nat.blt x (nat_lit 256)) z (aWr s p n (reZ n x) z fun s=>hset (.sp s) h A fun h=>k okV h c))
def xACopy:AF:=fun l h c k z=>l1 l z fun v l=>pA v h z fun A s=>l1 l z fun x l=>n3 x z fun p=>l1 l z fun y l=>n3 y z fun q=>l1 l z fun w l=>l0 l z (n3 w z fun n=>iff (Nat.beq p q) (aCp s p q n z fun s=>hset (.sp s) h A fun h=>k okV h c) (aTh s p n z (k okV h c)))
def xACap:AF:=fun l h c k z=>l1 l z fun v l=>l0 l z (pA v h z fun _ s=>aS s fun n _ _ _ _=>k (.i (nat_lit 3) n) h c)
def xANew:AF:=fun l h c k z=>l1 l z fun v l=>l0 l z (n3 v z fun n=>iff (Nat.ble n (nat_lit 1048576)) z (newK (.sp (.mk n [] (nat_lit 0) false (nat_lit 0))) h c fun h c'=>k (.p c (nat_lit 0)) h c'))
end
section
variable {v w:V} {z:R} {h:HP} {c:Nat} {b:Blk} {l:List V}
theorem asPz_or {q:Nat→Nat→R}:asPz v z q=z∨∃a o,v=.p a o∧asPz v z q=q a o:=by cases v<;>first|exact .inl rfl|exact .inr ⟨_,_,rfl,rfl⟩
theorem asSz_or {q:List Nat→R}:asSz v z q=z∨∃l,v=.s l∧asSz v z q=q l:=by cases v<;>first|exact .inl rfl|exact .inr ⟨_,rfl,rfl⟩
theorem asNz_or {q:Nat→Nat→R}:asNz v z q=z∨∃k m,v=.i k m∧asNz v z q=q k m:=by cases v<;>first|exact .inl rfl|exact .inr ⟨_,_,rfl,rfl⟩
theorem spB_or {q:AS→R}:spB b z q=z∨∃s,b=.sp s∧spB b z q=q s:=by cases b<;>first|exact .inl rfl|exact .inr ⟨_,rfl,rfl⟩
theorem l1_or {q:V→List V→R}:l1 l z q=z∨∃v r,l=v::r∧l1 l z q=q v r:=by cases l<;>first|exact .inl rfl|exact .inr ⟨_,_,rfl,rfl⟩
theorem l0_or {q:R}:l0 l z q=z∨(l=[]∧l0 l z q=q):=by cases l<;>first|exact .inl rfl|exact .inr ⟨rfl,rfl⟩
theorem iff_or {b:Bool} {q:R}:iff b z q=z∨(b=true∧iff b z q=q):=by cases b<;>first|exact .inl rfl|exact .inr ⟨rfl,rfl⟩
theorem iff_or' {b:Bool} {q:R}:(b=false∧iff b z q=z)∨(b=true∧iff b z q=q):=by cases b<;>first|exact .inl ⟨rfl,rfl⟩|exact .inr ⟨rfl,rfl⟩
theorem nK_or {kd:Nat} {q:Nat→R}:nK kd v z q=z∨∃m,v=.i kd m∧nK kd v z q=q m:=by
 unfold nK
 rcases asNz_or (v:=v) (z:=z) (q:=fun k m=>ifT (Nat.beq k kd) (q m) z)with h|⟨k,m,rfl,h⟩
 · exact .inl h
 · rw[h]
   cases hb:Nat.beq k kd with
   |false=>exact .inl rfl
   |true=>rw[Nat.eq_of_beq_eq_true hb];exact .inr ⟨m,rfl,rfl⟩
theorem pA_or {q:Nat→AS→R}:pA v h z q=z∨∃a s,v=.p a 0∧hget h a=.sp s∧pA v h z q=q a s:=by
 unfold pA
 rcases asPz_or (v:=v) (z:=z) (q:=fun a o=>iff (Nat.beq o (nat_lit 0)) z (spB (hget h a) z fun s=>q a s))with e|⟨a,o,rfl,e⟩
 · exact .inl e
 · rw[e]
   rcases iff_or' (b:=Nat.beq o (nat_lit 0)) (z:=z) (q:=spB (hget h a) z fun s=>q a s)with⟨_,e⟩|⟨e0,e⟩
   · rw[e];exact .inl rfl
   · rw[e]
     have:o=0:=Nat.eq_of_beq_eq_true e0
     subst this
     rcases spB_or (b:=hget h a) (z:=z) (q:=fun s=>q a s)with e|⟨s,hs,e⟩
     · exact .inl e
     · exact .inr ⟨a,s,rfl,hs,e⟩
theorem vA_or {q:Nat→AS→Nat→Nat→R}:vA v h z q=z∨∃a s va vs,v=.ag [.p a 0,.i 3 va,.i 3 vs]∧hget h a=.sp s∧vA v h z q=q a s va vs:=by
 unfold vA n3
 cases v with
 |ag l=>
  match l with
  |[]=>exact .inl rfl
  |[_]=>exact .inl rfl
  |[_,_]=>exact .inl rfl
  |_::_::_::_::_=>exact .inl rfl
  |[x,y,w]=>
   show pA x h z _=z∨∃a s va vs,_∧_∧pA x h z _=_
   rcases pA_or (v:=x) (h:=h) (z:=z) (q:=fun a s=>nK 3 y z fun va=>nK 3 w z fun vs=>q a s va vs)with e|⟨a,s,rfl,hs,e⟩
   · exact .inl e
   · rw[e]
     rcases nK_or (kd:=3) (v:=y) (z:=z) (q:=fun va=>nK 3 w z fun vs=>q a s va vs)with e|⟨va,rfl,e⟩
     · exact .inl e
     · rw[e]
       rcases nK_or (kd:=3) (v:=w) (z:=z) (q:=fun vs=>q a s va vs)with e|⟨vs,rfl,e⟩
       · exact .inl e
       · exact .inr ⟨a,s,va,vs,rfl,hs,e⟩
 |_=>exact .inl rfl
theorem adr_or {va vs a k:Nat} {q:Nat→R}:adr va vs a k z q=z∨(a+k≤vs∧va≤4294967296∧vs≤4294967296∧adr va vs a k z q=q (va+a)):=by
 unfold adr
 rcases iff_or' (b:=Nat.ble (Nat.add a k) vs) (z:=z) (q:=iff (Nat.ble va (nat_lit 4294967296)) z (iff (Nat.ble vs (nat_lit 4294967296)) z (fN (Nat.add va a) q)))with⟨_,e⟩|⟨h1,e⟩
 · exact .inl e
 rcases iff_or' (b:=Nat.ble va (nat_lit 4294967296)) (z:=z) (q:=iff (Nat.ble vs (nat_lit 4294967296)) z (fN (Nat.add va a) q))with⟨_,e2⟩|⟨h2,e2⟩
 · exact .inl (e.trans e2)
 rcases iff_or' (b:=Nat.ble vs (nat_lit 4294967296)) (z:=z) (q:=fN (Nat.add va a) q)with⟨_,e3⟩|⟨h3,e3⟩
 · exact .inl (e.trans (e2.trans e3))
 exact .inr ⟨Nat.le_of_ble_eq_true h1,Nat.le_of_ble_eq_true h2,Nat.le_of_ble_eq_true h3,(e.trans (e2.trans e3)).trans fN_eq⟩
end
def byM (m i:Nat):UInt8:=UInt8.ofNat (m>>>(8*i))
theorem ofNat_eq {a b:Nat} (h:∀j,j<8→a.testBit j=b.testBit j):UInt8.ofNat a=UInt8.ofNat b:=by
 apply UInt8.toNat_inj.1
 simp only[UInt8.toNat_ofNat']
 apply Nat.eq_of_testBit_eq
 intro j
 rw[Nat.testBit_mod_two_pow,Nat.testBit_mod_two_pow]
 by_cases hj:j<8
 · rw[h j hj]
 · simp[hj]
theorem gW_eq (m a k:Nat):gW m a k=(m>>>(8*a))%2^(8*k):=rfl
theorem sW_eq (m a k x:Nat):sW m a k x=(((m>>>(8*(a+k)))<<<(8*(a+k)))|||(x<<<(8*a)))|||(m%2^(8*a)):=rfl
theorem byM_gW (m a k j:Nat) (hj:j<k):byM (gW m a k) j=byM m (a+j):=by
 refine ofNat_eq fun b hb=>?_
 rw[gW_eq,Nat.testBit_shiftRight,Nat.testBit_mod_two_pow,Nat.testBit_shiftRight,Nat.testBit_shiftRight]
 rw[decide_eq_true (by omega),Bool.true_and]
 congr 1;omega
theorem byM_sW (m a k x i:Nat) (hx:x<2^(8*k)):byM (sW m a k x) i=if a≤i∧i<a+k then byM x (i-a)else byM m i:=by
 have ht:∀j,(sW m a k x).testBit j=if 8*a≤j∧j<8*(a+k)then x.testBit (j-8*a)else m.testBit j:=fun j=>by
  rw[sW_eq,Nat.testBit_or,Nat.testBit_or,Nat.testBit_shiftLeft,Nat.testBit_shiftLeft,Nat.testBit_shiftRight,Nat.testBit_mod_two_pow]
  by_cases h1:j<8*a
  · rw[if_neg (by omega)]
    simp[h1,show¬8*(a+k)≤j by omega,show¬8*a≤j by omega]
  · by_cases h2:j<8*(a+k)
    · rw[if_pos ⟨by omega,h2⟩]
      simp[h1,show¬8*(a+k)≤j by omega,show 8*a≤j by omega]
    · rw[if_neg (by omega)]
      have:x.testBit (j-8*a)=false:=Nat.testBit_lt_two_pow (Nat.lt_of_lt_of_le hx (Nat.pow_le_pow_right (by decide) (by omega)))
      simp[h1,this,show 8*(a+k)≤j by omega,show 8*(a+k)+(j-8*(a+k))=j by omega]
 split
 · rename_i h
   refine ofNat_eq fun b hb=>?_
   rw[Nat.testBit_shiftRight,Nat.testBit_shiftRight,ht,if_pos (by omega)]
   congr 1;omega
 · rename_i h
   refine ofNat_eq fun b hb=>?_
   rw[Nat.testBit_shiftRight,Nat.testBit_shiftRight,ht,if_neg (by omega)]
theorem gW_lt (m a k:Nat):gW m a k<2^(8*k):=Nat.mod_lt _ (Nat.two_pow_pos _)
theorem nuL_lt:∀l:List Nat,nuL l<2^(8*l.length)
 |[]=>by simp[nuL]
 |y::l=>by
  have h1:=nuL_lt l
  show y%256+256*nuL l<_
  have h2:y%256<256:=Nat.mod_lt _ (by decide)
  rw[List.length_cons,show 8*(l.length+1)=8*l.length+8 by omega,Nat.pow_add]
  omega
theorem byM_nuL:∀(l:List Nat) (j:Nat),j<l.length→byM (nuL l) j=UInt8.ofNat (l.getD j 0)
 |[],_,h=>by simp at h
 |y::l,0,_=>by
  show UInt8.ofNat ((y%256+256*nuL l)>>>(8*0))=UInt8.ofNat y
  apply UInt8.toNat_inj.1
  simp only[UInt8.toNat_ofNat',Nat.mul_zero,Nat.shiftRight_zero]
  omega
 |y::l,j+1,h=>by
  rw[List.getD_cons_succ,←byM_nuL l j (by simpa using h)]
  show UInt8.ofNat ((y%256+256*nuL l)>>>(8*(j+1)))=UInt8.ofNat (nuL l>>>(8*j))
  have:(y%256+256*nuL l)>>>(8*(j+1))=nuL l>>>(8*j):=by
   rw[show 8*(j+1)=8+8*j by omega,Nat.shiftRight_add,Nat.shiftRight_eq_div_pow _ 8]
   congr 1
   omega
  rw[this]
theorem reN_eq (y:Nat):∀k,reN k y=nuL (List.replicate k y)
 |0=>rfl
 |k+1=>by
  show y%256+256*reN k y=_
  rw[reN_eq y k];rfl
theorem nuL_zero:∀k,nuL (List.replicate k 0)=0
 |0=>rfl
 |k+1=>by
  show 0%256+256*nuL (List.replicate k 0)=0
  rw[nuL_zero k]
theorem reZ_eq (k y:Nat):reZ k y=nuL (List.replicate k y):=by
 unfold reZ
 cases h:Nat.beq y (nat_lit 0)with
 |true=>
  have:y=0:=Nat.eq_of_beq_eq_true h
  subst this
  rw[nuL_zero];rfl
 |false=>exact reN_eq y k
theorem byL_map:∀(k x:Nat),(byL k x).map UInt8.ofNat=(List.range k).map fun j=>byM x j
 |0,x=>rfl
 |k+1,x=>by
  show UInt8.ofNat (x%256)::(byL k (x/256)).map UInt8.ofNat=_
  rw[byL_map k,List.range_succ_eq_map,List.map_cons,List.map_map]
  congr 1
  · apply UInt8.toNat_inj.1
    simp only[byM,UInt8.toNat_ofNat',Nat.mul_zero,Nat.shiftRight_zero]
    omega
  · refine List.map_congr_left fun j _=>?_
    show UInt8.ofNat ((x/256)>>>(8*j))=UInt8.ofNat (x>>>(8*(j+1)))
    rw[show 8*(j+1)=8+8*j by omega,Nat.shiftRight_add,Nat.shiftRight_eq_div_pow _ 8]
theorem gW_succ (m a k:Nat):gW m a (k+1)=gW m a k+(byM m (a+k)).toNat*2^(8*k):=by
 rw[gW_eq,gW_eq,show 8*(k+1)=8*k+8 by omega,Nat.pow_add,Nat.mod_mul]
 congr 1
 rw[Nat.mul_comm]
 congr 1
 show _=(UInt8.ofNat (m>>>(8*(a+k)))).toNat
 rw[UInt8.toNat_ofNat',←Nat.shiftRight_eq_div_pow,←Nat.shiftRight_add]
 congr 2;omega
theorem whl_iff {k:Nat} (h:whl k=true):k=1∨k=2∨k=4∨k=8:=by
 unfold whl at h
 cases h1:Nat.beq k 1 with
 |true=>exact .inl (Nat.eq_of_beq_eq_true h1)
 |false=>
  cases h2:Nat.beq k 2 with
  |true=>exact .inr (.inl (Nat.eq_of_beq_eq_true h2))
  |false=>
   cases h4:Nat.beq k 4 with
   |true=>exact .inr (.inr (.inl (Nat.eq_of_beq_eq_true h4)))
   |false=>
    have h8:Nat.beq k 8=true:=by
     have e:whl k=ifT (Nat.beq k 1) true (ifT (Nat.beq k 2) true (ifT (Nat.beq k 4) true (Nat.beq k 8))):=rfl
     rw[h1,h2,h4]at e
     exact e.symm.trans h
    exact .inr (.inr (.inr (Nat.eq_of_beq_eq_true h8)))
theorem thr_iff {n:Nat} {es:List Nat} {a k:Nat} (h:thr n es a k=true):a+k≤n*4096∧(k=0∨pgs es (a/4096) ((a+k-1)/4096)=true):=by
 have e:thr n es a k=ifT (Nat.ble (a+k) (n*4096)) (ifT (Nat.beq k 0) true (pgs es (a/4096) ((a+k-1)/4096))) false:=rfl
 rw[e]at h
 cases h1:Nat.ble (a+k) (n*4096)with
 |false=>rw[h1]at h;cases h
 |true=>
  rw[h1]at h
  refine⟨Nat.le_of_ble_eq_true h1,?_⟩
  cases h2:Nat.beq k 0 with
  |true=>exact .inl (Nat.eq_of_beq_eq_true h2)
  |false=>rw[h2]at h;exact .inr h
end Ev
end
section
namespace Ev
open Go Go.RowKit
set_option linter.unusedVariables false
set_option linter.unusedSimpArgs false
noncomputable def andB (a b:Bool):Bool:=Bool.rec (motive:=fun _=>Bool) false b a
theorem andB_iff {a b:Bool} (h:andB a b=true):a=true∧b=true:=by cases a with|true=>exact⟨rfl,h⟩|false=>exact Bool.noConfusion (show false=true from h)
noncomputable def isT (v:V):Bool:=V.rec (motive_1:=fun _=>Bool) (motive_2:=fun _=>Unit) false false false false (fun _=>false) (fun _ _=>false) (fun _=>false) (fun _ _ _ _ _=>false) (fun _ _=>false) (fun _ _=>false) (fun _=>false) (fun _ _ _ _ _=>false) (fun _ _=>false) (fun b=>b) (fun _ _=>false) (fun _ _=>false) () (fun _ _ _ _=>()) v
theorem isT_eq {v:V} (h:isT v=true):v=.b true:=by
 cases v with
 |b x=>cases x with|true=>rfl|false=>exact Bool.noConfusion (show false=true from h)
 |_=>exact Bool.noConfusion (show false=true from h)
def GlW (g ty:Nat) (l:List Nat) (w:World):Prop:=w.heap[g]?=some (.cells (l.map fun m=>Value.int .i64 (Int.ofNat m)).toArray ty (0,0))
def Base.but (w:World) (g:Nat):Base:=⟨w,fun k=>k<w.heap.size∧k≠g,fun _ h=>h.1,fun _=>False⟩
def KnG (P:Program) (g ty:Nat) (l:List Nat) (f:Nat):Prop:=∀w,GlW g ty l w→Calls P f #[] w fun e w'=>e=.returned (.bool true)∧Below w.heap.size w w'
section
variable {X:Spx} {P:Program} {g ty:Nat} {l:List Nat}
theorem HR.initG {w:World} (hg:GlW g ty l w):HR X P (Base.but w g) (fun k=>if k=0 then some (g,0)else none) (Ev.hs h0 0 (.gv g ty l)) 1 w:=by
 have h0':hget (Ev.hs h0 0 (.gv g ty l)) 0=.gv g ty l:=by rw[hget_hs _ _ (by omega) (by omega),if_pos rfl]
 have hd:∀k p,(if k=0 then some (g,0)else none:Option (Nat × Nat))=some p→k=0∧p=(g,0):=fun k p h=>by
  split at h
  · cases h;exact⟨by assumption,rfl⟩
  · cases h
 refine⟨⟨rfl,rfl,rfl,Nat.le_refl _,fun _ _=>rfl⟩,by omega,fun k p h=>?_,fun k k' p p' h h' _ _ _=>?_,fun k hk=>?_,fun k a A h hA=>?_,fun k a A h hA=>?_,fun k h=>h.elim⟩
 · obtain⟨rfl,rfl⟩:=hd k p h
   exact⟨by omega,fun _ ho=>ho.2 rfl,(Array.getElem?_eq_some_iff.1 hg).1⟩
 · rw[(hd k p h).1,(hd k' p' h').1]
 · have:k=0:=by omega
   subst this
   rw[h0']
   exact⟨(g,0),if_pos rfl,rfl,hg⟩
 · obtain⟨rfl,_⟩:=hd k A hA
   rw[h0']at h;cases h
 · obtain⟨rfl,_⟩:=hd k A hA
   rw[h0']at h;cases h
end
def TbOK (P:Program) (b:T CF):Prop:=∀j,T.get CF.no b j=.no∨T.get CF.no b j=T.get CF.no (table P) j
noncomputable def tabL (b:T CF) (l:List (Nat × CF)):T CF:=List.rec (motive:=fun _=>T CF) b (fun p _ ih=>T.setK .no p.2 ih p.1 fun t=>t) l
noncomputable def ftL (b:T CF):List Rw→T CF
 |[]=>b
 | .kn g v::l=>T.setK .no (.kn v) (ftL b l) g fun t=>t
 | .jn g::l=>T.setK .no .jn (ftL b l) g fun t=>t
 | .ar g f::l=>T.setK .no (arOf (T.get .no b g) f) (ftL b l) g fun t=>t
noncomputable def okK (v:V):R:=ifT (isT v) (.fin (.b true) h0 (nat_lit 0)) (.bad (nat_lit 1))
noncomputable def runK (ft:T CF) (n f:Nat):R:=callN slots ft n (.f f [] []) [] h0 (nat_lit 0) fun v _ _=>okK v
section
variable {P:Program} {X:Spx}
theorem tabL_ok {b:T CF} (hb:TbOK P b):∀{l:List (Nat × CF)},(∀p∈l,T.get CF.no (table P) p.1=p.2)→TbOK P (tabL b l)
 |[],_=>hb
 |p::l,h=>fun j=>by
  have ih:=tabL_ok hb (l:=l) (fun x hx=>h x (List.mem_cons_of_mem _ hx)) j
  have e:T.get CF.no (tabL b (p::l)) j=if j=p.1 then p.2 else T.get CF.no (tabL b l) j:=get_setK _ _ _
  rw[e]
  split
  · rename_i e;subst e;exact .inr (h p (by simp)).symm
  · exact ih
theorem ftL_ok {b:T CF} (hb:TbOK P b):∀{l:List Rw},(∀r∈l,RwOK P X r)→FTok P X (ftL b l)
 |[],_=>fun j=>by
  show _∧_
  rcases hb j with h|h
  · show(∀rs b' r,T.get CF.no b j=.fn rs b' r→_)∧_
    refine⟨fun _ _ _ hh=>?_,fun _ hh=>?_,fun hh=>?_,fun _ _ _ _ hh=>?_⟩<;>· exact absurd (h.symm.trans hh) (by intro h;cases h)
  · have ht:=table_ok P X j
    refine⟨fun rs b' r hh=>ht.1 rs b' r (h▸hh),fun v hh=>ht.2.1 v (h▸hh),fun hh=>ht.2.2.1 (h▸hh),fun f rs b' r hh=>ht.2.2.2 f rs b' r (h▸hh)⟩
 |r::l,h=>fun j=>by
  have ih:=ftL_ok hb (l:=l) (fun x hx=>h x (List.mem_cons_of_mem _ hx)) j
  have hr:=h r (by simp)
  cases r with
  |kn g v=>
   have e:T.get CF.no (ftL b (.kn g v::l)) j=if j=g then .kn v else T.get CF.no (ftL b l) j:=get_setK _ _ _
   rw[e]
   split
   · rename_i e;subst e
     exact⟨fun _ _ _ hh=>(by cases hh),fun v hh=>(by cases hh;exact hr),fun hh=>(by cases hh),fun _ _ _ _ hh=>(by cases hh)⟩
   · exact ih
  |jn g=>
   have e:T.get CF.no (ftL b (.jn g::l)) j=if j=g then .jn else T.get CF.no (ftL b l) j:=get_setK _ _ _
   rw[e]
   split
   · rename_i e;subst e
     exact⟨fun _ _ _ hh=>(by cases hh),fun v hh=>(by cases hh),fun _=>hr,fun _ _ _ _ hh=>(by cases hh)⟩
   · exact ih
  |ar g f=>
   have e:T.get CF.no (ftL b (.ar g f::l)) j=if j=g then arOf (T.get .no b g) f else T.get CF.no (ftL b l) j:=get_setK _ _ _
   rw[e]
   split
   · rename_i e;subst e
     have ht:=table_ok P X j
     cases hT:T.get CF.no b j with
     |fn rs b' r=>
      refine⟨fun _ _ _ hh=>(by cases hh),fun v hh=>(by cases hh),fun hh=>(by cases hh),fun f' rs' b' r' hh=>?_⟩
      cases hh
      rcases hb j with h1|h1
      · rw[hT]at h1;cases h1
      · obtain⟨fn,h1,h2⟩:=ht.1 _ _ _ (h1▸hT)
        exact⟨fn,h1,h2,hr⟩
     |_=>exact⟨fun _ _ _ hh=>(by cases hh),fun v hh=>(by cases hh),fun hh=>(by cases hh),fun _ _ _ _ hh=>(by cases hh)⟩
   · exact ih
theorem okK_fin {v v':V} {h':HP} {c':Nat} (e:okK v=.fin v' h' c'):v=.b true:=by
 unfold okK at e
 cases hb:isT v with
 |false=>rw[hb]at e;cases (show R.bad 1=_ from e)
 |true=>exact isT_eq hb
theorem kn_ofK (hm:P.follows .mixedOrders=true) {b:T CF} (hb:TbOK P b) {l:List Rw} (hl:∀r∈l,RwOK P X r) {n f:Nat} (e:runK (ftL b l) (n+1) f=.fin (.b true) h0 (nat_lit 0)):KnOK P f (.b true):=by
 have hD:=drawn_ok (X:=X) hm
 have hft:=ftL_ok hb hl
 obtain⟨fn,bd,hfn,hname,hbd,v1,h1,c1,e1,w1⟩:=callE_ok hD hft (callN_ok hD hft n) (show callE slots (ftL b l) (callN slots (ftL b l) n) f [] h0 0 (fun v _ _=>okK v)=.fin (.b true) h0 0 from e)
 have:=okK_fin e1;subst this
 refine⟨fn,bd,.bool true,hfn,hname,hbd,fun ρ=>by simp[den],fun w=>?_⟩
 refine(w1 (Base.all w) (fun _=>none) w [] (HR.init (Base.all w) fun _ h=>h) (by simp[denL])).mono ?_
 rintro e w' ⟨y,rfl,ρ',_,hR,hd,_,_⟩
 simp only[den,Option.some.injEq]at hd
 subst hd
 exact⟨rfl,hR.bel.os,hR.bel.tape,hR.bel.output,hR.bel.size,fun k hk=>hR.bel.block k hk⟩
end
noncomputable def mk1 (b:Blk):HP:=all6 (all6 (all6 (all6 b)))
noncomputable def okGX (v:V) (h:HP) (c:Nat):R:=ifT (andB (isT v) (Nat.ble (nat_lit 1) c)) (.fin (.b true) (mk1 (hget h (nat_lit 0))) (nat_lit 0)) (.bad (nat_lit 1))
noncomputable def runGX (g ty:Nat) (l:List Nat) (ft:T CF) (n f:Nat):R:=hset (.gv g ty l) h0 (nat_lit 0) fun h=>callN slots ft n (.f f [] []) [] h (nat_lit 1) fun v h c=>okGX v h c
section
variable {P:Program} {X:Spx} {g ty:Nat} {l:List Nat}
theorem mk1_inj {a b:Blk} (h:mk1 a=mk1 b):a=b:=by
 have:hget (mk1 a) 0=hget (mk1 b) 0:=by rw[h]
 exact this
theorem glw_of {b:Base} {ρ:Rho} {h:HP} {c:Nat} {w:World} (H:HR X P b ρ h c w) (hc:1≤c) (e:hget h 0=.gv g ty l):GlW g ty l w:=by
 have h1:=H.blk 0 hc
 rw[e]at h1
 obtain⟨p,_,h2,h3⟩:=h1
 rw[h2]at h3;exact h3
theorem kng_ofX (hm:P.follows .mixedOrders=true) {b:T CF} (hb:TbOK P b) {rws:List Rw} (hl:∀r∈rws,RwOK P X r) {n f:Nat} (e:runGX g ty l (ftL b rws) (n+1) f=.fin (.b true) (mk1 (.gv g ty l)) (nat_lit 0)):KnG P g ty l f:=by
 intro w hw
 unfold runGX at e
 rw[hset_eq]at e
 have hD:=drawn_ok (X:=X) hm
 have hft:=ftL_ok hb hl
 obtain⟨_,_,_,_,_,v1,h1,c1,q1,q2⟩:=callE_ok hD hft (callN_ok hD hft n) (show callE slots (ftL b rws) (callN slots (ftL b rws) n) f [] (Ev.hs h0 0 (.gv g ty l)) 1 (fun v h c=>okGX v h c)=.fin (.b true) (mk1 (.gv g ty l)) 0 from e)
 have q1:ifT (andB (isT v1) (Nat.ble (nat_lit 1) c1)) (R.fin (.b true) (mk1 (hget h1 (nat_lit 0))) (nat_lit 0)) (.bad (nat_lit 1))=.fin (.b true) (mk1 (.gv g ty l)) 0:=q1
 cases hc:andB (isT v1) (Nat.ble (nat_lit 1) c1)with
 |false=>rw[hc]at q1;cases (show R.bad 1=_ from q1)
 |true=>
  rw[hc]at q1
  have q3:R.fin (.b true) (mk1 (hget h1 0)) 0=.fin (.b true) (mk1 (.gv g ty l)) 0:=q1
  have e3:hget h1 0=.gv g ty l:=mk1_inj (R.fin.inj q3).2.1
  obtain⟨e1,e2⟩:=andB_iff hc
  have:=isT_eq e1;subst this
  refine(q2 _ _ w [] (HR.initG hw) rfl).mono ?_
  rintro ex w' ⟨x,rfl,ρ',_,hR,hd,_,_⟩
  simp only[den,Option.some.injEq]at hd
  subst hd
  have h2:=glw_of hR (Nat.le_of_ble_eq_true e2) e3
  refine⟨rfl,hR.bel.os,hR.bel.tape,hR.bel.output,hR.bel.size,fun k hk=>?_⟩
  by_cases hkg:k=g
  · subst hkg;exact h2.trans hw.symm
  · exact hR.bel.block k ⟨hk,hkg⟩
end
end Ev
end
section
namespace Ev
open Go Go.RowKit
set_option linter.unusedVariables false
set_option linter.unusedSimpArgs false
noncomputable def okV1 (x v:V):R:=ifT (veq v x) (.fin (.b true) h0 (nat_lit 0)) (.bad (nat_lit 1))
noncomputable def runV (ft:T CF) (n f:Nat) (x:V):R:=callN slots ft n (.f f [] []) [] h0 (nat_lit 0) fun v _ _=>okV1 x v
theorem kn_ofV {P:Program} {X:Spx} (hm:P.follows .mixedOrders=true) {b:T CF} (hb:TbOK P b) {l:List Rw} (hl:∀r∈l,RwOK P X r) {n f:Nat} {v:V} {x:Value} (hx:∀ρ,den ρ v=some x) (e:runV (ftL b l) (n+1) f v=.fin (.b true) h0 (nat_lit 0)):KnOK P f v:=by
 have hD:=drawn_ok (X:=X) hm
 have hft:=ftL_ok hb hl
 obtain⟨fn,bd,hfn,hname,hbd,v1,h1,c1,e1,w1⟩:=callE_ok hD hft (callN_ok hD hft n) (show callE slots (ftL b l) (callN slots (ftL b l) n) f [] h0 0 (fun w _ _=>okV1 v w)=.fin (.b true) h0 0 from e)
 have:v1=v:=by
  unfold okV1 at e1
  cases hc:veq v1 v with
  |false=>rw[hc]at e1;cases (show R.bad 1=_ from e1)
  |true=>exact veq_eq hc
 subst this
 refine⟨fn,bd,x,hfn,hname,hbd,hx,fun w=>?_⟩
 refine(w1 (Base.all w) (fun _=>none) w [] (HR.init (Base.all w) fun _ h=>h) (by simp[denL])).mono ?_
 rintro e w' ⟨y,rfl,ρ',_,hR,hd,_,_⟩
 rw[hx ρ']at hd
 cases hd
 exact⟨rfl,hR.bel.os,hR.bel.tape,hR.bel.output,hR.bel.size,fun k hk=>hR.bel.block k hk⟩
end Ev
end
