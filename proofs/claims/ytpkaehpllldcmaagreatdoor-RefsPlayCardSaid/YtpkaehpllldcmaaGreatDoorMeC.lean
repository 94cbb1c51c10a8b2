/- EvI, EvJ, EvK, EvL, EvM, EvN, EvO. -/
import Derived.Test.YtpkaehpllldcmaaGreatDoorMeB
import Derived.WalkSmall
import Derived.Laws.Tables
import Derived.Laws.MakeOwn
import Derived.Laws.BytesString
section
namespace Ev
open Go Go.RowKit
set_option linter.unusedVariables false
set_option linter.unusedSimpArgs false
def Fr (r:Option Nat):Fence:={Fence.wide with round:=r}
def Kp (h h1:HP) (c:Nat):Prop:=∀k,k<c→hget h k=.df→hget h1 k=.df
theorem Kp.refl (h:HP) (c:Nat):Kp h h c:=fun _ _ e=>e
theorem Kp.trans {h h1 h2:HP} {c c1:Nat} (a:Kp h h1 c) (b:Kp h1 h2 c1) (e:c≤c1):Kp h h2 c:=fun k hk x=>b k (by omega) (a k hk x)
theorem Kp.hs {h:HP} {c a:Nat} {b:Blk} (hc:c≤65536) (ha:a<65536) (hd:a<c→hget h a≠ .df):Kp h (hs h a b) c:=fun k hk e=>by
 rw[hget_hs b h ha (by omega)]
 split
 · rename_i h1;subst h1;exact absurd e (hd hk)
 · exact e
def CallV (P:Program) (q:Prop) (g:Value) (l:List Value) (w:World) (R:Value→World→Prop):Prop:=
 (∃f args,(do let d←Deferred.ofValue g l.toArray;invoke d.target d.args:Sem Next).run P w=.ok (.enter f args) w∧Calls P f args w (fun e w'=>∃v,e=.returned v∧R v w'))∨
 (q∧∃i f tmps a b,(do let d←Deferred.ofValue g l.toArray;invoke d.target d.args:Sem Next).run P w=.ok (.round i f tmps a b) w∧RoundIn Fence.wide 0 P i f tmps a b w (fun e w'=>∃v,e=.returned v∧R v w'))
section
variable (X:Spx) (P:Program)
def CalOK (cal:CAL):Prop:=∀g l h c k v' h' c',cal g l h c k=.fin v' h' c'→∃v h1 c1,k v h1 c1=.fin v' h' c'∧
 ∀w0 ρ w gv lv,HR X P w0 ρ h c w→den ρ g=some gv→denL ρ l=some lv→CallV P (∃i,g=.y i) gv lv w fun x w'=>∃ρ',Le ρ ρ'∧HR X P w0 ρ' h1 c1 w'∧den ρ' v=some x∧Kp h h1 c∧c≤c1
def OSnd (nt:Nat) (f:OC) (o:Oper):Prop:=∀cal,CalOK X P cal→∀t h c df k v' h' c',f cal t h c df k=.fin v' h' c'→
 ∃t1 h1 c1,k t1 h1 c1 df=.fin v' h' c'∧∀w0 ρ a w r n Q K,HR X P w0 ρ h c w→TR ρ nt t a.tmps→
  (∀ρ' a' w',Le ρ ρ'→HR X P w0 ρ' h1 c1 w'→TR ρ' nt t1 a'.tmps→Kp h h1 c→c≤c1→a'.defers=a.defers→K a' w')→o.wpIn (Fr r) n P a w K Q
end
section
variable {X:Spx} {P:Program} {nt:Nat}
theorem wpIn_value {o:Oper} {a:Act} {w w':World} {r:Option Nat} {n:Nat} {K:Act→World→Prop} {Q:Exit→Act→World→Prop} {x:Value} (ho:∀c,o.op≠ .defer c)
 (h:(execOp a.eval o).run P w=.ok (.value x) w') (hK:K (a.put o.dst x) w'):o.wpIn (Fr r) n P a w K Q:=by
 refine⟨fun _ _=>trivial,?_⟩
 rw[Oper.semAt_eq _ _ _ ho,h]
 exact hK
theorem OSnd.mem {f:OC} {o:Oper} {d:DS} (ho:∀c,o.op≠ .defer c) (hd:cDst nt o.dst=.mk d)
 (H:∀cal,CalOK X P cal→∀t h c df k v' h' c',f cal t h c df k=.fin v' h' c'→∃v h1 c1,(d v t fun t=>k t h1 c1 df)=.fin v' h' c'∧
  ∀w0 ρ (a:Act) w,HR X P w0 ρ h c w→TR ρ nt t a.tmps→∃ρ' x w',Le ρ ρ'∧HR X P w0 ρ' h1 c1 w'∧den ρ' v=some x∧Kp h h1 c∧c≤c1∧(execOp a.eval o).run P w=.ok (.value x) w'):OSnd X P nt f o:=by
 intro cal hcal t h c df k v' h' c' e
 obtain⟨v,h1,c1,e1,hw⟩:=H cal hcal t h c df k v' h' c' e
 obtain⟨t1,ht1,e2⟩:=dst_eq hd v t fun t=>k t h1 c1 df
 rw[e2]at e1
 refine⟨t1,h1,c1,e1,fun w0 ρ a w r n Q K hR hT hK=>?_⟩
 obtain⟨ρ',x,w',g1,g2,g3,g4,g5,g6⟩:=hw w0 ρ a w hR hT
 obtain⟨g7,g8⟩:=dst_ok hd ht1 (hT.mono g1) g3
 exact wpIn_value ho g6 (hK ρ' _ w' g1 g2 g7 g4 g5 g8)
theorem OSnd.val {f:OC} {o:Oper} {d:DS} (ho:∀c,o.op≠ .defer c) (hd:cDst nt o.dst=.mk d)
 (H:∀cal t h c df k v' h' c',f cal t h c df k=.fin v' h' c'→∃v,(d v t fun t=>k t h c df)=.fin v' h' c'∧
  ∀w0 ρ (a:Act) w,HR X P w0 ρ h c w→TR ρ nt t a.tmps→∃x,den ρ v=some x∧(execOp a.eval o).run P w=.ok (.value x) w):OSnd X P nt f o:=by
 refine OSnd.mem ho hd fun cal _ t h c df k v' h' c' e=>?_
 obtain⟨v,e1,hw⟩:=H cal t h c df k v' h' c' e
 refine⟨v,h,c,e1,fun w0 ρ a w hR hT=>?_⟩
 obtain⟨x,g1,g2⟩:=hw w0 ρ a w hR hT
 exact⟨ρ,x,w,Le.refl _,hR,g1,Kp.refl _ _,Nat.le_refl _,g2⟩
def VSnd (X:Spx) (P:Program) (nt:Nat) (d:DS) (f:OC) (o:Oper):Prop:=(∀c,o.op≠ .defer c)∧cDst nt o.dst=.mk d∧∀cal t h c df k v' h' c',f cal t h c df k=.fin v' h' c'→∃v,(d v t fun t=>k t h c df)=.fin v' h' c'∧
 ∀w0 ρ (a:Act) w,HR X P w0 ρ h c w→TR ρ nt t a.tmps→∃x,den ρ v=some x∧(execOp a.eval o).run P w=.ok (.value x) w
theorem VSnd.of {f:OC} {o:Oper} {d:DS} (ho:∀c,o.op≠ .defer c) (hd:cDst nt o.dst=.mk d)
 (H:∀cal t h c df k v' h' c',f cal t h c df k=.fin v' h' c'→∃v,(d v t fun t=>k t h c df)=.fin v' h' c'∧
  ∀w0 ρ (a:Act) w,HR X P w0 ρ h c w→TR ρ nt t a.tmps→∃x,den ρ v=some x∧(execOp a.eval o).run P w=.ok (.value x) w):VSnd X P nt d f o:=⟨ho,hd,H⟩
theorem VSnd.o {f:OC} {o:Oper} {d:DS} (h:VSnd X P nt d f o):OSnd X P nt f o:=OSnd.val h.1 h.2.1 h.2.2
section
variable {o:Oper} {d:DS}
theorem snd_mv {x:Operand} {y:OP} (hop:o.op=.move x∨o.op=.assign x) (hd:cDst nt o.dst=.mk d) (hy:cOpd nt x=.mk y):VSnd X P nt d (fMv d y) o:=by
 refine VSnd.of (by rcases hop with h|h<;>rw[h]<;>simp) hd fun cal t h c df k v' h' c' e=>⟨_,e,fun w0 ρ a w hR hT=>⟨_,opd_den hy hT,?_⟩⟩
 rcases hop with h|h<;>simp[execOp,h]
theorem bool_den {ρ:Rho} {v:V} {b:Bool} {x:Value} (e:v=.b b) (h:den ρ v=some x):x=.bool b:=by subst e;simpa[den]using h.symm
theorem snd_pick {c a b:Operand} {y1 y2 y3:OP} (hop:o.op=.pick c a b) (hd:cDst nt o.dst=.mk d) (h1:cOpd nt c=.mk y1) (h2:cOpd nt a=.mk y2) (h3:cOpd nt b=.mk y3):VSnd X P nt d (fPick d y1 y2 y3) o:=by
 refine VSnd.of (by rw[hop];simp) hd fun cal t h c df k v' h' c' e=>?_
 obtain⟨q,e1,e2⟩:=asB_fin e
 refine⟨_,e2,fun w0 ρ a w hR hT=>?_⟩
 have d1:=bool_den e1 (opd_den h1 hT)
 cases q
 · exact⟨_,opd_den h3 hT,by simp[execOp,hop,d1,asBool]⟩
 · exact⟨_,opd_den h2 hT,by simp[execOp,hop,d1,asBool]⟩
theorem snd_no {x:Operand} {T:TypeId} {y:OP} (hop:o.op=.unOp .not T x) (hd:cDst nt o.dst=.mk d) (h1:cOpd nt x=.mk y):VSnd X P nt d (fNo d y) o:=by
 refine VSnd.of (by rw[hop];simp) hd fun cal t h c df k v' h' c' e=>?_
 obtain⟨q,e1,e2⟩:=asB_fin e
 refine⟨.b (!q),by cases q<;>exact e2,fun w0 ρ a w hR hT=>?_⟩
 have d1:=bool_den e1 (opd_den h1 hT)
 exact⟨.bool !q,by simp[den],by simp[execOp,hop,d1,Op.unary]⟩
theorem ptr_den {ρ:Rho} {v:V} {b r:Nat} {x:Value} (e:v=.p b r) (h:den ρ v=some x):∃p,ρ b=some p∧x=.pointer (some ⟨p.1,r,none⟩):=by
 subst e;simp only[den,Option.map_eq_some_iff]at h;obtain⟨p,h1,h2⟩:=h;exact⟨p,h1,h2.symm⟩
theorem snd_nck {x:Operand} {y:OP} (hop:o.op=.nilCheck x) (hd:cDst nt o.dst=.mk d) (h1:cOpd nt x=.mk y):VSnd X P nt d (fNck d y) o:=by
 refine VSnd.of (by rw[hop];simp) hd fun cal t h c df k v' h' c' e=>?_
 rcases asPG_fin e with⟨b,r,e1,e2⟩|⟨g,r,e1,e2⟩
 · refine⟨_,e2,fun w0 ρ a w hR hT=>?_⟩
   have hx:=opd_den h1 hT
   obtain⟨p,d1,d2⟩:=ptr_den e1 hx
   rw[e1]at hx
   refine⟨_,hx,?_⟩
   simp[execOp,hop,d2]
 · refine⟨_,e2,fun w0 ρ a w hR hT=>?_⟩
   have hx:=opd_den h1 hT
   rw[e1]at hx
   have d2:a.eval x=.pointer (some ⟨g,r,none⟩):=by simpa[den]using hx.symm
   refine⟨_,hx,?_⟩
   simp[execOp,hop,d2]
theorem snd_ld {x:Operand} {y:OP} {T:TypeId} {D:TypeDesc} (hop:o.op=.load T x) (hd:cDst nt o.dst=.mk d) (h1:cOpd nt x=.mk y) (hT:und (types P) T=some D) (hg:agg (types P) T=false):VSnd X P nt d (fLd d y) o:=by
 refine VSnd.of (by rw[hop];simp) hd fun cal t h c df k v' h' c' e=>?_
 rcases asPG_fin e with⟨b,r,e1,e2⟩|⟨g,r,e1,e2⟩
 · obtain⟨ty,m,q,z,u,e3,e4⟩:=blk_fin e2
   obtain⟨e5,e6⟩:=ifT_fin e4
   rw[fV_eq]at e6
   refine⟨_,e6,fun w0 ρ a w hR hTR=>?_⟩
   obtain⟨p,d1,d2⟩:=ptr_den e1 (opd_den h1 hTR)
   obtain⟨v,c1,c2⟩:=hR.cell d1 e3 (Nat.le_of_ble_eq_true e5)
   refine⟨v,c2,?_⟩
   simp[execOp,hop,d2,Instr.loadAt,Instr.sureAddr,loadVar,run_isAgg P hT,hg,load,Sem.run,c1]
 · obtain⟨ty,l,e3,e4,e5⟩:=gvK_fin e2
   refine⟨_,e5,fun w0 ρ a w hR hTR=>?_⟩
   have hx:=opd_den h1 hTR
   rw[e1]at hx
   have d2:a.eval x=.pointer (some ⟨g,r,none⟩):=by simpa[den]using hx.symm
   have c1:=hR.gcell e3 e4
   refine⟨.int .i64 (Int.ofNat (nthG l r)),rfl,?_⟩
   simp[execOp,hop,d2,Instr.loadAt,Instr.sureAddr,loadVar,run_isAgg P hT,hg,load,Sem.run,c1]
theorem snd_lda {x:Operand} {y:OP} {T:TypeId} {D:TypeDesc} (hop:o.op=.load T x) (hd:cDst nt o.dst=.mk d) (h1:cOpd nt x=.mk y) (hT:und (types P) T=some D) (hg:agg (types P) T=true):VSnd X P nt d (fLda d (siz (types P) T) y) o:=by
 refine VSnd.of (by rw[hop];simp) hd fun cal t h c df k v' h' c' e=>?_
 obtain⟨b,r,e1,e2⟩:=asP_fin e
 obtain⟨ty,m,q,z,u,e3,e4,e5⟩:=ldK_fin e2
 refine⟨_,e5,fun w0 ρ a w hR hTR=>?_⟩
 obtain⟨p,d1,d2⟩:=ptr_den e1 (opd_den h1 hTR)
 obtain⟨vs,c1,c2,c3,c4⟩:=hR.cells d1 e3 e4
 obtain⟨i,hi,hs,_⟩:=(und_under hT).2
 refine⟨.agg vs.toArray,by simp[den,c2],?_⟩
 rw[hs]at c4
 simp[execOp,hop,d2,Instr.loadAt,Instr.sureAddr,loadVar,run_isAgg P hT,hg,run_sizeOf P hi,c4]
theorem snd_st {x y:Operand} {y1 y2:OP} {T:TypeId} {D:TypeDesc} (hop:o.op=.store T x y) (hdst:o.dst=none) (h1:cOpd nt x=.mk y1) (h2:cOpd nt y=.mk y2) (hT:und (types P) T=some D):OSnd X P nt (fSt (siz (types P) T) y1 y2) o:=by
 intro cal hcal t h c df k v' h' c' e
 obtain⟨b,r,e1,e2⟩:=asP_fin e
 obtain⟨e3,e4⟩:=ifT_fin e2
 obtain⟨ty,m,q,z,u,e5,e6⟩:=blk_fin e4
 obtain⟨e7,e8⟩:=ifT_fin e6
 have hlen:(cl (y2 t)).length=siz (types P) T:=by rw[←len_eq];exact Nat.eq_of_beq_eq_true e3
 have hm:r+(cl (y2 t)).length≤m:=by rw[hlen];exact Nat.le_of_ble_eq_true e7
 obtain⟨u',e10,e9,_,e11⟩:=stK_fin e8
 rw[hset_eq]at e10
 refine⟨t,_,c,e10,fun w0 ρ a w rr n Q K hR hTR hK=>?_⟩
 obtain⟨p,d1,d2⟩:=ptr_den e1 (opd_den h1 hTR)
 have d3:=cl_den (opd_den h2 hTR)
 obtain⟨w',s1,s2⟩:=hR.store d1 e5 d3 e9 hm
 have hcap:r+(cl (y2 t)).length≤u.cap:=by obtain⟨_,_,k2,_⟩:=hR.row d1 e5;omega
 rw[←e11 hcap]at s2
 obtain⟨i,hi,hs,_⟩:=(und_under hT).2
 refine⟨fun _ _=>trivial,?_⟩
 rw[Oper.semAt_eq _ _ _ (by rw[hop];simp)]
 have hsz:(a.eval y).cells.size=i.size:=by
  have:=denL_length d3
  rw[hlen,hs]at this
  simpa using this
 have hrun:(execOp a.eval o).run P w=.ok .skip w':=by
  simp[execOp,hop,d2,Instr.storeAt,Instr.sureAddr,storeVar,run_sizeOf P hi,hsz,s1]
 rw[hrun]
 show K (a.put o.dst undef) w'
 rw[hdst]
 exact hK ρ a w' (Le.refl _) s2 hTR (Kp.hs hR.le (by have:=(hR.dom _ _ d1).1;have:=hR.le;omega) fun _ hh=>by rw[e5]at hh;cases hh) (Nat.le_refl _) rfl
end
end
end Ev
end
section
namespace Ev
open Go Go.RowKit
set_option linter.unusedVariables false
set_option linter.unusedSimpArgs false
section
variable {X:Spx} {P:Program} {nt:Nat} {o:Oper} {d:DS}
theorem okI_some {t:Nat} (h:okI (types P) t=true):∃D,und (types P) t=some D:=Option.isSome_iff_exists.1 h
theorem snd_fa {x:Operand} {y:OP} {T f:Nat} {fs:Array Field} {g:Field} (hop:o.op=.fieldAddr T x f) (hd:cDst nt o.dst=.mk d) (h1:cOpd nt x=.mk y) (hT:und (types P) T=some (.struct fs)) (hf:fs[f]?=some g) (hz:Nat.beq (siz (types P) g.type) 0=false):VSnd X P nt d (fFa d g.offset y) o:=by
 refine VSnd.of (by rw[hop];simp) hd fun cal t h c df k v' h' c' e=>?_
 obtain⟨b,r,e1,e2⟩:=asP_fin e
 rw[fN_eq]at e2
 refine⟨_,e2,fun w0 ρ a w hR hTR=>?_⟩
 obtain⟨p,d1,d2⟩:=ptr_den e1 (opd_den h1 hTR)
 obtain⟨i,hi,hs,_⟩:=siz_pos (P:=P) (t:=g.type) (by have:=Nat.ne_of_beq_eq_false hz;omega)
 have hne:¬i.size=0:=by rw[←hs];exact Nat.ne_of_beq_eq_false hz
 refine⟨.pointer (some ⟨p.1,r+g.offset,none⟩),by simp[den,d1],?_⟩
 simp[execOp,hop,d2,Instr.fieldAt,Instr.sureAddr,run_underlying (und_under hT).1,hf,fieldPlace,run_sizeOf P hi,hne,addr_add]
theorem agg_den {ρ:Rho} {v:V} {l:List V} {x:Value} (e:v=.ag l) (h:den ρ v=some x):∃r,denL ρ l=some r∧x=.agg r.toArray:=by
 subst e;simp only[den,Option.map_eq_some_iff]at h;obtain⟨p,h1,h2⟩:=h;exact⟨p,h1,h2.symm⟩
theorem tup_den {ρ:Rho} {v:V} {l:List V} {x:Value} (e:v=.tu l) (h:den ρ v=some x):∃r,denL ρ l=some r∧x=.tuple r.toArray:=by
 subst e;simp only[den,Option.map_eq_some_iff]at h;obtain⟨p,h1,h2⟩:=h;exact⟨p,h1,h2.symm⟩
theorem nth_den {ρ:Rho} {l:List V} {r:List Value} {i:Nat} (h:denL ρ l=some r) (hi:i<l.length):∃x,r[i]?=some x∧den ρ (nth l i)=some x:=by
 have hg:l[i]?=some l[i]:=List.getElem?_eq_getElem hi
 obtain⟨x,h1,h2⟩:=denL_get h hg
 refine⟨x,h1,?_⟩
 rw[nth_eq];simp[List.getD,hg,h2]
theorem lt_len {α:Type} {l:List α} {i:Nat} (h:Nat.ble (Nat.succ i) (len l)=true):i<l.length:=by
 have:=Nat.le_of_ble_eq_true h;rw[len_eq]at this;omega
theorem extract_list (r:List Value) (o n:Nat):r.toArray.extract o (o+n)=((r.drop o).take n).toArray:=by
 apply Array.ext'
 simp[Array.toList_extract,List.extract_eq_take_drop]
theorem snd_fl {x:Operand} {y:OP} {T f:Nat} {fs:Array Field} {g:Field} (hop:o.op=.field T x f) (hd:cDst nt o.dst=.mk d) (h1:cOpd nt x=.mk y) (hT:und (types P) T=some (.struct fs)) (hf:fs[f]?=some g) (hok:okI (types P) g.type=true) (hg:agg (types P) g.type=false):VSnd X P nt d (fFl d g.offset y) o:=by
 refine VSnd.of (by rw[hop];simp) hd fun cal t h c df k v' h' c' e=>?_
 obtain⟨l,e1,e2⟩:=asA_fin e
 obtain⟨e3,e4⟩:=ifT_fin e2
 rw[fV_eq]at e4
 refine⟨_,e4,fun w0 ρ a w hR hTR=>?_⟩
 obtain⟨r,d1,d2⟩:=agg_den e1 (opd_den h1 hTR)
 obtain⟨x',g1,g2⟩:=nth_den d1 (lt_len e3)
 obtain⟨D,hD⟩:=okI_some hok
 refine⟨x',g2,?_⟩
 simp[execOp,hop,d2,Instr.field,run_underlying (und_under hT).1,hf,asAgg,part,run_isAgg P hD,hg,g1]
theorem snd_fla {x:Operand} {y:OP} {T f:Nat} {fs:Array Field} {g:Field} (hop:o.op=.field T x f) (hd:cDst nt o.dst=.mk d) (h1:cOpd nt x=.mk y) (hT:und (types P) T=some (.struct fs)) (hf:fs[f]?=some g) (hok:okI (types P) g.type=true) (hg:agg (types P) g.type=true):VSnd X P nt d (fFla d g.offset (siz (types P) g.type) y) o:=by
 refine VSnd.of (by rw[hop];simp) hd fun cal t h c df k v' h' c' e=>?_
 obtain⟨l,e1,e2⟩:=asA_fin e
 refine⟨_,e2,fun w0 ρ a w hR hTR=>?_⟩
 obtain⟨r,d1,d2⟩:=agg_den e1 (opd_den h1 hTR)
 obtain⟨D,hD⟩:=okI_some hok
 obtain⟨i,hi,hs,_⟩:=(und_under hD).2
 refine⟨.agg ((r.drop g.offset).take i.size).toArray,by rw[take_eq,drop_eq,hs];simp[den,denL_take _ (denL_drop _ d1)],?_⟩
 simp[execOp,hop,d2,Instr.field,run_underlying (und_under hT).1,hf,asAgg,part,run_isAgg P hD,hg,run_sizeOf P hi,extract_list]
theorem nat_den {ρ:Rho} {v:V} {k m:Nat} {x:Value} (e:v=.i k m) (h:den ρ v=some x):x=.int (kd k) (m:Int):=by
 subst e;simpa[den]using h.symm
theorem sl_den {ρ:Rho} {v:V} {a r n e:Nat} {s:Bool} {x:Value} (e1:v=.sl a r n e s) (h:den ρ v=some x):∃p,ρ a=some p∧x=.slice (some ⟨p.1,r,none⟩) n (if s then p.2-e else e):=by
 subst e1;simp only[den,Option.map_eq_some_iff]at h;obtain⟨p,h1,h2⟩:=h;exact⟨p,h1,h2.symm⟩
theorem snd_ia {x i:Operand} {y1 y2:OP} {T E:Nat} (hop:o.op=.indexAddr T x i) (hd:cDst nt o.dst=.mk d) (h1:cOpd nt x=.mk y1) (h2:cOpd nt i=.mk y2) (hT:und (types P) T=some (.slice E)) (hok:okI (types P) E=true):VSnd X P nt d (fIa d (siz (types P) E) y1 y2) o:=by
 refine VSnd.of (by rw[hop];simp) hd fun cal t h c df k v' h' c' e=>?_
 rcases asL_fin e with⟨_,e1⟩|⟨b,r,n,q,s,e1,e2⟩
 · cases e1
 obtain⟨kk,j,e3,e4⟩:=asN_fin e2
 obtain⟨e5,e6⟩:=ifT_fin e4
 rw[fN_eq]at e6
 refine⟨_,e6,fun w0 ρ a w hR hTR=>?_⟩
 obtain⟨p,d1,d2⟩:=sl_den e1 (opd_den h1 hTR)
 have d3:=nat_den e3 (opd_den h2 hTR)
 obtain⟨D,hD⟩:=okI_some hok
 obtain⟨ii,hi,hs,_⟩:=(und_under hD).2
 have hlt:j<n:=Nat.le_of_ble_eq_true e5
 refine⟨.pointer (some ⟨p.1,r+j*ii.size,none⟩),by simp[den,d1,hs],?_⟩
 simp[execOp,hop,d2,d3,Instr.indexAt,asIntOf,run_underlying (und_under hT).1,run_sizeOf P hi,hlt,addr_add]
theorem snd_iaa {x i:Operand} {y1 y2:OP} {T E n:Nat} (hop:o.op=.indexAddr T x i) (hd:cDst nt o.dst=.mk d) (h1:cOpd nt x=.mk y1) (h2:cOpd nt i=.mk y2) (hT:und (types P) T=some (.array n E)) (hok:okI (types P) E=true):VSnd X P nt d (fIaa d (siz (types P) E) n y1 y2) o:=by
 refine VSnd.of (by rw[hop];simp) hd fun cal t h c df k v' h' c' e=>?_
 obtain⟨D,hD⟩:=okI_some hok
 obtain⟨ii,hi,hs,_⟩:=(und_under hD).2
 rcases asPG_fin e with⟨b,r,e1,e2⟩|⟨g,r,e1,e2⟩
 · obtain⟨kk,j,e3,e4⟩:=asN_fin e2
   obtain⟨e5,e6⟩:=ifT_fin e4
   rw[fN_eq]at e6
   refine⟨_,e6,fun w0 ρ a w hR hTR=>?_⟩
   obtain⟨p,d1,d2⟩:=ptr_den e1 (opd_den h1 hTR)
   have d3:=nat_den e3 (opd_den h2 hTR)
   have hlt:j<n:=Nat.le_of_ble_eq_true e5
   refine⟨.pointer (some ⟨p.1,r+j*ii.size,none⟩),by simp[den,d1,hs],?_⟩
   simp[execOp,hop,d2,d3,Instr.indexAt,asIntOf,Instr.sureAddr,run_underlying (und_under hT).1,run_sizeOf P hi,hlt,addr_add]
 · obtain⟨kk,j,e3,e4⟩:=asN_fin e2
   obtain⟨e5,e6⟩:=ifT_fin e4
   rw[fN_eq]at e6
   refine⟨_,e6,fun w0 ρ a w hR hTR=>?_⟩
   have hx:=opd_den h1 hTR
   rw[e1]at hx
   have d2:a.eval x=.pointer (some ⟨g,r,none⟩):=by simpa[den]using hx.symm
   have d3:=nat_den e3 (opd_den h2 hTR)
   have hlt:j<n:=Nat.le_of_ble_eq_true e5
   refine⟨.pointer (some ⟨g,r+j*ii.size,none⟩),by simp[den,hs],?_⟩
   simp[execOp,hop,d2,d3,Instr.indexAt,asIntOf,Instr.sureAddr,run_underlying (und_under hT).1,run_sizeOf P hi,hlt,addr_add]
theorem snd_ex {x:Operand} {y:OP} {i:Nat} (hop:o.op=.extract x i) (hd:cDst nt o.dst=.mk d) (h1:cOpd nt x=.mk y):VSnd X P nt d (fEx d y i) o:=by
 refine VSnd.of (by rw[hop];simp) hd fun cal t h c df k v' h' c' e=>?_
 obtain⟨l,e1,e2⟩:=asT_fin e
 obtain⟨e3,e4⟩:=ifT_fin e2
 rw[fV_eq]at e4
 refine⟨_,e4,fun w0 ρ a w hR hTR=>?_⟩
 obtain⟨r,d1,d2⟩:=tup_den e1 (opd_den h1 hTR)
 obtain⟨x',g1,g2⟩:=nth_den d1 (lt_len e3)
 exact⟨x',g2,by simp[execOp,hop,d2,Instr.extract,g1]⟩
theorem snd_ix {x i:Operand} {y1 y2:OP} {T E n:Nat} (hop:o.op=.index T x i) (hd:cDst nt o.dst=.mk d) (h1:cOpd nt x=.mk y1) (h2:cOpd nt i=.mk y2) (hT:und (types P) T=some (.array n E)) (hok:okI (types P) E=true) (hg:agg (types P) E=false):VSnd X P nt d (fIx d (siz (types P) E) n y1 y2) o:=by
 refine VSnd.of (by rw[hop];simp) hd fun cal t h c df k v' h' c' e=>?_
 obtain⟨l,e1,e2⟩:=asA_fin e
 obtain⟨kk,j,e3,e4⟩:=asN_fin e2
 obtain⟨e5,e6⟩:=ifT_fin e4
 obtain⟨e7,e8⟩:=ifT_fin e6
 rw[fV_eq]at e8
 refine⟨_,e8,fun w0 ρ a w hR hTR=>?_⟩
 obtain⟨r,d1,d2⟩:=agg_den e1 (opd_den h1 hTR)
 have d3:=nat_den e3 (opd_den h2 hTR)
 obtain⟨D,hD⟩:=okI_some hok
 obtain⟨ii,hi,hs,_⟩:=(und_under hD).2
 have hlt:j<n:=Nat.le_of_ble_eq_true e5
 obtain⟨x',g1,g2⟩:=nth_den (i:=j*siz (types P) E) d1 (lt_len e7)
 rw[hs]at g1
 refine⟨x',g2,?_⟩
 simp[execOp,hop,d2,d3,Instr.index,asIntOf,run_underlying (und_under hT).1,run_sizeOf P hi,hlt,part,run_isAgg P hD,hg,g1]
theorem snd_ixa {x i:Operand} {y1 y2:OP} {T E n:Nat} (hop:o.op=.index T x i) (hd:cDst nt o.dst=.mk d) (h1:cOpd nt x=.mk y1) (h2:cOpd nt i=.mk y2) (hT:und (types P) T=some (.array n E)) (hok:okI (types P) E=true) (hg:agg (types P) E=true):VSnd X P nt d (fIxa d (siz (types P) E) n y1 y2) o:=by
 refine VSnd.of (by rw[hop];simp) hd fun cal t h c df k v' h' c' e=>?_
 obtain⟨l,e1,e2⟩:=asA_fin e
 obtain⟨kk,j,e3,e4⟩:=asN_fin e2
 obtain⟨e5,e6⟩:=ifT_fin e4
 refine⟨_,e6,fun w0 ρ a w hR hTR=>?_⟩
 obtain⟨r,d1,d2⟩:=agg_den e1 (opd_den h1 hTR)
 have d3:=nat_den e3 (opd_den h2 hTR)
 obtain⟨D,hD⟩:=okI_some hok
 obtain⟨ii,hi,hs,_⟩:=(und_under hD).2
 have hlt:j<n:=Nat.le_of_ble_eq_true e5
 refine⟨.agg ((r.drop (j*ii.size)).take ii.size).toArray,by rw[take_eq,drop_eq,hs];simp[den,denL_take _ (denL_drop _ d1)],?_⟩
 simp[execOp,hop,d2,d3,Instr.index,asIntOf,run_underlying (und_under hT).1,run_sizeOf P hi,hlt,part,run_isAgg P hD,hg,extract_list]
theorem str_den {ρ:Rho} {v:V} {l:List Nat} {x:Value} (e:v=.s l) (h:den ρ v=some x):x=.string (str l):=by
 subst e;simpa[den]using h.symm
theorem str_size (l:List Nat):(str l).size=l.length:=by simp[str,ByteArray.size]
theorem snd_ixs {x i:Operand} {y1 y2:OP} {T:Nat} (hop:o.op=.index T x i) (hd:cDst nt o.dst=.mk d) (h1:cOpd nt x=.mk y1) (h2:cOpd nt i=.mk y2) (hT:und (types P) T=some .string):VSnd X P nt d (fIxs d y1 y2) o:=by
 refine VSnd.of (by rw[hop];simp) hd fun cal t h c df k v' h' c' e=>?_
 obtain⟨l,e1,e2⟩:=asS_fin e
 obtain⟨kk,j,e3,e4⟩:=asN_fin e2
 obtain⟨e5,e6⟩:=ifT_fin e4
 rw[fN_eq]at e6
 refine⟨_,e6,fun w0 ρ a w hR hTR=>?_⟩
 have d2:=str_den e1 (opd_den h1 hTR)
 have d3:=nat_den e3 (opd_den h2 hTR)
 have hlt:j<l.length:=by have:=Nat.le_of_ble_eq_true e5;rw[len_eq]at this;omega
 have hn:∀(l:List Nat) (j:Nat),j<l.length→nthN l j=l.getD j 0:=by
  intro l
  induction l with
  |nil=>intro j h;simp at h
  |cons a l ih=>
   intro j h
   cases j with
   |zero=>rfl
   |succ j=>show nthN l j=_;rw[ih j (by simpa using h)];simp
 have hg:l[j]?=some l[j]:=List.getElem?_eq_getElem hlt
 have hb:(str l)[j]?=some (UInt8.ofNat l[j]):=by
  have hs:j<(str l).size:=by rw[str_size];exact hlt
  rw[getElem?_pos (str l) j hs]
  have:(str l)[j]=(l.map UInt8.ofNat).toArray[j]'(by simpa using hlt):=rfl
  rw[this];simp
 refine⟨.int .u8 ((l[j]%256:Nat):Int),?_,?_⟩
 · rw[hn l j hlt];simp[den,List.getD,hg,kd];rfl
 · simp[execOp,hop,d2,d3,Instr.index,asIntOf,run_underlying (und_under hT).1,hb]
end
end Ev
end
section
namespace Ev
open Go Go.RowKit
set_option linter.unusedVariables false
set_option linter.unusedSimpArgs false
theorem ble_false {m n:Nat}:Nat.ble m n=false↔n<m:=by
 constructor
 · intro h;rcases Nat.lt_or_ge n m with h1|h1
   · exact h1
   · rw[Nat.ble_eq_true_of_le h1]at h;cases h
 · intro h;cases hb:Nat.ble m n with
   |false=>rfl
   |true=>have:=Nat.le_of_ble_eq_true hb;omega
def vOf (k:Nat) (n:Int):V:=match n with| .ofNat m=> .i k m| .negSucc m=> .j k m
theorem vOf_den (ρ:Rho) (k:Nat) (n:Int):den ρ (vOf k n)=some (.int (kd k) n):=by cases n<;>simp[vOf,den]
theorem wr_eq {k:Nat} {n:Int} {q:V→R}:wr k n q=q (vOf k ((kd k).wrap n)):=by unfold wr;rw[vI_eq];rfl
theorem wrap_in (k:IntKind) {m:Nat} (h:m≤hiN k):k.wrap (m:Int)=(m:Int):=by
 have h1:(m:Int)%(2^k.bits:Int)=m:=by
  apply Int.emod_eq_of_lt (Int.natCast_nonneg _)
  cases k<;>simp only[hiN,IntKind.bits]at* <;>omega
 unfold IntKind.wrap
 simp only[h1]
 rw[if_neg]
 intro hc
 cases k<;>simp[hiN,IntKind.signed,IntKind.bits]at* <;>omega
theorem wrN_eq {k:IntKind} {m:Nat} {q:V→R}:wrN (kN k) (hiN k) m q=q (vOf (kN k) (k.wrap (m:Int))):=by
 unfold wrN
 rw[fN_eq]
 cases hb:Nat.ble m (hiN k)with
 |true=>rw[ifT_true rfl,wrap_in k (Nat.le_of_ble_eq_true hb)];rfl
 |false=>rw[ifT_false rfl,wr_eq,kd_kN];rfl
theorem ieq_eq (a b:Int):ieq a b=(a==b):=by
 cases a<;>cases b<;>rename_i m n<;>simp only[ieq]
 · rw[Bool.eq_iff_iff];simp;omega
 · rfl
 · rfl
 · rw[Bool.eq_iff_iff];simp
theorem ilt_eq (a b:Int):ilt a b=decide (a<b):=by
 cases a<;>cases b<;>rename_i m n<;>simp only[ilt]
 · rw[Bool.eq_iff_iff];simp[Nat.succ_le_iff]
 · rw[Bool.eq_iff_iff];simp;omega
 · rw[Bool.eq_iff_iff];simp;omega
 · rw[Bool.eq_iff_iff];simp[Nat.succ_le_iff];omega
theorem bol_eq {b:Bool} {q:V→R}:bol b q=q (.b b):=by cases b<;>rfl
theorem nbl_eq {b:Bool} {q:V→R}:nbl b q=q (.b !b):=by cases b<;>rfl
theorem asX_eq {v:V} {q:Nat→Nat→R} {z:R}:asX v q z=match v with| .i k m=>q k m|_=>z:=by cases v<;>rfl
theorem int_den {ρ:Rho} {v:V} {k:Nat} {n:Int} (h:int v=some (k,n)):den ρ v=some (.int (kd k) n):=by
 cases v<;>simp only[int,Option.some.injEq,Prod.mk.injEq]at h<;>first|(obtain⟨rfl,rfl⟩:=h;simp[den])|cases h
theorem b2_fin {k0:Nat} {f:Nat→Nat→(V→R)→R} {s:Int→Int→(V→R)→R} {x y:V} {q:V→R} {w:V} {h:HP} {c:Nat} (H:b2 k0 f s x y q=.fin w h c):
 (∃m n,x=.i k0 m∧y=.i k0 n∧f m n q=.fin w h c)∨∃a b,int x=some (k0,a)∧int y=some (k0,b)∧s a b q=.fin w h c:=by
 have slow:b2S k0 s x y q=.fin w h c→∃a b,int x=some (k0,a)∧int y=some (k0,b)∧s a b q=.fin w h c:=by
  intro H
  obtain⟨k,a,e1,e2⟩:=asI_fin H
  obtain⟨k',b,e3,e4⟩:=asI_fin e2
  obtain⟨e5,e6⟩:=ifT_fin e4
  obtain⟨e7,e8⟩:=ifT_fin e6
  exact⟨a,b,by rw[e1,Nat.eq_of_beq_eq_true e5],by rw[e3,Nat.eq_of_beq_eq_true e7],e8⟩
 unfold b2 at H
 rw[asX_eq]at H
 split at H
 · rename_i k m
   unfold b2F at H
   rw[asX_eq]at H
   split at H
   · rename_i k' n
     obtain⟨e5,e6⟩:=ifT_fin H
     obtain⟨e7,e8⟩:=ifT_fin e6
     exact .inl ⟨m,n,by rw[Nat.eq_of_beq_eq_true e5],by rw[Nat.eq_of_beq_eq_true e7],e8⟩
   · exact .inr (slow H)
 · exact .inr (slow H)
def BFok (P:Program) (f:BF) (op:BinOp) (T:TypeId):Prop:=∀x y q v' h' c',f x y q=.fin v' h' c'→∃v,q v=.fin v' h' c'∧∀ρ X Y,den ρ x=some X→den ρ y=some Y→
 ∃r,den ρ v=some r∧∀w (s t:Operand),(do eqGuard op T s t X Y;binOp op T X Y:Sem Value).run P w=.ok r w
theorem bf_int {P:Program} {k:IntKind} {op:BinOp} {T:TypeId} {f:Nat→Nat→(V→R)→R} {s:Int→Int→(V→R)→R}
 (hf:∀m n q v' h' c',f m n q=.fin v' h' c'→∃v,q v=.fin v' h' c'∧∀ρ:Rho,∃r,den ρ v=some r∧∀w,(binOp op T (.int k m) (.int k n)).run P w=.ok r w)
 (hs:∀a b q v' h' c',s a b q=.fin v' h' c'→∃v,q v=.fin v' h' c'∧∀ρ:Rho,∃r,den ρ v=some r∧∀w,(binOp op T (.int k a) (.int k b)).run P w=.ok r w):BFok P (b2 (kN k) f s) op T:=by
 intro x y q v' h' c' H
 have guard:∀(a b:Int) w (s t:Operand),(eqGuard op T s t (.int k a) (.int k b)).run P w=.ok () w:=by
  intro a b w s t
  unfold eqGuard
  cases op<;>rfl
 rcases b2_fin H with⟨m,n,rfl,rfl,e⟩|⟨a,b,e1,e2,e⟩
 · obtain⟨v,g1,g2⟩:=hf m n q v' h' c' e
   refine⟨v,g1,fun ρ X Y hX hY=>?_⟩
   obtain⟨r,g3,g4⟩:=g2 ρ
   have d1:=nat_den rfl hX
   have d2:=nat_den rfl hY
   rw[kd_kN]at d1 d2
   exact⟨r,g3,fun w s t=>by rw[d1,d2,Sem.run_bind,guard];exact g4 w⟩
 · obtain⟨v,g1,g2⟩:=hs a b q v' h' c' e
   refine⟨v,g1,fun ρ X Y hX hY=>?_⟩
   obtain⟨r,g3,g4⟩:=g2 ρ
   have d1:=int_den (ρ:=ρ) e1
   have d2:=int_den (ρ:=ρ) e2
   rw[kd_kN]at d1 d2
   rw[hX]at d1;rw[hY]at d2
   cases d1;cases d2
   exact⟨r,g3,fun w s t=>by rw[Sem.run_bind,guard];exact g4 w⟩
section
variable {P:Program} {T:TypeId} (k:IntKind)
theorem vOf_den' (ρ:Rho) (n:Int):den ρ (vOf (kN k) n)=some (.int k n):=by rw[vOf_den,kd_kN]
theorem ok_add:BFok P (aAdd (kN k) (hiN k)) .add T:=by
 refine bf_int (fun m n q v' h' c' e=>?_) (fun a b q v' h' c' e=>?_)
 · rw[wrN_eq]at e
   exact⟨_,e,fun ρ=>⟨_,vOf_den' k ρ _,fun w=>by simp[binOp,Op.intArith]⟩⟩
 · rw[wr_eq,kd_kN]at e
   exact⟨_,e,fun ρ=>⟨_,vOf_den' k ρ _,fun w=>by simp[binOp,Op.intArith]⟩⟩
theorem ok_sub:BFok P (aSub (kN k) (hiN k)) .sub T:=by
 have run:∀(a b:Int) w,(binOp .sub T (.int k a) (.int k b)).run P w=.ok (.int k (k.wrap (a-b))) w:=fun a b w=>by simp[binOp,Op.intArith]
 refine bf_int (fun m n q v' h' c' e=>?_) (fun a b q v' h' c' e=>?_)
 · cases hb:Nat.ble n m with
   |true=>
    rw[hb,ifT_true rfl,wrN_eq]at e
    have:=Nat.le_of_ble_eq_true hb
    have e2:((Nat.sub m n:Nat):Int)=(m:Int)-n:=by show((m-n:Nat):Int)=_;omega
    rw[e2]at e
    exact⟨_,e,fun ρ=>⟨_,vOf_den' k ρ _,run _ _⟩⟩
   |false=>
    rw[hb,ifT_false rfl,wr_eq,kd_kN]at e
    exact⟨_,e,fun ρ=>⟨_,vOf_den' k ρ _,run _ _⟩⟩
 · rw[wr_eq,kd_kN]at e
   exact⟨_,e,fun ρ=>⟨_,vOf_den' k ρ _,run _ _⟩⟩
theorem ok_mul:BFok P (aMul (kN k) (hiN k)) .mul T:=by
 refine bf_int (fun m n q v' h' c' e=>?_) (fun a b q v' h' c' e=>?_)
 · rw[wrN_eq]at e
   exact⟨_,e,fun ρ=>⟨_,vOf_den' k ρ _,fun w=>by simp[binOp,Op.intArith]⟩⟩
 · rw[wr_eq,kd_kN]at e
   exact⟨_,e,fun ρ=>⟨_,vOf_den' k ρ _,fun w=>by simp[binOp,Op.intArith]⟩⟩
theorem ifF_fin {b:Bool} {x:R} {n:Nat} {w:V} {h:HP} {c:Nat} (H:ifT b (.bad n) x=.fin w h c):b=false∧x=.fin w h c:=by
 cases b
 · exact⟨rfl,H⟩
 · cases H
theorem ok_quo:BFok P (aQuo (kN k) (hiN k)) .quo T:=by
 refine bf_int (fun m n q v' h' c' e=>?_) (fun a b q v' h' c' e=>?_)
 · obtain⟨e1,e2⟩:=ifF_fin e
   rw[wrN_eq]at e2
   have hn:¬n=0:=Nat.ne_of_beq_eq_false e1
   refine⟨_,e2,fun ρ=>⟨_,vOf_den' k ρ _,fun w=>?_⟩⟩
   have:((m:Int).tdiv n)=((Nat.div m n:Nat):Int):=rfl
   simp[binOp,Op.intDiv,hn,this]
 · obtain⟨e1,e2⟩:=ifF_fin e
   rw[wr_eq,kd_kN]at e2
   have hn:¬b=0:=by rw[ieq_eq]at e1;simpa using e1
   exact⟨_,e2,fun ρ=>⟨_,vOf_den' k ρ _,fun w=>by simp[binOp,Op.intDiv,hn]⟩⟩
theorem ok_rem:BFok P (aRem (kN k)) .rem T:=by
 refine bf_int (fun m n q v' h' c' e=>?_) (fun a b q v' h' c' e=>?_)
 · obtain⟨e1,e2⟩:=ifF_fin e
   rw[fN_eq]at e2
   have hn:¬n=0:=Nat.ne_of_beq_eq_false e1
   refine⟨_,e2,fun ρ=>⟨_,vOf_den' k ρ (.ofNat (Nat.mod m n)),fun w=>?_⟩⟩
   have:((m:Int).tmod n)=((Nat.mod m n:Nat):Int):=rfl
   simp[binOp,Op.intDiv,hn,this]
 · obtain⟨e1,e2⟩:=ifF_fin e
   rw[vI_eq]at e2
   have hn:¬b=0:=by rw[ieq_eq]at e1;simpa using e1
   exact⟨_,e2,fun ρ=>⟨_,vOf_den' k ρ (a.tmod b),fun w=>by simp[binOp,Op.intDiv,hn]⟩⟩
theorem bi_pow:biN k=2^k.bits:=by cases k<;>rfl
theorem ok_and:BFok P (aBit Nat.land (kN k) (hiN k) (biN k)) .and T:=by
 refine bf_int (fun m n q v' h' c' e=>?_) (fun a b q v' h' c' e=>?_)
 · rw[wrN_eq]at e
   refine⟨_,e,fun ρ=>⟨_,vOf_den' k ρ _,fun w=>?_⟩⟩
   rw[bi_pow]
   simp[binOp,Op.intBits,BitVec.ofInt_natCast]
   rfl
 · cases e
theorem ok_or:BFok P (aBit Nat.lor (kN k) (hiN k) (biN k)) .or T:=by
 refine bf_int (fun m n q v' h' c' e=>?_) (fun a b q v' h' c' e=>?_)
 · rw[wrN_eq]at e
   refine⟨_,e,fun ρ=>⟨_,vOf_den' k ρ _,fun w=>?_⟩⟩
   rw[bi_pow]
   simp[binOp,Op.intBits,BitVec.ofInt_natCast]
   rfl
 · cases e
theorem ok_xor:BFok P (aBit Nat.xor (kN k) (hiN k) (biN k)) .xor T:=by
 refine bf_int (fun m n q v' h' c' e=>?_) (fun a b q v' h' c' e=>?_)
 · rw[wrN_eq]at e
   refine⟨_,e,fun ρ=>⟨_,vOf_den' k ρ _,fun w=>?_⟩⟩
   rw[bi_pow]
   simp[binOp,Op.intBits,BitVec.ofInt_natCast]
   rfl
 · cases e
theorem ok_andNot:BFok P (aBit (anN (biN k)) (kN k) (hiN k) (biN k)) .andNot T:=by
 refine bf_int (fun m n q v' h' c' e=>?_) (fun a b q v' h' c' e=>?_)
 · rw[wrN_eq]at e
   refine⟨_,e,fun ρ=>⟨_,vOf_den' k ρ _,fun w=>?_⟩⟩
   have hb:((Nat.land (Nat.mod m (biN k)) (Nat.sub (Nat.sub (biN k) 1) (Nat.mod n (biN k))):Nat):Int)=(((BitVec.ofInt k.bits (m:Int))&&& ~~~(BitVec.ofInt k.bits (n:Int))).toNat:Int):=by
    rw[BitVec.toNat_and,BitVec.toNat_not,BitVec.ofInt_natCast,BitVec.ofInt_natCast,BitVec.toNat_ofNat,BitVec.toNat_ofNat,bi_pow]
    rfl
   have hb':((anN (biN k) (Nat.mod m (biN k)) (Nat.mod n (biN k)):Nat):Int)=(((BitVec.ofInt k.bits (m:Int))&&& ~~~(BitVec.ofInt k.bits (n:Int))).toNat:Int):=hb
   rw[hb']
   simp only[binOp,Op.intBits]
   simp
 · cases e
theorem run_cmp (op:BinOp) (a b:Int) (w:World) (r:Bool) (h:(op=.eql∧r=(a==b))∨(op=.neq∧r=(a !=b))∨(op=.lss∧r=decide (a<b))∨(op=.leq∧r=decide (a≤b))∨(op=.gtr∧r=decide (a>b))∨(op=.geq∧r=decide (a≥b))):
 (binOp op T (.int k a) (.int k b)).run P w=.ok (.bool r) w:=by
 rcases h with⟨rfl,rfl⟩|⟨rfl,rfl⟩|⟨rfl,rfl⟩|⟨rfl,rfl⟩|⟨rfl,rfl⟩|⟨rfl,rfl⟩<;>simp[binOp,Op.intCmp]
theorem ok_eq:BFok P (aEq (kN k)) .eql T:=by
 refine bf_int (fun m n q v' h' c' e=>?_) (fun a b q v' h' c' e=>?_)<;>rw[bol_eq]at e<;>refine⟨_,e,fun ρ=>⟨_,rfl,fun w=>run_cmp k _ _ _ w _ (.inl ⟨rfl,?_⟩)⟩⟩
 · rw[Bool.eq_iff_iff];simp;omega
 · exact ieq_eq a b
theorem ok_ne:BFok P (aNe (kN k)) .neq T:=by
 refine bf_int (fun m n q v' h' c' e=>?_) (fun a b q v' h' c' e=>?_)<;>rw[nbl_eq]at e<;>refine⟨_,e,fun ρ=>⟨_,rfl,fun w=>run_cmp k _ _ _ w _ (.inr (.inl ⟨rfl,?_⟩))⟩⟩
 · have:Nat.beq m n=((m:Int)==n):=by rw[Bool.eq_iff_iff];simp;omega
   rw[this];rfl
 · rw[ieq_eq];rfl
theorem ok_lt:BFok P (aLt (kN k)) .lss T:=by
 refine bf_int (fun m n q v' h' c' e=>?_) (fun a b q v' h' c' e=>?_)
 · rw[nbl_eq]at e
   refine⟨_,e,fun ρ=>⟨_,rfl,fun w=>run_cmp k _ _ _ w _ (.inr (.inr (.inl ⟨rfl,?_⟩)))⟩⟩
   rw[Bool.eq_iff_iff];simp[ble_false]
 · rw[bol_eq]at e
   exact⟨_,e,fun ρ=>⟨_,rfl,fun w=>run_cmp k _ _ _ w _ (.inr (.inr (.inl ⟨rfl,ilt_eq a b⟩)))⟩⟩
theorem ok_le:BFok P (aLe (kN k)) .leq T:=by
 refine bf_int (fun m n q v' h' c' e=>?_) (fun a b q v' h' c' e=>?_)
 · rw[bol_eq]at e
   refine⟨_,e,fun ρ=>⟨_,rfl,fun w=>run_cmp k _ _ _ w _ (.inr (.inr (.inr (.inl ⟨rfl,?_⟩))))⟩⟩
   rw[Bool.eq_iff_iff];simp
 · rw[nbl_eq,ilt_eq]at e
   refine⟨_,e,fun ρ=>⟨_,rfl,fun w=>run_cmp k _ _ _ w _ (.inr (.inr (.inr (.inl ⟨rfl,?_⟩))))⟩⟩
   rw[Bool.eq_iff_iff];simp
theorem ok_gt:BFok P (aGt (kN k)) .gtr T:=by
 refine bf_int (fun m n q v' h' c' e=>?_) (fun a b q v' h' c' e=>?_)
 · rw[nbl_eq]at e
   refine⟨_,e,fun ρ=>⟨_,rfl,fun w=>run_cmp k _ _ _ w _ (.inr (.inr (.inr (.inr (.inl ⟨rfl,?_⟩)))))⟩⟩
   rw[Bool.eq_iff_iff];simp[ble_false]
 · rw[bol_eq,ilt_eq]at e
   exact⟨_,e,fun ρ=>⟨_,rfl,fun w=>run_cmp k _ _ _ w _ (.inr (.inr (.inr (.inr (.inl ⟨rfl,rfl⟩)))))⟩⟩
theorem ok_ge:BFok P (aGe (kN k)) .geq T:=by
 refine bf_int (fun m n q v' h' c' e=>?_) (fun a b q v' h' c' e=>?_)
 · rw[bol_eq]at e
   refine⟨_,e,fun ρ=>⟨_,rfl,fun w=>run_cmp k _ _ _ w _ (.inr (.inr (.inr (.inr (.inr ⟨rfl,?_⟩)))))⟩⟩
   rw[Bool.eq_iff_iff];simp
 · rw[nbl_eq,ilt_eq]at e
   refine⟨_,e,fun ρ=>⟨_,rfl,fun w=>run_cmp k _ _ _ w _ (.inr (.inr (.inr (.inr (.inr ⟨rfl,?_⟩)))))⟩⟩
   rw[Bool.eq_iff_iff];simp
theorem sh_bits:sh k=k.bits:=by cases k<;>rfl
theorem noGuard {op:BinOp} (h:op=.shl∨op=.shr∨op=.add) (X Y:Value) (s t:Operand) (w:World):(eqGuard op T s t X Y).run P w=.ok () w:=by
 rcases h with rfl|rfl|rfl<;>rfl
theorem ok_shl:BFok P (aShl (kN k) (hiN k) (sh k)) .shl T:=by
 intro x y q v' h' c' H
 obtain⟨k',m,e1,e2⟩:=asN_fin H
 obtain⟨k2,n,e3,e4⟩:=asN_fin e2
 obtain⟨e5,e6⟩:=ifT_fin e4
 obtain⟨e7,e8⟩:=ifT_fin e6
 rw[wrN_eq]at e8
 have hk:k'=kN k:=Nat.eq_of_beq_eq_true e5
 have hn:=Nat.le_of_ble_eq_true e7
 rw[sh_bits]at hn
 refine⟨_,e8,fun ρ X Y hX hY=>⟨_,vOf_den' k ρ _,fun w s t=>?_⟩⟩
 have d1:=nat_den e1 hX
 have d2:=nat_den e3 hY
 rw[hk,kd_kN]at d1
 rw[d1,d2,Sem.run_bind,noGuard (.inl rfl)]
 have:((Nat.shiftLeft m n:Nat):Int)=(m:Int)*2^n:=by show((m<<<n:Nat):Int)=_;rw[Nat.shiftLeft_eq];simp
 rw[this]
 simp[binOp,Op.shift,Nat.min_eq_left hn,show¬(n:Int)<0 by omega]
theorem ok_shr:BFok P (aShr (kN k) (sh k)) .shr T:=by
 intro x y q v' h' c' H
 obtain⟨k',m,e1,e2⟩:=asN_fin H
 obtain⟨k2,n,e3,e4⟩:=asN_fin e2
 obtain⟨e5,e6⟩:=ifT_fin e4
 obtain⟨e7,e8⟩:=ifT_fin e6
 rw[fN_eq]at e8
 have hk:k'=kN k:=Nat.eq_of_beq_eq_true e5
 have hn:=Nat.le_of_ble_eq_true e7
 rw[sh_bits]at hn
 refine⟨_,e8,fun ρ X Y hX hY=>⟨.int k ((Nat.shiftRight m n:Nat):Int),by simp[den,kd_kN],fun w s t=>?_⟩⟩
 have d1:=nat_den e1 hX
 have d2:=nat_den e3 hY
 rw[hk,kd_kN]at d1
 rw[d1,d2,Sem.run_bind,noGuard (.inr (.inl rfl))]
 have:((Nat.shiftRight m n:Nat):Int)=(m:Int).fdiv (2^n):=by
  show((m>>>n:Nat):Int)=_
  rw[Nat.shiftRight_eq_div_pow,Int.fdiv_eq_ediv_of_nonneg _ (by exact Int.le_of_lt (Int.pow_pos (by decide)))]
  simp
 rw[this]
 simp[binOp,Op.shift,Nat.min_eq_left hn,show¬(n:Int)<0 by omega]
end
theorem cAr_ok {P:Program} {T:TypeId} {k:IntKind} {op:BinOp} {f:BF} (h:cAr op k=.mk f):BFok P f op T:=by
 cases op<;>simp only[cAr]at h<;>first|cases h|skip
 · exact ok_add k
 · exact ok_sub k
 · exact ok_mul k
 · exact ok_quo k
 · exact ok_rem k
 · exact ok_and k
 · exact ok_or k
 · exact ok_xor k
 · exact ok_shl k
 · exact ok_shr k
 · exact ok_andNot k
 · exact ok_eq k
 · exact ok_ne k
 · exact ok_lt k
 · exact ok_le k
 · exact ok_gt k
 · exact ok_ge k
end Ev
end
section
namespace Ev
open Go Go.RowKit
set_option linter.unusedVariables false
set_option linter.unusedSimpArgs false
theorem seq_eq:∀a b:List Nat,seq a b=(a.map UInt8.ofNat==b.map UInt8.ofNat)
 |[],[]=>rfl
 |[],_::_=>rfl
 |_::_,[]=>rfl
 |x::a,y::b=>by
  show Bool.rec (motive:=fun _=>Bool) false (seq a b) (Nat.beq (x%256) (y%256))=_
  rw[seq_eq a b]
  simp only[List.map_cons,List.cons_beq_cons]
  have:(UInt8.ofNat x==UInt8.ofNat y)=Nat.beq (x%256) (y%256):=by
   rw[Bool.eq_iff_iff]
   simp only[beq_iff_eq,Nat.beq_eq_true_eq,Nat.beq_eq]
   constructor
   · intro h
     have:=congrArg UInt8.toNat h
     simpa using this
   · intro h
     exact UInt8.toNat_inj.1 (by simpa using h)
  rw[this]
  cases Nat.beq (x%256) (y%256)<;>rfl
theorem str_list (l:List Nat):(str l).toList=l.map UInt8.ofNat:=by rw[ByteArray.toList_eq];simp[str]
theorem seq_str (a b:List Nat):seq a b=((str a).toList==(str b).toList):=by rw[seq_eq,str_list,str_list]
theorem str_append (a b:List Nat):str (a++b)=str a++str b:=by
 apply ByteArray.ext
 simp[str,ByteArray.data_append]
section
variable {X:Spx} {P:Program} {nt:Nat} {o:Oper} {d:DS}
theorem str_guard (op:BinOp) (T:TypeId) (a b:ByteArray) (s t:Operand) (w:World):(eqGuard op T s t (.string a) (.string b)).run P w=.ok () w:=by
 unfold eqGuard;cases op<;>rfl
theorem cSr_ok {T:TypeId} {op:BinOp} {f:BF} (h:cSr op=.mk f):BFok P f op T:=by
 cases op<;>simp only[cSr]at h<;>first|cases h|skip
 · intro x y q v' h' c' H
   obtain⟨a,e1,e2⟩:=asS_fin H
   obtain⟨b,e3,e4⟩:=asS_fin e2
   obtain⟨e5,e6⟩:=ifT_fin e4
   rw[fL_eq,app_eq]at e6
   refine⟨_,e6,fun ρ X Y hX hY=>⟨.string (str a++str b),by simp[den,str_append],fun w s t=>?_⟩⟩
   rw[str_den e1 hX,str_den e3 hY,Sem.run_bind,str_guard]
   have hle:¬(((str a).size+(str b).size:Nat):Int)>IntKind.i64.max:=by
    have:=Nat.le_of_ble_eq_true e5
    rw[len_eq,len_eq]at this
    have hm:IntKind.i64.max=9223372036854775807:=by decide
    rw[str_size,str_size,hm]
    have:a.length+b.length≤9223372036854775807:=this
    omega
   simp only[Result.andThen_ok]
   simp only[binOp,Op.stringOp]
   rw[if_neg hle];rfl
 · intro x y q v' h' c' H
   obtain⟨a,e1,e2⟩:=asS_fin H
   obtain⟨b,e3,e4⟩:=asS_fin e2
   rw[bol_eq,seq_str]at e4
   refine⟨_,e4,fun ρ X Y hX hY=>⟨_,rfl,fun w s t=>?_⟩⟩
   rw[str_den e1 hX,str_den e3 hY,Sem.run_bind,str_guard];rfl
 · intro x y q v' h' c' H
   obtain⟨a,e1,e2⟩:=asS_fin H
   obtain⟨b,e3,e4⟩:=asS_fin e2
   rw[nbl_eq,seq_str]at e4
   refine⟨_,e4,fun ρ X Y hX hY=>⟨_,rfl,fun w s t=>?_⟩⟩
   rw[str_den e1 hX,str_den e3 hY,Sem.run_bind,str_guard];rfl
theorem snd_ar {op:BinOp} {T T':TypeId} {x y:Operand} {y1 y2:OP} {f:BF} (hop:o.op=.binOp op T x y T') (hd:cDst nt o.dst=.mk d) (h1:cOpd nt x=.mk y1) (h2:cOpd nt y=.mk y2) (hf:BFok P f op T):VSnd X P nt d (fAr d f y1 y2) o:=by
 refine VSnd.of (by rw[hop];simp) hd fun cal t h c df k v' h' c' e=>?_
 obtain⟨v,e1,e2⟩:=hf _ _ _ _ _ _ e
 refine⟨v,e1,fun w0 ρ a w hR hT=>?_⟩
 obtain⟨r,g1,g2⟩:=e2 ρ _ _ (opd_den h1 hT) (opd_den h2 hT)
 refine⟨r,g1,?_⟩
 have:=g2 w x y
 simp only[execOp,hop]
 rw[Sem.run_bind,this];rfl
theorem snd_ng {T:TypeId} {x:Operand} {y:OP} (hop:o.op=.unOp .neg T x) (hd:cDst nt o.dst=.mk d) (h1:cOpd nt x=.mk y):VSnd X P nt d (fNg d y) o:=by
 refine VSnd.of (by rw[hop];simp) hd fun cal t h c df k v' h' c' e=>?_
 obtain⟨i,n,e1,e2⟩:=asI_fin e
 rw[wr_eq]at e2
 refine⟨_,e2,fun w0 ρ a w hR hT=>⟨_,vOf_den ρ _ _,?_⟩⟩
 have d1:=int_den (ρ:=ρ) e1
 rw[opd_den h1 hT]at d1
 cases hv:a.eval x<;>rw[hv]at d1<;>cases d1
 have:(Int.sub (.ofNat 0) n)=0-n:=rfl
 rw[this]
 simp[execOp,hop,hv,Op.unary,Op.intArith]
theorem snd_cv {s T:TypeId} {x:Operand} {y:OP} {k0 k:IntKind} (hop:o.op=.convert s T x) (hd:cDst nt o.dst=.mk d) (h1:cOpd nt x=.mk y) (hs:und (types P) s=some (.int k0)) (hT:und (types P) T=some (.int k)):VSnd X P nt d (fCv d (kN k) (hiN k) y) o:=by
 have run:∀(a:Act) (w:World) (j:IntKind) (n:Int),a.eval x=.int j n→(execOp a.eval o).run P w=.ok (.value (.int k (k.wrap n))) w:=by
  intro a w j n hv
  simp[execOp,hop,hv,convert,run_underlying (und_under hs).1,run_underlying (und_under hT).1,Conv.intToInt]
 refine VSnd.of (by rw[hop];simp) hd fun cal t h c df k' v' h' c' e=>?_
 have e':cvI (kN k) (hiN k) (y t) (fun v=>d v t fun t=>k' t h c df)=.fin v' h' c':=e
 unfold cvI at e'
 rw[asX_eq]at e'
 split at e'
 · rename_i j m hy
   rw[wrN_eq]at e'
   refine⟨_,e',fun w0 ρ a w hR hTR=>⟨_,vOf_den' k ρ _,?_⟩⟩
   exact run a w _ _ (nat_den hy (opd_den h1 hTR))
 · obtain⟨i,n,e1,e2⟩:=asI_fin e'
   rw[wr_eq,kd_kN]at e2
   refine⟨_,e2,fun w0 ρ a w hR hTR=>⟨_,vOf_den' k ρ _,?_⟩⟩
   have d1:=int_den (ρ:=ρ) e1
   rw[opd_den h1 hTR]at d1
   cases d2:a.eval x<;>rw[d2]at d1<;>cases d1
   exact run a w _ _ d2
theorem snd_cs {s T:TypeId} {x:Operand} {y:OP} (hop:o.op=.convert s T x) (hd:cDst nt o.dst=.mk d) (h1:cOpd nt x=.mk y) (hs:und (types P) s=some .string) (hT:und (types P) T=some .string):VSnd X P nt d (fCs d y) o:=by
 refine VSnd.of (by rw[hop];simp) hd fun cal t h c df k' v' h' c' e=>?_
 obtain⟨l,e1,e2⟩:=asS_fin e
 refine⟨_,e2,fun w0 ρ a w hR hTR=>⟨.string (str l),by simp[den],?_⟩⟩
 have hv:=str_den e1 (opd_den h1 hTR)
 simp[execOp,hop,hv,convert,run_underlying (und_under hs).1,run_underlying (und_under hT).1]
theorem snd_lnS {T:TypeId} {x:Operand} {y:OP} {cc:Call} (hop:o.op=.call cc) (hcc:cc.callee=.builtin .len) (ha:cc.args.toList=[x]) (hat:cc.argTypes.toList=[T]) (hd:cDst nt o.dst=.mk d) (h1:cOpd nt x=.mk y) (hT:und (types P) T=some .string):VSnd X P nt d (fLnS d y) o:=by
 refine VSnd.of (by rw[hop];simp) hd fun cal t h c df k' v' h' c' e=>?_
 obtain⟨l,e1,e2⟩:=asS_fin e
 rw[fN_eq,len_eq]at e2
 refine⟨_,e2,fun w0 ρ a w hR hTR=>⟨.int .i64 l.length,by simp[den];rfl,?_⟩⟩
 have hv:=str_den e1 (opd_den h1 hTR)
 have ha':cc.args=#[x]:=Array.toList_inj.1 (by simpa using ha)
 have hat':cc.argTypes=#[T]:=Array.toList_inj.1 (by simpa using hat)
 simp[execOp,hop,hcc,resolve,invoke,builtin,ha',hat',hv,Builtin.len_,run_underlying (und_under hT).1,goInt,str_size]
theorem snd_lnL {T E:TypeId} {x:Operand} {y:OP} {cc:Call} (hop:o.op=.call cc) (hcc:cc.callee=.builtin .len) (ha:cc.args.toList=[x]) (hat:cc.argTypes.toList=[T]) (hd:cDst nt o.dst=.mk d) (h1:cOpd nt x=.mk y) (hT:und (types P) T=some (.slice E)):VSnd X P nt d (fLnL d y) o:=by
 refine VSnd.of (by rw[hop];simp) hd fun cal t h c df k' v' h' c' e=>?_
 have ha':cc.args=#[x]:=Array.toList_inj.1 (by simpa using ha)
 have hat':cc.argTypes=#[T]:=Array.toList_inj.1 (by simpa using hat)
 rcases asL_fin e with⟨e1,e2⟩|⟨b,r,n,q,s,e1,e2⟩
 · refine⟨_,e2,fun w0 ρ a w hR hTR=>⟨.int .i64 0,by simp[den];rfl,?_⟩⟩
   have hv:=opd_den h1 hTR
   rw[e1]at hv
   simp only[den,Option.some.injEq]at hv
   simp[execOp,hop,hcc,resolve,invoke,builtin,ha',hat',←hv,Builtin.len_,run_underlying (und_under hT).1,goInt]
 · refine⟨_,e2,fun w0 ρ a w hR hTR=>⟨.int .i64 n,by simp[den];rfl,?_⟩⟩
   obtain⟨p,_,hv⟩:=sl_den e1 (opd_den h1 hTR)
   simp[execOp,hop,hcc,resolve,invoke,builtin,ha',hat',hv,Builtin.len_,run_underlying (und_under hT).1,goInt]
theorem snd_lna {T:TypeId} {x:Operand} {y:OP} {cc:Call} {n:Nat} (hop:o.op=.call cc) (hcc:cc.callee=.builtin .len) (ha:cc.args.toList=[x]) (hat:cc.argTypes.toList=[T]) (hd:cDst nt o.dst=.mk d) (hT:(∃E,und (types P) T=some (.array n E))∨∃r E,und (types P) T=some (.pointer r)∧und (types P) r=some (.array n E)):VSnd X P nt d (fLna d n) o:=by
 refine VSnd.of (by rw[hop];simp) hd fun cal t h c df k' v' h' c' e=>⟨_,e,fun w0 ρ a w hR hTR=>⟨.int .i64 n,by simp[den];rfl,?_⟩⟩
 have ha':cc.args=#[x]:=Array.toList_inj.1 (by simpa using ha)
 have hat':cc.argTypes=#[T]:=Array.toList_inj.1 (by simpa using hat)
 rcases hT with⟨E,hT⟩|⟨r,E,hT,hr⟩
 · simp[execOp,hop,hcc,resolve,invoke,builtin,ha',hat',Builtin.len_,run_underlying (und_under hT).1,goInt]
 · simp[execOp,hop,hcc,resolve,invoke,builtin,ha',hat',Builtin.len_,run_underlying (und_under hT).1,run_underlying (und_under hr).1,goInt]
theorem snd_cp {T E:TypeId} {x:Operand} {y:OP} {cc:Call} (hop:o.op=.call cc) (hcc:cc.callee=.builtin .cap) (ha:cc.args.toList=[x]) (hat:cc.argTypes.toList=[T]) (hd:cDst nt o.dst=.mk d) (h1:cOpd nt x=.mk y) (hT:und (types P) T=some (.slice E)):VSnd X P nt d (fCp d y) o:=by
 refine VSnd.of (by rw[hop];simp) hd fun cal t h c df k' v' h' c' e=>?_
 have ha':cc.args=#[x]:=Array.toList_inj.1 (by simpa using ha)
 have hat':cc.argTypes=#[T]:=Array.toList_inj.1 (by simpa using hat)
 rcases asL_fin e with⟨e1,e2⟩|⟨b,r,n,q,s,e1,e2⟩
 · refine⟨_,e2,fun w0 ρ a w hR hTR=>⟨.int .i64 0,by simp[den];rfl,?_⟩⟩
   have hv:=opd_den h1 hTR
   rw[e1]at hv
   simp only[den,Option.some.injEq]at hv
   simp[execOp,hop,hcc,resolve,invoke,builtin,ha',hat',←hv,Builtin.cap_,run_underlying (und_under hT).1,goInt]
 · obtain⟨e3,e4⟩:=ifF_fin e2
   refine⟨_,e4,fun w0 ρ a w hR hTR=>⟨.int .i64 q,by simp[den];rfl,?_⟩⟩
   obtain⟨p,_,hv⟩:=sl_den e1 (opd_den h1 hTR)
   subst e3
   simp[execOp,hop,hcc,resolve,invoke,builtin,ha',hat',hv,Builtin.cap_,run_underlying (und_under hT).1,goInt]
theorem snd_mx {x z:Operand} {y1 y2:OP} {cc:Call} (hop:o.op=.call cc) (hcc:cc.callee=.builtin .max) (ha:cc.args.toList=[x,z]) (hd:cDst nt o.dst=.mk d) (h1:cOpd nt x=.mk y1) (h2:cOpd nt z=.mk y2):VSnd X P nt d (fMx d y1 y2) o:=by
 refine VSnd.of (by rw[hop];simp) hd fun cal t h c df k' v' h' c' e=>?_
 have ha':cc.args=#[x,z]:=Array.toList_inj.1 (by simpa using ha)
 obtain⟨i,m,e1,e2⟩:=asI_fin e
 obtain⟨j,n,e3,e4⟩:=asI_fin e2
 rw[vI_eq]at e4
 refine⟨_,e4,fun w0 ρ a w hR hTR=>⟨.int (kd i) (if m<n then n else m),?_,?_⟩⟩
 · have:=vOf_den ρ i (ifT (ilt m n) n m)
   rw[ilt_eq]at this
   rw[ilt_eq]
   by_cases hlt:m<n
   · rw[show decide (m<n)=true by simpa using hlt]at this⊢
     rw[if_pos hlt];exact this
   · rw[show decide (m<n)=false by simpa using hlt]at this⊢
     rw[if_neg hlt];exact this
 · have d1:=int_den (ρ:=ρ) e1
   have d2:=int_den (ρ:=ρ) e3
   rw[opd_den h1 hTR]at d1
   rw[opd_den h2 hTR]at d2
   have d1:=Option.some.inj d1
   have d2:=Option.some.inj d2
   simp[execOp,hop,hcc,resolve,invoke,builtin,ha',d1,d2,Builtin.max_,Builtin.max2]
theorem snd_mn {x z:Operand} {y1 y2:OP} {cc:Call} (hop:o.op=.call cc) (hcc:cc.callee=.builtin .min) (ha:cc.args.toList=[x,z]) (hd:cDst nt o.dst=.mk d) (h1:cOpd nt x=.mk y1) (h2:cOpd nt z=.mk y2):VSnd X P nt d (fMn d y1 y2) o:=by
 refine VSnd.of (by rw[hop];simp) hd fun cal t h c df k' v' h' c' e=>?_
 have ha':cc.args=#[x,z]:=Array.toList_inj.1 (by simpa using ha)
 obtain⟨i,m,e1,e2⟩:=asI_fin e
 obtain⟨j,n,e3,e4⟩:=asI_fin e2
 rw[vI_eq]at e4
 refine⟨_,e4,fun w0 ρ a w hR hTR=>⟨.int (kd i) (if n<m then n else m),?_,?_⟩⟩
 · have:=vOf_den ρ i (ifT (ilt n m) n m)
   rw[ilt_eq]at this
   rw[ilt_eq]
   by_cases hlt:n<m
   · rw[show decide (n<m)=true by simpa using hlt]at this⊢
     rw[if_pos hlt];exact this
   · rw[show decide (n<m)=false by simpa using hlt]at this⊢
     rw[if_neg hlt];exact this
 · have d1:=int_den (ρ:=ρ) e1
   have d2:=int_den (ρ:=ρ) e3
   rw[opd_den h1 hTR]at d1
   rw[opd_den h2 hTR]at d2
   have d1:=Option.some.inj d1
   have d2:=Option.some.inj d2
   simp[execOp,hop,hcc,resolve,invoke,builtin,ha',d1,d2,Builtin.min_,Builtin.min2]
end
end Ev
end
section
namespace Ev
open Go Go.RowKit
set_option linter.unusedVariables false
set_option linter.unusedSimpArgs false
theorem newK_fin {b:Blk} {h:HP} {c:Nat} {k:HP→Nat→R} {v:V} {h':HP} {c':Nat} (e:newK b h c k=.fin v h' c'):c≤65535∧k (hs h c b) (c+1)=.fin v h' c':=by
 obtain⟨e1,e2⟩:=ifT_fin e
 rw[hset_eq,fN_eq]at e2
 exact⟨Nat.le_of_ble_eq_true e1,e2⟩
theorem newC_fin {ty n q:Nat} {z:Z} {t:Ce} {h:HP} {c:Nat} {k:HP→Nat→R} {v:V} {h':HP} {c':Nat} (e:newC ty n q z t h c k=.fin v h' c'):n≤t.cap∧c≤65535∧k (hs h c (.c ty n q z t)) (c+1)=.fin v h' c':=by
 obtain⟨e1,e2⟩:=ifT_fin e
 obtain⟨e3,e4⟩:=newK_fin e2
 exact⟨(ceB_iff n t).1 e1,e3,e4⟩
section
variable {X:Spx} {P:Program} {w0:Base} {w:World} {ρ:Rho} {h:HP} {c:Nat}
theorem Kp.new (H:HR X P w0 ρ h c w) {b:Blk} (hc:c≤65535):Kp h (Ev.hs h c b) c:=fun k hk e=>by
 rw[hget_hs b h (by omega) (by omega),if_neg (by omega)];exact e
theorem HR.newC (H:HR X P w0 ρ h c w) {ty n q κ:Nat} {z:Z} {t:Ce} {cs:Array Value} (hc:c≤65535) (h1:n≤t.cap) (h2:n≤cs.size) (h3:q=0→cs.size=n) (h4:q≠0→cs.size=κ*q) (hC:CR ρ z t n cs):
 Le ρ (up ρ c (w.heap.size,κ))∧HR X P w0 (up ρ c (w.heap.size,κ)) (Ev.hs h c (.c ty n q z t)) (c+1) (w.alloc (.cells cs ty))∧Kp h (Ev.hs h c (.c ty n q z t)) c:=by
 refine⟨H.le_up _,H.new hc _ κ (by simp) (by simp) ?_,Kp.new H hc⟩
 exact⟨(w.heap.size,κ),cs,up_self _ _ _,by rw[World.alloc];simp,h1,h2,h3,h4,hC.mono (H.le_up _)⟩
end
theorem unif_all {k:IntKind}:∀{l:List Value},unif k l=true→∀i,i<l.length→l[i]?=some (.int k 0)
 |[],_,i,h=>by simp at h
 |v::l,hu,i,hi=>by
  cases v with
  |int k' n=>
   simp only[unif,Bool.and_eq_true]at hu
   obtain⟨⟨h1,h2⟩,h3⟩:=hu
   have hk:k=k':=by have:=Nat.eq_of_beq_eq_true h1;rw[←kd_kN k,this,kd_kN]
   have hn:n=0:=by rw[ieq_eq]at h2;simpa using h2
   subst hk;subst hn
   cases i with
   |zero=>rfl
   |succ i=>simpa using unif_all h3 i (by simpa using hi)
  |_=>simp[unif]at hu
theorem zer_pat {l:List Value} {z:Z} (h:zer l=some z) (ρ:Rho) (i:Nat) (hl:0<l.length):∃v,l[i%l.length]?=some v∧den ρ (dfl z i)=some v:=by
 have pat:∀{l:List Value} {x:List V},cVs l=some x→0<l.length→∃v,l[i%l.length]?=some v∧den ρ (dfl (.l x l.length) i)=some v:=by
  intro l x hx hl
  have hd:=cVs_den (ρ:=ρ) hx
  have hlen:=denL_length hd
  have hlt:i%l.length<x.length:=by rw[←hlen];exact Nat.mod_lt _ hl
  exact nth_den hd hlt
 unfold zer at h
 split at h
 · rename_i k r
   cases hu:unif k r with
   |true=>
    rw[hu]at h;cases h
    refine⟨.int k 0,?_,by simp[dfl,den,kd_kN]⟩
    have hu':unif k (.int k (.ofNat 0)::r)=true:=by
     simp only[unif,hu,Bool.and_true]
     rw[show ieq (Int.ofNat 0) 0=true from rfl]
     simp
    exact unif_all hu' _ (Nat.mod_lt _ hl)
   |false=>
    rw[hu]at h
    simp only[cond_false,Option.map_eq_some_iff]at h
    obtain⟨x,hx,rfl⟩:=h
    exact pat hx hl
 · simp only[Option.map_eq_some_iff]at h
   obtain⟨x,hx,rfl⟩:=h
   exact pat hx hl
theorem orD_u {v:V} {z:Z} {o:Nat} (h:v=.u):orD v z o=dfl z o:=by subst h;rfl
section
variable {X:Spx} {P:Program} {nt:Nat} {o:Oper} {d:DS}
theorem snd_alloc {T:TypeId} {l:List Value} {z:Z} (hop:o.op=.alloc T) (hd:cDst nt o.dst=.mk d) (hz:zOf (types P) T=some l) (hzz:zer l=some z) (hl:l.length=siz (types P) T):OSnd X P nt (fAlloc d T (siz (types P) T) z) o:=by
 refine OSnd.mem (by rw[hop];simp) hd fun cal _ t h c df k v' h' c' e=>?_
 obtain⟨e1,e2,e3⟩:=newC_fin e
 refine⟨_,_,_,e3,fun w0 ρ a w hR hT=>?_⟩
 obtain⟨i,zv,hi,hzv,hcl⟩:=zOf_zero hz
 have hsz:zv.cells.size=siz (types P) T:=by rw[←hl,←hcl];simp
 have hC:CR ρ z (ce0 (siz (types P) T)) (siz (types P) T) zv.cells:=by
  intro j hj
  obtain⟨v,g1,g2⟩:=zer_pat hzz ρ j (by omega)
  rw[Nat.mod_eq_of_lt (by omega)]at g1
  refine⟨v,by rw[←hcl]at g1;simpa using g1,?_⟩
  unfold cell
  rw[orD_u (cget_ce0 _ _ (by omega))];exact g2
 obtain⟨g1,g2,g3⟩:=hR.newC (ty:=T) (κ:=0) (q:=0) e2 e1 (by omega) (fun _=>hsz) (fun hh=>absurd rfl hh) hC
 refine⟨_,.pointer (some ⟨w.heap.size,0,none⟩),_,g1,g2,by simp[den,up_self],g3,by omega,?_⟩
 simp[execOp,hop,Instr.alloc,zeroValue,typeInfo,hi,hzv,newVar,newRow]
theorem snd_box {T:TypeId} {x:Operand} {y:OP} (hop:o.op=.box T x) (hd:cDst nt o.dst=.mk d) (h1:cOpd nt x=.mk y):OSnd X P nt (fBox d T (siz (types P) T) y) o:=by
 refine OSnd.mem (by rw[hop];simp) hd fun cal _ t h c df k v' h' c' e=>?_
 obtain⟨e0,e1⟩:=ifT_fin e
 have hlen:(cl (y t)).length=siz (types P) T:=by rw[←len_eq];exact Nat.eq_of_beq_eq_true e0
 obtain⟨u,e2,e3,e8,e4⟩:=stK_fin (o:=0) e1
 obtain⟨e5,e6,e7⟩:=newC_fin e2
 refine⟨_,_,_,e7,fun w0 ρ a w hR hT=>?_⟩
 have hx:=cl_den (opd_den h1 hT)
 have hsz:(a.eval x).cells.size=siz (types P) T:=by have:=denL_length hx;rw[hlen]at this;simpa using this
 have hcap0:siz (types P) T≤(ce0 (siz (types P) T)).cap:=e8▸e5
 have hu:=e4 (by omega)
 have hC:CR ρ (.c .u) u (siz (types P) T) (a.eval x).cells:=by
  rw[hu]
  refine CR.sets (n:=0) (cs:=#[]) (fun i hi=>by omega) hx e3 (by omega) hcap0 fun i hi=>?_
  rw[if_pos ⟨by omega,by omega⟩]
  simp
 obtain⟨g1,g2,g3⟩:=hR.newC (ty:=T) (κ:=0) (q:=0) e6 e5 (by omega) (fun _=>hsz) (fun hh=>absurd rfl hh) hC
 refine⟨_,.pointer (some ⟨w.heap.size,0,none⟩),_,g1,g2,by simp[den,up_self],g3,by omega,?_⟩
 simp[execOp,hop,Instr.box,newVar,newRow]
end
end Ev
end
section
namespace Ev
open Go Go.RowKit
set_option linter.unusedVariables false
set_option linter.unusedSimpArgs false
theorem fold_set (off:Nat):∀(xs:List Value) (k:Nat) (cs:Array Value),((xs.zipIdx k).foldl (fun cs p=>cs.setIfInBounds (off+p.2) p.1) cs).size=cs.size∧
 ∀i,i<cs.size→((xs.zipIdx k).foldl (fun cs p=>cs.setIfInBounds (off+p.2) p.1) cs)[i]?=if off+k≤i∧i<off+k+xs.length then xs[i-off-k]? else cs[i]?
 |[],k,cs=>⟨rfl,fun i _=>by rw[if_neg (by simp)];rfl⟩
 |x::xs,k,cs=>by
  simp only[List.zipIdx_cons,List.foldl_cons]
  obtain⟨h1,h2⟩:=fold_set off xs (k+1) (cs.setIfInBounds (off+k) x)
  refine⟨by rw[h1];simp,fun i hi=>?_⟩
  rw[h2 i (by simpa using hi)]
  simp only[List.length_cons]
  by_cases e:i=off+k
  · subst e
    rw[if_neg (by omega),if_pos (by omega)]
    have:off+k-off-k=0:=by omega
    rw[this]
    simp[hi]
  · by_cases hin:off+k≤i∧i<off+k+(xs.length+1)
    · rw[if_pos (by omega),if_pos hin]
      have:i-off-k=(i-off-(k+1))+1:=by omega
      rw[this];simp
    · rw[if_neg (by omega),if_neg hin,Array.getElem?_setIfInBounds_ne (by omega)]
theorem psK_fin {tt:TT} {nt:Nat} {pl:Nat→Option (Nat × Nat)} {m:Nat} {t0:TM}:∀{l:List (Nat × Operand)} {ps:List (Nat × Nat × OP)} {u:Ce} {k:Ce→R} {v:V} {h:HP} {c:Nat},parts tt nt pl l=.mk ps→psK m t0 ps u k=.fin v h c→
 ∃u',k u'=.fin v h c∧u'.cap=u.cap∧∀(ρ:Rho) (a:Act) (z:Z) (cs:Array Value),TR ρ nt t0 a.tmps→m≤u.cap→cs.size=m→CR ρ z u m cs→
  ∃cs',Instr.fill pl cs (l.map fun p=>(p.1,a.eval p.2))=some cs'∧cs'.size=m∧CR ρ z u' m cs'
 |[],ps,u,k,v,h,c,hp,H=>by
  cases hp
  exact⟨u,H,rfl,fun ρ a z cs _ _ hs hC=>⟨cs,rfl,hs,hC⟩⟩
 |(i,x)::l,ps,u,k,v,h,c,hp,H=>by
  unfold parts at hp
  split at hp
  · rename_i o' sz y ys h1 h2 h3
    cases hp
    have H':ifT (Nat.beq (len (cl (y t0))) sz) (ifT (Nat.ble (Nat.add o' sz) m) (stK (cl (y t0)) u o' fun t=>psK m t0 ys t k) (.bad 14)) (.bad 15)=.fin v h c:=H
    obtain⟨e1,e2⟩:=ifT_fin H'
    obtain⟨e3,e4⟩:=ifT_fin e2
    obtain⟨u1,e5,e6,e7,e8⟩:=stK_fin e4
    obtain⟨u',g1,g2,g3⟩:=psK_fin h3 e5
    have hlen:(cl (y t0)).length=sz:=by rw[←len_eq];exact Nat.eq_of_beq_eq_true e1
    have hle:o'+sz≤m:=Nat.le_of_ble_eq_true e3
    refine⟨u',g1,g2.trans e7,fun ρ a z cs hT hcap hs hC=>?_⟩
    have hx:=cl_den (opd_den h2 hT)
    have hsz:(a.eval x).cells.size=sz:=by have:=denL_length hx;rw[hlen]at this;simpa using this
    have hf:=fold_set o' (a.eval x).cells.toList 0 cs
    have hC1:CR ρ z u1 m (((a.eval x).cells.toList.zipIdx 0).foldl (fun cs p=>cs.setIfInBounds (o'+p.2) p.1) cs):=by
     rw[e8 (by omega)]
     refine CR.sets (cs:=cs) hC hx e6 (by omega) hcap fun i hi=>?_
     have:=hf.2 i (by omega)
     simp only[Nat.add_zero,Array.length_toList,Nat.sub_zero,hsz]at this
     rw[hlen,this]
     split
     · rfl
     · exact⟨hi,rfl⟩
    obtain⟨cs',k1,k2,k3⟩:=g3 ρ a z _ hT (by omega) (by rw[hf.1];exact hs) hC1
    refine⟨cs',?_,k2,k3⟩
    simp only[List.map_cons,Instr.fill,h1]
    rw[if_neg (by rw[hsz];simp;omega)]
    rw[←k1]
    congr 1
    rw[←Array.foldl_toList]
    simp[Array.toList_zipIdx]
  · cases hp
section
variable {X:Spx} {P:Program} {nt:Nat} {o:Oper} {d:DS}
theorem CR.const {ρ:Rho} {z:List V} {l:List Value} (hz:denL ρ z=some l) (hc:len z≤(ce0 (len z)).cap):CR ρ (.l z (len z)) (ce0 (len z)) (len z) l.toArray:=by
 intro i hi
 have hi':=hi
 rw[len_eq]at hi'
 obtain⟨v,h1,h2⟩:=nth_den hz hi'
 refine⟨v,by simpa using h1,?_⟩
 unfold cell
 rw[orD_u (cget_ce0 _ _ (by omega))]
 show den ρ (nth z (i%len z))=_
 rw[Nat.mod_eq_of_lt hi];exact h2
theorem places_ok {fs:Array Field} (h:(fs.all fun f=>okI (types P) f.type)=true):fs.toList.mapM (fun f=>(P.info? f.type).map fun i=>(f.offset,i.size))=some (fs.toList.map fun f=>(f.offset,siz (types P) f.type)):=by
 have h':∀f∈fs.toList,okI (types P) f.type=true:=by
  intro f hf
  rw[Array.all_eq_true]at h
  obtain⟨i,hi,rfl⟩:=Array.mem_iff_getElem.1 (Array.mem_toList_iff.1 hf)
  exact h i hi
 generalize fs.toList=l at h'⊢
 clear h
 induction l with
 |nil=>rfl
 |cons f l ih=>
  obtain⟨D,hD⟩:=okI_some (h' f (by simp))
  obtain⟨i,hi,hs,_⟩:=(und_under hD).2
  rw[List.mapM_cons,ih fun g hg=>h' g (by simp[hg])]
  simp[hi,hs]
theorem snd_build {T:TypeId} {ps:Array (Nat × Operand)} {z:List V} {l:List Value} {pl:Nat→Option (Nat × Nat)} {os:List (Nat × Nat × OP)} (hop:o.op=.build T ps) (hd:cDst nt o.dst=.mk d) (hz:zOf (types P) T=some l) (hzz:cVs l=some z) (hc:ceB (len z) (ce0 (len z))=true) (hp:parts (types P) nt pl ps.toList=.mk os)
 (hpl:(∃fs,und (types P) T=some (.struct fs)∧(fs.all fun f=>okI (types P) f.type)=true∧pl=fun i=>(fs[i]?).map fun f=>(f.offset,siz (types P) f.type))∨∃n E,und (types P) T=some (.array n E)∧okI (types P) E=true∧pl=fun i=>some (i*siz (types P) E,siz (types P) E)):VSnd X P nt d (fBuild d z os) o:=by
 refine VSnd.of (by rw[hop];simp) hd fun cal t h c df k v' h' c' e=>?_
 obtain⟨u,e1,e2,e3⟩:=psK_fin hp e
 rw[cellsK_eq]at e1
 refine⟨_,e1,fun w0 ρ a w hR hT=>?_⟩
 obtain⟨i,zv,hi,hzv,hcl⟩:=zOf_zero hz
 have hzd:=cVs_den (ρ:=ρ) hzz
 have hlen:l.length=len z:=by rw[len_eq];exact denL_length hzd
 have hcap:=(ceB_iff _ _).1 hc
 have hcl':zv.cells=l.toArray:=by rw[←hcl]
 obtain⟨cs',g1,g2,g3⟩:=e3 ρ a (.l z (len z)) l.toArray hT hcap (by simpa using hlen) (CR.const hzd hcap)
 refine⟨.agg cs',?_,?_⟩
 · have:=CR.load (ρ:=ρ) g3 (len z) 0 (by omega)
   simp only[Nat.zero_add]at this
   have e0:(List.range (len z)).map (fun j=>cell (.l z (len z)) u (0+j))=(List.range (len z)).map fun j=>cell (.l z (len z)) u j:=by simp
   simp only[den]
   have e1':denL ρ ((List.range (len z)).map fun j=>cell (.l z (len z)) u (0+j))=some cs'.toList:=by
    rw[e0,this]
    simp only[List.drop_zero,Option.some.injEq]
    exact List.take_of_length_le (by simp;omega)
   have e2':denL ρ ((List.range (len z)).map fun j=>cell (.l z (len z)) u ((nat_lit 0)+j))=some cs'.toList:=e1'
   rw[e2'];simp
 · have hb:P.built T (ps.map fun(i,x)=>(i,a.eval x)).toList=some cs':=by
    unfold Program.built
    rw[hi]
    rcases hpl with⟨fs,hfs,hall,rfl⟩|⟨n,E,hE,hok,rfl⟩
    · rw[(und_under hfs).1]
      simp only[hzv,places_ok hall,hcl']
      rw[←g1]
      congr 1
      · funext i;simp
      · simp
    · rw[(und_under hE).1]
      obtain⟨D,hD⟩:=okI_some hok
      obtain⟨ie,hie,hs,_⟩:=(und_under hD).2
      simp only[hzv,hie,hcl']
      rw[←g1,hs]
      congr 1
      simp
   simp only[execOp,hop]
   rw[Sem.run_bind,run_build w T _ cs' hb];rfl
theorem CR.pat {ρ:Rho} {z:List V} {l:List Value} {m:Nat} (hz:denL ρ z=some l) (hl:0<l.length) (hc:m≤(ce0 m).cap):CR ρ (.l z l.length) (ce0 m) m ((Array.range m).map fun j=>l.toArray[j%l.toArray.size]!):=by
 intro i hi
 have hlt:i%l.length<z.length:=by rw[←denL_length hz];exact Nat.mod_lt _ hl
 obtain⟨v,h1,h2⟩:=nth_den hz hlt
 refine⟨v,?_,?_⟩
 · simp[hi]
   have:i%l.length<l.length:=Nat.mod_lt _ hl
   rw[List.getElem?_eq_getElem this]at h1
   simpa[getElem!_pos,this]using h1
 · unfold cell
   rw[orD_u (cget_ce0 _ _ (by omega))]
   exact h2
theorem snd_bsl {T E n:Nat} {ps:Array (Nat × Operand)} {z:List V} {l:List Value} {os:List (Nat × Nat × OP)} (hop:o.op=.buildSlice T n ps) (hd:cDst nt o.dst=.mk d) (hT:und (types P) T=some (.slice E)) (hz:zOf (types P) E=some l) (hzz:cVs l=some z) (hl:z.length=siz (types P) E) (hpos:0<siz (types P) E) (hle:n*siz (types P) E≤1000000)
 (hp:parts (types P) nt (fun i=>some (i*siz (types P) E,siz (types P) E)) ps.toList=.mk os):OSnd X P nt (fBsl d E (siz (types P) E) n z os) o:=by
 refine OSnd.mem (by rw[hop];simp) hd fun cal _ t h c df k v' h' c' e=>?_
 have e0:psK (n*siz (types P) E) t os (ce0 (n*siz (types P) E)) (fun u=>newC E (n*siz (types P) E) (nat_lit 0) (.l z (siz (types P) E)) u h c fun h c'=>d (.sl c (nat_lit 0) n n false) t fun t=>k t h c' df)=.fin v' h' c':=by
  have:=e;unfold fBsl at this;rw[fN_eq]at this;exact this
 obtain⟨u,e1,e2,e3⟩:=psK_fin hp e0
 obtain⟨e4,e5,e6⟩:=newC_fin e1
 refine⟨_,_,_,e6,fun w0 ρ a w hR hT'=>?_⟩
 obtain⟨i,zv,hi,hzv,hcl⟩:=zOf_zero hz
 obtain⟨ie,hie,hs,_⟩:=siz_pos hpos
 rw[hi]at hie;cases hie
 have hzd:=cVs_den (ρ:=ρ) hzz
 have hlen:l.length=siz (types P) E:=by rw[←hl];exact denL_length hzd
 have hcl':zv.cells=l.toArray:=by rw[←hcl]
 have hcap:n*siz (types P) E≤(ce0 (n*siz (types P) E)).cap:=e2▸e4
 have hpat:=CR.pat (m:=n*siz (types P) E) hzd (by omega) hcap
 rw[hlen]at hpat
 obtain⟨cs',g1,g2,g3⟩:=e3 ρ a (.l z (siz (types P) E)) _ hT' hcap (by simp) hpat
 obtain⟨k1,k2,k3⟩:=hR.newC (ty:=E) (κ:=0) (q:=0) e5 e4 (by omega) (fun _=>g2) (fun hh=>absurd rfl hh) g3
 refine⟨_,.slice (some ⟨w.heap.size,0,none⟩) n n,_,k1,k2,by simp[den,up_self],k3,by omega,?_⟩
 have hps:(ps.map fun(i,x)=>(i,a.eval x)).toList=ps.toList.map fun p=>(p.1,a.eval p.2):=by simp
 have hzc:(if n*i.size=0 then(#[]:Array Value)else zv.cells)=if n*i.size=0 then#[]else l.toArray:=by rw[hcl']
 simp only[execOp,hop,Instr.buildSlice]
 have hle':¬n*i.size>2^24:=by rw[←hs];omega
 simp only[Sem.run_bind,run_underlying (und_under hT).1,Result.andThen_ok,run_sizeOf P hi]
 rw[if_neg hle']
 by_cases h0:n*i.size=0
 · have hn:n=0:=by
    rcases Nat.mul_eq_zero.1 h0 with h1|h1
    · exact h1
    · rw[←hs]at h1;omega
   subst hn
   simp only[h0,if_true,Sem.run_bind,Sem.run_pure,Result.andThen_ok]
   have g1':Instr.fill (fun j=>some (j*i.size,i.size)) ((Array.range 0).map fun j=>(#[]:Array Value)[j%(#[]:Array Value).size]!) (ps.map fun(i,x)=>(i,a.eval x)).toList=some cs':=by
    rw[hps,←g1,hs]
    congr 1
    simp
   rw[g1']
   simp[newRow]
 · rw[if_neg h0]
   have hzr:(zeroValue E).run P w=.ok zv w:=by simp[zeroValue,typeInfo,hi,hzv]
   have g1':Instr.fill (fun j=>some (j*i.size,i.size)) ((Array.range (n*i.size)).map fun j=>l.toArray[j%l.toArray.size]!) (ps.map fun(i,x)=>(i,a.eval x)).toList=some cs':=by
    rw[hps,←g1,hs]
   simp only[Sem.run_bind,hzr,Result.andThen_ok,Sem.run_pure,hcl']
   rw[g1']
   simp[newRow]
end
end Ev
end
section
namespace Ev
open Go Go.RowKit
set_option linter.unusedVariables false
set_option linter.unusedSimpArgs false
theorem rdL_eq {t:TM}:∀{l:List OP} {k:List V→R},rdL t l k=k (l.map fun o=>o t)
 |[],_=>rfl
 |o::l,k=>by
  show rdL t l (fun l=>k (o t::l))=_
  rw[rdL_eq];rfl
theorem byK_fin:∀{l:List V} {k:List Nat→R} {v:V} {h:HP} {c:Nat},byK l k=.fin v h c→∃s,k s=.fin v h c∧∀ρ r,denL ρ l=some r→r=(s.map fun(m:Nat)=>(m:Int)).map (Value.int .u8)
 |[],k,v,h,c,H=>⟨[],H,fun ρ r hr=>by simp[denL]at hr;simp[←hr]⟩
 |x::l,k,v,h,c,H=>by
  have H':asN x (fun q m=>ifT (Nat.beq q 4) (byK l fun l=>k (m::l)) (.bad 44))=.fin v h c:=H
  obtain⟨q,m,e1,e2⟩:=asN_fin H'
  obtain⟨e3,e4⟩:=ifT_fin e2
  obtain⟨s,g1,g2⟩:=byK_fin e4
  have hq:q=4:=Nat.eq_of_beq_eq_true e3
  refine⟨m::s,g1,fun ρ r hr=>?_⟩
  obtain⟨y,ys,rfl,h1,h2⟩:=denL_cons.1 hr
  rw[g2 ρ ys h2,nat_den e1 h1,hq]
  rfl
theorem push_str (s:List Nat):∀(r:List Nat),(s.map fun(m:Nat)=>(m:Int)).foldl (fun r n=>r.push (UInt8.ofNat n.toNat)) (str r)=str (r++s):=by
 induction s with
 |nil=>intro r;simp
 |cons m s ih=>
  intro r
  simp only[List.map_cons,List.foldl_cons]
  have:(str r).push (UInt8.ofNat (m:Int).toNat)=str (r++[m]):=by
   apply ByteArray.ext
   simp[str,ByteArray.push]
  rw[this,ih]
  simp
theorem str_nil:str []=ByteArray.empty:=rfl
theorem run_bounds {P:Program} {w:World} {s:Bool} {len cap l h m:Nat} {low high max:Option Value} (hm:(max=none∧m=cap)∨∃k,max=some (.int k m)∧m≤cap)
 (hh:(high=none∧max=none∧h=len)∨∃k,high=some (.int k h)∧h≤m) (hl:(low=none∧l=0)∨∃k,low=some (.int k l)∧l≤h):
 (Instr.sliceBounds s len cap low high max).run P w=.ok (l,h,m) w:=by
 have hb:∀(k:IntKind) (i y:Nat) (code:BoundsCode),i≤y→(Instr.sliceBound (.int k i) y code).run P w=.ok i w:=fun k i y code hi=>by
  simp[Instr.sliceBound,asIntOf,hi]
 rcases hm with⟨rfl,rfl⟩|⟨km,rfl,hm⟩<;>rcases hh with⟨rfl,h0,rfl⟩|⟨kh,rfl,hh⟩<;>rcases hl with⟨rfl,rfl⟩|⟨kl,rfl,hl⟩<;>first
  |(exfalso;cases h0;done)
  |(simp[Instr.sliceBounds,Sem.run_bind,hb, *];done)
theorem bnd_fin {nt:Nat} {t:TM} {lo:Option Operand} {o:Option OP} {n:Nat} {k:Nat→R} {v:V} {h:HP} {c:Nat} (ho:cOpt nt lo=.mk o) (H:bnd t o n k=.fin v h c):
 ∃m,k m=.fin v h c∧((lo=none∧m=n)∨((∃x,lo=some x)∧∀(ρ:Rho) (a:Act),TR ρ nt t a.tmps→∃kk,lo.map a.eval=some (.int kk m))):=by
 cases lo with
 |none=>cases ho;exact⟨n,H,.inl ⟨rfl,rfl⟩⟩
 |some x=>
  have ho':(match cOpd nt x with| .mk x=>Bx.mk (some x)| .no=> .no)=Bx.mk o:=ho
  cases hy:cOpd nt x with
  |no=>rw[hy]at ho';cases ho'
  |mk y=>
   rw[hy]at ho'
   cases ho'
   obtain⟨kk,m,e1,e2⟩:=asN_fin H
   exact⟨m,e2,.inr ⟨⟨x,rfl⟩,fun ρ a hT=>⟨kd kk,by simp[nat_den e1 (opd_den hy hT)]⟩⟩⟩
section
variable {X:Spx} {P:Program} {nt:Nat} {o:Oper} {d:DS}
theorem snd_mkf {g:FuncId} {fs cs:Array Operand} {os ps:List OP} (hop:o.op=.makeFunc (.func g) fs cs) (hd:cDst nt o.dst=.mk d) (h1:cOpds nt fs.toList=.mk os) (h2:cOpds nt cs.toList=.mk ps):VSnd X P nt d (fMkf d g os ps) o:=by
 refine VSnd.of (by rw[hop];simp) hd fun cal t h c df k v' h' c' e=>?_
 have e0:rdL t os (fun fs=>rdL t ps fun cs=>d (.f g fs cs) t fun t=>k t h c df)=.fin v' h' c':=e
 rw[rdL_eq,rdL_eq]at e0
 refine⟨_,e0,fun w0 ρ a w hR hT=>⟨.func (.func g) (fs.map a.eval) (cs.map a.eval),?_,?_⟩⟩
 · have d1:=opds_den h1 hT
   have d2:=opds_den h2 hT
   simp only[den,d1,d2,Option.bind_some,Option.map_some,Option.some.injEq]
   congr 1<;>(apply Array.ext';simp)
 · simp[execOp,hop,Instr.makeFunc]
theorem snd_bs {s T E:TypeId} {x:Operand} {y:OP} (hop:o.op=.convert s T x) (hd:cDst nt o.dst=.mk d) (h1:cOpd nt x=.mk y) (hs:und (types P) s=some (.slice E)) (hE:und (types P) E=some (.int .u8)) (hT:und (types P) T=some .string):VSnd X P nt d (fBs d y) o:=by
 have run:∀(a:Act) (w:World) b l q S,a.eval x=.slice b l q→(Conv.bytesToString (.slice b l q)).run P w=.ok (.string S) w→(execOp a.eval o).run P w=.ok (.value (.string S)) w:=by
  intro a w b l q S hv hc
  simp only[execOp,hop,hv]
  rw[Sem.run_bind,run_convert_bytes_string w s T E b l q (und_under hs).1 (und_under hE).1 (und_under hT).1,hc];rfl
 refine VSnd.of (by rw[hop];simp) hd fun cal t h c df k v' h' c' e=>?_
 rcases asL_fin e with⟨e1,e2⟩|⟨b,r,n,q,s',e1,e2⟩
 · refine⟨_,e2,fun w0 ρ a w hR hTR=>⟨.string .empty,by simp[den,str_nil],?_⟩⟩
   have hv:=opd_den h1 hTR
   rw[e1]at hv
   simp only[den,Option.some.injEq]at hv
   exact run a w none 0 0 _ hv.symm (by simp[Conv.bytesToString])
 · obtain⟨ty,m,q',z,u,e3,e4,e5⟩:=ldK_fin e2
   obtain⟨l,e6,e7⟩:=byK_fin e5
   refine⟨_,e6,fun w0 ρ a w hR hTR=>⟨.string (str l),by simp[den],?_⟩⟩
   obtain⟨p,d1,d2⟩:=sl_den e1 (opd_den h1 hTR)
   obtain⟨vs,c1,c2,c3,c4⟩:=hR.cells (P:=P) d1 e3 e4
   rw[e7 ρ vs c2]at c4
   refine run a w _ _ _ _ d2 ?_
   rw[run_bytesToString w _ n _ _ c4]
   have:=push_str l []
   rw[str_nil]at this
   rw[this];simp
theorem snd_mks {T E:Nat} {x y:Operand} {y1 y2:OP} {l:List Value} {z:Z} (hop:o.op=.makeSlice T x y) (hd:cDst nt o.dst=.mk d) (h1:cOpd nt x=.mk y1) (h2:cOpd nt y=.mk y2) (hT:und (types P) T=some (.slice E)) (hz:zOf (types P) E=some l) (hzz:zer l=some z) (hl:l.length=siz (types P) E) (hpos:0<siz (types P) E):OSnd X P nt (fMks d E (siz (types P) E) (byt (types P) E) z y1 y2) o:=by
 refine OSnd.mem (by rw[hop];simp) hd fun cal _ t h c df k v' h' c' e=>?_
 obtain⟨k1,m,e1,e2⟩:=asN_fin e
 obtain⟨k2,n,e3,e4⟩:=asN_fin e2
 obtain⟨e5,e6⟩:=ifT_fin e4
 obtain⟨e7,e8⟩:=ifT_fin e6
 obtain⟨e9,e10⟩:=ifT_fin e8
 rw[fN_eq]at e10
 obtain⟨e11,e12,e13⟩:=newC_fin e10
 refine⟨_,_,_,e13,fun w0 ρ a w hR hTR=>?_⟩
 obtain⟨i,zv,hi,hzv,hcl⟩:=zOf_zero hz
 obtain⟨ie,hie,hs,hb⟩:=siz_pos hpos
 rw[hi]at hie;cases hie
 have d1:=nat_den e1 (opd_den h1 hTR)
 have d2:=nat_den e3 (opd_den h2 hTR)
 have hmn:m≤n:=Nat.le_of_ble_eq_true e5
 have hn:n≤281474976710656:=Nat.le_of_ble_eq_true e7
 have hw:byt (types P) E*n≤281474976710656:=Nat.le_of_ble_eq_true e9
 have hcap:n*siz (types P) E≤(ce0 (n*siz (types P) E)).cap:=e11
 have hsz:zv.cells.size=siz (types P) E:=by rw[←hl,←hcl];simp
 have hC:CR ρ z (ce0 (n*siz (types P) E)) (n*siz (types P) E) (madeCells zv.cells (n*siz (types P) E)):=by
  intro j hj
  obtain⟨v,g1,g2⟩:=zer_pat hzz ρ j (by omega)
  refine⟨v,?_,?_⟩
  · unfold madeCells
    have hjl:j%l.length<l.length:=Nat.mod_lt _ (by omega)
    have hzl:zv.cells=l.toArray:=by rw[←hcl]
    rw[hzl]
    simp[hj]
    rw[List.getElem?_eq_getElem hjl]at g1
    simpa[hjl]using g1
  · unfold cell
    rw[orD_u (cget_ce0 _ _ (by omega))];exact g2
 have hms:(madeCells zv.cells (n*siz (types P) E)).size=n*siz (types P) E:=by simp[madeCells]
 obtain⟨g1,g2,g3⟩:=hR.newC (ty:=E) (κ:=0) (q:=0) e12 e11 (by rw[hms];exact Nat.le_refl _) (fun _=>hms) (fun hh=>absurd rfl hh) hC
 refine⟨_,.slice (some ⟨w.heap.size,0,none⟩) m n,_,g1,g2,by simp[den,up_self],g3,by omega,?_⟩
 have hbytes:(i.bytes:Int)*(n:Int)≤281474976710656:=by
  rw[←hb]
  have:((byt (types P) E*n:Nat):Int)≤281474976710656:=by omega
  rwa [Int.natCast_mul]at this
 have hr:=run_make (P:=P) w T E i zv (und_under hT).1 hi hzv (kd k1) (kd k2) m n (by omega) (by omega) hbytes (by omega)
 simp only[Int.toNat_natCast]at hr
 rw[←hs]at hr
 simp only[execOp,hop,d1,d2]
 rw[Sem.run_bind,hr];rfl
end
end Ev
end
