/- EvP, EvQ, EvR, EvS, EvT, EvTm. -/
import Derived.Test.YtpkaehpllldcmaaGreatDoorMeC
section
namespace Ev
open Go Go.RowKit
set_option linter.unusedVariables false
set_option linter.unusedSimpArgs false
section
variable {X:Spx} {P:Program} {nt:Nat} {o:Oper} {d:DS}
theorem cOpt_none {lo:Option Operand} (h:cOpt nt lo=.mk none):lo=none:=by
 cases lo with
 |none=>rfl
 |some x=>
  exfalso
  have h':(match cOpd nt x with| .mk x=>Bx.mk (some x)| .no=> .no)=Bx.mk none:=h
  cases hy:cOpd nt x<;>rw[hy]at h'<;>cases h'
theorem extract_str (l:List Nat) (a b:Nat):(str l).extract a b=str ((l.drop a).take (b-a)):=by
 apply ByteArray.ext
 simp[str,ByteArray.data_extract,List.map_take,List.map_drop,List.extract_eq_take_drop]
theorem snd_sls {T:TypeId} {x:Operand} {lo hi:Option Operand} {y:OP} {ol oh:Option OP} (hop:o.op=.slice T x lo hi none) (hd:cDst nt o.dst=.mk d) (h1:cOpd nt x=.mk y) (h2:cOpt nt lo=.mk ol) (h3:cOpt nt hi=.mk oh) (hT:und (types P) T=some .string):VSnd X P nt d (fSls d y ol oh) o:=by
 refine VSnd.of (by rw[hop];simp) hd fun cal t h c df k v' h' c' e=>?_
 obtain⟨s,e1,e2⟩:=asS_fin e
 obtain⟨r,e3,e4⟩:=bnd_fin h3 e2
 obtain⟨l,e5,e6⟩:=bnd_fin h2 e3
 obtain⟨e7,e8⟩:=ifT_fin e5
 obtain⟨e9,e10⟩:=ifT_fin e8
 rw[fL_eq,take_eq,drop_eq]at e10
 rw[len_eq]at e4 e9
 refine⟨_,e10,fun w0 ρ a w hR hTR=>⟨.string ((str s).extract l r),by simp[den,extract_str],?_⟩⟩
 have hv:=str_den e1 (opd_den h1 hTR)
 have hlr:l≤r:=Nat.le_of_ble_eq_true e7
 have hrs:r≤s.length:=Nat.le_of_ble_eq_true e9
 have hb:(Instr.sliceBounds false (str s).size (str s).size (lo.map a.eval) (hi.map a.eval) none).run P w=.ok (l,r,(str s).size) w:=by
  refine run_bounds (.inl ⟨rfl,rfl⟩) ?_ ?_
  · rcases e4 with⟨rfl,rfl⟩|⟨⟨x,hx⟩,hk⟩
    · exact .inl ⟨rfl,rfl,(str_size s).symm⟩
    · obtain⟨kk,hkk⟩:=hk ρ a hTR
      exact .inr ⟨kk,hkk,by rw[str_size];exact hrs⟩
  · rcases e6 with⟨rfl,rfl⟩|⟨⟨x,hx⟩,hk⟩
    · exact .inl ⟨rfl,rfl⟩
    · obtain⟨kk,hkk⟩:=hk ρ a hTR
      exact .inr ⟨kk,hkk,hlr⟩
 simp only[execOp,hop,hv,Option.map_none,Instr.sliceAt,Instr.slice]
 simp[Sem.run_bind,run_underlying (und_under hT).1,hb]
theorem snd_slp {T E n:Nat} {x:Operand} {lo hi mx:Option Operand} {y:OP} {ol oh om:Option OP} (hop:o.op=.slice T x lo hi mx) (hd:cDst nt o.dst=.mk d) (h1:cOpd nt x=.mk y) (h2:cOpt nt lo=.mk ol) (h3:cOpt nt hi=.mk oh) (h4:cOpt nt mx=.mk om) (hhm:(oh.isNone&&om.isSome)=false) (hT:und (types P) T=some (.array n E)) (hok:okI (types P) E=true):VSnd X P nt d (fSlp d (siz (types P) E) n y ol oh om) o:=by
 refine VSnd.of (by rw[hop];simp) hd fun cal t h c df k v' h' c' e=>?_
 obtain⟨b,r0,e1,e2⟩:=asP_fin e
 obtain⟨l,e5,e6⟩:=bnd_fin h2 e2
 obtain⟨r,e3,e4⟩:=bnd_fin h3 e5
 obtain⟨m,e7,e8⟩:=bnd_fin h4 e3
 obtain⟨e9,e10⟩:=ifT_fin e7
 obtain⟨e11,e12⟩:=ifT_fin e10
 obtain⟨e13,e14⟩:=ifT_fin e12
 rw[fN_eq,fN_eq,fN_eq]at e14
 have hlr:l≤r:=Nat.le_of_ble_eq_true e9
 have hrm:r≤m:=Nat.le_of_ble_eq_true e11
 have hmn:m≤n:=Nat.le_of_ble_eq_true e13
 refine⟨_,e14,fun w0 ρ a w hR hTR=>?_⟩
 obtain⟨p,d1,d2⟩:=ptr_den e1 (opd_den h1 hTR)
 obtain⟨D,hD⟩:=okI_some hok
 obtain⟨ie,hie,hs,_⟩:=(und_under hD).2
 have hb:(Instr.sliceBounds false n n (lo.map a.eval) (hi.map a.eval) (mx.map a.eval)).run P w=.ok (l,r,m) w:=by
  refine run_bounds ?_ ?_ ?_
  · rcases e8 with⟨rfl,rfl⟩|⟨⟨x,hx⟩,hk⟩
    · exact .inl ⟨rfl,rfl⟩
    · obtain⟨kk,hkk⟩:=hk ρ a hTR
      exact .inr ⟨kk,hkk,hmn⟩
  · rcases e4 with⟨rfl,rfl⟩|⟨⟨x,hx⟩,hk⟩
    · refine .inl ⟨rfl,?_,rfl⟩
      have:oh=none:=by cases h3;rfl
      subst this
      cases om with
      |none=>rw[cOpt_none h4];rfl
      |some _=>simp at hhm
    · obtain⟨kk,hkk⟩:=hk ρ a hTR
      exact .inr ⟨kk,hkk,hrm⟩
  · rcases e6 with⟨rfl,rfl⟩|⟨⟨x,hx⟩,hk⟩
    · exact .inl ⟨rfl,rfl⟩
    · obtain⟨kk,hkk⟩:=hk ρ a hTR
      exact .inr ⟨kk,hkk,hlr⟩
 have hadd:(if m=l then(⟨p.1,r0,none⟩:Addr)else(⟨p.1,r0,none⟩:Addr).add (l*ie.size))=⟨p.1,ifT (Nat.beq m l) r0 (r0+l*ie.size),none⟩:=by
  by_cases hml:m=l
  · rw[if_pos hml,ifT_true (by rw[hml];exact Nat.beq_refl l)]
  · rw[if_neg hml,ifT_false (by cases hb2:Nat.beq m l with
     |false=>rfl
     |true=>exact absurd (Nat.eq_of_beq_eq_true hb2) hml),addr_add]
 refine⟨.slice (some ⟨p.1,ifT (Nat.beq m l) r0 (r0+l*ie.size),none⟩) (r-l) (m-l),by simp only[den,d1,Option.map_some,hs];rfl,?_⟩
 simp only[execOp,hop,d2,Instr.sliceAt]
 simp only[Sem.run_bind,run_underlying (und_under hT).1,Result.andThen_ok,Instr.sureAddr,Sem.run_pure,hb,run_sizeOf P hie,hadd]
theorem snd_sli {T E:Nat} {x:Operand} {lo hi mx:Option Operand} {y:OP} {ol oh om:Option OP} (hop:o.op=.slice T x lo hi mx) (hd:cDst nt o.dst=.mk d) (h1:cOpd nt x=.mk y) (h2:cOpt nt lo=.mk ol) (h3:cOpt nt hi=.mk oh) (h4:cOpt nt mx=.mk om) (hhm:(oh.isNone&&om.isSome)=false) (hT:und (types P) T=some (.slice E)) (hok:okI (types P) E=true):VSnd X P nt d (fSli d (siz (types P) E) y ol oh om) o:=by
 obtain⟨D,hD⟩:=okI_some hok
 obtain⟨ie,hie,hs,_⟩:=(und_under hD).2
 have run:∀(a:Act) (w:World) b n cp l r m,a.eval x=.slice b n cp→(Instr.sliceBounds true n cp (lo.map a.eval) (hi.map a.eval) (mx.map a.eval)).run P w=.ok (l,r,m) w→
  (execOp a.eval o).run P w=.ok (.value (.slice (if m=l then b else b.map (·.add (l*ie.size))) (r-l) (m-l))) w:=by
  intro a w b n cp l r m hv hb
  simp only[execOp,hop,hv,Instr.sliceAt,Instr.slice]
  simp only[Sem.run_bind,run_underlying (und_under hT).1,Result.andThen_ok,hb,run_sizeOf P hie,Sem.run_pure]
 refine VSnd.of (by rw[hop];simp) hd fun cal t h c df k v' h' c' e=>?_
 rcases asL_fin e with⟨e1,e2⟩|⟨b,r0,n,q,s,e1,e2⟩
 · obtain⟨l,e5,e6⟩:=bnd_fin h2 e2
   obtain⟨r,e3,e4⟩:=bnd_fin h3 e5
   cases om with
   |some _=>cases e3
   |none=>
    obtain⟨e7,e8⟩:=ifT_fin e3
    obtain⟨e9,e10⟩:=ifT_fin e8
    have hl:l=0:=Nat.eq_of_beq_eq_true e7
    have hr:r=0:=Nat.eq_of_beq_eq_true e9
    subst hl;subst hr
    have hmx:=cOpt_none h4
    subst hmx
    refine⟨_,e10,fun w0 ρ a w hR hTR=>⟨.slice none 0 0,by simp[den],?_⟩⟩
    have hv:=opd_den h1 hTR
    rw[e1]at hv
    simp only[den,Option.some.injEq]at hv
    have hb:(Instr.sliceBounds true 0 0 (lo.map a.eval) (hi.map a.eval) none).run P w=.ok (0,0,0) w:=by
     refine run_bounds (.inl ⟨rfl,rfl⟩) ?_ ?_
     · rcases e4 with⟨rfl,_⟩|⟨⟨x,hx⟩,hk⟩
       · exact .inl ⟨rfl,rfl,rfl⟩
       · obtain⟨kk,hkk⟩:=hk ρ a hTR;exact .inr ⟨kk,hkk,Nat.le_refl _⟩
     · rcases e6 with⟨rfl,_⟩|⟨⟨x,hx⟩,hk⟩
       · exact .inl ⟨rfl,rfl⟩
       · obtain⟨kk,hkk⟩:=hk ρ a hTR;exact .inr ⟨kk,hkk,Nat.le_refl _⟩
    rw[run a w none 0 0 0 0 0 hv.symm hb];rfl
 · obtain⟨l,e5,e6⟩:=bnd_fin h2 e2
   obtain⟨r,e3,e4⟩:=bnd_fin h3 e5
   obtain⟨e7,e8⟩:=ifT_fin e3
   have hlr:l≤r:=Nat.le_of_ble_eq_true e7
   have hlo:∀{ρ:Rho} {a:Act},TR ρ nt t a.tmps→(lo.map a.eval=none∧l=0)∨∃k,lo.map a.eval=some (.int k l)∧l≤r:=by
    intro ρ a hTR
    rcases e6 with⟨rfl,rfl⟩|⟨⟨x,hx⟩,hk⟩
    · exact .inl ⟨rfl,rfl⟩
    · obtain⟨kk,hkk⟩:=hk ρ a hTR;exact .inr ⟨kk,hkk,hlr⟩
   cases s with
   |false=>
    obtain⟨m,e9,e10⟩:=bnd_fin h4 e8
    obtain⟨e11,e12⟩:=ifT_fin e9
    obtain⟨e13,e14⟩:=ifT_fin e12
    rw[fN_eq,fN_eq,fN_eq]at e14
    have hrm:r≤m:=Nat.le_of_ble_eq_true e11
    have hmn:m≤q:=Nat.le_of_ble_eq_true e13
    refine⟨_,e14,fun w0 ρ a w hR hTR=>?_⟩
    obtain⟨p,d1,d2⟩:=sl_den e1 (opd_den h1 hTR)
    have hb:(Instr.sliceBounds true n q (lo.map a.eval) (hi.map a.eval) (mx.map a.eval)).run P w=.ok (l,r,m) w:=by
     refine run_bounds ?_ ?_ (hlo hTR)
     · rcases e10 with⟨rfl,rfl⟩|⟨⟨x,hx⟩,hk⟩
       · exact .inl ⟨rfl,rfl⟩
       · obtain⟨kk,hkk⟩:=hk ρ a hTR;exact .inr ⟨kk,hkk,hmn⟩
     · rcases e4 with⟨rfl,rfl⟩|⟨⟨x,hx⟩,hk⟩
       · refine .inl ⟨rfl,?_,rfl⟩
         have:oh=none:=by cases h3;rfl
         subst this
         cases om with
         |none=>rw[cOpt_none h4];rfl
         |some _=>simp at hhm
       · obtain⟨kk,hkk⟩:=hk ρ a hTR;exact .inr ⟨kk,hkk,hrm⟩
    have hadd:(if m=l then some (⟨p.1,r0,none⟩:Addr)else(some (⟨p.1,r0,none⟩:Addr)).map (·.add (l*ie.size)))=some ⟨p.1,ifT (Nat.beq m l) r0 (r0+l*ie.size),none⟩:=by
     by_cases hml:m=l
     · rw[if_pos hml,ifT_true (by rw[hml];exact Nat.beq_refl l)]
     · rw[if_neg hml,ifT_false (by cases hb2:Nat.beq m l with
        |false=>rfl
        |true=>exact absurd (Nat.eq_of_beq_eq_true hb2) hml),Option.map_some,addr_add]
    refine⟨.slice (some ⟨p.1,ifT (Nat.beq m l) r0 (r0+l*ie.size),none⟩) (r-l) (m-l),by simp only[den,d1,Option.map_some,hs];rfl,?_⟩
    rw[run a w _ _ _ _ _ _ d2 hb,hadd]
   |true=>
    obtain⟨ty,mb,q',z,u,g1,g2⟩:=blk_fin e8
    obtain⟨g3,g4⟩:=ifT_fin g2
    obtain⟨g5,g6⟩:=ifT_fin g4
    obtain⟨g7,g8⟩:=ifT_fin g6
    obtain⟨g9,g10⟩:=ifT_fin g8
    obtain⟨g11,g12⟩:=ifT_fin g10
    cases om with
    |some _=>cases g12
    |none=>
     have hmx:=cOpt_none h4
     subst hmx
     have hq':q'=siz (types P) E:=Nat.eq_of_beq_eq_true g3
     have hqm:(q+n)*siz (types P) E≤mb:=Nat.le_of_ble_eq_true g7
     have hrn:r≤n:=Nat.le_of_ble_eq_true g9
     have hpos:0<siz (types P) E:=Nat.le_of_ble_eq_true g11
     have key:∀{w0 ρ} {a:Act} {w},HR X P w0 ρ h c w→TR ρ nt t a.tmps→∃p,ρ b=some p∧q+n≤p.2∧a.eval x=.slice (some ⟨p.1,r0,none⟩) n (p.2-q)∧(Instr.sliceBounds true n (p.2-q) (lo.map a.eval) (hi.map a.eval) none).run P w=.ok (l,r,p.2-q) w:=by
      intro w0 ρ a w hR hTR
      obtain⟨p,d1,d2⟩:=sl_den e1 (opd_den h1 hTR)
      obtain⟨cs,_,_,k3,_,k5,_⟩:=hR.row d1 g1
      have hsz:=k5 (by omega)
      have hle:q+n≤p.2:=by
       rw[hq']at hsz
       have:(q+n)*siz (types P) E≤p.2*siz (types P) E:=by omega
       exact Nat.le_of_mul_le_mul_right this hpos
      refine⟨p,d1,hle,d2,run_bounds (.inl ⟨rfl,rfl⟩) ?_ (hlo hTR)⟩
      rcases e4 with⟨rfl,rfl⟩|⟨⟨x,hx⟩,hk⟩
      · exact .inl ⟨rfl,rfl,rfl⟩
      · obtain⟨kk,hkk⟩:=hk ρ a hTR;exact .inr ⟨kk,hkk,by omega⟩
     cases hl0:Nat.beq l 0 with
     |true=>
      have g12':(d (.sl b r0 r q true) t fun t=>k t h c df)=.fin v' h' c':=by have:=g12;simp only[hl0]at this;exact this
      have hl:l=0:=Nat.eq_of_beq_eq_true hl0
      subst hl
      refine⟨_,g12',fun w0 ρ a w hR hTR=>?_⟩
      obtain⟨p,d1,hle,d2,hb⟩:=key hR hTR
      refine⟨.slice (some ⟨p.1,r0,none⟩) r (p.2-q),by simp[den,d1],?_⟩
      rw[run a w _ _ _ _ _ _ d2 hb]
      have:(if p.2-q=0 then some (⟨p.1,r0,none⟩:Addr)else(some (⟨p.1,r0,none⟩:Addr)).map (·.add (0*ie.size)))=some ⟨p.1,r0,none⟩:=by
       split
       · rfl
       · simp[addr_add]
      rw[this];rfl
     |false=>
      have g12':ifT (Nat.blt l n) (fN (Nat.add r0 (Nat.mul l (siz (types P) E))) fun o=>fN (Nat.sub r l) fun r=>fN (Nat.add q l) fun e=>d (.sl b o r e true) t fun t=>k t h c df) (.bad 53)=.fin v' h' c':=by have:=g12;simp only[hl0]at this;exact this
      obtain⟨g13,g14⟩:=ifT_fin g12'
      rw[fN_eq,fN_eq,fN_eq]at g14
      have hln:l<n:=Nat.le_of_ble_eq_true g13
      refine⟨_,g14,fun w0 ρ a w hR hTR=>?_⟩
      obtain⟨p,d1,hle,d2,hb⟩:=key hR hTR
      refine⟨.slice (some ⟨p.1,r0+l*ie.size,none⟩) (r-l) (p.2-q-l),?_,?_⟩
      · have:p.2-(q+l)=p.2-q-l:=by omega
        simp only[den,d1,Option.map_some,if_true]
        rw[hs]
        show some (Value.slice (some ⟨p.1,r0+l*ie.size,none⟩) (r-l) (p.2-(q+l)))=_
        rw[this]
      · rw[run a w _ _ _ _ _ _ d2 hb,if_neg (by omega),Option.map_some,addr_add]
end
end Ev
end
section
namespace Ev
open Go Go.RowKit
set_option linter.unusedVariables false
set_option linter.unusedSimpArgs false
section
variable {X:Spx} {P:Program} {w0:Base} {w w':World} {ρ ρ':Rho} {h:HP} {c:Nat}
theorem HR.take (H:HR X P w0 ρ h c w) {a:Nat} {p:Nat × Nat} {b:Blk} (hc:c≤65535) (ha:ρ a=some p) (hx:hget h a≠ .x) (hsp:∀s,hget h a≠ .sp s) (hbx:b≠ .x) (hs:∀s,b≠ .sp s)
 (hsz:w'.heap.size=w.heap.size) (hos:w'.os=w.os) (hta:w'.tape=w.tape) (hou:w'.output=w.output) (hw:∀k,k≠p.1→w'.heap[k]?=w.heap[k]?) (hB:BR X P (up ρ c p) c w' b):HR X P w0 (up ρ c p) (Ev.hs (Ev.hs h a .x) c b) (c+1) w':=by
 have hac:=(H.dom a p ha).1
 have hle:=H.le
 have hg:∀k,k<c+1→hget (Ev.hs (Ev.hs h a .x) c b) k=if k=c then b else if k=a then .x else hget h k:=fun k hk=>by
  rw[hget_hs b _ (by omega) (by omega)]
  split
  · rfl
  · rw[hget_hs .x h (by omega) (by omega)]
 have hdom:∀k q,up ρ c p k=some q→(k=c∧q=p)∨(k≠c∧ρ k=some q):=fun k q hk=>by
  unfold up at hk
  split at hk
  · exact .inl ⟨by assumption,(Option.some.inj hk).symm⟩
  · exact .inr ⟨by assumption,hk⟩
 have hFt:∀k s A,k<c→hget h k=.sp s→ρ k=some A→X.In A.1 s w'∧∀j,X.Ft A.1 w' j↔X.Ft A.1 w j:=fun k s A hk hb hA=>by
  have:=H.blk k hk;rw[hb]at this
  obtain⟨q,h1,h2⟩:=this
  rw[hA]at h1;cases h1
  refine X.mv h2 fun j hj=>hw j fun e=>?_
  exact H.sep k s A hb hA a p hx (fun e2=>hsp s (e2▸hb)) ha (e▸hj)
 have hold:∀k q,k≠c→ρ k=some q→hget (Ev.hs (Ev.hs h a .x) c b) k≠ .x→k≠a∧hget h k≠ .x:=fun k q hk hq hxx=>by
  have:=(H.dom k q hq).1
  rw[hg k (by omega),if_neg hk]at hxx
  split at hxx
  · exact absurd rfl hxx
  · exact⟨by assumption,hxx⟩
 refine⟨⟨hos.trans H.bel.os,hta.trans H.bel.tape,hou.trans H.bel.output,by rw[hsz];exact H.bel.size,fun k hk=>(hw k fun e=>(H.dom a p ha).2.1 hx (e▸hk)).trans (H.bel.block k hk)⟩,by omega,fun k q hk=>?_,fun k k' q q' hk hk' hx1 hx2 e=>?_,fun k hk=>?_,fun k s A hb' hA k' p' hx' hne hk'=>?_,H.one.of (fun k s A hk hA=>?_) (fun j hj=> .inl hj),H.noc_up _⟩
 · rw[hsz]
   rcases hdom k q hk with⟨rfl,rfl⟩|⟨h1,h2⟩
   · have:=H.dom a q ha;exact⟨by omega,fun _=>this.2.1 hx,this.2.2⟩
   · have:=H.dom k q h2;exact⟨by omega,fun hxx=>this.2.1 (hold k q h1 h2 hxx).2,this.2.2⟩
 · rcases hdom k q hk with⟨rfl,rfl⟩|⟨h1,h2⟩<;>rcases hdom k' q' hk' with⟨rfl,rfl⟩|⟨h3,h4⟩
   · rfl
   · obtain⟨g1,g2⟩:=hold _ _ h3 h4 hx2
     exact absurd (H.inj k' a q' q h4 ha g2 hx e.symm) g1
   · obtain⟨g1,g2⟩:=hold _ _ h1 h2 hx1
     exact absurd (H.inj k a q q' h2 ha g2 hx e) g1
   · exact H.inj k k' q q' h2 h4 (hold _ _ h1 h2 hx1).2 (hold _ _ h3 h4 hx2).2 e
 · rw[hg k hk]
   split
   · rename_i e;subst e;exact hB
   · rename_i hne
     split
     · trivial
     · rename_i hna
       have hk':k<c:=by omega
       by_cases hkx:hget h k=.x
       · rw[hkx];trivial
       · refine(H.blk k hk').mono (H.le_up _) (fun q hq=>hw _ fun e=>hna (H.inj k a q p hq ha hkx hx e)) fun s q hsq hq hI=>?_
         exact(hFt k s q hk' hsq hq).1
 · have hkc:k<c+1:=by
    rcases hdom k A hA with⟨rfl,_⟩|⟨_,h2⟩
    · omega
    · have:=(H.dom _ _ h2).1;omega
   have hb2:=hb'
   rw[hg k hkc]at hb'
   split at hb'
   · exact absurd hb' (hs s)
   · rename_i hkne
     split at hb'
     · cases hb'
     · rename_i hka
       rcases hdom k A hA with⟨e,_⟩|⟨_,hA2⟩
       · exact absurd e hkne
       · have hlt:=(H.dom _ _ hA2).1
         rw[(hFt k s A hlt hb' hA2).2]
         rcases hdom k' p' hk' with⟨rfl,rfl⟩|⟨h3,h4⟩
         · exact H.sep k s A hb' hA2 a p' hx (fun e=>hka e.symm) ha
         · exact H.sep k s A hb' hA2 k' p' (hold _ _ h3 h4 hx').2 hne h4
 · rcases hdom k A hA with⟨e,_⟩|⟨hkc,hA2⟩
   · rw[e,hg c (by omega),if_pos rfl]at hk;exact absurd hk (hs s)
   · have hlt:=(H.dom _ _ hA2).1
     rw[hg k (by omega),if_neg hkc]at hk
     split at hk
     · cases hk
     · exact⟨hk,hA2,fun j=>((hFt k s A hlt hk hA2).2 j).1⟩
end
theorem intL_den {ρ:Rho}:∀(l:List Nat),denL ρ (intL l)=some (l.map fun m=>Value.int .u8 ((UInt8.ofNat m).toNat:Int))
 |[]=>by simp[intL,denL]
 |m::l=>by
  show denL ρ (V.i 4 (m%256)::intL l)=_
  refine denL_cons.2 ⟨_,_,rfl,?_,intL_den l⟩
  simp[den];rfl
theorem srcK_fin {h:HP} {q:Nat} {n0:Option Nat} {v:V} {k:Nat→List V→R} {v':V} {h':HP} {c':Nat} (e:srcK h q n0 v k=.fin v' h' c'):
 ∃n l,k n l=.fin v' h' c'∧∀{X P w0 ρ c w x},HR X P w0 ρ h c w→den ρ v=some x→∃vs N,denL ρ l=some vs∧(Builtin.lenOf x).run P w=.ok N w∧n=(match n0 with|none=>N|some m=>Nat.min N m)∧
  ∀w',w'.heap=w.heap→(Builtin.firstCells q n x).run P w'=.ok vs.toArray w':=by
 have hmin:∀a b:Nat,ifT (Nat.ble a b) a b=Nat.min a b:=fun a b=>by
  cases hb:Nat.ble a b with
  |true=>rw[ifT_true rfl];exact(Nat.min_eq_left (Nat.le_of_ble_eq_true hb)).symm
  |false=>rw[ifT_false rfl];exact(Nat.min_eq_right (Nat.le_of_lt (ble_false.1 hb))).symm
 cases v with
 |s l=>
  have e':fN (Option.rec (motive:=fun _=>Nat) (len l) (fun m=>ifT (Nat.ble (len l) m) (len l) m) n0) (fun m=>k m (intL (take m l)))=.fin v' h' c':=e
  rw[fN_eq]at e'
  refine⟨_,_,e',fun{X P w0 ρ c w x} hR hx=>?_⟩
  have hxs:=str_den rfl hx
  refine⟨_,l.length,intL_den _,by rw[hxs];simp[Builtin.lenOf,str_size],?_,fun w' hw'=>?_⟩
  · cases n0 with
    |none=>rw[←len_eq]
    |some m=>show ifT (Nat.ble (len l) m) (len l) m=_;rw[hmin,len_eq]
  · rw[hxs]
    have key:∀N,((str l).extract 0 N).data.map (fun b=>Value.int .u8 (b.toNat:Int))=((l.take N).map fun m=>Value.int .u8 ((UInt8.ofNat m).toNat:Int)).toArray:=by
     intro N
     rw[extract_str]
     apply Array.ext'
     simp only[str,List.drop_zero,Nat.sub_zero,Array.toList_map,List.map_map]
     rfl
    simp only[Builtin.firstCells,Sem.run_pure,take_eq,key]
 |ns=>
  refine⟨0,[],e,fun{X P w0 ρ c w x} hR hx=>?_⟩
  simp only[den,Option.some.injEq]at hx
  subst hx
  refine⟨[],0,by simp[denL],by simp[Builtin.lenOf],by cases n0<;>simp,fun w' _=>by simp[Builtin.firstCells]⟩
 |sl a o r e0 s0=>
  have e':fN (Option.rec (motive:=fun _=>Nat) r (fun m=>ifT (Nat.ble r m) r m) n0) (fun m=>ldK h a o (Nat.mul m q) fun l=>k m l)=.fin v' h' c':=e
  rw[fN_eq]at e'
  obtain⟨ty,m,q',z,t,g1,g2,g3⟩:=ldK_fin e'
  refine⟨_,_,g3,fun{X P w0 ρ c w x} hR hx=>?_⟩
  obtain⟨p,d1,d2⟩:=sl_den rfl hx
  obtain⟨vs,c1,c2,c3,c4⟩:=hR.cells (P:=P) d1 g1 g2
  refine⟨vs,r,c2,by rw[d2];simp[Builtin.lenOf],?_,fun w' hw'=>?_⟩
  · cases n0 with
    |none=>rfl
    |some m=>show ifT (Nat.ble r m) r m=_;rw[hmin]
  · rw[d2]
    simp only[Builtin.firstCells]
    have:=run_loadCells_list (P:=P) w' ⟨p.1,o,none⟩ vs (fun j v hj=>by
     have:=c3 j v hj
     simp only[World.cell?]at this⊢
     rw[hw'];exact this)
    rw[c1]at this
    exact this
 |_=>cases e
section
variable {X:Spx} {P:Program} {nt:Nat} {o:Oper} {d:DS}
theorem snd_cpy {T E:Nat} {tt2:TypeId} {x y:Operand} {y1 y2:OP} {cc:Call} (hop:o.op=.call cc) (hcc:cc.callee=.builtin .copy) (ha:cc.args.toList=[x,y]) (hat:cc.argTypes.toList=[T,tt2]) (hd:cDst nt o.dst=.mk d) (h1:cOpd nt x=.mk y1) (h2:cOpd nt y=.mk y2) (hT:und (types P) T=some (.slice E)) (hok:okI (types P) E=true):OSnd X P nt (fCpy d (siz (types P) E) y1 y2) o:=by
 have ha':cc.args=#[x,y]:=Array.toList_inj.1 (by simpa using ha)
 have hat':cc.argTypes=#[T,tt2]:=Array.toList_inj.1 (by simpa using hat)
 obtain⟨D,hD⟩:=okI_some hok
 obtain⟨ie,hie,hs,_⟩:=(und_under hD).2
 have run:∀(a:Act) (w w':World) b dLen dCap N vs,a.eval x=.slice b dLen dCap→(Builtin.lenOf (a.eval y)).run P w=.ok N w→(Builtin.firstCells ie.size (Nat.min N dLen) (a.eval y)).run P w=.ok vs w→
  (match b with|some p=>(storeCells p vs.toList).run P w=.ok () w'|none=>w'=w)→(execOp a.eval o).run P w=.ok (.value (.int .i64 (Nat.min N dLen))) w':=by
  intro a w w' b dLen dCap N vs hx hN hv hst
  simp only[execOp,hop,resolve,hcc,ha',hat',invoke,builtin]
  cases b with
  |none=>
   simp only at hst;subst hst
   simp[Builtin.copy_,run_underlying (und_under hT).1,run_sizeOf P hie,hx,hN,hv,goInt]
  |some p=>
   simp only at hst
   simp[Builtin.copy_,run_underlying (und_under hT).1,run_sizeOf P hie,hx,hN,hv,hst,goInt]
 refine OSnd.mem (by rw[hop];simp) hd fun cal _ t h c df k v' h' c' e=>?_
 rcases asL_fin e with⟨e1,e2⟩|⟨b,r0,m,q,s,e1,e2⟩
 · obtain⟨n,l,e3,e4⟩:=srcK_fin e2
   refine⟨_,_,_,e3,fun w0 ρ a w hR hTR=>⟨ρ,.int .i64 0,w,Le.refl _,hR,by simp[den];rfl,Kp.refl _ _,Nat.le_refl _,?_⟩⟩
   obtain⟨vs,N,g1,g2,g3,g4⟩:=e4 hR (opd_den h2 hTR)
   have hv:=opd_den h1 hTR
   rw[e1]at hv
   simp only[den,Option.some.injEq]at hv
   have hz:n=Nat.min N 0:=g3
   have hm0:Nat.min N 0=0:=Nat.min_zero N
   have:=run a w w none 0 0 N vs.toArray hv.symm g2 (by rw[←hs,←hz];exact g4 w rfl) rfl
   rw[hm0]at this
   exact this
 · obtain⟨n,l,e3,e4⟩:=srcK_fin e2
   obtain⟨ty,m',q',z,u,e5,e6⟩:=blk_fin e3
   obtain⟨e7,e8⟩:=ifT_fin e6
   obtain⟨u',e9,e10,e11,e12⟩:=stK_fin e8
   rw[hset_eq]at e9
   refine⟨_,_,_,e9,fun w0 ρ a w hR hTR=>?_⟩
   obtain⟨vs,N,g1,g2,g3,g4⟩:=e4 hR (opd_den h2 hTR)
   obtain⟨p,d1,d2⟩:=sl_den e1 (opd_den h1 hTR)
   have hle:r0+l.length≤m':=by rw[←len_eq];exact Nat.le_of_ble_eq_true e7
   obtain⟨w',s1,s2⟩:=hR.store d1 e5 g1 e10 hle
   have hcap:r0+l.length≤u.cap:=by obtain⟨_,_,k2,_⟩:=hR.row d1 e5;omega
   rw[←e12 hcap]at s2
   refine⟨ρ,.int .i64 (n:Int),w',Le.refl _,s2,by simp[den];rfl,Kp.hs hR.le (by have:=(hR.dom _ _ d1).1;have:=hR.le;omega) (fun _ hh=>by rw[e5]at hh;cases hh),Nat.le_refl _,?_⟩
   have hz:n=Nat.min N m:=g3
   have:=run a w w' _ m _ N vs.toArray d2 g2 (by rw[←hs,←hz];exact g4 w rfl) (by simpa using s1)
   rw[←hz]at this
   exact this
end
end Ev
end
section
namespace Ev
open Go Go.RowKit
set_option linter.unusedVariables false
set_option linter.unusedSimpArgs false
theorem growBy_le (L B:Nat) (hB:L+(L+768)/4≤B):∀(r c:Nat),c≤B→Builtin.growBy L r c≤B
 |0,c,h=>h
 |r+1,c,h=>by
  unfold Builtin.growBy
  split
  · exact h
  · rename_i hlt
    exact growBy_le L B hB r _ (by omega)
theorem nsc_le {need cap:Nat} (h:cap<need):Builtin.nextslicecap need cap≤2*need+1000:=by
 unfold Builtin.nextslicecap
 split
 · omega
 · split
   · omega
   · exact growBy_le need _ (by omega) 4 cap (by omega)
section
variable {P:Program} {T U E ty:TypeId} {i:TypeInfo} {z X Y:Value} {n sLen sCap:Nat} {w:World} {vs:List Value}
theorem run_app_in {base:Option Addr} {w':World} (hT:P.underlying T=some (.slice E)) (hU:(∃e,P.underlying U=some (.slice e))∨P.underlying U=some .string) (hi:P.info? E=some i) (hn:(Builtin.lenOf Y).run P w=.ok n w) (hv:(Builtin.firstCells i.size n Y).run P w=.ok vs.toArray w)
 (hle:sLen+n≤sCap) (hst:match base with|some p=>(storeCells (p.add (sLen*i.size)) vs).run P w=.ok () w'|none=>w'=w):
 (Builtin.append_ #[T,U] ty #[.slice base sLen sCap,Y]).run P w=.ok (.slice base (sLen+n) sCap) w':=by
 have hz:∀D,P.underlying U=some D→(match D with| .int _=>true|_=>false)=false→True:=fun _ _ _=>trivial
 rcases hU with⟨e,hU⟩|hU<;>cases base with
 |none=>simp only at hst;subst hst;simp[Builtin.append_,run_underlying hT,run_underlying hU,Ev.run_sizeOf P hi,hn,hv,hle]
 |some p=>simp only at hst;simp[Builtin.append_,run_underlying hT,run_underlying hU,Ev.run_sizeOf P hi,hn,hv,hle,hst]
theorem run_app_new {base:Option Addr} {os:List Value} (hT:P.underlying T=some (.slice E)) (hU:(∃e,P.underlying U=some (.slice e))∨P.underlying U=some .string) (hi:P.info? E=some i) (hz:i.zero=some z) (hn:(Builtin.lenOf Y).run P w=.ok n w)
 (hv:(Builtin.firstCells i.size n Y).run P w.drew=.ok vs.toArray w.drew) (ho:(Builtin.firstCells i.size sLen (.slice base sLen sCap)).run P w.drew=.ok os.toArray w.drew) (hlt:sCap<sLen+n) (hb:0<i.bytes) (hbig:(2*(sLen+n)+1000)*i.bytes≤281474976710656):
 (Builtin.append_ #[T,U] ty #[.slice base sLen sCap,Y]).run P w=
  .ok (.slice (some ⟨w.heap.size,0,none⟩) (sLen+n) (grownCap w (sLen+n) sCap E)) (w.drew.alloc (.cells (os.toArray++vs.toArray++Builtin.zeroCells z.cells (grownCap w (sLen+n) sCap E-(sLen+n))) E)):=by
 have h1:¬(sLen+n≤sCap):=by omega
 have h2:¬i.bytes=0:=by omega
 have h3:¬(281474976710656<Builtin.nextslicecap (sLen+n) sCap*i.bytes):=by
  have:=Nat.mul_le_mul_right i.bytes (nsc_le hlt)
  omega
 rcases hU with⟨e,hU⟩|hU<;>simp[Builtin.append_,run_underlying hT,run_underlying hU,Ev.run_sizeOf P hi,typeInfo,zeroValue,hi,hz,hn,h1,h2,h3,Question.forced,hv,ho,newRow,grownCap]<;>(congr 2;apply Array.ext';simp[List.append_assoc])
end
theorem grown_le (w:World) (need old:Nat) (e:TypeId):need≤grownCap w need old e:=by unfold grownCap Question.cut;simp
theorem size_zeroCells (z:Array Value) (n:Nat):(Builtin.zeroCells z n).size=n*z.size:=by simp[Builtin.zeroCells]
section
variable {X:Spx} {P:Program} {nt:Nat} {o:Oper} {d:DS}
theorem HR.drew {w0:Base} {w:World} {ρ:Rho} {h:HP} {c:Nat} (H:HR X P w0 ρ h c w):HR X P w0 ρ h c w.drew:=H.same rfl rfl rfl rfl
theorem snd_app {T U E:Nat} {x y:Operand} {y1 y2:OP} {cc:Call} {zl:List Value} (hop:o.op=.call cc) (hcc:cc.callee=.builtin .append) (ha:cc.args.toList=[x,y]) (hat:cc.argTypes.toList=[T,U]) (hd:cDst nt o.dst=.mk d) (h1:cOpd nt x=.mk y1) (h2:cOpd nt y=.mk y2) (hT:und (types P) T=some (.slice E))
 (hU:(∃e,und (types P) U=some (.slice e))∨und (types P) U=some .string) (hz:zOf (types P) E=some zl) (hpos:0<siz (types P) E) (hbp:0<byt (types P) E) (hzl:zl.length=siz (types P) E):OSnd X P nt (fApp d E (siz (types P) E) (byt (types P) E) y1 y2) o:=by
 have ha':cc.args=#[x,y]:=Array.toList_inj.1 (by simpa using ha)
 have hat':cc.argTypes=#[T,U]:=Array.toList_inj.1 (by simpa using hat)
 obtain⟨i,zv,hi,hzv,hcl⟩:=zOf_zero hz
 obtain⟨ie,hie,hs,hb⟩:=siz_pos hpos
 rw[hi]at hie;cases hie
 have hU':(∃e,P.underlying U=some (.slice e))∨P.underlying U=some .string:=hU.imp (fun⟨e,h⟩=>⟨e,(und_under h).1⟩) fun h=>(und_under h).1
 have hzs:zv.cells.size=i.size:=by rw[←hs,←hzl,←hcl];simp
 have exe:∀(a:Act) (w w':World) (r:Value),(Builtin.append_ #[T,U] o.type #[a.eval x,a.eval y]).run P w=.ok r w'→(execOp a.eval o).run P w=.ok (.value r) w':=by
  intro a w w' r hr
  simp only[execOp,hop,resolve,hcc,ha',hat',invoke,builtin]
  simp[hr]
 refine OSnd.mem (by rw[hop];simp) hd fun cal _ t h c df k v' h' c' e=>?_
 obtain⟨n,l,e1,e2⟩:=srcK_fin e
 obtain⟨e3,e4⟩:=ifT_fin e1
 have hln:l.length=n*siz (types P) E:=by rw[←len_eq];exact Nat.eq_of_beq_eq_true e3
 rcases asL_fin e4 with⟨e5,e6⟩|⟨b,r0,m,ec,s,e5,e6⟩
 ·
  have nilv:∀{ρ:Rho} {a:Act},TR ρ nt t a.tmps→a.eval x=.slice none 0 0:=by
   intro ρ a hTR
   have hv:=opd_den h1 hTR
   rw[e5]at hv
   simp only[den,Option.some.injEq]at hv
   exact hv.symm
  cases n with
  |zero=>
   refine⟨.ns,h,c,e6,fun w0 ρ a w hR hTR=>⟨ρ,.slice none 0 0,w,Le.refl _,hR,by simp[den],Kp.refl _ _,Nat.le_refl _,?_⟩⟩
   obtain⟨vs,N,g1,g2,g3,g4⟩:=e2 hR (opd_den h2 hTR)
   have hN:N=0:=g3.symm
   subst hN
   refine exe a w w _ ?_
   rw[nilv hTR]
   exact run_app_in (base:=none) (und_under hT).1 hU' hi g2 (by rw[←hs];exact g4 w rfl) (Nat.le_refl _) rfl
  |succ n=>
   obtain⟨e7,e8⟩:=ifT_fin (show ifT _ _ _=_ from e6)
   obtain⟨u,e9,e10,e11,e12⟩:=stK_fin (o:=0) e8
   rw[fN_eq]at e9
   obtain⟨f1,f2,f3⟩:=newC_fin e9
   refine⟨_,_,_,f3,fun w0 ρ a w hR hTR=>?_⟩
   obtain⟨vs,N,g1,g2,g3,g4⟩:=e2 hR (opd_den h2 hTR)
   have hN:N=n+1:=g3.symm
   subst hN
   have hvl:vs.length=(n+1)*i.size:=by rw[denL_length g1,hln,hs]
   have hmul:Nat.mul (n+1) (siz (types P) E)=(n+1)*siz (types P) E:=rfl
   have hcapu:(n+1)*siz (types P) E≤u.cap:=f1
   have hu:=e12 (by rw[←e11];omega)
   have hgl:=grown_le w (0+(n+1)) 0 E
   have hC:CR ρ (.c .u) u ((n+1)*siz (types P) E) (([]:List Value).toArray++vs.toArray++Builtin.zeroCells zv.cells (grownCap w (0+(n+1)) 0 E-(0+(n+1)))):=by
    rw[hu]
    refine CR.sets (n:=0) (cs:=#[]) (fun i hi=>by omega) g1 e10 (by rw[←e11];omega) (by rw[←e11];exact hcapu) fun j hj=>?_
    rw[if_pos ⟨by omega,by omega⟩]
    simp only[List.append_toArray,List.nil_append,Nat.sub_zero]
    rw[Array.getElem?_append_left (by simp;rw[hvl,←hs];omega)]
    simp
   have hsz:(([]:List Value).toArray++vs.toArray++Builtin.zeroCells zv.cells (grownCap w (0+(n+1)) 0 E-(0+(n+1)))).size=grownCap w (0+(n+1)) 0 E*siz (types P) E:=by
    simp only[Array.size_append,List.size_toArray,List.length_nil,size_zeroCells,hvl,hzs,hs]
    rw[Nat.sub_mul]
    have:=Nat.mul_le_mul_right i.size hgl
    simp only[Nat.zero_add]at this⊢;omega
   obtain⟨k1,k2,k3⟩:=(hR.drew).newC (ty:=E) (κ:=grownCap w (0+(n+1)) 0 E) (q:=siz (types P) E) f2 f1 (by rw[hsz];exact Nat.mul_le_mul_right _ (by omega)) (fun hh=>by omega) (fun _=>hsz) hC
   refine⟨_,.slice (some ⟨w.heap.size,0,none⟩) (n+1) (grownCap w (0+(n+1)) 0 E),_,k1,k2,?_,k3,by omega,?_⟩
   · simp only[den,up_self,Option.map_some,if_true];rfl
   · refine exe a w _ _ ?_
     rw[nilv hTR]
     have hbig:(2*(0+(n+1))+1000)*i.bytes≤281474976710656:=by
      have:=Nat.le_of_ble_eq_true e7
      rw[hb]at this
      have h2:(2*(n+1)+1000)*i.bytes≤281474976710656:=this
      rw[Nat.zero_add];exact h2
     have:=run_app_new (P:=P) (T:=T) (U:=U) (ty:=o.type) (base:=none) (os:=[]) (sLen:=0) (sCap:=0) (und_under hT).1 hU' hi hzv g2 (by rw[←hs];exact g4 _ rfl) (by simp[Builtin.firstCells]) (by omega) (by omega) hbig
     rw[this]
     simp
 · rw[fN_eq]at e6
   obtain⟨e7,e8⟩:=ifT_fin e6
   have hbig:(2*(m+n)+1000)*i.bytes≤281474976710656:=by
    have:=Nat.le_of_ble_eq_true e7
    rw[hb]at this
    exact this
   cases s with
   |false=>
    have e8':apK d E (siz (types P) E) (byt (types P) E) n l b r0 m ec (m+n) cal t h c df k=.fin v' h' c':=e8
    unfold apK at e8'
    cases hle:Nat.ble (m+n) ec with
    |true=>
     rw[hle,ifT_true rfl]at e8'
     obtain⟨ty',m',q',z',u,f1,f2⟩:=blk_fin e8'
     rw[fN_eq]at f2
     obtain⟨f3,f4⟩:=ifT_fin f2
     obtain⟨u',f5,f6,f7,f8⟩:=stK_fin f4
     rw[hset_eq]at f5
     refine⟨_,_,_,f5,fun w0 ρ a w hR hTR=>?_⟩
     obtain⟨vs,N,g1,g2,g3,g4⟩:=e2 hR (opd_den h2 hTR)
     have hN:N=n:=g3.symm
     subst hN
     obtain⟨p,d1,d2⟩:=sl_den e5 (opd_den h1 hTR)
     have hle':(r0+m*siz (types P) E)+l.length≤m':=by rw[←len_eq];exact Nat.le_of_ble_eq_true f3
     obtain⟨w',s1,s2⟩:=hR.store d1 f1 g1 f6 hle'
     have hcap:(r0+m*siz (types P) E)+l.length≤u.cap:=by obtain⟨_,_,k2,_⟩:=hR.row d1 f1;omega
     have f8':u'=u.sets (r0+m*siz (types P) E) l:=f8 hcap
     rw[←f8']at s2
     refine⟨ρ,.slice (some ⟨p.1,r0,none⟩) (m+N) ec,w',Le.refl _,s2,by simp[den,d1],Kp.hs hR.le (by have:=(hR.dom _ _ d1).1;have:=hR.le;omega) (fun _ hh=>by rw[f1]at hh;cases hh),Nat.le_refl _,?_⟩
     refine exe a w w' _ ?_
     rw[d2]
     refine run_app_in (und_under hT).1 hU' hi g2 (by rw[←hs];exact g4 w rfl) (by simpa using Nat.le_of_ble_eq_true hle) ?_
     simp only[addr_add,←hs]
     exact s1
    |false=>
     rw[hle,ifT_false rfl]at e8'
     have hlt:ec<m+n:=ble_false.1 hle
     obtain⟨ty',m',q',z',u0,f1,f2,f3⟩:=ldK_fin e8'
     obtain⟨u1,f4,f5,f6,f7⟩:=stK_fin (o:=0) f3
     obtain⟨u2,f8,f9,f10,f11⟩:=stK_fin f4
     rw[fN_eq]at f8
     obtain⟨j1,j2,j3⟩:=newC_fin f8
     refine⟨_,_,_,j3,fun w0 ρ a w hR hTR=>?_⟩
     obtain⟨vs,N,g1,g2,g3,g4⟩:=e2 hR (opd_den h2 hTR)
     have hN:N=n:=g3.symm
     subst hN
     obtain⟨p,d1,d2⟩:=sl_den e5 (opd_den h1 hTR)
     obtain⟨os,c1,c2,c3,c4⟩:=hR.cells (P:=P) d1 f1 f2
     have c1':os.length=m*i.size:=by rw[←hs];exact c1
     have hvl:vs.length=N*i.size:=by rw[denL_length g1,hln,hs]
     have hmn:(m+N)*siz (types P) E=m*siz (types P) E+N*siz (types P) E:=Nat.add_mul _ _ _
     have hcapu:(m+N)*siz (types P) E≤u2.cap:=j1
     have hol:((List.range (m*siz (types P) E)).map fun j=>cell z' u0 (r0+j)).length=m*siz (types P) E:=by simp
     have hu1:=f7 (by rw[←f6,←f10];have:((List.range (Nat.mul m (siz (types P) E))).map fun j=>cell z' u0 (r0+j)).length=m*siz (types P) E:=hol;omega)
     have hu2:=f11 (by rw[←f10];have:Nat.mul m (siz (types P) E)=m*siz (types P) E:=rfl;omega)
     have hgl:=grown_le w (m+N) ec E
     have hC1:CR ρ (.c .u) u1 (m*siz (types P) E) os.toArray:=by
      rw[hu1]
      refine CR.sets (n:=0) (cs:=#[]) (fun i hi=>by omega) c2 f5 ?_ ?_ fun j hj=>?_
      · rw[←f6,←f10];have:((List.range (Nat.mul m (siz (types P) E))).map fun j=>cell z' u0 (r0+j)).length=m*siz (types P) E:=hol;omega
      · rw[←f6,←f10];omega
      · rw[if_pos ⟨by omega,by have:((List.range (Nat.mul m (siz (types P) E))).map fun j=>cell z' u0 (r0+j)).length=m*siz (types P) E:=hol;omega⟩]
        simp
     have hC:CR ρ (.c .u) u2 ((m+N)*siz (types P) E) (os.toArray++vs.toArray++Builtin.zeroCells zv.cells (grownCap w (m+N) ec E-(m+N))):=by
      rw[hu2]
      refine CR.sets (n:=m*siz (types P) E) (cs:=os.toArray) hC1 g1 f9 ?_ ?_ fun j hj=>?_
      · rw[←f10];have:Nat.mul m (siz (types P) E)=m*siz (types P) E:=rfl;omega
      · rw[←f10];exact hcapu
      · have e0:Nat.mul m (siz (types P) E)=m*siz (types P) E:=rfl
        rw[e0]
        have hj2:j<(os++vs).length:=by simp only[List.length_append,c1,hvl,←hs];omega
        have hfull:(os.toArray++vs.toArray++Builtin.zeroCells zv.cells (grownCap w (m+N) ec E-(m+N)))[j]?=(os++vs)[j]?:=by
         rw[Array.getElem?_append_left (by simpa using hj2)]
         simp
        rw[hfull]
        split
        · rename_i hin
          rw[List.getElem?_append_right (by omega),c1]
          rfl
        · rename_i hout
          have hjm:j<m*siz (types P) E:=by omega
          exact⟨hjm,by rw[List.getElem?_append_left (by omega)];simp⟩
     have hsz:(os.toArray++vs.toArray++Builtin.zeroCells zv.cells (grownCap w (m+N) ec E-(m+N))).size=grownCap w (m+N) ec E*siz (types P) E:=by
      simp only[Array.size_append,List.size_toArray,size_zeroCells,hvl,c1',hzs,hs]
      rw[Nat.sub_mul,←Nat.add_mul]
      have:=Nat.mul_le_mul_right i.size hgl
      omega
     obtain⟨k1,k2,k3⟩:=(hR.drew).newC (ty:=E) (κ:=grownCap w (m+N) ec E) (q:=siz (types P) E) j2 j1 (by rw[hsz];exact Nat.mul_le_mul_right _ hgl) (fun hh=>by omega) (fun _=>hsz) hC
     refine⟨_,.slice (some ⟨w.heap.size,0,none⟩) (m+N) (grownCap w (m+N) ec E),_,k1,k2,?_,k3,by omega,?_⟩
     · simp only[den,up_self,Option.map_some,if_true];rfl
     · refine exe a w _ _ ?_
       rw[d2]
       refine run_app_new (und_under hT).1 hU' hi hzv g2 (by rw[←hs];exact g4 _ rfl) ?_ hlt (by omega) hbig
       simp only[Builtin.firstCells]
       have:=run_loadCells_list (P:=P) w.drew ⟨p.1,r0,none⟩ os (fun j v hj=>c3 j v hj)
       rw[c1']at this
       exact this
   |true=>
    have e8':apU d E (siz (types P) E) l b r0 m ec (m+n) cal t h c df k=.fin v' h' c':=e8
    obtain⟨ty',m',q',z',u,f1,f2⟩:=blk_fin e8'
    obtain⟨f3,f4⟩:=ifT_fin f2
    obtain⟨f5,f6⟩:=ifT_fin f4
    obtain⟨f7,f8⟩:=ifT_fin f6
    obtain⟨f9,f10⟩:=ifT_fin f8
    obtain⟨f11,f12⟩:=ifT_fin f10
    obtain⟨u',g0,f13,f14,f15⟩:=stK_fin f12
    rw[fN_eq,hset_eq]at g0
    obtain⟨j1,j2,j3⟩:=newC_fin g0
    have ht:ty'=E:=Nat.eq_of_beq_eq_true f3
    have hq:q'=siz (types P) E:=Nat.eq_of_beq_eq_true f5
    have hr:r0=0:=Nat.eq_of_beq_eq_true f7
    have he:ec=0:=Nat.eq_of_beq_eq_true f9
    have hmm:m*siz (types P) E≤m':=Nat.le_of_ble_eq_true f11
    subst hr;subst he;subst ht
    refine⟨_,_,_,j3,fun w0 ρ a w hR hTR=>?_⟩
    obtain⟨vs,N,g1,g2,g3,g4⟩:=e2 hR (opd_den h2 hTR)
    have hN:N=n:=g3.symm
    subst hN
    obtain⟨p,d1,d2⟩:=sl_den e5 (opd_den h1 hTR)
    have d2:a.eval x=.slice (some ⟨p.1,0,none⟩) m p.2:=by simpa using d2
    obtain⟨cs,q1,q2,q3,q4,q5,q6⟩:=hR.row d1 f1
    have hcs:cs.size=p.2*siz (types P) ty':=by rw[q5 (by omega),hq]
    have hvl:vs.length=N*i.size:=by rw[denL_length g1,hln,hs]
    have hmn:(m+N)*siz (types P) ty'=m*siz (types P) ty'+N*siz (types P) ty':=Nat.add_mul _ _ _
    have hns:N*siz (types P) ty'=N*i.size:=by rw[hs]
    have hcapu:(m+N)*siz (types P) ty'≤u'.cap:=j1
    have e0:Nat.mul m (siz (types P) ty')=m*siz (types P) ty':=rfl
    have hu:=f15 (by rw[←f14];omega)
    have hac:=(hR.dom _ _ d1).1
    have hkp:∀b',Kp h (Ev.hs (Ev.hs h b .x) c b') c:=fun b' k hk e=>by
     rw[hget_hs _ _ (by omega) (by omega),if_neg (by omega),hget_hs _ _ (by omega) (by omega)]
     split
     · rename_i hkb;subst hkb;rw[f1]at e;cases e
     · exact e
    by_cases hle:m+N≤p.2
    ·
     have hroom:m*siz (types P) ty'+vs.length≤cs.size:=by
      rw[hvl,←hs,←hmn,hcs];exact Nat.mul_le_mul_right _ hle
     have h1':∀v∈vs,v.oneCell'=true:=by
      intro v hv
      obtain⟨ix,hix⟩:=List.mem_iff_getElem?.1 hv
      have hil:ix<l.length:=by rw[←denL_length g1];exact(List.getElem?_eq_some_iff.1 hix).1
      obtain⟨y',hy',hd'⟩:=denL_get g1 (List.getElem?_eq_getElem hil)
      rw[hix]at hy';cases hy'
      exact den_one (f13 _ (List.getElem_mem _)) hd'
     have hst:=run_storeCells_at P p.1 (m*siz (types P) ty') ty' vs 0 cs w q1 (by omega) h1'
     have hC:CR (up ρ c p) z' u' ((m+N)*siz (types P) ty') (cs.toList.take (m*siz (types P) ty'+0)++vs++cs.toList.drop (m*siz (types P) ty'+0+vs.length)).toArray:=by
      refine CR.mono ?_ (hR.le_up p)
      rw[hu]
      refine CR.sets (n:=m') (cs:=cs) q6 g1 f13 (by rw[←f14];omega) (by rw[←f14];exact hcapu) fun j hj=>?_
      rw[e0]
      have hjc:j<cs.size:=by omega
      split
      · rename_i hin
        simp only[Nat.add_zero,List.getElem?_toArray]
        rw[List.append_assoc,List.getElem?_append_right (by simp;omega)]
        simp only[List.length_take,Array.length_toList]
        rw[Nat.min_eq_left (by omega),List.getElem?_append_left (by rw[hvl,←hs];omega)]
      · rename_i hout
        have hjm:j<m*siz (types P) ty':=by omega
        refine⟨by omega,?_⟩
        simp only[Nat.add_zero,List.getElem?_toArray]
        rw[List.append_assoc,List.getElem?_append_left (by simp;omega),List.getElem?_take]
        simp[hjm]
     have hT':=hR.take (w':=w.setRow p.1 (cs.toList.take (m*siz (types P) ty'+0)++vs++cs.toList.drop (m*siz (types P) ty'+0+vs.length)).toArray) (b:=.c ty' ((m+N)*siz (types P) ty') (siz (types P) ty') z' u') j2 d1 (by rw[f1];simp) (fun s hs'=>by rw[f1]at hs';cases hs') (by simp) (by simp)
      (by simp[World.setRow]) rfl rfl rfl (fun k hk=>by simp only[World.setRow];rw[Array.getElem?_modify,if_neg (Ne.symm hk)])
      ⟨p,_,up_self _ _ _,setRow_heap w p.1 cs _ ty' _ q1,j1,by simp;omega,fun hh=>by omega,fun _=>by simp;omega,hC⟩
     refine⟨_,.slice (some ⟨p.1,0,none⟩) (m+N) p.2,_,hR.le_up p,hT',by simp[den,up_self],hkp _,by omega,?_⟩
     refine exe a w _ _ ?_
     rw[d2]
     refine run_app_in (und_under hT).1 hU' hi g2 (by rw[←hs];exact g4 w rfl) hle ?_
     simp only[addr_add,←hs,Nat.zero_add]
     exact hst
    ·
     have hlt:p.2<m+N:=by omega
     obtain⟨os,c1,c2,c3,c4⟩:=hR.cells (P:=P) (o:=0) (k:=m*siz (types P) ty') d1 f1 (by omega)
     have c1':os.length=m*i.size:=by rw[←hs];exact c1
     have hgl:=grown_le w (m+N) p.2 ty'
     have hosc:∀j,j<m*siz (types P) ty'→os[j]?=cs[j]?:=by
      intro j hj
      have hjl:j<os.length:=by omega
      have:=c3 j _ (List.getElem?_eq_getElem hjl)
      rw[addr_add]at this
      simp only[World.cell?,q1,Nat.zero_add]at this
      rw[List.getElem?_eq_getElem hjl]
      simpa using this.symm
     have hC:CR ρ z' u' ((m+N)*siz (types P) ty') (os.toArray++vs.toArray++Builtin.zeroCells zv.cells (grownCap w (m+N) p.2 ty'-(m+N))):=by
      rw[hu]
      refine CR.sets (n:=m') (cs:=cs) q6 g1 f13 (by rw[←f14];omega) (by rw[←f14];exact hcapu) fun j hj=>?_
      rw[e0]
      have hj2:j<(os++vs).length:=by simp only[List.length_append,c1,hvl,←hs];omega
      have hfull:(os.toArray++vs.toArray++Builtin.zeroCells zv.cells (grownCap w (m+N) p.2 ty'-(m+N)))[j]?=(os++vs)[j]?:=by
       rw[Array.getElem?_append_left (by simpa using hj2)]
       simp
      rw[hfull]
      split
      · rename_i hin
        rw[List.getElem?_append_right (by omega),c1]
        try rfl
      · rename_i hout
        have hjm:j<m*siz (types P) ty':=by omega
        exact⟨by omega,by rw[List.getElem?_append_left (by omega)];exact hosc j hjm⟩
     have hsz:(os.toArray++vs.toArray++Builtin.zeroCells zv.cells (grownCap w (m+N) p.2 ty'-(m+N))).size=grownCap w (m+N) p.2 ty'*siz (types P) ty':=by
      simp only[Array.size_append,List.size_toArray,size_zeroCells,hvl,c1',hzs,hs]
      rw[Nat.sub_mul,←Nat.add_mul]
      have:=Nat.mul_le_mul_right i.size hgl
      omega
     obtain⟨k1,k2,k3⟩:=((hR.drop hac).drew).newC (ty:=ty') (κ:=grownCap w (m+N) p.2 ty') (q:=siz (types P) ty') j2 j1 (by rw[hsz];exact Nat.mul_le_mul_right _ hgl) (fun hh=>by omega) (fun _=>hsz) hC
     refine⟨_,.slice (some ⟨w.heap.size,0,none⟩) (m+N) (grownCap w (m+N) p.2 ty'),_,k1,k2,?_,hkp _,by omega,?_⟩
     · simp only[den,up_self,Option.map_some,if_true];rfl
     · refine exe a w _ _ ?_
       rw[d2]
       refine run_app_new (und_under hT).1 hU' hi hzv g2 (by rw[←hs];exact g4 _ rfl) ?_ hlt (by omega) hbig
       simp only[Builtin.firstCells]
       have:=run_loadCells_list (P:=P) w.drew ⟨p.1,0,none⟩ os (fun j v hj=>c3 j v hj)
       rw[c1']at this
       exact this
end
end Ev
end
section
namespace Ev
open Go Go.RowKit
set_option linter.unusedVariables false
set_option linter.unusedSimpArgs false
noncomputable def eQL (l:QL):HP→List V→List V→(Bool→R)→R:=QL.rec (motive_1:=fun _=>EF) (motive_2:=fun _=>HP→List V→List V→(Bool→R)→R) eI eB eS eP (fun _ ih h x y k=>asA x fun a=>asA y fun b=>ih h a b k)
 (fun _ _ _ k=>k true) (fun o n q _ ih1 ih2 h a b k=>ih1 h (partV q o n a) (partV q o n b) fun r=>Bool.rec (motive:=fun _=>R) (k false) (ih2 h a b k) r) l
theorem eQ_st (l:QL):eQ (.st l)=fun h x y k=>asA x fun a=>asA y fun b=>eQL l h a b k:=rfl
theorem eQL_c (o n:Nat) (q:Q) (l:QL):eQL (.c o n q l)=fun h a b k=>eQ q h (partV q o n a) (partV q o n b) fun r=>Bool.rec (motive:=fun _=>R) (k false) (eQL l h a b k) r:=rfl
section
variable (P:Program)
theorem siz_info {E:Nat} (h:siz (types P) E≠0):∃i,P.info? E=some i∧i.size≠0:=by
 unfold siz at h
 cases hi:tyI (types P) E with
 |none=>rw[hi]at h;exact absurd rfl h
 |some i=>rw[hi]at h;exact⟨i,tyI_info hi,h⟩
def EqOk (T:TypeId) (g:EF) (f:Nat):Prop:=∀⦃h x y k v' h' c'⦄,g h x y k=.fin v' h' c'→∃r,k r=.fin v' h' c'∧x≠ .u∧y≠ .u∧
 ∀{X:Spx} {w0:Base} {ρ:Rho} {c:Nat} {w:World} {a b:Value},HR X P w0 ρ h c w→den ρ x=some a→den ρ y=some b→
  (∀d,f≤d→(Op.equalIn d T a b).run P w=.ok r w)∧a≠ .nilIface
theorem eI_ok {T f:Nat} {k:IntKind} (hT:und (types P) T=some (.int k)):EqOk P T eI (f+1):=by
 intro h x y q v' h' c' H
 obtain⟨i,m,e1,e2⟩:=asI_fin H
 obtain⟨j,n,e3,e4⟩:=asI_fin e2
 obtain⟨e5,e6⟩:=ifT_fin e4
 rw[fB_eq,ieq_eq]at e6
 have hk:i=j:=Nat.eq_of_beq_eq_true e5
 subst hk
 refine⟨_,e6,(by rintro rfl;cases e1),(by rintro rfl;cases e3),fun{X w0 ρ c w a b} hR hX hY=>?_⟩
 rw[int_den e1]at hX;rw[int_den e3]at hY
 cases hX;cases hY
 refine⟨fun d hd=>?_,by simp⟩
 obtain⟨d,rfl⟩:∃e,d=e+1:=⟨d-1,by omega⟩
 exact run_equalIn_int w d T (kd i) k m n (und_under hT).1
theorem eB_ok {T f:Nat} (hT:und (types P) T=some .bool):EqOk P T eB (f+1):=by
 intro h x y q v' h' c' H
 obtain⟨m,e1,e2⟩:=asB_fin H
 obtain⟨n,e3,e4⟩:=asB_fin e2
 refine⟨m==n,by cases m<;>cases n<;>exact e4,(by rintro rfl;cases e1),(by rintro rfl;cases e3),fun{X w0 ρ c w a b} hR hX hY=>?_⟩
 have hX:=bool_den e1 hX
 have hY:=bool_den e3 hY
 subst hX;subst hY
 refine⟨fun d hd=>?_,by simp⟩
 obtain⟨d,rfl⟩:∃e,d=e+1:=⟨d-1,by omega⟩
 exact run_equalIn_bool' w d T m n (und_under hT).1
theorem eS_ok {T f:Nat} (hT:und (types P) T=some .string):EqOk P T eS (f+1):=by
 intro h x y q v' h' c' H
 obtain⟨m,e1,e2⟩:=asS_fin H
 obtain⟨n,e3,e4⟩:=asS_fin e2
 rw[fB_eq,seq_str]at e4
 refine⟨_,e4,(by rintro rfl;cases e1),(by rintro rfl;cases e3),fun{X w0 ρ c w a b} hR hX hY=>?_⟩
 have hX:=str_den e1 hX
 have hY:=str_den e3 hY
 subst hX;subst hY
 refine⟨fun d hd=>?_,by simp⟩
 obtain⟨d,rfl⟩:∃e,d=e+1:=⟨d-1,by omega⟩
 exact run_equalIn_string w d T (str m) (str n) (und_under hT).1
theorem eP_ok {T E f:Nat} (hT:und (types P) T=some (.pointer E)) (hE:siz (types P) E≠0):EqOk P T eP (f+1):=by
 have hu:=(und_under hT).1
 obtain⟨i,hi,hn⟩:=siz_info P hE
 intro h x y q v' h' c' H
 rcases asQ_fin H with⟨e1,e2⟩|⟨b,o,e1,e2⟩
 · rcases asQ_fin e2 with⟨e3,e4⟩|⟨b',o',e3,e4⟩
   · refine⟨_,e4,(by rintro rfl;cases e1),(by rintro rfl;cases e3),fun{X w0 ρ c w a b} hR hX hY=>?_⟩
     subst e1;subst e3
     simp only[den,Option.some.injEq]at hX hY
     subst hX;subst hY
     refine⟨fun d hd=>?_,by simp⟩
     obtain⟨d,rfl⟩:∃e,d=e+1:=⟨d-1,by omega⟩
     simp[Op.equalIn,run_underlying hu]
   · refine⟨_,e4,(by rintro rfl;cases e1),(by rintro rfl;cases e3),fun{X w0 ρ c w a b} hR hX hY=>?_⟩
     obtain⟨p,d1,d2⟩:=ptr_den e3 hY
     subst e1;subst d2
     simp only[den,Option.some.injEq]at hX
     subst hX
     refine⟨fun d hd=>?_,by simp⟩
     obtain⟨d,rfl⟩:∃e,d=e+1:=⟨d-1,by omega⟩
     simp[Op.equalIn,run_underlying hu]
 · rcases asQ_fin e2 with⟨e3,e4⟩|⟨b',o',e3,e4⟩
   · refine⟨_,e4,(by rintro rfl;cases e1),(by rintro rfl;cases e3),fun{X w0 ρ c w a b} hR hX hY=>?_⟩
     obtain⟨p,d1,d2⟩:=ptr_den e1 hX
     subst e3;subst d2
     simp only[den,Option.some.injEq]at hY
     subst hY
     refine⟨fun d hd=>?_,by simp⟩
     obtain⟨d,rfl⟩:∃e,d=e+1:=⟨d-1,by omega⟩
     simp[Op.equalIn,run_underlying hu]
   · cases hbe:Nat.beq b b' with
     |true=>
      rw[hbe,ifT_true rfl,fB_eq]at e4
      have hbb:b=b':=Nat.eq_of_beq_eq_true hbe
      subst hbb
      refine⟨_,e4,(by rintro rfl;cases e1),(by rintro rfl;cases e3),fun{X w0 ρ c w a b} hR hX hY=>?_⟩
      obtain⟨p,d1,d2⟩:=ptr_den e1 hX
      obtain⟨p',d3,d4⟩:=ptr_den e3 hY
      rw[d1]at d3;cases d3
      subst d2;subst d4
      refine⟨fun d hd=>?_,by simp⟩
      obtain⟨d,rfl⟩:∃e,d=e+1:=⟨d-1,by omega⟩
      simp[Op.equalIn,run_underlying hu,run_sizeOf P hi,hn,sameAddr]
      rw[Bool.eq_iff_iff]
      simp[Nat.beq_eq]
     |false=>
      rw[hbe,ifT_false rfl]at e4
      obtain⟨ty,m,q1,z,u,f1,f2⟩:=blk_fin e4
      obtain⟨ty',m',q1',z',u',f3,f4⟩:=blk_fin f2
      refine⟨_,f4,(by rintro rfl;cases e1),(by rintro rfl;cases e3),fun{X w0 ρ c w a b} hR hX hY=>?_⟩
      obtain⟨p,d1,d2⟩:=ptr_den e1 hX
      obtain⟨p',d3,d4⟩:=ptr_den e3 hY
      subst d2;subst d4
      obtain⟨cs,g1,_⟩:=hR.row d1 f1
      obtain⟨cs',g2,_⟩:=hR.row d3 f3
      have hne:p.1≠p'.1:=fun hh=>by
       have:=hR.inj _ _ _ _ d1 d3 (by rw[f1];simp) (by rw[f3];simp) hh
       subst this
       simp at hbe
      refine⟨fun d hd=>?_,by simp⟩
      obtain⟨d,rfl⟩:∃e,d=e+1:=⟨d-1,by omega⟩
      simp only[Op.equalIn,Sem.run_bind,run_underlying hu,Result.andThen_ok,run_sizeOf P hi,hn,ne_eq,not_false_eq_true,if_true]
      exact run_sameAddr_other w (fun hh=>hne (congrArg Addr.block hh)) g1 g2
variable {P}
theorem partV_ok {q:Q} {T:Nat} {D:TypeDesc} (hT:und (types P) T=some D) (hq:isSt q=agg (types P) T) {ρ:Rho} {l:List V} {r:List Value} {o:Nat} (hl:denL ρ l=some r) (hne:partV q o (siz (types P) T) l≠ .u) (w:World):
 ∃a,den ρ (partV q o (siz (types P) T) l)=some a∧(part T r.toArray o).run P w=.ok a w:=by
 obtain⟨i,hi,hs,_⟩:=(und_under hT).2
 unfold partV at hne⊢
 cases hs2:isSt q with
 |true=>
  rw[ifT_true rfl,take_eq,drop_eq]
  rw[hs2]at hq
  refine⟨.agg ((r.drop o).take i.size).toArray,by rw[hs];simp[den,denL_take _ (denL_drop _ hl)],?_⟩
  simp[part,run_isAgg P hT,←hq,run_sizeOf P hi,extract_list]
 |false=>
  rw[hs2,ifT_false rfl]at hne
  rw[ifT_false rfl]
  rw[hs2]at hq
  by_cases hlt:o<l.length
  · obtain⟨x,g1,g2⟩:=nth_den hl hlt
    exact⟨x,g2,by simp[part,run_isAgg P hT,←hq,g1]⟩
  · exfalso;apply hne;rw[nth_eq];simp[List.getD,List.getElem?_eq_none (Nat.le_of_not_lt hlt)]
def agD:TypeDesc→Bool| .struct _=>true| .array _ _=>true|_=>false
theorem agg_of {T:Nat} {D:TypeDesc} (hT:und (types P) T=some D):agg (types P) T=agD D:=by
 unfold agg;rw[hT];cases D<;>rfl
theorem cQ_st:∀{f T:Nat} {q:Q},cQ P (types P) f T=some q→∃D,und (types P) T=some D∧isSt q=agg (types P) T
 |0,_,_,h=>by simp[cQ]at h
 |f+1,T,q,h=>by
  unfold cQ at h
  cases hD:und (types P) T with
  |none=>rw[hD]at h;cases h
  |some D=>
   rw[hD]at h
   refine⟨D,rfl,?_⟩
   rw[agg_of hD]
   cases D<;>simp only at h<;>first|cases h|skip
   all_goals first|rfl|skip
   · rename_i e
     cases hb:Nat.beq (siz (types P) e) 0 with
     |true=>rw[hb]at h;cases h
     |false=>rw[hb]at h;cases h;rfl
   · cases hb:P.stoodInHeld T with
     |true=>rw[hb]at h;cases h
     |false=>
      rw[hb]at h
      simp only[cond_false,Option.map_eq_some_iff]at h
      obtain⟨l,_,rfl⟩:=h
      rfl
theorem eQ_ok:∀{f T:Nat} {q:Q},cQ P (types P) f T=some q→EqOk P T (eQ q) f
 |0,_,_,h=>by simp[cQ]at h
 |f+1,T,q,h=>by
  unfold cQ at h
  cases hD:und (types P) T with
  |none=>rw[hD]at h;cases h
  |some D=>
   rw[hD]at h
   cases D<;>simp only at h<;>first|cases h|skip
   · exact eB_ok P hD
   · exact eI_ok P hD
   · exact eS_ok P hD
   · rename_i e
     cases hb:Nat.beq (siz (types P) e) 0 with
     |true=>rw[hb]at h;cases h
     |false=>rw[hb]at h;cases h;exact eP_ok P hD (fun hh=>by rw[hh]at hb;cases hb)
   · rename_i fs
     cases hb:P.stoodInHeld T with
     |true=>rw[hb]at h;cases h
     |false=>
      rw[hb]at h
      simp only[cond_false,Option.map_eq_some_iff]at h
      obtain⟨ql,hl,rfl⟩:=h
      have hfs:P.fieldsOf T=fs:=by unfold Program.fieldsOf;rw[(und_under hD).1]
      have hu:P.underlying T=some (.struct (P.fieldsOf T)):=by rw[hfs];exact(und_under hD).1
      have key:∀(fl:List Field) (ql:QL),(fl.foldr (fun g l=>match l,cQ P (types P) f g.type with
       |some l,some q=>bif g.name== "_" then none else some (QL.c g.offset (siz (types P) g.type) q l)
       |_,_=>none) (some QL.e))=some ql→∀{h:HP} {l1 l2:List V} {k:Bool→R} {v':V} {h':HP} {c':Nat},eQL ql h l1 l2 k=.fin v' h' c'→∃r,k r=.fin v' h' c'∧
       ∀{X:Spx} {w0:Base} {ρ:Rho} {c:Nat} {w:World} {r1 r2:List Value},HR X P w0 ρ h c w→denL ρ l1=some r1→denL ρ l2=some r2→
        ∀d,f≤d→(Op.eqFields d r1.toArray r2.toArray fl).run P w=.ok r w:=by
       intro fl
       induction fl with
       |nil=>
        intro ql hq h l1 l2 k v' h' c' H
        cases hq
        exact⟨true,H,fun _ _ _ d _=>by simp[Op.eqFields]⟩
       |cons g fl ih=>
        intro ql hq h l1 l2 k v' h' c' H
        rw[List.foldr_cons]at hq
        split at hq
        · rename_i l q hl' hcq
          cases hn:g.name== "_" with
          |true=>rw[hn]at hq;cases hq
          |false=>
           rw[hn]at hq
           simp only[cond_false,Option.some.injEq]at hq
           subst hq
           rw[eQL_c]at H
           obtain⟨r,f1,f2,f3,f4⟩:=eQ_ok hcq H
           obtain⟨D',hD',hst⟩:=cQ_st hcq
           have hn':g.name≠ "_" :=by simpa using hn
           cases r with
           |false=>
            refine⟨false,f1,fun{X w0 ρ c w r1 r2} hR d1 d2 d hd=>?_⟩
            obtain⟨a,g1,g2⟩:=partV_ok hD' hst d1 f2 w
            obtain⟨b,g3,g4⟩:=partV_ok hD' hst d2 f3 w
            obtain⟨g5,_⟩:=f4 hR g1 g3
            simp[Op.eqFields,hn',g2,g4,g5 d hd]
           |true=>
            obtain⟨r,j1,j2⟩:=ih l hl' (f1:eQL l h l1 l2 k=_)
            refine⟨r,j1,fun{X w0 ρ c w r1 r2} hR d1 d2 d hd=>?_⟩
            obtain⟨a,g1,g2⟩:=partV_ok hD' hst d1 f2 w
            obtain⟨b,g3,g4⟩:=partV_ok hD' hst d2 f3 w
            obtain⟨g5,_⟩:=f4 hR g1 g3
            simp[Op.eqFields,hn',g2,g4,g5 d hd,j2 hR d1 d2 d hd]
        · cases hq
      intro h x y k v' h' c' H
      rw[eQ_st]at H
      obtain⟨l1,e1,e2⟩:=asA_fin H
      obtain⟨l2,e3,e4⟩:=asA_fin e2
      obtain⟨r,j1,j2⟩:=key _ _ hl e4
      refine⟨r,j1,(by rintro rfl;cases e1),(by rintro rfl;cases e3),fun{X w0 ρ c w a b} hR hX hY=>?_⟩
      obtain⟨r1,d1,d2⟩:=agg_den e1 hX
      obtain⟨r2,d3,d4⟩:=agg_den e3 hY
      subst d2;subst d4
      refine⟨fun d hd=>?_,by simp⟩
      obtain⟨d,rfl⟩:∃e,d=e+1:=⟨d-1,by omega⟩
      rw[run_equalIn_agg w d T _ _ hu hb,hfs]
      exact j2 hR d1 d3 d (by omega)
end
end Ev
end
section
namespace Ev
open Go Go.RowKit
set_option linter.unusedVariables false
set_option linter.unusedSimpArgs false
section
variable {X:Spx} {P:Program} {nt:Nat}
def Cmp (a:Value):Prop:=(∃x,a=.bool x)∨(∃x,a=.pointer x)∨∃x,a=.agg x
theorem run_eqs {T:TypeId} {a b:Value} {r:Bool} {w:World} (ha:Cmp a) (hg:P.eqGuardType P.depth T=false) (h:(Op.equalIn 10000 T a b).run P w=.ok r w) (s t:Operand):
 (do eqGuard .eql T s t a b;binOp .eql T a b:Sem Value).run P w=.ok (.bool r) w∧(do eqGuard .neq T s t a b;binOp .neq T a b:Sem Value).run P w=.ok (.bool !r) w:=by
 have g:∀op,(eqGuard op T s t a b).run P w=.ok () w:=by
  intro op
  rcases ha with⟨x,rfl⟩|⟨x,rfl⟩|⟨x,rfl⟩
  · cases op<;>cases b<;>rfl
  · cases op<;>cases b<;>rfl
  · cases b
    case agg ys=>exact run_eqGuard_agg w op T s t x ys hg
    all_goals cases op<;>rfl
 have e1:binOp .eql T a b=(do pure (.bool (←Op.equal T a b))):=by
  rcases ha with⟨x,rfl⟩|⟨x,rfl⟩|⟨x,rfl⟩<;>cases b<;>rfl
 have e2:binOp .neq T a b=(do pure (.bool (!(←Op.equal T a b)))):=by
  rcases ha with⟨x,rfl⟩|⟨x,rfl⟩|⟨x,rfl⟩<;>cases b<;>rfl
 have h':(Op.equal T a b).run P w=.ok r w:=h
 constructor
 · rw[Sem.run_bind,g,Result.andThen_ok,e1,Sem.run_bind,h',Result.andThen_ok];rfl
 · rw[Sem.run_bind,g,Result.andThen_ok,e2,Sem.run_bind,h',Result.andThen_ok];rfl
theorem eq_cmp {f T:Nat} {q:Q} {D:TypeDesc} (hc:cQ P (types P) f T=some q) (hD:und (types P) T=some D) (h1:∀k,D≠ .int k) (h2:D≠ .string) {h:HP} {x y:V} {k:Bool→R} {v':V} {h':HP} {c':Nat} (H:eQ q h x y k=.fin v' h' c')
 {ρ:Rho} {a:Value} (ha:den ρ x=some a):Cmp a:=by
 cases f with
 |zero=>simp[cQ]at hc
 |succ f=>
  unfold cQ at hc
  rw[hD]at hc
  cases D<;>simp only at hc<;>first|cases hc|skip
  · obtain⟨m,e1,e2⟩:=asB_fin H
    exact .inl ⟨_,bool_den e1 ha⟩
  · exact absurd rfl (h1 _)
  · exact absurd rfl h2
  · rename_i e
    cases hb:Nat.beq (siz (types P) e) 0 with
    |true=>rw[hb]at hc;cases hc
    |false=>
     rw[hb]at hc;cases hc
     rcases asQ_fin H with⟨e1,e2⟩|⟨b,o,e1,e2⟩
     · subst e1;simp only[den,Option.some.injEq]at ha;exact .inr (.inl ⟨_,ha.symm⟩)
     · obtain⟨p,_,d2⟩:=ptr_den e1 ha;exact .inr (.inl ⟨_,d2⟩)
  · cases hb:P.stoodInHeld T with
    |true=>rw[hb]at hc;cases hc
    |false=>
     rw[hb]at hc
     simp only[cond_false,Option.map_eq_some_iff]at hc
     obtain⟨l,_,rfl⟩:=hc
     rw[eQ_st]at H
     obtain⟨l1,e1,e2⟩:=asA_fin H
     obtain⟨r1,_,d2⟩:=agg_den e1 ha
     exact .inr (.inr ⟨_,d2⟩)
variable {o:Oper} {d:DS}
theorem snd_eq {T:TypeId} {x y:Operand} {D:TypeDesc} {q:Q} {y1 y2:OP} {p:TypeId} (hop:o.op=.binOp .eql T x y p) (hd:cDst nt o.dst=.mk d) (h1:cOpd nt x=.mk y1) (h2:cOpd nt y=.mk y2) (hD:und (types P) T=some D) (hi:∀k,D≠ .int k) (hs:D≠ .string)
 (hg:P.eqGuardType P.depth T=false) (hq:cQ P (types P) 10 T=some q):VSnd X P nt d (fEq d q y1 y2) o:=by
 refine VSnd.of (by rw[hop];simp) hd fun cal t h c df k v' h' c' e=>?_
 obtain⟨r,e1,_,_,e4⟩:=eQ_ok hq e
 rw[bol_eq]at e1
 refine⟨_,e1,fun w0 ρ a w hR hTR=>⟨.bool r,by simp[den],?_⟩⟩
 have:=(run_eqs (eq_cmp hq hD hi hs e (opd_den h1 hTR)) hg ((e4 hR (opd_den h1 hTR) (opd_den h2 hTR)).1 10000 (by omega)) x y).1
 simp only[execOp,hop,Sem.run_bind]at this⊢
 rw[this];rfl
theorem snd_ne {T:TypeId} {x y:Operand} {D:TypeDesc} {q:Q} {y1 y2:OP} {p:TypeId} (hop:o.op=.binOp .neq T x y p) (hd:cDst nt o.dst=.mk d) (h1:cOpd nt x=.mk y1) (h2:cOpd nt y=.mk y2) (hD:und (types P) T=some D) (hi:∀k,D≠ .int k) (hs:D≠ .string)
 (hg:P.eqGuardType P.depth T=false) (hq:cQ P (types P) 10 T=some q):VSnd X P nt d (fNe d q y1 y2) o:=by
 refine VSnd.of (by rw[hop];simp) hd fun cal t h c df k v' h' c' e=>?_
 obtain⟨r,e1,_,_,e4⟩:=eQ_ok hq e
 rw[nbl_eq]at e1
 refine⟨_,e1,fun w0 ρ a w hR hTR=>⟨.bool !r,by simp[den],?_⟩⟩
 have:=(run_eqs (eq_cmp hq hD hi hs e (opd_den h1 hTR)) hg ((e4 hR (opd_den h1 hTR) (opd_den h2 hTR)).1 10000 (by omega)) x y).2
 simp only[execOp,hop,Sem.run_bind]at this⊢
 rw[this];rfl
theorem snd_bad {n:Nat}:OSnd X P nt (badO n) o:=fun cal _ t h c df k v' h' c' e=>(by cases e)
end
end Ev
end
section
namespace Ev
open Go Go.RowKit
set_option linter.unusedVariables false
set_option linter.unusedSimpArgs false
theorem asM_fin {v w:V} {h:HP} {c:Nat} {q:Nat→R} (H:asM v q=.fin w h c):∃a,v=.mp a∧q a=.fin w h c:=by cases v<;>first|exact⟨_,rfl,H⟩|cases H
theorem mbk_fin {h:HP} {a:Nat} {k:Nat→Nat→Nat→List Me→R} {v:V} {h':HP} {c':Nat} (e:mbk h a k=.fin v h' c'):∃kt et n l,hget h a=.mp kt et n l∧k kt et n l=.fin v h' c':=by
 unfold mbk at e
 cases hb:hget h a with
 |mp kt et n l=>rw[hb]at e;exact⟨kt,et,n,l,rfl,e⟩
 |_=>rw[hb]at e;cases e
theorem wfI_ok {n:Int} (h:wfI n=true):(Lit.int .i64 n).wf=true:=by
 have h2: -9223372036854775808≤n∧n≤9223372036854775807:=by
  cases n with
  |ofNat m=>
   have:m<9223372036854775808:=by simpa[wfI,Nat.blt_eq]using h
   simp only[Int.ofNat_eq_natCast];omega
  |negSucc m=>
   have:m<9223372036854775808:=by simpa[wfI,Nat.blt_eq]using h
   omega
 show(decide (IntKind.i64.min≤n)&&decide (n≤IntKind.i64.max))=true
 rw[show IntKind.i64.min= -9223372036854775808 by decide,show IntKind.i64.max=9223372036854775807 by decide]
 simp[h2.1,h2.2]
theorem mlk_cons (x:Int) (y:Bool) (l:List Me) (n:Int):mlk (.mk x y::l) n=if x=n then y else mlk l n:=by
 show ifT (ieq x n) y (mlk l n)=_
 by_cases h:x=n
 · rw[if_pos h,ifT_true (by rw[ieq_eq];simpa using h)]
 · rw[if_neg h,ifT_false]
   cases hb:ieq x n with
   |false=>rfl
   |true=>rw[ieq_eq]at hb;exact absurd (by simpa using hb) h
theorem plainElem_bool_inv {P:Program} {e:TypeId} (he:P.underlying e=some .bool) {v:Value} {z:DataW Unit × List MemPlace} (h:plainElem P e v=some z):∃x,v=.bool x∧z=(.lit (.bool x),[]):=by
 unfold plainElem at h
 rw[he]at h
 cases v<;>simp at h
 exact⟨_,rfl,h.symm⟩
section
variable {X:Spx} {P:Program} {nt:Nat} {o:Oper} {d:DS}
theorem zB_zero {t:Nat} (h:zB (types P) t=true) (w:World):(zeroValue t).run P w=.ok (.bool false) w:=by
 unfold zB at h
 cases hi:tyI (types P) t with
 |none=>rw[hi]at h;cases h
 |some i=>
  rw[hi]at h
  simp only at h
  split at h
  · rename_i hz
    simp[zeroValue,typeInfo,tyI_info hi,hz]
  · cases h
theorem snd_mm {T kt et:Nat} (hop:o.op=.makeMap T none) (hd:cDst nt o.dst=.mk d) (hk:und (types P) kt=some (.int .i64)) (he:und (types P) et=some .bool):OSnd X P nt (fMm d kt et) o:=by
 refine OSnd.mem (by rw[hop];simp) hd fun cal _ t h c df k v' h' c' e=>?_
 obtain⟨e1,e2⟩:=newK_fin e
 refine⟨_,_,_,e2,fun w0 ρ a w hR hT=>?_⟩
 refine⟨_,.map (some w.heap.size),_,hR.le_up _,hR.new e1 (.map #[] 0) 0 (by simp) (by simp) ?_,by simp[den,up_self],Kp.new hR e1,by omega,?_⟩
 · exact⟨(w.heap.size,0),.map [],up_self _ _ _,World.ownsMap_made w P kt _,(und_under hk).1,(und_under he).1,fun m _=>rfl⟩
 · simp only[execOp,hop]
   rfl
theorem snd_lk {T kt et:Nat} {x y:Operand} {y1 y2:OP} (hop:o.op=.lookup T x y false) (hd:cDst nt o.dst=.mk d) (h1:cOpd nt x=.mk y1) (h2:cOpd nt y=.mk y2) (hT:und (types P) T=some (.map kt et)) (hz:zB (types P) et=true):OSnd X P nt (fLk d kt et y1 y2) o:=by
 refine OSnd.val (by rw[hop];simp) hd fun cal t h c df k v' h' c' e=>?_
 obtain⟨a0,e1,e2⟩:=asM_fin e
 obtain⟨kt',et',n,l,e3,e4⟩:=mbk_fin e2
 obtain⟨e5,e6⟩:=ifT_fin e4
 obtain⟨e7,e8⟩:=ifT_fin e6
 have:=Nat.eq_of_beq_eq_true e5;subst this
 have:=Nat.eq_of_beq_eq_true e7;subst this
 obtain⟨kd0,m,e9,e10⟩:=asI_fin e8
 obtain⟨e11,e12⟩:=ifT_fin e10
 obtain⟨e13,e14⟩:=ifT_fin e12
 rw[fB_eq]at e14
 refine⟨_,e14,fun w0 ρ a w hR hTR=>⟨.bool (mlk l m),by simp[den],?_⟩⟩
 have hx:=opd_den h1 hTR
 rw[e1]at hx
 simp only[den,Option.map_eq_some_iff]at hx
 obtain⟨p,hp,hx⟩:=hx
 have hy:=Option.some.inj ((opd_den h2 hTR).symm.trans (int_den e9))
 have hkd:=Nat.eq_of_beq_eq_true e11
 subst hkd
 have hb:=hR.blk a0 (hR.dom _ _ hp).1
 rw[e3]at hb
 obtain⟨p',D,q1,q2,q3,q4,q5⟩:=hb
 rw[hp]at q1;cases q1
 have hwf:=wfI_ok e13
 obtain⟨v,ps,r1,r2⟩:=q2.lookup (Maps.int_keyed q3) (und_under hT).1 (zB_zero hz w) (plainElem_bool q4 false) (Maps.keyOf_int_mk q3 hwf)
 obtain⟨b,rfl,r3⟩:=plainElem_bool_inv q4 r2
 simp only[Prod.mk.injEq]at r3
 have r4:=r3.1
 rw[q5 m hwf]at r4
 simp only[DataW.lit.injEq,Lit.bool.injEq]at r4
 simp only[execOp,hop]
 rw[←hx,hy]
 show(do let v←Instr.lookup T (.map (some p.1)) (.int .i64 m) false;pure (Next.value v):Sem Next).run P w=_
 rw[Sem.run_bind,r1,←r4];rfl
theorem snd_mu {T kt et:Nat} {x y z:Operand} {y1 y2 y3:OP} (hop:o.op=.mapUpdate T x y z) (hdst:o.dst=none) (h1:cOpd nt x=.mk y1) (h2:cOpd nt y=.mk y2) (h3:cOpd nt z=.mk y3) (hT:und (types P) T=some (.map kt et)):OSnd X P nt (fMu kt et y1 y2 y3) o:=by
 intro cal hcal t h c df k v' h' c' e
 obtain⟨a0,e1,e2⟩:=asM_fin e
 obtain⟨kt',et',n,l,e3,e4⟩:=mbk_fin e2
 obtain⟨e5,e6⟩:=ifT_fin e4
 obtain⟨e7,e8⟩:=ifT_fin e6
 have:=Nat.eq_of_beq_eq_true e5;subst this
 have:=Nat.eq_of_beq_eq_true e7;subst this
 obtain⟨kd0,m,e9,e10⟩:=asI_fin e8
 obtain⟨e11,e12⟩:=ifT_fin e10
 obtain⟨e13,e14⟩:=ifT_fin e12
 obtain⟨b,e15,e16⟩:=asB_fin e14
 obtain⟨e17,e18⟩:=ifT_fin e16
 rw[hset_eq]at e18
 have hkd:=Nat.eq_of_beq_eq_true e11
 subst hkd
 refine⟨t,_,c,e18,fun w0 ρ a w rr n' Q K hR hTR hK=>?_⟩
 have hx:=opd_den h1 hTR
 rw[e1]at hx
 simp only[den,Option.map_eq_some_iff]at hx
 obtain⟨p,hp,hx⟩:=hx
 have hy:=Option.some.inj ((opd_den h2 hTR).symm.trans (int_den e9))
 have hzv:=bool_den e15 (opd_den h3 hTR)
 have hb:=hR.blk a0 (hR.dom _ _ hp).1
 rw[e3]at hb
 obtain⟨p',D,q1,q2,q3,q4,q5⟩:=hb
 rw[hp]at q1;cases q1
 have hwf:=wfI_ok e13
 have hn:n<1000000:=by simpa[Nat.blt_eq]using e17
 obtain⟨w1,r1,r2,r3⟩:=q2.update (Maps.int_keyed q3) (und_under hT).1 (by unfold maxLen;omega) (Maps.keyOf_int_mk q3 hwf) (plainElem_bool q4 b)
 have hsame:w1.heap.size=w.heap.size:=by
  obtain⟨es,clock,hbk,F,hsz,_⟩:=q2
  obtain⟨es',clock',s1,_⟩:=Maps.fit_store (R':=plainElem P et') (Maps.int_keyed q3) (und_under hT).1 hbk F (by unfold maxLen;omega) (fun _ _ _ _ hz=>hz) (Maps.keyOf_int_mk q3 hwf) (plainElem_bool q4 b)
  rw[r1]at s1
  cases s1
  simp[ChangeMaps.setBlock]
 refine⟨fun _ _=>trivial,?_⟩
 rw[Oper.semAt_eq _ _ _ (by rw[hop];simp)]
 have hrun:(execOp a.eval o).run P w=.ok .skip w1:=by
  simp only[execOp,hop]
  rw[←hx,hy,hzv]
  show(do Instr.mapUpdate T (.map (some p.1)) (.int .i64 m) (.bool b);pure Next.skip:Sem Next).run P w=_
  rw[Sem.run_bind,r1];rfl
 rw[hrun]
 show K (a.put o.dst undef) w1
 rw[hdst]
 have hlt:=(hR.dom _ _ hp).1
 have hle:=hR.le
 refine hK ρ a w1 (Le.refl _) (hR.set hp (by rw[e3];exact Blk.noConfusion) (fun s hs=>by rw[e3]at hs;cases hs) (fun s hs=>by cases hs) hsame r3.os r3.tape r3.output (fun j hj=>?_) ?_) hTR (Kp.hs hle (by omega) fun _ hh=>by rw[e3]at hh;cases hh) (Nat.le_refl _) rfl
 · by_cases hjl:j<w.heap.size
   · exact r3.block j hjl (fun e=>hj (by cases e;rfl))
   · rw[Array.getElem?_eq_none (by omega),Array.getElem?_eq_none (by omega)]
 · refine⟨p,_,hp,r2,q3,q4,fun m' hm'=>?_⟩
   rw[mlk_cons]
   by_cases hmm:m=m'
   · subst hmm
     rw[if_pos rfl,Maps.atKey_put_same q2.isMap (show WideAt.IsKeyLit (.int .i64 m)from trivial)]
   · rw[if_neg hmm,Maps.atKey_put_other (fun e=>hmm (by cases e;rfl)),q5 m' hm']
end
end Ev
end
