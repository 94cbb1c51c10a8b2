import Derived.Test.YtpkaehpllldcmaaGreatDoorArT
namespace Go.Proofs.YtpkaehpllldcmaaGreatDoor.Bt
open Go Go.RowKit Go.Shelf Ev
set_option linter.unusedVariables false
set_option linter.unusedSimpArgs false
section
variable {s:AS} {p k x r:Nat} {z:R}
theorem aLd_or {q:Nat→R}:aLd s p k z q=z∨∃n es m r f,s=.mk n es m r f∧whl k=true∧thr n es p k=true∧aLd s p k z q=q (gW m p k):=by
 cases s with
 |mk n es m r f=>
  show iff (whl k) z (iff (thr n es p k) z (fN (gW m p k) q))=z∨_
  rcases iff_or (b:=whl k) (z:=z) (q:=iff (thr n es p k) z (fN (gW m p k) q))with e|⟨h1,e⟩
  · exact .inl e
  rcases iff_or (b:=thr n es p k) (z:=z) (q:=fN (gW m p k) q)with e2|⟨h2,e2⟩
  · exact .inl (e.trans e2)
  exact .inr ⟨n,es,m,r,f,rfl,h1,h2,(e.trans e2).trans fN_eq⟩
theorem aBy_or {q:List Nat→R}:aBy s p k z q=z∨∃n es m r f,s=.mk n es m r f∧thr n es p k=true∧aBy s p k z q=q (byL k (gW m p k)):=by
 cases s with
 |mk n es m r f=>
  show iff (thr n es p k) z (fL (byL k (gW m p k)) q)=z∨_
  rcases iff_or (b:=thr n es p k) (z:=z) (q:=fL (byL k (gW m p k)) q)with e2|⟨h2,e2⟩
  · exact .inl e2
  exact .inr ⟨n,es,m,r,f,rfl,h2,e2.trans fL_eq⟩
theorem aWr_or {q:AS→R}:aWr s p k x z q=z∨∃n es m r f,s=.mk n es m r f∧thr n es p k=true∧aWr s p k x z q=q (.mk n es (sW m p k x) r f):=by
 cases s with
 |mk n es m r f=>
  show iff (thr n es p k) z (fN (sW m p k x) fun m=>q (.mk n es m r f))=z∨_
  rcases iff_or (b:=thr n es p k) (z:=z) (q:=fN (sW m p k x) fun m=>q (.mk n es m r f))with e2|⟨h2,e2⟩
  · exact .inl e2
  exact .inr ⟨n,es,m,r,f,rfl,h2,e2.trans fN_eq⟩
theorem aTh_or {q:R}:aTh s p k z q=z∨∃n es m r f,s=.mk n es m r f∧thr n es p k=true∧aTh s p k z q=q:=by
 cases s with
 |mk n es m r f=>
  show iff (thr n es p k) z q=z∨_
  rcases iff_or (b:=thr n es p k) (z:=z) (q:=q)with e2|⟨h2,e2⟩
  · exact .inl e2
  exact .inr ⟨n,es,m,r,f,rfl,h2,e2⟩
theorem aCp_or {q:AS→R}:aCp s p r k z q=z∨∃n es m rf f,s=.mk n es m rf f∧thr n es r k=true∧thr n es p k=true∧aCp s p r k z q=q (.mk n es (sW m p k (gW m r k)) rf f):=by
 cases s with
 |mk n es m rf f=>
  show iff (thr n es r k) z (aWr (.mk n es m rf f) p k (gW m r k) z q)=z∨_
  rcases iff_or (b:=thr n es r k) (z:=z) (q:=aWr (.mk n es m rf f) p k (gW m r k) z q)with e2|⟨h2,e2⟩
  · exact .inl e2
  rcases aWr_or (s:=.mk n es m rf f) (p:=p) (k:=k) (x:=gW m r k) (z:=z) (q:=q)with e3|⟨n',es',m',r',f',h3,h4,e3⟩
  · exact .inl (e2.trans e3)
  cases h3
  exact .inr ⟨n,es,m,rf,f,rfl,h2,h4,e2.trans e3⟩
end
section
variable {n:Nat} {es:List Nat} {m p k:Nat} {r:Bool} {f:Nat}
theorem ldV_eq (g:Good n es) (hw:whl k=true) (ht:thr n es p k=true):ldV (asS (.mk n es m r f)) (p:Int) (k:Int)=(gW m p k:Int):=by
 unfold ldV
 rw[if_pos (show numE (asS (.mk n es m r f)).L (asS (.mk n es m r f)).es p k=0 from num_there g ht hw)]
 simp only[Int.toNat_natCast]
 exact congrArg _ (numV_gW m p k)
theorem byV_eq (g:Good n es) (ht:thr n es p k=true):byV (asS (.mk n es m r f)) (p:Int) (k:Int)=str (byL k (gW m p k)):=by
 unfold byV
 rw[if_pos (show thereE (asS (.mk n es m r f)).L (asS (.mk n es m r f)).es p k=0 from thr_there g ht)]
 simp only[Int.toNat_natCast]
 unfold str
 rw[byL_map]
 show strL (getM (byM m) p k)=_
 unfold strL getM
 congr 2
 refine List.map_congr_left fun j hj=>?_
 exact(byM_gW m p k j (by simpa using hj)).symm
theorem store_eq (g:Good n es) (hw:whl k=true) (ht:thr n es p k=true) (x:Nat):storeS (asS (.mk n es m r f)) (p:Int) (k:Int) (x:Int)=asS (.mk n es (sW m p k (x%2^(8*k))) r f):=by
 unfold storeS
 rw[if_pos (show numE (asS (.mk n es m r f)).L (asS (.mk n es m r f)).es p k=0 from num_there g ht hw)]
 simp only[Int.toNat_natCast,asS,ASt.mk.injEq,true_and,and_true]
 refine(putM_sW m p k _ (by simp[numB]) (Nat.mod_lt _ (Nat.two_pow_pos _)) fun j hj=>?_).symm
 simp only[numB,byteN,Int.toNat_natCast,List.getD_eq_getElem?_getD,List.getElem?_map,List.getElem?_range hj,Option.map_some,Option.getD_some]
 refine ofNat_eq fun b hb=>?_
 rw[Nat.testBit_shiftRight,Nat.testBit_mod_two_pow,decide_eq_true (by omega),Bool.true_and,←Nat.shiftRight_eq_div_pow,Nat.testBit_shiftRight]
theorem put_eq' (g:Good n es) {b:List Nat} (ht:thr n es p b.length=true):putS (asS (.mk n es m r f)) (p:Int) (b.map UInt8.ofNat)=asS (.mk n es (sW m p b.length (nuL b)) r f):=by
 unfold putS
 rw[List.length_map,if_pos (show thereE (asS (.mk n es m r f)).L (asS (.mk n es m r f)).es p b.length=0 from thr_there g ht)]
 simp only[Int.toNat_natCast,asS,ASt.mk.injEq,true_and,and_true]
 refine(putM_sW m p b.length _ (by simp) (nuL_lt b) fun j hj=>?_).symm
 rw[byM_nuL b j hj]
 simp[List.getD_eq_getElem?_getD,hj]
theorem fill_eq (g:Good n es) (ht:thr n es p k=true) (y:Nat):fillS (asS (.mk n es m r f)) (p:Int) (k:Int) (UInt8.ofNat y)=asS (.mk n es (sW m p k (reZ k y)) r f):=by
 unfold fillS
 rw[if_pos (show thereE (asS (.mk n es m r f)).L (asS (.mk n es m r f)).es p k=0 from thr_there g ht)]
 simp only[Int.toNat_natCast,asS,ASt.mk.injEq,true_and,and_true]
 rw[reZ_eq]
 refine(putM_sW m p k _ (by simp) (by have:=nuL_lt (List.replicate k y);rwa [List.length_replicate]at this) fun j hj=>?_).symm
 rw[byM_nuL _ j (by simpa using hj)]
 simp[List.getD_eq_getElem?_getD,hj]
theorem u8_cast {y:Nat} (h:Nat.blt y 256=true):(((UInt8.ofNat y).toNat:Nat):Int)=(y:Int):=by
 have:y<256:=by simpa[Nat.blt_eq]using h
 rw[UInt8.toNat_ofNat',Nat.mod_eq_of_lt (by simpa using this)]
theorem copy_eq (g:Good n es) {q:Nat} (hpq:p≠q) (h1:thr n es p k=true) (h2:thr n es q k=true):copyE (asS (.mk n es m r f)) (p:Int) (q:Int) (k:Int)=0∧copyS (asS (.mk n es m r f)) (p:Int) (q:Int) (k:Int)=asS (.mk n es (sW m p k (gW m q k)) r f):=by
 have e1:thereE (asS (.mk n es m r f)).L (asS (.mk n es m r f)).es p k=0:=thr_there g h1
 have e2:thereE (asS (.mk n es m r f)).L (asS (.mk n es m r f)).es q k=0:=thr_there g h2
 have hne:¬((p:Int)=q):=by omega
 have hE:copyE (asS (.mk n es m r f)) (p:Int) (q:Int) (k:Int)=0:=by
  unfold copyE;rw[if_neg (by rw[e1];simp),if_neg hne,e2]
 refine⟨hE,?_⟩
 unfold copyS
 rw[if_pos hE,if_neg hne]
 simp only[Int.toNat_natCast,asS,ASt.mk.injEq,true_and,and_true]
 refine(putM_sW m p k _ (by simp[getM]) (gW_lt m q k) fun j hj=>?_).symm
 rw[byM_gW m q k j hj]
 simp[getM,List.getD_eq_getElem?_getD,hj]
theorem copy_same (g:Good n es) {q:Nat} (hpq:p=q) (h1:thr n es p k=true) (s:ASt) (hs:s=asS (.mk n es m r f)):copyE s (p:Int) (q:Int) (k:Int)=0∧copyS s (p:Int) (q:Int) (k:Int)=s:=by
 subst hpq
 subst hs
 have e1:thereE (asS (.mk n es m r f)).L (asS (.mk n es m r f)).es p k=0:=thr_there g h1
 have hE:copyE (asS (.mk n es m r f)) (p:Int) (p:Int) (k:Int)=0:=by
  unfold copyE;rw[if_neg (by rw[e1];simp),if_pos rfl]
 exact⟨hE,by unfold copyS;rw[if_pos hE,if_pos rfl]⟩
end
section
variable {P:Program} {w0:Ev.Base} {ρ:Rho} {h:HP} {c:Nat} {w:World} {l:List V} {lv:List Value}
theorem arg_v {A va vs:Nat} (hl:denL ρ (.ag [.p A 0,.i 3 va,.i 3 vs]::l)=some lv):∃p xs,ρ A=some p∧lv=vwV p.1 va vs::xs∧denL ρ l=some xs:=by
 obtain⟨x,xs,rfl,d1,d2⟩:=denL_cons.1 hl
 simp only[den,Option.map_eq_some_iff]at d1
 obtain⟨l1,d3,rfl⟩:=d1
 obtain⟨x1,y1,rfl,e1,e2⟩:=denL_cons.1 d3
 obtain⟨x2,y2,rfl,e3,e4⟩:=denL_cons.1 e2
 obtain⟨x3,y3,rfl,e5,e6⟩:=denL_cons.1 e4
 simp only[den,Option.map_eq_some_iff,Option.some.injEq]at e1 e3 e5
 rw[denL_nil]at e6
 obtain⟨p,hp,rfl⟩:=e1
 cases e6
 subst e3;subst e5
 exact⟨p,xs,hp,rfl,d2⟩
theorem arg_p {A:Nat} (hl:denL ρ (.p A 0::l)=some lv):∃p xs,ρ A=some p∧lv=.pointer (some ⟨p.1,0,none⟩)::xs∧denL ρ l=some xs:=by
 obtain⟨x,xs,rfl,d1,d2⟩:=denL_cons.1 hl
 simp only[den,Option.map_eq_some_iff]at d1
 obtain⟨p,hp,rfl⟩:=d1
 exact⟨p,xs,hp,rfl,d2⟩
theorem arg_n {j m:Nat} (hl:denL ρ (.i j m::l)=some lv):∃xs,lv=.int (kd j) (m:Int)::xs∧denL ρ l=some xs:=by
 obtain⟨x,xs,rfl,d1,d2⟩:=denL_cons.1 hl
 simp only[den,Option.some.injEq]at d1
 subst d1
 exact⟨xs,rfl,d2⟩
theorem arg_s {b:List Nat} (hl:denL ρ (.s b::l)=some lv):∃xs,lv=.string (str b)::xs∧denL ρ l=some xs:=by
 obtain⟨x,xs,rfl,d1,d2⟩:=denL_cons.1 hl
 simp only[den,Option.some.injEq]at d1
 subst d1
 exact⟨xs,rfl,d2⟩
theorem arg_0 (hl:denL ρ []=some lv):lv=[]:=by rw[denL_nil]at hl;cases hl;rfl
theorem sp_in {A:Nat} {p:Nat × Nat} {s:AS} (H:HR arX P w0 ρ h c w) (hp:ρ A=some p) (hs:hget h A=.sp s):On p.1 (asS s) w:=by
 have:=H.blk A (H.dom _ _ hp).1
 rw[hs]at this
 obtain⟨q,q1,q2⟩:=this
 rw[hp]at q1;cases q1
 exact q2
theorem fin_gives {g:Nat} {args:Array Value} {r:Value} {v:V} (H:HR arX P w0 ρ h c w) (hc:Calls P g args w (Gives r w)) (hv:den ρ v=some r):
 Calls P g args w fun e w'=>∃x,e=.returned x∧∃ρ',Le ρ ρ'∧HR arX P w0 ρ' h c w'∧den ρ' v=some x∧Kp h h c∧c≤c:=
 hc.mono fun e w' ⟨he,hb⟩=>⟨r,he,ρ,Le.refl _,H.below hb,hv,Kp.refl _ _,Nat.le_refl _⟩
theorem fin_ret {g A:Nat} {p:Nat × Nat} {s s2:AS} {s':ASt} {args:Array Value} {r:Value} {v:V} (H:HR arX P w0 ρ h c w) (hp:ρ A=some p) (hs:hget h A=.sp s) (hc:Calls P g args w (Ret p.1 s' r w)) (he:s'=asS s2) (hv:den ρ v=some r):
 Calls P g args w fun e w'=>∃x,e=.returned x∧∃ρ',Le ρ ρ'∧HR arX P w0 ρ' (Ev.hs h A (.sp s2)) c w'∧den ρ' v=some x∧Kp h (Ev.hs h A (.sp s2)) c∧c≤c:=
 hc.mono fun e w' ⟨h1,h2,h3⟩=>by
  obtain⟨q1,q2⟩:=H.turn hp hs (show arX.In p.1 s2 w' by rw[he]at h2;exact h2) (trn_of h3)
  exact⟨r,h1,ρ,Le.refl _,q1,hv,q2,Nat.le_refl _⟩
theorem thr_le {n:Nat} {es:List Nat} {p k:Nat} (g:Good n es) (h:thr n es p k=true):(p:Int)≤9223372036854775807∧(k:Int)≤9223372036854775807:=by
 have h1:=(thr_iff h).1
 have h2:=g.small
 omega
end
theorem on_aload {A:Nat} {s:ASt} {w:World} (h:On A s w) (a k:Int) (ha:a≤9223372036854775807):
 Calls Tryz.prog 145 #[.pointer (some ⟨A,0,none⟩),.int .i64 a,.int .i64 k] w (Gives (.tuple #[.int .u64 (ldV s a k),.int .i64 (numE s.L s.es a k)]) w):=by
 obtain⟨P,ps,p,n,cap,h⟩:=h;exact load_any h a k ha
theorem on_astore {A:Nat} {s:ASt} {w:World} (h:On A s w) (a k x:Int) (ha:a≤9223372036854775807) (hx:0≤x):
 Calls Tryz.prog 147 #[.pointer (some ⟨A,0,none⟩),.int .i64 a,.int .i64 k,.int .u64 x] w (Ret A (storeS s a k x) (.int .i64 (numE s.L s.es a k)) w):=by
 obtain⟨P,ps,p,n,cap,h⟩:=h;exact(store_any h a k x ha hx).mono fun e w' k=>On.ret h k
theorem on_acopy {A:Nat} {s:ASt} {w:World} (h:On A s w) (tq fr k:Int) (ha:tq≤9223372036854775807) (hf:fr≤9223372036854775807):
 Calls Tryz.prog 30 #[.pointer (some ⟨A,0,none⟩),.int .i64 tq,.int .i64 fr,.int .i64 k] w (Ret A (copyS s tq fr k) (.int .i64 (copyE s tq fr k)) w):=by
 obtain⟨P,ps,p,n,cap,h⟩:=h;exact(copy_any h tq fr k ha hf).mono fun e w' k=>On.ret h k
theorem HRhold {P:Program} {w0:Ev.Base} {ρ:Rho} {h:HP} {c:Nat} {w w':World} (H:HR arX P w0 ρ h c w) {a:Nat} {A:Nat × Nat} {s:AS} (ha:ρ a=some A) (hs:hget h a=.sp s) (hI:arX.In A.1 s w') (ht:Trn arX A.1 w w'):HR arX P w0 ρ h c w':=by
 have H2:=(H.turn ha hs hI ht).1
 have hac:=(H.dom a A ha).1
 have hle:=H.le
 have hg:∀k,k<c→hget (Ev.hs h a (.sp s)) k=hget h k:=fun k hk=>by
  rw[hget_hs _ h (by omega) (by omega)]
  split
  · rename_i e;rw[e,hs]
  · rfl
 have hgo:∀k p,ρ k=some p→hget (Ev.hs h a (.sp s)) k=hget h k:=fun k p hk=>hg k (H.dom _ _ hk).1
 exact⟨H2.bel,H2.le,fun k p hk=>by have:=H2.dom k p hk;rw[hgo k p hk]at this;exact this,fun k k' p p' hk hk' h1 h2 e=>H2.inj k k' p p' hk hk' (by rw[hgo k p hk];exact h1) (by rw[hgo k' p' hk'];exact h2) e,
  fun k hk=>by have:=H2.blk k hk;rw[hg k hk]at this;exact this,fun k a' A' hb hA k' p' hx hne hk'=>H2.sep k a' A' (by rw[hgo k A' hA];exact hb) hA k' p' (by rw[hgo k' p' hk'];exact hx) hne hk',
  fun k a' A' hk hA=>by
   have:=H2.one k a' A' (by rw[hgo k A' hA];exact hk) hA
   exact⟨this.1,fun k' a2 A2 hne hk' hA2=>this.2 k' a2 A2 hne (by rw[hgo k' A2 hA2];exact hk') hA2⟩,H2.noc⟩
theorem row_vload:ArOK Tryz.prog arX 128 xVLoad:=by
 intro l h c k z v' h' c' e
 unfold xVLoad n3 at e
 rcases sh_v33 (l:=l) (h:=h) (z:=z) (q:=fun A s va vs a b=>adr va vs a (b) z fun p=>aLd s p b z fun x=>k (.tu [.i (nat_lit 7) x,okV]) h c)with e1|⟨A,s,va,vs,a,b,rfl,hs,e1⟩
 · exact .inl (e1.symm.trans e)
 have e:=e1.symm.trans e
 rcases adr_or (z:=z)with e2|⟨hk,hva,hvs,e2⟩
 · exact .inl (e2.symm.trans e)
 have e:=e2.symm.trans e
 rcases aLd_or (s:=s) (p:=(va+a)) (k:=b) (z:=z)with e3|⟨n,es,m,r,f,rfl,hw,ht,e3⟩
 · exact .inl (e3.symm.trans e)
 have e:=e3.symm.trans e
 refine .inr ⟨_,h,c,e,fun w0 ρ w lv H hl=>?_⟩
 obtain⟨p,xs,hp,rfl,hl1⟩:=arg_v hl
 obtain⟨xs,rfl,hl2⟩:=arg_n hl1
 obtain⟨xs,rfl,hl3⟩:=arg_n hl2
 cases arg_0 hl3
 have hO:=sp_in H hp hs
 have g:Good n es:=hO.good
 have hc:=on_load hO va vs hva hvs (a:Int) (b:Int) (by omega)
 rw[addr_yes hk,ldV_eq g hw ht,show numE (asS (.mk n es m r f)).L (asS (.mk n es m r f)).es ((va+a:Nat):Int) b=0 from num_there g ht hw]at hc
 exact fin_gives H hc (by simp[den,denL,okV,kd];rfl)
theorem row_vbytes:ArOK Tryz.prog arX 240 xVBytes:=by
 intro l h c k z v' h' c' e
 unfold xVBytes n3 at e
 rcases sh_v33 (l:=l) (h:=h) (z:=z) (q:=fun A s va vs a b=>adr va vs a (b) z fun p=>aBy s p b z fun x=>k (.tu [.s x,okV]) h c)with e1|⟨A,s,va,vs,a,b,rfl,hs,e1⟩
 · exact .inl (e1.symm.trans e)
 have e:=e1.symm.trans e
 rcases adr_or (z:=z)with e2|⟨hk,hva,hvs,e2⟩
 · exact .inl (e2.symm.trans e)
 have e:=e2.symm.trans e
 rcases aBy_or (s:=s) (p:=(va+a)) (k:=b) (z:=z)with e3|⟨n,es,m,r,f,rfl,ht,e3⟩
 · exact .inl (e3.symm.trans e)
 have e:=e3.symm.trans e
 refine .inr ⟨_,h,c,e,fun w0 ρ w lv H hl=>?_⟩
 obtain⟨p,xs,hp,rfl,hl1⟩:=arg_v hl
 obtain⟨xs,rfl,hl2⟩:=arg_n hl1
 obtain⟨xs,rfl,hl3⟩:=arg_n hl2
 cases arg_0 hl3
 have hO:=sp_in H hp hs
 have g:Good n es:=hO.good
 have hc:=on_bytes hO va vs hva hvs (a:Int) (b:Int) (by omega)
 rw[addr_yes hk,byV_eq g ht,show thereE (asS (.mk n es m r f)).L (asS (.mk n es m r f)).es ((va+a:Nat):Int) b=0 from thr_there g ht]at hc
 exact fin_gives H hc (by simp[den,denL,okV,kd];rfl)
theorem row_vpart:ArOK Tryz.prog arX 64 xVPart:=by
 intro l h c k z v' h' c' e
 unfold xVPart n3 at e
 rcases sh_v33 (l:=l) (h:=h) (z:=z) (q:=fun A s va vs a b=>adr va vs a (b) z fun p=>aTh s p b z (k (.tu [.ag [.p A (nat_lit 0),.i (nat_lit 3) (p),.i (nat_lit 3) b],okV]) h c))with e1|⟨A,s,va,vs,a,b,rfl,hs,e1⟩
 · exact .inl (e1.symm.trans e)
 have e:=e1.symm.trans e
 rcases adr_or (z:=z)with e2|⟨hk,hva,hvs,e2⟩
 · exact .inl (e2.symm.trans e)
 have e:=e2.symm.trans e
 rcases aTh_or (s:=s) (p:=(va+a)) (k:=b) (z:=z)with e3|⟨n,es,m,r,f,rfl,ht,e3⟩
 · exact .inl (e3.symm.trans e)
 have e:=e3.symm.trans e
 refine .inr ⟨_,h,c,e,fun w0 ρ w lv H hl=>?_⟩
 obtain⟨p,xs,hp,rfl,hl1⟩:=arg_v hl
 obtain⟨xs,rfl,hl2⟩:=arg_n hl1
 obtain⟨xs,rfl,hl3⟩:=arg_n hl2
 cases arg_0 hl3
 have hO:=sp_in H hp hs
 have g:Good n es:=hO.good
 have hc:=on_part hO va vs hva hvs (a:Int) (b:Int) (by omega)
 rw[addr_yes hk,show thereE (asS (.mk n es m r f)).L (asS (.mk n es m r f)).es ((va+a:Nat):Int) b=0 from thr_there g ht]at hc
 exact fin_gives H hc (by simp[den,denL,okV,kd,hp,ofV];rfl)
theorem row_vstore:ArOK Tryz.prog arX 113 xVStore:=by
 intro l h c k z v' h' c' e
 unfold xVStore n3 at e
 rcases sh_v337 (l:=l) (h:=h) (z:=z) (q:=fun A s va vs a b c1=>adr va vs a (b) z fun p=>iff (whl b) z (aWr s p b (Nat.mod c1 (p8 b)) z fun s=>hset (.sp s) h A fun h=>k okV h c))with e1|⟨A,s,va,vs,a,b,c1,rfl,hs,e1⟩
 · exact .inl (e1.symm.trans e)
 have e:=e1.symm.trans e
 rcases adr_or (z:=z)with e2|⟨hk,hva,hvs,e2⟩
 · exact .inl (e2.symm.trans e)
 have e:=e2.symm.trans e
 rcases iff_or (b:=whl b) (z:=z)with e3|⟨hw,e3⟩
 · exact .inl (e3.symm.trans e)
 have e:=e3.symm.trans e
 rcases aWr_or (s:=s) (p:=(va+a)) (k:=b) (x:=(Nat.mod c1 (p8 b))) (z:=z)with e4|⟨n,es,m,r,f,rfl,ht,e4⟩
 · exact .inl (e4.symm.trans e)
 have e:=e4.symm.trans e
 rw[hset_eq]at e
 refine .inr ⟨_,_,c,e,fun w0 ρ w lv H hl=>?_⟩
 obtain⟨p,xs,hp,rfl,hl1⟩:=arg_v hl
 obtain⟨xs,rfl,hl2⟩:=arg_n hl1
 obtain⟨xs,rfl,hl3⟩:=arg_n hl2
 obtain⟨xs,rfl,hl4⟩:=arg_n hl3
 cases arg_0 hl4
 have hO:=sp_in H hp hs
 have g:Good n es:=hO.good
 have hc:=on_store hO va vs hva hvs (a:Int) (b:Int) (c1:Int) (by omega) (by omega)
 rw[addr_yes hk,store_eq g hw ht,show numE (asS (.mk n es m r f)).L (asS (.mk n es m r f)).es ((va+a:Nat):Int) b=0 from num_there g ht hw]at hc
 exact fin_ret H hp hs hc rfl (by simp[den,okV,kd];rfl)
theorem row_vput:ArOK Tryz.prog arX 222 xVPut:=by
 intro l h c k z v' h' c' e
 unfold xVPut n3 at e
 rcases sh_v3s (l:=l) (h:=h) (z:=z) (q:=fun A s va vs a b=>adr va vs a (len b) z fun p=>aWr s p (len b) (nuL b) z fun s=>hset (.sp s) h A fun h=>k okV h c)with e1|⟨A,s,va,vs,a,b,rfl,hs,e1⟩
 · exact .inl (e1.symm.trans e)
 have e:=e1.symm.trans e
 rcases adr_or (z:=z)with e2|⟨hk,hva,hvs,e2⟩
 · exact .inl (e2.symm.trans e)
 have e:=e2.symm.trans e
 rcases aWr_or (s:=s) (p:=(va+a)) (k:=(len b)) (x:=(nuL b)) (z:=z)with e4|⟨n,es,m,r,f,rfl,ht,e4⟩
 · exact .inl (e4.symm.trans e)
 have e:=e4.symm.trans e
 rw[hset_eq]at e
 refine .inr ⟨_,_,c,e,fun w0 ρ w lv H hl=>?_⟩
 obtain⟨p,xs,hp,rfl,hl1⟩:=arg_v hl
 obtain⟨xs,rfl,hl2⟩:=arg_n hl1
 obtain⟨xs,rfl,hl3⟩:=arg_s hl2
 cases arg_0 hl3
 have hO:=sp_in H hp hs
 have g:Good n es:=hO.good
 rw[len_eq]at ht
 have hsz:(str b).size=b.length:=by simp[str,ByteArray.size]
 have hdl:(str b).data.toList=b.map UInt8.ofNat:=rfl
 rw[len_eq]at hk
 have hc:=on_put hO va vs hva hvs (a:Int) (by omega) (str b) (by rw[hsz];have:=(thr_le g ht).2;omega)
 rw[hdl,List.length_map,hsz,addr_yes hk,put_eq' g ht,show thereE (asS (.mk n es m r f)).L (asS (.mk n es m r f)).es ((va+a:Nat):Int) b.length=0 from thr_there g ht]at hc
 rw[←len_eq b]at hc
 exact fin_ret H hp hs hc rfl (by simp[den,okV,kd];rfl)
theorem row_vfill:ArOK Tryz.prog arX 56 xVFill:=by
 intro l h c k z v' h' c' e
 unfold xVFill n3 at e
 rcases sh_v334 (l:=l) (h:=h) (z:=z) (q:=fun A s va vs a b c1=>iff (Nat.blt c1 (nat_lit 256)) z (adr va vs a (b) z fun p=>aWr s p b (reZ b c1) z fun s=>hset (.sp s) h A fun h=>k okV h c))with e1|⟨A,s,va,vs,a,b,c1,rfl,hs,e1⟩
 · exact .inl (e1.symm.trans e)
 have e:=e1.symm.trans e
 rcases iff_or (b:=Nat.blt c1 (nat_lit 256)) (z:=z)with e2|⟨hc0,e2⟩
 · exact .inl (e2.symm.trans e)
 have e:=e2.symm.trans e
 rcases adr_or (z:=z)with e2|⟨hk,hva,hvs,e2⟩
 · exact .inl (e2.symm.trans e)
 have e:=e2.symm.trans e
 rcases aWr_or (s:=s) (p:=(va+a)) (k:=b) (x:=(reZ b c1)) (z:=z)with e4|⟨n,es,m,r,f,rfl,ht,e4⟩
 · exact .inl (e4.symm.trans e)
 have e:=e4.symm.trans e
 rw[hset_eq]at e
 refine .inr ⟨_,_,c,e,fun w0 ρ w lv H hl=>?_⟩
 obtain⟨p,xs,hp,rfl,hl1⟩:=arg_v hl
 obtain⟨xs,rfl,hl2⟩:=arg_n hl1
 obtain⟨xs,rfl,hl3⟩:=arg_n hl2
 obtain⟨xs,rfl,hl4⟩:=arg_n hl3
 cases arg_0 hl4
 have hO:=sp_in H hp hs
 have g:Good n es:=hO.good
 have hc:=on_fill hO va vs hva hvs (a:Int) (b:Int) (by omega) (UInt8.ofNat c1)
 rw[u8_cast hc0]at hc
 rw[addr_yes hk,fill_eq g ht,show thereE (asS (.mk n es m r f)).L (asS (.mk n es m r f)).es ((va+a:Nat):Int) b=0 from thr_there g ht]at hc
 exact fin_ret H hp hs hc rfl (by simp[den,okV,kd];rfl)
theorem row_vcopy:ArOK Tryz.prog arX 55 xVCopy:=by
 intro l h c k z v' h' c' e
 unfold xVCopy n3 at e
 rcases sh_v333 (l:=l) (h:=h) (z:=z) (q:=fun A s va vs a b c1=>adr va vs a c1 z fun p=>adr va vs b c1 z fun q=>iff (Nat.beq p q) (aCp s p q c1 z fun s=>hset (.sp s) h A fun h=>k okV h c) z)with e1|⟨A,s,va,vs,a,b,c1,rfl,hs,e1⟩
 · exact .inl (e1.symm.trans e)
 have e:=e1.symm.trans e
 rcases adr_or (z:=z)with e2|⟨hk,hva,hvs,e2⟩
 · exact .inl (e2.symm.trans e)
 have e:=e2.symm.trans e
 rcases adr_or (z:=z)with e2|⟨hk2,_,_,e2⟩
 · exact .inl (e2.symm.trans e)
 have e:=e2.symm.trans e
 rcases iff_or' (b:=Nat.beq (va+a) (va+b)) (z:=aCp s (va+a) (va+b) c1 z fun s=>hset (.sp s) h A fun h=>k okV h c) (q:=z)with⟨hb,e3⟩|⟨hb,e3⟩
 case inr=>exact .inl (e3.symm.trans e)
 have e:=e3.symm.trans e
 rcases aCp_or (s:=s) (p:=(va+a)) (r:=(va+b)) (k:=c1) (z:=z)with e4|⟨n,es,m,r,f,rfl,ht2,ht,e4⟩
 · exact .inl (e4.symm.trans e)
 have e:=e4.symm.trans e
 rw[hset_eq]at e
 refine .inr ⟨_,_,c,e,fun w0 ρ w lv H hl=>?_⟩
 obtain⟨p,xs,hp,rfl,hl1⟩:=arg_v hl
 obtain⟨xs,rfl,hl2⟩:=arg_n hl1
 obtain⟨xs,rfl,hl3⟩:=arg_n hl2
 obtain⟨xs,rfl,hl4⟩:=arg_n hl3
 cases arg_0 hl4
 have hO:=sp_in H hp hs
 have g:Good n es:=hO.good
 have hc:=on_copy hO va vs hva hvs (a:Int) (b:Int) (c1:Int) (by omega) (by omega)
 rw[addr_yes hk,addr_yes hk2]at hc
 obtain⟨q1,q2⟩:=copy_eq (m:=m) (r:=r) (f:=f) g (Nat.ne_of_beq_eq_false hb) ht ht2
 rw[q1,q2]at hc
 exact fin_ret H hp hs hc rfl (by simp[den,okV,kd];rfl)
theorem row_of:ArOK Tryz.prog arX 7 xOf:=by
 intro l h c k z v' h' c' e
 unfold xOf n3 at e
 rcases sh_p33 (l:=l) (h:=h) (z:=z) (q:=fun A s a b=>aTh s a b z (k (.tu [.ag [.p A (nat_lit 0),.i (nat_lit 3) (a),.i (nat_lit 3) b],okV]) h c))with e1|⟨A,s,a,b,rfl,hs,e1⟩
 · exact .inl (e1.symm.trans e)
 have e:=e1.symm.trans e
 rcases aTh_or (s:=s) (p:=a) (k:=b) (z:=z)with e3|⟨n,es,m,r,f,rfl,ht,e3⟩
 · exact .inl (e3.symm.trans e)
 have e:=e3.symm.trans e
 refine .inr ⟨_,h,c,e,fun w0 ρ w lv H hl=>?_⟩
 obtain⟨p,xs,hp,rfl,hl1⟩:=arg_p hl
 obtain⟨xs,rfl,hl2⟩:=arg_n hl1
 obtain⟨xs,rfl,hl3⟩:=arg_n hl2
 cases arg_0 hl3
 have hO:=sp_in H hp hs
 have g:Good n es:=hO.good
 have hc:=on_of hO (a:Int) (b:Int) (thr_le g ht).1
 rw[show thereE (asS (.mk n es m r f)).L (asS (.mk n es m r f)).es ((a:Nat):Int) b=0 from thr_there g ht]at hc
 exact fin_gives H hc (by simp[den,denL,okV,kd,hp,ofV];rfl)
theorem row_aload:ArOK Tryz.prog arX 145 xALoad:=by
 intro l h c k z v' h' c' e
 unfold xALoad n3 at e
 rcases sh_p33 (l:=l) (h:=h) (z:=z) (q:=fun A s a b=>aLd s a b z fun x=>k (.tu [.i (nat_lit 7) x,okV]) h c)with e1|⟨A,s,a,b,rfl,hs,e1⟩
 · exact .inl (e1.symm.trans e)
 have e:=e1.symm.trans e
 rcases aLd_or (s:=s) (p:=a) (k:=b) (z:=z)with e3|⟨n,es,m,r,f,rfl,hw,ht,e3⟩
 · exact .inl (e3.symm.trans e)
 have e:=e3.symm.trans e
 refine .inr ⟨_,h,c,e,fun w0 ρ w lv H hl=>?_⟩
 obtain⟨p,xs,hp,rfl,hl1⟩:=arg_p hl
 obtain⟨xs,rfl,hl2⟩:=arg_n hl1
 obtain⟨xs,rfl,hl3⟩:=arg_n hl2
 cases arg_0 hl3
 have hO:=sp_in H hp hs
 have g:Good n es:=hO.good
 have hc:=on_aload hO (a:Int) (b:Int) (thr_le g ht).1
 rw[ldV_eq g hw ht,show numE (asS (.mk n es m r f)).L (asS (.mk n es m r f)).es ((a:Nat):Int) b=0 from num_there g ht hw]at hc
 exact fin_gives H hc (by simp[den,denL,okV,kd];rfl)
theorem row_abytes:ArOK Tryz.prog arX 51 xABytes:=by
 intro l h c k z v' h' c' e
 unfold xABytes n3 at e
 rcases sh_p33 (l:=l) (h:=h) (z:=z) (q:=fun A s a b=>aBy s a b z fun x=>k (.tu [.s x,okV]) h c)with e1|⟨A,s,a,b,rfl,hs,e1⟩
 · exact .inl (e1.symm.trans e)
 have e:=e1.symm.trans e
 rcases aBy_or (s:=s) (p:=a) (k:=b) (z:=z)with e3|⟨n,es,m,r,f,rfl,ht,e3⟩
 · exact .inl (e3.symm.trans e)
 have e:=e3.symm.trans e
 refine .inr ⟨_,h,c,e,fun w0 ρ w lv H hl=>?_⟩
 obtain⟨p,xs,hp,rfl,hl1⟩:=arg_p hl
 obtain⟨xs,rfl,hl2⟩:=arg_n hl1
 obtain⟨xs,rfl,hl3⟩:=arg_n hl2
 cases arg_0 hl3
 have hO:=sp_in H hp hs
 have g:Good n es:=hO.good
 have hc:=on_abytes hO (a:Int) (b:Int) (thr_le g ht).1
 rw[byV_eq g ht,show thereE (asS (.mk n es m r f)).L (asS (.mk n es m r f)).es ((a:Nat):Int) b=0 from thr_there g ht]at hc
 exact fin_gives H hc (by simp[den,denL,okV,kd];rfl)
theorem row_astore:ArOK Tryz.prog arX 147 xAStore:=by
 intro l h c k z v' h' c' e
 unfold xAStore n3 at e
 rcases sh_p337 (l:=l) (h:=h) (z:=z) (q:=fun A s a b c1=>iff (whl b) z (aWr s a b (Nat.mod c1 (p8 b)) z fun s=>hset (.sp s) h A fun h=>k okV h c))with e1|⟨A,s,a,b,c1,rfl,hs,e1⟩
 · exact .inl (e1.symm.trans e)
 have e:=e1.symm.trans e
 rcases iff_or (b:=whl b) (z:=z)with e3|⟨hw,e3⟩
 · exact .inl (e3.symm.trans e)
 have e:=e3.symm.trans e
 rcases aWr_or (s:=s) (p:=a) (k:=b) (x:=(Nat.mod c1 (p8 b))) (z:=z)with e4|⟨n,es,m,r,f,rfl,ht,e4⟩
 · exact .inl (e4.symm.trans e)
 have e:=e4.symm.trans e
 rw[hset_eq]at e
 refine .inr ⟨_,_,c,e,fun w0 ρ w lv H hl=>?_⟩
 obtain⟨p,xs,hp,rfl,hl1⟩:=arg_p hl
 obtain⟨xs,rfl,hl2⟩:=arg_n hl1
 obtain⟨xs,rfl,hl3⟩:=arg_n hl2
 obtain⟨xs,rfl,hl4⟩:=arg_n hl3
 cases arg_0 hl4
 have hO:=sp_in H hp hs
 have g:Good n es:=hO.good
 have hc:=on_astore hO (a:Int) (b:Int) (c1:Int) ((thr_le g ht).1) (by omega)
 rw[store_eq g hw ht,show numE (asS (.mk n es m r f)).L (asS (.mk n es m r f)).es ((a:Nat):Int) b=0 from num_there g ht hw]at hc
 exact fin_ret H hp hs hc rfl (by simp[den,okV,kd];rfl)
theorem row_aput:ArOK Tryz.prog arX 52 xAPut:=by
 intro l h c k z v' h' c' e
 unfold xAPut n3 at e
 rcases sh_p3s (l:=l) (h:=h) (z:=z) (q:=fun A s a b=>aWr s a (len b) (nuL b) z fun s=>hset (.sp s) h A fun h=>k okV h c)with e1|⟨A,s,a,b,rfl,hs,e1⟩
 · exact .inl (e1.symm.trans e)
 have e:=e1.symm.trans e
 rcases aWr_or (s:=s) (p:=a) (k:=(len b)) (x:=(nuL b)) (z:=z)with e4|⟨n,es,m,r,f,rfl,ht,e4⟩
 · exact .inl (e4.symm.trans e)
 have e:=e4.symm.trans e
 rw[hset_eq]at e
 refine .inr ⟨_,_,c,e,fun w0 ρ w lv H hl=>?_⟩
 obtain⟨p,xs,hp,rfl,hl1⟩:=arg_p hl
 obtain⟨xs,rfl,hl2⟩:=arg_n hl1
 obtain⟨xs,rfl,hl3⟩:=arg_s hl2
 cases arg_0 hl3
 have hO:=sp_in H hp hs
 have g:Good n es:=hO.good
 rw[len_eq]at ht
 have hsz:(str b).size=b.length:=by simp[str,ByteArray.size]
 have hdl:(str b).data.toList=b.map UInt8.ofNat:=rfl
 have hc:=on_aput hO (a:Int) ((thr_le g ht).1) (str b) (by rw[hsz];have:=(thr_le g ht).2;omega)
 rw[hdl,List.length_map,put_eq' g ht,show thereE (asS (.mk n es m r f)).L (asS (.mk n es m r f)).es ((a:Nat):Int) b.length=0 from thr_there g ht]at hc
 rw[←len_eq b]at hc
 exact fin_ret H hp hs hc rfl (by simp[den,okV,kd];rfl)
theorem row_afill:ArOK Tryz.prog arX 94 xAFill:=by
 intro l h c k z v' h' c' e
 unfold xAFill n3 at e
 rcases sh_p334 (l:=l) (h:=h) (z:=z) (q:=fun A s a b c1=>iff (Nat.blt c1 (nat_lit 256)) z (aWr s a b (reZ b c1) z fun s=>hset (.sp s) h A fun h=>k okV h c))with e1|⟨A,s,a,b,c1,rfl,hs,e1⟩
 · exact .inl (e1.symm.trans e)
 have e:=e1.symm.trans e
 rcases iff_or (b:=Nat.blt c1 (nat_lit 256)) (z:=z)with e2|⟨hc0,e2⟩
 · exact .inl (e2.symm.trans e)
 have e:=e2.symm.trans e
 rcases aWr_or (s:=s) (p:=a) (k:=b) (x:=(reZ b c1)) (z:=z)with e4|⟨n,es,m,r,f,rfl,ht,e4⟩
 · exact .inl (e4.symm.trans e)
 have e:=e4.symm.trans e
 rw[hset_eq]at e
 refine .inr ⟨_,_,c,e,fun w0 ρ w lv H hl=>?_⟩
 obtain⟨p,xs,hp,rfl,hl1⟩:=arg_p hl
 obtain⟨xs,rfl,hl2⟩:=arg_n hl1
 obtain⟨xs,rfl,hl3⟩:=arg_n hl2
 obtain⟨xs,rfl,hl4⟩:=arg_n hl3
 cases arg_0 hl4
 have hO:=sp_in H hp hs
 have g:Good n es:=hO.good
 have hc:=on_afill hO (a:Int) (b:Int) ((thr_le g ht).1) (UInt8.ofNat c1)
 rw[u8_cast hc0]at hc
 rw[fill_eq g ht,show thereE (asS (.mk n es m r f)).L (asS (.mk n es m r f)).es ((a:Nat):Int) b=0 from thr_there g ht]at hc
 exact fin_ret H hp hs hc rfl (by simp[den,okV,kd];rfl)
theorem row_acopy:ArOK Tryz.prog arX 30 xACopy:=by
 intro l h c k z v' h' c' e
 unfold xACopy n3 at e
 rcases sh_p333 (l:=l) (h:=h) (z:=z) (q:=fun A s a b c1=>iff (Nat.beq a b) (aCp s a b c1 z fun s=>hset (.sp s) h A fun h=>k okV h c) (aTh s a c1 z (k okV h c)))with e1|⟨A,s,a,b,c1,rfl,hs,e1⟩
 · exact .inl (e1.symm.trans e)
 have e:=e1.symm.trans e
 rcases iff_or' (b:=Nat.beq a b) (z:=aCp s a b c1 z fun s=>hset (.sp s) h A fun h=>k okV h c) (q:=aTh s a c1 z (k okV h c))with⟨hb,e3⟩|⟨hb,e3⟩
 case inr=>
  have e:=e3.symm.trans e
  rcases aTh_or (s:=s) (p:=a) (k:=c1) (z:=z)with e4|⟨n,es,m,r,f,rfl,ht,e4⟩
  · exact .inl (e4.symm.trans e)
  have e:=e4.symm.trans e
  refine .inr ⟨_,h,c,e,fun w0 ρ w lv H hl=>?_⟩
  obtain⟨p,xs,hp,rfl,hl1⟩:=arg_p hl
  obtain⟨xs,rfl,hl2⟩:=arg_n hl1
  obtain⟨xs,rfl,hl3⟩:=arg_n hl2
  obtain⟨xs,rfl,hl4⟩:=arg_n hl3
  cases arg_0 hl4
  have hO:=sp_in H hp hs
  have g:Good n es:=hO.good
  have hc:=on_acopy hO (a:Int) (b:Int) (c1:Int) (thr_le g ht).1 (by have:=(thr_le g ht).1;have:=Nat.eq_of_beq_eq_true hb;omega)
  obtain⟨q1,q2⟩:=copy_same (p:=a) (q:=b) (k:=c1) g (Nat.eq_of_beq_eq_true hb) ht _ rfl
  rw[q1,q2]at hc
  have hself:Ev.hs h A (.sp (.mk n es m r f))=Ev.hs h A (.sp (.mk n es m r f)):=rfl
  refine hc.mono fun e w' ⟨g1,g2,g3⟩=>?_
  have ht2:=H.turn hp hs (show arX.In p.1 (.mk n es m r f) w' from g2) (trn_of g3)
  exact⟨_,g1,ρ,Le.refl _,HRhold H hp hs (show arX.In p.1 (.mk n es m r f) w' from g2) (trn_of g3),by simp[den,okV,kd];rfl,Kp.refl _ _,Nat.le_refl _⟩
 have e:=e3.symm.trans e
 rcases aCp_or (s:=s) (p:=a) (r:=b) (k:=c1) (z:=z)with e4|⟨n,es,m,r,f,rfl,ht2,ht,e4⟩
 · exact .inl (e4.symm.trans e)
 have e:=e4.symm.trans e
 rw[hset_eq]at e
 refine .inr ⟨_,_,c,e,fun w0 ρ w lv H hl=>?_⟩
 obtain⟨p,xs,hp,rfl,hl1⟩:=arg_p hl
 obtain⟨xs,rfl,hl2⟩:=arg_n hl1
 obtain⟨xs,rfl,hl3⟩:=arg_n hl2
 obtain⟨xs,rfl,hl4⟩:=arg_n hl3
 cases arg_0 hl4
 have hO:=sp_in H hp hs
 have g:Good n es:=hO.good
 have hc:=on_acopy hO (a:Int) (b:Int) (c1:Int) (thr_le g ht).1 (thr_le g ht2).1
 obtain⟨q1,q2⟩:=copy_eq (m:=m) (r:=r) (f:=f) g (Nat.ne_of_beq_eq_false hb) ht ht2
 rw[q1,q2]at hc
 exact fin_ret H hp hs hc rfl (by simp[den,okV,kd];rfl)
end Go.Proofs.YtpkaehpllldcmaaGreatDoor.Bt
