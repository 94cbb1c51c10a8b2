import Derived.Test.YtpkaehpllldcmaaGreatDoorArV
namespace Go.Proofs.YtpkaehpllldcmaaGreatDoor.Bt
open Go Go.RowKit Go.Shelf Ev
set_option linter.unusedVariables false
set_option linter.unusedSimpArgs false
theorem ArOK.then {P:Program} {X:Spx} {g:Nat} {f f':AF} (h:ArOK P X g f) (h':ArOK P X g f'):ArOK P X g (fun l hh c k z=>f l hh c k (f' l hh c k z)):=by
 intro l hh c k z v' h2 c' e
 rcases h l hh c k _ v' h2 c' e with e1|e1
 · exact h' l hh c k z v' h2 c' e1
 · exact .inr e1
noncomputable def noP (n:Nat) (es:List Nat) (p k:Nat):Bool:=Bool.rec (motive:=fun _=>Bool) true false (thereB n es (Int.ofNat p) (Int.ofNat k))
noncomputable def noA (n:Nat) (es:List Nat) (va vs a k:Nat):Bool:=ifT (Nat.ble va (nat_lit 4294967296)) (ifT (Nat.ble vs (nat_lit 4294967296)) (ifT (Nat.ble (Nat.add a k) vs) (noP n es (Nat.add va a) k) (ifT (Nat.ble a (nat_lit 9223372036854775807)) true false)) false) false
theorem noP_iff {n:Nat} {es:List Nat} {p k:Nat} (h:noP n es p k=true):thereE n es (p:Int) (k:Int)=3:=by
 unfold noP at h
 unfold thereE
 cases hb:thereB n es (Int.ofNat p) (Int.ofNat k)with
 |true=>rw[hb]at h;cases h
 |false=>
  rfl
theorem noA_iff {n:Nat} {es:List Nat} {va vs a k:Nat} (h:noA n es va vs a k=true):va≤4294967296∧vs≤4294967296∧(a:Int)≤9223372036854775807∧thereE n es (addrV va vs a k) (k:Int)=3:=by
 have e:noA n es va vs a k=ifT (Nat.ble va 4294967296) (ifT (Nat.ble vs 4294967296) (ifT (Nat.ble (a+k) vs) (noP n es (va+a) k) (ifT (Nat.ble a 9223372036854775807) true false)) false) false:=rfl
 rw[e]at h
 cases h1:Nat.ble va 4294967296 with
 |false=>rw[h1]at h;cases h
 |true=>
 cases h2:Nat.ble vs 4294967296 with
 |false=>rw[h1,h2]at h;cases h
 |true=>
 have g1:=Nat.le_of_ble_eq_true h1
 have g2:=Nat.le_of_ble_eq_true h2
 rw[h1,h2]at h
 cases h3:Nat.ble (a+k) vs with
 |true=>
  rw[h3]at h
  have g3:=Nat.le_of_ble_eq_true h3
  refine⟨g1,g2,by omega,?_⟩
  rw[addr_yes g3]
  exact noP_iff h
 |false=>
  rw[h3]at h
  have g3:¬a+k≤vs:=fun hh=>by rw[Nat.ble_eq_true_of_le hh]at h3;cases h3
  have g4:a≤9223372036854775807:=by
   cases h4:Nat.ble a 9223372036854775807 with
   |false=>rw[h4]at h;cases h
   |true=>exact Nat.le_of_ble_eq_true h4
  refine⟨g1,g2,by omega,?_⟩
  have ha:addrV va vs a k= -1:=by unfold addrV;rw[if_neg (by omega)]
  rw[ha]
  unfold thereE
  rw[if_neg]
  unfold thereB
  simp
section
variable {P:Program} {w0:Ev.Base} {ρ:Rho} {h:HP} {c:Nat} {w:World}
theorem fin_hold {g A:Nat} {p:Nat × Nat} {s:AS} {s':ASt} {args:Array Value} {r:Value} {v:V} (H:HR arX P w0 ρ h c w) (hp:ρ A=some p) (hs:hget h A=.sp s) (hc:Calls P g args w (Ret p.1 s' r w)) (he:s'=asS s) (hv:den ρ v=some r):
 Calls P g args w fun e w'=>∃x,e=.returned x∧∃ρ',Le ρ ρ'∧HR arX P w0 ρ' h c w'∧den ρ' v=some x∧Kp h h c∧c≤c:=
 hc.mono fun e w' ⟨h1,h2,h3⟩=>⟨r,h1,ρ,Le.refl _,HRhold H hp hs (show arX.In p.1 s w' by rw[he]at h2;exact h2) (trn_of h3),hv,Kp.refl _ _,Nat.le_refl _⟩
end
theorem num_no {n:Nat} {es:List Nat} {a k:Int} (h:thereE n es a k=3) (hw:wholeB k=true):numE n es a k=3:=by unfold numE;rw[if_pos hw,h]
noncomputable def e3:V:=.i (nat_lit 3) (nat_lit 3)
noncomputable def iffB (a b:Bool):Bool:=ifT a b false
theorem iffB_iff {a b:Bool} (h:iffB a b=true):a=true∧b=true:=by
 cases a with
 |false=>cases h
 |true=>exact⟨rfl,h⟩
noncomputable def eVLoad:AF:=fun l h c k z=>l1 l z fun v l=>vA v h z fun A s va vs=>l1 l z fun y l=>nK (nat_lit 3) y z fun a=>l1 l z fun y l=>l0 l z (nK (nat_lit 3) y z fun b=>aS s fun n es m r f=>iff (whl b) z (iff (noA n es va vs a (b)) z (k (.tu [.i (nat_lit 7) (nat_lit 0),e3]) h c)))
theorem rowe_vload:ArOK Tryz.prog arX 128 eVLoad:=by
 intro l h c k z v' h' c' e
 unfold eVLoad at e
 rcases sh_v33 (l:=l) (h:=h) (z:=z) (q:=fun A s va vs a b=>aS s fun n es m r f=>iff (whl b) z (iff (noA n es va vs a (b)) z (k (.tu [.i (nat_lit 7) (nat_lit 0),e3]) h c)))with e1|⟨A,s,va,vs,a,b,rfl,hs,e1⟩
 · exact .inl (e1.symm.trans e)
 have f1:=e1.symm.trans e
 clear e e1
 cases s with
 |mk n es m r f=>
 have f2:iff (whl b) z (iff (noA n es va vs a (b)) z (k (.tu [.i (nat_lit 7) (nat_lit 0),e3]) h c))=.fin v' h' c':=f1
 clear f1
 rcases iff_or (b:=whl b) (z:=z)with e2|⟨hw,e2⟩
 · exact .inl (e2.symm.trans f2)
 have f3:=e2.symm.trans f2
 clear f2 e2
 rcases iff_or (b:=noA n es va vs a (b)) (z:=z)with e2|⟨hn,e2⟩
 · exact .inl (e2.symm.trans f3)
 have f4:=e2.symm.trans f3
 clear f3 e2
 refine .inr ⟨_,h,c,f4,fun w0 ρ w lv H hl=>?_⟩
 obtain⟨p,xs,hp,rfl,hl1⟩:=arg_v hl
 obtain⟨xs,rfl,hl2⟩:=arg_n hl1
 obtain⟨xs,rfl,hl3⟩:=arg_n hl2
 cases arg_0 hl3
 have hO:=sp_in H hp hs
 obtain⟨hva,hvs,ha,hT⟩:=noA_iff hn
 have hc:=on_load hO va vs hva hvs (a:Int) (b:Int) ha
 have hN:numE (asS (.mk n es m r f)).L (asS (.mk n es m r f)).es (addrV va vs a b) (b:Int)=3:=num_no hT (whole_of hw)
 have hD:ldV (asS (.mk n es m r f)) (addrV va vs a b) (b:Int)=0:=by unfold ldV;rw[if_neg (by rw[hN];decide)]
 rw[hN,hD]at hc
 exact fin_gives H hc (by simp only[den,denL,e3];rfl)
noncomputable def yVLoad:AF:=fun l h c k z=>xVLoad l h c k (eVLoad l h c k z)
theorem rw_vload:ArOK Tryz.prog arX 128 yVLoad:=by
 unfold yVLoad
 exact ArOK.then row_vload rowe_vload
noncomputable def eVBytes:AF:=fun l h c k z=>l1 l z fun v l=>vA v h z fun A s va vs=>l1 l z fun y l=>nK (nat_lit 3) y z fun a=>l1 l z fun y l=>l0 l z (nK (nat_lit 3) y z fun b=>aS s fun n es m r f=>iff (noA n es va vs a (b)) z (k (.tu [.s [],e3]) h c))
theorem rowe_vbytes:ArOK Tryz.prog arX 240 eVBytes:=by
 intro l h c k z v' h' c' e
 unfold eVBytes at e
 rcases sh_v33 (l:=l) (h:=h) (z:=z) (q:=fun A s va vs a b=>aS s fun n es m r f=>iff (noA n es va vs a (b)) z (k (.tu [.s [],e3]) h c))with e1|⟨A,s,va,vs,a,b,rfl,hs,e1⟩
 · exact .inl (e1.symm.trans e)
 have f1:=e1.symm.trans e
 clear e e1
 cases s with
 |mk n es m r f=>
 have f2:iff (noA n es va vs a (b)) z (k (.tu [.s [],e3]) h c)=.fin v' h' c':=f1
 clear f1
 rcases iff_or (b:=noA n es va vs a (b)) (z:=z)with e2|⟨hn,e2⟩
 · exact .inl (e2.symm.trans f2)
 have f4:=e2.symm.trans f2
 clear f2 e2
 refine .inr ⟨_,h,c,f4,fun w0 ρ w lv H hl=>?_⟩
 obtain⟨p,xs,hp,rfl,hl1⟩:=arg_v hl
 obtain⟨xs,rfl,hl2⟩:=arg_n hl1
 obtain⟨xs,rfl,hl3⟩:=arg_n hl2
 cases arg_0 hl3
 have hO:=sp_in H hp hs
 obtain⟨hva,hvs,ha,hT⟩:=noA_iff hn
 have hc:=on_bytes hO va vs hva hvs (a:Int) (b:Int) ha
 have hN:thereE (asS (.mk n es m r f)).L (asS (.mk n es m r f)).es (addrV va vs a b) (b:Int)=3:=hT
 have hD:byV (asS (.mk n es m r f)) (addrV va vs a b) (b:Int)=⟨#[]⟩:=by unfold byV;rw[if_neg (by rw[hN];decide)]
 rw[hN,hD]at hc
 exact fin_gives H hc (by simp only[den,denL,e3];rfl)
noncomputable def yVBytes:AF:=fun l h c k z=>xVBytes l h c k (eVBytes l h c k z)
theorem rw_vbytes:ArOK Tryz.prog arX 240 yVBytes:=by
 unfold yVBytes
 exact ArOK.then row_vbytes rowe_vbytes
noncomputable def eVPart:AF:=fun l h c k z=>l1 l z fun v l=>vA v h z fun A s va vs=>l1 l z fun y l=>nK (nat_lit 3) y z fun a=>l1 l z fun y l=>l0 l z (nK (nat_lit 3) y z fun b=>aS s fun n es m r f=>iff (noA n es va vs a (b)) z (k (.tu [.ag [.np,.i (nat_lit 3) (nat_lit 0),.i (nat_lit 3) (nat_lit 0)],e3]) h c))
theorem rowe_vpart:ArOK Tryz.prog arX 64 eVPart:=by
 intro l h c k z v' h' c' e
 unfold eVPart at e
 rcases sh_v33 (l:=l) (h:=h) (z:=z) (q:=fun A s va vs a b=>aS s fun n es m r f=>iff (noA n es va vs a (b)) z (k (.tu [.ag [.np,.i (nat_lit 3) (nat_lit 0),.i (nat_lit 3) (nat_lit 0)],e3]) h c))with e1|⟨A,s,va,vs,a,b,rfl,hs,e1⟩
 · exact .inl (e1.symm.trans e)
 have f1:=e1.symm.trans e
 clear e e1
 cases s with
 |mk n es m r f=>
 have f2:iff (noA n es va vs a (b)) z (k (.tu [.ag [.np,.i (nat_lit 3) (nat_lit 0),.i (nat_lit 3) (nat_lit 0)],e3]) h c)=.fin v' h' c':=f1
 clear f1
 rcases iff_or (b:=noA n es va vs a (b)) (z:=z)with e2|⟨hn,e2⟩
 · exact .inl (e2.symm.trans f2)
 have f4:=e2.symm.trans f2
 clear f2 e2
 refine .inr ⟨_,h,c,f4,fun w0 ρ w lv H hl=>?_⟩
 obtain⟨p,xs,hp,rfl,hl1⟩:=arg_v hl
 obtain⟨xs,rfl,hl2⟩:=arg_n hl1
 obtain⟨xs,rfl,hl3⟩:=arg_n hl2
 cases arg_0 hl3
 have hO:=sp_in H hp hs
 obtain⟨hva,hvs,ha,hT⟩:=noA_iff hn
 have hc:=on_part hO va vs hva hvs (a:Int) (b:Int) ha
 have hN:thereE (asS (.mk n es m r f)).L (asS (.mk n es m r f)).es (addrV va vs a b) (b:Int)=3:=hT
 rw[hN]at hc
 exact fin_gives H hc (by simp only[den,denL,e3];rfl)
noncomputable def yVPart:AF:=fun l h c k z=>xVPart l h c k (eVPart l h c k z)
theorem rw_vpart:ArOK Tryz.prog arX 64 yVPart:=by
 unfold yVPart
 exact ArOK.then row_vpart rowe_vpart
noncomputable def eVStore:AF:=fun l h c k z=>l1 l z fun v l=>vA v h z fun A s va vs=>l1 l z fun y l=>nK (nat_lit 3) y z fun a=>l1 l z fun y l=>nK (nat_lit 3) y z fun b=>l1 l z fun y l=>l0 l z (nK (nat_lit 7) y z fun c1=>aS s fun n es m r f=>iff (whl b) z (iff (noA n es va vs a (b)) z (k (e3) h c)))
theorem rowe_vstore:ArOK Tryz.prog arX 113 eVStore:=by
 intro l h c k z v' h' c' e
 unfold eVStore at e
 rcases sh_v337 (l:=l) (h:=h) (z:=z) (q:=fun A s va vs a b c1=>aS s fun n es m r f=>iff (whl b) z (iff (noA n es va vs a (b)) z (k (e3) h c)))with e1|⟨A,s,va,vs,a,b,c1,rfl,hs,e1⟩
 · exact .inl (e1.symm.trans e)
 have f1:=e1.symm.trans e
 clear e e1
 cases s with
 |mk n es m r f=>
 have f2:iff (whl b) z (iff (noA n es va vs a (b)) z (k (e3) h c))=.fin v' h' c':=f1
 clear f1
 rcases iff_or (b:=whl b) (z:=z)with e2|⟨hw,e2⟩
 · exact .inl (e2.symm.trans f2)
 have f3:=e2.symm.trans f2
 clear f2 e2
 rcases iff_or (b:=noA n es va vs a (b)) (z:=z)with e2|⟨hn,e2⟩
 · exact .inl (e2.symm.trans f3)
 have f4:=e2.symm.trans f3
 clear f3 e2
 refine .inr ⟨_,h,c,f4,fun w0 ρ w lv H hl=>?_⟩
 obtain⟨p,xs,hp,rfl,hl1⟩:=arg_v hl
 obtain⟨xs,rfl,hl2⟩:=arg_n hl1
 obtain⟨xs,rfl,hl3⟩:=arg_n hl2
 obtain⟨xs,rfl,hl4⟩:=arg_n hl3
 cases arg_0 hl4
 have hO:=sp_in H hp hs
 obtain⟨hva,hvs,ha,hT⟩:=noA_iff hn
 have hc:=on_store hO va vs hva hvs (a:Int) (b:Int) (c1:Int) ha (by omega)
 have hN:numE (asS (.mk n es m r f)).L (asS (.mk n es m r f)).es (addrV va vs a b) (b:Int)=3:=num_no hT (whole_of hw)
 have hD:storeS (asS (.mk n es m r f)) (addrV va vs a b) (b:Int) (c1:Int)=asS (.mk n es m r f):=by unfold storeS;rw[if_neg (by rw[hN];decide)]
 rw[hN,hD]at hc
 exact fin_hold H hp hs hc rfl (by simp only[den,e3];rfl)
noncomputable def yVStore:AF:=fun l h c k z=>xVStore l h c k (eVStore l h c k z)
theorem rw_vstore:ArOK Tryz.prog arX 113 yVStore:=by
 unfold yVStore
 exact ArOK.then row_vstore rowe_vstore
noncomputable def eVPut:AF:=fun l h c k z=>l1 l z fun v l=>vA v h z fun A s va vs=>l1 l z fun y l=>nK (nat_lit 3) y z fun a=>l1 l z fun y l=>l0 l z (asSz y z fun b=>aS s fun n es m r f=>iff (Nat.ble (len b) (nat_lit 9223372036854775807)) z (iff (noA n es va vs a (len b)) z (k (e3) h c)))
theorem rowe_vput:ArOK Tryz.prog arX 222 eVPut:=by
 intro l h c k z v' h' c' e
 unfold eVPut at e
 rcases sh_v3s (l:=l) (h:=h) (z:=z) (q:=fun A s va vs a b=>aS s fun n es m r f=>iff (Nat.ble (len b) (nat_lit 9223372036854775807)) z (iff (noA n es va vs a (len b)) z (k (e3) h c)))with e1|⟨A,s,va,vs,a,b,rfl,hs,e1⟩
 · exact .inl (e1.symm.trans e)
 have f1:=e1.symm.trans e
 clear e e1
 cases s with
 |mk n es m r f=>
 have f2:iff (Nat.ble (len b) (nat_lit 9223372036854775807)) z (iff (noA n es va vs a (len b)) z (k (e3) h c))=.fin v' h' c':=f1
 clear f1
 rcases iff_or (b:=Nat.ble (len b) (nat_lit 9223372036854775807)) (z:=z)with e2|⟨hlb,e2⟩
 · exact .inl (e2.symm.trans f2)
 have f3:=e2.symm.trans f2
 clear f2 e2
 have hlb:len b≤9223372036854775807:=Nat.le_of_ble_eq_true hlb
 rcases iff_or (b:=noA n es va vs a (len b)) (z:=z)with e2|⟨hn,e2⟩
 · exact .inl (e2.symm.trans f3)
 have f4:=e2.symm.trans f3
 clear f3 e2
 refine .inr ⟨_,h,c,f4,fun w0 ρ w lv H hl=>?_⟩
 obtain⟨p,xs,hp,rfl,hl1⟩:=arg_v hl
 obtain⟨xs,rfl,hl2⟩:=arg_n hl1
 obtain⟨xs,rfl,hl3⟩:=arg_s hl2
 cases arg_0 hl3
 have hO:=sp_in H hp hs
 obtain⟨hva,hvs,ha,hT⟩:=noA_iff hn
 have hsz:(str b).size=len b:=by rw[len_eq];simp[str,ByteArray.size]
 have hdl:(str b).data.toList.length=len b:=by rw[len_eq];simp[str]
 have hc:=on_put hO va vs hva hvs (a:Int) ha (str b) (by rw[hsz];exact hlb)
 rw[hsz,hdl]at hc
 have hN:thereE (asS (.mk n es m r f)).L (asS (.mk n es m r f)).es (addrV va vs a (len b:Nat)) ((len b:Nat):Int)=3:=hT
 have hD:putS (asS (.mk n es m r f)) (addrV va vs a (len b:Nat)) (str b).data.toList=asS (.mk n es m r f):=by unfold putS;rw[hdl,if_neg (by rw[hN];decide)]
 rw[hN,hD]at hc
 exact fin_hold H hp hs hc rfl (by simp only[den,e3];rfl)
noncomputable def yVPut:AF:=fun l h c k z=>xVPut l h c k (eVPut l h c k z)
theorem rw_vput:ArOK Tryz.prog arX 222 yVPut:=by
 unfold yVPut
 exact ArOK.then row_vput rowe_vput
noncomputable def eVFill:AF:=fun l h c k z=>l1 l z fun v l=>vA v h z fun A s va vs=>l1 l z fun y l=>nK (nat_lit 3) y z fun a=>l1 l z fun y l=>nK (nat_lit 3) y z fun b=>l1 l z fun y l=>l0 l z (nK (nat_lit 4) y z fun c1=>aS s fun n es m r f=>iff (Nat.blt c1 (nat_lit 256)) z (iff (noA n es va vs a (b)) z (k (e3) h c)))
theorem rowe_vfill:ArOK Tryz.prog arX 56 eVFill:=by
 intro l h c k z v' h' c' e
 unfold eVFill at e
 rcases sh_v334 (l:=l) (h:=h) (z:=z) (q:=fun A s va vs a b c1=>aS s fun n es m r f=>iff (Nat.blt c1 (nat_lit 256)) z (iff (noA n es va vs a (b)) z (k (e3) h c)))with e1|⟨A,s,va,vs,a,b,c1,rfl,hs,e1⟩
 · exact .inl (e1.symm.trans e)
 have f1:=e1.symm.trans e
 clear e e1
 cases s with
 |mk n es m r f=>
 have f2:iff (Nat.blt c1 (nat_lit 256)) z (iff (noA n es va vs a (b)) z (k (e3) h c))=.fin v' h' c':=f1
 clear f1
 rcases iff_or (b:=Nat.blt c1 (nat_lit 256)) (z:=z)with e2|⟨hc0,e2⟩
 · exact .inl (e2.symm.trans f2)
 have f3:=e2.symm.trans f2
 clear f2 e2
 rcases iff_or (b:=noA n es va vs a (b)) (z:=z)with e2|⟨hn,e2⟩
 · exact .inl (e2.symm.trans f3)
 have f4:=e2.symm.trans f3
 clear f3 e2
 refine .inr ⟨_,h,c,f4,fun w0 ρ w lv H hl=>?_⟩
 obtain⟨p,xs,hp,rfl,hl1⟩:=arg_v hl
 obtain⟨xs,rfl,hl2⟩:=arg_n hl1
 obtain⟨xs,rfl,hl3⟩:=arg_n hl2
 obtain⟨xs,rfl,hl4⟩:=arg_n hl3
 cases arg_0 hl4
 have hO:=sp_in H hp hs
 obtain⟨hva,hvs,ha,hT⟩:=noA_iff hn
 have hc:=on_fill hO va vs hva hvs (a:Int) (b:Int) ha (UInt8.ofNat c1)
 rw[u8_cast hc0]at hc
 have hN:thereE (asS (.mk n es m r f)).L (asS (.mk n es m r f)).es (addrV va vs a b) (b:Int)=3:=hT
 have hD:fillS (asS (.mk n es m r f)) (addrV va vs a b) (b:Int) (UInt8.ofNat c1)=asS (.mk n es m r f):=by unfold fillS;rw[if_neg (by rw[hN];decide)]
 rw[hN,hD]at hc
 exact fin_hold H hp hs hc rfl (by simp only[den,e3];rfl)
noncomputable def yVFill:AF:=fun l h c k z=>xVFill l h c k (eVFill l h c k z)
theorem rw_vfill:ArOK Tryz.prog arX 56 yVFill:=by
 unfold yVFill
 exact ArOK.then row_vfill rowe_vfill
noncomputable def eVCopy:AF:=fun l h c k z=>l1 l z fun v l=>vA v h z fun A s va vs=>l1 l z fun y l=>nK (nat_lit 3) y z fun a=>l1 l z fun y l=>nK (nat_lit 3) y z fun b=>l1 l z fun y l=>l0 l z (nK (nat_lit 3) y z fun c1=>aS s fun n es m r f=>iff (Nat.ble b (nat_lit 9223372036854775807)) z (iff (noA n es va vs a (c1)) z (k (e3) h c)))
theorem rowe_vcopy:ArOK Tryz.prog arX 55 eVCopy:=by
 intro l h c k z v' h' c' e
 unfold eVCopy at e
 rcases sh_v333 (l:=l) (h:=h) (z:=z) (q:=fun A s va vs a b c1=>aS s fun n es m r f=>iff (Nat.ble b (nat_lit 9223372036854775807)) z (iff (noA n es va vs a (c1)) z (k (e3) h c)))with e1|⟨A,s,va,vs,a,b,c1,rfl,hs,e1⟩
 · exact .inl (e1.symm.trans e)
 have f1:=e1.symm.trans e
 clear e e1
 cases s with
 |mk n es m r f=>
 have f2:iff (Nat.ble b (nat_lit 9223372036854775807)) z (iff (noA n es va vs a (c1)) z (k (e3) h c))=.fin v' h' c':=f1
 clear f1
 rcases iff_or (b:=Nat.ble b (nat_lit 9223372036854775807)) (z:=z)with e2|⟨hfr,e2⟩
 · exact .inl (e2.symm.trans f2)
 have f3:=e2.symm.trans f2
 clear f2 e2
 have hfr:b≤9223372036854775807:=Nat.le_of_ble_eq_true hfr
 rcases iff_or (b:=noA n es va vs a (c1)) (z:=z)with e2|⟨hn,e2⟩
 · exact .inl (e2.symm.trans f3)
 have f4:=e2.symm.trans f3
 clear f3 e2
 refine .inr ⟨_,h,c,f4,fun w0 ρ w lv H hl=>?_⟩
 obtain⟨p,xs,hp,rfl,hl1⟩:=arg_v hl
 obtain⟨xs,rfl,hl2⟩:=arg_n hl1
 obtain⟨xs,rfl,hl3⟩:=arg_n hl2
 obtain⟨xs,rfl,hl4⟩:=arg_n hl3
 cases arg_0 hl4
 have hO:=sp_in H hp hs
 obtain⟨hva,hvs,ha,hT⟩:=noA_iff hn
 have hc:=on_copy hO va vs hva hvs (a:Int) (b:Int) (c1:Int) ha (by omega)
 have hN:thereE (asS (.mk n es m r f)).L (asS (.mk n es m r f)).es (addrV va vs a c1) (c1:Int)=3:=hT
 have hE:∀fr,copyE (asS (.mk n es m r f)) (addrV va vs a c1) fr (c1:Int)=3:=fun fr=>by unfold copyE;rw[if_pos (by rw[hN];decide)]
 have hD:∀fr,copyS (asS (.mk n es m r f)) (addrV va vs a c1) fr (c1:Int)=asS (.mk n es m r f):=fun fr=>by unfold copyS;rw[hE,if_neg (by decide)]
 rw[hE,hD]at hc
 exact fin_hold H hp hs hc rfl (by simp only[den,e3];rfl)
noncomputable def yVCopy:AF:=fun l h c k z=>xVCopy l h c k (eVCopy l h c k z)
theorem rw_vcopy:ArOK Tryz.prog arX 55 yVCopy:=by
 unfold yVCopy
 exact ArOK.then row_vcopy rowe_vcopy
noncomputable def eOf:AF:=fun l h c k z=>l1 l z fun v l=>pA v h z fun A s=>l1 l z fun y l=>nK (nat_lit 3) y z fun a=>l1 l z fun y l=>l0 l z (nK (nat_lit 3) y z fun b=>aS s fun n es m r f=>iff (iffB (Nat.ble a (nat_lit 9223372036854775807)) (noP n es a (b))) z (k (.tu [.ag [.np,.i (nat_lit 3) (nat_lit 0),.i (nat_lit 3) (nat_lit 0)],e3]) h c))
theorem rowe_of:ArOK Tryz.prog arX 7 eOf:=by
 intro l h c k z v' h' c' e
 unfold eOf at e
 rcases sh_p33 (l:=l) (h:=h) (z:=z) (q:=fun A s a b=>aS s fun n es m r f=>iff (iffB (Nat.ble a (nat_lit 9223372036854775807)) (noP n es a (b))) z (k (.tu [.ag [.np,.i (nat_lit 3) (nat_lit 0),.i (nat_lit 3) (nat_lit 0)],e3]) h c))with e1|⟨A,s,a,b,rfl,hs,e1⟩
 · exact .inl (e1.symm.trans e)
 have f1:=e1.symm.trans e
 clear e e1
 cases s with
 |mk n es m r f=>
 have f2:iff (iffB (Nat.ble a (nat_lit 9223372036854775807)) (noP n es a (b))) z (k (.tu [.ag [.np,.i (nat_lit 3) (nat_lit 0),.i (nat_lit 3) (nat_lit 0)],e3]) h c)=.fin v' h' c':=f1
 clear f1
 rcases iff_or (b:=iffB (Nat.ble a (nat_lit 9223372036854775807)) (noP n es a (b))) (z:=z)with e2|⟨hn,e2⟩
 · exact .inl (e2.symm.trans f2)
 have f4:=e2.symm.trans f2
 clear f2 e2
 refine .inr ⟨_,h,c,f4,fun w0 ρ w lv H hl=>?_⟩
 obtain⟨p,xs,hp,rfl,hl1⟩:=arg_p hl
 obtain⟨xs,rfl,hl2⟩:=arg_n hl1
 obtain⟨xs,rfl,hl3⟩:=arg_n hl2
 cases arg_0 hl3
 have hO:=sp_in H hp hs
 obtain⟨ha0,hn2⟩:=iffB_iff hn
 have ha:(a:Int)≤9223372036854775807:=by have h9:a≤9223372036854775807:=Nat.le_of_ble_eq_true ha0;omega
 have hT:=noP_iff hn2
 have hc:=on_of hO (a:Int) (b:Int) ha
 have hN:thereE (asS (.mk n es m r f)).L (asS (.mk n es m r f)).es ((a:Nat):Int) (b:Int)=3:=hT
 rw[hN]at hc
 exact fin_gives H hc (by simp only[den,denL,e3];rfl)
noncomputable def yOf:AF:=fun l h c k z=>xOf l h c k (eOf l h c k z)
theorem rw_of:ArOK Tryz.prog arX 7 yOf:=by
 unfold yOf
 exact ArOK.then row_of rowe_of
noncomputable def eALoad:AF:=fun l h c k z=>l1 l z fun v l=>pA v h z fun A s=>l1 l z fun y l=>nK (nat_lit 3) y z fun a=>l1 l z fun y l=>l0 l z (nK (nat_lit 3) y z fun b=>aS s fun n es m r f=>iff (whl b) z (iff (iffB (Nat.ble a (nat_lit 9223372036854775807)) (noP n es a (b))) z (k (.tu [.i (nat_lit 7) (nat_lit 0),e3]) h c)))
theorem rowe_aload:ArOK Tryz.prog arX 145 eALoad:=by
 intro l h c k z v' h' c' e
 unfold eALoad at e
 rcases sh_p33 (l:=l) (h:=h) (z:=z) (q:=fun A s a b=>aS s fun n es m r f=>iff (whl b) z (iff (iffB (Nat.ble a (nat_lit 9223372036854775807)) (noP n es a (b))) z (k (.tu [.i (nat_lit 7) (nat_lit 0),e3]) h c)))with e1|⟨A,s,a,b,rfl,hs,e1⟩
 · exact .inl (e1.symm.trans e)
 have f1:=e1.symm.trans e
 clear e e1
 cases s with
 |mk n es m r f=>
 have f2:iff (whl b) z (iff (iffB (Nat.ble a (nat_lit 9223372036854775807)) (noP n es a (b))) z (k (.tu [.i (nat_lit 7) (nat_lit 0),e3]) h c))=.fin v' h' c':=f1
 clear f1
 rcases iff_or (b:=whl b) (z:=z)with e2|⟨hw,e2⟩
 · exact .inl (e2.symm.trans f2)
 have f3:=e2.symm.trans f2
 clear f2 e2
 rcases iff_or (b:=iffB (Nat.ble a (nat_lit 9223372036854775807)) (noP n es a (b))) (z:=z)with e2|⟨hn,e2⟩
 · exact .inl (e2.symm.trans f3)
 have f4:=e2.symm.trans f3
 clear f3 e2
 refine .inr ⟨_,h,c,f4,fun w0 ρ w lv H hl=>?_⟩
 obtain⟨p,xs,hp,rfl,hl1⟩:=arg_p hl
 obtain⟨xs,rfl,hl2⟩:=arg_n hl1
 obtain⟨xs,rfl,hl3⟩:=arg_n hl2
 cases arg_0 hl3
 have hO:=sp_in H hp hs
 obtain⟨ha0,hn2⟩:=iffB_iff hn
 have ha:(a:Int)≤9223372036854775807:=by have h9:a≤9223372036854775807:=Nat.le_of_ble_eq_true ha0;omega
 have hT:=noP_iff hn2
 have hc:=on_aload hO (a:Int) (b:Int) ha
 have hN:numE (asS (.mk n es m r f)).L (asS (.mk n es m r f)).es ((a:Nat):Int) (b:Int)=3:=num_no hT (whole_of hw)
 have hD:ldV (asS (.mk n es m r f)) ((a:Nat):Int) (b:Int)=0:=by unfold ldV;rw[if_neg (by rw[hN];decide)]
 rw[hN,hD]at hc
 exact fin_gives H hc (by simp only[den,denL,e3];rfl)
noncomputable def yALoad:AF:=fun l h c k z=>xALoad l h c k (eALoad l h c k z)
theorem rw_aload:ArOK Tryz.prog arX 145 yALoad:=by
 unfold yALoad
 exact ArOK.then row_aload rowe_aload
noncomputable def eABytes:AF:=fun l h c k z=>l1 l z fun v l=>pA v h z fun A s=>l1 l z fun y l=>nK (nat_lit 3) y z fun a=>l1 l z fun y l=>l0 l z (nK (nat_lit 3) y z fun b=>aS s fun n es m r f=>iff (iffB (Nat.ble a (nat_lit 9223372036854775807)) (noP n es a (b))) z (k (.tu [.s [],e3]) h c))
theorem rowe_abytes:ArOK Tryz.prog arX 51 eABytes:=by
 intro l h c k z v' h' c' e
 unfold eABytes at e
 rcases sh_p33 (l:=l) (h:=h) (z:=z) (q:=fun A s a b=>aS s fun n es m r f=>iff (iffB (Nat.ble a (nat_lit 9223372036854775807)) (noP n es a (b))) z (k (.tu [.s [],e3]) h c))with e1|⟨A,s,a,b,rfl,hs,e1⟩
 · exact .inl (e1.symm.trans e)
 have f1:=e1.symm.trans e
 clear e e1
 cases s with
 |mk n es m r f=>
 have f2:iff (iffB (Nat.ble a (nat_lit 9223372036854775807)) (noP n es a (b))) z (k (.tu [.s [],e3]) h c)=.fin v' h' c':=f1
 clear f1
 rcases iff_or (b:=iffB (Nat.ble a (nat_lit 9223372036854775807)) (noP n es a (b))) (z:=z)with e2|⟨hn,e2⟩
 · exact .inl (e2.symm.trans f2)
 have f4:=e2.symm.trans f2
 clear f2 e2
 refine .inr ⟨_,h,c,f4,fun w0 ρ w lv H hl=>?_⟩
 obtain⟨p,xs,hp,rfl,hl1⟩:=arg_p hl
 obtain⟨xs,rfl,hl2⟩:=arg_n hl1
 obtain⟨xs,rfl,hl3⟩:=arg_n hl2
 cases arg_0 hl3
 have hO:=sp_in H hp hs
 obtain⟨ha0,hn2⟩:=iffB_iff hn
 have ha:(a:Int)≤9223372036854775807:=by have h9:a≤9223372036854775807:=Nat.le_of_ble_eq_true ha0;omega
 have hT:=noP_iff hn2
 have hc:=on_abytes hO (a:Int) (b:Int) ha
 have hN:thereE (asS (.mk n es m r f)).L (asS (.mk n es m r f)).es ((a:Nat):Int) (b:Int)=3:=hT
 have hD:byV (asS (.mk n es m r f)) ((a:Nat):Int) (b:Int)=⟨#[]⟩:=by unfold byV;rw[if_neg (by rw[hN];decide)]
 rw[hN,hD]at hc
 exact fin_gives H hc (by simp only[den,denL,e3];rfl)
noncomputable def yABytes:AF:=fun l h c k z=>xABytes l h c k (eABytes l h c k z)
theorem rw_abytes:ArOK Tryz.prog arX 51 yABytes:=by
 unfold yABytes
 exact ArOK.then row_abytes rowe_abytes
noncomputable def eAStore:AF:=fun l h c k z=>l1 l z fun v l=>pA v h z fun A s=>l1 l z fun y l=>nK (nat_lit 3) y z fun a=>l1 l z fun y l=>nK (nat_lit 3) y z fun b=>l1 l z fun y l=>l0 l z (nK (nat_lit 7) y z fun c1=>aS s fun n es m r f=>iff (whl b) z (iff (iffB (Nat.ble a (nat_lit 9223372036854775807)) (noP n es a (b))) z (k (e3) h c)))
theorem rowe_astore:ArOK Tryz.prog arX 147 eAStore:=by
 intro l h c k z v' h' c' e
 unfold eAStore at e
 rcases sh_p337 (l:=l) (h:=h) (z:=z) (q:=fun A s a b c1=>aS s fun n es m r f=>iff (whl b) z (iff (iffB (Nat.ble a (nat_lit 9223372036854775807)) (noP n es a (b))) z (k (e3) h c)))with e1|⟨A,s,a,b,c1,rfl,hs,e1⟩
 · exact .inl (e1.symm.trans e)
 have f1:=e1.symm.trans e
 clear e e1
 cases s with
 |mk n es m r f=>
 have f2:iff (whl b) z (iff (iffB (Nat.ble a (nat_lit 9223372036854775807)) (noP n es a (b))) z (k (e3) h c))=.fin v' h' c':=f1
 clear f1
 rcases iff_or (b:=whl b) (z:=z)with e2|⟨hw,e2⟩
 · exact .inl (e2.symm.trans f2)
 have f3:=e2.symm.trans f2
 clear f2 e2
 rcases iff_or (b:=iffB (Nat.ble a (nat_lit 9223372036854775807)) (noP n es a (b))) (z:=z)with e2|⟨hn,e2⟩
 · exact .inl (e2.symm.trans f3)
 have f4:=e2.symm.trans f3
 clear f3 e2
 refine .inr ⟨_,h,c,f4,fun w0 ρ w lv H hl=>?_⟩
 obtain⟨p,xs,hp,rfl,hl1⟩:=arg_p hl
 obtain⟨xs,rfl,hl2⟩:=arg_n hl1
 obtain⟨xs,rfl,hl3⟩:=arg_n hl2
 obtain⟨xs,rfl,hl4⟩:=arg_n hl3
 cases arg_0 hl4
 have hO:=sp_in H hp hs
 obtain⟨ha0,hn2⟩:=iffB_iff hn
 have ha:(a:Int)≤9223372036854775807:=by have h9:a≤9223372036854775807:=Nat.le_of_ble_eq_true ha0;omega
 have hT:=noP_iff hn2
 have hc:=on_astore hO (a:Int) (b:Int) (c1:Int) ha (by omega)
 have hN:numE (asS (.mk n es m r f)).L (asS (.mk n es m r f)).es ((a:Nat):Int) (b:Int)=3:=num_no hT (whole_of hw)
 have hD:storeS (asS (.mk n es m r f)) ((a:Nat):Int) (b:Int) (c1:Int)=asS (.mk n es m r f):=by unfold storeS;rw[if_neg (by rw[hN];decide)]
 rw[hN,hD]at hc
 exact fin_hold H hp hs hc rfl (by simp only[den,e3];rfl)
noncomputable def yAStore:AF:=fun l h c k z=>xAStore l h c k (eAStore l h c k z)
theorem rw_astore:ArOK Tryz.prog arX 147 yAStore:=by
 unfold yAStore
 exact ArOK.then row_astore rowe_astore
noncomputable def eAPut:AF:=fun l h c k z=>l1 l z fun v l=>pA v h z fun A s=>l1 l z fun y l=>nK (nat_lit 3) y z fun a=>l1 l z fun y l=>l0 l z (asSz y z fun b=>aS s fun n es m r f=>iff (Nat.ble (len b) (nat_lit 9223372036854775807)) z (iff (iffB (Nat.ble a (nat_lit 9223372036854775807)) (noP n es a (len b))) z (k (e3) h c)))
theorem rowe_aput:ArOK Tryz.prog arX 52 eAPut:=by
 intro l h c k z v' h' c' e
 unfold eAPut at e
 rcases sh_p3s (l:=l) (h:=h) (z:=z) (q:=fun A s a b=>aS s fun n es m r f=>iff (Nat.ble (len b) (nat_lit 9223372036854775807)) z (iff (iffB (Nat.ble a (nat_lit 9223372036854775807)) (noP n es a (len b))) z (k (e3) h c)))with e1|⟨A,s,a,b,rfl,hs,e1⟩
 · exact .inl (e1.symm.trans e)
 have f1:=e1.symm.trans e
 clear e e1
 cases s with
 |mk n es m r f=>
 have f2:iff (Nat.ble (len b) (nat_lit 9223372036854775807)) z (iff (iffB (Nat.ble a (nat_lit 9223372036854775807)) (noP n es a (len b))) z (k (e3) h c))=.fin v' h' c':=f1
 clear f1
 rcases iff_or (b:=Nat.ble (len b) (nat_lit 9223372036854775807)) (z:=z)with e2|⟨hlb,e2⟩
 · exact .inl (e2.symm.trans f2)
 have f3:=e2.symm.trans f2
 clear f2 e2
 have hlb:len b≤9223372036854775807:=Nat.le_of_ble_eq_true hlb
 rcases iff_or (b:=iffB (Nat.ble a (nat_lit 9223372036854775807)) (noP n es a (len b))) (z:=z)with e2|⟨hn,e2⟩
 · exact .inl (e2.symm.trans f3)
 have f4:=e2.symm.trans f3
 clear f3 e2
 refine .inr ⟨_,h,c,f4,fun w0 ρ w lv H hl=>?_⟩
 obtain⟨p,xs,hp,rfl,hl1⟩:=arg_p hl
 obtain⟨xs,rfl,hl2⟩:=arg_n hl1
 obtain⟨xs,rfl,hl3⟩:=arg_s hl2
 cases arg_0 hl3
 have hO:=sp_in H hp hs
 obtain⟨ha0,hn2⟩:=iffB_iff hn
 have ha:(a:Int)≤9223372036854775807:=by have h9:a≤9223372036854775807:=Nat.le_of_ble_eq_true ha0;omega
 have hT:=noP_iff hn2
 have hsz:(str b).size=len b:=by rw[len_eq];simp[str,ByteArray.size]
 have hdl:(str b).data.toList.length=len b:=by rw[len_eq];simp[str]
 have hc:=on_aput hO (a:Int) ha (str b) (by rw[hsz];exact hlb)
 rw[hdl]at hc
 have hN:thereE (asS (.mk n es m r f)).L (asS (.mk n es m r f)).es ((a:Nat):Int) ((len b:Nat):Int)=3:=hT
 have hD:putS (asS (.mk n es m r f)) ((a:Nat):Int) (str b).data.toList=asS (.mk n es m r f):=by unfold putS;rw[hdl,if_neg (by rw[hN];decide)]
 rw[hN,hD]at hc
 exact fin_hold H hp hs hc rfl (by simp only[den,e3];rfl)
noncomputable def yAPut:AF:=fun l h c k z=>xAPut l h c k (eAPut l h c k z)
theorem rw_aput:ArOK Tryz.prog arX 52 yAPut:=by
 unfold yAPut
 exact ArOK.then row_aput rowe_aput
noncomputable def eAFill:AF:=fun l h c k z=>l1 l z fun v l=>pA v h z fun A s=>l1 l z fun y l=>nK (nat_lit 3) y z fun a=>l1 l z fun y l=>nK (nat_lit 3) y z fun b=>l1 l z fun y l=>l0 l z (nK (nat_lit 4) y z fun c1=>aS s fun n es m r f=>iff (Nat.blt c1 (nat_lit 256)) z (iff (iffB (Nat.ble a (nat_lit 9223372036854775807)) (noP n es a (b))) z (k (e3) h c)))
theorem rowe_afill:ArOK Tryz.prog arX 94 eAFill:=by
 intro l h c k z v' h' c' e
 unfold eAFill at e
 rcases sh_p334 (l:=l) (h:=h) (z:=z) (q:=fun A s a b c1=>aS s fun n es m r f=>iff (Nat.blt c1 (nat_lit 256)) z (iff (iffB (Nat.ble a (nat_lit 9223372036854775807)) (noP n es a (b))) z (k (e3) h c)))with e1|⟨A,s,a,b,c1,rfl,hs,e1⟩
 · exact .inl (e1.symm.trans e)
 have f1:=e1.symm.trans e
 clear e e1
 cases s with
 |mk n es m r f=>
 have f2:iff (Nat.blt c1 (nat_lit 256)) z (iff (iffB (Nat.ble a (nat_lit 9223372036854775807)) (noP n es a (b))) z (k (e3) h c))=.fin v' h' c':=f1
 clear f1
 rcases iff_or (b:=Nat.blt c1 (nat_lit 256)) (z:=z)with e2|⟨hc0,e2⟩
 · exact .inl (e2.symm.trans f2)
 have f3:=e2.symm.trans f2
 clear f2 e2
 rcases iff_or (b:=iffB (Nat.ble a (nat_lit 9223372036854775807)) (noP n es a (b))) (z:=z)with e2|⟨hn,e2⟩
 · exact .inl (e2.symm.trans f3)
 have f4:=e2.symm.trans f3
 clear f3 e2
 refine .inr ⟨_,h,c,f4,fun w0 ρ w lv H hl=>?_⟩
 obtain⟨p,xs,hp,rfl,hl1⟩:=arg_p hl
 obtain⟨xs,rfl,hl2⟩:=arg_n hl1
 obtain⟨xs,rfl,hl3⟩:=arg_n hl2
 obtain⟨xs,rfl,hl4⟩:=arg_n hl3
 cases arg_0 hl4
 have hO:=sp_in H hp hs
 obtain⟨ha0,hn2⟩:=iffB_iff hn
 have ha:(a:Int)≤9223372036854775807:=by have h9:a≤9223372036854775807:=Nat.le_of_ble_eq_true ha0;omega
 have hT:=noP_iff hn2
 have hc:=on_afill hO (a:Int) (b:Int) ha (UInt8.ofNat c1)
 rw[u8_cast hc0]at hc
 have hN:thereE (asS (.mk n es m r f)).L (asS (.mk n es m r f)).es ((a:Nat):Int) (b:Int)=3:=hT
 have hD:fillS (asS (.mk n es m r f)) ((a:Nat):Int) (b:Int) (UInt8.ofNat c1)=asS (.mk n es m r f):=by unfold fillS;rw[if_neg (by rw[hN];decide)]
 rw[hN,hD]at hc
 exact fin_hold H hp hs hc rfl (by simp only[den,e3];rfl)
noncomputable def yAFill:AF:=fun l h c k z=>xAFill l h c k (eAFill l h c k z)
theorem rw_afill:ArOK Tryz.prog arX 94 yAFill:=by
 unfold yAFill
 exact ArOK.then row_afill rowe_afill
noncomputable def eACopy:AF:=fun l h c k z=>l1 l z fun v l=>pA v h z fun A s=>l1 l z fun y l=>nK (nat_lit 3) y z fun a=>l1 l z fun y l=>nK (nat_lit 3) y z fun b=>l1 l z fun y l=>l0 l z (nK (nat_lit 3) y z fun c1=>aS s fun n es m r f=>iff (Nat.ble b (nat_lit 9223372036854775807)) z (iff (iffB (Nat.ble a (nat_lit 9223372036854775807)) (noP n es a (c1))) z (k (e3) h c)))
theorem rowe_acopy:ArOK Tryz.prog arX 30 eACopy:=by
 intro l h c k z v' h' c' e
 unfold eACopy at e
 rcases sh_p333 (l:=l) (h:=h) (z:=z) (q:=fun A s a b c1=>aS s fun n es m r f=>iff (Nat.ble b (nat_lit 9223372036854775807)) z (iff (iffB (Nat.ble a (nat_lit 9223372036854775807)) (noP n es a (c1))) z (k (e3) h c)))with e1|⟨A,s,a,b,c1,rfl,hs,e1⟩
 · exact .inl (e1.symm.trans e)
 have f1:=e1.symm.trans e
 clear e e1
 cases s with
 |mk n es m r f=>
 have f2:iff (Nat.ble b (nat_lit 9223372036854775807)) z (iff (iffB (Nat.ble a (nat_lit 9223372036854775807)) (noP n es a (c1))) z (k (e3) h c))=.fin v' h' c':=f1
 clear f1
 rcases iff_or (b:=Nat.ble b (nat_lit 9223372036854775807)) (z:=z)with e2|⟨hfr,e2⟩
 · exact .inl (e2.symm.trans f2)
 have f3:=e2.symm.trans f2
 clear f2 e2
 have hfr:b≤9223372036854775807:=Nat.le_of_ble_eq_true hfr
 rcases iff_or (b:=iffB (Nat.ble a (nat_lit 9223372036854775807)) (noP n es a (c1))) (z:=z)with e2|⟨hn,e2⟩
 · exact .inl (e2.symm.trans f3)
 have f4:=e2.symm.trans f3
 clear f3 e2
 refine .inr ⟨_,h,c,f4,fun w0 ρ w lv H hl=>?_⟩
 obtain⟨p,xs,hp,rfl,hl1⟩:=arg_p hl
 obtain⟨xs,rfl,hl2⟩:=arg_n hl1
 obtain⟨xs,rfl,hl3⟩:=arg_n hl2
 obtain⟨xs,rfl,hl4⟩:=arg_n hl3
 cases arg_0 hl4
 have hO:=sp_in H hp hs
 obtain⟨ha0,hn2⟩:=iffB_iff hn
 have ha:(a:Int)≤9223372036854775807:=by have h9:a≤9223372036854775807:=Nat.le_of_ble_eq_true ha0;omega
 have hT:=noP_iff hn2
 have hc:=on_acopy hO (a:Int) (b:Int) (c1:Int) ha (by omega)
 have hN:thereE (asS (.mk n es m r f)).L (asS (.mk n es m r f)).es ((a:Nat):Int) (c1:Int)=3:=hT
 have hE:∀fr,copyE (asS (.mk n es m r f)) ((a:Nat):Int) fr (c1:Int)=3:=fun fr=>by unfold copyE;rw[if_pos (by rw[hN];decide)]
 have hD:∀fr,copyS (asS (.mk n es m r f)) ((a:Nat):Int) fr (c1:Int)=asS (.mk n es m r f):=fun fr=>by unfold copyS;rw[hE,if_neg (by decide)]
 rw[hE,hD]at hc
 exact fin_hold H hp hs hc rfl (by simp only[den,e3];rfl)
noncomputable def yACopy:AF:=fun l h c k z=>xACopy l h c k (eACopy l h c k z)
theorem rw_acopy:ArOK Tryz.prog arX 30 yACopy:=by
 unfold yACopy
 exact ArOK.then row_acopy rowe_acopy
noncomputable def eACommit:AF:=fun l h c k z=>l1 l z fun v l=>pA v h z fun A s=>l1 l z fun y l=>nK (nat_lit 3) y z fun a=>l1 l z fun y l=>l0 l z (nK (nat_lit 3) y z fun b=>aS s fun n es m r f=>iff (!r) z (iff (!ieq (commitE ⟨n,es,fun _=>0,false,0⟩ (Int.ofNat a) (Int.ofNat b)) 0) z
 (fN (Int.toNat (commitE ⟨n,es,fun _=>0,false,0⟩ (Int.ofNat a) (Int.ofNat b))) fun x=>iff (ieq (commitE ⟨n,es,fun _=>0,false,0⟩ (Int.ofNat a) (Int.ofNat b)) (Int.ofNat x)) z (iff (Nat.ble a (nat_lit 9223372036854775807)) z (k (.i (nat_lit 3) x) h c)))))
theorem rowe_commit:ArOK Tryz.prog arX 6 eACommit:=by
 intro l h c k z v' h' c' e
 unfold eACommit at e
 rcases sh_p33 (l:=l) (h:=h) (z:=z) (q:=fun A s a b=>aS s fun n es m r f=>iff (!r) z (iff (!ieq (commitE ⟨n,es,fun _=>0,false,0⟩ (Int.ofNat a) (Int.ofNat b)) 0) z (fN (Int.toNat (commitE ⟨n,es,fun _=>0,false,0⟩ (Int.ofNat a) (Int.ofNat b))) fun x=>iff (ieq (commitE ⟨n,es,fun _=>0,false,0⟩ (Int.ofNat a) (Int.ofNat b)) (Int.ofNat x)) z (iff (Nat.ble a (nat_lit 9223372036854775807)) z (k (.i (nat_lit 3) x) h c)))))with e1|⟨A,s,a,b,rfl,hs,e1⟩
 · exact .inl (e1.symm.trans e)
 have e2:=e1.symm.trans e
 clear e e1
 cases s with
 |mk n es m r f=>
 cases r with
 |true=>exact .inl e2
 |false=>
 have e3:iff (!ieq (commitE ⟨n,es,fun _=>0,false,0⟩ (Int.ofNat a) (Int.ofNat b)) 0) z (fN (Int.toNat (commitE ⟨n,es,fun _=>0,false,0⟩ (Int.ofNat a) (Int.ofNat b))) fun x=>iff (ieq (commitE ⟨n,es,fun _=>0,false,0⟩ (Int.ofNat a) (Int.ofNat b)) (Int.ofNat x)) z (iff (Nat.ble a (nat_lit 9223372036854775807)) z (k (.i (nat_lit 3) x) h c)))=.fin v' h' c':=e2
 clear e2
 generalize hcE:commitE ⟨n,es,fun _=>0,false,0⟩ (Int.ofNat a) (Int.ofNat b)=ce at e3
 rcases iff_or (b:= !ieq ce 0) (z:=z)with e4|⟨hE,e4⟩
 · exact .inl (e4.symm.trans e3)
 have e5:=e4.symm.trans e3
 rw[fN_eq]at e5
 rcases iff_or (b:=ieq ce (Int.ofNat (Int.toNat ce))) (z:=z)with e6|⟨hx,e6⟩
 · exact .inl (e6.symm.trans e5)
 have e7:=e6.symm.trans e5
 rcases iff_or (b:=Nat.ble a (nat_lit 9223372036854775807)) (z:=z)with e8|⟨ha0,e8⟩
 · exact .inl (e8.symm.trans e7)
 have e9:=e8.symm.trans e7
 refine .inr ⟨_,h,c,e9,fun w0 ρ w lv H hl=>?_⟩
 obtain⟨p,xs,hp,rfl,hl1⟩:=arg_p hl
 obtain⟨xs,rfl,hl2⟩:=arg_n hl1
 obtain⟨xs,rfl,hl3⟩:=arg_n hl2
 cases arg_0 hl3
 have hO:=sp_in H hp hs
 have ha9:a≤9223372036854775807:=Nat.le_of_ble_eq_true ha0
 have hne:ce≠0:=by
  rw[ieq_eq]at hE
  simpa using hE
 have hx':ce=Int.ofNat (Int.toNat ce):=by rw[ieq_eq]at hx;simpa using hx
 have hrB:∀s:ASt,s.rf=false→refB s=false∧refS s=s:=fun s hs=>by
  unfold refB refS;rw[hs];simp
 have hce:commitE (asS (.mk n es m false f)) (a:Int) (b:Int)=ce:=by
  rw[←hcE]
  unfold commitE
  rw[(hrB _ rfl).1,(hrB _ rfl).1]
  rfl
 have hc:=on_commit hO (a:Int) (b:Int) (by omega)
 have hS:commitS (asS (.mk n es m false f)) (a:Int) (b:Int)=asS (.mk n es m false f):=by
  unfold commitS
  split
  · rfl
  · rename_i h1
    exfalso
    rw[not_or]at h1
    unfold commitE at hce
    rw[if_neg h1.1,if_neg h1.2,(hrB _ rfl).1]at hce
    exact hne hce.symm
 rw[hS,hce,hx']at hc
 exact fin_hold H hp hs hc rfl (by simp only[den];rfl)
noncomputable def yACommit:AF:=fun l h c k z=>xACommit l h c k (eACommit l h c k z)
theorem rw_commit:ArOK Tryz.prog arX 6 yACommit:=by
 unfold yACommit
 exact ArOK.then row_commit rowe_commit
noncomputable def arRows:List Rw:=[.ar 7 yOf,.ar 64 yVPart,.ar 55 yVCopy,.ar 56 yVFill,.ar 128 yVLoad,.ar 113 yVStore,.ar 240 yVBytes,.ar 222 yVPut,
 .ar 30 yACopy,.ar 51 yABytes,.ar 52 yAPut,.ar 147 yAStore,.ar 94 yAFill,.ar 145 yALoad,.ar 122 xACap,.ar 6 yACommit,.ar 5 xANew]
theorem arRows_ok:∀r∈arRows,RwOK Tryz.prog arX r:=by
 intro r hr
 simp only[arRows,List.mem_cons,List.not_mem_nil,or_false]at hr
 rcases hr with rfl|rfl|rfl|rfl|rfl|rfl|rfl|rfl|rfl|rfl|rfl|rfl|rfl|rfl|rfl|rfl|rfl
 · exact rw_of
 · exact rw_vpart
 · exact rw_vcopy
 · exact rw_vfill
 · exact rw_vload
 · exact rw_vstore
 · exact rw_vbytes
 · exact rw_vput
 · exact rw_acopy
 · exact rw_abytes
 · exact rw_aput
 · exact rw_astore
 · exact rw_afill
 · exact rw_aload
 · exact row_cap
 · exact rw_commit
 · exact row_new
end Go.Proofs.YtpkaehpllldcmaaGreatDoor.Bt
