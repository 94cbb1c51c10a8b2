import Derived.Test.YtpkaehpllldcmaaGreatDoorArU
namespace Go.Proofs.YtpkaehpllldcmaaGreatDoor.Bt
open Go Go.RowKit Go.Shelf Ev
set_option linter.unusedVariables false
set_option linter.unusedSimpArgs false
theorem row_cap:ArOK Tryz.prog arX 122 xACap:=by
 intro l h c k z v' h' c' e
 unfold xACap at e
 rcases l1_or (l:=l) (z:=z) (q:=fun v l=>l0 l z (pA v h z fun _ s=>aS s fun n _ _ _ _=>k (.i (nat_lit 3) n) h c))with e1|⟨v,r,rfl,e1⟩
 · exact .inl (e1.symm.trans e)
 have e2:=e1.symm.trans e
 rcases l0_or (l:=r) (z:=z) (q:=pA v h z fun _ s=>aS s fun n _ _ _ _=>k (.i (nat_lit 3) n) h c)with e3|⟨rfl,e3⟩
 · exact .inl (e3.symm.trans e2)
 have e4:=e3.symm.trans e2
 rcases pA_or (v:=v) (h:=h) (z:=z) (q:=fun _ s=>aS s fun n _ _ _ _=>k (.i (nat_lit 3) n) h c)with e5|⟨A,s,rfl,hs,e5⟩
 · exact .inl (e5.symm.trans e4)
 have e6:=e5.symm.trans e4
 cases s with
 |mk n es m r f=>
 refine .inr ⟨_,h,c,show k (.i 3 n) h c=.fin v' h' c' from e6,fun w0 ρ w lv H hl=>?_⟩
 obtain⟨p,xs,hp,rfl,hl1⟩:=arg_p hl
 cases arg_0 hl1
 obtain⟨P,ps,pp,nn,cap,hx⟩:=sp_in H hp hs
 refine(cap_any hx).mono ?_
 rintro e' w' ⟨rfl,rfl⟩
 exact⟨_,rfl,ρ,Le.refl _,H,by simp only[den];rfl,Kp.refl _ _,Nat.le_refl _⟩
theorem row_new:ArOK Tryz.prog arX 5 xANew:=by
 intro l h c k z v' h' c' e
 unfold xANew n3 at e
 rcases l1_or (l:=l) (z:=z) (q:=fun v l=>l0 l z (nK 3 v z fun n=>iff (Nat.ble n (nat_lit 1048576)) z (newK (.sp (.mk n [] (nat_lit 0) false (nat_lit 0))) h c fun h c'=>k (.p c (nat_lit 0)) h c')))with e1|⟨v,r,rfl,e1⟩
 · exact .inl (e1.symm.trans e)
 have e2:=e1.symm.trans e
 rcases l0_or (l:=r) (z:=z) (q:=nK 3 v z fun n=>iff (Nat.ble n (nat_lit 1048576)) z (newK (.sp (.mk n [] (nat_lit 0) false (nat_lit 0))) h c fun h c'=>k (.p c (nat_lit 0)) h c'))with e3|⟨rfl,e3⟩
 · exact .inl (e3.symm.trans e2)
 have e4:=e3.symm.trans e2
 rcases nK_or (kd:=3) (v:=v) (z:=z) (q:=fun n=>iff (Nat.ble n (nat_lit 1048576)) z (newK (.sp (.mk n [] (nat_lit 0) false (nat_lit 0))) h c fun h c'=>k (.p c (nat_lit 0)) h c'))with e5|⟨n,rfl,e5⟩
 · exact .inl (e5.symm.trans e4)
 have e6:=e5.symm.trans e4
 rcases iff_or (b:=Nat.ble n (nat_lit 1048576)) (z:=z) (q:=newK (.sp (.mk n [] (nat_lit 0) false (nat_lit 0))) h c fun h c'=>k (.p c (nat_lit 0)) h c')with e7|⟨hn,e7⟩
 · exact .inl (e7.symm.trans e6)
 obtain⟨hc,e8⟩:=newK_fin (e7.symm.trans e6)
 refine .inr ⟨_,_,_,e8,fun w0 ρ w lv H hl=>?_⟩
 obtain⟨xs,rfl,hl1⟩:=arg_n hl
 cases arg_0 hl1
 have hn':n≤1048576:=Nat.le_of_ble_eq_true hn
 have hL:lenN (n:Int)=n:=by unfold lenN;omega
 refine(on_new (n:Int) w).mono ?_
 rintro e' w' ⟨A,rfl,hA,hO,hB,_⟩
 rw[hL]at hO
 have hs:asS (.mk n [] 0 false 0)=newS n:=by
  show(⟨n,[],byM 0,false,0⟩:ASt)=⟨n,[],fun _=>0,false,0⟩
  congr 1
  funext i;exact byM_zero i
 have hI:arX.In A (.mk n [] 0 false 0) w':=by show On A (asS _) w';rw[hs];exact hO
 obtain⟨q1,q2,q3⟩:=H.newsp hc hB.bel hA (by obtain⟨P,ps,pp,nn,cap,hx⟩:=hO;exact hx.ltA) hI fun j hj=>by
  rcases hj with hj|hj
  · exact hB.own j hj
  · exact hB.edg j hj
 exact⟨_,rfl,_,q2,q1,by simp[den,up_self],q3,by omega⟩
noncomputable def xACommit:AF:=fun l h c k z=>l1 l z fun v l=>pA v h z fun A s=>l1 l z fun y l=>nK (nat_lit 3) y z fun a=>l1 l z fun y l=>l0 l z (nK (nat_lit 3) y z fun b=>aS s fun n es m r f=>iff (!r) z (iff (ieq (commitE ⟨n,es,fun _=>0,false,0⟩ (Int.ofNat a) (Int.ofNat b)) 0) z
 (fL (laidS n es (Int.ofNat a) (Int.ofNat b) true) fun es'=>hset (.sp (.mk n es' m r f)) h A fun h=>k okV h c)))
theorem row_commit:ArOK Tryz.prog arX 6 xACommit:=by
 intro l h c k z v' h' c' e
 unfold xACommit at e
 rcases sh_p33 (l:=l) (h:=h) (z:=z) (q:=fun A s a b=>aS s fun n es m r f=>iff (!r) z (iff (ieq (commitE ⟨n,es,fun _=>0,false,0⟩ (Int.ofNat a) (Int.ofNat b)) 0) z (fL (laidS n es (Int.ofNat a) (Int.ofNat b) true) fun es'=>hset (.sp (.mk n es' m r f)) h A fun h=>k okV h c)))with e1|⟨A,s,a,b,rfl,hs,e1⟩
 · exact .inl (e1.symm.trans e)
 have e2:=e1.symm.trans e
 cases s with
 |mk n es m r f=>
 have e3:iff (!r) z (iff (ieq (commitE ⟨n,es,fun _=>0,false,0⟩ (Int.ofNat a) (Int.ofNat b)) 0) z (fL (laidS n es (Int.ofNat a) (Int.ofNat b) true) fun es'=>hset (.sp (.mk n es' m r f)) h A fun h=>k okV h c))=.fin v' h' c':=e2
 cases r with
 |true=>exact .inl e3
 |false=>
 rcases iff_or (b:=ieq (commitE ⟨n,es,fun _=>0,false,0⟩ (Int.ofNat a) (Int.ofNat b)) 0) (z:=z) (q:=fL (laidS n es (Int.ofNat a) (Int.ofNat b) true) fun es'=>hset (.sp (.mk n es' m false f)) h A fun h=>k okV h c)with e4|⟨hE,e4⟩
 · exact .inl (e4.symm.trans e3)
 have e5:=e4.symm.trans (show _=.fin v' h' c' from e3)
 rw[fL_eq,hset_eq]at e5
 refine .inr ⟨_,_,c,e5,fun w0 ρ w lv H hl=>?_⟩
 obtain⟨p,xs,hp,rfl,hl1⟩:=arg_p hl
 obtain⟨xs,rfl,hl2⟩:=arg_n hl1
 obtain⟨xs,rfl,hl3⟩:=arg_n hl2
 cases arg_0 hl3
 have hO:=sp_in H hp hs
 have hE':commitE ⟨n,es,fun _=>0,false,0⟩ (a:Int) (b:Int)=0:=by
  rw[ieq_eq]at hE
  simpa using hE
 have hrB:∀s:ASt,s.rf=false→refB s=false∧refS s=s:=fun s hs=>by
  unfold refB refS;rw[hs];simp
 have hce:commitE (asS (.mk n es m false f)) (a:Int) (b:Int)=0:=by
  unfold commitE at hE'⊢
  rw[(hrB _ rfl).1]at hE'⊢
  exact hE'
 by_cases ha:(a:Int)≤9223372036854775807
 · have hc:=on_commit hO (a:Int) (b:Int) ha
   rw[hce]at hc
   refine fin_ret H hp hs hc ?_ (by simp[den,okV,kd];rfl)
   have h1:¬(countE (asS (.mk n es m false f)).L (a:Int) (b:Int)≠0∨0<countR (asS (.mk n es m false f)).L (asS (.mk n es m false f)).es (a:Int) (b:Int)):=by
    intro hh
    unfold commitE at hce
    rcases hh with hh|hh
    · rw[if_pos hh]at hce;exact hh hce
    · split at hce
      · rename_i h2;exact h2 hce
      · simp[hh]at hce
   unfold commitS
   rw[if_neg h1,(hrB _ rfl).1,(hrB _ rfl).2]
   rfl
 · exfalso
   have h1:countE n (a:Int) (b:Int)≠0:=by
    have hg:Good n es:=hO.good
    have:=hg.small
    unfold countE laidErr withinB
    split
    · decide
    · rw[if_neg (by simp;omega)];decide
   unfold commitE at hE'
   rw[if_pos h1]at hE'
   exact h1 hE'
end Go.Proofs.YtpkaehpllldcmaaGreatDoor.Bt
