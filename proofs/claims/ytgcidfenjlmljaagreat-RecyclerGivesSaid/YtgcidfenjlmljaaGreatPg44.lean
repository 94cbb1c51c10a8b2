import Derived.Test.YtgcidfenjlmljaaGreatPg43
import Derived.Test.YtgcidfenjlmljaaGreatPgR
set_option linter.unusedVariables false
set_option linter.unusedSimpArgs false
set_option maxRecDepth 100000
set_option maxHeartbeats 16000000
namespace Go.Proofs.YtgcidfenjlmljaaGreat.Bt
section
open Go Go.RowKit Go.Shelf
section
variable {Q B A n g K:Nat} {R:Zag} {q:Nat->List Nat} {hs:List Hd} {s:ASt} {v:Value} {w y:World}
def Yha (n g:Nat) (R:Zag) (q:Nat->List Nat) (hs:List Hd) (s:ASt) (k:Int) (u g':Nat) (R':Zag) (q':Nat->List Nat) (hs':List Hd) (s':ASt) (c0 c1 c2 er:Int):Prop:=
 ((k<0\/10<k\/u=0)/\c0=0/\c1=0/\c2=0/\er=2/\g'=g/\R'=R/\q'=q/\hs'=hs/\s'=s)\/
 (∃kn:Nat,k=(kn:Int)/\kn<=10/\0<u/\((∃i l:Nat,i<=80/\c0=(adr i:Int)/\c1=(l:Int)/\c2=(u:Int)/\er=0/\hs'=hs++[⟨(adr i:Int),(l:Int),(u:Int),0⟩]/\Yhn n g kn (rfI s) R q i l g' (rfI s') (tkT R' g') q')\/
  (c0=0/\c1=0/\c2=0/\er=4/\hs'=hs/\g'=g/\Yhj n g kn (rfI s) R q (rfI s') (tkT R' g) q')))
theorem Yc8 (hv:RcV Q B A n 4096 s w) (h:PyS n g K R q hs s) (k:Int) (u:Nat) (hu:u<18446744073709551616):
 Calls Tryz.prog 27 #[rcP Q,iV k,.int .u64 (u:Int)] w fun e w'=>∃c0 c1 c2 er g' R' q' hs' s',e=.returned (.tuple #[cV c0 c1 c2 0,iV er])/\RcV Q B A n 4096 s' w'/\Zam A w w'/\PyS n g' K R' q' hs' s'/\Yha n g R q hs s k u g' R' q' hs' s' c0 c1 c2 er:=by
 by_cases hk:k<0\/10<k\/u=0
 · refine(Zu3 hv k u hk).mono ?_
   rintro e w' ⟨rfl,h1,h2⟩
   exact⟨0,0,0,2,g,R,q,hs,s,rfl,h1,Zam.Zad hv.1.1 h2,h,.inl ⟨hk,rfl,rfl,rfl,rfl,rfl,rfl,rfl,rfl,rfl⟩⟩
 · obtain⟨kn,rfl⟩:∃kn:Nat,k=(kn:Int):=⟨k.toNat,by omega⟩
   have hr:=Zi9 hv.1.1
   refine(Yib hv h.rc kn u (by omega) (by omega) hu).mono ?_
   rintro e w' (⟨i,l,g2,R2,q2,s2,rfl,hf,hh,h1,h2⟩|⟨R2,q2,s2,rfl,hn,h1,h2⟩)
   · obtain⟨q',a1,a2⟩:=h.Zuh hr hf hh (by omega) hu
     have b:=hf.rc.bu.addr hf.tk
     have:=hf.rc.bu.gG;have:=hf.rc.bu.c2
     exact⟨_,_,_,_,g2,R2,q',_,_,rfl,h1,h2,a1,.inr ⟨kn,rfl,by omega,by omega,.inl ⟨i,l,by omega,rfl,rfl,rfl,rfl,rfl,a2⟩⟩⟩
   · obtain⟨q',a1,a2⟩:=h.Zzp hr hn
     exact⟨0,0,0,4,g,R2,q',hs,s2,rfl,h1,h2,a1,.inr ⟨kn,rfl,by omega,by omega,.inr ⟨rfl,rfl,rfl,rfl,rfl,rfl,a2⟩⟩⟩
theorem Yhn.Yiu {k i l g2:Nat} {r r2:Int} {L2:List (Nat × Nat × Bool)} {q2:Nat->List Nat} (h:Yhn n g k r R q i l g2 r2 L2 q2) (j:Nat) (hq:q2 j≠[]):q j≠[]:=by
 rcases h with⟨rest,_,_,e,rfl,_⟩|⟨_,_,rfl,_⟩|⟨_,_,_,_,_,_,_,_,_,_,rfl,_⟩
 · by_cases c:j=l
   · subst c;rw[e];exact List.cons_ne_nil _ _
   · rwa [Zaz _ _ c]at hq
 · exact hq
 · exact absurd rfl hq
theorem Yhj.Yiu {k:Nat} {r r2:Int} {L2:List (Nat × Nat × Bool)} {q2:Nat->List Nat} (h:Yhj n g k r R q r2 L2 q2) (j:Nat) (hq:q2 j≠[]):q j≠[]:=by
 obtain⟨_,_,_,_,_,⟨_,_,_,rfl⟩|⟨_,_,_,_,_,_,_,rfl⟩⟩:=h
 · exact hq
 · exact absurd rfl hq
theorem Zvz {s1:ASt} (hp:PyS n g K R q hs s) (hr:rfI s<=9223372036854775807) (ho:On A s1 w) (k:Int) (u:Nat) (hu:u<18446744073709551616) {g':Nat} {R':Zag} {q':Nat->List Nat} {hs':List Hd} {s':ASt} {c0 c1 c2 er:Int} (hp':PyS n g' K R' q' hs' s') (ht:Yha n g R q hs s k u g' R' q' hs' s' c0 c1 c2 er)
 {Ds:List Nat} (hDs:∀D∈Ds,D<w.heap.size) (hd:DWo A (n:Int) (g:Int) (rfI s) (K:Int) (tkT R g) q hs v Ds w):
 Calls Tryz.prog 71 #[v,iV k,.int .u64 (u:Int)] w fun e w'=>∃v',e=.returned (.tuple #[v',cV c0 c1 c2 0,iV er])/\DWo A (n:Int) (g':Int) (rfI s') (K:Int) (tkT R' g') q' hs' v' Ds w'/\Below w.heap.size w w':=by
 obtain⟨u0,c,P,nn,C,op,on,oc,rfl,hi,hm,hf0⟩:=hd;have hbel:∀{n g r K:Int} {L q hs P v w'},Zj4 n g r K L q hs P w v w'->Below w.heap.size w w':=fun h=>by obtain⟨_,_,_,_,_,_,_,_,_,_,_,hb⟩:=h;exact hb
 rcases ht with⟨h1,rfl,rfl,rfl,rfl,rfl,rfl,rfl,rfl,rfl⟩|⟨kn,rfl,h1,h2,⟨i,l,h3,rfl,rfl,rfl,rfl,rfl,h4⟩|⟨rfl,rfl,rfl,rfl,rfl,rfl,h4⟩⟩
 · refine(Zxa (n:Int) (g':Int) (rfI s') (K:Int) c hi k u h1).mono ?_
   rintro e w' ⟨v',rfl,hd⟩
   exact⟨v',rfl,hd.dwo hm hf0 hDs ho fun k _ hq=> .inl ⟨rfl,hq⟩,hbel hd⟩
 · have b1:=hp.rc.bu.gG;have b2:=hp.rc.bu.c2;have b3:=hp'.rc.bu.gG;have b4:=hp.len
   refine(Znw n g (by omega) (by omega) (rfI s) (K:Int) hr c R hp.rc.bu.ti hi (by omega) kn h1 u h2 hu true i l g' h3 (by omega) (rfI s') (tkT R' g') q' (.inl ⟨rfl,h4⟩)).mono ?_
   rintro e w' (⟨_,v',rfl,hd⟩|⟨e,_⟩)
   · exact⟨v',rfl,hd.dwo hm hf0 hDs ho fun k _ hq=> .inl ⟨rfl,h4.Yiu k hq⟩,hbel hd⟩
   · cases e
 · have b1:=hp.rc.bu.gG;have b2:=hp.rc.bu.c2;have b4:=hp.len
   refine(Znw n g' (by omega) (by omega) (rfI s) (K:Int) hr c R hp.rc.bu.ti hi (by omega) kn h1 u h2 hu false 0 0 0 (by omega) (by omega) (rfI s') (tkT R' g') q' (.inr ⟨rfl,h4⟩)).mono ?_
   rintro e w' (⟨e,_⟩|⟨_,v',rfl,hd⟩)
   · cases e
   · exact⟨v',rfl,hd.dwo hm hf0 hDs ho fun k _ hq=> .inl ⟨rfl,h4.Yiu k hq⟩,hbel hd⟩
end
end
end Go.Proofs.YtgcidfenjlmljaaGreat.Bt
