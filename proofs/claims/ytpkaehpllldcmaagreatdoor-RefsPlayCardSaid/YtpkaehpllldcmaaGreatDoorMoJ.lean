import Derived.Test.YtpkaehpllldcmaaGreatDoorMoD
import Derived.Deep.RegionHeld3
import Derived.RangeFuncCalls
namespace Go.Proofs.YtpkaehpllldcmaaGreatDoor.Bt
open Go Go.RowKit
set_option linter.unusedVariables false
section
variable {P:Program} {ops:Array Oper} {Q:Exit→Act→World→Prop} {S:World→Prop} {n:Nat} {md:Region.Mode}
theorem round_of_upon {o:Oper} {l:Nat} {a:Act} {K:Act→World→Prop} (r:Result Next) (h:o.upon P a K Q r):o.uponIn (Fence.wide.inRound l) n P a K Q r:=by
 unfold Oper.upon at h
 unfold Oper.uponIn
 split at h
 · exact h
 · exact h
 · exact h
 · exact⟨fun hd=>by simp[Fence.inRound,Fence.wide]at hd,CallsIn.inRound l (callsIn_wide.2 h)⟩
 · exact⟨fun hd=>by simp[Fence.inRound,Fence.wide]at hd,fun c cs _=>by
    obtain⟨v,w',r,s⟩:=h c cs
    exact⟨v,w',r,stepsIn_wide.2 s⟩⟩
 · exact h
 · exact h.elim
theorem round_of_wpOp {i l:Nat} (hnd:noDefer ops=true) (hLO:¬LetsOut Q) {K:Act→World→Prop} {a:Act} {w:World} (h:wpOp P ops Q i K a w):wpOpIn (Fence.wide.inRound l) n P ops Q i K a w:=by
 unfold wpOp at h
 unfold wpOpIn
 cases ho:ops[i]? with
 |none=>rw[ho]at h;exact h
 |some o=>
  rw[ho]at h
  simp only at h⊢
  by_cases hw:Region.wanted o (yielded ops a.tmps)=true
  · rw[if_pos hw]at h⊢
    rcases h with h|⟨_,h⟩
    · refine⟨fun _ _=>trivial,?_⟩
      rw[show(Fence.wide.inRound l).round=some l from rfl,Oper.semAt_some _ _ _ (noDefer_at hnd ho)]
      exact round_of_upon _ h
    · exact absurd h hLO
  · rw[if_neg hw]at h⊢
    exact⟨fun _ _=>trivial,h⟩
theorem round_of_any {l:Nat} (hnd:noDefer ops=true) (hLO:¬LetsOut Q):∀(fuel:Nat) (listed:Array Bool) (a:Act) (w:World),wpAny P md ops Q fuel listed a w→wpAnyIn (Fence.wide.inRound l) n P md ops Q fuel listed a w
 |0,_,_,_,h=>h
 |fuel+1,listed,a,w,h=>⟨h.1,fun i hi=>wpOpIn_mono (fun a' w' h'=>round_of_any hnd hLO fuel _ a' w' h') (round_of_wpOp hnd hLO (h.2 i hi))⟩
theorem round_held {id r:Nat} {a:Act} {w:World} (S:World→Prop) (hm:P.follows .mixedOrders=true) (hnd:noDefer ops=true) (hLO:¬LetsOut Q)
 (h:wpAnyH P .any ops Q S ops.size (Array.replicate ops.size false) a w.drew):(Code.region id ops true).wpIn (Fence.wide.inRound r) n P Q a w:=
 wpIn_region_any hm (round_of_any hnd hLO _ _ _ _ (wpAny_of_held _ _ _ _ h))
end
end Go.Proofs.YtpkaehpllldcmaaGreatDoor.Bt
