import Derived.Test.YtpkaehpllldcmaaGreatDoorArS
namespace Go.Proofs.YtpkaehpllldcmaaGreatDoor.Bt
open Go Go.RowKit Go.Shelf Ev
set_option linter.unusedVariables false
set_option linter.unusedSimpArgs false
section
variable {z:R} {h:HP} {l:List V}
theorem sh_v33 {q:Nat→AS→Nat→Nat→Nat→Nat→R}:(l1 l z fun v l=>vA v h z fun A s va vs=>l1 l z fun y l=>nK (nat_lit 3) y z fun a=>l1 l z fun y l=>l0 l z (nK (nat_lit 3) y z fun b=>q A s va vs a b))=z∨∃A s va vs a b,l=[.ag [.p A 0,.i 3 va,.i 3 vs],.i 3 a,.i 3 b]∧hget h A=.sp s∧(l1 l z fun v l=>vA v h z fun A s va vs=>l1 l z fun y l=>nK (nat_lit 3) y z fun a=>l1 l z fun y l=>l0 l z (nK (nat_lit 3) y z fun b=>q A s va vs a b))=q A s va vs a b:=by
 rcases l1_or (l:=l) (z:=z) (q:=fun v l=>vA v h z fun A s va vs=>l1 l z fun y l=>nK (nat_lit 3) y z fun a=>l1 l z fun y l=>l0 l z (nK (nat_lit 3) y z fun b=>q A s va vs a b))with e|⟨v,r,rfl,e⟩
 · exact .inl e
 rw[e]
 rcases vA_or (v:=v) (h:=h) (z:=z) (q:=fun A s va vs=>l1 r z fun y l=>nK (nat_lit 3) y z fun a=>l1 l z fun y l=>l0 l z (nK (nat_lit 3) y z fun b=>q A s va vs a b))with e|⟨A,s,va,vs,rfl,hs,e⟩
 · exact .inl e
 rw[e]
 rcases l1_or (l:=r) (z:=z) (q:=fun y l=>nK (nat_lit 3) y z fun a=>l1 l z fun y l=>l0 l z (nK (nat_lit 3) y z fun b=>q A s va vs a b))with e|⟨y,r,rfl,e⟩
 · exact .inl e
 rw[e]
 rcases nK_or (kd:=3) (v:=y) (z:=z) (q:=fun a=>l1 r z fun y l=>l0 l z (nK (nat_lit 3) y z fun b=>q A s va vs a b))with e|⟨a,rfl,e⟩
 · exact .inl e
 rw[e]
 rcases l1_or (l:=r) (z:=z) (q:=fun y l=>l0 l z (nK (nat_lit 3) y z fun b=>q A s va vs a b))with e|⟨y,r,rfl,e⟩
 · exact .inl e
 rw[e]
 rcases l0_or (l:=r) (z:=z) (q:=nK (nat_lit 3) y z fun b=>q A s va vs a b)with e|⟨rfl,e⟩
 · exact .inl e
 rw[e]
 rcases nK_or (kd:=3) (v:=y) (z:=z) (q:=fun b=>q A s va vs a b)with e|⟨b,rfl,e⟩
 · exact .inl e
 exact .inr ⟨A,s,va,vs,a,b,rfl,hs,e⟩
theorem sh_v337 {q:Nat→AS→Nat→Nat→Nat→Nat→Nat→R}:(l1 l z fun v l=>vA v h z fun A s va vs=>l1 l z fun y l=>nK (nat_lit 3) y z fun a=>l1 l z fun y l=>nK (nat_lit 3) y z fun b=>l1 l z fun y l=>l0 l z (nK (nat_lit 7) y z fun c=>q A s va vs a b c))=z∨∃A s va vs a b c,l=[.ag [.p A 0,.i 3 va,.i 3 vs],.i 3 a,.i 3 b,.i 7 c]∧hget h A=.sp s∧(l1 l z fun v l=>vA v h z fun A s va vs=>l1 l z fun y l=>nK (nat_lit 3) y z fun a=>l1 l z fun y l=>nK (nat_lit 3) y z fun b=>l1 l z fun y l=>l0 l z (nK (nat_lit 7) y z fun c=>q A s va vs a b c))=q A s va vs a b c:=by
 rcases l1_or (l:=l) (z:=z) (q:=fun v l=>vA v h z fun A s va vs=>l1 l z fun y l=>nK (nat_lit 3) y z fun a=>l1 l z fun y l=>nK (nat_lit 3) y z fun b=>l1 l z fun y l=>l0 l z (nK (nat_lit 7) y z fun c=>q A s va vs a b c))with e|⟨v,r,rfl,e⟩
 · exact .inl e
 rw[e]
 rcases vA_or (v:=v) (h:=h) (z:=z) (q:=fun A s va vs=>l1 r z fun y l=>nK (nat_lit 3) y z fun a=>l1 l z fun y l=>nK (nat_lit 3) y z fun b=>l1 l z fun y l=>l0 l z (nK (nat_lit 7) y z fun c=>q A s va vs a b c))with e|⟨A,s,va,vs,rfl,hs,e⟩
 · exact .inl e
 rw[e]
 rcases l1_or (l:=r) (z:=z) (q:=fun y l=>nK (nat_lit 3) y z fun a=>l1 l z fun y l=>nK (nat_lit 3) y z fun b=>l1 l z fun y l=>l0 l z (nK (nat_lit 7) y z fun c=>q A s va vs a b c))with e|⟨y,r,rfl,e⟩
 · exact .inl e
 rw[e]
 rcases nK_or (kd:=3) (v:=y) (z:=z) (q:=fun a=>l1 r z fun y l=>nK (nat_lit 3) y z fun b=>l1 l z fun y l=>l0 l z (nK (nat_lit 7) y z fun c=>q A s va vs a b c))with e|⟨a,rfl,e⟩
 · exact .inl e
 rw[e]
 rcases l1_or (l:=r) (z:=z) (q:=fun y l=>nK (nat_lit 3) y z fun b=>l1 l z fun y l=>l0 l z (nK (nat_lit 7) y z fun c=>q A s va vs a b c))with e|⟨y,r,rfl,e⟩
 · exact .inl e
 rw[e]
 rcases nK_or (kd:=3) (v:=y) (z:=z) (q:=fun b=>l1 r z fun y l=>l0 l z (nK (nat_lit 7) y z fun c=>q A s va vs a b c))with e|⟨b,rfl,e⟩
 · exact .inl e
 rw[e]
 rcases l1_or (l:=r) (z:=z) (q:=fun y l=>l0 l z (nK (nat_lit 7) y z fun c=>q A s va vs a b c))with e|⟨y,r,rfl,e⟩
 · exact .inl e
 rw[e]
 rcases l0_or (l:=r) (z:=z) (q:=nK (nat_lit 7) y z fun c=>q A s va vs a b c)with e|⟨rfl,e⟩
 · exact .inl e
 rw[e]
 rcases nK_or (kd:=7) (v:=y) (z:=z) (q:=fun c=>q A s va vs a b c)with e|⟨c,rfl,e⟩
 · exact .inl e
 exact .inr ⟨A,s,va,vs,a,b,c,rfl,hs,e⟩
theorem sh_v334 {q:Nat→AS→Nat→Nat→Nat→Nat→Nat→R}:(l1 l z fun v l=>vA v h z fun A s va vs=>l1 l z fun y l=>nK (nat_lit 3) y z fun a=>l1 l z fun y l=>nK (nat_lit 3) y z fun b=>l1 l z fun y l=>l0 l z (nK (nat_lit 4) y z fun c=>q A s va vs a b c))=z∨∃A s va vs a b c,l=[.ag [.p A 0,.i 3 va,.i 3 vs],.i 3 a,.i 3 b,.i 4 c]∧hget h A=.sp s∧(l1 l z fun v l=>vA v h z fun A s va vs=>l1 l z fun y l=>nK (nat_lit 3) y z fun a=>l1 l z fun y l=>nK (nat_lit 3) y z fun b=>l1 l z fun y l=>l0 l z (nK (nat_lit 4) y z fun c=>q A s va vs a b c))=q A s va vs a b c:=by
 rcases l1_or (l:=l) (z:=z) (q:=fun v l=>vA v h z fun A s va vs=>l1 l z fun y l=>nK (nat_lit 3) y z fun a=>l1 l z fun y l=>nK (nat_lit 3) y z fun b=>l1 l z fun y l=>l0 l z (nK (nat_lit 4) y z fun c=>q A s va vs a b c))with e|⟨v,r,rfl,e⟩
 · exact .inl e
 rw[e]
 rcases vA_or (v:=v) (h:=h) (z:=z) (q:=fun A s va vs=>l1 r z fun y l=>nK (nat_lit 3) y z fun a=>l1 l z fun y l=>nK (nat_lit 3) y z fun b=>l1 l z fun y l=>l0 l z (nK (nat_lit 4) y z fun c=>q A s va vs a b c))with e|⟨A,s,va,vs,rfl,hs,e⟩
 · exact .inl e
 rw[e]
 rcases l1_or (l:=r) (z:=z) (q:=fun y l=>nK (nat_lit 3) y z fun a=>l1 l z fun y l=>nK (nat_lit 3) y z fun b=>l1 l z fun y l=>l0 l z (nK (nat_lit 4) y z fun c=>q A s va vs a b c))with e|⟨y,r,rfl,e⟩
 · exact .inl e
 rw[e]
 rcases nK_or (kd:=3) (v:=y) (z:=z) (q:=fun a=>l1 r z fun y l=>nK (nat_lit 3) y z fun b=>l1 l z fun y l=>l0 l z (nK (nat_lit 4) y z fun c=>q A s va vs a b c))with e|⟨a,rfl,e⟩
 · exact .inl e
 rw[e]
 rcases l1_or (l:=r) (z:=z) (q:=fun y l=>nK (nat_lit 3) y z fun b=>l1 l z fun y l=>l0 l z (nK (nat_lit 4) y z fun c=>q A s va vs a b c))with e|⟨y,r,rfl,e⟩
 · exact .inl e
 rw[e]
 rcases nK_or (kd:=3) (v:=y) (z:=z) (q:=fun b=>l1 r z fun y l=>l0 l z (nK (nat_lit 4) y z fun c=>q A s va vs a b c))with e|⟨b,rfl,e⟩
 · exact .inl e
 rw[e]
 rcases l1_or (l:=r) (z:=z) (q:=fun y l=>l0 l z (nK (nat_lit 4) y z fun c=>q A s va vs a b c))with e|⟨y,r,rfl,e⟩
 · exact .inl e
 rw[e]
 rcases l0_or (l:=r) (z:=z) (q:=nK (nat_lit 4) y z fun c=>q A s va vs a b c)with e|⟨rfl,e⟩
 · exact .inl e
 rw[e]
 rcases nK_or (kd:=4) (v:=y) (z:=z) (q:=fun c=>q A s va vs a b c)with e|⟨c,rfl,e⟩
 · exact .inl e
 exact .inr ⟨A,s,va,vs,a,b,c,rfl,hs,e⟩
theorem sh_v333 {q:Nat→AS→Nat→Nat→Nat→Nat→Nat→R}:(l1 l z fun v l=>vA v h z fun A s va vs=>l1 l z fun y l=>nK (nat_lit 3) y z fun a=>l1 l z fun y l=>nK (nat_lit 3) y z fun b=>l1 l z fun y l=>l0 l z (nK (nat_lit 3) y z fun c=>q A s va vs a b c))=z∨∃A s va vs a b c,l=[.ag [.p A 0,.i 3 va,.i 3 vs],.i 3 a,.i 3 b,.i 3 c]∧hget h A=.sp s∧(l1 l z fun v l=>vA v h z fun A s va vs=>l1 l z fun y l=>nK (nat_lit 3) y z fun a=>l1 l z fun y l=>nK (nat_lit 3) y z fun b=>l1 l z fun y l=>l0 l z (nK (nat_lit 3) y z fun c=>q A s va vs a b c))=q A s va vs a b c:=by
 rcases l1_or (l:=l) (z:=z) (q:=fun v l=>vA v h z fun A s va vs=>l1 l z fun y l=>nK (nat_lit 3) y z fun a=>l1 l z fun y l=>nK (nat_lit 3) y z fun b=>l1 l z fun y l=>l0 l z (nK (nat_lit 3) y z fun c=>q A s va vs a b c))with e|⟨v,r,rfl,e⟩
 · exact .inl e
 rw[e]
 rcases vA_or (v:=v) (h:=h) (z:=z) (q:=fun A s va vs=>l1 r z fun y l=>nK (nat_lit 3) y z fun a=>l1 l z fun y l=>nK (nat_lit 3) y z fun b=>l1 l z fun y l=>l0 l z (nK (nat_lit 3) y z fun c=>q A s va vs a b c))with e|⟨A,s,va,vs,rfl,hs,e⟩
 · exact .inl e
 rw[e]
 rcases l1_or (l:=r) (z:=z) (q:=fun y l=>nK (nat_lit 3) y z fun a=>l1 l z fun y l=>nK (nat_lit 3) y z fun b=>l1 l z fun y l=>l0 l z (nK (nat_lit 3) y z fun c=>q A s va vs a b c))with e|⟨y,r,rfl,e⟩
 · exact .inl e
 rw[e]
 rcases nK_or (kd:=3) (v:=y) (z:=z) (q:=fun a=>l1 r z fun y l=>nK (nat_lit 3) y z fun b=>l1 l z fun y l=>l0 l z (nK (nat_lit 3) y z fun c=>q A s va vs a b c))with e|⟨a,rfl,e⟩
 · exact .inl e
 rw[e]
 rcases l1_or (l:=r) (z:=z) (q:=fun y l=>nK (nat_lit 3) y z fun b=>l1 l z fun y l=>l0 l z (nK (nat_lit 3) y z fun c=>q A s va vs a b c))with e|⟨y,r,rfl,e⟩
 · exact .inl e
 rw[e]
 rcases nK_or (kd:=3) (v:=y) (z:=z) (q:=fun b=>l1 r z fun y l=>l0 l z (nK (nat_lit 3) y z fun c=>q A s va vs a b c))with e|⟨b,rfl,e⟩
 · exact .inl e
 rw[e]
 rcases l1_or (l:=r) (z:=z) (q:=fun y l=>l0 l z (nK (nat_lit 3) y z fun c=>q A s va vs a b c))with e|⟨y,r,rfl,e⟩
 · exact .inl e
 rw[e]
 rcases l0_or (l:=r) (z:=z) (q:=nK (nat_lit 3) y z fun c=>q A s va vs a b c)with e|⟨rfl,e⟩
 · exact .inl e
 rw[e]
 rcases nK_or (kd:=3) (v:=y) (z:=z) (q:=fun c=>q A s va vs a b c)with e|⟨c,rfl,e⟩
 · exact .inl e
 exact .inr ⟨A,s,va,vs,a,b,c,rfl,hs,e⟩
theorem sh_v3s {q:Nat→AS→Nat→Nat→Nat→List Nat→R}:(l1 l z fun v l=>vA v h z fun A s va vs=>l1 l z fun y l=>nK (nat_lit 3) y z fun a=>l1 l z fun y l=>l0 l z (asSz y z fun b=>q A s va vs a b))=z∨∃A s va vs a b,l=[.ag [.p A 0,.i 3 va,.i 3 vs],.i 3 a,.s b]∧hget h A=.sp s∧(l1 l z fun v l=>vA v h z fun A s va vs=>l1 l z fun y l=>nK (nat_lit 3) y z fun a=>l1 l z fun y l=>l0 l z (asSz y z fun b=>q A s va vs a b))=q A s va vs a b:=by
 rcases l1_or (l:=l) (z:=z) (q:=fun v l=>vA v h z fun A s va vs=>l1 l z fun y l=>nK (nat_lit 3) y z fun a=>l1 l z fun y l=>l0 l z (asSz y z fun b=>q A s va vs a b))with e|⟨v,r,rfl,e⟩
 · exact .inl e
 rw[e]
 rcases vA_or (v:=v) (h:=h) (z:=z) (q:=fun A s va vs=>l1 r z fun y l=>nK (nat_lit 3) y z fun a=>l1 l z fun y l=>l0 l z (asSz y z fun b=>q A s va vs a b))with e|⟨A,s,va,vs,rfl,hs,e⟩
 · exact .inl e
 rw[e]
 rcases l1_or (l:=r) (z:=z) (q:=fun y l=>nK (nat_lit 3) y z fun a=>l1 l z fun y l=>l0 l z (asSz y z fun b=>q A s va vs a b))with e|⟨y,r,rfl,e⟩
 · exact .inl e
 rw[e]
 rcases nK_or (kd:=3) (v:=y) (z:=z) (q:=fun a=>l1 r z fun y l=>l0 l z (asSz y z fun b=>q A s va vs a b))with e|⟨a,rfl,e⟩
 · exact .inl e
 rw[e]
 rcases l1_or (l:=r) (z:=z) (q:=fun y l=>l0 l z (asSz y z fun b=>q A s va vs a b))with e|⟨y,r,rfl,e⟩
 · exact .inl e
 rw[e]
 rcases l0_or (l:=r) (z:=z) (q:=asSz y z fun b=>q A s va vs a b)with e|⟨rfl,e⟩
 · exact .inl e
 rw[e]
 rcases asSz_or (v:=y) (z:=z) (q:=fun b=>q A s va vs a b)with e|⟨b,rfl,e⟩
 · exact .inl e
 exact .inr ⟨A,s,va,vs,a,b,rfl,hs,e⟩
theorem sh_p33 {q:Nat→AS→Nat→Nat→R}:(l1 l z fun v l=>pA v h z fun A s=>l1 l z fun y l=>nK (nat_lit 3) y z fun a=>l1 l z fun y l=>l0 l z (nK (nat_lit 3) y z fun b=>q A s a b))=z∨∃A s a b,l=[.p A 0,.i 3 a,.i 3 b]∧hget h A=.sp s∧(l1 l z fun v l=>pA v h z fun A s=>l1 l z fun y l=>nK (nat_lit 3) y z fun a=>l1 l z fun y l=>l0 l z (nK (nat_lit 3) y z fun b=>q A s a b))=q A s a b:=by
 rcases l1_or (l:=l) (z:=z) (q:=fun v l=>pA v h z fun A s=>l1 l z fun y l=>nK (nat_lit 3) y z fun a=>l1 l z fun y l=>l0 l z (nK (nat_lit 3) y z fun b=>q A s a b))with e|⟨v,r,rfl,e⟩
 · exact .inl e
 rw[e]
 rcases pA_or (v:=v) (h:=h) (z:=z) (q:=fun A s=>l1 r z fun y l=>nK (nat_lit 3) y z fun a=>l1 l z fun y l=>l0 l z (nK (nat_lit 3) y z fun b=>q A s a b))with e|⟨A,s,rfl,hs,e⟩
 · exact .inl e
 rw[e]
 rcases l1_or (l:=r) (z:=z) (q:=fun y l=>nK (nat_lit 3) y z fun a=>l1 l z fun y l=>l0 l z (nK (nat_lit 3) y z fun b=>q A s a b))with e|⟨y,r,rfl,e⟩
 · exact .inl e
 rw[e]
 rcases nK_or (kd:=3) (v:=y) (z:=z) (q:=fun a=>l1 r z fun y l=>l0 l z (nK (nat_lit 3) y z fun b=>q A s a b))with e|⟨a,rfl,e⟩
 · exact .inl e
 rw[e]
 rcases l1_or (l:=r) (z:=z) (q:=fun y l=>l0 l z (nK (nat_lit 3) y z fun b=>q A s a b))with e|⟨y,r,rfl,e⟩
 · exact .inl e
 rw[e]
 rcases l0_or (l:=r) (z:=z) (q:=nK (nat_lit 3) y z fun b=>q A s a b)with e|⟨rfl,e⟩
 · exact .inl e
 rw[e]
 rcases nK_or (kd:=3) (v:=y) (z:=z) (q:=fun b=>q A s a b)with e|⟨b,rfl,e⟩
 · exact .inl e
 exact .inr ⟨A,s,a,b,rfl,hs,e⟩
theorem sh_p337 {q:Nat→AS→Nat→Nat→Nat→R}:(l1 l z fun v l=>pA v h z fun A s=>l1 l z fun y l=>nK (nat_lit 3) y z fun a=>l1 l z fun y l=>nK (nat_lit 3) y z fun b=>l1 l z fun y l=>l0 l z (nK (nat_lit 7) y z fun c=>q A s a b c))=z∨∃A s a b c,l=[.p A 0,.i 3 a,.i 3 b,.i 7 c]∧hget h A=.sp s∧(l1 l z fun v l=>pA v h z fun A s=>l1 l z fun y l=>nK (nat_lit 3) y z fun a=>l1 l z fun y l=>nK (nat_lit 3) y z fun b=>l1 l z fun y l=>l0 l z (nK (nat_lit 7) y z fun c=>q A s a b c))=q A s a b c:=by
 rcases l1_or (l:=l) (z:=z) (q:=fun v l=>pA v h z fun A s=>l1 l z fun y l=>nK (nat_lit 3) y z fun a=>l1 l z fun y l=>nK (nat_lit 3) y z fun b=>l1 l z fun y l=>l0 l z (nK (nat_lit 7) y z fun c=>q A s a b c))with e|⟨v,r,rfl,e⟩
 · exact .inl e
 rw[e]
 rcases pA_or (v:=v) (h:=h) (z:=z) (q:=fun A s=>l1 r z fun y l=>nK (nat_lit 3) y z fun a=>l1 l z fun y l=>nK (nat_lit 3) y z fun b=>l1 l z fun y l=>l0 l z (nK (nat_lit 7) y z fun c=>q A s a b c))with e|⟨A,s,rfl,hs,e⟩
 · exact .inl e
 rw[e]
 rcases l1_or (l:=r) (z:=z) (q:=fun y l=>nK (nat_lit 3) y z fun a=>l1 l z fun y l=>nK (nat_lit 3) y z fun b=>l1 l z fun y l=>l0 l z (nK (nat_lit 7) y z fun c=>q A s a b c))with e|⟨y,r,rfl,e⟩
 · exact .inl e
 rw[e]
 rcases nK_or (kd:=3) (v:=y) (z:=z) (q:=fun a=>l1 r z fun y l=>nK (nat_lit 3) y z fun b=>l1 l z fun y l=>l0 l z (nK (nat_lit 7) y z fun c=>q A s a b c))with e|⟨a,rfl,e⟩
 · exact .inl e
 rw[e]
 rcases l1_or (l:=r) (z:=z) (q:=fun y l=>nK (nat_lit 3) y z fun b=>l1 l z fun y l=>l0 l z (nK (nat_lit 7) y z fun c=>q A s a b c))with e|⟨y,r,rfl,e⟩
 · exact .inl e
 rw[e]
 rcases nK_or (kd:=3) (v:=y) (z:=z) (q:=fun b=>l1 r z fun y l=>l0 l z (nK (nat_lit 7) y z fun c=>q A s a b c))with e|⟨b,rfl,e⟩
 · exact .inl e
 rw[e]
 rcases l1_or (l:=r) (z:=z) (q:=fun y l=>l0 l z (nK (nat_lit 7) y z fun c=>q A s a b c))with e|⟨y,r,rfl,e⟩
 · exact .inl e
 rw[e]
 rcases l0_or (l:=r) (z:=z) (q:=nK (nat_lit 7) y z fun c=>q A s a b c)with e|⟨rfl,e⟩
 · exact .inl e
 rw[e]
 rcases nK_or (kd:=7) (v:=y) (z:=z) (q:=fun c=>q A s a b c)with e|⟨c,rfl,e⟩
 · exact .inl e
 exact .inr ⟨A,s,a,b,c,rfl,hs,e⟩
theorem sh_p334 {q:Nat→AS→Nat→Nat→Nat→R}:(l1 l z fun v l=>pA v h z fun A s=>l1 l z fun y l=>nK (nat_lit 3) y z fun a=>l1 l z fun y l=>nK (nat_lit 3) y z fun b=>l1 l z fun y l=>l0 l z (nK (nat_lit 4) y z fun c=>q A s a b c))=z∨∃A s a b c,l=[.p A 0,.i 3 a,.i 3 b,.i 4 c]∧hget h A=.sp s∧(l1 l z fun v l=>pA v h z fun A s=>l1 l z fun y l=>nK (nat_lit 3) y z fun a=>l1 l z fun y l=>nK (nat_lit 3) y z fun b=>l1 l z fun y l=>l0 l z (nK (nat_lit 4) y z fun c=>q A s a b c))=q A s a b c:=by
 rcases l1_or (l:=l) (z:=z) (q:=fun v l=>pA v h z fun A s=>l1 l z fun y l=>nK (nat_lit 3) y z fun a=>l1 l z fun y l=>nK (nat_lit 3) y z fun b=>l1 l z fun y l=>l0 l z (nK (nat_lit 4) y z fun c=>q A s a b c))with e|⟨v,r,rfl,e⟩
 · exact .inl e
 rw[e]
 rcases pA_or (v:=v) (h:=h) (z:=z) (q:=fun A s=>l1 r z fun y l=>nK (nat_lit 3) y z fun a=>l1 l z fun y l=>nK (nat_lit 3) y z fun b=>l1 l z fun y l=>l0 l z (nK (nat_lit 4) y z fun c=>q A s a b c))with e|⟨A,s,rfl,hs,e⟩
 · exact .inl e
 rw[e]
 rcases l1_or (l:=r) (z:=z) (q:=fun y l=>nK (nat_lit 3) y z fun a=>l1 l z fun y l=>nK (nat_lit 3) y z fun b=>l1 l z fun y l=>l0 l z (nK (nat_lit 4) y z fun c=>q A s a b c))with e|⟨y,r,rfl,e⟩
 · exact .inl e
 rw[e]
 rcases nK_or (kd:=3) (v:=y) (z:=z) (q:=fun a=>l1 r z fun y l=>nK (nat_lit 3) y z fun b=>l1 l z fun y l=>l0 l z (nK (nat_lit 4) y z fun c=>q A s a b c))with e|⟨a,rfl,e⟩
 · exact .inl e
 rw[e]
 rcases l1_or (l:=r) (z:=z) (q:=fun y l=>nK (nat_lit 3) y z fun b=>l1 l z fun y l=>l0 l z (nK (nat_lit 4) y z fun c=>q A s a b c))with e|⟨y,r,rfl,e⟩
 · exact .inl e
 rw[e]
 rcases nK_or (kd:=3) (v:=y) (z:=z) (q:=fun b=>l1 r z fun y l=>l0 l z (nK (nat_lit 4) y z fun c=>q A s a b c))with e|⟨b,rfl,e⟩
 · exact .inl e
 rw[e]
 rcases l1_or (l:=r) (z:=z) (q:=fun y l=>l0 l z (nK (nat_lit 4) y z fun c=>q A s a b c))with e|⟨y,r,rfl,e⟩
 · exact .inl e
 rw[e]
 rcases l0_or (l:=r) (z:=z) (q:=nK (nat_lit 4) y z fun c=>q A s a b c)with e|⟨rfl,e⟩
 · exact .inl e
 rw[e]
 rcases nK_or (kd:=4) (v:=y) (z:=z) (q:=fun c=>q A s a b c)with e|⟨c,rfl,e⟩
 · exact .inl e
 exact .inr ⟨A,s,a,b,c,rfl,hs,e⟩
theorem sh_p333 {q:Nat→AS→Nat→Nat→Nat→R}:(l1 l z fun v l=>pA v h z fun A s=>l1 l z fun y l=>nK (nat_lit 3) y z fun a=>l1 l z fun y l=>nK (nat_lit 3) y z fun b=>l1 l z fun y l=>l0 l z (nK (nat_lit 3) y z fun c=>q A s a b c))=z∨∃A s a b c,l=[.p A 0,.i 3 a,.i 3 b,.i 3 c]∧hget h A=.sp s∧(l1 l z fun v l=>pA v h z fun A s=>l1 l z fun y l=>nK (nat_lit 3) y z fun a=>l1 l z fun y l=>nK (nat_lit 3) y z fun b=>l1 l z fun y l=>l0 l z (nK (nat_lit 3) y z fun c=>q A s a b c))=q A s a b c:=by
 rcases l1_or (l:=l) (z:=z) (q:=fun v l=>pA v h z fun A s=>l1 l z fun y l=>nK (nat_lit 3) y z fun a=>l1 l z fun y l=>nK (nat_lit 3) y z fun b=>l1 l z fun y l=>l0 l z (nK (nat_lit 3) y z fun c=>q A s a b c))with e|⟨v,r,rfl,e⟩
 · exact .inl e
 rw[e]
 rcases pA_or (v:=v) (h:=h) (z:=z) (q:=fun A s=>l1 r z fun y l=>nK (nat_lit 3) y z fun a=>l1 l z fun y l=>nK (nat_lit 3) y z fun b=>l1 l z fun y l=>l0 l z (nK (nat_lit 3) y z fun c=>q A s a b c))with e|⟨A,s,rfl,hs,e⟩
 · exact .inl e
 rw[e]
 rcases l1_or (l:=r) (z:=z) (q:=fun y l=>nK (nat_lit 3) y z fun a=>l1 l z fun y l=>nK (nat_lit 3) y z fun b=>l1 l z fun y l=>l0 l z (nK (nat_lit 3) y z fun c=>q A s a b c))with e|⟨y,r,rfl,e⟩
 · exact .inl e
 rw[e]
 rcases nK_or (kd:=3) (v:=y) (z:=z) (q:=fun a=>l1 r z fun y l=>nK (nat_lit 3) y z fun b=>l1 l z fun y l=>l0 l z (nK (nat_lit 3) y z fun c=>q A s a b c))with e|⟨a,rfl,e⟩
 · exact .inl e
 rw[e]
 rcases l1_or (l:=r) (z:=z) (q:=fun y l=>nK (nat_lit 3) y z fun b=>l1 l z fun y l=>l0 l z (nK (nat_lit 3) y z fun c=>q A s a b c))with e|⟨y,r,rfl,e⟩
 · exact .inl e
 rw[e]
 rcases nK_or (kd:=3) (v:=y) (z:=z) (q:=fun b=>l1 r z fun y l=>l0 l z (nK (nat_lit 3) y z fun c=>q A s a b c))with e|⟨b,rfl,e⟩
 · exact .inl e
 rw[e]
 rcases l1_or (l:=r) (z:=z) (q:=fun y l=>l0 l z (nK (nat_lit 3) y z fun c=>q A s a b c))with e|⟨y,r,rfl,e⟩
 · exact .inl e
 rw[e]
 rcases l0_or (l:=r) (z:=z) (q:=nK (nat_lit 3) y z fun c=>q A s a b c)with e|⟨rfl,e⟩
 · exact .inl e
 rw[e]
 rcases nK_or (kd:=3) (v:=y) (z:=z) (q:=fun c=>q A s a b c)with e|⟨c,rfl,e⟩
 · exact .inl e
 exact .inr ⟨A,s,a,b,c,rfl,hs,e⟩
theorem sh_p3s {q:Nat→AS→Nat→List Nat→R}:(l1 l z fun v l=>pA v h z fun A s=>l1 l z fun y l=>nK (nat_lit 3) y z fun a=>l1 l z fun y l=>l0 l z (asSz y z fun b=>q A s a b))=z∨∃A s a b,l=[.p A 0,.i 3 a,.s b]∧hget h A=.sp s∧(l1 l z fun v l=>pA v h z fun A s=>l1 l z fun y l=>nK (nat_lit 3) y z fun a=>l1 l z fun y l=>l0 l z (asSz y z fun b=>q A s a b))=q A s a b:=by
 rcases l1_or (l:=l) (z:=z) (q:=fun v l=>pA v h z fun A s=>l1 l z fun y l=>nK (nat_lit 3) y z fun a=>l1 l z fun y l=>l0 l z (asSz y z fun b=>q A s a b))with e|⟨v,r,rfl,e⟩
 · exact .inl e
 rw[e]
 rcases pA_or (v:=v) (h:=h) (z:=z) (q:=fun A s=>l1 r z fun y l=>nK (nat_lit 3) y z fun a=>l1 l z fun y l=>l0 l z (asSz y z fun b=>q A s a b))with e|⟨A,s,rfl,hs,e⟩
 · exact .inl e
 rw[e]
 rcases l1_or (l:=r) (z:=z) (q:=fun y l=>nK (nat_lit 3) y z fun a=>l1 l z fun y l=>l0 l z (asSz y z fun b=>q A s a b))with e|⟨y,r,rfl,e⟩
 · exact .inl e
 rw[e]
 rcases nK_or (kd:=3) (v:=y) (z:=z) (q:=fun a=>l1 r z fun y l=>l0 l z (asSz y z fun b=>q A s a b))with e|⟨a,rfl,e⟩
 · exact .inl e
 rw[e]
 rcases l1_or (l:=r) (z:=z) (q:=fun y l=>l0 l z (asSz y z fun b=>q A s a b))with e|⟨y,r,rfl,e⟩
 · exact .inl e
 rw[e]
 rcases l0_or (l:=r) (z:=z) (q:=asSz y z fun b=>q A s a b)with e|⟨rfl,e⟩
 · exact .inl e
 rw[e]
 rcases asSz_or (v:=y) (z:=z) (q:=fun b=>q A s a b)with e|⟨b,rfl,e⟩
 · exact .inl e
 exact .inr ⟨A,s,a,b,rfl,hs,e⟩
end
end Go.Proofs.YtpkaehpllldcmaaGreatDoor.Bt
