import Derived.Test.YtpkaehpllldcmaaGreatDoorMoO
import Derived.Test.YtpkaehpllldcmaaGreatDoorMeG
namespace Go.Proofs.YtpkaehpllldcmaaGreatDoor.Bt
open Go Go.RowKit Go.Shelf Ev
set_option linter.unusedVariables false
set_option linter.unusedSimpArgs false
def asS:AS→ASt
 | .mk n es m r f=>⟨n,es,byM m,r,f⟩
theorem ArX.hold {A P n cap:Nat} {s:ASt} {ps:List (Option Nat)} {p:Option Addr} {x y:World} (h:ArX A s P ps p n cap x)
 (hk:∀k,OwnW A x k∨EdgW A x k→y.heap[k]?=x.heap[k]?):ArX A s P ps p n cap y:=
 {h with
  hd:=(hk _ (.inl ((ownW_iff h _).2 (.inl rfl)))).trans h.hd
  row:=(hk _ (.inl ((ownW_iff h _).2 (.inr (.inl rfl))))).trans h.row
  pg:=fun i b hb=>(hk _ (.inl ((ownW_iff h _).2 (.inr (.inr ⟨i,hb⟩))))).trans (h.pg i b hb)
  edges:=h.edges.keep fun b off e=>hk _ (.inr ((edgW_iff h _).2 ⟨off,e⟩))}
def arX:Spx where
 In A s w:=On A (asS s) w
 Ft A w k:=OwnW A w k∨EdgW A w k
 lt {A s w k} h hf:=by
  obtain⟨P,ps,p,n,cap,h⟩:=h
  rcases hf with hf|hf
  · rcases(ownW_iff h k).1 hf with rfl|rfl|⟨i,hi⟩
    · exact h.ltA
    · exact h.ltP
    · exact h.ltG hi
  · obtain⟨off,ho⟩:=(edgW_iff h k).1 hf
    exact h.ltE ho
 mv {A s w w'} h hk:=by
  obtain⟨P,ps,p,n,cap,h⟩:=h
  have h2:=h.hold hk
  exact⟨⟨P,ps,p,n,cap,h2⟩,fun k=>or_congr ((ownW_iff h2 k).trans (ownW_iff h k).symm) ((edgW_iff h2 k).trans (edgW_iff h k).symm)⟩
theorem trn_of {A:Nat} {w w':World} (k:Went A w w'):Trn arX A w w':=
 ⟨k.os,k.tape,k.output,k.size,fun i hi hn=>k.block i hi fun ho=>hn (.inl ho),fun i hi=>by
  rcases hi with hi|hi
  · rcases k.news i hi with h|h
    · exact .inl (.inl h)
    · exact .inr h
  · rcases k.edge i hi with h|h
    · exact .inl (.inr h)
    · exact .inr h⟩
theorem pgs_ex {x y:Nat}:∀(n:Nat) (es:List Nat) (lo:Nat),es.length≤n→(List.rec (motive:=fun _=>Bool→Nat→Nat→Nat→Bool) (fun _ _ _ _=>false) (fun e _ ih b lo x y=>Bool.rec (motive:=fun _=>Bool) (ih true e x y) (ifT (Nat.ble lo x) (ifT (Nat.blt y e) true (ih false e x y)) false) b) es false lo x y:Bool)=true→
 ∃pre l r u,es=pre++l::r::u∧pre.length%2=0∧l≤x∧y<r
 |_,[],_,_,h=>by cases h
 |_,[_],_,_,h=>by cases h
 |0,_::_::_,_,hn,_=>by simp at hn
 |n+1,l::r::u,lo,hn,h=>by
  have e:(ifT (Nat.ble l x) (ifT (Nat.blt y r) true (List.rec (motive:=fun _=>Bool→Nat→Nat→Nat→Bool) (fun _ _ _ _=>false) (fun e _ ih b lo x y=>Bool.rec (motive:=fun _=>Bool) (ih true e x y) (ifT (Nat.ble lo x) (ifT (Nat.blt y e) true (ih false e x y)) false) b) u false r x y)) false:Bool)=true:=h
  cases h1:Nat.ble l x with
  |false=>rw[h1]at e;cases e
  |true=>
   rw[h1]at e
   cases h2:Nat.blt y r with
   |true=>exact⟨[],l,r,u,rfl,rfl,Nat.le_of_ble_eq_true h1,by simpa[Nat.blt_eq]using h2⟩
   |false=>
    rw[h2]at e
    obtain⟨pre,l',r',u',q1,q2,q3,q4⟩:=pgs_ex n u r (by simp at hn;omega) e
    exact⟨l::r::pre,l',r',u',by rw[q1];rfl,by simp;omega,q3,q4⟩
theorem mem_of_pgs {es:List Nat} (hr:Rising es) {x y:Nat} (h:pgs es x y=true) (q:Nat) (h1:x≤q) (h2:q≤y):mem es (q:Int)=true:=by
 obtain⟨pre,l,r,u,rfl,hp,hl,hh⟩:=pgs_ex es.length es 0 (Nat.le_refl _) h
 unfold Rising at hr
 rw[List.pairwise_append]at hr
 obtain⟨_,hr2,hr3⟩:=hr
 rw[List.pairwise_cons,List.pairwise_cons]at hr2
 have c1:cnt (pre++l::r::u) ((q:Int)+1)=pre.length+1:=by
  unfold cnt
  rw[List.countP_append,List.countP_cons,List.countP_cons]
  have e1:pre.countP (fun(e:Nat)=>decide ((e:Int)<(q:Int)+1))=pre.length:=by
   rw[List.countP_eq_length]
   intro e he
   have:=hr3 e he l (by simp)
   simp;omega
  have e2:u.countP (fun(e:Nat)=>decide ((e:Int)<(q:Int)+1))=0:=by
   rw[List.countP_eq_zero]
   intro e he
   have:=hr2.2.1 e he
   simp;omega
  rw[e1,e2]
  simp[show(l:Int)<(q:Int)+1 by omega,show¬(r:Int)<(q:Int)+1 by omega]
 unfold mem
 rw[c1]
 unfold insB
 simp;omega
theorem thr_there {n:Nat} {es:List Nat} (g:Good n es) {a k:Nat} (h:thr n es a k=true):thereE n es a k=0:=by
 obtain⟨h1,h2⟩:=thr_iff h
 unfold thereE
 rw[if_pos]
 refine(there_iff g _ _).2 ⟨by omega,by omega,by omega,fun i hi1 hi2=>?_⟩
 rcases h2 with h2|h2
 · omega
 · have e:i/4096=((i.toNat/4096:Nat):Int):=by omega
   rw[e]
   refine mem_of_pgs g.rising h2 _ ?_ ?_
   · exact Nat.div_le_div_right (by omega)
   · exact Nat.div_le_div_right (by omega)
theorem whole_of {k:Nat} (h:whl k=true):wholeB k=true:=by
 rcases whl_iff h with rfl|rfl|rfl|rfl<;>rfl
theorem num_there {n:Nat} {es:List Nat} (g:Good n es) {a k:Nat} (h:thr n es a k=true) (hw:whl k=true):numE n es a k=0:=by
 unfold numE;rw[if_pos (whole_of hw),thr_there g h]
theorem numV_gW (m a:Nat):∀k,numV (byM m) a k=gW m a k
 |0=>by simp[numV,gW_eq,Nat.mod_one]
 |k+1=>by rw[gW_succ,numV,numV_gW m a k]
theorem putM_sW (m a k x:Nat) {l:List UInt8} (hl:l.length=k) (hx:x<2^(8*k)) (hb:∀j,j<k→byM x j=l.getD j 0):byM (sW m a k x)=putM (byM m) a l:=by
 funext i
 rw[byM_sW m a k x i hx]
 unfold putM
 rw[hl]
 split
 · rename_i h;exact hb _ (by omega)
 · rfl
theorem addr_yes {va vs a k:Nat} (h:a+k≤vs):addrV va vs a k=((va+a:Nat):Int):=by
 unfold addrV;rw[if_pos ⟨by omega,by omega,by omega⟩];omega
theorem byM_zero (j:Nat):byM 0 j=0:=by simp[byM]
section
variable {z:R} {h:HP} {l:List V}
end
end Go.Proofs.YtpkaehpllldcmaaGreatDoor.Bt
