/- RkM, FrS. -/
import Derived.Test.YtpkaehpllldcmaaGreatDoorMoR
import Derived.Test.YtpkaehpllldcmaaGreatDoorMoO
section
namespace Go.Proofs.YtpkaehpllldcmaaGreatDoor.Bt
open Go Go.RowKit Go.Shelf
set_option linter.unusedVariables false
set_option linter.unusedSimpArgs false
def F2:Nat→Nat:=fP [8,8] 2
theorem F2_at:F2 0=0∧F2 1=8∧F2 2=16:=by decide
theorem rec2:Rec 2 F2:=rec_fP rfl (by decide) (by decide)
theorem ok2:okV [8,8]=.tuple #[.agg (recC 2 F2),.int .i64 0]:=rfl
structure Lk where
 i:Nat
 x:Nat
deriving DecidableEq
def Lk.ok (e:Lk):Prop:=e.i<18446744073709551616∧e.x<18446744073709551616
def lZ:Lk:=⟨0,0⟩
def lC (e:Lk):Array Value:=#[.int .u64 (e.i:Int),.int .u64 (e.x:Int)]
abbrev lV (e:Lk):Value:=.agg #[.int .u64 (e.i:Int),.int .u64 (e.x:Int)]
def lX (e:Lk):List Int:=[(e.i:Int),(e.x:Int)]
def rdE (m:Nat→UInt8) (a:Nat):Lk:=⟨numV m a 8,numV m (a+8) 8⟩
def laE (m:Nat→UInt8) (a:Nat) (e:Lk):Nat→UInt8:=putR m a F2 (lX e) 2
theorem rdE_ok (m:Nat→UInt8) (a:Nat):(rdE m a).ok:=by
 have h1:=numV_lt m a 8
 have h4:=numV_lt m (a+8) 8
 unfold Lk.ok rdE
 exact⟨by simpa using h1,by simpa using h4⟩
theorem rdE_congr {m m':Nat→UInt8} {a:Nat} (h:∀j,j<16→m (a+j)=m' (a+j)):rdE m a=rdE m' a:=by
 unfold rdE
 rw[numV_congr (m':=m') (a:=a) (k:=8) (fun j hj=>h j (by omega)),numV_congr (m':=m') (a:=a+8) (k:=8) (fun j hj=>by rw[Nat.add_assoc];exact h _ (by omega))]
theorem numV_shift {m m':Nat→UInt8} {a b:Nat}:∀k,(∀j,j<k→m (a+j)=m' (b+j))→numV m a k=numV m' b k:=by
 intro k
 induction k with
 |zero=>intro _;rfl
 |succ k ih=>intro h;unfold numV;rw[ih (fun j hj=>h j (by omega)),h k (by omega)]
theorem rdE_shift {m m':Nat→UInt8} {a b:Nat} (h:∀j,j<16→m (a+j)=m' (b+j)):rdE m a=rdE m' b:=by
 unfold rdE
 rw[numV_shift (m':=m') (a:=a) (b:=b) 8 (fun j hj=>h j (by omega)),numV_shift (m':=m') (a:=a+8) (b:=b+8) 8 (fun j hj=>by rw[Nat.add_assoc,Nat.add_assoc];exact h _ (by omega))]
theorem laE_out (m:Nat→UInt8) (a:Nat) (e:Lk) (i:Nat) (h:i<a∨a+16≤i):laE m a e i=m i:=by
 have hF:=F2_at
 unfold laE
 have key:∀j,j≤2→putR m a F2 (lX e) j i=m i:=by
  intro j
  induction j with
  |zero=>intro _;rfl
  |succ j ih=>
   intro hj
   show putM (putR m a F2 (lX e) j) (a+F2 j) (numB ((lX e).getD j 0) (F2 (j+1)-F2 j)) i=m i
   have:j=0∨j=1:=by omega
   rw[putM_out _ _ _ (by rw[numB_length];rcases this with rfl|rfl<;>simp only[hF.1,hF.2.1,hF.2.2,Nat.zero_add]<;>omega)]
   exact ih (by omega)
 exact key 2 (Nat.le_refl _)
theorem rd_la (m:Nat→UInt8) (a:Nat) (e:Lk) (he:e.ok):rdE (laE m a e) a=e:=by
 obtain⟨h0,h1,h2⟩:=F2_at
 have g:=fun k hk=>put_val rec2 m a (lX e) 2 (Nat.le_refl _) k hk
 have g0:=g 0 (by omega);have g1:=g 1 (by omega)
 simp only[h0,h1,h2,Nat.reduceAdd,Nat.reduceSub,Nat.add_zero]at g0 g1
 obtain⟨b0,b3⟩:=he
 obtain⟨i,x⟩:=e
 unfold rdE laE
 rw[g0,g1]
 simp only[lX,List.getD_cons_zero,List.getD_cons_succ,Int.toNat_natCast,Nat.reduceMul,Nat.reducePow]
 rw[Nat.mod_eq_of_lt b0,Nat.mod_eq_of_lt b3]
structure Ls (m:Nat→UInt8) (n:Nat) (L:List Lk):Prop where
 len:L.length≤n
 rd:∀j e,L[j]?=some e→rdE m (40+16*j)=e∧0<e.i∧0<e.x
 fin:∀j,L.length≤j→j<n→rdE m (40+16*j)=lZ
theorem rdE_zero {m:Nat→UInt8} {a:Nat} (h:∀j,j<16→m (a+j)=0):rdE m a=lZ:=by
 rw[rdE_congr (m':=fun _=>0) h]
 have z:∀a k,numV (fun _=>0) a k=0:=fun a k=>by
  induction k with
  |zero=>rfl
  |succ k ih=>unfold numV;rw[ih];simp
 unfold rdE;rw[z,z];rfl
theorem Ls.new (n:Nat):Ls (fun _=>0) n []:=⟨Nat.zero_le _,fun j e h=>by simp at h,fun j _ _=>rdE_zero fun _ _=>rfl⟩
def upE (m:Nat→UInt8) (i len:Nat):Nat→UInt8:=putM m (40+16*(i+1)) (getM m (40+16*i) (16*(len-i)))
def inE (m:Nat→UInt8) (i len:Nat) (e:Lk):Nat→UInt8:=laE (upE m i len) (40+16*i) e
theorem upE_out (m:Nat→UInt8) (i len b:Nat) (hi:i≤len) (h:b<40+16*(i+1)∨40+16*(len+1)≤b):upE m i len b=m b:=by
 unfold upE
 rw[putM_out _ _ _ (by rw[getM_length];omega)]
theorem upE_in (m:Nat→UInt8) (i len b:Nat) (hi:i≤len) (h:40+16*(i+1)≤b) (h2:b<40+16*(len+1)):upE m i len b=m (b-16):=by
 unfold upE
 obtain⟨c,rfl⟩:∃c,b=40+16*(i+1)+c:=⟨b-(40+16*(i+1)),by omega⟩
 rw[putM_in _ _ _ (by rw[getM_length];omega),getM_get _ _ _ _ (by omega)]
 congr 1;omega
def kx (L:List Lk) (x:Nat):Nat:=L.findIdx fun y=>decide (x<y.x)
theorem kx_le (L:List Lk) (x:Nat):kx L x≤L.length:=List.findIdx_le_length
theorem kx_at {L:List Lk} {x k:Nat} {e:Lk} (hk:L[k]?=some e) (hle:k≤kx L x) (h:x<e.x):kx L x=k:=by
 have hlt:=(List.getElem?_eq_some_iff.1 hk).1
 have he:=(List.getElem?_eq_some_iff.1 hk).2
 rcases Nat.lt_or_ge k (kx L x)with c|c
 · have:=List.not_of_lt_findIdx c
   simp at this
   rw[he]at this
   omega
 · omega
theorem kx_get {L:List Lk} {x:Nat} (h:kx L x<L.length):x<(L[kx L x]'h).x:=by
 have h2:=List.findIdx_getElem (p:=fun y:Lk=>decide (x<y.x)) (xs:=L) (w:=h)
 exact of_decide_eq_true h2
theorem kx_next {L:List Lk} {x k:Nat} {e:Lk} (hk:L[k]?=some e) (hle:k≤kx L x) (h:¬x<e.x):k+1≤kx L x:=by
 rcases Nat.lt_or_ge k (kx L x)with c|c
 · exact c
 · have he:kx L x=k:=by omega
   have hlt:=(List.getElem?_eq_some_iff.1 hk).1
   have h2:=kx_get (L:=L) (x:=x) (by omega)
   simp only[he]at h2
   rw[(List.getElem?_eq_some_iff.1 hk).2]at h2
   exact absurd h2 h
def kxV (L:List Lk) (x:Nat):Int:=if kx L x<L.length then(kx L x:Int)else -1
def inL (L:List Lk) (k:Nat) (e:Lk):List Lk:=L.take k++e::L.drop k
theorem inL_length (L:List Lk) (k:Nat) (e:Lk):(inL L k e).length=L.length+1:=by
 unfold inL;simp;omega
theorem inL_lt {L:List Lk} {k j:Nat} {e:Lk} (hk:k≤L.length) (h:j<k):(inL L k e)[j]?=L[j]?:=by
 unfold inL
 rw[List.getElem?_append_left (by rw[List.length_take];omega),List.getElem?_take,if_pos h]
theorem inL_eq {L:List Lk} {k:Nat} {e:Lk} (hk:k≤L.length):(inL L k e)[k]?=some e:=by
 unfold inL
 have hl:(L.take k).length=k:=by rw[List.length_take];omega
 rw[List.getElem?_append_right (by omega),hl,Nat.sub_self];rfl
theorem inL_gt {L:List Lk} {k j:Nat} {e:Lk} (hk:k≤L.length) (h:k<j):(inL L k e)[j]?=L[j-1]?:=by
 unfold inL
 have hl:(L.take k).length=k:=by rw[List.length_take];omega
 rw[List.getElem?_append_right (by omega),hl]
 obtain⟨c,rfl⟩:∃c,j=k+1+c:=⟨j-(k+1),by omega⟩
 rw[show k+1+c-k=c+1 by omega,List.getElem?_cons_succ,List.getElem?_drop]
 congr 1;omega
theorem Ls.insert {m:Nat→UInt8} {n:Nat} {L:List Lk} (h:Ls m n L) (k:Nat) (hk:k≤L.length) (hl:L.length<n) (e:Lk) (he:e.ok) (hp:0<e.i) (hx:0<e.x):Ls (inE m k L.length e) n (inL L k e):=by
 refine⟨by rw[inL_length];omega,fun j y hj=>?_,fun j h1 h2=>?_⟩
 · unfold inE
   rcases Nat.lt_trichotomy j k with c|rfl|c
   · rw[inL_lt hk c]at hj
     rw[rdE_congr (m':=m) (fun i hi=>by rw[laE_out _ _ _ _ (.inl (by omega)),upE_out _ _ _ _ hk (.inl (by omega))])]
     exact h.rd j y hj
   · rw[inL_eq hk]at hj
     cases hj
     exact⟨rd_la _ _ _ he,hp,hx⟩
   · rw[inL_gt hk c]at hj
     have hjl:=(List.getElem?_eq_some_iff.1 hj).1
     rw[rdE_shift (m':=m) (b:=40+16*(j-1)) (fun i hi=>by rw[laE_out _ _ _ _ (.inr (by omega)),upE_in _ _ _ _ hk (by omega) (by omega)];congr 1;omega)]
     exact h.rd (j-1) y hj
 · rw[inL_length]at h1
   unfold inE
   rw[rdE_congr (m':=m) (fun i hi=>by rw[laE_out _ _ _ _ (.inr (by omega)),upE_out _ _ _ _ hk (.inr (by omega))])]
   exact h.fin j (by omega) h2
def mvE (m:Nat→UInt8) (i len:Nat):Nat→UInt8:=putM m (40+16*i) (getM m (40+16*(i+1)) (16*(len-1-i)))
def rmE (m:Nat→UInt8) (i len:Nat):Nat→UInt8:=putM (mvE m i len) (40+16*(len-1)) (List.replicate 16 0)
theorem rmE_low (m:Nat→UInt8) (i len b:Nat) (hi:i<len) (h:b<40+16*i):rmE m i len b=m b:=by
 unfold rmE mvE
 rw[putM_out _ _ _ (by simp;omega),putM_out _ _ _ (by rw[getM_length];omega)]
theorem rmE_high (m:Nat→UInt8) (i len b:Nat) (hi:i<len) (h:40+16*len≤b):rmE m i len b=m b:=by
 unfold rmE mvE
 rw[putM_out _ _ _ (by simp;omega),putM_out _ _ _ (by rw[getM_length];omega)]
theorem rmE_mid (m:Nat→UInt8) (i len b:Nat) (hi:i<len) (h:40+16*i≤b) (h2:b<40+16*(len-1)):rmE m i len b=m (b+16):=by
 unfold rmE mvE
 rw[putM_out _ _ _ (by simp;omega)]
 obtain⟨c,rfl⟩:∃c,b=40+16*i+c:=⟨b-(40+16*i),by omega⟩
 rw[putM_in _ _ _ (by rw[getM_length];omega),getM_get _ _ _ _ (by omega)]
 congr 1;omega
theorem rmE_last (m:Nat→UInt8) (i len b:Nat) (hi:i<len) (h:40+16*(len-1)≤b) (h2:b<40+16*len):rmE m i len b=0:=by
 unfold rmE
 obtain⟨c,rfl⟩:∃c,b=40+16*(len-1)+c:=⟨b-(40+16*(len-1)),by omega⟩
 rw[putM_in _ _ _ (by simp;omega),List.getD_eq_getElem?_getD,List.getElem?_replicate,if_pos (by omega)];rfl
theorem Ls.remove {m:Nat→UInt8} {n:Nat} {L:List Lk} (h:Ls m n L) (i:Nat) (hi:i<L.length):Ls (rmE m i L.length) n (L.eraseIdx i):=by
 have hle:=h.len
 have hel:(L.eraseIdx i).length=L.length-1:=by rw[List.length_eraseIdx,if_pos hi]
 refine⟨by omega,fun j x hj=>?_,fun j h1 h2=>?_⟩
 · have hjl:=(List.getElem?_eq_some_iff.1 hj).1
   rw[List.getElem?_eraseIdx]at hj
   by_cases c:j<i
   · rw[if_pos c]at hj
     rw[rdE_congr (m':=m) (fun k hk=>rmE_low _ _ _ _ hi (by omega))]
     exact h.rd j x hj
   · rw[if_neg c]at hj
     rw[rdE_shift (m':=m) (b:=40+16*(j+1)) (fun k hk=>by rw[rmE_mid _ _ _ _ hi (by omega) (by omega)];congr 1;omega)]
     exact h.rd (j+1) x hj
 · by_cases c:j=L.length-1
   · exact rdE_zero fun k hk=>rmE_last _ _ _ _ hi (by omega) (by omega)
   · rw[rdE_congr (m':=m) (fun k hk=>rmE_high _ _ _ _ hi (by omega))]
     exact h.fin j (by omega) h2
def ixE (L:List Lk) (id:Nat):Nat:=L.findIdx fun e=>e.i==id
theorem ixE_le (L:List Lk) (id:Nat):ixE L id≤L.length:=List.findIdx_le_length
theorem ixE_at {L:List Lk} {id k:Nat} {e:Lk} (hk:L[k]?=some e) (hle:k≤ixE L id) (h:e.i=id):ixE L id=k:=by
 have hlt:=(List.getElem?_eq_some_iff.1 hk).1
 have he:=(List.getElem?_eq_some_iff.1 hk).2
 rcases Nat.lt_or_ge k (ixE L id)with c|c
 · have:=List.not_of_lt_findIdx c
   simp at this
   rw[he]at this
   exact absurd h this
 · omega
theorem ixE_get {L:List Lk} {id:Nat} (h:ixE L id<L.length):(L[ixE L id]'h).i=id:=by
 have h2:=List.findIdx_getElem (p:=fun e:Lk=>e.i==id) (xs:=L) (w:=h)
 exact beq_iff_eq.1 h2
theorem ixE_next {L:List Lk} {id k:Nat} {e:Lk} (hk:L[k]?=some e) (hle:k≤ixE L id) (h:e.i≠id):k+1≤ixE L id:=by
 rcases Nat.lt_or_ge k (ixE L id)with c|c
 · exact c
 · have he:ixE L id=k:=by omega
   have hlt:=(List.getElem?_eq_some_iff.1 hk).1
   have h2:=ixE_get (L:=L) (id:=id) (by omega)
   simp only[he]at h2
   rw[(List.getElem?_eq_some_iff.1 hk).2]at h2
   exact absurd h2 h
def ixV (L:List Lk) (id:Nat):Int:=if ixE L id<L.length then(ixE L id:Int)else -1
def hasL (L:List Lk) (id:Nat):Bool:=decide (ixE L id<L.length)
def Uq (L:List Lk):Prop:=(L.map Lk.i).Nodup
theorem Uq.erase {L:List Lk} (h:Uq L) (i:Nat):Uq (L.eraseIdx i):=by
 unfold Uq at*
 exact h.sublist ((List.eraseIdx_sublist L i).map _)
theorem Uq.insert {L:List Lk} (h:Uq L) (k:Nat) (e:Lk) (he:ixE L e.i=L.length):Uq (inL L k e):=by
 unfold Uq at*
 have hp:(inL L k e).map Lk.i|>.Perm (e.i::L.map Lk.i):=by
  rw[←List.map_cons]
  refine List.Perm.map _ ?_
  unfold inL
  have:=List.perm_middle (a:=e) (l₁:=L.take k) (l₂:=L.drop k)
  rwa [List.take_append_drop]at this
 rw[hp.nodup_iff,List.nodup_cons]
 refine⟨fun hm=>?_,h⟩
 obtain⟨y,hy,e1⟩:=List.mem_map.1 hm
 have:ixE L e.i<L.length:=by
  unfold ixE
  rw[List.findIdx_lt_length]
  exact⟨y,hy,by simp[e1]⟩
 omega
theorem Uq.filter {L:List Lk} (h:Uq L) (id:Nat):L.filter (fun y=>y.i !=id)=L.eraseIdx (ixE L id):=by
 induction L with
 |nil=>rfl
 |cons a t ih=>
  unfold Uq at h
  rw[List.map_cons,List.nodup_cons]at h
  by_cases c:a.i=id
  · have e1:ixE (a::t) id=0:=by unfold ixE;rw[List.findIdx_cons];simp[c]
    rw[e1,List.eraseIdx_cons_zero,List.filter_cons_of_neg (by simp[c])]
    refine List.filter_eq_self.2 fun y hy=>?_
    have:y.i≠a.i:=fun e=>h.1 (e▸List.mem_map_of_mem hy)
    rw[c]at this
    simpa using this
  · have e0:(a.i==id)=false:=by simpa using c
    have e1:ixE (a::t) id=ixE t id+1:=by unfold ixE;rw[List.findIdx_cons];simp only[e0];rfl
    rw[e1,List.eraseIdx_cons_succ,List.filter_cons_of_pos (by simpa using c),ih h.2]
def addE (L:List Lk) (n:Nat) (e:Lk):Int:=if e.i=0∨e.x=0 then 2 else if ixE L e.i<L.length then 9 else if L.length=n then 10 else 0
def addL (L:List Lk) (n:Nat) (e:Lk):List Lk:=if addE L n e=0 then inL L (kx L e.x) e else L
theorem addL_uq {L:List Lk} {n:Nat} {e:Lk} (h:Uq L):Uq (addL L n e):=by
 unfold addL
 by_cases c:addE L n e=0
 · rw[if_pos c]
   refine h.insert _ e ?_
   have h1:=ixE_le L e.i
   unfold addE at c
   split at c
   · omega
   · split at c
     · omega
     · omega
 · rw[if_neg c];exact h
def drR (L:List Lk) (id:Nat):Int:=if ixE L id<L.length then 0 else 8
def drL (L:List Lk) (id:Nat):List Lk:=L.eraseIdx (ixE L id)
theorem drL_none {L:List Lk} {id:Nat} (h:¬ixE L id<L.length):drL L id=L:=List.eraseIdx_of_length_le (by omega)
theorem drL_uq {L:List Lk} (h:Uq L) (id:Nat):Uq (drL L id):=h.erase _
def inJ (L:List Lk) (k j:Nat) (e:Lk):List Lk:=if j≤k then L.take j else inL (L.take j) k e
theorem inJ_zero (L:List Lk) (k:Nat) (e:Lk):inJ L k 0 e=[]:=by unfold inJ;rw[if_pos (Nat.zero_le _)];rfl
theorem inJ_lt {L:List Lk} {k j:Nat} {e y:Lk} (hy:L[j]?=some y) (h:j<k):inJ L k (j+1) e=inJ L k j e++[y]:=by
 unfold inJ
 rw[if_pos (by omega),if_pos (by omega),List.take_add_one,hy];rfl
theorem inJ_at {L:List Lk} {j:Nat} {e y:Lk} (hy:L[j]?=some y):inJ L j (j+1) e=(inJ L j j e++[e])++[y]:=by
 unfold inJ
 have hj:=(List.getElem?_eq_some_iff.1 hy).1
 have hl:(L.take j).length=j:=by rw[List.length_take];omega
 rw[if_neg (by omega),if_pos (Nat.le_refl _)]
 unfold inL
 rw[List.take_add_one,hy]
 simp only[Option.toList_some]
 rw[List.take_append_of_le_length (by omega),List.drop_append_of_le_length (by omega),List.take_of_length_le (by omega),List.drop_of_length_le (by omega)]
 simp
theorem inJ_gt {L:List Lk} {k j:Nat} {e y:Lk} (hy:L[j]?=some y) (h:k<j):inJ L k (j+1) e=inJ L k j e++[y]:=by
 unfold inJ
 have hj:=(List.getElem?_eq_some_iff.1 hy).1
 have hl:(L.take j).length=j:=by rw[List.length_take];omega
 rw[if_neg (by omega),if_neg (by omega)]
 unfold inL
 rw[List.take_add_one,hy]
 simp only[Option.toList_some]
 rw[List.take_append_of_le_length (by omega),List.drop_append_of_le_length (by omega)]
 simp
theorem inJ_end {L:List Lk} {e:Lk} (k:Nat) (hk:k≤L.length):inJ L k L.length e=if k=L.length then L else inL L k e:=by
 unfold inJ
 rw[List.take_length]
 by_cases c:k=L.length
 · rw[if_pos (by omega),if_pos c]
 · rw[if_neg (by omega),if_neg c]
theorem inL_end (L:List Lk) (e:Lk):inL L L.length e=L++[e]:=by unfold inL;simp
theorem inJ_length {L:List Lk} {k j:Nat} {e:Lk}:(inJ L k j e).length≤j+1:=by
 unfold inJ
 split
 · rw[List.length_take];omega
 · rw[inL_length,List.length_take];omega
theorem fl_next {L:List Lk} {j id:Nat} {e:Lk} (h:L[j]?=some e):(L.take (j+1)).filter (fun y=>y.i !=id)=if e.i=id then(L.take j).filter (fun y=>y.i !=id)else(L.take j).filter (fun y=>y.i !=id)++[e]:=by
 rw[List.take_add_one,h,List.filter_append]
 by_cases c:e.i=id
 · rw[if_pos c];simp[c]
 · rw[if_neg c];simp[c]
end Go.Proofs.YtpkaehpllldcmaaGreatDoor.Bt
end
section
namespace Go.Proofs.YtpkaehpllldcmaaGreatDoor.Bt
open Go Go.RowKit Go.Shelf
set_option linter.unusedVariables false
set_option linter.unusedSimpArgs false
structure Blk where
 r:Nat
 c:Array Value
 t:TypeId
def NotAr (t:TypeId):Prop:=t≠78∧t≠88∧t≠90
structure Fr (A:Nat) (w0:World) (L:List Blk) (x:World):Prop where
 bs:∀y∈L,x.heap[y.r]?=some (.cells y.c y.t (0,0))∧Mine A y.r x∧w0.heap.size≤y.r∧NotAr y.t
 nd:L.Pairwise fun a b=>a.r≠b.r
 wt:Went A w0 x
section
variable {A:Nat} {s:ASt} {w0 x y:World} {L:List Blk}
theorem Fr.start (A:Nat) (w:World):Fr A w [] w:=⟨(fun _ h=>by cases h),.nil,Went.refl _ _⟩
theorem Fr.new (h:Fr A w0 L x) (ho:On A s x) (c:Array Value) (t:TypeId) (ht:NotAr t):Fr A w0 (⟨x.heap.size,c,t⟩::L) (x.alloc (.cells c t)):=by
 have hb:=bel1 x (.cells c t)
 have hg:=Went.of_below ho hb
 refine⟨fun z hz=>?_,?_,h.wt.trans hg⟩
 · rcases List.mem_cons.1 hz with rfl|hz
   · exact⟨heap_new _ _,Mine.new ho _,h.wt.size,ht⟩
   · obtain⟨a1,a2,a3,a4⟩:=h.bs z hz
     exact⟨(hb.block _ a2.lt).trans a1,a2.went hg,a3,a4⟩
 · refine List.pairwise_cons.2 ⟨fun z hz=>?_,h.nd⟩
   have:=(h.bs z hz).2.1.lt
   show x.heap.size≠z.r
   omega
theorem Fr.went (h:Fr A w0 L x) (ho:On A s x) (hg:Went A x y):Fr A w0 L y:=
 ⟨fun z hz=>by
  obtain⟨a1,a2,a3,a4⟩:=h.bs z hz
  exact⟨hg.keep ho a1 a4.1 a4.2.1 a4.2.2,a2.went hg,a3,a4⟩,h.nd,h.wt.trans hg⟩
theorem Fr.below (h:Fr A w0 L x) (ho:On A s x) (hb:Below x.heap.size x y):Fr A w0 L y:=h.went ho (Went.of_below ho hb)
theorem Fr.at {L1 L2:List Blk} {b:Blk} (h:Fr A w0 (L1++b::L2) x):x.heap[b.r]?=some (.cells b.c b.t (0,0)):=(h.bs b (by simp)).1
theorem Fr.cell {L1 L2:List Blk} {b:Blk} (h:Fr A w0 (L1++b::L2) x) (k:Nat) {v:Value} (hv:b.c[k]?=some v):x.cell? ⟨b.r,k,none⟩=some v∧x.frozen? ⟨b.r,k,none⟩=false:=
 ⟨((cell_blk h.at k).1).trans hv,(cell_blk h.at k).2⟩
def stR (x:World) (B:Nat):List Value→Nat→World
 |[],_=>x
 |v::t,k=>stR (x.setCell ⟨B,k,none⟩ v) B t (k+1)
def setR (c:Array Value):List Value→Nat→Array Value
 |[],_=>c
 |v::t,k=>setR (c.setIfInBounds k v) t (k+1)
theorem Fr.at0 {R:Nat} {c:Array Value} {t:TypeId} {L2:List Blk} (h:Fr A w0 (⟨R,c,t⟩::L2) x):x.heap[R]?=some (.cells c t (0,0)):=Fr.at (L1:=[]) h
theorem Fr.cell0 {R:Nat} {c:Array Value} {t:TypeId} {L2:List Blk} (h:Fr A w0 (⟨R,c,t⟩::L2) x) (k:Nat) {v:Value} (hv:c[k]?=some v):x.cell? ⟨R,k,none⟩=some v:=(Fr.cell (L1:=[]) h k hv).1
theorem Fr.at1 {a0:Blk} {R:Nat} {c:Array Value} {t:TypeId} {L2:List Blk} (h:Fr A w0 (a0::⟨R,c,t⟩::L2) x):x.heap[R]?=some (.cells c t (0,0)):=Fr.at (L1:=[a0]) h
theorem Fr.cell1 {a0:Blk} {R:Nat} {c:Array Value} {t:TypeId} {L2:List Blk} (h:Fr A w0 (a0::⟨R,c,t⟩::L2) x) (k:Nat) {v:Value} (hv:c[k]?=some v):x.cell? ⟨R,k,none⟩=some v:=(Fr.cell (L1:=[a0]) h k hv).1
end
structure Fb (w0:World) (L:List Blk) (x:World):Prop where
 bs:∀y∈L,x.heap[y.r]?=some (.cells y.c y.t (0,0))∧w0.heap.size≤y.r
 nd:L.Pairwise fun a b=>a.r≠b.r
 be:Below w0.heap.size w0 x
section
variable {w0 x y:World} {L:List Blk}
theorem Fb.start (w:World):Fb w [] w:=⟨(fun _ h=>by cases h),.nil,Below.refl _ _⟩
theorem Fb.new (h:Fb w0 L x) (c:Array Value) (t:TypeId):Fb w0 (⟨x.heap.size,c,t⟩::L) (x.alloc (.cells c t)):=by
 have hb:=bel1 x (.cells c t)
 refine⟨fun z hz=>?_,?_,h.be.trans (hb.mono h.be.size)⟩
 · rcases List.mem_cons.1 hz with rfl|hz
   · exact⟨heap_new _ _,h.be.size⟩
   · obtain⟨a1,a3⟩:=h.bs z hz
     exact⟨(hb.block _ (Array.getElem?_eq_some_iff.1 a1).1).trans a1,a3⟩
 · refine List.pairwise_cons.2 ⟨fun z hz=>?_,h.nd⟩
   have:=(Array.getElem?_eq_some_iff.1 (h.bs z hz).1).1
   show x.heap.size≠z.r
   omega
theorem Fb.below (h:Fb w0 L x) (hb:Below x.heap.size x y):Fb w0 L y:=
 ⟨fun z hz=>by
  obtain⟨a1,a3⟩:=h.bs z hz
  exact⟨(hb.block _ (Array.getElem?_eq_some_iff.1 a1).1).trans a1,a3⟩,h.nd,h.be.trans (hb.mono h.be.size)⟩
theorem Fb.at {L1 L2:List Blk} {b:Blk} (h:Fb w0 (L1++b::L2) x):x.heap[b.r]?=some (.cells b.c b.t (0,0)):=(h.bs b (by simp)).1
theorem Fb.ge {L1 L2:List Blk} {b:Blk} (h:Fb w0 (L1++b::L2) x):w0.heap.size≤b.r:=(h.bs b (by simp)).2
theorem Fb.ne {L1 L2:List Blk} {b:Blk} (h:Fb w0 (L1++b::L2) x) {z:Blk} (hz:z∈L1∨z∈L2):z.r≠b.r:=by
 have:=List.pairwise_append.1 h.nd
 rcases hz with hz|hz
 · exact this.2.2 z hz b (List.mem_cons_self ..)
 · exact fun e=>(List.pairwise_cons.1 this.2.1).1 z hz e.symm
theorem Fb.set {L1 L2:List Blk} {b:Blk} (h:Fb w0 (L1++b::L2) x) (k:Nat) (v:Value):Fb w0 (L1++⟨b.r,b.c.setIfInBounds k v,b.t⟩::L2) (x.setCell ⟨b.r,k,none⟩ v):=by
 refine⟨fun z hz=>?_,?_,h.be.setCell (p:=⟨b.r,k,none⟩) h.ge v⟩
 · rcases List.mem_append.1 hz with hz|hz
   · obtain⟨a1,a3⟩:=h.bs z (List.mem_append.2 (.inl hz))
     exact⟨(set_other v (h.ne (.inl hz))).trans a1,a3⟩
   · rcases List.mem_cons.1 hz with rfl|hz
     · exact⟨heap_set h.at v,h.ge⟩
     · obtain⟨a1,a3⟩:=h.bs z (List.mem_append.2 (.inr (List.mem_cons_of_mem _ hz)))
       exact⟨(set_other v (h.ne (.inr hz))).trans a1,a3⟩
 · have:=List.pairwise_append.1 h.nd
   have h2:=List.pairwise_cons.1 this.2.1
   refine List.pairwise_append.2 ⟨this.1,List.pairwise_cons.2 ⟨h2.1,h2.2⟩,fun a ha c hc=>?_⟩
   rcases List.mem_cons.1 hc with rfl|hc
   · exact this.2.2 a ha b (List.mem_cons_self ..)
   · exact this.2.2 a ha c (List.mem_cons_of_mem _ hc)
theorem Fb.drop {L1 L2:List Blk} {b:Blk} (h:Fb w0 (L1++b::L2) x):Fb w0 (L1++L2) x:=
 ⟨fun z hz=>h.bs z (by
  rcases List.mem_append.1 hz with hz|hz
  · exact List.mem_append.2 (.inl hz)
  · exact List.mem_append.2 (.inr (List.mem_cons_of_mem _ hz))),h.nd.sublist (by simp),h.be⟩
theorem Fb.stores {L1 L2:List Blk} {R:Nat} {t:TypeId}:∀(vs:List Value) (k:Nat) (x:World) (c:Array Value),Fb w0 (L1++⟨R,c,t⟩::L2) x→Fb w0 (L1++⟨R,setR c vs k,t⟩::L2) (stR x R vs k)
 |[],_,_,_,h=>h
 |v::vs,k,x,c,h=>Fb.stores vs (k+1) _ _ (h.set k v)
theorem Fb.cell0 {R:Nat} {c:Array Value} {t:TypeId} {L2:List Blk} (h:Fb w0 (⟨R,c,t⟩::L2) x) (k:Nat) {v:Value} (hv:c[k]?=some v):x.cell? ⟨R,k,none⟩=some v:=((cell_blk (Fb.at (L1:=[]) h) k).1).trans hv
theorem Fb.cell1 {a0:Blk} {R:Nat} {c:Array Value} {t:TypeId} {L2:List Blk} (h:Fb w0 (a0::⟨R,c,t⟩::L2) x) (k:Nat) {v:Value} (hv:c[k]?=some v):x.cell? ⟨R,k,none⟩=some v:=((cell_blk (Fb.at (L1:=[a0]) h) k).1).trans hv
theorem Fb.free1 {a0:Blk} {R:Nat} {c:Array Value} {t:TypeId} {L2:List Blk} (h:Fb w0 (a0::⟨R,c,t⟩::L2) x) (k:Nat):x.frozen? ⟨R,k,none⟩=false:=(cell_blk (Fb.at (L1:=[a0]) h) k).2
theorem Fb.stores1 {a0:Blk} {R:Nat} {c:Array Value} {t:TypeId} {L2:List Blk} (h:Fb w0 (a0::⟨R,c,t⟩::L2) x) (vs:List Value) (k:Nat):Fb w0 (a0::⟨R,setR c vs k,t⟩::L2) (stR x R vs k):=Fb.stores (L1:=[a0]) vs k x c h
theorem Fb.drop1 {a0:Blk} {R:Nat} {c:Array Value} {t:TypeId} {L2:List Blk} (h:Fb w0 (a0::⟨R,c,t⟩::L2) x):Fb w0 (a0::L2) x:=Fb.drop (L1:=[a0]) h
end
end Go.Proofs.YtpkaehpllldcmaaGreatDoor.Bt
end
