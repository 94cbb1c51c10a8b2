/- TkA, BitsMath, BitsWalksA, BitsWalksB. -/
import Derived.Deep.RegionHeld3
import Derived.Deep.RegionWith
import Derived.WalkKit
import Derived.Lib.Hide
import GoSem.Claim
import Derived.Test.YtpkaehpllldcmaaGreatDoorRows
import Derived.Below
import Derived.BigQuiet
import Derived.Deep.QuietTactic
import Derived.Outline

namespace Go.Proofs.YtpkaehpllldcmaaGreatDoor.Bt
open Go Go.RowKit
abbrev iV (x : Int) : Value := .int .i64 x
abbrev aD (b k : Nat) : Addr := ⟨b, k, none⟩
abbrev pT (b : Nat) : Value := .pointer (some ⟨b, 0, none⟩)
theorem eX {α : Sort _} (a : α) : ∃ x, a = x := ⟨a, rfl⟩
theorem hid {p : Prop} (h : p) : Hid p := Lib.hid h
theorem apu {α : Type} : type_of% (@List.getElem_toArray α) ∧ type_of% (@List.getElem_cons_zero α) ∧ type_of% (@List.getElem_cons_succ α) ∧ type_of% (@List.setIfInBounds_toArray α) ∧ type_of% (@List.set_cons_zero α) ∧ type_of% (@List.set_cons_succ α) := ⟨@List.getElem_toArray α, @List.getElem_cons_zero α, @List.getElem_cons_succ α, @List.setIfInBounds_toArray α, @List.set_cons_zero α, @List.set_cons_succ α⟩
theorem tk {P : Program} {ops : Array Oper} {Q : Exit → Act → World → Prop} {md : Region.Mode} {S : World → Prop} {oi : Oper} {fuel : Nat} {listed l' : Array Bool} {a a' : Act} {w : World} (i : Nat) (v : Value) (hi : ops[i]? = some oi)
    (hS : S w) (hy : ∀ w, S w → (execOp a.eval oi).run P w = .ok (.value v) w) (h : wpAnyH P md ops Q S fuel l' a' w)
    (hs : Region.noSelect ops = true := by kernel_rfl) (hf : Region.free md ops listed i = true := by kernel_rfl) (hr : (Region.ready md ops listed).contains i = true := by kernel_rfl)
    (hQ : ∀ c a w, Q (.panic c) (a.put oi.dst v) w → Q (.panic c) a w := by exact fun _ _ _ h => h) (hw : Region.wanted oi (yielded ops a.tmps) = true := by rfl) (hl : listed.setIfInBounds i true = l' := by rfl)
    (he : a.put oi.dst v = a' := by ((simp only [Act.put, List.getElem_toArray, List.getElem_cons_zero, List.getElem_cons_succ, List.setIfInBounds_toArray, List.set_cons_zero, List.set_cons_succ]) <;> rfl)) : wpAnyH P md ops Q S (fuel + 1) listed a w :=
  wpAnyH_take hi hs hf hr hQ (Or.inl ⟨hw, hy⟩) hS (by rw [hl, he]; exact h)
theorem tu {P : Program} {ops : Array Oper} {Q : Exit → Act → World → Prop} {md : Region.Mode} {S : World → Prop} {oi : Oper} {fuel : Nat} {listed l' : Array Bool} {a a' : Act} {w : World} (i : Nat) (hi : ops[i]? = some oi)
    (hS : S w) (h : wpAnyH P md ops Q S fuel l' a' w)
    (hs : Region.noSelect ops = true := by kernel_rfl) (hf : Region.free md ops listed i = true := by kernel_rfl) (hr : (Region.ready md ops listed).contains i = true := by kernel_rfl)
    (hQ : ∀ c a w, Q (.panic c) (a.put oi.dst undef) w → Q (.panic c) a w := by exact fun _ _ _ h => h) (hw : Region.wanted oi (yielded ops a.tmps) = false := by rfl) (hl : listed.setIfInBounds i true = l' := by rfl)
    (he : a.put oi.dst undef = a' := by ((simp only [Act.put, List.getElem_toArray, List.getElem_cons_zero, List.getElem_cons_succ, List.setIfInBounds_toArray, List.set_cons_zero, List.set_cons_succ]) <;> rfl)) : wpAnyH P md ops Q S (fuel + 1) listed a w :=
  wpAnyH_take hi hs hf hr hQ (Or.inr ⟨hw, rfl⟩) hS (by rw [hl, he]; exact h)
theorem rd {P : Program} {ops : Array Oper} {Q : Exit → Act → World → Prop} {md : Region.Mode} {S : World → Prop} {fuel : Nat} {listed : Array Bool} {a : Act} {w : World} (rs : List Nat)
    (h : AllReadyH P md ops Q S fuel listed a w rs) (hr : Region.ready md ops listed = rs := by kernel_rfl) (hne : rs ≠ [] := by simp) : wpAnyH P md ops Q S (fuel + 1) listed a w := wpAnyH_ready hr hne h
end Go.Proofs.YtpkaehpllldcmaaGreatDoor.Bt
section
namespace Go.Proofs.YtpkaehpllldcmaaGreatDoor.Bt
open Go
def cnt (es:List Nat) (x:Int):Nat:=es.countP (fun(e:Nat)=>decide ((e:Int)<x))
def insB (k:Nat):Bool:=decide (k%2=1)
def mem (es:List Nat) (i:Int):Bool:=insB (cnt es (i+1))
def Rising (es:List Nat):Prop:=es.Pairwise (· <·)
structure Good (L:Nat) (es:List Nat):Prop where
 rising:Rising es
 even:es.length%2=0
 le:∀e∈es,e≤L
 small:L≤1048576
theorem cnt_nil (x:Int):cnt [] x=0:=rfl
theorem cnt_cons (e:Nat) (es:List Nat) (x:Int):cnt (e::es) x=(if(e:Int)<x then 1 else 0)+cnt es x:=by
 unfold cnt;rw[List.countP_cons];by_cases h:(e:Int)<x<;>simp[h];omega
theorem cnt_append (a b:List Nat) (x:Int):cnt (a++b) x=cnt a x+cnt b x:=by unfold cnt;rw[List.countP_append]
theorem cnt_le (es:List Nat) (x:Int):cnt es x≤es.length:=List.countP_le_length
theorem cnt_all {es:List Nat} {x:Int} (h:∀e∈es,(e:Int)<x):cnt es x=es.length:=by
 unfold cnt;rw[List.countP_eq_length];intro e he;simpa using h e he
theorem cnt_none {es:List Nat} {x:Int} (h:∀e∈es,x≤(e:Int)):cnt es x=0:=by
 unfold cnt;rw[List.countP_eq_zero];intro e he;have:=h e he;simp;omega
theorem cnt_mono (es:List Nat) {x y:Int} (h:x≤y):cnt es x≤cnt es y:=by
 unfold cnt;apply List.countP_mono_left;intro e _ he;simp at he⊢;omega
theorem rising_get {es:List Nat} (h:Rising es) {i j:Nat} (hij:i<j) (hj:j<es.length):es.getD i 0<es.getD j 0:=by
 have:=List.pairwise_iff_getElem.1 h i j (by omega) hj hij
 rw[List.getD_eq_getElem?_getD,List.getD_eq_getElem?_getD,List.getElem?_eq_getElem (by omega),List.getElem?_eq_getElem hj]
 simpa using this
theorem cnt_of {es:List Nat} {x:Int} {k:Nat} (hk:k≤es.length) (h1:∀i,i<k→(es.getD i 0:Int)<x) (h2:∀i,k≤i→i<es.length→x≤(es.getD i 0:Int)):cnt es x=k:=by
 have e:es=es.take k++es.drop k:=(List.take_append_drop k es).symm
 rw[e,cnt_append,cnt_all,cnt_none]
 · simp;omega
 · intro e he
   obtain⟨i,hi,rfl⟩:=List.getElem_of_mem he
   have:=h2 (k+i) (by omega) (by simp at hi;omega)
   rw[List.getElem_drop]
   rw[List.getD_eq_getElem?_getD,List.getElem?_eq_getElem (by simp at hi;omega)]at this
   simpa using this
 · intro e he
   obtain⟨i,hi,rfl⟩:=List.getElem_of_mem he
   have:=h1 i (by simp at hi;omega)
   rw[List.getElem_take]
   rw[List.getD_eq_getElem?_getD,List.getElem?_eq_getElem (by simp at hi;omega)]at this
   simpa using this
theorem take_cnt {es:List Nat} (h:Rising es) (x:Int):(∀e∈es.take (cnt es x),(e:Int)<x)∧(∀e∈es.drop (cnt es x),x≤(e:Int)):=by
 induction es with
 |nil=>simp
 |cons a r ih=>
  have hr:Rising r:=(List.pairwise_cons.1 h).2
  have ha:=(List.pairwise_cons.1 h).1
  rw[cnt_cons]
  by_cases hx:(a:Int)<x
  · rw[if_pos hx,Nat.add_comm]
    obtain⟨h1,h2⟩:=ih hr
    exact⟨fun e he=>by
     rw[List.take_succ_cons]at he
     rcases List.mem_cons.1 he with rfl|he
     · exact hx
     · exact h1 e he,h2⟩
  · rw[if_neg hx]
    have hz:cnt r x=0:=cnt_none fun e he=>by have:=ha e he;omega
    rw[hz]
    exact⟨by simp,fun e he=>by
     rcases List.mem_cons.1 he with rfl|he
     · omega
     · have:=ha e he;omega⟩
theorem get_lt {es:List Nat} (h:Rising es) {x:Int} {i:Nat} (hi:i<cnt es x):(es.getD i 0:Int)<x:=by
 have hl:=cnt_le es x
 apply(take_cnt h x).1
 rw[List.getD_eq_getElem?_getD,List.getElem?_eq_getElem (by omega)]
 simp only[Option.getD_some]
 have:(es.take (cnt es x))[i]'(by simp;omega)=es[i]:=List.getElem_take
 rw[←this];exact List.getElem_mem _
theorem get_ge {es:List Nat} (h:Rising es) {x:Int} {i:Nat} (hi:cnt es x≤i) (hl:i<es.length):x≤(es.getD i 0:Int):=by
 apply(take_cnt h x).2
 rw[List.getD_eq_getElem?_getD,List.getElem?_eq_getElem (by omega)]
 simp only[Option.getD_some]
 have:(es.drop (cnt es x))[i-cnt es x]'(by simp;omega)=es[i]:=by rw[List.getElem_drop];congr 1;omega
 rw[←this];exact List.getElem_mem _
theorem insB_add (a b:Nat):insB (a+b)=(insB a !=insB b):=by
 unfold insB
 rcases Nat.mod_two_eq_zero_or_one a with h|h<;>rcases Nat.mod_two_eq_zero_or_one b with g|g<;>simp[Nat.add_mod,h,g]
theorem insB_even {k:Nat} (h:k%2=0):insB k=false:=by unfold insB;simp;omega
theorem even_of {k:Nat} (h:insB k=false):k%2=0:=by unfold insB at h;simp at h;omega
def laidE (es:List Nat) (fr n:Nat) (inn:Bool):List Nat:=
 es.take (cnt es fr)++((if insB (cnt es fr) !=inn then[fr]else[])++((if insB (cnt es (fr+n+1)) !=inn then[fr+n]else[])++es.drop (cnt es (fr+n+1))))
theorem cnt_laid {es:List Nat} (h:Rising es) (fr n:Nat) (inn:Bool) (x:Int):
 insB (cnt (laidE es fr n inn) x)=if x≤fr then insB (cnt es x)else if x≤fr+n then inn else insB (cnt es x):=by
 have hb:=take_cnt h fr
 have hu:=take_cnt h (fr+n+1)
 have hs:∀y,cnt es x=cnt (es.take (cnt es y)) x+cnt (es.drop (cnt es y)) x:=fun y=>by rw[←cnt_append,List.take_append_drop]
 have hlb:=cnt_le es fr
 have hlu:=cnt_le es (fr+n+1)
 unfold laidE
 rw[cnt_append,cnt_append,cnt_append]
 by_cases h1:x≤fr
 · rw[if_pos h1,hs fr]
   have z1:cnt (es.drop (cnt es fr)) x=0:=cnt_none fun e he=>by have:=hb.2 e he;omega
   have z2:cnt (es.drop (cnt es (fr+n+1))) x=0:=cnt_none fun e he=>by have:=hu.2 e he;omega
   have z3:cnt (if insB (cnt es fr) !=inn then[fr]else[]) x=0:=cnt_none fun e he=>by split at he<;>simp at he;omega
   have z4:cnt (if insB (cnt es (fr+n+1)) !=inn then[fr+n]else[]) x=0:=cnt_none fun e he=>by split at he<;>simp at he;omega
   rw[z1,z2,z3,z4]
 · rw[if_neg h1]
   have z1:cnt (es.take (cnt es fr)) x=cnt es fr:=by
    rw[cnt_all fun e he=>by have:=hb.1 e he;omega];simp;omega
   have z3:insB (cnt es fr+cnt (if insB (cnt es fr) !=inn then[fr]else[]) x)=inn:=by
    rw[insB_add]
    have hlt:(fr:Int)<x:=by omega
    cases hi:insB (cnt es fr)<;>cases inn<;>simp[cnt_nil,cnt_cons,insB,hlt]
   rw[z1,←Nat.add_assoc,insB_add,z3]
   by_cases h2:x≤fr+n
   · rw[if_pos h2]
     have z2:cnt (es.drop (cnt es (fr+n+1))) x=0:=cnt_none fun e he=>by have:=hu.2 e he;omega
     have z4:cnt (if insB (cnt es (fr+n+1)) !=inn then[fr+n]else[]) x=0:=cnt_none fun e he=>by split at he<;>simp at he;omega
     rw[z2,z4];simp[insB]
   · rw[if_neg h2,hs (fr+n+1)]
     have z2:cnt (es.take (cnt es (fr+n+1))) x=cnt es (fr+n+1):=by
      rw[cnt_all fun e he=>by have:=hu.1 e he;omega];simp;omega
     rw[z2,insB_add,insB_add]
     have hlt:(fr:Int)+n<x:=by omega
     cases hi:insB (cnt es (fr+n+1))<;>cases inn<;>cases insB (cnt (es.drop (cnt es (fr+n+1))) x)<;>simp[cnt_nil,cnt_cons,insB,hlt]
theorem laid_good {L:Nat} {es:List Nat} (g:Good L es) {fr n:Nat} (hn:0<n) (hl:fr+n≤L) (inn:Bool):Good L (laidE es fr n inn):=by
 have hb:=take_cnt g.rising fr
 have hu:=take_cnt g.rising (fr+n+1)
 have hle:∀e∈laidE es fr n inn,e≤L:=by
  intro e he
  unfold laidE at he
  rcases List.mem_append.1 he with he|he
  · exact g.le e (List.mem_of_mem_take he)
  · rcases List.mem_append.1 he with he|he
    · split at he<;>simp at he;omega
    · rcases List.mem_append.1 he with he|he
      · split at he<;>simp at he;omega
      · exact g.le e (List.mem_of_mem_drop he)
 refine⟨?_,?_,hle,g.small⟩
 · unfold laidE Rising
   rw[List.pairwise_append,List.pairwise_append,List.pairwise_append]
   refine⟨g.rising.sublist (List.take_sublist _ _),⟨by split<;>simp,⟨by split<;>simp,g.rising.sublist (List.drop_sublist _ _),?_⟩,?_⟩,?_⟩
   · intro a ha b hb'
     have:=hu.2 b hb'
     split at ha<;>simp at ha;omega
   · intro a ha b hb'
     rcases List.mem_append.1 hb' with hb'|hb'
     · split at ha<;>simp at ha;split at hb'<;>simp at hb';omega
     · have:=hu.2 b hb'
       split at ha<;>simp at ha;omega
   · intro a ha b hb'
     have h1:=hb.1 a ha
     rcases List.mem_append.1 hb' with hb'|hb'
     · split at hb'<;>simp at hb';omega
     · rcases List.mem_append.1 hb' with hb'|hb'
       · split at hb'<;>simp at hb';omega
       · have:=hu.2 b hb';omega
 · have e:=cnt_laid g.rising fr n inn (L+1)
   rw[cnt_all fun e he=>by have:=hle e he;omega,if_neg (by omega),if_neg (by omega),cnt_all fun e he=>by have:=g.le e he;omega,insB_even g.even]at e
   exact even_of e
theorem mem_laid {es:List Nat} (h:Rising es) (fr n:Nat) (inn:Bool) (i:Int):
 mem (laidE es fr n inn) i=if fr≤i∧i<fr+n then inn else mem es i:=by
 unfold mem
 rw[cnt_laid h]
 by_cases h1:i+1≤fr
 · rw[if_pos h1,if_neg (by omega)]
 · rw[if_neg h1]
   by_cases h2:i+1≤fr+n
   · rw[if_pos h2,if_pos (by omega)]
   · rw[if_neg h2,if_neg (by omega)]
theorem good_len {L:Nat} {es:List Nat} (g:Good L es):es.length≤1048577:=by
 have key:∀(r:List Nat) (m:Nat),Rising r→(∀e∈r,m≤e)→(∀e∈r,e≤1048576)→r.length+m≤1048577∨r=[]:=by
  intro r
  induction r with
  |nil=>intro m _ _ _;right;rfl
  |cons a t ih=>
   intro m hr hm hle
   left
   have ha:=(List.pairwise_cons.1 hr).1
   have h1:=hm a (by simp)
   have h2:=hle a (by simp)
   rcases ih (a+1) (List.pairwise_cons.1 hr).2 (fun e he=>ha e he) (fun e he=>hle e (by simp[he]))with h|h
   · simp;omega
   · subst h;simp;omega
 rcases key es 0 g.rising (fun _ _=>Nat.zero_le _) (fun e he=>by have:=g.le e he;have:=g.small;omega)with h|h
 · omega
 · subst h;simp
end Go.Proofs.YtpkaehpllldcmaaGreatDoor.Bt
end
section
namespace Go.Proofs.YtpkaehpllldcmaaGreatDoor.Bt
open Go Go.RowKit
def RowAt (w:World) (p:Option Addr) (es:List Nat):Prop:=
 (p=none∧es=[])∨∃b off,p=some ⟨b,off,none⟩∧b<w.heap.size∧∀k,k<es.length→w.cell? ⟨b,off+k,none⟩=some (.int .i64 ((es.getD k 0:Nat):Int))
theorem RowAt.below {w w':World} {p:Option Addr} {es:List Nat} (h:RowAt w p es) (hb:Below w.heap.size w w'):RowAt w' p es:=by
 rcases h with h|⟨b,off,rfl,hlt,hc⟩
 · exact .inl h
 · exact .inr ⟨b,off,rfl,Nat.lt_of_lt_of_le hlt hb.size,fun k hk=>by rw[hb.cell (p:=⟨b,off+k,none⟩) hlt];exact hc k hk⟩
theorem inside_any (k:Nat) (hk:k≤9223372036854775807) (w:World):Calls Tryz.prog 90 #[.int .i64 k] w fun e w'=>e=.returned (.bool (insB k))∧w=w':=by
 unfold insB
 by_cases h:k%2=1
 · have h1:((k:Int)%2==1)=true:=beq_iff_eq.2 (by omega)
   have HR:Hid (decide (k%2=1)=true):=Lib.hid (by simpa using h)
   clear h
   go_enter Tryz.func90,Tryz.ntmps90
   go_wp2
   go_ret
   exact⟨by rw[HR.out];rfl,rfl⟩
 · have h1:((k:Int)%2==1)=false:=beq_eq_false_iff_ne.2 (by omega)
   have HR:Hid (decide (k%2=1)=false):=Lib.hid (by simpa using h)
   clear h
   go_enter Tryz.func90,Tryz.ntmps90
   go_wp2
   go_ret
   exact⟨by rw[HR.out];rfl,rfl⟩
theorem cmpNaN_any (x:Int) (w:World):Calls Tryz.prog 193 #[.int .i64 x] w fun e w'=>e=.returned (.bool false)∧w=w':=by
 go_enter Tryz.func193,Tryz.ntmps193
 go_wp2
 go_ret
 exact⟨rfl,rfl⟩
theorem slNaN_any (x:Int) (w:World):Calls Tryz.prog 156 #[.int .i64 x] w fun e w'=>e=.returned (.bool false)∧w=w':=by
 go_enter Tryz.func156,Tryz.ntmps156
 go_wp2
 go_ret
 exact⟨rfl,rfl⟩
theorem less_any (x y:Int) (w:World):Calls Tryz.prog 155 #[.int .i64 x,.int .i64 y] w fun e w'=>e=.returned (.bool (decide (x<y)))∧w=w':=by
 go_enter Tryz.func155,Tryz.ntmps155
 go_wp2_with (go_at_call 193;refine(cmpNaN_any _ _).mono ?_;rintro e w' ⟨rfl,rfl⟩)
 go_ret
 exact⟨rfl,rfl⟩
def Srch (n:Int) (w:World) (e:Ending) (w':World):Prop:=∃t:Bool,e=.returned (.tuple #[.int .i64 n,.bool t])∧w=w'
theorem search_some (b off cap:Nat) (es:List Nat) (x:Int) (w:World) (hr:Rising es) (hlen:es.length≤1048577)
 (hc:∀k,k<es.length→w.cell? ⟨b,off+k,none⟩=some (.int .i64 ((es.getD k 0:Nat):Int))):
 Calls Tryz.prog 126 #[.slice (some ⟨b,off,none⟩) es.length cap,.int .i64 x] w (Srch (cnt es x) w):=by
 have HC:=Lib.hid hc;clear hc
 go_enter Tryz.func126,Tryz.ntmps126
 go_wp2
 go_loop [7,8] (fun i j=>∃p q:Nat,p≤cnt es x∧cnt es x≤q∧q≤es.length∧i=.int .i64 p∧j=.int .i64 q) (fun i j=>(intOf j-intOf i).toNat)
 case atStart=>exact⟨0,es.length,by omega,cnt_le _ _,by omega,rfl,rfl⟩
 case round=>
  obtain⟨p,q,h1,h2,h3,rfl,rfl⟩:=hrel
  by_cases hlt:p<q
  · obtain⟨v,hv⟩:∃v:Nat,es.getD ((p+q)/2) 0=v:=⟨_,rfl⟩
    have hcell:w.cell? ⟨b,off+(p+q)/2,none⟩=some (.int .i64 (v:Int)):=by rw[←hv];exact HC.out _ (by omega)
    by_cases hx:(v:Int)<x
    · have hn:(p+q)/2+1≤cnt es x:=by
       refine Classical.byContradiction fun h=>?_
       have:=get_ge hr (x:=x) (i:=(p+q)/2) (by omega) (by omega)
       omega
      have HV:=Lib.hid hv;clear hv
      have hd:decide ((v:Int)<x)=true:=by simpa using hx
      go_wp2_with (go_at_call 155;refine(less_any _ _ _).mono ?_;rintro e w' ⟨rfl,rfl⟩)
      go_round
      case rel=>exact⟨(p+q)/2+1,q,hn,h2,h3,by go_num,rfl⟩
      case measure=>simp[intOf];omega
    · have hn:cnt es x≤(p+q)/2:=by
       refine Classical.byContradiction fun h=>?_
       have:=get_lt hr (x:=x) (i:=(p+q)/2) (by omega)
       omega
      have HV:=Lib.hid hv;clear hv
      have hd:decide ((v:Int)<x)=false:=by simpa using hx
      go_wp2_with (go_at_call 155;refine(less_any _ _ _).mono ?_;rintro e w' ⟨rfl,rfl⟩)
      go_round
      case rel=>exact⟨p,(p+q)/2,h1,hn,by omega,rfl,by go_num⟩
      case measure=>simp[intOf];omega
  · have hp:p=cnt es x:=by omega
    have HP:=Lib.hid hp;clear hp
    by_cases hl:p<es.length
    · obtain⟨v,hv⟩:∃v:Nat,es.getD p 0=v:=⟨_,rfl⟩
      have hcell:w.cell? ⟨b,off+p,none⟩=some (.int .i64 (v:Int)):=by rw[←hv];exact HC.out _ hl
      have HV:=Lib.hid hv;clear hv
      by_cases hx:(v:Int)=x
      · have hd:((v:Int)==x)=true:=beq_iff_eq.2 hx
        clear hx
        go_wp2_with (go_at_call 156;refine(slNaN_any _ _).mono ?_;rintro e w' ⟨rfl,rfl⟩)
        go_ret2
        exact⟨_,by rw[←HP.out];rfl,rfl⟩
      · have hd:((v:Int)==x)=false:=beq_eq_false_iff_ne.2 hx
        go_wp2_with (go_at_call 156;refine(slNaN_any _ _).mono ?_;rintro e w' ⟨rfl,rfl⟩)
        go_ret2
        exact⟨_,by rw[←HP.out];rfl,rfl⟩
    · go_wp2_with (go_at_call 156;refine(slNaN_any _ _).mono ?_;rintro e w' ⟨rfl,rfl⟩)
      go_ret2
      exact⟨_,by rw[←HP.out];rfl,rfl⟩
theorem search_none (p:Option Addr) (cap:Nat) (x:Int) (w:World):
 Calls Tryz.prog 126 #[.slice p 0 cap,.int .i64 x] w (Srch 0 w):=by
 go_enter Tryz.func126,Tryz.ntmps126
 go_wp2
 refine wp_loop_rounds 1 ?_;rw[rounds_succ]
 go_wp2
 go_ret2
 exact⟨_,rfl,rfl⟩
theorem search_any (p:Option Addr) (cap:Nat) (es:List Nat) (x:Int) (w:World) (hr:Rising es) (hlen:es.length≤1048577) (hrow:RowAt w p es) (n:Nat) (hn:n=es.length):
 Calls Tryz.prog 126 #[.slice p n cap,.int .i64 x] w (Srch (cnt es x) w):=by
 subst hn
 rcases hrow with⟨rfl,rfl⟩|⟨b,off,rfl,_,hc⟩
 · exact search_none none cap x w
 · exact search_some b off cap es x w hr hlen hc
end Go.Proofs.YtpkaehpllldcmaaGreatDoor.Bt
end
section
namespace Go.Proofs.YtpkaehpllldcmaaGreatDoor.Bt
open Go Go.RowKit
theorem edges_any (L:Nat) (p:Option Addr) (n cap:Nat) (es:List Nat) (x:Int) (w:World) (hr:Rising es) (hlen:es.length≤1048577) (hrow:RowAt w p es) (hn:n=es.length):
 Calls Tryz.prog 89 #[.agg #[.int .i64 L,.slice p n cap],.int .i64 x] w fun e w'=>e=.returned (.int .i64 (cnt es x))∧Below w.heap.size w w':=by
 have HN:=Lib.hid hn;clear hn
 go_enter Tryz.func89,Tryz.ntmps89
 go_wp2_with fail
 refine(search_any p cap es x _ hr hlen (hrow.below ((Below.refl _ _).alloc (Nat.le_refl _) _)) n HN.out).mono ?_
 rintro e w' ⟨t,rfl,rfl⟩
 go_wp2_with fail
 go_ret
 exact⟨rfl,(Below.refl _ _).alloc (Nat.le_refl _) _⟩
def withinB (L:Nat) (fr n:Int):Bool:=decide (0≤fr∧0≤n∧n≤L-fr)
theorem within_any (L:Nat) (hL:L≤1048576) (p:Option Addr) (m cap:Nat) (fr n:Int) (hf:fr≤9223372036854775807) (w:World):
 Calls Tryz.prog 87 #[.agg #[.int .i64 L,.slice p m cap],.int .i64 fr,.int .i64 n] w fun e w'=>e=.returned (.bool (withinB L fr n))∧Below w.heap.size w w':=by
 by_cases h1:0≤fr
 · by_cases h2:0≤n
   · have HR:Hid (withinB L fr n=decide (n≤L-fr)):=Lib.hid (by unfold withinB;simp[h1,h2])
     go_enter Tryz.func87,Tryz.ntmps87
     go_wp2_with fail
     go_ret
     exact⟨by rw[HR.out];rfl,(Below.refl _ _).alloc (Nat.le_refl _) _⟩
   · have HR:Hid (withinB L fr n=false):=Lib.hid (by unfold withinB;simp[h2])
     have hd:decide (0≤n)=false:=by simpa using h2
     go_enter Tryz.func87,Tryz.ntmps87
     go_wp2_with fail
     go_ret
     exact⟨by rw[HR.out];rfl,(Below.refl _ _).alloc (Nat.le_refl _) _⟩
 · have HR:Hid (withinB L fr n=false):=Lib.hid (by unfold withinB;simp[h1])
   have hd:decide (0≤fr)=false:=by simpa using h1
   go_enter Tryz.func87,Tryz.ntmps87
   go_wp2_with fail
   go_ret
   exact⟨by rw[HR.out];rfl,(Below.refl _ _).alloc (Nat.le_refl _) _⟩
theorem len_any (L:Nat) (p:Option Addr) (m cap:Nat) (w:World):
 Calls Tryz.prog 26 #[.agg #[.int .i64 L,.slice p m cap]] w fun e w'=>e=.returned (.int .i64 L)∧Below w.heap.size w w':=by
 go_enter Tryz.func26,Tryz.ntmps26
 go_wp2_with fail
 go_ret
 exact⟨rfl,(Below.refl _ _).alloc (Nat.le_refl _) _⟩
def lenN (x:Int):Nat:=(min (max x 0) 1048576).toNat
theorem new_any (x:Int) (w:World):
 Calls Tryz.prog 25 #[.int .i64 x] w fun e w'=>e=.returned (.agg #[.int .i64 (lenN x),.slice none 0 0])∧Below w.heap.size w w':=by
 by_cases h1:x<0
 · have HL:Hid ((lenN x:Int)=0):=Lib.hid (by unfold lenN;omega)
   go_enter Tryz.func25,Tryz.ntmps25
   go_wp2_with fail
   exact bodyPost_ret (v:=.agg #[.int .i64 0,.slice none 0 0]) (by simp[results,Tryz.results25,go_sem]) rfl ⟨by rw[HL.out],(Below.refl _ _).alloc (Nat.le_refl _) _⟩
 · by_cases h2:1048576<x
   · have HL:Hid ((lenN x:Int)=1048576):=Lib.hid (by unfold lenN;omega)
     go_enter Tryz.func25,Tryz.ntmps25
     go_wp2_with fail
     exact bodyPost_ret (v:=.agg #[.int .i64 1048576,.slice none 0 0]) (by simp[results,Tryz.results25,go_sem]) rfl ⟨by rw[HL.out],(Below.refl _ _).alloc (Nat.le_refl _) _⟩
   · have HL:Hid ((lenN x:Int)=x):=Lib.hid (by unfold lenN;omega)
     go_enter Tryz.func25,Tryz.ntmps25
     go_wp2_with fail
     exact bodyPost_ret (v:=.agg #[.int .i64 x,.slice none 0 0]) (by simp[results,Tryz.results25,go_sem]) rfl ⟨by rw[HL.out],(Below.refl _ _).alloc (Nat.le_refl _) _⟩
def hasB (L:Nat) (es:List Nat) (i:Int):Bool:=decide (0≤i∧i<L)&&mem es i
end Go.Proofs.YtpkaehpllldcmaaGreatDoor.Bt
end
