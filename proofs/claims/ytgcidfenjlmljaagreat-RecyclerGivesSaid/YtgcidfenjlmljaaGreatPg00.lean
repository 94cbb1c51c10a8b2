import GoSem.Claim
import Derived.WalkKit
import Derived.Test.YtgcidfenjlmljaaGreatRows
import Derived.Below
import Derived.BigQuiet
import Derived.Deep.QuietTactic
import Derived.Lib.Hide
import Derived.Outline
import Derived.WalkSmall
import Derived.Deep.RegionHeld3
import Derived.Deep.DeepMust
import Derived.OwnWalk
import Derived.Maps.AppendAt
import Derived.Test.YtgcidfenjlmljaaGreatPgR
set_option linter.unusedVariables false
set_option linter.unusedSimpArgs false
set_option maxRecDepth 100000
set_option maxHeartbeats 16000000
namespace Go.Proofs.YtgcidfenjlmljaaGreat.Bt
section
open Go
def cnt (es:List Nat) (x:Int):Nat:=es.countP (fun(e:Nat)=>decide ((e:Int)<x))
def Zcm (k:Nat):Bool:=decide (k%2=1)
def mem (es:List Nat) (i:Int):Bool:=Zcm (cnt es (i+1))
def Zcc (es:List Nat):Prop:=es.Pairwise (· <·)
structure Good (L:Nat) (es:List Nat):Prop where
 rising:Zcc es
 even:es.length%2=0
 le:∀e∈es,e<=L
 small:L<=1048576
theorem Zem (x:Int):cnt [] x=0:=rfl
theorem Zdu (e:Nat) (es:List Nat) (x:Int):cnt (e::es) x=(if(e:Int)<x then 1 else 0)+cnt es x:=by
 unfold cnt;rw[List.countP_cons];by_cases h:(e:Int)<x<;>simp[h];omega
theorem Zew (a b:List Nat) (x:Int):cnt (a++b) x=cnt a x+cnt b x:=by unfold cnt;rw[List.countP_append]
theorem Zdo (es:List Nat) (x:Int):cnt es x<=es.length:=List.countP_le_length
theorem Zgl {es:List Nat} {x:Int} (h:∀e∈es,(e:Int)<x):cnt es x=es.length:=by
 unfold cnt;rw[List.countP_eq_length];intro e he;simpa using h e he
theorem Zcb {es:List Nat} {x:Int} (h:∀e∈es,x<=(e:Int)):cnt es x=0:=by
 unfold cnt;rw[List.countP_eq_zero];intro e he;have:=h e he;simp;omega
theorem Zio (es:List Nat) {x y:Int} (h:x<=y):cnt es x<=cnt es y:=by
 unfold cnt;apply List.countP_mono_left;intro e _ he;simp at he⊢;omega
theorem Zeq {es:List Nat} (h:Zcc es) {i j:Nat} (hij:i<j) (hj:j<es.length):es.getD i 0<es.getD j 0:=by
 have:=List.pairwise_iff_getElem.1 h i j (by omega) hj hij
 rw[List.getD_eq_getElem?_getD,List.getD_eq_getElem?_getD,List.getElem?_eq_getElem (by omega),List.getElem?_eq_getElem hj]
 simpa using this
theorem Zxl {es:List Nat} {x:Int} {k:Nat} (hk:k<=es.length) (h1:∀i,i<k->(es.getD i 0:Int)<x) (h2:∀i,k<=i->i<es.length->x<=(es.getD i 0:Int)):cnt es x=k:=by
 have e:es=es.take k++es.drop k:=(List.take_append_drop k es).symm;rw[e,Zew,Zgl,Zcb]
 · simp;omega
 · intro e he
   obtain⟨i,hi,rfl⟩:=List.getElem_of_mem he
   have:=h2 (k+i) (by omega) (by simp at hi;omega)
   rw[List.getElem_drop];rw[List.getD_eq_getElem?_getD,List.getElem?_eq_getElem (by simp at hi;omega)]at this
   simpa using this
 · intro e he
   obtain⟨i,hi,rfl⟩:=List.getElem_of_mem he
   have:=h1 i (by simp at hi;omega)
   rw[List.getElem_take];rw[List.getD_eq_getElem?_getD,List.getElem?_eq_getElem (by simp at hi;omega)]at this
   simpa using this
theorem Zf0 {es:List Nat} (h:Zcc es) (x:Int):(∀e∈es.take (cnt es x),(e:Int)<x)/\(∀e∈es.drop (cnt es x),x<=(e:Int)):=by
 induction es with
 |nil=>simp
 |cons a r ih=>
  have hr:Zcc r:=(List.pairwise_cons.1 h).2;have ha:=(List.pairwise_cons.1 h).1;rw[Zdu];by_cases hx:(a:Int)<x
  · rw[if_pos hx,Nat.add_comm]
    obtain⟨h1,h2⟩:=ih hr
    exact⟨fun e he=>by
     rw[List.take_succ_cons]at he;rcases List.mem_cons.1 he with rfl|he
     · exact hx
     · exact h1 e he,h2⟩
  · rw[if_neg hx]
    have hz:cnt r x=0:=Zcb fun e he=>by have:=ha e he;omega
    rw[hz]
    exact⟨by simp,fun e he=>by
     rcases List.mem_cons.1 he with rfl|he
     · omega
     · have:=ha e he;omega⟩
theorem Zwq {es:List Nat} (h:Zcc es) {x:Int} {i:Nat} (hi:i<cnt es x):(es.getD i 0:Int)<x:=by
 have hl:=Zdo es x
 apply(Zf0 h x).1
 rw[List.getD_eq_getElem?_getD,List.getElem?_eq_getElem (by omega)];simp only[Option.getD_some]
 have:(es.take (cnt es x))[i]'(by simp;omega)=es[i]:=List.getElem_take
 rw[<-this];exact List.getElem_mem _
theorem Ybz {es:List Nat} (h:Zcc es) {x:Int} {i:Nat} (hi:cnt es x<=i) (hl:i<es.length):x<=(es.getD i 0:Int):=by
 apply(Zf0 h x).2
 rw[List.getD_eq_getElem?_getD,List.getElem?_eq_getElem (by omega)];simp only[Option.getD_some]
 have:(es.drop (cnt es x))[i-cnt es x]'(by simp;omega)=es[i]:=by rw[List.getElem_drop];congr 1;omega
 rw[<-this];exact List.getElem_mem _
theorem Zeh (a b:Nat):Zcm (a+b)=(Zcm a !=Zcm b):=by
 unfold Zcm;rcases Nat.mod_two_eq_zero_or_one a with h|h<;>rcases Nat.mod_two_eq_zero_or_one b with g|g<;>simp[Nat.add_mod,h,g]
theorem Zjp {k:Nat} (h:k%2=0):Zcm k=false:=by unfold Zcm;simp;omega
theorem Yeb {k:Nat} (h:Zcm k=false):k%2=0:=by unfold Zcm at h;simp at h;omega
def Zcw (es:List Nat) (fr n:Nat) (inn:Bool):List Nat:=
 es.take (cnt es fr)++((if Zcm (cnt es fr) !=inn then[fr]else[])++((if Zcm (cnt es (fr+n+1)) !=inn then[fr+n]else[])++es.drop (cnt es (fr+n+1))))
theorem Zri {es:List Nat} (h:Zcc es) (fr n:Nat) (inn:Bool) (x:Int):
 Zcm (cnt (Zcw es fr n inn) x)=if x<=fr then Zcm (cnt es x)else if x<=fr+n then inn else Zcm (cnt es x):=by
 have hb:=Zf0 h fr;have hu:=Zf0 h (fr+n+1);have hs:∀y,cnt es x=cnt (es.take (cnt es y)) x+cnt (es.drop (cnt es y)) x:=fun y=>by rw[<-Zew,List.take_append_drop]
 have hlb:=Zdo es fr;have hlu:=Zdo es (fr+n+1);unfold Zcw;rw[Zew,Zew,Zew];by_cases h1:x<=fr
 · rw[if_pos h1,hs fr]
   have z1:cnt (es.drop (cnt es fr)) x=0:=Zcb fun e he=>by have:=hb.2 e he;omega
   have z2:cnt (es.drop (cnt es (fr+n+1))) x=0:=Zcb fun e he=>by have:=hu.2 e he;omega
   have z3:cnt (if Zcm (cnt es fr) !=inn then[fr]else[]) x=0:=Zcb fun e he=>by split at he<;>simp at he;omega
   have z4:cnt (if Zcm (cnt es (fr+n+1)) !=inn then[fr+n]else[]) x=0:=Zcb fun e he=>by split at he<;>simp at he;omega
   rw[z1,z2,z3,z4]
 · rw[if_neg h1]
   have z1:cnt (es.take (cnt es fr)) x=cnt es fr:=by
    rw[Zgl fun e he=>by have:=hb.1 e he;omega];simp;omega
   have z3:Zcm (cnt es fr+cnt (if Zcm (cnt es fr) !=inn then[fr]else[]) x)=inn:=by
    rw[Zeh];have hlt:(fr:Int)<x:=by omega
    cases hi:Zcm (cnt es fr)<;>cases inn<;>simp[Zem,Zdu,Zcm,hlt]
   rw[z1,<-Nat.add_assoc,Zeh,z3];by_cases h2:x<=fr+n
   · rw[if_pos h2]
     have z2:cnt (es.drop (cnt es (fr+n+1))) x=0:=Zcb fun e he=>by have:=hu.2 e he;omega
     have z4:cnt (if Zcm (cnt es (fr+n+1)) !=inn then[fr+n]else[]) x=0:=Zcb fun e he=>by split at he<;>simp at he;omega
     rw[z2,z4];simp[Zcm]
   · rw[if_neg h2,hs (fr+n+1)]
     have z2:cnt (es.take (cnt es (fr+n+1))) x=cnt es (fr+n+1):=by
      rw[Zgl fun e he=>by have:=hu.1 e he;omega];simp;omega
     rw[z2,Zeh,Zeh];have hlt:(fr:Int)+n<x:=by omega
     cases hi:Zcm (cnt es (fr+n+1))<;>cases inn<;>cases Zcm (cnt (es.drop (cnt es (fr+n+1))) x)<;>simp[Zem,Zdu,Zcm,hlt]
theorem Zwb {L:Nat} {es:List Nat} (g:Good L es) {fr n:Nat} (hn:0<n) (hl:fr+n<=L) (inn:Bool):Good L (Zcw es fr n inn):=by
 have hb:=Zf0 g.rising fr;have hu:=Zf0 g.rising (fr+n+1)
 have hle:∀e∈Zcw es fr n inn,e<=L:=by
  intro e he;unfold Zcw at he;rcases List.mem_append.1 he with he|he
  · exact g.le e (List.mem_of_mem_take he)
  · rcases List.mem_append.1 he with he|he
    · split at he<;>simp at he;omega
    · rcases List.mem_append.1 he with he|he
      · split at he<;>simp at he;omega
      · exact g.le e (List.mem_of_mem_drop he)
 refine⟨?_,?_,hle,g.small⟩
 · unfold Zcw Zcc
   rw[List.pairwise_append,List.pairwise_append,List.pairwise_append]
   refine⟨g.rising.sublist (List.take_sublist _ _),⟨by split<;>simp,⟨by split<;>simp,g.rising.sublist (List.drop_sublist _ _),?_⟩,?_⟩,?_⟩
   · intro a ha b hb'
     have:=hu.2 b hb'
     split at ha<;>simp at ha;omega
   · intro a ha b hb'
     rcases List.mem_append.1 hb' with hb'|hb'
     · split at ha<;>simp at ha;split at hb'<;>simp at hb';omega
     · have:=hu.2 b hb'
       split at ha<;>simp at ha;omega
   · intro a ha b hb'
     have h1:=hb.1 a ha;rcases List.mem_append.1 hb' with hb'|hb'
     · split at hb'<;>simp at hb';omega
     · rcases List.mem_append.1 hb' with hb'|hb'
       · split at hb'<;>simp at hb';omega
       · have:=hu.2 b hb';omega
 · have e:=Zri g.rising fr n inn (L+1)
   rw[Zgl fun e he=>by have:=hle e he;omega,if_neg (by omega),if_neg (by omega),Zgl fun e he=>by have:=g.le e he;omega,Zjp g.even]at e;exact Yeb e
theorem Zzt {es:List Nat} (h:Zcc es) (fr n:Nat) (inn:Bool) (i:Int):
 mem (Zcw es fr n inn) i=if fr<=i/\i<fr+n then inn else mem es i:=by
 unfold mem;rw[Zri h];by_cases h1:i+1<=fr
 · rw[if_pos h1,if_neg (by omega)]
 · rw[if_neg h1]
   by_cases h2:i+1<=fr+n
   · rw[if_pos h2,if_pos (by omega)]
   · rw[if_neg h2,if_neg (by omega)]
theorem Zct {L:Nat} {es:List Nat} (g:Good L es):es.length<=1048577:=by
 have key:∀(r:List Nat) (m:Nat),Zcc r->(∀e∈r,m<=e)->(∀e∈r,e<=1048576)->r.length+m<=1048577\/r=[]:=by
  intro r
  induction r with
  |nil=>intro m _ _ _;right;rfl
  |cons a t ih=>
   intro m hr hm hle
   left
   have ha:=(List.pairwise_cons.1 hr).1;have h1:=hm a (by simp);have h2:=hle a (by simp)
   rcases ih (a+1) (List.pairwise_cons.1 hr).2 (fun e he=>ha e he) (fun e he=>hle e (by simp[he]))with h|h
   · simp;omega
   · subst h;simp;omega
 rcases key es 0 g.rising (fun _ _=>Nat.zero_le _) (fun e he=>by have:=g.le e he;have:=g.small;omega)with h|h
 · omega
 · subst h;simp
theorem Zsc:∀{a b:List Nat},Zcc a->Zcc b->(∀e,e∈a↔e∈b)->a=b:=by
 intro a
 induction a with
 |nil=>intro b _ _ h;cases b with
  |nil=>rfl
  |cons x t=>have:=(h x).2 (by simp);simp at this
 |cons x t ih=>
  intro b ha hb h;cases b with
  |nil=>have:=(h x).1 (by simp);simp at this
  |cons y u=>
   have hx:=(List.pairwise_cons.1 ha).1;have hy:=(List.pairwise_cons.1 hb).1
   have hxy:x=y:=by
    rcases List.mem_cons.1 ((h x).1 (by simp))with e|e
    · exact e
    · rcases List.mem_cons.1 ((h y).2 (by simp))with e'|e'
      · exact e'.symm
      · have:=hx y e';have:=hy x e;omega
   subst hxy;rw[ih (List.pairwise_cons.1 ha).2 (List.pairwise_cons.1 hb).2 fun e=>?_]
   constructor
   · intro he
     rcases List.mem_cons.1 ((h e).1 (by simp[he]))with e'|e'
     · have:=hx e he;omega
     · exact e'
   · intro he
     rcases List.mem_cons.1 ((h e).2 (by simp[he]))with e'|e'
     · have:=hy e he;omega
     · exact e'
theorem Zh4:∀{es:List Nat},Zcc es->∀(e:Nat),e∈es↔Zcm (cnt es (e+1))≠Zcm (cnt es e):=by
 intro es
 induction es with
 |nil=>intro _ e;simp[Zem]
 |cons a t ih=>
  intro h e;have ha:=(List.pairwise_cons.1 h).1;have ht:=(List.pairwise_cons.1 h).2;rw[Zdu,Zdu,Zeh,Zeh,List.mem_cons];by_cases hae:e=a
  · subst hae
    have z1:cnt t (e+1)=0:=Zcb fun x hx=>by have:=ha x hx;omega
    have z2:cnt t e=0:=Zcb fun x hx=>by have:=ha x hx;omega
    rw[z1,z2,if_pos (by omega),if_neg (by omega)];simp[Zcm]
  · have e1:(if(a:Int)<(e:Int)+1 then 1 else 0)=(if(a:Int)<(e:Int)then 1 else 0):=by
     by_cases h1:(a:Int)<e
     · rw[if_pos h1,if_pos (by omega)]
     · rw[if_neg h1,if_neg (by omega)]
    rw[e1]
    have:=ih ht e
    constructor
    · intro hh
      rcases hh with hh|hh
      · omega
      · have h2:=this.1 hh
        intro h3;apply h2
        revert h3;cases Zcm (cnt t (e+1))<;>cases Zcm (cnt t e)<;>simp
    · intro hh
      right;apply this.2;intro h3;apply hh;rw[h3]
theorem Zra {L:Nat} {a b:List Nat} (ga:Good L a) (gb:Good L b) (h:∀i:Nat,i<L->mem a i=mem b i):a=b:=by
 have hp:∀x:Int,Zcm (cnt a x)=Zcm (cnt b x):=by
  intro x;by_cases h0:x<=0
  · rw[Zcb fun e he=>by omega,Zcb fun e he=>by omega]
  · by_cases h1:x<=L
    · have:=h (x-1).toNat (by omega)
      unfold mem at this
      rwa [show(((x-1).toNat:Nat):Int)+1=x from by omega]at this
    · rw[Zgl fun e he=>by have:=ga.le e he;omega,Zgl fun e he=>by have:=gb.le e he;omega,Zjp ga.even,Zjp gb.even]
 exact Zsc ga.rising gb.rising fun e=>by rw[Zh4 ga.rising,Zh4 gb.rising,hp,hp]
end
section
open Go Go.RowKit
def Zb1 (w:World) (p:Option Addr) (es:List Nat):Prop:=
 (p=none/\es=[])\/∃b off,p=some (aD b off)/\b<w.heap.size/\∀k,k<es.length->w.cell? (aD b (off+k))=some (iV ((es.getD k 0:Nat):Int))
theorem Zb1.below {w w':World} {p:Option Addr} {es:List Nat} (h:Zb1 w p es) (hb:Below w.heap.size w w'):Zb1 w' p es:=by
 rcases h with h|⟨b,off,rfl,hlt,hc⟩
 · exact .inl h
 · exact .inr ⟨b,off,rfl,Nat.lt_of_lt_of_le hlt hb.size,fun k hk=>by rw[hb.cell (p:=(aD b (off+k))) hlt];exact hc k hk⟩
theorem Zbg (k:Nat) (hk:k<=9223372036854775807) (w:World):Calls Tryz.prog 204 #[iV k] w fun e w'=>e=.returned (.bool (Zcm k))/\w=w':=by
 unfold Zcm;by_cases h:k%2=1
 · have h1:((k:Int)%2==1)=true:=beq_iff_eq.2 (by omega)
   have HR:Hid (decide (k%2=1)=true):=hid (by simpa using h);clear h;go_enter Tryz.func204,Tryz.ntmps204
   go_wp2
   go_ret
   exact⟨by rw[HR.out];rfl,rfl⟩
 · have h1:((k:Int)%2==1)=false:=beq_eq_false_iff_ne.2 (by omega)
   have HR:Hid (decide (k%2=1)=false):=hid (by simpa using h);clear h;go_enter Tryz.func204,Tryz.ntmps204
   go_wp2
   go_ret
   exact⟨by rw[HR.out];rfl,rfl⟩
theorem Zte (x:Int) (w:World):Calls Tryz.prog 230 #[iV x] w fun e w'=>e=.returned (.bool false)/\w=w':=by
 go_enter Tryz.func230,Tryz.ntmps230
 go_wp2
 go_ret
 exact⟨rfl,rfl⟩
theorem Zi5 (x:Int) (w:World):Calls Tryz.prog 226 #[iV x] w fun e w'=>e=.returned (.bool false)/\w=w':=by
 go_enter Tryz.func226,Tryz.ntmps226
 go_wp2
 go_ret
 exact⟨rfl,rfl⟩
theorem Zqx (x y:Int) (w:World):Calls Tryz.prog 225 #[iV x,iV y] w fun e w'=>e=.returned (.bool (decide (x<y)))/\w=w':=by
 go_enter Tryz.func225,Tryz.ntmps225
 go_wp2_with (go_at_call 230;refine(Zte _ _).mono ?_;rintro e w' ⟨rfl,rfl⟩)
 go_ret
 exact⟨rfl,rfl⟩
def Yi3 (n:Int) (w:World) (e:Ending) (w':World):Prop:=∃t:Bool,e=.returned (.tuple #[iV n,.bool t])/\w=w'
theorem Zov (b off cap:Nat) (es:List Nat) (x:Int) (w:World) (hr:Zcc es) (hlen:es.length<=1048577)
 (hc:∀k,k<es.length->w.cell? (aD b (off+k))=some (iV ((es.getD k 0:Nat):Int))):
 Calls Tryz.prog 216 #[.slice (some (aD b off)) es.length cap,iV x] w (Yi3 (cnt es x) w):=by
 have HC:=hid hc;clear hc
 go_enter Tryz.func216,Tryz.ntmps216
 go_wp2
 go_loop [7,8] (fun i j=>∃p q:Nat,p<=cnt es x/\cnt es x<=q/\q<=es.length/\i=iV p/\j=iV q) (fun i j=>(intOf j-intOf i).toNat)
 case atStart=>exact⟨0,es.length,by omega,Zdo _ _,by omega,rfl,rfl⟩
 case round=>
  obtain⟨p,q,h1,h2,h3,rfl,rfl⟩:=hrel;by_cases hlt:p<q
  · obtain⟨v,hv⟩:=eX (es.getD ((p+q)/2) 0:Nat)
    have hcell:w.cell? (aD b (off+(p+q)/2))=some (iV v):=by rw[<-hv];exact HC.out _ (by omega)
    by_cases hx:(v:Int)<x
    · have hn:(p+q)/2+1<=cnt es x:=by
       refine Classical.byContradiction fun h=>?_
       have:=Ybz hr (x:=x) (i:=(p+q)/2) (by omega) (by omega)
       omega
      have HV:=hid hv;clear hv
      have hd:decide ((v:Int)<x)=true:=by simpa using hx
      go_wp2_with (go_at_call 225;refine(Zqx _ _ _).mono ?_;rintro e w' ⟨rfl,rfl⟩)
      go_round
      case rel=>exact⟨(p+q)/2+1,q,hn,h2,h3,by go_num,rfl⟩
      case measure=>simp[intOf];omega
    · have hn:cnt es x<=(p+q)/2:=by
       refine Classical.byContradiction fun h=>?_
       have:=Zwq hr (x:=x) (i:=(p+q)/2) (by omega)
       omega
      have HV:=hid hv;clear hv
      have hd:decide ((v:Int)<x)=false:=by simpa using hx
      go_wp2_with (go_at_call 225;refine(Zqx _ _ _).mono ?_;rintro e w' ⟨rfl,rfl⟩)
      go_round
      case rel=>exact⟨p,(p+q)/2,h1,hn,by omega,rfl,by go_num⟩
      case measure=>simp[intOf];omega
  · have hp:p=cnt es x:=by omega
    have HP:=hid hp;clear hp
    by_cases hl:p<es.length
    · obtain⟨v,hv⟩:=eX (es.getD p 0:Nat)
      have hcell:w.cell? (aD b (off+p))=some (iV v):=by rw[<-hv];exact HC.out _ hl
      have HV:=hid hv;clear hv
      by_cases hx:(v:Int)=x
      · have hd:((v:Int)==x)=true:=beq_iff_eq.2 hx
        clear hx
        go_wp2_with (go_at_call 226;refine(Zi5 _ _).mono ?_;rintro e w' ⟨rfl,rfl⟩)
        go_ret2
        exact⟨_,by rw[<-HP.out];rfl,rfl⟩
      · have hd:((v:Int)==x)=false:=beq_eq_false_iff_ne.2 hx
        go_wp2_with (go_at_call 226;refine(Zi5 _ _).mono ?_;rintro e w' ⟨rfl,rfl⟩)
        go_ret2
        exact⟨_,by rw[<-HP.out];rfl,rfl⟩
    · go_wp2_with (go_at_call 226;refine(Zi5 _ _).mono ?_;rintro e w' ⟨rfl,rfl⟩)
      go_ret2
      exact⟨_,by rw[<-HP.out];rfl,rfl⟩
theorem Zow (p:Option Addr) (cap:Nat) (x:Int) (w:World):
 Calls Tryz.prog 216 #[.slice p 0 cap,iV x] w (Yi3 0 w):=by
 go_enter Tryz.func216,Tryz.ntmps216
 go_wp2
 refine wp_loop_rounds 1 ?_;rw[rounds_succ]
 go_wp2
 go_ret2
 exact⟨_,rfl,rfl⟩
theorem Zr8 (p:Option Addr) (cap:Nat) (es:List Nat) (x:Int) (w:World) (hr:Zcc es) (hlen:es.length<=1048577) (hrow:Zb1 w p es) (n:Nat) (hn:n=es.length):
 Calls Tryz.prog 216 #[.slice p n cap,iV x] w (Yi3 (cnt es x) w):=by
 subst hn;rcases hrow with⟨rfl,rfl⟩|⟨b,off,rfl,_,hc⟩
 · exact Zow none cap x w
 · exact Zov b off cap es x w hr hlen hc
end
section
open Go Go.RowKit
theorem Zc5 (L:Nat) (p:Option Addr) (n cap:Nat) (es:List Nat) (x:Int) (w:World) (hr:Zcc es) (hlen:es.length<=1048577) (hrow:Zb1 w p es) (hn:n=es.length):
 Calls Tryz.prog 203 #[.agg #[iV L,.slice p n cap],iV x] w fun e w'=>e=.returned (iV (cnt es x))/\Below w.heap.size w w':=by
 have HN:=hid hn;clear hn
 go_enter Tryz.func203,Tryz.ntmps203;go_wp2_with fail
 refine(Zr8 p cap es x _ hr hlen (hrow.below ((Below.refl _ _).alloc (Nat.le_refl _) _)) n HN.out).mono ?_
 rintro e w' ⟨t,rfl,rfl⟩;go_wp2_with fail
 go_ret
 exact⟨rfl,(Below.refl _ _).alloc (Nat.le_refl _) _⟩
def Zao (L:Nat) (fr n:Int):Bool:=decide (0<=fr/\0<=n/\n<=L-fr)
theorem Zb7 (L:Nat) (hL:L<=1048576) (p:Option Addr) (m cap:Nat) (fr n:Int) (hf:fr<=9223372036854775807) (w:World):
 Calls Tryz.prog 213 #[.agg #[iV L,.slice p m cap],iV fr,iV n] w fun e w'=>e=.returned (.bool (Zao L fr n))/\Below w.heap.size w w':=by
 by_cases h1:0<=fr
 · by_cases h2:0<=n
   · have HR:Hid (Zao L fr n=decide (n<=L-fr)):=hid (by unfold Zao;simp[h1,h2])
     go_enter Tryz.func213,Tryz.ntmps213;go_wp2_with fail
     go_ret
     exact⟨by rw[HR.out];rfl,(Below.refl _ _).alloc (Nat.le_refl _) _⟩
   · have HR:Hid (Zao L fr n=false):=hid (by unfold Zao;simp[h2])
     have hd:decide (0<=n)=false:=by simpa using h2
     go_enter Tryz.func213,Tryz.ntmps213;go_wp2_with fail
     go_ret
     exact⟨by rw[HR.out];rfl,(Below.refl _ _).alloc (Nat.le_refl _) _⟩
 · have HR:Hid (Zao L fr n=false):=hid (by unfold Zao;simp[h1])
   have hd:decide (0<=fr)=false:=by simpa using h1
   go_enter Tryz.func213,Tryz.ntmps213;go_wp2_with fail
   go_ret
   exact⟨by rw[HR.out];rfl,(Below.refl _ _).alloc (Nat.le_refl _) _⟩
theorem Ydl (L:Nat) (p:Option Addr) (m cap:Nat) (w:World):
 Calls Tryz.prog 117 #[.agg #[iV L,.slice p m cap]] w fun e w'=>e=.returned (iV L)/\Below w.heap.size w w':=by
 go_enter Tryz.func117,Tryz.ntmps117;go_wp2_with fail
 go_ret
 exact⟨rfl,(Below.refl _ _).alloc (Nat.le_refl _) _⟩
def Zhl (x:Int):Nat:=(min (max x 0) 1048576).toNat
theorem Zvt (x:Int) (w:World):
 Calls Tryz.prog 116 #[iV x] w fun e w'=>e=.returned (.agg #[iV (Zhl x),.slice none 0 0])/\Below w.heap.size w w':=by
 by_cases h1:x<0
 · have HL:Hid ((Zhl x:Int)=0):=hid (by unfold Zhl;omega)
   go_enter Tryz.func116,Tryz.ntmps116;go_wp2_with fail;exact bodyPost_ret (v:=.agg #[iV 0,.slice none 0 0]) (by simp[results,Tryz.results116,go_sem]) rfl ⟨by rw[HL.out],(Below.refl _ _).alloc (Nat.le_refl _) _⟩
 · by_cases h2:1048576<x
   · have HL:Hid ((Zhl x:Int)=1048576):=hid (by unfold Zhl;omega)
     go_enter Tryz.func116,Tryz.ntmps116;go_wp2_with fail;exact bodyPost_ret (v:=.agg #[iV 1048576,.slice none 0 0]) (by simp[results,Tryz.results116,go_sem]) rfl ⟨by rw[HL.out],(Below.refl _ _).alloc (Nat.le_refl _) _⟩
   · have HL:Hid ((Zhl x:Int)=x):=hid (by unfold Zhl;omega)
     go_enter Tryz.func116,Tryz.ntmps116;go_wp2_with fail;exact bodyPost_ret (v:=.agg #[iV x,.slice none 0 0]) (by simp[results,Tryz.results116,go_sem]) rfl ⟨by rw[HL.out],(Below.refl _ _).alloc (Nat.le_refl _) _⟩
def hasB (L:Nat) (es:List Nat) (i:Int):Bool:=decide (0<=i/\i<L)&&mem es i
theorem Ydx (L:Nat) (p:Option Addr) (n cap:Nat) (es:List Nat) (i:Int) (w:World) (g:Good L es) (hrow:Zb1 w p es) (hn:n=es.length):
 Calls Tryz.prog 198 #[.agg #[iV L,.slice p n cap],iV i] w fun e w'=>e=.returned (.bool (hasB L es i))/\Below w.heap.size w w':=by
 have HN:=hid hn;clear hn
 have hL:=g.small;by_cases h1:0<=i
 · by_cases h2:i<L
   · have HR:Hid (hasB L es i=Zcm (cnt es (i+1))):=hid (by unfold hasB mem;simp[h1,h2])
     have hcl:=Zdo es (i+1);have hgl:=Zct g;have hd:decide (i<(L:Int))=true:=by simpa using h2
     go_enter Tryz.func198,Tryz.ntmps198;go_wp2_with fail
     refine(Zc5 L p n cap es _ _ g.rising hgl (hrow.below ((Below.refl _ _).alloc (Nat.le_refl _) _)) HN.out).mono ?_
     rintro e w1 ⟨rfl,hb⟩;have hb2:Below w.heap.size w w1:=((Below.refl _ _).alloc (Nat.le_refl _) _).trans (hb.mono (by simp));go_wp2_with fail
     refine(Zbg _ (by omega) _).mono ?_
     rintro e w2 ⟨rfl,rfl⟩;go_wp2_with fail
     go_ret
     exact⟨by rw[HR.out];rfl,hb2⟩
   · have HR:Hid (hasB L es i=false):=hid (by unfold hasB;simp[h2])
     have hd:decide (i<(L:Int))=false:=by simpa using h2
     go_enter Tryz.func198,Tryz.ntmps198;go_wp2_with fail
     go_ret
     exact⟨by rw[HR.out];rfl,(Below.refl _ _).alloc (Nat.le_refl _) _⟩
 · have HR:Hid (hasB L es i=false):=hid (by unfold hasB;simp[h1])
   have hd:decide (0<=i)=false:=by simpa using h1
   go_enter Tryz.func198,Tryz.ntmps198;go_wp2_with fail
   go_ret
   exact⟨by rw[HR.out];rfl,(Below.refl _ _).alloc (Nat.le_refl _) _⟩
end
section
open Go Go.RowKit
def fI (fr:Int):Int:=if fr<0 then 0 else fr
def Zcp (L:Nat) (es:List Nat) (fr:Int) (inn:Bool):Bool:=
 decide (fI fr<L)&&(Zcm (cnt es (fI fr+1))==inn||(decide (cnt es (fI fr+1)<es.length)&&decide (es.getD (cnt es (fI fr+1)) 0<L)))
def Zb3 (L:Nat) (es:List Nat) (fr:Int) (inn:Bool):Int:=
 if Zcp L es fr inn then(if Zcm (cnt es (fI fr+1))==inn then fI fr else es.getD (cnt es (fI fr+1)) 0)else 0
theorem Znt (L:Nat) (p:Option Addr) (n cap:Nat) (es:List Nat) (fr:Int) (inn:Bool) (w:World) (g:Good L es) (hrow:Zb1 w p es) (hn:n=es.length):
 Calls Tryz.prog 161 #[.agg #[iV L,.slice p n cap],iV fr,.bool inn] w fun e w'=>e=.returned (.tuple #[iV (Zb3 L es fr inn),.bool (Zcp L es fr inn)])/\Below w.heap.size w w':=by
 have hL:=g.small;have hgl:=Zct g
 obtain⟨f,y,hf0,hff,hcase⟩:∃f y:Int,0<=f/\f=fI fr/\((fr<0/\f=0/\y=1)\/(0<=fr/\f=fr/\y=fr+1)):=by
  by_cases h:fr<0
  · exact⟨0,1,by omega,by unfold fI;rw[if_pos h],.inl ⟨h,rfl,rfl⟩⟩
  · exact⟨fr,fr+1,by omega,by unfold fI;rw[if_neg h],.inr ⟨by omega,rfl,rfl⟩⟩
 have hyf:y=fI fr+1:=by omega
 obtain⟨c,hc⟩:=eX (cnt es y);have hcl:c<=es.length:=by rw[<-hc];exact Zdo _ _
 have hB0:Zcp L es fr inn=(decide (f<L)&&(Zcm c==inn||(decide (c<es.length)&&decide (es.getD c 0<L)))):=by unfold Zcp;rw[<-hyf,<-hff,hc]
 have hV0:Zb3 L es fr inn=if Zcp L es fr inn then(if Zcm c==inn then f else es.getD c 0)else 0:=by unfold Zb3;rw[<-hyf,<-hff,hc]
 have HN:=hid hn;have HC:=hid hc;clear hff hyf hc hn;by_cases h2:f<L
 · have hrow1:=hrow.below ((Below.refl w.heap.size w).alloc (Nat.le_refl _) (.cells #[iV L,.slice p n cap] 118))
   cases hi:(Zcm c==inn)with
   |true=>
    have HB:Hid (Zcp L es fr inn=true):=hid (by rw[hB0,hi];simp[h2]);have HV:Hid (Zb3 L es fr inn=f):=hid (by rw[hV0,HB.out,hi];simp);clear hB0 hV0;rcases hcase with⟨hc,rfl,rfl⟩|⟨hc,rfl,rfl⟩
    all_goals
     go_enter Tryz.func161,Tryz.ntmps161;go_wp2_with fail
     refine(Zc5 L p n cap es _ _ g.rising hgl hrow1 HN.out).mono ?_
     rw[HC.out];rintro e w1 ⟨rfl,hb⟩;have hb2:Below w.heap.size w w1:=((Below.refl _ _).alloc (Nat.le_refl _) _).trans (hb.mono (by simp));go_wp2_with fail
     refine(Zbg _ (by omega) _).mono ?_
     rintro e w2 ⟨rfl,rfl⟩;go_wp2_with fail
     go_ret2
     exact⟨by rw[HB.out,HV.out];rfl,hb2⟩
   |false=>
    by_cases h3:c<es.length
    · obtain⟨v,hv⟩:=eX (es.getD c 0:Nat)
      obtain⟨b,off,hp,hlt,hcell⟩:∃b off,p=some (aD b off)/\b<w.heap.size/\w.cell? (aD b (off+c))=some (iV v):=by
       rcases hrow with⟨rfl,rfl⟩|⟨b,off,rfl,hlt,hc⟩
       · simp at h3
       · exact⟨b,off,rfl,hlt,by rw[hc c h3,hv]⟩
      subst hp;have hnl:c<n:=by rw[HN.out];exact h3
      have hn2:n<=1048577:=by rw[HN.out];exact hgl
      by_cases h4:v<L
      focus
       have HB:Hid (Zcp L es fr inn=true):=hid (by rw[hB0,hi,hv];simp[h2,h3,h4]);have HV:Hid (Zb3 L es fr inn=v):=hid (by rw[hV0,HB.out,hi,hv];simp);have d1:decide (c<n)=true:=by simpa using hnl
       have d2:decide (v<L)=true:=by simpa using h4
      rotate_left
      focus
       have HB:Hid (Zcp L es fr inn=false):=hid (by rw[hB0,hi,hv];simp[h4]);have HV:Hid (Zb3 L es fr inn=0):=hid (by rw[hV0,HB.out];simp);have d1:decide (c<n)=true:=by simpa using hnl
       have d2:decide (v<L)=false:=by simpa using h4
      all_goals
       clear hB0 hV0 hv;rcases hcase with⟨hc,rfl,rfl⟩|⟨hc,rfl,rfl⟩
       all_goals
        go_enter Tryz.func161,Tryz.ntmps161;go_wp2_with fail
        refine(Zc5 L _ n cap es _ _ g.rising hgl hrow1 HN.out).mono ?_
        rw[HC.out];rintro e w1 ⟨rfl,hb⟩;have hb2:Below w.heap.size w w1:=((Below.refl _ _).alloc (Nat.le_refl _) _).trans (hb.mono (by simp));have hbox0:w1.cell? (aD w.heap.size 0)=some (iV L):=by rw[hb.cell (p:=(aD w.heap.size 0)) (by simp)];simp
        have hbox1:w1.cell? (aD w.heap.size 1)=some (.slice (some (aD b off)) n cap):=by rw[hb.cell (p:=(aD w.heap.size 1)) (by simp)];simp
        have hcell1:w1.cell? (aD b (off+c))=some (iV v):=by rw[hb2.cell (p:=(aD b (off+c))) hlt];exact hcell
        go_wp2_with fail
        refine(Zbg _ (by omega) _).mono ?_
        rintro e w2 ⟨rfl,rfl⟩;go_wp2_with fail
        go_quiet (fail)
        go_wp2_with fail
        go_ret2
        exact⟨by rw[HB.out,HV.out];rfl,by first|exact hb2|exact below_drewN hb2 _⟩
    · have HB:Hid (Zcp L es fr inn=false):=hid (by rw[hB0,hi];simp[h3])
      have HV:Hid (Zb3 L es fr inn=0):=hid (by rw[hV0,HB.out];simp);have hnl:n<=c:=by rw[HN.out];omega
      have d1:decide (c<n)=false:=by simpa using hnl
      clear hB0 hV0;rcases hcase with⟨hc,rfl,rfl⟩|⟨hc,rfl,rfl⟩
      all_goals
       go_enter Tryz.func161,Tryz.ntmps161;go_wp2_with fail
       refine(Zc5 L _ n cap es _ _ g.rising hgl hrow1 HN.out).mono ?_
       rw[HC.out];rintro e w1 ⟨rfl,hb⟩;have hb2:Below w.heap.size w w1:=((Below.refl _ _).alloc (Nat.le_refl _) _).trans (hb.mono (by simp));have hbox0:w1.cell? (aD w.heap.size 0)=some (iV L):=by rw[hb.cell (p:=(aD w.heap.size 0)) (by simp)];simp
       have hbox1:w1.cell? (aD w.heap.size 1)=some (.slice p n cap):=by rw[hb.cell (p:=(aD w.heap.size 1)) (by simp)];simp
       go_wp2_with fail
       refine(Zbg _ (by omega) _).mono ?_
       rintro e w2 ⟨rfl,rfl⟩;go_wp2_with fail
       go_quiet (fail)
       go_wp2_with fail
       go_ret2
       exact⟨by rw[HB.out,HV.out];rfl,by first|exact hb2|exact below_drewN hb2 _⟩
 · have HB:Hid (Zcp L es fr inn=false):=hid (by rw[hB0];simp[h2])
   have HV:Hid (Zb3 L es fr inn=0):=hid (by rw[hV0,HB.out];simp);clear hB0 hV0;rcases hcase with⟨hc,rfl,rfl⟩|⟨hc,rfl,rfl⟩
   · obtain rfl:L=0:=by omega
     go_enter Tryz.func161,Tryz.ntmps161;go_wp2_with fail
     go_ret2
     exact⟨by rw[HB.out,HV.out];rfl,(Below.refl _ _).alloc (Nat.le_refl _) _⟩
   · go_enter Tryz.func161,Tryz.ntmps161
     go_wp2_with fail
     go_ret2
     exact⟨by rw[HB.out,HV.out];rfl,(Below.refl _ _).alloc (Nat.le_refl _) _⟩
end
section
open Go Go.RowKit
structure Zc8 (w:World) (L:Nat) (p:Option Addr) (n cap:Nat) (es:List Nat) (x:World):Prop where
 c0:x.cell? (aD w.heap.size 0)=some (iV L)
 c1:x.cell? (aD w.heap.size 1)=some (.slice p n cap)
 r0:x.cell? ⟨w.heap.size+1,0,none⟩=some (iV 0)
 r1:x.cell? ⟨w.heap.size+1,1,none⟩=some (.slice none 0 0)
 fz:x.frozen? ⟨w.heap.size+1,0,none⟩=false
 fz1:x.frozen? ⟨w.heap.size+1,1,none⟩=false
 sz:w.heap.size+2<=x.heap.size
 bl:Below w.heap.size w x
 row:Zb1 x p es
theorem Zc8.Yii {w:World} {L:Nat} {p:Option Addr} {n cap:Nat} {es:List Nat} {x y:World} (h:Zc8 w L p n cap es x) (hb:Below (w.heap.size+2) x y) (hrow:Zb1 w p es):Zc8 w L p n cap es y:=by
 refine⟨?_,?_,?_,?_,?_,?_,Nat.le_trans h.sz hb.size,h.bl.trans (hb.mono (by omega)),hrow.below (h.bl.trans (hb.mono (by omega)))⟩
 · rw[hb.cell (p:=(aD w.heap.size 0)) (by show w.heap.size<_;omega)];exact h.c0
 · rw[hb.cell (p:=(aD w.heap.size 1)) (by show w.heap.size<_;omega)];exact h.c1
 · rw[hb.cell (p:=⟨w.heap.size+1,0,none⟩) (by show w.heap.size+1<_;omega)];exact h.r0
 · rw[hb.cell (p:=⟨w.heap.size+1,1,none⟩) (by show w.heap.size+1<_;omega)];exact h.r1
 · rw[hb.frozen (p:=⟨w.heap.size+1,0,none⟩) (by show w.heap.size+1<_;omega)];exact h.fz
 · rw[hb.frozen (p:=⟨w.heap.size+1,1,none⟩) (by show w.heap.size+1<_;omega)];exact h.fz1
theorem Zc8.grown {w:World} {L:Nat} {p:Option Addr} {n cap:Nat} {es:List Nat} {x y:World} {row:Option Nat} (h:Zc8 w L p n cap es x) (hg:x.grownBy y row) (hr:∀k,row=some k->w.heap.size+2<=k) (hrow:Zb1 w p es):Zc8 w L p n cap es y:=
 h.Yii ((Below.refl _ _).grown hg h.sz hr) hrow
theorem Zc8.next {w:World} {L:Nat} {p:Option Addr} {n cap:Nat} {es:List Nat} {x y:World} (h:Zc8 w L p n cap es x) (hb:Below x.heap.size x y):Zc8 w L p n cap es y:=by
 have hs:=h.sz
 refine⟨?_,?_,?_,?_,?_,?_,Nat.le_trans h.sz hb.size,h.bl.trans (hb.mono (by omega)),h.row.below hb⟩
 · rw[hb.cell (p:=(aD w.heap.size 0)) (by show w.heap.size<_;omega)];exact h.c0
 · rw[hb.cell (p:=(aD w.heap.size 1)) (by show w.heap.size<_;omega)];exact h.c1
 · rw[hb.cell (p:=⟨w.heap.size+1,0,none⟩) (by show w.heap.size+1<_;omega)];exact h.r0
 · rw[hb.cell (p:=⟨w.heap.size+1,1,none⟩) (by show w.heap.size+1<_;omega)];exact h.r1
 · rw[hb.frozen (p:=⟨w.heap.size+1,0,none⟩) (by show w.heap.size+1<_;omega)];exact h.fz
 · rw[hb.frozen (p:=⟨w.heap.size+1,1,none⟩) (by show w.heap.size+1<_;omega)];exact h.fz1
def enc (l:List Nat):List Value:=l.map fun(e:Nat)=>iV e
theorem Zbe {l:List Nat}:∀u∈enc l,u.oneCell'=true:=by
 intro u hu;obtain⟨e,_,rfl⟩:=List.mem_map.1 hu;rfl
theorem Ybj {x:World} {p:Option Addr} {es:List Nat} (h:Zb1 x p es) (s:Nat) (l:List Nat) (hl:∀j,j<l.length->s+j<es.length/\l.getD j 0=es.getD (s+j) 0):
 ∀ad,p=some ad->∀j u,(enc l)[j]?=some u->x.cell? (aD ad.block (ad.off+s+j))=some u:=by
 intro ad had j u hu
 have hj:j<l.length:=by
  have:=(List.getElem?_eq_some_iff.1 hu).1;simpa[enc]using this
 rcases h with⟨rfl,_⟩|⟨b,off,rfl,_,hc⟩
 · cases had
 · cases had
   have:=hl j hj
   have e:=hc (s+j) this.1;rw[<-this.2]at e;show x.cell? (aD b (off+s+j))=some u;rw[Nat.add_assoc,e];rw[<-hu];simp[enc,List.getD_eq_getElem?_getD,List.getElem?_eq_getElem hj]
theorem Zc8.drew {w:World} {L:Nat} {p:Option Addr} {n cap:Nat} {es:List Nat} {x:World} (h:Zc8 w L p n cap es x):Zc8 w L p n cap es x.drew:=h.next (Below.refl _ _).drew
theorem Zc8.all {w:World} {L:Nat} {p:Option Addr} {n cap:Nat} {es:List Nat} {x:World} (h:Zc8 w L p n cap es x):x.cell? (aD w.heap.size 0)=some (iV L)/\x.cell? (aD w.heap.size 1)=some (.slice p n cap)/\Zc8 w L p n cap es x:=⟨h.c0,h.c1,h⟩
theorem Zc8.next' {w:World} {L:Nat} {p:Option Addr} {n cap:Nat} {es:List Nat} {x y:World} (hb:Below x.heap.size x y) (h:x.cell? (aD w.heap.size 0)=some (iV L)/\x.cell? (aD w.heap.size 1)=some (.slice p n cap)/\Zc8 w L p n cap es x):Zc8 w L p n cap es y:=h.2.2.next hb
theorem Zc8.Yhw {w:World} {L:Nat} {p:Option Addr} {n cap:Nat} {es:List Nat} {x:World} (h:x.cell? (aD w.heap.size 0)=some (iV L)/\x.cell? (aD w.heap.size 1)=some (.slice p n cap)/\Zc8 w L p n cap es x):Zb1 x p es:=h.2.2.row
theorem Zec {x:World} {b off:Nat} {es:List Nat} {k:Nat} (h:Zb1 x (some (aD b off)) es) (hk:k<=es.length):
 ∀ad,some ((aD b off):Addr)=some ad->∀j u,(enc (es.take k))[j]?=some u->x.cell? (ad.add j)=some u:=by
 intro ad had j u hu;cases had
 have:=Ybj h 0 (es.take k) (fun j hj=>by simp at hj;exact⟨by omega,by simp[List.getD_eq_getElem?_getD,show j<k by omega]⟩) _ rfl j u hu
 simp only[Addr.add];by_cases h0:j=0
 · subst h0;simpa using this
 · simpa[h0]using this
theorem Zed {x:World} {b off:Nat} {es:List Nat} {k:Nat} {ao:Option Addr} (h:Zb1 x (some (aD b off)) es) (hk:k<=es.length) (ha:k<es.length->ao=some (aD b (off+k))):
 ∀ad,ao=some ad->∀j u,(enc (es.drop k))[j]?=some u->x.cell? (ad.add j)=some u:=by
 intro ad had j u hu
 have hj:j<(es.drop k).length:=by
  have:=(List.getElem?_eq_some_iff.1 hu).1;simpa[enc]using this
 simp at hj;rw[ha (by omega)]at had;cases had
 have:=Ybj h k (es.drop k) (fun j hj=>by simp at hj;exact⟨by omega,by simp[List.getD_eq_getElem?_getD]⟩) _ rfl j u hu
 simp only[Addr.add];by_cases h0:j=0
 · subst h0;simpa using this
 · simpa[h0]using this
theorem Zgb (w:World) (f:Nat) (t:TypeId):∀ad,some ((aD w.heap.size 0):Addr)=some ad->∀j u,(enc [f])[j]?=some u->(w.alloc (.cells #[iV f] t)).cell? (ad.add j)=some u:=by
 intro ad had;cases had;exact cell_one_new w (iV f) t
theorem Yc9 {x:World} {B g n cap:Nat} {l:List Nat} {T:TypeId} (h:x.ownsRow B T 1 (.slice (some (aD g 0)) n cap) n (enc l)) (hn:n=l.length) (y:World) (hy:y.heap[g]?=x.heap[g]?):Zb1 y (some (aD g 0)) l:=by
 have hlt:g<x.heap.size:=by
  rcases h.2 with⟨h',_⟩|⟨g',cap',cur,h',_,hg,_⟩
  · simp at h'
  · simp only[Value.slice.injEq,Option.some.injEq,Addr.mk.injEq,and_true,true_and]at h'
    rw[h'.1];exact(Array.getElem?_eq_some_iff.1 hg).1
 have hlt2:g<y.heap.size:=by
  have e:y.heap[g]?=some x.heap[g]:=by rw[hy,Array.getElem?_eq_getElem hlt]
  exact(Array.getElem?_eq_some_iff.1 e).1
 refine .inr ⟨g,0,rfl,hlt2,fun k hk=>?_⟩;have e:y.cell? (aD g k)=x.cell? (aD g k):=World.cell?_of_block (w:=x) (w':=y) hy;rw[Nat.zero_add,e,h.cellAt k (by omega)];simp[enc,List.getD_eq_getElem?_getD,List.getElem?_eq_getElem hk]
def Zcd (L:Nat) (es:List Nat) (fr n:Int) (inn:Bool):List Nat:=if Zao L fr n&&decide (n≠0)then Zcw es fr.toNat n.toNat inn else es
def Zbo (L:Nat) (fr n:Int):Int:=if Zao L fr n then 0 else 3
def Zdg (L:Nat) (p:Option Addr) (es:List Nat) (fr n:Int) (inn:Bool) (w:World) (e:Ending) (w':World):Prop:=
 ∃p' n' cap',e=.returned (.tuple #[.agg #[iV L,.slice p' n' cap'],iV (Zbo L fr n)])/\n'=(Zcd L es fr n inn).length/\n'<=cap'/\(p'=none->cap'=0)/\Zb1 w' p' (Zcd L es fr n inn)/\(p'=p\/∃a,p'=some a/\w.heap.size<=a.block)/\Below w.heap.size w w'
theorem _root_.Go.Proofs.YtgcidfenjlmljaaGreat.Tryz.Zkd:(Tryz.prog.info? 3).map (fun i=>(i.zero,i.size,i.bytes))=some (some (iV 0),1,8):=by kernel_rfl
theorem Zbq {x:World} {B:Nat} {a b:Value} (h0:x.cell? (aD B 0)=some a) (h1:x.cell? (aD B 1)=some b) (v u:Value):
 ((x.setCell (aD B 0) v).setCell (aD B 1) u).cell? (aD B 0)=some v/\((x.setCell (aD B 0) v).setCell (aD B 1) u).cell? (aD B 1)=some u:=by
 have g1:(x.setCell (aD B 0) v).cell? (aD B 1)=some b:=by rw[World.cell?_setCell_other];exact h1;simp
 exact⟨by rw[World.cell?_setCell_other _ _ _ _ (by simp)];exact World.cell?_setCell_same' _ _ _ (by rw[h0];rfl),World.cell?_setCell_same' _ _ _ (by rw[g1];rfl)⟩
theorem Zdw {w wl:World} {L m cap g k:Nat} {p:Option Addr} {es l:List Nat} {fr n:Nat} {inn:Bool} {v0 v1:Value} (hown:wl.ownsRow (w.heap.size+2) 3 1 (.slice (some (aD g 0)) k (m+2)) k (enc l))
 (hk:k=l.length) (hk2:k<=m+2) (H:Zc8 w L p m cap es wl) (hg:w.heap.size+2<=g) (hw:Zao L fr n=true) (hl:Zcd L es fr n inn=l):
 Zdg L p es fr n inn w (.returned (.tuple #[.agg #[iV L,.slice (some (aD g 0)) k (m+2)],iV 0])) ((wl.setCell ⟨w.heap.size+1,0,none⟩ v0).setCell ⟨w.heap.size+1,1,none⟩ v1):=by
 refine⟨some (aD g 0),k,m+2,by unfold Zbo;rw[hw];rfl,by rw[hl];exact hk,hk2,(fun h=>by cases h),?_,.inr ⟨_,rfl,by show w.heap.size<=g;omega⟩,(H.bl.setCell (p:=⟨w.heap.size+1,0,none⟩) (by show _<=w.heap.size+1;omega) _).setCell (p:=⟨w.heap.size+1,1,none⟩) (by show _<=w.heap.size+1;omega) _⟩
 rw[hl];refine Yc9 hown hk _ ?_;rw[Below.heap_setCell _ ⟨w.heap.size+1,1,none⟩ _ _ (by show g≠w.heap.size+1;omega),Below.heap_setCell _ ⟨w.heap.size+1,0,none⟩ _ _ (by show g≠w.heap.size+1;omega)]
theorem Ydq (L:Nat) (b off:Nat) (m cap:Nat) (es:List Nat) (fr n:Nat) (inn:Bool) (w:World) (g:Good L es) (hrow:Zb1 w (some (aD b off)) es) (hm:m=es.length) (hcap:m<=cap)
 (hn0:0<n) (hnL:fr+n<=L) (hk1:Zcm (cnt es fr)= !inn) (hk2:Zcm (cnt es (fr+n+1))= !inn):
 Calls Tryz.prog 207 #[.agg #[iV L,.slice (some (aD b off)) m cap],iV fr,iV n,.bool inn] w (Zdg L (some (aD b off)) es fr n inn w):=by
 have hL:=g.small;have hgl:=Zct g;have HM:=hid hm;clear hm
 have HW:Hid (Zao L fr n=true):=hid (by unfold Zao;simp;omega);have HE:Hid (Zcd L es fr n inn=Zcw es fr n inn):=hid (by unfold Zcd;rw[HW.out,decide_eq_true (by omega)];simp);have HX:=hid hk1;have HY:=hid hk2;clear hk1 hk2
 have HRow:=hid hrow;have hnz:((n:Int)==0)=false:=beq_eq_false_iff_ne.2 (by omega);go_enter Tryz.func207,Tryz.ntmps207;go_wp2_with fail
 refine(Zb7 L hL (some (aD b off)) m cap _ _ (by omega) _).mono ?_
 rw[HW.out];rintro e w1 ⟨rfl,hb⟩
 have H1:Zc8 w L (some (aD b off)) m cap es w1:=by
  refine Zc8.next (x:=(w.alloc (.cells #[iV L,.slice (some (aD b off)) m cap] 118)).alloc (.cells #[iV 0,.slice none 0 0] 118)) ?_ (hb.mono (by simp))
  refine⟨by simp,by simp,by simp,by simp,by simp,by simp,by simp,((Below.refl _ _).alloc (Nat.le_refl _) _).alloc (by simp) _,?_⟩
  exact(hrow.below ((Below.refl _ _).alloc (Nat.le_refl _) _)).below ((Below.refl _ _).alloc (by simp) _)
 have hc0:=H1.c0;have hc1:=H1.c1;go_wp2_with fail;have hw1:IntKind.i64.wrap ((fr:Int)+n)=fr+n:=IntWalk.i64_in _ (by omega);have hw2:IntKind.i64.wrap ((fr:Int)+n+1)=fr+n+1:=IntWalk.i64_in _ (by omega)
 go_region_held3 (fun x=>x.cell? (aD w.heap.size 0)=some (iV L)/\x.cell? (aD w.heap.size 1)=some (.slice (some (aD b off)) m cap)/\Zc8 w L (some (aD b off)) m cap es x)
  (first|exact H1.drew.all|assumption)
  (first|(go_at_call 203;refine(Zc5 L (some (aD b off)) m cap es _ _ g.rising hgl ?_ HM.out).mono ?_;(exact Zc8.Yhw (w:=w) (L:=L) (n:=m) (cap:=cap) (by assumption));rintro e w' ⟨rfl,hbb⟩;have hnx:=Zc8.all (Zc8.next' (w:=w) (L:=L) (p:=some (aD b off)) (n:=m) (cap:=cap) (es:=es) hbb (by assumption))))
 clear hw1 hw2;obtain⟨hd0,hd1,H2⟩:=hnx;have hq1:cnt es fr<=m:=by rw[HM.out];exact Zdo es fr
 have hq2:=Zio es (show(fr:Int)<=(fr:Int)+n+1 by omega);have hq3:cnt es (fr+n+1)<=m:=by rw[HM.out];exact Zdo es (fr+n+1)
 have hm1:m<=1048577:=by rw[HM.out];exact hgl
 have hq4:=Nat.le_trans hq1 hcap;have hq5:=Nat.le_trans hq3 hcap;have hk1:=HX.out;have hk2:=HY.out
 generalize hb1:cnt es fr=b1 at*
 generalize hb2:cnt es (fr+n+1)=b2 at*
 have HB1:=hid hb1;have HB2:=hid hb2;clear hb1 hb2
 clear hrow HX HY;have HL1:Hid ((enc (es.take b1)).length=b1*1):=hid (by have:=HM.out;simp[enc];omega);have HL2:Hid ((enc (es.drop b2)).length=(m-b2)*1):=hid (by have:=HM.out;simp[enc];omega);obtain⟨i0,hi,hz0,hz1,hz2⟩:=info_parts Tryz.Zkd;have HQ:Hid (Zcw es fr n inn=es.take b1++([fr]++([fr+n]++es.drop b2))):=hid (by unfold Zcw;rw[HB1.out,HB2.out,hk1,hk2];cases inn<;>rfl);by_cases hcb:b2<cap
 focus
  go_wp2_with (first|(at_make;refine wpList_make_own _ rfl _ _ 28 rfl (w.heap.size+2) 3 i0 (iV 0) 1 Tryz.underlying28 hi hz0 hz1 .i64 .i64 _ (m+2) rfl rfl (by omega) (by rw[hz2];omega) (by unfold maxLen;omega) H2.sz ?_;intro w3 hown3 hgrow3;have H3:=H2.grown hgrow3 (fun k e=>by cases e) HRow.out;have f30:=H3.c0;have f31:=H3.c1)|(at_builtin;refine wpList_append_fits_any _ rfl (.tmp 36) (.tmp 40) 28 rfl (w.heap.size+2) 3 i0 1 Tryz.underlying28 hi hz1 w'.heap.size 0 (m+2) _ rfl hown3 _ b1 _ (enc (es.take b1)) rfl HL1.out (by intro h;cases h) (Zec H3.row (by rw[<-HM.out];exact hq1)) Zbe (by omega) ?_;intro w4 hown4 hgrow4;simp only[Nat.zero_add,List.nil_append]at hown4;have H4:=H3.grown hgrow4 (fun k e=>by cases e;exact H2.sz) HRow.out;have f40:=H4.c0;have f41:=H4.c1;clear f30 f31)|(at_builtin;refine wpList_append_fits_any _ rfl (.tmp 46) (.tmp 48) 28 rfl (w.heap.size+2) 3 i0 1 Tryz.underlying28 hi hz1 w'.heap.size _ (m+2) _ rfl (hown4.alloc _) _ 1 _ (enc [fr]) rfl rfl (by intro h;cases h) (Zgb _ _ _) Zbe (by omega) ?_;intro w5 hown5 hgrow5;have H5:=(H4.grown (World.grownBy_alloc _ _ none) (fun k e=>by cases e) HRow.out).grown hgrow5 (fun k e=>by cases e;exact H2.sz) HRow.out;have f50:=H5.c0;have f51:=H5.c1;clear f40 f41)|(at_builtin;refine wpList_append_fits_any _ rfl (.tmp 54) (.tmp 58) 28 rfl (w.heap.size+2) 3 i0 1 Tryz.underlying28 hi hz1 w'.heap.size _ (m+2) _ rfl (hown5.alloc _) _ 1 _ (enc [(fr+n)]) rfl rfl (by intro h;cases h) (Zgb _ _ _) Zbe (by omega) ?_;intro w6 hown6 hgrow6;have H6:=(H5.grown (World.grownBy_alloc _ _ none) (fun k e=>by cases e) HRow.out).grown hgrow6 (fun k e=>by cases e;exact H2.sz) HRow.out;have f60:=H6.c0;have f61:=H6.c1;clear f50 f51)|(at_builtin;refine wpList_append_fits_any _ rfl (.tmp 60) (.tmp 64) 28 rfl (w.heap.size+2) 3 i0 1 Tryz.underlying28 hi hz1 w'.heap.size _ (m+2) _ rfl hown6 (some (aD b (off+b2))) (m-b2) (cap-b2) (enc (es.drop b2)) rfl HL2.out (by intro h;cases h) (Zed H6.row (by rw[<-HM.out];exact hq3) (fun _=>rfl)) Zbe (by omega) ?_;intro w7 hown7 hgrow7;have H7:=H6.grown hgrow7 (fun k e=>by cases e;exact H2.sz) HRow.out;have f70:=H7.c0;have f71:=H7.c1;have f72:=H7.r0;have f73:=H7.r1;have f74:=H7.fz;have f75:=H7.fz1;clear f60 f61)|(go_at_call 204;refine(Zbg _ (by omega) _).mono ?_;rintro e w8 ⟨rfl,rfl⟩))
 rotate_left
 focus
  have HNe:Hid (¬b2<es.length):=hid (by have:=HM.out;omega)
  go_wp2_with (first|(at_make;refine wpList_make_own _ rfl _ _ 28 rfl (w.heap.size+2) 3 i0 (iV 0) 1 Tryz.underlying28 hi hz0 hz1 .i64 .i64 _ (m+2) rfl rfl (by omega) (by rw[hz2];omega) (by unfold maxLen;omega) H2.sz ?_;intro w3 hown3 hgrow3;have H3:=H2.grown hgrow3 (fun k e=>by cases e) HRow.out;have f30:=H3.c0;have f31:=H3.c1)|(at_builtin;refine wpList_append_fits_any _ rfl (.tmp 36) (.tmp 40) 28 rfl (w.heap.size+2) 3 i0 1 Tryz.underlying28 hi hz1 w'.heap.size 0 (m+2) _ rfl hown3 _ b1 _ (enc (es.take b1)) rfl HL1.out (by intro h;cases h) (Zec H3.row (by rw[<-HM.out];exact hq1)) Zbe (by omega) ?_;intro w4 hown4 hgrow4;simp only[Nat.zero_add,List.nil_append]at hown4;have H4:=H3.grown hgrow4 (fun k e=>by cases e;exact H2.sz) HRow.out;have f40:=H4.c0;have f41:=H4.c1;clear f30 f31)|(at_builtin;refine wpList_append_fits_any _ rfl (.tmp 46) (.tmp 48) 28 rfl (w.heap.size+2) 3 i0 1 Tryz.underlying28 hi hz1 w'.heap.size _ (m+2) _ rfl (hown4.alloc _) _ 1 _ (enc [fr]) rfl rfl (by intro h;cases h) (Zgb _ _ _) Zbe (by omega) ?_;intro w5 hown5 hgrow5;have H5:=(H4.grown (World.grownBy_alloc _ _ none) (fun k e=>by cases e) HRow.out).grown hgrow5 (fun k e=>by cases e;exact H2.sz) HRow.out;have f50:=H5.c0;have f51:=H5.c1;clear f40 f41)|(at_builtin;refine wpList_append_fits_any _ rfl (.tmp 54) (.tmp 58) 28 rfl (w.heap.size+2) 3 i0 1 Tryz.underlying28 hi hz1 w'.heap.size _ (m+2) _ rfl (hown5.alloc _) _ 1 _ (enc [(fr+n)]) rfl rfl (by intro h;cases h) (Zgb _ _ _) Zbe (by omega) ?_;intro w6 hown6 hgrow6;have H6:=(H5.grown (World.grownBy_alloc _ _ none) (fun k e=>by cases e) HRow.out).grown hgrow6 (fun k e=>by cases e;exact H2.sz) HRow.out;have f60:=H6.c0;have f61:=H6.c1;clear f50 f51)|(at_builtin;refine wpList_append_fits_any _ rfl (.tmp 60) (.tmp 64) 28 rfl (w.heap.size+2) 3 i0 1 Tryz.underlying28 hi hz1 w'.heap.size _ (m+2) _ rfl hown6 (some (aD b off)) (m-b2) (cap-b2) (enc (es.drop b2)) rfl HL2.out (by intro h;cases h) (Zed H6.row (by rw[<-HM.out];exact hq3) (fun h=>absurd h HNe.out)) Zbe (by omega) ?_;intro w7 hown7 hgrow7;have H7:=H6.grown hgrow7 (fun k e=>by cases e;exact H2.sz) HRow.out;have f70:=H7.c0;have f71:=H7.c1;have f72:=H7.r0;have f73:=H7.r1;have f74:=H7.fz;have f75:=H7.fz1;clear f60 f61)|(go_at_call 204;refine(Zbg _ (by omega) _).mono ?_;rintro e w8 ⟨rfl,rfl⟩))
 all_goals
  exact bodyPost_ret (v:=.tuple #[.agg #[iV L,.slice (some (aD w'.heap.size 0)) (b1+1+1+(m-b2)) (m+2)],iV 0]) (by simp[results,Tryz.results207,go_sem,(Zbq f72 f73 (iV L) (.slice (some (aD w'.heap.size 0)) (b1+1+1+(m-b2)) (m+2))).1,(Zbq f72 f73 (iV L) (.slice (some (aD w'.heap.size 0)) (b1+1+1+(m-b2)) (m+2))).2]) rfl
   (Zdw (by have e:enc (es.take b1)++enc [fr]++enc [fr+n]++enc (es.drop b2)=enc (Zcw es fr n inn):=(by rw[HQ.out];simp[enc]);rw[e]at hown7;exact hown7) (by rw[HQ.out];have:=HM.out;simp;omega) (by omega) H7 H2.sz HW.out HE.out)
theorem Ydr (L:Nat) (b off:Nat) (m cap:Nat) (es:List Nat) (fr n:Nat) (inn:Bool) (w:World) (g:Good L es) (hrow:Zb1 w (some (aD b off)) es) (hm:m=es.length) (hcap:m<=cap)
 (hn0:0<n) (hnL:fr+n<=L) (hk1:Zcm (cnt es fr)= !inn) (hk2:Zcm (cnt es (fr+n+1))=inn):
 Calls Tryz.prog 207 #[.agg #[iV L,.slice (some (aD b off)) m cap],iV fr,iV n,.bool inn] w (Zdg L (some (aD b off)) es fr n inn w):=by
 have hL:=g.small;have hgl:=Zct g;have HM:=hid hm;clear hm
 have HW:Hid (Zao L fr n=true):=hid (by unfold Zao;simp;omega);have HE:Hid (Zcd L es fr n inn=Zcw es fr n inn):=hid (by unfold Zcd;rw[HW.out,decide_eq_true (by omega)];simp);have HX:=hid hk1;have HY:=hid hk2;clear hk1 hk2
 have HRow:=hid hrow;have hnz:((n:Int)==0)=false:=beq_eq_false_iff_ne.2 (by omega);go_enter Tryz.func207,Tryz.ntmps207;go_wp2_with fail
 refine(Zb7 L hL (some (aD b off)) m cap _ _ (by omega) _).mono ?_
 rw[HW.out];rintro e w1 ⟨rfl,hb⟩
 have H1:Zc8 w L (some (aD b off)) m cap es w1:=by
  refine Zc8.next (x:=(w.alloc (.cells #[iV L,.slice (some (aD b off)) m cap] 118)).alloc (.cells #[iV 0,.slice none 0 0] 118)) ?_ (hb.mono (by simp))
  refine⟨by simp,by simp,by simp,by simp,by simp,by simp,by simp,((Below.refl _ _).alloc (Nat.le_refl _) _).alloc (by simp) _,?_⟩
  exact(hrow.below ((Below.refl _ _).alloc (Nat.le_refl _) _)).below ((Below.refl _ _).alloc (by simp) _)
 have hc0:=H1.c0;have hc1:=H1.c1;go_wp2_with fail;have hw1:IntKind.i64.wrap ((fr:Int)+n)=fr+n:=IntWalk.i64_in _ (by omega);have hw2:IntKind.i64.wrap ((fr:Int)+n+1)=fr+n+1:=IntWalk.i64_in _ (by omega)
 go_region_held3 (fun x=>x.cell? (aD w.heap.size 0)=some (iV L)/\x.cell? (aD w.heap.size 1)=some (.slice (some (aD b off)) m cap)/\Zc8 w L (some (aD b off)) m cap es x)
  (first|exact H1.drew.all|assumption)
  (first|(go_at_call 203;refine(Zc5 L (some (aD b off)) m cap es _ _ g.rising hgl ?_ HM.out).mono ?_;(exact Zc8.Yhw (w:=w) (L:=L) (n:=m) (cap:=cap) (by assumption));rintro e w' ⟨rfl,hbb⟩;have hnx:=Zc8.all (Zc8.next' (w:=w) (L:=L) (p:=some (aD b off)) (n:=m) (cap:=cap) (es:=es) hbb (by assumption))))
 clear hw1 hw2;obtain⟨hd0,hd1,H2⟩:=hnx;have hq1:cnt es fr<=m:=by rw[HM.out];exact Zdo es fr
 have hq2:=Zio es (show(fr:Int)<=(fr:Int)+n+1 by omega);have hq3:cnt es (fr+n+1)<=m:=by rw[HM.out];exact Zdo es (fr+n+1)
 have hm1:m<=1048577:=by rw[HM.out];exact hgl
 have hq4:=Nat.le_trans hq1 hcap;have hq5:=Nat.le_trans hq3 hcap;have hk1:=HX.out;have hk2:=HY.out
 generalize hb1:cnt es fr=b1 at*
 generalize hb2:cnt es (fr+n+1)=b2 at*
 have HB1:=hid hb1;have HB2:=hid hb2;clear hb1 hb2
 clear hrow HX HY;have HL1:Hid ((enc (es.take b1)).length=b1*1):=hid (by have:=HM.out;simp[enc];omega);have HL2:Hid ((enc (es.drop b2)).length=(m-b2)*1):=hid (by have:=HM.out;simp[enc];omega);obtain⟨i0,hi,hz0,hz1,hz2⟩:=info_parts Tryz.Zkd;have HQ:Hid (Zcw es fr n inn=es.take b1++([fr]++([]++es.drop b2))):=hid (by unfold Zcw;rw[HB1.out,HB2.out,hk1,hk2];cases inn<;>rfl);by_cases hcb:b2<cap
 focus
  go_wp2_with (first|(at_make;refine wpList_make_own _ rfl _ _ 28 rfl (w.heap.size+2) 3 i0 (iV 0) 1 Tryz.underlying28 hi hz0 hz1 .i64 .i64 _ (m+2) rfl rfl (by omega) (by rw[hz2];omega) (by unfold maxLen;omega) H2.sz ?_;intro w3 hown3 hgrow3;have H3:=H2.grown hgrow3 (fun k e=>by cases e) HRow.out;have f30:=H3.c0;have f31:=H3.c1)|(at_builtin;refine wpList_append_fits_any _ rfl (.tmp 36) (.tmp 40) 28 rfl (w.heap.size+2) 3 i0 1 Tryz.underlying28 hi hz1 w'.heap.size 0 (m+2) _ rfl hown3 _ b1 _ (enc (es.take b1)) rfl HL1.out (by intro h;cases h) (Zec H3.row (by rw[<-HM.out];exact hq1)) Zbe (by omega) ?_;intro w4 hown4 hgrow4;simp only[Nat.zero_add,List.nil_append]at hown4;have H4:=H3.grown hgrow4 (fun k e=>by cases e;exact H2.sz) HRow.out;have f40:=H4.c0;have f41:=H4.c1;clear f30 f31)|(at_builtin;refine wpList_append_fits_any _ rfl (.tmp 46) (.tmp 48) 28 rfl (w.heap.size+2) 3 i0 1 Tryz.underlying28 hi hz1 w'.heap.size _ (m+2) _ rfl (hown4.alloc _) _ 1 _ (enc [fr]) rfl rfl (by intro h;cases h) (Zgb _ _ _) Zbe (by omega) ?_;intro w5 hown5 hgrow5;have H5:=(H4.grown (World.grownBy_alloc _ _ none) (fun k e=>by cases e) HRow.out).grown hgrow5 (fun k e=>by cases e;exact H2.sz) HRow.out;have f50:=H5.c0;have f51:=H5.c1;clear f40 f41)|(at_builtin;refine wpList_append_fits_any _ rfl (.tmp 60) (.tmp 64) 28 rfl (w.heap.size+2) 3 i0 1 Tryz.underlying28 hi hz1 w'.heap.size _ (m+2) _ rfl hown5 (some (aD b (off+b2))) (m-b2) (cap-b2) (enc (es.drop b2)) rfl HL2.out (by intro h;cases h) (Zed H5.row (by rw[<-HM.out];exact hq3) (fun _=>rfl)) Zbe (by omega) ?_;intro w6 hown6 hgrow6;have H6:=H5.grown hgrow6 (fun k e=>by cases e;exact H2.sz) HRow.out;have f60:=H6.c0;have f61:=H6.c1;have f62:=H6.r0;have f63:=H6.r1;have f64:=H6.fz;have f65:=H6.fz1;clear f50 f51)|(go_at_call 204;refine(Zbg _ (by omega) _).mono ?_;rintro e w8 ⟨rfl,rfl⟩))
 rotate_left
 focus
  have HNe:Hid (¬b2<es.length):=hid (by have:=HM.out;omega)
  go_wp2_with (first|(at_make;refine wpList_make_own _ rfl _ _ 28 rfl (w.heap.size+2) 3 i0 (iV 0) 1 Tryz.underlying28 hi hz0 hz1 .i64 .i64 _ (m+2) rfl rfl (by omega) (by rw[hz2];omega) (by unfold maxLen;omega) H2.sz ?_;intro w3 hown3 hgrow3;have H3:=H2.grown hgrow3 (fun k e=>by cases e) HRow.out;have f30:=H3.c0;have f31:=H3.c1)|(at_builtin;refine wpList_append_fits_any _ rfl (.tmp 36) (.tmp 40) 28 rfl (w.heap.size+2) 3 i0 1 Tryz.underlying28 hi hz1 w'.heap.size 0 (m+2) _ rfl hown3 _ b1 _ (enc (es.take b1)) rfl HL1.out (by intro h;cases h) (Zec H3.row (by rw[<-HM.out];exact hq1)) Zbe (by omega) ?_;intro w4 hown4 hgrow4;simp only[Nat.zero_add,List.nil_append]at hown4;have H4:=H3.grown hgrow4 (fun k e=>by cases e;exact H2.sz) HRow.out;have f40:=H4.c0;have f41:=H4.c1;clear f30 f31)|(at_builtin;refine wpList_append_fits_any _ rfl (.tmp 46) (.tmp 48) 28 rfl (w.heap.size+2) 3 i0 1 Tryz.underlying28 hi hz1 w'.heap.size _ (m+2) _ rfl (hown4.alloc _) _ 1 _ (enc [fr]) rfl rfl (by intro h;cases h) (Zgb _ _ _) Zbe (by omega) ?_;intro w5 hown5 hgrow5;have H5:=(H4.grown (World.grownBy_alloc _ _ none) (fun k e=>by cases e) HRow.out).grown hgrow5 (fun k e=>by cases e;exact H2.sz) HRow.out;have f50:=H5.c0;have f51:=H5.c1;clear f40 f41)|(at_builtin;refine wpList_append_fits_any _ rfl (.tmp 60) (.tmp 64) 28 rfl (w.heap.size+2) 3 i0 1 Tryz.underlying28 hi hz1 w'.heap.size _ (m+2) _ rfl hown5 (some (aD b off)) (m-b2) (cap-b2) (enc (es.drop b2)) rfl HL2.out (by intro h;cases h) (Zed H5.row (by rw[<-HM.out];exact hq3) (fun h=>absurd h HNe.out)) Zbe (by omega) ?_;intro w6 hown6 hgrow6;have H6:=H5.grown hgrow6 (fun k e=>by cases e;exact H2.sz) HRow.out;have f60:=H6.c0;have f61:=H6.c1;have f62:=H6.r0;have f63:=H6.r1;have f64:=H6.fz;have f65:=H6.fz1;clear f50 f51)|(go_at_call 204;refine(Zbg _ (by omega) _).mono ?_;rintro e w8 ⟨rfl,rfl⟩))
 all_goals
  exact bodyPost_ret (v:=.tuple #[.agg #[iV L,.slice (some (aD w'.heap.size 0)) (b1+1+(m-b2)) (m+2)],iV 0]) (by simp[results,Tryz.results207,go_sem,(Zbq f62 f63 (iV L) (.slice (some (aD w'.heap.size 0)) (b1+1+(m-b2)) (m+2))).1,(Zbq f62 f63 (iV L) (.slice (some (aD w'.heap.size 0)) (b1+1+(m-b2)) (m+2))).2]) rfl
   (Zdw (by have e:enc (es.take b1)++enc [fr]++enc (es.drop b2)=enc (Zcw es fr n inn):=(by rw[HQ.out];simp[enc]);rw[e]at hown6;exact hown6) (by rw[HQ.out];have:=HM.out;simp;omega) (by omega) H6 H2.sz HW.out HE.out)
theorem Yds (L:Nat) (b off:Nat) (m cap:Nat) (es:List Nat) (fr n:Nat) (inn:Bool) (w:World) (g:Good L es) (hrow:Zb1 w (some (aD b off)) es) (hm:m=es.length) (hcap:m<=cap)
 (hn0:0<n) (hnL:fr+n<=L) (hk1:Zcm (cnt es fr)=inn) (hk2:Zcm (cnt es (fr+n+1))= !inn):
 Calls Tryz.prog 207 #[.agg #[iV L,.slice (some (aD b off)) m cap],iV fr,iV n,.bool inn] w (Zdg L (some (aD b off)) es fr n inn w):=by
 have hL:=g.small;have hgl:=Zct g;have HM:=hid hm;clear hm
 have HW:Hid (Zao L fr n=true):=hid (by unfold Zao;simp;omega);have HE:Hid (Zcd L es fr n inn=Zcw es fr n inn):=hid (by unfold Zcd;rw[HW.out,decide_eq_true (by omega)];simp);have HX:=hid hk1;have HY:=hid hk2;clear hk1 hk2
 have HRow:=hid hrow;have hnz:((n:Int)==0)=false:=beq_eq_false_iff_ne.2 (by omega);go_enter Tryz.func207,Tryz.ntmps207;go_wp2_with fail
 refine(Zb7 L hL (some (aD b off)) m cap _ _ (by omega) _).mono ?_
 rw[HW.out];rintro e w1 ⟨rfl,hb⟩
 have H1:Zc8 w L (some (aD b off)) m cap es w1:=by
  refine Zc8.next (x:=(w.alloc (.cells #[iV L,.slice (some (aD b off)) m cap] 118)).alloc (.cells #[iV 0,.slice none 0 0] 118)) ?_ (hb.mono (by simp))
  refine⟨by simp,by simp,by simp,by simp,by simp,by simp,by simp,((Below.refl _ _).alloc (Nat.le_refl _) _).alloc (by simp) _,?_⟩
  exact(hrow.below ((Below.refl _ _).alloc (Nat.le_refl _) _)).below ((Below.refl _ _).alloc (by simp) _)
 have hc0:=H1.c0;have hc1:=H1.c1;go_wp2_with fail;have hw1:IntKind.i64.wrap ((fr:Int)+n)=fr+n:=IntWalk.i64_in _ (by omega);have hw2:IntKind.i64.wrap ((fr:Int)+n+1)=fr+n+1:=IntWalk.i64_in _ (by omega)
 go_region_held3 (fun x=>x.cell? (aD w.heap.size 0)=some (iV L)/\x.cell? (aD w.heap.size 1)=some (.slice (some (aD b off)) m cap)/\Zc8 w L (some (aD b off)) m cap es x)
  (first|exact H1.drew.all|assumption)
  (first|(go_at_call 203;refine(Zc5 L (some (aD b off)) m cap es _ _ g.rising hgl ?_ HM.out).mono ?_;(exact Zc8.Yhw (w:=w) (L:=L) (n:=m) (cap:=cap) (by assumption));rintro e w' ⟨rfl,hbb⟩;have hnx:=Zc8.all (Zc8.next' (w:=w) (L:=L) (p:=some (aD b off)) (n:=m) (cap:=cap) (es:=es) hbb (by assumption))))
 clear hw1 hw2;obtain⟨hd0,hd1,H2⟩:=hnx;have hq1:cnt es fr<=m:=by rw[HM.out];exact Zdo es fr
 have hq2:=Zio es (show(fr:Int)<=(fr:Int)+n+1 by omega);have hq3:cnt es (fr+n+1)<=m:=by rw[HM.out];exact Zdo es (fr+n+1)
 have hm1:m<=1048577:=by rw[HM.out];exact hgl
 have hq4:=Nat.le_trans hq1 hcap;have hq5:=Nat.le_trans hq3 hcap;have hk1:=HX.out;have hk2:=HY.out
 generalize hb1:cnt es fr=b1 at*
 generalize hb2:cnt es (fr+n+1)=b2 at*
 have HB1:=hid hb1;have HB2:=hid hb2;clear hb1 hb2
 clear hrow HX HY;have HL1:Hid ((enc (es.take b1)).length=b1*1):=hid (by have:=HM.out;simp[enc];omega);have HL2:Hid ((enc (es.drop b2)).length=(m-b2)*1):=hid (by have:=HM.out;simp[enc];omega);obtain⟨i0,hi,hz0,hz1,hz2⟩:=info_parts Tryz.Zkd;have HQ:Hid (Zcw es fr n inn=es.take b1++([]++([fr+n]++es.drop b2))):=hid (by unfold Zcw;rw[HB1.out,HB2.out,hk1,hk2];cases inn<;>rfl);by_cases hcb:b2<cap
 focus
  go_wp2_with (first|(at_make;refine wpList_make_own _ rfl _ _ 28 rfl (w.heap.size+2) 3 i0 (iV 0) 1 Tryz.underlying28 hi hz0 hz1 .i64 .i64 _ (m+2) rfl rfl (by omega) (by rw[hz2];omega) (by unfold maxLen;omega) H2.sz ?_;intro w3 hown3 hgrow3;have H3:=H2.grown hgrow3 (fun k e=>by cases e) HRow.out;have f30:=H3.c0;have f31:=H3.c1)|(at_builtin;refine wpList_append_fits_any _ rfl (.tmp 36) (.tmp 40) 28 rfl (w.heap.size+2) 3 i0 1 Tryz.underlying28 hi hz1 w'.heap.size 0 (m+2) _ rfl hown3 _ b1 _ (enc (es.take b1)) rfl HL1.out (by intro h;cases h) (Zec H3.row (by rw[<-HM.out];exact hq1)) Zbe (by omega) ?_;intro w4 hown4 hgrow4;simp only[Nat.zero_add,List.nil_append]at hown4;have H4:=H3.grown hgrow4 (fun k e=>by cases e;exact H2.sz) HRow.out;have f40:=H4.c0;have f41:=H4.c1;clear f30 f31)|(at_builtin;refine wpList_append_fits_any _ rfl (.tmp 54) (.tmp 58) 28 rfl (w.heap.size+2) 3 i0 1 Tryz.underlying28 hi hz1 w'.heap.size _ (m+2) _ rfl (hown4.alloc _) _ 1 _ (enc [(fr+n)]) rfl rfl (by intro h;cases h) (Zgb _ _ _) Zbe (by omega) ?_;intro w5 hown5 hgrow5;have H5:=(H4.grown (World.grownBy_alloc _ _ none) (fun k e=>by cases e) HRow.out).grown hgrow5 (fun k e=>by cases e;exact H2.sz) HRow.out;have f50:=H5.c0;have f51:=H5.c1;clear f40 f41)|(at_builtin;refine wpList_append_fits_any _ rfl (.tmp 60) (.tmp 64) 28 rfl (w.heap.size+2) 3 i0 1 Tryz.underlying28 hi hz1 w'.heap.size _ (m+2) _ rfl hown5 (some (aD b (off+b2))) (m-b2) (cap-b2) (enc (es.drop b2)) rfl HL2.out (by intro h;cases h) (Zed H5.row (by rw[<-HM.out];exact hq3) (fun _=>rfl)) Zbe (by omega) ?_;intro w6 hown6 hgrow6;have H6:=H5.grown hgrow6 (fun k e=>by cases e;exact H2.sz) HRow.out;have f60:=H6.c0;have f61:=H6.c1;have f62:=H6.r0;have f63:=H6.r1;have f64:=H6.fz;have f65:=H6.fz1;clear f50 f51)|(go_at_call 204;refine(Zbg _ (by omega) _).mono ?_;rintro e w8 ⟨rfl,rfl⟩))
 rotate_left
 focus
  have HNe:Hid (¬b2<es.length):=hid (by have:=HM.out;omega)
  go_wp2_with (first|(at_make;refine wpList_make_own _ rfl _ _ 28 rfl (w.heap.size+2) 3 i0 (iV 0) 1 Tryz.underlying28 hi hz0 hz1 .i64 .i64 _ (m+2) rfl rfl (by omega) (by rw[hz2];omega) (by unfold maxLen;omega) H2.sz ?_;intro w3 hown3 hgrow3;have H3:=H2.grown hgrow3 (fun k e=>by cases e) HRow.out;have f30:=H3.c0;have f31:=H3.c1)|(at_builtin;refine wpList_append_fits_any _ rfl (.tmp 36) (.tmp 40) 28 rfl (w.heap.size+2) 3 i0 1 Tryz.underlying28 hi hz1 w'.heap.size 0 (m+2) _ rfl hown3 _ b1 _ (enc (es.take b1)) rfl HL1.out (by intro h;cases h) (Zec H3.row (by rw[<-HM.out];exact hq1)) Zbe (by omega) ?_;intro w4 hown4 hgrow4;simp only[Nat.zero_add,List.nil_append]at hown4;have H4:=H3.grown hgrow4 (fun k e=>by cases e;exact H2.sz) HRow.out;have f40:=H4.c0;have f41:=H4.c1;clear f30 f31)|(at_builtin;refine wpList_append_fits_any _ rfl (.tmp 54) (.tmp 58) 28 rfl (w.heap.size+2) 3 i0 1 Tryz.underlying28 hi hz1 w'.heap.size _ (m+2) _ rfl (hown4.alloc _) _ 1 _ (enc [(fr+n)]) rfl rfl (by intro h;cases h) (Zgb _ _ _) Zbe (by omega) ?_;intro w5 hown5 hgrow5;have H5:=(H4.grown (World.grownBy_alloc _ _ none) (fun k e=>by cases e) HRow.out).grown hgrow5 (fun k e=>by cases e;exact H2.sz) HRow.out;have f50:=H5.c0;have f51:=H5.c1;clear f40 f41)|(at_builtin;refine wpList_append_fits_any _ rfl (.tmp 60) (.tmp 64) 28 rfl (w.heap.size+2) 3 i0 1 Tryz.underlying28 hi hz1 w'.heap.size _ (m+2) _ rfl hown5 (some (aD b off)) (m-b2) (cap-b2) (enc (es.drop b2)) rfl HL2.out (by intro h;cases h) (Zed H5.row (by rw[<-HM.out];exact hq3) (fun h=>absurd h HNe.out)) Zbe (by omega) ?_;intro w6 hown6 hgrow6;have H6:=H5.grown hgrow6 (fun k e=>by cases e;exact H2.sz) HRow.out;have f60:=H6.c0;have f61:=H6.c1;have f62:=H6.r0;have f63:=H6.r1;have f64:=H6.fz;have f65:=H6.fz1;clear f50 f51)|(go_at_call 204;refine(Zbg _ (by omega) _).mono ?_;rintro e w8 ⟨rfl,rfl⟩))
 all_goals
  exact bodyPost_ret (v:=.tuple #[.agg #[iV L,.slice (some (aD w'.heap.size 0)) (b1+1+(m-b2)) (m+2)],iV 0]) (by simp[results,Tryz.results207,go_sem,(Zbq f62 f63 (iV L) (.slice (some (aD w'.heap.size 0)) (b1+1+(m-b2)) (m+2))).1,(Zbq f62 f63 (iV L) (.slice (some (aD w'.heap.size 0)) (b1+1+(m-b2)) (m+2))).2]) rfl
   (Zdw (by have e:enc (es.take b1)++enc [fr+n]++enc (es.drop b2)=enc (Zcw es fr n inn):=(by rw[HQ.out];simp[enc]);rw[e]at hown6;exact hown6) (by rw[HQ.out];have:=HM.out;simp;omega) (by omega) H6 H2.sz HW.out HE.out)
theorem Ydt (L:Nat) (b off:Nat) (m cap:Nat) (es:List Nat) (fr n:Nat) (inn:Bool) (w:World) (g:Good L es) (hrow:Zb1 w (some (aD b off)) es) (hm:m=es.length) (hcap:m<=cap)
 (hn0:0<n) (hnL:fr+n<=L) (hk1:Zcm (cnt es fr)=inn) (hk2:Zcm (cnt es (fr+n+1))=inn):
 Calls Tryz.prog 207 #[.agg #[iV L,.slice (some (aD b off)) m cap],iV fr,iV n,.bool inn] w (Zdg L (some (aD b off)) es fr n inn w):=by
 have hL:=g.small;have hgl:=Zct g;have HM:=hid hm;clear hm
 have HW:Hid (Zao L fr n=true):=hid (by unfold Zao;simp;omega);have HE:Hid (Zcd L es fr n inn=Zcw es fr n inn):=hid (by unfold Zcd;rw[HW.out,decide_eq_true (by omega)];simp);have HX:=hid hk1;have HY:=hid hk2;clear hk1 hk2
 have HRow:=hid hrow;have hnz:((n:Int)==0)=false:=beq_eq_false_iff_ne.2 (by omega);go_enter Tryz.func207,Tryz.ntmps207;go_wp2_with fail
 refine(Zb7 L hL (some (aD b off)) m cap _ _ (by omega) _).mono ?_
 rw[HW.out];rintro e w1 ⟨rfl,hb⟩
 have H1:Zc8 w L (some (aD b off)) m cap es w1:=by
  refine Zc8.next (x:=(w.alloc (.cells #[iV L,.slice (some (aD b off)) m cap] 118)).alloc (.cells #[iV 0,.slice none 0 0] 118)) ?_ (hb.mono (by simp))
  refine⟨by simp,by simp,by simp,by simp,by simp,by simp,by simp,((Below.refl _ _).alloc (Nat.le_refl _) _).alloc (by simp) _,?_⟩
  exact(hrow.below ((Below.refl _ _).alloc (Nat.le_refl _) _)).below ((Below.refl _ _).alloc (by simp) _)
 have hc0:=H1.c0;have hc1:=H1.c1;go_wp2_with fail;have hw1:IntKind.i64.wrap ((fr:Int)+n)=fr+n:=IntWalk.i64_in _ (by omega);have hw2:IntKind.i64.wrap ((fr:Int)+n+1)=fr+n+1:=IntWalk.i64_in _ (by omega)
 go_region_held3 (fun x=>x.cell? (aD w.heap.size 0)=some (iV L)/\x.cell? (aD w.heap.size 1)=some (.slice (some (aD b off)) m cap)/\Zc8 w L (some (aD b off)) m cap es x)
  (first|exact H1.drew.all|assumption)
  (first|(go_at_call 203;refine(Zc5 L (some (aD b off)) m cap es _ _ g.rising hgl ?_ HM.out).mono ?_;(exact Zc8.Yhw (w:=w) (L:=L) (n:=m) (cap:=cap) (by assumption));rintro e w' ⟨rfl,hbb⟩;have hnx:=Zc8.all (Zc8.next' (w:=w) (L:=L) (p:=some (aD b off)) (n:=m) (cap:=cap) (es:=es) hbb (by assumption))))
 clear hw1 hw2;obtain⟨hd0,hd1,H2⟩:=hnx;have hq1:cnt es fr<=m:=by rw[HM.out];exact Zdo es fr
 have hq2:=Zio es (show(fr:Int)<=(fr:Int)+n+1 by omega);have hq3:cnt es (fr+n+1)<=m:=by rw[HM.out];exact Zdo es (fr+n+1)
 have hm1:m<=1048577:=by rw[HM.out];exact hgl
 have hq4:=Nat.le_trans hq1 hcap;have hq5:=Nat.le_trans hq3 hcap;have hk1:=HX.out;have hk2:=HY.out
 generalize hb1:cnt es fr=b1 at*
 generalize hb2:cnt es (fr+n+1)=b2 at*
 have HB1:=hid hb1;have HB2:=hid hb2;clear hb1 hb2
 clear hrow HX HY;have HL1:Hid ((enc (es.take b1)).length=b1*1):=hid (by have:=HM.out;simp[enc];omega);have HL2:Hid ((enc (es.drop b2)).length=(m-b2)*1):=hid (by have:=HM.out;simp[enc];omega);obtain⟨i0,hi,hz0,hz1,hz2⟩:=info_parts Tryz.Zkd;have HQ:Hid (Zcw es fr n inn=es.take b1++([]++([]++es.drop b2))):=hid (by unfold Zcw;rw[HB1.out,HB2.out,hk1,hk2];cases inn<;>rfl);by_cases hcb:b2<cap
 focus
  go_wp2_with (first|(at_make;refine wpList_make_own _ rfl _ _ 28 rfl (w.heap.size+2) 3 i0 (iV 0) 1 Tryz.underlying28 hi hz0 hz1 .i64 .i64 _ (m+2) rfl rfl (by omega) (by rw[hz2];omega) (by unfold maxLen;omega) H2.sz ?_;intro w3 hown3 hgrow3;have H3:=H2.grown hgrow3 (fun k e=>by cases e) HRow.out;have f30:=H3.c0;have f31:=H3.c1)|(at_builtin;refine wpList_append_fits_any _ rfl (.tmp 36) (.tmp 40) 28 rfl (w.heap.size+2) 3 i0 1 Tryz.underlying28 hi hz1 w'.heap.size 0 (m+2) _ rfl hown3 _ b1 _ (enc (es.take b1)) rfl HL1.out (by intro h;cases h) (Zec H3.row (by rw[<-HM.out];exact hq1)) Zbe (by omega) ?_;intro w4 hown4 hgrow4;simp only[Nat.zero_add,List.nil_append]at hown4;have H4:=H3.grown hgrow4 (fun k e=>by cases e;exact H2.sz) HRow.out;have f40:=H4.c0;have f41:=H4.c1;clear f30 f31)|(at_builtin;refine wpList_append_fits_any _ rfl (.tmp 60) (.tmp 64) 28 rfl (w.heap.size+2) 3 i0 1 Tryz.underlying28 hi hz1 w'.heap.size _ (m+2) _ rfl hown4 (some (aD b (off+b2))) (m-b2) (cap-b2) (enc (es.drop b2)) rfl HL2.out (by intro h;cases h) (Zed H4.row (by rw[<-HM.out];exact hq3) (fun _=>rfl)) Zbe (by omega) ?_;intro w5 hown5 hgrow5;have H5:=H4.grown hgrow5 (fun k e=>by cases e;exact H2.sz) HRow.out;have f50:=H5.c0;have f51:=H5.c1;have f52:=H5.r0;have f53:=H5.r1;have f54:=H5.fz;have f55:=H5.fz1;clear f40 f41)|(go_at_call 204;refine(Zbg _ (by omega) _).mono ?_;rintro e w8 ⟨rfl,rfl⟩))
 rotate_left
 focus
  have HNe:Hid (¬b2<es.length):=hid (by have:=HM.out;omega)
  go_wp2_with (first|(at_make;refine wpList_make_own _ rfl _ _ 28 rfl (w.heap.size+2) 3 i0 (iV 0) 1 Tryz.underlying28 hi hz0 hz1 .i64 .i64 _ (m+2) rfl rfl (by omega) (by rw[hz2];omega) (by unfold maxLen;omega) H2.sz ?_;intro w3 hown3 hgrow3;have H3:=H2.grown hgrow3 (fun k e=>by cases e) HRow.out;have f30:=H3.c0;have f31:=H3.c1)|(at_builtin;refine wpList_append_fits_any _ rfl (.tmp 36) (.tmp 40) 28 rfl (w.heap.size+2) 3 i0 1 Tryz.underlying28 hi hz1 w'.heap.size 0 (m+2) _ rfl hown3 _ b1 _ (enc (es.take b1)) rfl HL1.out (by intro h;cases h) (Zec H3.row (by rw[<-HM.out];exact hq1)) Zbe (by omega) ?_;intro w4 hown4 hgrow4;simp only[Nat.zero_add,List.nil_append]at hown4;have H4:=H3.grown hgrow4 (fun k e=>by cases e;exact H2.sz) HRow.out;have f40:=H4.c0;have f41:=H4.c1;clear f30 f31)|(at_builtin;refine wpList_append_fits_any _ rfl (.tmp 60) (.tmp 64) 28 rfl (w.heap.size+2) 3 i0 1 Tryz.underlying28 hi hz1 w'.heap.size _ (m+2) _ rfl hown4 (some (aD b off)) (m-b2) (cap-b2) (enc (es.drop b2)) rfl HL2.out (by intro h;cases h) (Zed H4.row (by rw[<-HM.out];exact hq3) (fun h=>absurd h HNe.out)) Zbe (by omega) ?_;intro w5 hown5 hgrow5;have H5:=H4.grown hgrow5 (fun k e=>by cases e;exact H2.sz) HRow.out;have f50:=H5.c0;have f51:=H5.c1;have f52:=H5.r0;have f53:=H5.r1;have f54:=H5.fz;have f55:=H5.fz1;clear f40 f41)|(go_at_call 204;refine(Zbg _ (by omega) _).mono ?_;rintro e w8 ⟨rfl,rfl⟩))
 all_goals
  exact bodyPost_ret (v:=.tuple #[.agg #[iV L,.slice (some (aD w'.heap.size 0)) (b1+(m-b2)) (m+2)],iV 0]) (by simp[results,Tryz.results207,go_sem,(Zbq f52 f53 (iV L) (.slice (some (aD w'.heap.size 0)) (b1+(m-b2)) (m+2))).1,(Zbq f52 f53 (iV L) (.slice (some (aD w'.heap.size 0)) (b1+(m-b2)) (m+2))).2]) rfl
   (Zdw (by have e:enc (es.take b1)++enc (es.drop b2)=enc (Zcw es fr n inn):=(by rw[HQ.out];simp[enc]);rw[e]at hown5;exact hown5) (by rw[HQ.out];have:=HM.out;simp;omega) (by omega) H5 H2.sz HW.out HE.out)
end
end Go.Proofs.YtgcidfenjlmljaaGreat.Bt
