import Derived.Test.YtgcidfenjlmljaaGreatPg05
import Derived.Laws.MakeOwn
import Derived.Deep.RegionHeld3
import Derived.Laws.BitsAllLaws
import Derived.Test.YtgcidfenjlmljaaGreatPgR
set_option linter.unusedVariables false
set_option linter.unusedSimpArgs false
set_option maxRecDepth 100000
set_option maxHeartbeats 16000000
namespace Go.Proofs.YtgcidfenjlmljaaGreat.Bt
section
open Go Go.RowKit
def Za6 (k:Int):Bool:=k==1||k==2||k==4||k==8
def Zb9 (L:Nat) (es:List Nat) (a k:Int):Int:=if Za6 k then Zac L es a k else 2
theorem Ziw {k:Int} (h:Za6 k=true):k=1\/k=2\/k=4\/k=8:=by
 unfold Za6 at h;simpa[or_assoc]using h
theorem Ztz:Tryz.zeroCells124=Zat (fun _=>0) 0:=by kernel_rfl
section
variable {A P n cap:Nat} {s:ASt} {ps:List (Option Nat)} {p:Option Addr} {w:World}
theorem Zf3 (h:ArX A s P ps p n cap w) (a k:Int) (ha:a<=9223372036854775807):
 Calls Tryz.prog 107 #[pT A,iV a,iV k] w fun e w'=>e=.returned (iV (Zb9 s.L s.es a k))/\Below w.heap.size w w':=by
 by_cases h1:k=1\/k=2\/k=4\/k=8
 · have HT:=fun w (hw:ArX A s P ps p n cap w)=>Zep hw a k ha
   rcases h1 with rfl|rfl|rfl|rfl
   all_goals
    go_enter Tryz.func107,Tryz.ntmps107;go_wp2_with fail
    refine(HT _ h).mono ?_
    rintro e w1 ⟨rfl,hb⟩;go_wp2_with fail
    go_ret
    exact⟨rfl,hb⟩
 · have b1:(k !=1)=true:=by rw[bne_iff_ne];omega
   have b2:(k !=2)=true:=by rw[bne_iff_ne];omega
   have b4:(k !=4)=true:=by rw[bne_iff_ne];omega
   have b8:(k !=8)=true:=by rw[bne_iff_ne];omega
   have HR:Hid (Zb9 s.L s.es a k=2):=hid (by unfold Zb9 Za6;rw[if_neg];simp;omega);clear h1;go_enter Tryz.func107,Tryz.ntmps107;go_wp2_with fail
   go_ret
   exact⟨by rw[HR.out];rfl,Below.refl _ _⟩
theorem Yaa (h:ArX A s P ps p n cap w) (i b:Nat) (hi:i<s.L) (hb:ps[i]?=some (some b)):
 Calls Tryz.prog 64 #[pT A,iV i] w fun e w'=>e=.returned (pT b)/\w=w':=by
 obtain⟨c0,c1,c2,c3,c4⟩:=h.head;have hs:=h.slot hb;have hg:=h.Zch.small;simp only[Zie]at hs;have hi':(i:Int)<s.L:=by omega
 clear h hb;go_enter Tryz.func64,Tryz.ntmps64;go_wp2_with fail
 go_ret
 exact⟨rfl,rfl⟩
theorem Zst (h:ArX A s P ps p n cap w) (i:Nat) (hb:ps[i]?=some none) (hm:mem s.es i=true) (w':World)
 (hw:(w.setCell (aD P i) (.pointer (some (aD w.heap.size 0)))).alloc (.cells Tryz.zeroCells124 124)=w'):
 ArX A s P (ps.set i (some w.heap.size)) p n cap w'/\Step A P ps (ps.set i (some w.heap.size)) w w':=by
 have hP:=h.ltP;have hA:=h.ltA
 have hil:i<ps.length:=(List.getElem?_eq_some_iff.1 hb).1;have hsz:w'.heap.size=w.heap.size+1:=by rw[<-hw];simp
 have ho:∀k,k<w.heap.size->k≠P->w'.heap[k]?=w.heap[k]?:=fun k hk hkP=>by
  rw[<-hw,Below.heap_alloc _ _ _ (by rw[Zc1];exact hk),Below.heap_setCell _ _ _ _ (by exact hkP)]
 have hnew:w'.heap[w.heap.size]?=some (.cells Tryz.zeroCells124 124 (0,0)):=by
  rw[<-hw];have:=Zab (w.setCell (aD P i) (.pointer (some (aD w.heap.size 0)))) (.cells Tryz.zeroCells124 124)
  rw[Zc1]at this;exact this
 have hget:∀(j b:Nat),(ps.set i (some w.heap.size))[j]?=some (some b)->(j=i/\b=w.heap.size)\/(j≠i/\ps[j]?=some (some b)):=fun j b hj=>by
  rw[List.getElem?_set]at hj;by_cases e:i=j
  · subst e;rw[if_pos rfl,if_pos hil]at hj;cases hj;exact .inl ⟨rfl,rfl⟩
  · rw[if_neg e]at hj;exact .inr ⟨Ne.symm e,hj⟩
 refine⟨{h with
  len:=by rw[List.length_set];exact h.len
  hd:=(ho A hA h.ap).trans h.hd
  row:=?_
  pg:=fun j b hj=>?_
  no:=fun j hj k hk=>?_
  un:=fun j b hj=>?_
  edges:=h.edges.Zdn fun b off e=>ho b (h.ltE e) (h.eap b off e).2.1
  apg:=fun j b hj=>?_
  one:=fun j k b hj hk=>?_
  eap:=fun b off e=>⟨(h.eap b off e).1,(h.eap b off e).2.1,fun j hj=>?_⟩},⟨?_,?_,?_,by omega,fun k hk hn=>ho k hk fun e=>hn (.inr (.inl e)),fun j b hj=>?_⟩⟩
 · rw[<-hw,Below.heap_alloc _ _ _ (by rw[Zc1];exact hP),heap_set h.row]
   show some (Obj.cells ((Zm3 ps).setIfInBounds i (Zie (some w.heap.size))) _ _)=_;rw[Zy0]
 · rcases hget j b hj with⟨rfl,rfl⟩|⟨hne,hj'⟩
   · rw[hnew,Ztz]
     have e:Zat (fun _=>0) 0=Zat s.mm j:=by
      unfold Zat;exact congrArg List.toArray (List.map_congr_left fun k hk=>by rw[h.no j hb k (List.mem_range.1 hk)])
     rw[e]
   · exact(ho b (h.ltG hj') (h.apg j b hj').2).trans (h.pg j b hj')
 · refine h.no j ?_ k hk
   rw[List.getElem?_set]at hj;by_cases e:i=j
   · subst e;rw[if_pos rfl,if_pos hil]at hj;cases hj
   · rw[if_neg e]at hj;exact hj
 · rcases hget j b hj with⟨rfl,rfl⟩|⟨hne,hj'⟩
   · exact hm
   · exact h.un j b hj'
 · rcases hget j b hj with⟨rfl,rfl⟩|⟨hne,hj'⟩
   · omega
   · exact h.apg j b hj'
 · rcases hget j b hj with⟨rfl,rfl⟩|⟨hne,hj'⟩<;>rcases hget k _ hk with⟨rfl,hk2⟩|⟨hne2,hk'⟩
   · rfl
   · have:=h.ltG hk';omega
   · subst hk2;have:=h.ltG hj';omega
   · exact h.one j k b hj' hk'
 · rcases hget j b hj with⟨rfl,rfl⟩|⟨hne,hj'⟩
   · have:=h.ltE e;omega
   · exact(h.eap b off e).2.2 j hj'
 · rw[<-hw];rfl
 · rw[<-hw];rfl
 · rw[<-hw];rfl
 · rcases hget j b hj with⟨rfl,rfl⟩|⟨hne,hj'⟩
   · exact .inr (Nat.le_refl _)
   · exact .inl hj'
theorem Yab (h:ArX A s P ps p n cap w) (i:Nat) (hi:i<s.L) (hb:ps[i]?=some none) (hm:mem s.es i=true):
 Calls Tryz.prog 64 #[pT A,iV i] w fun e w'=>e=.returned (.pointer (some (aD w.heap.size 0)))/\
  ArX A s P (ps.set i (some w.heap.size)) p n cap w'/\Step A P ps (ps.set i (some w.heap.size)) w w':=by
 obtain⟨c0,c1,c2,c3,c4⟩:=h.head;have hs:=h.slot hb;have hg:=h.Zch.small;simp only[Zie]at hs;have hi':(i:Int)<s.L:=by omega
 have hf:=(Zaa h.row i).2;have hP:=h.ltP;have hA:=h.ltA
 have hne:A≠w.heap.size:=by omega
 have hne2:P≠w.heap.size:=by omega
 have hne3:=h.ap;go_enter Tryz.func64,Tryz.ntmps64;go_wp2_with fail
 go_ret
 obtain⟨z1,z2⟩:=Zst h i hb hm _ rfl
 exact⟨rfl,z1,z2⟩
def Yhl (A P i:Nat) (s:ASt) (ps:List (Option Nat)) (p:Option Addr) (n cap:Nat) (w:World) (e:Ending) (w':World):Prop:=
 ∃b ps',e=.returned (pT b)/\ps'[i]?=some (some b)/\ArX A s P ps' p n cap w'/\Step A P ps ps' w w'
theorem Zjn (h:ArX A s P ps p n cap w) (i:Nat) (hi:i<s.L) (hm:mem s.es i=true):
 Calls Tryz.prog 64 #[pT A,iV i] w (Yhl A P i s ps p n cap w):=by
 have hil:i<ps.length:=by rw[h.len];exact hi
 cases hq:ps[i]? with
 |none=>rw[List.getElem?_eq_none_iff]at hq;omega
 |some q=>
  cases q with
  |some b=>exact(Yaa h i b hi hq).mono fun e w' ⟨he,hw⟩=>⟨b,ps,he,hq,hw▸h,hw▸Step.refl _ _ _ _⟩
  |none=>exact(Yab h i hi hq hm).mono fun e w' ⟨he,hx,hs⟩=>⟨_,_,he,by rw[List.getElem?_set,if_pos rfl,if_pos hil],hx,hs⟩
end
end
section
open Go Go.RowKit Go.Shelf
def Zco (L:Nat):ASt:=⟨L,[],fun _=>0,false,0⟩
theorem Tryz.Ydv:(Tryz.prog.info? 122).map (fun i=>(i.zero,i.size,i.bytes))=some (some (.pointer none),1,8):=by kernel_rfl
theorem Zzu (L:Nat):madeCells (Value.pointer none).cells (L*1)=Zm3 (List.replicate L none):=by
 apply Array.ext_getElem?
 intro j;rw[Zk8];by_cases hj:j<L
 · simp[madeCells,hj,Value.cells,Zie,Nat.mod_one]
 · rw[Array.getElem?_eq_none (by rw[size_madeCells];omega),List.getElem?_eq_none (by simp;omega)];rfl
theorem Zm0 (L:Nat) (hL:L<=1048576) (w:World):
 (Instr.makeSlice 119 (iV L) (iV L)).run Tryz.prog w=.ok (.slice (some (aD w.heap.size 0)) L L) (w.alloc (.cells (Zm3 (List.replicate L none)) 122)):=by
 obtain⟨i0,hi,hz0,hz1,hz2⟩:=info_parts Tryz.Ydv;have h:=run_make (P:=Tryz.prog) w 119 122 i0 (.pointer none) Tryz.underlying119 hi hz0 .i64 .i64 (L:Int) L (by omega) (Int.le_refl _) (by rw[hz2];omega) (by omega);rw[Int.toNat_natCast,hz1,Zzu]at h;exact h
theorem Zvs (w w2:World) (L:Nat) (hL:L<=1048576) (hb:Below w.heap.size w w2) (P:Nat) (hP:w.heap.size<=P) (w3:World)
 (hw:(w2.alloc (.cells (Zm3 (List.replicate L none)) 122)).alloc (.cells (Zly (Zco L) w2.heap.size none 0 0) 121)=w3):
 ArX (w2.heap.size+1) (Zco L) w2.heap.size (List.replicate L none) none 0 0 w3:=by
 have g:Good L []:=⟨List.Pairwise.nil,rfl,(fun e h=>by cases h),hL⟩
 have hno:∀(i b:Nat),(List.replicate L (none:Option Nat))[i]?≠some (some b):=fun i b h=>by
  rw[List.getElem?_replicate]at h;split at h<;>cases h
 exact{
  Zch:=g
  len:=by simp;rfl
  hd:=by rw[<-hw];have:=Zab (w2.alloc (.cells (Zm3 (List.replicate L none)) 122)) (.cells (Zly (Zco L) w2.heap.size none 0 0) 121);simpa using this
  row:=by rw[<-hw,Below.heap_alloc _ _ _ (by simp)];exact Zab _ _
  pg:=fun i b h=>absurd h (hno i b)
  no:=fun _ _ _ _=>rfl
  un:=fun i b h=>absurd h (hno i b)
  edges:=.inl ⟨rfl,rfl⟩
  num:=rfl
  room:=Nat.le_refl _
  nil:=fun _=>rfl
  ap:=by omega
  apg:=fun i b h=>absurd h (hno i b)
  one:=fun i j b h _=>absurd h (hno i b)
  eap:=fun _ _ h=>by cases h
  lfb:=Nat.zero_le _}
def HN (S L:Nat) (w x:World):Prop:=x.cell? (aD S 0)=some (iV L)/\x.cell? (aD S 1)=some (.slice none 0 0)/\Below w.heap.size w x/\S<x.heap.size
theorem HN.below {S L:Nat} {w x y:World} (h:HN S L w x) (hb:Below x.heap.size x y):HN S L w y:=
 ⟨(hb.cell (p:=(aD S 0)) h.2.2.2).trans h.1,(hb.cell (p:=(aD S 1)) h.2.2.2).trans h.2.1,h.2.2.1.trans (hb.mono h.2.2.1.size),Nat.lt_of_lt_of_le h.2.2.2 hb.size⟩
theorem HN.all {S L:Nat} {w x:World} (h:HN S L w x):x.cell? (aD S 0)=some (iV L)/\x.cell? (aD S 1)=some (.slice none 0 0)/\HN S L w x:=⟨h.1,h.2.1,h⟩
theorem Zj2 (c:Int) (w:World):
 Calls Tryz.prog 54 #[iV c] w fun e w'=>∃A P,e=.returned (pT A)/\w.heap.size<=A/\w.heap.size<=P/\ArX A (Zco (Zhl c)) P (List.replicate (Zhl c) none) none 0 0 w'/\Below w.heap.size w w':=by
 have hL:=Ydm c;have hmk:=Zm0 (Zhl c) hL;go_enter Tryz.func54,Tryz.ntmps54;go_wp2_with fail
 refine(Zvt _ _).mono ?_
 rintro e w1 ⟨rfl,hb1⟩;generalize hLn:Zhl c=L at*
 have HLn:=hid hLn;clear hLn
 go_wp2_with fail;have HH:HN w1.heap.size L w (w1.alloc (.cells #[iV L,.slice none 0 0] 118)):=⟨by simp,by simp,hb1.alloc hb1.size _,by simp⟩;obtain⟨w2,hw2⟩:=eX (w1.alloc (.cells #[iV L,.slice none 0 0] 118));rw[hw2]at HH⊢;clear hw2;generalize w1.heap.size=S at*
 go_region_held3 (fun x=>x.cell? (aD S 0)=some (iV L)/\x.cell? (aD S 1)=some (.slice none 0 0)/\HN S L w x)
  (first|exact(HH.below (Below.refl _ _).drew).all|assumption|exact(hnx.2.2.below ((Below.refl _ _).alloc (Nat.le_refl _) _)).all|exact((hnx.2.2.below ((Below.refl _ _).alloc (Nat.le_refl _) _)).below ((Below.refl _ _).alloc (Nat.le_refl _) _)).all)
  (first|(go_at_call 117;refine(Ydl L none 0 0 _).mono ?_;rintro e w' ⟨rfl,hbb⟩;have hnx:=((HH.below (Below.refl _ _).drew).below hbb).all))
 obtain⟨_,_,hNX⟩:=hnx;have hB:=hNX.2.2.1;clear HH hmk;go_wp2_with fail
 go_ret
 rw[HLn.out]
 refine⟨w'.heap.size+1,w'.heap.size,rfl,by have:=hB.size;omega,hB.size,Zvs w w' L hL hB _ hB.size _ rfl,?_⟩
 exact(hB.alloc hB.size _).alloc (by have:=hB.size;simp;omega) _
def Zc6 (L:Nat) (es:List Nat) (a k:Int):Int:=if k<1 then 0 else Zg5 L es a k
def Zb6 (L:Nat) (a k:Int):Int:=if k<1 then 2 else Zbo L a k
section
variable {A P n cap:Nat} {s:ASt} {ps:List (Option Nat)} {p:Option Addr} {w:World}
theorem Ztn (a k:Int) (w:World):Calls Tryz.prog 175 #[.pointer none,iV a,iV k] w fun e w'=>e=.returned (.tuple #[iV 0,iV 1])/\w=w':=by
 go_enter Tryz.func175,Tryz.ntmps175;go_wp2_with fail
 go_ret2
 exact⟨rfl,rfl⟩
theorem Zto (h:ArX A s P ps p n cap w) (a k:Int) (ha:a<=9223372036854775807):
 Calls Tryz.prog 175 #[pT A,iV a,iV k] w fun e w'=>e=.returned (.tuple #[iV (Zc6 s.L s.es a k),iV (Zb6 s.L a k)])/\Below w.heap.size w w':=by
 obtain⟨c0,c1,c2,c3,c4⟩:=h.head;have g:=h.Zch;have HE:=hid h.edges;have HN:=hid h.num;clear h;by_cases hk:k<1
 · have HR:Hid (Zc6 s.L s.es a k=0/\Zb6 s.L a k=2):=hid (by unfold Zc6 Zb6;rw[if_pos hk,if_pos hk];exact⟨rfl,rfl⟩)
   go_enter Tryz.func175,Tryz.ntmps175;go_wp2_with fail
   go_ret2
   exact⟨by rw[HR.out.1,HR.out.2];rfl,Below.refl _ _⟩
 · have HR:Hid (Zc6 s.L s.es a k=Zg5 s.L s.es a k/\Zb6 s.L a k=Zbo s.L a k):=hid (by unfold Zc6 Zb6;rw[if_neg hk,if_neg hk];exact⟨rfl,rfl⟩)
   go_enter Tryz.func175,Tryz.ntmps175;go_wp2_with fail
   refine(Zxh s.L p n cap s.es a k _ g HN.out HE.out ha).mono ?_
   rintro e w1 ⟨rfl,hb1⟩;go_wp2_with fail
   go_ret2
   exact⟨by rw[HR.out.1,HR.out.2];rfl,hb1⟩
def Zd7 (s:ASt):Bool:=s.rf&&decide (s.lf=0)
def Zbs (s:ASt):ASt:=if s.rf then(if s.lf=0 then{s with rf:=false}else{s with lf:=s.lf-1})else s
theorem Zwi {s':ASt} {w':World} (h:ArX A s P ps p n cap w) (hL:s'.L=s.L) (he:s'.es=s.es) (hm:s'.mm=s.mm) (hl:s'.lf<=9223372036854775807)
 (hs:w'.heap.size=w.heap.size) (ht:w'.tape=w.tape) (ho2:w'.os=w.os) (ho3:w'.output=w.output) (hA:w'.heap[A]?=some (.cells (Zly s' P p n cap) 121 (0,0))) (ho:∀k,k≠A->w'.heap[k]?=w.heap[k]?):
 ArX A s' P ps p n cap w'/\Step A P ps ps w w':=by
 refine⟨{h with
  Zch:=by rw[hL,he];exact h.Zch
  len:=by rw[hL];exact h.len
  hd:=hA
  row:=(ho P (Ne.symm h.ap)).trans h.row
  pg:=fun i b hb=>by rw[hm];exact(ho b (h.apg i b hb).1).trans (h.pg i b hb)
  no:=fun i hi j hj=>by rw[hm];exact h.no i hi j hj
  un:=fun i b hb=>by rw[he];exact h.un i b hb
  edges:=by rw[he];exact h.edges.Zdn fun b off e=>ho b (h.eap b off e).1
  num:=by rw[he];exact h.num
  lfb:=hl},ho2,?_,?_,by omega,fun k _ hk=>ho k fun e=>hk (.inl e),fun i b hb=> .inl hb⟩
 · exact ht
 · exact ho3
theorem Zja (h:ArX A s P ps p n cap w):
 Calls Tryz.prog 176 #[pT A] w fun e w'=>e=.returned (.bool (Zd7 s))/\ArX A (Zbs s) P ps p n cap w'/\Step A P ps ps w w':=by
 obtain⟨c0,c1,c2,c3,c4⟩:=h.head;have hl:=h.lfb;have f2:=h.free 3;have f4:=h.free 4;have hd:=hid h.hd;cases hr:s.rf with
 |false=>
  have HR:Hid (Zd7 s=false/\Zbs s=s):=hid (by unfold Zd7 Zbs;rw[hr];exact⟨rfl,rfl⟩);rw[hr]at c3;have HH:=hid h;clear h hr;go_enter Tryz.func176,Tryz.ntmps176;go_wp2_with fail
  go_ret
  exact⟨by rw[HR.out.1];rfl,by rw[HR.out.2];exact HH.out,Step.refl _ _ _ _⟩
 |true=>
  rw[hr]at c3;by_cases h0:s.lf=0
  · have HR:Hid (Zd7 s=true/\Zbs s={s with rf:=false}):=hid (by unfold Zd7 Zbs;rw[hr,if_pos rfl,if_pos h0,h0];exact⟨rfl,rfl⟩)
    have hz:((s.lf:Nat):Int)=0:=by omega
    have hz2:¬(0:Int)<s.lf:=by omega
    have HL:=hid h0
    have HF:Hid (ArX A {s with rf:=false} P ps p n cap (w.setCell (aD A 3) (.bool false))/\Step A P ps ps w (w.setCell (aD A 3) (.bool false))):=Lib.hid
     (Zwi h rfl rfl rfl hl (Zc1 _ _ _) rfl rfl rfl (by rw[heap_set h.hd];rfl) fun k hk=>Below.heap_setCell _ _ _ _ (by exact hk))
    clear h hr h0 hz;go_enter Tryz.func176,Tryz.ntmps176;go_wp2_with fail
    go_ret
    exact⟨by rw[HR.out.1];rfl,by rw[HR.out.2];exact HF.out.1,HF.out.2⟩
  · have HR:Hid (Zd7 s=false/\Zbs s={s with lf:=s.lf-1}):=hid (by unfold Zd7 Zbs;rw[hr,if_pos rfl,if_neg h0,decide_eq_false h0];exact⟨rfl,rfl⟩)
    have hz2:(0:Int)<s.lf:=by omega
    have HF:Hid (ArX A {s with lf:=s.lf-1} P ps p n cap (w.setCell (aD A 4) (iV ((s.lf:Int)-1)))/\Step A P ps ps w (w.setCell (aD A 4) (iV ((s.lf:Int)-1)))):=Lib.hid
     (Zwi h rfl rfl rfl (by show s.lf-1<=_;omega) (Zc1 _ _ _) rfl rfl rfl (by rw[heap_set h.hd,show((s.lf:Int)-1)=((s.lf-1:Nat):Int)from by omega];rfl) fun k hk=>Below.heap_setCell _ _ _ _ (by exact hk))
    clear h hr h0;go_enter Tryz.func176,Tryz.ntmps176;go_wp2_with fail
    go_ret
    exact⟨by rw[HR.out.1];rfl,by rw[HR.out.2];exact HF.out.1,HF.out.2⟩
end
end
section
open Go Go.RowKit Go.Shelf
def Zau (s:ASt) (a k:Int):Int:=if Zb6 s.L a k≠0 then Zb6 s.L a k else if 0<Zc6 s.L s.es a k then 9 else if Zd7 s then 4 else 0
def Zaw (s:ASt) (a k:Int):ASt:=
 if Zb6 s.L a k≠0\/0<Zc6 s.L s.es a k then s else if Zd7 s then Zbs s else{Zbs s with es:=Zcd s.L s.es a k true}
theorem Zfg (s:ASt):(Zbs s).L=s.L:=by unfold Zbs;split;split<;>rfl;rfl
theorem Zjb (s:ASt):(Zbs s).es=s.es:=by unfold Zbs;split;split<;>rfl;rfl
theorem Zdk (s:ASt):(Zbs s).mm=s.mm:=by unfold Zbs;split;split<;>rfl;rfl
theorem Zjj {L:Nat} {es:List Nat} (g:Good L es) {fr k:Int} {inn:Bool} (hw:Zao L fr k=true) (i:Int):
 mem (Zcd L es fr k inn) i=if fr<=i/\i<fr+k then inn else mem es i:=by
 have hw':0<=fr/\0<=k/\k<=L-fr:=by simpa[Zao]using hw
 unfold Zcd;by_cases h0:k=0
 · subst h0;simp;omega
 · rw[hw,decide_eq_true h0]
   simp only[Bool.and_self,if_true];rw[Zzt g.rising];have e1:((fr.toNat:Nat):Int)=fr:=by omega
   have e2:((k.toNat:Nat):Int)=k:=by omega
   rw[e1,e2]
section
variable {A P n cap:Nat} {s:ASt} {ps:List (Option Nat)} {p:Option Addr} {w:World}
theorem Yad {w1:World} {p':Option Addr} {n' cap':Nat} {es':List Nat} (h:ArX A s P ps p n cap w) (hb:Below w.heap.size w w1) (g:Good s.L es') (hn:n'=es'.length) (hc:n'<=cap') (hp:p'=none->cap'=0)
 (hr:Zb1 w1 p' es') (ha:p'=p\/∃a,p'=some a/\w.heap.size<=a.block) (hu:∀i b:Nat,ps[i]?=some (some b)->mem es' (i:Int)=true):
 ArX A {s with es:=es'} P ps p' n' cap' ((w1.setCell (aD A 0) (iV (s.L:Int))).setCell (aD A 1) (.slice p' n' cap'))/\
 Step A P ps ps w ((w1.setCell (aD A 0) (iV (s.L:Int))).setCell (aD A 1) (.slice p' n' cap'))/\(∀b off,p'=some (aD b off)->p'=p\/w.heap.size<=b):=by
 have hA:=h.ltA;have h1:=h.below hb;have ho:∀k,k≠A->((w1.setCell (aD A 0) (iV (s.L:Int))).setCell (aD A 1) (.slice p' n' cap')).heap[k]?=w1.heap[k]?:=fun k hk=>Zq4 _ _ _ _ _ hk
 have hap:∀b off,p'=some (aD b off)->b≠A/\b≠P/\∀i:Nat,ps[i]?≠some (some b):=fun b off e=>by
  rcases ha with h2|⟨a,h2,h3⟩
  · rw[h2]at e;exact h.eap b off e
  · rw[e]at h2;cases h2
    have h4:w.heap.size<=b:=h3
    exact⟨by omega,by have:=h.ltP;omega,fun i hi=>by have:=h.ltG hi;omega⟩
 refine⟨{h1 with
  Zch:=g
  hd:=?_
  row:=(ho P (Ne.symm h.ap)).trans h1.row
  pg:=fun i b hb=>(ho b (h.apg i b hb).1).trans (h1.pg i b hb)
  un:=hu
  edges:=hr.Zdn fun b off e=>ho b (hap b off e).1
  num:=hn
  room:=hc
  nil:=hp
  eap:=hap},⟨hb.os,hb.tape,hb.output,?_,fun k hk hn=>(ho k fun e=>hn (.inl e)).trans (hb.block k hk),fun i b hb=> .inl hb⟩,fun b off e=>?_⟩
 · rw[heap_set (heap_set h1.hd _)];rfl
 · rw[Zc1,Zc1];exact hb.size
 · rcases ha with h2|⟨a,h2,h3⟩
   · exact .inl h2
   · rw[e]at h2;cases h2;exact .inr h3
theorem Ye4 (a k:Int) (w:World):Calls Tryz.prog 115 #[.pointer none,iV a,iV k] w fun e w'=>e=.returned (iV 1)/\w=w':=by
 go_enter Tryz.func115,Tryz.ntmps115;go_wp2_with fail
 refine(Ztn a k _).mono ?_
 rintro e w1 ⟨rfl,rfl⟩;go_wp2_with fail
 go_ret
 exact⟨rfl,rfl⟩
theorem Zhq (h:ArX A s P ps p n cap w) (a k:Int) (ha:a<=9223372036854775807):
 Calls Tryz.prog 115 #[pT A,iV a,iV k] w fun e w'=>e=.returned (iV (Zau s a k))/\Zel A P ps p (Zaw s a k) w w':=by
 have HC:=fun w (hw:ArX A s P ps p n cap w)=>Zto hw a k ha
 by_cases h1:Zb6 s.L a k=0
 · by_cases h2:0<Zc6 s.L s.es a k
   · have HE:Hid (Zau s a k=9/\Zaw s a k=s):=hid (by unfold Zau Zaw;rw[if_neg (by simpa using h1),if_pos h2,if_pos (.inr h2)];exact⟨rfl,rfl⟩)
     have H1:=hid h1;clear h1
     have HF:=hid h;go_enter Tryz.func115,Tryz.ntmps115;go_wp2_with fail
     refine(HC _ h).mono ?_
     rintro e w1 ⟨rfl,hb⟩;rw[H1.out];generalize Zc6 s.L s.es a k=c at*
     clear h;go_wp2_with fail
     go_ret
     exact⟨by rw[HE.out.1];rfl,by rw[HE.out.2];exact⟨ps,p,n,cap,HF.out.below hb,Step.Zad hb,fun _ _ _=> .inl rfl⟩⟩
   · have hno:¬(Zb6 s.L a k≠0\/0<Zc6 s.L s.es a k):=by rintro (h|h);exact h h1;exact h2 h
     have H1:=hid h1;have H2:=hid h2;have HF:=hid h;cases hr:Zd7 s with
     |true=>
      have HE:Hid (Zau s a k=4/\Zaw s a k=Zbs s):=hid (by
       unfold Zau Zaw;rw[if_neg (by simpa using h1),if_neg h2,if_neg hno,hr];exact⟨rfl,rfl⟩)
      clear h1 hno;go_enter Tryz.func115,Tryz.ntmps115;go_wp2_with fail
      refine(HC _ h).mono ?_
      rintro e w1 ⟨rfl,hb⟩;rw[H1.out];have h':=HF.out.below hb;have HR:=fun(hw:ArX A s P ps p n cap w1)=>Zja hw
      rw[hr]at HR;clear hr;generalize Zc6 s.L s.es a k=c at*
      clear h;go_wp2_with fail
      refine(HR h').mono ?_
      rintro e w2 ⟨rfl,hx,hst⟩;clear h';go_wp2_with fail
      go_ret
      exact⟨by rw[HE.out.1];rfl,by rw[HE.out.2];exact⟨ps,p,n,cap,hx,(Step.Zad hb).trans hst,fun _ _ _=> .inl rfl⟩⟩
     |false=>
      have hk:¬k<1:=fun hk=>by unfold Zb6 at h1;rw[if_pos hk]at h1;cases h1
      have hw:Zao s.L a k=true:=by
       unfold Zb6 Zbo at h1;rw[if_neg hk]at h1
       cases hq:Zao s.L a k with
       |true=>rfl
       |false=>rw[hq]at h1;cases h1
      have HE:Hid (Zau s a k=0/\Zaw s a k={Zbs s with es:=Zcd s.L s.es a k true}/\Zbo s.L a k=0):=hid (by
       unfold Zau Zaw Zbo;rw[if_neg (by simpa using h1),if_neg h2,if_neg hno,hr,hw];exact⟨rfl,rfl,rfl⟩)
      clear h1 hno;go_enter Tryz.func115,Tryz.ntmps115;go_wp2_with fail
      refine(HC _ h).mono ?_
      rintro e w1 ⟨rfl,hb⟩;rw[H1.out];have h':=HF.out.below hb;have HR:=fun(hw:ArX A s P ps p n cap w1)=>Zja hw
      rw[hr]at HR;clear hr;generalize Zc6 s.L s.es a k=c at*
      clear h;go_wp2_with fail
      refine(HR h').mono ?_
      rintro e w2 ⟨rfl,hx,hst⟩;clear h' HR;obtain⟨c0,c1,c2,c3,c4⟩:=hx.head;rw[Zfg]at c0 c2;have g:=hx.Zch;have hed:=hx.edges;have hnm:=hx.num
      rw[Zfg,Zjb]at g;rw[Zjb]at hed hnm
      have HN:=hid hnm;have HP:=hid hx.nil;have HX:=hid hx;have hcp:=hx.room
      have HED:=hid hed;clear hed hnm hx;go_wp2_with fail
      refine(Zp0 s.L p n cap s.es a k _ g HED.out HN.out hcp HP.out ha).mono ?_
      rintro e w3 ⟨p',n',cap',rfl,hn',hc',hp',hr',ha',hb3⟩
      have HS:=hid (Yad (es':=Zcd s.L s.es a k true) HX.out hb3 (by rw[Zfg];exact Zet g _ _ _) hn' hc' hp' hr' ha' (fun i b hib=>by
       have hu:=HX.out.un i b hib;rw[Zjb]at hu;rw[Zjj g hw];split
       · rfl
       · exact hu))
      rw[HE.out.2.2];have hx3:=HX.out.below hb3;obtain⟨d0,d1,_,_,_⟩:=hx3.head;have f0:=hx3.free 0;have f1:=hx3.free 1
      clear hn' hp' hx3 c0 c1 c2 c3 c4;go_wp2_with fail
      go_ret
      have hLe:((Zbs s).L:Int)=(s.L:Int):=by rw[Zfg]
      rw[hLe]at HS
      exact⟨by rw[HE.out.1];rfl,by rw[HE.out.2.1];exact⟨ps,p',n',cap',HS.out.1,((Step.Zad hb).trans hst).trans HS.out.2.1,fun b off e=>by
       rcases HS.out.2.2 b off e with h|h
       · exact .inl h
       · exact .inr (Nat.le_trans (Nat.le_trans hb.size hst.size) h)⟩⟩
 · have HE:Hid (Zau s a k=Zb6 s.L a k/\Zaw s a k=s):=hid (by unfold Zau Zaw;rw[if_pos h1,if_pos (.inl h1)];exact⟨rfl,rfl⟩)
   have hb0:(Zb6 s.L a k !=0)=true:=by rw[bne_iff_ne];exact h1
   have HF:=hid h;clear h1;go_enter Tryz.func115,Tryz.ntmps115;go_wp2_with fail
   refine(HC _ h).mono ?_
   rintro e w1 ⟨rfl,hb⟩;generalize Zb6 s.L a k=ce at*
   clear h;go_wp2_with fail
   go_ret
   exact⟨by rw[HE.out.1];rfl,by rw[HE.out.2];exact⟨ps,p,n,cap,HF.out.below hb,Step.Zad hb,fun _ _ _=> .inl rfl⟩⟩
end
end
section
open Go Go.RowKit Go.Shelf
def Zck (m:Nat->UInt8) (a:Nat):Nat->Nat
 |0=>0
 |k+1=>Zck m a k+(m (a+k)).toNat*2^(8*k)
theorem Zll (m:Nat->UInt8) (a k:Nat):Zck m a k<2^(8*k):=by
 induction k with
 |zero=>simp[Zck]
 |succ k ih=>
  unfold Zck;have hb:(m (a+k)).toNat<256:=(m (a+k)).toNat_lt;have e:2^(8*(k+1))=256*2^(8*k):=by rw[show 8*(k+1)=8*k+8 from by omega,Nat.pow_add];omega
  rw[e]
  have:(m (a+k)).toNat*2^(8*k)<=255*2^(8*k):=Nat.mul_le_mul_right _ (by omega)
  omega
theorem Ydc (x c j:Nat) (hx:x<2^(8*j)) (hc:c<256) (hj:j<8):
 bits .or .u64 (x:Int) (IntKind.u64.wrap (IntKind.u64.wrap (c:Int)*2^(8*j)))=((x+c*2^(8*j):Nat):Int):=by
 have hp:2^(8*j)<=2^56:=Nat.pow_le_pow_right (by omega) (by omega);have hcp:c*2^(8*j)<=255*2^56:=Nat.mul_le_mul (by omega) hp;have e1:IntKind.u64.wrap (c:Int)=(c:Int):=by rw[IntKind.wrap_u64];omega
 have e2:((c:Int)*2^(8*j))=((c*2^(8*j):Nat):Int):=by simp
 have e3:IntKind.u64.wrap (((c*2^(8*j):Nat):Int))=((c*2^(8*j):Nat):Int):=by rw[IntKind.wrap_u64];omega
 rw[e1,e2,e3,u64_or_nat _ _ (by omega) (by omega)]
 congr 1
 have:=Nat.shiftLeft_add_eq_or_of_lt hx c
 rw[Nat.shiftLeft_eq]at this;rw[Nat.or_comm,<-this,Nat.add_comm]
section
variable {A P n cap:Nat} {s:ASt} {ps:List (Option Nat)} {p:Option Addr} {w:World}
def Zir (m:Nat->UInt8) (L:Nat) (es:List Nat) (a k:Int) (w:World) (e:Ending) (w':World):Prop:=
 e=.returned (.tuple #[.int .u64 (if Zb9 L es a k=0 then(Zck m a.toNat k.toNat:Int)else 0),iV (Zb9 L es a k)])/\Below w.heap.size w w'
theorem Zz0 (h:ArX A s P ps p n cap w) (a k:Int) (ha:a<=9223372036854775807) (hn:Zb9 s.L s.es a k=0):
 Calls Tryz.prog 41 #[pT A,iV a,iV k] w (Zir s.mm s.L s.es a k w):=by
 have hw:Za6 k=true:=by
  unfold Zb9 at hn;cases hq:Za6 k with
  |true=>rfl
  |false=>rw[hq]at hn;cases hn
 have ht:Zbd s.L s.es a k=true:=by
  unfold Zb9 Zac at hn;rw[hw]at hn
  cases hq:Zbd s.L s.es a k with
  |true=>rfl
  |false=>rw[hq]at hn;cases hn
 obtain⟨t0,t1,t2,t3⟩:=(Zax h.Zch a k).1 ht;have hk8:1<=k/\k<=8:=by rcases Ziw hw with rfl|rfl|rfl|rfl<;>omega
 have HM:Hid (∀i:Int,a<=i->i<a+k->mem s.es (i/4096)=true):=hid t3;have hsm:=h.Zch.small;have HNU:=hid hn;have HC:=fun w (hw:ArX A s P ps p n cap w)=>Zf3 hw a k ha
 clear t3 hn hw ht;go_enter Tryz.func41,Tryz.ntmps41;go_wp2_with fail
 refine(HC _ h).mono ?_
 rintro e w1 ⟨rfl,hb⟩;rw[HNU.out];have h':=h.below hb;clear h HC;obtain⟨c0,c1,c2,c3,c4⟩:=h'.head;have HX:=hid h';clear h';obtain⟨an,rfl⟩:∃an:Nat,a=an:=⟨a.toNat,by omega⟩
 obtain⟨kn,rfl⟩:∃kn:Nat,k=kn:=⟨k.toNat,by omega⟩
 go_wp2_with fail
 go_loop [9,20] (fun x i=>∃j:Nat,j<=kn/\i=iV j/\x=.int .u64 (Zck s.mm an j:Int)) (fun _ i=>kn-(intOf i).toNat)
 case atStart=>exact⟨0,Nat.zero_le _,rfl,rfl⟩
 case round=>
  obtain⟨j,hj,rfl,rfl⟩:=hrel;by_cases hlt:j<kn
  · have hi:(an+j)/4096<s.L:=by omega
    have hil:(an+j)/4096<ps.length:=by rw[HX.out.len];exact hi
    have e1:((an:Int)+j).toNat=an+j:=by omega
    cases hq:ps[(an+j)/4096]? with
    |none=>rw[List.getElem?_eq_none_iff]at hq;omega
    |some q=>
     have hsl:=HX.out.slot hq;cases q with
     |none=>
      simp only[Zie]at hsl;have HQ:=hid hq;clear hq
      have hz:s.mm (an+j)=0:=by
       have:=HX.out.no _ HQ.out ((an+j)%4096) (by omega)
       rw[show(an+j)/4096*4096+(an+j)%4096=an+j from by omega]at this;exact this
      have HZ:Hid (Zck s.mm an (j+1)=Zck s.mm an j):=hid (by unfold Zck;rw[hz];cases j<;>simp[Zck]);clear hz;go_wp2_with fail
      go_round
      case rel=>exact⟨j+1,by omega,by go_num,by rw[HZ.out]⟩
      case measure=>simp[intOf];omega
     |some b=>
      have hby:=HX.out.byte hq (show(an+j)%4096<4096 by omega);simp only[Zie]at hsl;have HQ:=hid hq;clear hq
      have HZ:Hid (bits BinOp.or IntKind.u64 (Zck s.mm an j:Int) (IntKind.u64.wrap (IntKind.u64.wrap ((s.mm ((an+j)/4096*4096+(an+j)%4096)).toNat:Int)*2^(8*j)))=((Zck s.mm an (j+1):Nat):Int)):=hid (by
       rw[show(an+j)/4096*4096+(an+j)%4096=an+j from by omega];exact Ydc _ _ j (Zll _ _ _) (UInt8.toNat_lt _) (by omega))
      go_wp2_with fail
      go_round
      case rel=>exact⟨j+1,by omega,by go_num,by rw[HZ.out]⟩
      case measure=>simp[intOf];omega
  · have hje:j=kn:=by omega
    subst hje;go_wp2_with fail
    go_ret2
    refine⟨?_,hb⟩
    rw[HNU.out,if_pos rfl,Int.toNat_natCast,Int.toNat_natCast];rfl
theorem Ydj (h:ArX A s P ps p n cap w) (a k:Int) (ha:a<=9223372036854775807) (hn:Zb9 s.L s.es a k≠0):
 Calls Tryz.prog 41 #[pT A,iV a,iV k] w (Zir s.mm s.L s.es a k w):=by
 have hb0:(Zb9 s.L s.es a k !=0)=true:=by rw[bne_iff_ne];exact hn
 have HC:=fun w (hw:ArX A s P ps p n cap w)=>Zf3 hw a k ha
 have HNE:=hid hn;clear hn;go_enter Tryz.func41,Tryz.ntmps41;go_wp2_with fail
 refine(HC _ h).mono ?_
 rintro e w1 ⟨rfl,hb⟩;clear h HC;go_wp2_with fail
 go_ret2
 refine⟨?_,hb⟩
 rw[if_neg HNE.out];rfl
theorem Zlp (h:ArX A s P ps p n cap w) (a k:Int) (ha:a<=9223372036854775807):
 Calls Tryz.prog 41 #[pT A,iV a,iV k] w (Zir s.mm s.L s.es a k w):=by
 by_cases hn:Zb9 s.L s.es a k=0
 · exact Zz0 h a k ha hn
 · exact Ydj h a k ha hn
end
end
end Go.Proofs.YtgcidfenjlmljaaGreat.Bt
