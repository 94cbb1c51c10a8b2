/- ArWalksA, ArWalksB, ArWalksC. -/
import Derived.Test.YtpkaehpllldcmaaGreatDoorMoF
import Derived.Laws.MakeOwn
import Derived.Deep.RegionHeld3
section
namespace Go.Proofs.YtpkaehpllldcmaaGreatDoor.Bt
open Go Go.RowKit
section
variable {A P n cap:Nat} {s:ASt} {ps:List (Option Nat)} {p:Option Addr} {w:World}
theorem cap_any (h:ArX A s P ps p n cap w):
 Calls Tryz.prog 122 #[.pointer (some ⟨A,0,none⟩)] w fun e w'=>e=.returned (.int .i64 (s.L:Int))∧w=w':=by
 obtain⟨c0,c1,c2,c3,c4⟩:=h.head
 clear h
 go_enter Tryz.func122,Tryz.ntmps122
 go_wp2_with fail
 go_ret
 exact⟨rfl,rfl⟩
theorem there_any (h:ArX A s P ps p n cap w) (a k:Int) (ha:a≤9223372036854775807):
 Calls Tryz.prog 50 #[.pointer (some ⟨A,0,none⟩),.int .i64 a,.int .i64 k] w fun e w'=>e=.returned (.int .i64 (thereE s.L s.es a k))∧Below w.heap.size w w':=by
 obtain⟨c0,c1,c2,c3,c4⟩:=h.head
 have g:=h.good
 have hg:=g.small
 have HE:=Lib.hid h.edges
 have HN:=Lib.hid h.num
 clear h
 by_cases h1:a<0
 · have HR:Hid (thereE s.L s.es a k=3):=Lib.hid (by unfold thereE thereB;rw[show decide (0≤a∧0≤k∧k≤(s.L:Int)*4096-a)=false from by simp;omega];rfl)
   have hd:decide (a<0)=true:=by simpa using h1
   go_enter Tryz.func50,Tryz.ntmps50
   go_wp2_with fail
   go_ret
   exact⟨by rw[HR.out];rfl,Below.refl _ _⟩
 have d1:decide (a<0)=false:=by simpa using h1
 by_cases h2:k<0
 · have HR:Hid (thereE s.L s.es a k=3):=Lib.hid (by unfold thereE thereB;rw[show decide (0≤a∧0≤k∧k≤(s.L:Int)*4096-a)=false from by simp;omega];rfl)
   have hd:decide (k<0)=true:=by simpa using h2
   go_enter Tryz.func50,Tryz.ntmps50
   go_wp2_with fail
   go_ret
   exact⟨by rw[HR.out];rfl,Below.refl _ _⟩
 have d2:decide (k<0)=false:=by simpa using h2
 by_cases h3:(s.L:Int)*4096-a<k
 · have HR:Hid (thereE s.L s.es a k=3):=Lib.hid (by unfold thereE thereB;rw[show decide (0≤a∧0≤k∧k≤(s.L:Int)*4096-a)=false from by simp;omega];rfl)
   have hd:decide ((s.L:Int)*4096-a<k)=true:=by simpa using h3
   go_enter Tryz.func50,Tryz.ntmps50
   go_wp2_with fail
   go_ret
   exact⟨by rw[HR.out];rfl,Below.refl _ _⟩
 have d3:decide ((s.L:Int)*4096-a<k)=false:=by simpa using h3
 have hin:decide (0≤a∧0≤k∧k≤(s.L:Int)*4096-a)=true:=by simp;omega
 by_cases h4:k=0
 · have HR:Hid (thereE s.L s.es a k=0):=Lib.hid (by unfold thereE thereB;rw[hin,decide_eq_true h4];rfl)
   have hd:(k==0)=true:=by simpa using h4
   clear h4 hin
   go_enter Tryz.func50,Tryz.ntmps50
   go_wp2_with fail
   go_ret
   exact⟨by rw[HR.out];rfl,Below.refl _ _⟩
 have d4:(k==0)=false:=by simpa using h4
 have hq:a/4096≤9223372036854775807:=by omega
 have HQ:Hid (thereE s.L s.es a k=if(firstB s.L s.es (a/4096) false&&decide (firstV s.L s.es (a/4096) false≤(a+k-1)/4096))then 3 else 0):=Lib.hid (by
  unfold thereE thereB;rw[hin,decide_eq_false h4]
  cases firstB s.L s.es (a/4096) false&&decide (firstV s.L s.es (a/4096) false≤(a+k-1)/4096)<;>rfl)
 have hk1:1≤k:=by omega
 clear hin h4
 go_enter Tryz.func50,Tryz.ntmps50
 go_wp2_with fail
 refine(first_any s.L p n cap s.es (a/4096) false _ g HE.out HN.out).mono ?_
 rintro e w1 ⟨rfl,hb1⟩
 cases hfb:firstB s.L s.es (a/4096) false with
 |false=>
  rw[hfb]at HQ
  clear hfb
  go_wp2_with fail
  go_ret
  exact⟨by rw[HQ.out];rfl,hb1⟩
 |true=>
  rw[hfb]at HQ
  clear hfb
  generalize firstV s.L s.es (a/4096) false=v at*
  by_cases hv:v≤(a+k-1)/4096
  · have hdv:decide (v≤(a+k-1)/4096)=true:=by simpa using hv
    rw[hdv]at HQ
    go_wp2_with fail
    go_ret
    exact⟨by rw[HQ.out];rfl,hb1⟩
  · have hdv:decide (v≤(a+k-1)/4096)=false:=by simpa using hv
    rw[hdv]at HQ
    go_wp2_with fail
    go_ret
    exact⟨by rw[HQ.out];rfl,hb1⟩
end
end Go.Proofs.YtpkaehpllldcmaaGreatDoor.Bt
end
section
namespace Go.Proofs.YtpkaehpllldcmaaGreatDoor.Bt
open Go Go.RowKit
def wholeB (k:Int):Bool:=k==1||k==2||k==4||k==8
def numE (L:Nat) (es:List Nat) (a k:Int):Int:=if wholeB k then thereE L es a k else 2
theorem whole_cases {k:Int} (h:wholeB k=true):k=1∨k=2∨k=4∨k=8:=by
 unfold wholeB at h;simpa[or_assoc]using h
set_option maxRecDepth 1000000 in
theorem zero_page:Tryz.zeroCells90=pgCells (fun _=>0) 0:=by kernel_rfl
section
variable {A P n cap:Nat} {s:ASt} {ps:List (Option Nat)} {p:Option Addr} {w:World}
theorem number_any (h:ArX A s P ps p n cap w) (a k:Int) (ha:a≤9223372036854775807):
 Calls Tryz.prog 184 #[.pointer (some ⟨A,0,none⟩),.int .i64 a,.int .i64 k] w fun e w'=>e=.returned (.int .i64 (numE s.L s.es a k))∧Below w.heap.size w w':=by
 by_cases h1:k=1∨k=2∨k=4∨k=8
 · have HT:=fun w (hw:ArX A s P ps p n cap w)=>there_any hw a k ha
   rcases h1 with rfl|rfl|rfl|rfl
   all_goals
    go_enter Tryz.func184,Tryz.ntmps184
    go_wp2_with fail
    refine(HT _ h).mono ?_
    rintro e w1 ⟨rfl,hb⟩
    go_wp2_with fail
    go_ret
    exact⟨rfl,hb⟩
 · have b1:(k !=1)=true:=by rw[bne_iff_ne];omega
   have b2:(k !=2)=true:=by rw[bne_iff_ne];omega
   have b4:(k !=4)=true:=by rw[bne_iff_ne];omega
   have b8:(k !=8)=true:=by rw[bne_iff_ne];omega
   have HR:Hid (numE s.L s.es a k=2):=Lib.hid (by unfold numE wholeB;rw[if_neg];simp;omega)
   clear h1
   go_enter Tryz.func184,Tryz.ntmps184
   go_wp2_with fail
   go_ret
   exact⟨by rw[HR.out];rfl,Below.refl _ _⟩
theorem laid_old (h:ArX A s P ps p n cap w) (i b:Nat) (hi:i<s.L) (hb:ps[i]?=some (some b)):
 Calls Tryz.prog 37 #[.pointer (some ⟨A,0,none⟩),.int .i64 (i:Int)] w fun e w'=>e=.returned (.pointer (some ⟨b,0,none⟩))∧w=w':=by
 obtain⟨c0,c1,c2,c3,c4⟩:=h.head
 have hs:=h.slot hb
 have hg:=h.good.small
 simp only[ptrV]at hs
 have hi':(i:Int)<s.L:=by omega
 clear h hb
 go_enter Tryz.func37,Tryz.ntmps37
 go_wp2_with fail
 go_ret
 exact⟨rfl,rfl⟩
theorem laid_world (h:ArX A s P ps p n cap w) (i:Nat) (hb:ps[i]?=some none) (hm:mem s.es i=true) (w':World)
 (hw:(w.setCell ⟨P,i,none⟩ (.pointer (some ⟨w.heap.size,0,none⟩))).alloc (.cells Tryz.zeroCells90 90)=w'):
 ArX A s P (ps.set i (some w.heap.size)) p n cap w'∧Step A P ps (ps.set i (some w.heap.size)) w w':=by
 have hP:=h.ltP;have hA:=h.ltA
 have hil:i<ps.length:=(List.getElem?_eq_some_iff.1 hb).1
 have hsz:w'.heap.size=w.heap.size+1:=by rw[←hw];simp
 have ho:∀k,k<w.heap.size→k≠P→w'.heap[k]?=w.heap[k]?:=fun k hk hkP=>by
  rw[←hw,Below.heap_alloc _ _ _ (by rw[set_size];exact hk),Below.heap_setCell _ _ _ _ (by exact hkP)]
 have hnew:w'.heap[w.heap.size]?=some (.cells Tryz.zeroCells90 90 (0,0)):=by
  rw[←hw];have:=heap_new (w.setCell ⟨P,i,none⟩ (.pointer (some ⟨w.heap.size,0,none⟩))) (.cells Tryz.zeroCells90 90)
  rw[set_size]at this;exact this
 have hget:∀(j b:Nat),(ps.set i (some w.heap.size))[j]?=some (some b)→(j=i∧b=w.heap.size)∨(j≠i∧ps[j]?=some (some b)):=fun j b hj=>by
  rw[List.getElem?_set]at hj
  by_cases e:i=j
  · subst e;rw[if_pos rfl,if_pos hil]at hj;cases hj;exact .inl ⟨rfl,rfl⟩
  · rw[if_neg e]at hj;exact .inr ⟨Ne.symm e,hj⟩
 refine⟨{h with
  len:=by rw[List.length_set];exact h.len
  hd:=(ho A hA h.ap).trans h.hd
  row:=?_
  pg:=fun j b hj=>?_
  no:=fun j hj k hk=>?_
  un:=fun j b hj=>?_
  edges:=h.edges.keep fun b off e=>ho b (h.ltE e) (h.eap b off e).2.1
  apg:=fun j b hj=>?_
  one:=fun j k b hj hk=>?_
  eap:=fun b off e=>⟨(h.eap b off e).1,(h.eap b off e).2.1,fun j hj=>?_⟩},⟨?_,?_,?_,by omega,fun k hk hn=>ho k hk fun e=>hn (.inr (.inl e)),fun j b hj=>?_⟩⟩
 · rw[←hw,Below.heap_alloc _ _ _ (by rw[set_size];exact hP),heap_set h.row]
   show some (Obj.cells ((rowV ps).setIfInBounds i (ptrV (some w.heap.size))) _ _)=_
   rw[rowV_set]
 · rcases hget j b hj with⟨rfl,rfl⟩|⟨hne,hj'⟩
   · rw[hnew,zero_page]
     have e:pgCells (fun _=>0) 0=pgCells s.mm j:=by
      unfold pgCells
      exact congrArg List.toArray (List.map_congr_left fun k hk=>by rw[h.no j hb k (List.mem_range.1 hk)])
     rw[e]
   · exact(ho b (h.ltG hj') (h.apg j b hj').2).trans (h.pg j b hj')
 · refine h.no j ?_ k hk
   rw[List.getElem?_set]at hj
   by_cases e:i=j
   · subst e;rw[if_pos rfl,if_pos hil]at hj;cases hj
   · rw[if_neg e]at hj;exact hj
 · rcases hget j b hj with⟨rfl,rfl⟩|⟨hne,hj'⟩
   · exact hm
   · exact h.un j b hj'
 · rcases hget j b hj with⟨rfl,rfl⟩|⟨hne,hj'⟩
   · omega
   · exact h.apg j b hj'
 · rcases hget j b hj with⟨rfl,rfl⟩|⟨hne,hj'⟩<;>rcases hget k _ hk with⟨rfl,hk2⟩|⟨hne2,hk'⟩
   · rfl
   · have:=h.ltG hk';omega
   · subst hk2;have:=h.ltG hj';omega
   · exact h.one j k b hj' hk'
 · rcases hget j b hj with⟨rfl,rfl⟩|⟨hne,hj'⟩
   · have:=h.ltE e;omega
   · exact(h.eap b off e).2.2 j hj'
 · rw[←hw];rfl
 · rw[←hw];rfl
 · rw[←hw];rfl
 · rcases hget j b hj with⟨rfl,rfl⟩|⟨hne,hj'⟩
   · exact .inr (Nat.le_refl _)
   · exact .inl hj'
theorem laid_new (h:ArX A s P ps p n cap w) (i:Nat) (hi:i<s.L) (hb:ps[i]?=some none) (hm:mem s.es i=true):
 Calls Tryz.prog 37 #[.pointer (some ⟨A,0,none⟩),.int .i64 (i:Int)] w fun e w'=>e=.returned (.pointer (some ⟨w.heap.size,0,none⟩))∧
  ArX A s P (ps.set i (some w.heap.size)) p n cap w'∧Step A P ps (ps.set i (some w.heap.size)) w w':=by
 obtain⟨c0,c1,c2,c3,c4⟩:=h.head
 have hs:=h.slot hb
 have hg:=h.good.small
 simp only[ptrV]at hs
 have hi':(i:Int)<s.L:=by omega
 have hf:=(cell_blk h.row i).2
 have hP:=h.ltP;have hA:=h.ltA
 have hne:A≠w.heap.size:=by omega
 have hne2:P≠w.heap.size:=by omega
 have hne3:=h.ap
 go_enter Tryz.func37,Tryz.ntmps37
 go_wp2_with fail
 go_ret
 obtain⟨z1,z2⟩:=laid_world h i hb hm _ rfl
 exact⟨rfl,z1,z2⟩
def LaidTo (A P i:Nat) (s:ASt) (ps:List (Option Nat)) (p:Option Addr) (n cap:Nat) (w:World) (e:Ending) (w':World):Prop:=
 ∃b ps',e=.returned (.pointer (some ⟨b,0,none⟩))∧ps'[i]?=some (some b)∧ArX A s P ps' p n cap w'∧Step A P ps ps' w w'
theorem laid_page (h:ArX A s P ps p n cap w) (i:Nat) (hi:i<s.L) (hm:mem s.es i=true):
 Calls Tryz.prog 37 #[.pointer (some ⟨A,0,none⟩),.int .i64 (i:Int)] w (LaidTo A P i s ps p n cap w):=by
 have hil:i<ps.length:=by rw[h.len];exact hi
 cases hq:ps[i]? with
 |none=>rw[List.getElem?_eq_none_iff]at hq;omega
 |some q=>
  cases q with
  |some b=>exact(laid_old h i b hi hq).mono fun e w' ⟨he,hw⟩=>⟨b,ps,he,hq,hw▸h,hw▸Step.refl _ _ _ _⟩
  |none=>exact(laid_new h i hi hq hm).mono fun e w' ⟨he,hx,hs⟩=>⟨_,_,he,by rw[List.getElem?_set,if_pos rfl,if_pos hil],hx,hs⟩
end
end Go.Proofs.YtpkaehpllldcmaaGreatDoor.Bt
end
section
namespace Go.Proofs.YtpkaehpllldcmaaGreatDoor.Bt
open Go Go.RowKit Go.Shelf
set_option linter.unusedVariables false
def newS (L:Nat):ASt:=⟨L,[],fun _=>0,false,0⟩
theorem Tryz.infoPtr:(Tryz.prog.info? 88).map (fun i=>(i.zero,i.size,i.bytes))=some (some (.pointer none),1,8):=by kernel_rfl
theorem made_row (L:Nat):madeCells (Value.pointer none).cells (L*1)=rowV (List.replicate L none):=by
 apply Array.ext_getElem?
 intro j
 rw[rowV_get]
 by_cases hj:j<L
 · simp[madeCells,hj,Value.cells,ptrV,Nat.mod_one]
 · rw[Array.getElem?_eq_none (by rw[size_madeCells];omega),List.getElem?_eq_none (by simp;omega)];rfl
theorem run_pages (L:Nat) (hL:L≤1048576) (w:World):
 (Instr.makeSlice 75 (.int .i64 (L:Int)) (.int .i64 (L:Int))).run Tryz.prog w=.ok (.slice (some ⟨w.heap.size,0,none⟩) L L) (w.alloc (.cells (rowV (List.replicate L none)) 88)):=by
 obtain⟨i0,hi,hz0,hz1,hz2⟩:=info_parts Tryz.infoPtr
 have h:=run_make (P:=Tryz.prog) w 75 88 i0 (.pointer none) Tryz.underlying75 hi hz0 .i64 .i64 (L:Int) L (by omega) (Int.le_refl _) (by rw[hz2];omega) (by omega)
 rw[Int.toNat_natCast,hz1,made_row]at h
 exact h
theorem new_world (w w2:World) (L:Nat) (hL:L≤1048576) (hb:Below w.heap.size w w2) (P:Nat) (hP:w.heap.size≤P) (w3:World)
 (hw:(w2.alloc (.cells (rowV (List.replicate L none)) 88)).alloc (.cells (headV (newS L) w2.heap.size none 0 0) 78)=w3):
 ArX (w2.heap.size+1) (newS L) w2.heap.size (List.replicate L none) none 0 0 w3:=by
 have g:Good L []:=⟨List.Pairwise.nil,rfl,(fun e h=>by cases h),hL⟩
 have hno:∀(i b:Nat),(List.replicate L (none:Option Nat))[i]?≠some (some b):=fun i b h=>by
  rw[List.getElem?_replicate]at h;split at h<;>cases h
 exact{
  good:=g
  len:=by simp;rfl
  hd:=by rw[←hw];have:=heap_new (w2.alloc (.cells (rowV (List.replicate L none)) 88)) (.cells (headV (newS L) w2.heap.size none 0 0) 78);simpa using this
  row:=by rw[←hw,Below.heap_alloc _ _ _ (by simp)];exact heap_new _ _
  pg:=fun i b h=>absurd h (hno i b)
  no:=fun _ _ _ _=>rfl
  un:=fun i b h=>absurd h (hno i b)
  edges:=.inl ⟨rfl,rfl⟩
  num:=rfl
  room:=Nat.le_refl _
  nil:=fun _=>rfl
  ap:=by omega
  apg:=fun i b h=>absurd h (hno i b)
  one:=fun i j b h _=>absurd h (hno i b)
  eap:=fun _ _ h=>by cases h
  lfb:=Nat.zero_le _}
def HN (S L:Nat) (w x:World):Prop:=x.cell? ⟨S,0,none⟩=some (.int .i64 (L:Int))∧x.cell? ⟨S,1,none⟩=some (.slice none 0 0)∧Below w.heap.size w x∧S<x.heap.size
theorem HN.below {S L:Nat} {w x y:World} (h:HN S L w x) (hb:Below x.heap.size x y):HN S L w y:=
 ⟨(hb.cell (p:=⟨S,0,none⟩) h.2.2.2).trans h.1,(hb.cell (p:=⟨S,1,none⟩) h.2.2.2).trans h.2.1,h.2.2.1.trans (hb.mono h.2.2.1.size),Nat.lt_of_lt_of_le h.2.2.2 hb.size⟩
theorem HN.all {S L:Nat} {w x:World} (h:HN S L w x):x.cell? ⟨S,0,none⟩=some (.int .i64 (L:Int))∧x.cell? ⟨S,1,none⟩=some (.slice none 0 0)∧HN S L w x:=⟨h.1,h.2.1,h⟩
theorem arena_new (c:Int) (w:World):
 Calls Tryz.prog 5 #[.int .i64 c] w fun e w'=>∃A P,e=.returned (.pointer (some ⟨A,0,none⟩))∧w.heap.size≤A∧w.heap.size≤P∧ArX A (newS (lenN c)) P (List.replicate (lenN c) none) none 0 0 w'∧Below w.heap.size w w':=by
 have hL:=lenN_le c
 have hmk:=run_pages (lenN c) hL
 go_enter Tryz.func5,Tryz.ntmps5
 go_wp2_with fail
 refine(new_any _ _).mono ?_
 rintro e w1 ⟨rfl,hb1⟩
 generalize hLn:lenN c=L at*
 have HLn:=Lib.hid hLn;clear hLn
 go_wp2_with fail
 have HH:HN w1.heap.size L w (w1.alloc (.cells #[.int .i64 (L:Int),.slice none 0 0] 73)):=⟨by simp,by simp,hb1.alloc hb1.size _,by simp⟩
 obtain⟨w2,hw2⟩:∃w2,w1.alloc (.cells #[.int .i64 (L:Int),.slice none 0 0] 73)=w2:=⟨_,rfl⟩
 rw[hw2]at HH⊢
 clear hw2
 generalize w1.heap.size=S at*
 go_region_held3 (fun x=>x.cell? ⟨S,0,none⟩=some (.int .i64 (L:Int))∧x.cell? ⟨S,1,none⟩=some (.slice none 0 0)∧HN S L w x)
  (first|exact(HH.below (Below.refl _ _).drew).all|assumption|exact(hnx.2.2.below ((Below.refl _ _).alloc (Nat.le_refl _) _)).all|exact((hnx.2.2.below ((Below.refl _ _).alloc (Nat.le_refl _) _)).below ((Below.refl _ _).alloc (Nat.le_refl _) _)).all)
  (first|(go_at_call 26;refine(len_any L none 0 0 _).mono ?_;rintro e w' ⟨rfl,hbb⟩;have hnx:=((HH.below (Below.refl _ _).drew).below hbb).all))
 obtain⟨_,_,hNX⟩:=hnx
 have hB:=hNX.2.2.1
 clear HH hmk
 go_wp2_with fail
 go_ret
 rw[HLn.out]
 refine⟨w'.heap.size+1,w'.heap.size,rfl,by have:=hB.size;omega,hB.size,new_world w w' L hL hB _ hB.size _ rfl,?_⟩
 exact(hB.alloc hB.size _).alloc (by have:=hB.size;simp;omega) _
def countR (L:Nat) (es:List Nat) (a k:Int):Int:=if k<1 then 0 else countV L es a k
def countE (L:Nat) (a k:Int):Int:=if k<1 then 2 else laidErr L a k
section
variable {A P n cap:Nat} {s:ASt} {ps:List (Option Nat)} {p:Option Addr} {w:World}
theorem acount_nil (a k:Int) (w:World):Calls Tryz.prog 27 #[.pointer none,.int .i64 a,.int .i64 k] w fun e w'=>e=.returned (.tuple #[.int .i64 0,.int .i64 1])∧w=w':=by
 go_enter Tryz.func27,Tryz.ntmps27
 go_wp2_with fail
 go_ret2
 exact⟨rfl,rfl⟩
theorem acount_any (h:ArX A s P ps p n cap w) (a k:Int) (ha:a≤9223372036854775807):
 Calls Tryz.prog 27 #[.pointer (some ⟨A,0,none⟩),.int .i64 a,.int .i64 k] w fun e w'=>e=.returned (.tuple #[.int .i64 (countR s.L s.es a k),.int .i64 (countE s.L a k)])∧Below w.heap.size w w':=by
 obtain⟨c0,c1,c2,c3,c4⟩:=h.head
 have g:=h.good
 have HE:=Lib.hid h.edges
 have HN:=Lib.hid h.num
 clear h
 by_cases hk:k<1
 · have HR:Hid (countR s.L s.es a k=0∧countE s.L a k=2):=Lib.hid (by unfold countR countE;rw[if_pos hk,if_pos hk];exact⟨rfl,rfl⟩)
   go_enter Tryz.func27,Tryz.ntmps27
   go_wp2_with fail
   go_ret2
   exact⟨by rw[HR.out.1,HR.out.2];rfl,Below.refl _ _⟩
 · have HR:Hid (countR s.L s.es a k=countV s.L s.es a k∧countE s.L a k=laidErr s.L a k):=Lib.hid (by unfold countR countE;rw[if_neg hk,if_neg hk];exact⟨rfl,rfl⟩)
   go_enter Tryz.func27,Tryz.ntmps27
   go_wp2_with fail
   refine(count_any s.L p n cap s.es a k _ g HN.out HE.out ha).mono ?_
   rintro e w1 ⟨rfl,hb1⟩
   go_wp2_with fail
   go_ret2
   exact⟨by rw[HR.out.1,HR.out.2];rfl,hb1⟩
def refB (s:ASt):Bool:=s.rf&&decide (s.lf=0)
def refS (s:ASt):ASt:=if s.rf then(if s.lf=0 then{s with rf:=false}else{s with lf:=s.lf-1})else s
theorem headed {s':ASt} {w':World} (h:ArX A s P ps p n cap w) (hL:s'.L=s.L) (he:s'.es=s.es) (hm:s'.mm=s.mm) (hl:s'.lf≤9223372036854775807)
 (hs:w'.heap.size=w.heap.size) (ht:w'.tape=w.tape) (ho2:w'.os=w.os) (ho3:w'.output=w.output) (hA:w'.heap[A]?=some (.cells (headV s' P p n cap) 78 (0,0))) (ho:∀k,k≠A→w'.heap[k]?=w.heap[k]?):
 ArX A s' P ps p n cap w'∧Step A P ps ps w w':=by
 refine⟨{h with
  good:=by rw[hL,he];exact h.good
  len:=by rw[hL];exact h.len
  hd:=hA
  row:=(ho P (Ne.symm h.ap)).trans h.row
  pg:=fun i b hb=>by rw[hm];exact(ho b (h.apg i b hb).1).trans (h.pg i b hb)
  no:=fun i hi j hj=>by rw[hm];exact h.no i hi j hj
  un:=fun i b hb=>by rw[he];exact h.un i b hb
  edges:=by rw[he];exact h.edges.keep fun b off e=>ho b (h.eap b off e).1
  num:=by rw[he];exact h.num
  lfb:=hl},ho2,?_,?_,by omega,fun k _ hk=>ho k fun e=>hk (.inl e),fun i b hb=> .inl hb⟩
 · exact ht
 · exact ho3
theorem refuses_any (h:ArX A s P ps p n cap w):
 Calls Tryz.prog 28 #[.pointer (some ⟨A,0,none⟩)] w fun e w'=>e=.returned (.bool (refB s))∧ArX A (refS s) P ps p n cap w'∧Step A P ps ps w w':=by
 obtain⟨c0,c1,c2,c3,c4⟩:=h.head
 have hl:=h.lfb
 have f2:=h.free 3
 have f4:=h.free 4
 have hd:=Lib.hid h.hd
 cases hr:s.rf with
 |false=>
  have HR:Hid (refB s=false∧refS s=s):=Lib.hid (by unfold refB refS;rw[hr];exact⟨rfl,rfl⟩)
  rw[hr]at c3
  have HH:=Lib.hid h
  clear h hr
  go_enter Tryz.func28,Tryz.ntmps28
  go_wp2_with fail
  go_ret
  exact⟨by rw[HR.out.1];rfl,by rw[HR.out.2];exact HH.out,Step.refl _ _ _ _⟩
 |true=>
  rw[hr]at c3
  by_cases h0:s.lf=0
  · have HR:Hid (refB s=true∧refS s={s with rf:=false}):=Lib.hid (by unfold refB refS;rw[hr,if_pos rfl,if_pos h0,h0];exact⟨rfl,rfl⟩)
    have hz:((s.lf:Nat):Int)=0:=by omega
    have hz2:¬(0:Int)<s.lf:=by omega
    have HL:=Lib.hid h0
    have HF:Hid (ArX A {s with rf:=false} P ps p n cap (w.setCell ⟨A,3,none⟩ (.bool false))∧Step A P ps ps w (w.setCell ⟨A,3,none⟩ (.bool false))):=Lib.hid
     (headed h rfl rfl rfl hl (set_size _ _ _) rfl rfl rfl (by rw[heap_set h.hd];rfl) fun k hk=>Below.heap_setCell _ _ _ _ (by exact hk))
    clear h hr h0 hz
    go_enter Tryz.func28,Tryz.ntmps28
    go_wp2_with fail
    go_ret
    exact⟨by rw[HR.out.1];rfl,by rw[HR.out.2];exact HF.out.1,HF.out.2⟩
  · have HR:Hid (refB s=false∧refS s={s with lf:=s.lf-1}):=Lib.hid (by unfold refB refS;rw[hr,if_pos rfl,if_neg h0,decide_eq_false h0];exact⟨rfl,rfl⟩)
    have hz2:(0:Int)<s.lf:=by omega
    have HF:Hid (ArX A {s with lf:=s.lf-1} P ps p n cap (w.setCell ⟨A,4,none⟩ (.int .i64 ((s.lf:Int)-1)))∧Step A P ps ps w (w.setCell ⟨A,4,none⟩ (.int .i64 ((s.lf:Int)-1)))):=Lib.hid
     (headed h rfl rfl rfl (by show s.lf-1≤_;omega) (set_size _ _ _) rfl rfl rfl (by rw[heap_set h.hd,show((s.lf:Int)-1)=((s.lf-1:Nat):Int)from by omega];rfl) fun k hk=>Below.heap_setCell _ _ _ _ (by exact hk))
    clear h hr h0
    go_enter Tryz.func28,Tryz.ntmps28
    go_wp2_with fail
    go_ret
    exact⟨by rw[HR.out.1];rfl,by rw[HR.out.2];exact HF.out.1,HF.out.2⟩
end
end Go.Proofs.YtpkaehpllldcmaaGreatDoor.Bt
end
