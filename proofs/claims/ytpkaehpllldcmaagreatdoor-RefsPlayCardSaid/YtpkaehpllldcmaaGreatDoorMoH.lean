/- ArWalksD, ArWalksE, ArWalksF. -/
import Derived.Test.YtpkaehpllldcmaaGreatDoorMoG
import Derived.Laws.BitsAllLaws
import Derived.Deep.RegionWith
section
namespace Go.Proofs.YtpkaehpllldcmaaGreatDoor.Bt
open Go Go.RowKit Go.Shelf
set_option linter.unusedVariables false
def commitE (s:ASt) (a k:Int):Int:=if countE s.L a k≠0 then countE s.L a k else if 0<countR s.L s.es a k then 9 else if refB s then 4 else 0
def commitS (s:ASt) (a k:Int):ASt:=
 if countE s.L a k≠0∨0<countR s.L s.es a k then s else if refB s then refS s else{refS s with es:=laidS s.L s.es a k true}
theorem refS_L (s:ASt):(refS s).L=s.L:=by unfold refS;split;split<;>rfl;rfl
theorem refS_es (s:ASt):(refS s).es=s.es:=by unfold refS;split;split<;>rfl;rfl
theorem mem_laidS {L:Nat} {es:List Nat} (g:Good L es) {fr k:Int} {inn:Bool} (hw:withinB L fr k=true) (i:Int):
 mem (laidS L es fr k inn) i=if fr≤i∧i<fr+k then inn else mem es i:=by
 have hw':0≤fr∧0≤k∧k≤L-fr:=by simpa[withinB]using hw
 unfold laidS
 by_cases h0:k=0
 · subst h0;simp;omega
 · rw[hw,decide_eq_true h0]
   simp only[Bool.and_self,if_true]
   rw[mem_laid g.rising]
   have e1:((fr.toNat:Nat):Int)=fr:=by omega
   have e2:((k.toNat:Nat):Int)=k:=by omega
   rw[e1,e2]
section
variable {A P n cap:Nat} {s:ASt} {ps:List (Option Nat)} {p:Option Addr} {w:World}
theorem held_set {w1:World} {p':Option Addr} {n' cap':Nat} {es':List Nat} (h:ArX A s P ps p n cap w) (hb:Below w.heap.size w w1) (g:Good s.L es') (hn:n'=es'.length) (hc:n'≤cap') (hp:p'=none→cap'=0)
 (hr:RowAt w1 p' es') (ha:p'=p∨∃a,p'=some a∧w.heap.size≤a.block) (hu:∀i b:Nat,ps[i]?=some (some b)→mem es' (i:Int)=true):
 ArX A {s with es:=es'} P ps p' n' cap' ((w1.setCell ⟨A,0,none⟩ (.int .i64 (s.L:Int))).setCell ⟨A,1,none⟩ (.slice p' n' cap'))∧
 Step A P ps ps w ((w1.setCell ⟨A,0,none⟩ (.int .i64 (s.L:Int))).setCell ⟨A,1,none⟩ (.slice p' n' cap'))∧(∀b off,p'=some ⟨b,off,none⟩→p'=p∨w.heap.size≤b):=by
 have hA:=h.ltA
 have h1:=h.below hb
 have ho:∀k,k≠A→((w1.setCell ⟨A,0,none⟩ (.int .i64 (s.L:Int))).setCell ⟨A,1,none⟩ (.slice p' n' cap')).heap[k]?=w1.heap[k]?:=fun k hk=>heap_two _ _ _ _ _ hk
 have hap:∀b off,p'=some ⟨b,off,none⟩→b≠A∧b≠P∧∀i:Nat,ps[i]?≠some (some b):=fun b off e=>by
  rcases ha with h2|⟨a,h2,h3⟩
  · rw[h2]at e;exact h.eap b off e
  · rw[e]at h2;cases h2
    have h4:w.heap.size≤b:=h3
    exact⟨by omega,by have:=h.ltP;omega,fun i hi=>by have:=h.ltG hi;omega⟩
 refine⟨{h1 with
  good:=g
  hd:=?_
  row:=(ho P (Ne.symm h.ap)).trans h1.row
  pg:=fun i b hb=>(ho b (h.apg i b hb).1).trans (h1.pg i b hb)
  un:=hu
  edges:=hr.keep fun b off e=>ho b (hap b off e).1
  num:=hn
  room:=hc
  nil:=hp
  eap:=hap},⟨hb.os,hb.tape,hb.output,?_,fun k hk hn=>(ho k fun e=>hn (.inl e)).trans (hb.block k hk),fun i b hb=> .inl hb⟩,fun b off e=>?_⟩
 · rw[heap_set (heap_set h1.hd _)];rfl
 · rw[set_size,set_size];exact hb.size
 · rcases ha with h2|⟨a,h2,h3⟩
   · exact .inl h2
   · rw[e]at h2;cases h2;exact .inr h3
theorem commit_nil (a k:Int) (w:World):Calls Tryz.prog 6 #[.pointer none,.int .i64 a,.int .i64 k] w fun e w'=>e=.returned (.int .i64 1)∧w=w':=by
 go_enter Tryz.func6,Tryz.ntmps6
 go_wp2_with fail
 refine(acount_nil a k _).mono ?_
 rintro e w1 ⟨rfl,rfl⟩
 go_wp2_with fail
 go_ret
 exact⟨rfl,rfl⟩
theorem commit_any (h:ArX A s P ps p n cap w) (a k:Int) (ha:a≤9223372036854775807):
 Calls Tryz.prog 6 #[.pointer (some ⟨A,0,none⟩),.int .i64 a,.int .i64 k] w fun e w'=>e=.returned (.int .i64 (commitE s a k))∧Turned A P ps p (commitS s a k) w w':=by
 have HC:=fun w (hw:ArX A s P ps p n cap w)=>acount_any hw a k ha
 by_cases h1:countE s.L a k=0
 · by_cases h2:0<countR s.L s.es a k
   · have HE:Hid (commitE s a k=9∧commitS s a k=s):=Lib.hid (by unfold commitE commitS;rw[if_neg (by simpa using h1),if_pos h2,if_pos (.inr h2)];exact⟨rfl,rfl⟩)
     have H1:=Lib.hid h1;clear h1
     have HF:=Lib.hid h
     go_enter Tryz.func6,Tryz.ntmps6
     go_wp2_with fail
     refine(HC _ h).mono ?_
     rintro e w1 ⟨rfl,hb⟩
     rw[H1.out]
     generalize countR s.L s.es a k=c at*
     clear h
     go_wp2_with fail
     go_ret
     exact⟨by rw[HE.out.1];rfl,by rw[HE.out.2];exact⟨ps,p,n,cap,HF.out.below hb,Step.of_below hb,fun _ _ _=> .inl rfl⟩⟩
   · have hno:¬(countE s.L a k≠0∨0<countR s.L s.es a k):=by rintro (h|h);exact h h1;exact h2 h
     have H1:=Lib.hid h1
     have H2:=Lib.hid h2
     have HF:=Lib.hid h
     cases hr:refB s with
     |true=>
      have HE:Hid (commitE s a k=4∧commitS s a k=refS s):=Lib.hid (by
       unfold commitE commitS;rw[if_neg (by simpa using h1),if_neg h2,if_neg hno,hr];exact⟨rfl,rfl⟩)
      clear h1 hno
      go_enter Tryz.func6,Tryz.ntmps6
      go_wp2_with fail
      refine(HC _ h).mono ?_
      rintro e w1 ⟨rfl,hb⟩
      rw[H1.out]
      have h':=HF.out.below hb
      have HR:=fun(hw:ArX A s P ps p n cap w1)=>refuses_any hw
      rw[hr]at HR
      clear hr
      generalize countR s.L s.es a k=c at*
      clear h
      go_wp2_with fail
      refine(HR h').mono ?_
      rintro e w2 ⟨rfl,hx,hst⟩
      clear h'
      go_wp2_with fail
      go_ret
      exact⟨by rw[HE.out.1];rfl,by rw[HE.out.2];exact⟨ps,p,n,cap,hx,(Step.of_below hb).trans hst,fun _ _ _=> .inl rfl⟩⟩
     |false=>
      have hk:¬k<1:=fun hk=>by unfold countE at h1;rw[if_pos hk]at h1;cases h1
      have hw:withinB s.L a k=true:=by
       unfold countE laidErr at h1;rw[if_neg hk]at h1
       cases hq:withinB s.L a k with
       |true=>rfl
       |false=>rw[hq]at h1;cases h1
      have HE:Hid (commitE s a k=0∧commitS s a k={refS s with es:=laidS s.L s.es a k true}∧laidErr s.L a k=0):=Lib.hid (by
       unfold commitE commitS laidErr;rw[if_neg (by simpa using h1),if_neg h2,if_neg hno,hr,hw];exact⟨rfl,rfl,rfl⟩)
      clear h1 hno
      go_enter Tryz.func6,Tryz.ntmps6
      go_wp2_with fail
      refine(HC _ h).mono ?_
      rintro e w1 ⟨rfl,hb⟩
      rw[H1.out]
      have h':=HF.out.below hb
      have HR:=fun(hw:ArX A s P ps p n cap w1)=>refuses_any hw
      rw[hr]at HR
      clear hr
      generalize countR s.L s.es a k=c at*
      clear h
      go_wp2_with fail
      refine(HR h').mono ?_
      rintro e w2 ⟨rfl,hx,hst⟩
      clear h' HR
      obtain⟨c0,c1,c2,c3,c4⟩:=hx.head
      rw[refS_L]at c0 c2
      have g:=hx.good;have hed:=hx.edges;have hnm:=hx.num
      rw[refS_L,refS_es]at g;rw[refS_es]at hed hnm
      have HN:=Lib.hid hnm;have HP:=Lib.hid hx.nil;have HX:=Lib.hid hx;have hcp:=hx.room
      have HED:=Lib.hid hed
      clear hed hnm hx
      go_wp2_with fail
      refine(with_any s.L p n cap s.es a k _ g HED.out HN.out hcp HP.out ha).mono ?_
      rintro e w3 ⟨p',n',cap',rfl,hn',hc',hp',hr',ha',hb3⟩
      have HS:=Lib.hid (held_set (es':=laidS s.L s.es a k true) HX.out hb3 (by rw[refS_L];exact laidS_good g _ _ _) hn' hc' hp' hr' ha' (fun i b hib=>by
       have hu:=HX.out.un i b hib
       rw[refS_es]at hu
       rw[mem_laidS g hw];split
       · rfl
       · exact hu))
      rw[HE.out.2.2]
      have hx3:=HX.out.below hb3
      obtain⟨d0,d1,_,_,_⟩:=hx3.head
      have f0:=hx3.free 0;have f1:=hx3.free 1
      clear hn' hp' hx3 c0 c1 c2 c3 c4
      go_wp2_with fail
      go_ret
      have hLe:((refS s).L:Int)=(s.L:Int):=by rw[refS_L]
      rw[hLe]at HS
      exact⟨by rw[HE.out.1];rfl,by rw[HE.out.2.1];exact⟨ps,p',n',cap',HS.out.1,((Step.of_below hb).trans hst).trans HS.out.2.1,fun b off e=>by
       rcases HS.out.2.2 b off e with h|h
       · exact .inl h
       · exact .inr (Nat.le_trans (Nat.le_trans hb.size hst.size) h)⟩⟩
 · have HE:Hid (commitE s a k=countE s.L a k∧commitS s a k=s):=Lib.hid (by unfold commitE commitS;rw[if_pos h1,if_pos (.inl h1)];exact⟨rfl,rfl⟩)
   have hb0:(countE s.L a k !=0)=true:=by rw[bne_iff_ne];exact h1
   have HF:=Lib.hid h
   clear h1
   go_enter Tryz.func6,Tryz.ntmps6
   go_wp2_with fail
   refine(HC _ h).mono ?_
   rintro e w1 ⟨rfl,hb⟩
   generalize countE s.L a k=ce at*
   clear h
   go_wp2_with fail
   go_ret
   exact⟨by rw[HE.out.1];rfl,by rw[HE.out.2];exact⟨ps,p,n,cap,HF.out.below hb,Step.of_below hb,fun _ _ _=> .inl rfl⟩⟩
end
end Go.Proofs.YtpkaehpllldcmaaGreatDoor.Bt
end
section
namespace Go.Proofs.YtpkaehpllldcmaaGreatDoor.Bt
open Go Go.RowKit Go.Shelf
set_option linter.unusedVariables false
def numV (m:Nat→UInt8) (a:Nat):Nat→Nat
 |0=>0
 |k+1=>numV m a k+(m (a+k)).toNat*2^(8*k)
theorem numV_lt (m:Nat→UInt8) (a k:Nat):numV m a k<2^(8*k):=by
 induction k with
 |zero=>simp[numV]
 |succ k ih=>
  unfold numV
  have hb:(m (a+k)).toNat<256:=(m (a+k)).toNat_lt
  have e:2^(8*(k+1))=256*2^(8*k):=by rw[show 8*(k+1)=8*k+8 from by omega,Nat.pow_add];omega
  rw[e]
  have:(m (a+k)).toNat*2^(8*k)≤255*2^(8*k):=Nat.mul_le_mul_right _ (by omega)
  omega
theorem or_byte (x c j:Nat) (hx:x<2^(8*j)) (hc:c<256) (hj:j<8):
 bits .or .u64 (x:Int) (IntKind.u64.wrap (IntKind.u64.wrap (c:Int)*2^(8*j)))=((x+c*2^(8*j):Nat):Int):=by
 have hp:2^(8*j)≤2^56:=Nat.pow_le_pow_right (by omega) (by omega)
 have hcp:c*2^(8*j)≤255*2^56:=Nat.mul_le_mul (by omega) hp
 have e1:IntKind.u64.wrap (c:Int)=(c:Int):=by rw[IntKind.wrap_u64];omega
 have e2:((c:Int)*2^(8*j))=((c*2^(8*j):Nat):Int):=by simp
 have e3:IntKind.u64.wrap (((c*2^(8*j):Nat):Int))=((c*2^(8*j):Nat):Int):=by rw[IntKind.wrap_u64];omega
 rw[e1,e2,e3,u64_or_nat _ _ (by omega) (by omega)]
 congr 1
 have:=Nat.shiftLeft_add_eq_or_of_lt hx c
 rw[Nat.shiftLeft_eq]at this
 rw[Nat.or_comm,←this,Nat.add_comm]
section
variable {A P n cap:Nat} {s:ASt} {ps:List (Option Nat)} {p:Option Addr} {w:World}
def LoadPost (m:Nat→UInt8) (L:Nat) (es:List Nat) (a k:Int) (w:World) (e:Ending) (w':World):Prop:=
 e=.returned (.tuple #[.int .u64 (if numE L es a k=0 then(numV m a.toNat k.toNat:Int)else 0),.int .i64 (numE L es a k)])∧Below w.heap.size w w'
theorem load_yes (h:ArX A s P ps p n cap w) (a k:Int) (ha:a≤9223372036854775807) (hn:numE s.L s.es a k=0):
 Calls Tryz.prog 145 #[.pointer (some ⟨A,0,none⟩),.int .i64 a,.int .i64 k] w (LoadPost s.mm s.L s.es a k w):=by
 have hw:wholeB k=true:=by
  unfold numE at hn;cases hq:wholeB k with
  |true=>rfl
  |false=>rw[hq]at hn;cases hn
 have ht:thereB s.L s.es a k=true:=by
  unfold numE thereE at hn;rw[hw]at hn
  cases hq:thereB s.L s.es a k with
  |true=>rfl
  |false=>rw[hq]at hn;cases hn
 obtain⟨t0,t1,t2,t3⟩:=(there_iff h.good a k).1 ht
 have hk8:1≤k∧k≤8:=by rcases whole_cases hw with rfl|rfl|rfl|rfl<;>omega
 have HM:Hid (∀i:Int,a≤i→i<a+k→mem s.es (i/4096)=true):=Lib.hid t3
 have hsm:=h.good.small
 have HNU:=Lib.hid hn
 have HC:=fun w (hw:ArX A s P ps p n cap w)=>number_any hw a k ha
 clear t3 hn hw ht
 go_enter Tryz.func145,Tryz.ntmps145
 go_wp2_with fail
 refine(HC _ h).mono ?_
 rintro e w1 ⟨rfl,hb⟩
 rw[HNU.out]
 have h':=h.below hb
 clear h HC
 obtain⟨c0,c1,c2,c3,c4⟩:=h'.head
 have HX:=Lib.hid h'
 clear h'
 obtain⟨an,rfl⟩:∃an:Nat,a=an:=⟨a.toNat,by omega⟩
 obtain⟨kn,rfl⟩:∃kn:Nat,k=kn:=⟨k.toNat,by omega⟩
 go_wp2_with fail
 go_loop [9,20] (fun x i=>∃j:Nat,j≤kn∧i=.int .i64 j∧x=.int .u64 (numV s.mm an j:Int)) (fun _ i=>kn-(intOf i).toNat)
 case atStart=>exact⟨0,Nat.zero_le _,rfl,rfl⟩
 case round=>
  obtain⟨j,hj,rfl,rfl⟩:=hrel
  by_cases hlt:j<kn
  · have hi:(an+j)/4096<s.L:=by omega
    have hil:(an+j)/4096<ps.length:=by rw[HX.out.len];exact hi
    have e1:((an:Int)+j).toNat=an+j:=by omega
    cases hq:ps[(an+j)/4096]? with
    |none=>rw[List.getElem?_eq_none_iff]at hq;omega
    |some q=>
     have hsl:=HX.out.slot hq
     cases q with
     |none=>
      simp only[ptrV]at hsl
      have HQ:=Lib.hid hq;clear hq
      have hz:s.mm (an+j)=0:=by
       have:=HX.out.no _ HQ.out ((an+j)%4096) (by omega)
       rw[show(an+j)/4096*4096+(an+j)%4096=an+j from by omega]at this;exact this
      have HZ:Hid (numV s.mm an (j+1)=numV s.mm an j):=Lib.hid (by unfold numV;rw[hz];cases j<;>simp[numV])
      clear hz
      go_wp2_with fail
      go_round
      case rel=>exact⟨j+1,by omega,by go_num,by rw[HZ.out]⟩
      case measure=>simp[intOf];omega
     |some b=>
      have hby:=HX.out.byte hq (show(an+j)%4096<4096 by omega)
      simp only[ptrV]at hsl
      have HQ:=Lib.hid hq;clear hq
      have HZ:Hid (bits BinOp.or IntKind.u64 (numV s.mm an j:Int) (IntKind.u64.wrap (IntKind.u64.wrap ((s.mm ((an+j)/4096*4096+(an+j)%4096)).toNat:Int)*2^(8*j)))=((numV s.mm an (j+1):Nat):Int)):=Lib.hid (by
       rw[show(an+j)/4096*4096+(an+j)%4096=an+j from by omega]
       exact or_byte _ _ j (numV_lt _ _ _) (UInt8.toNat_lt _) (by omega))
      go_wp2_with fail
      go_round
      case rel=>exact⟨j+1,by omega,by go_num,by rw[HZ.out]⟩
      case measure=>simp[intOf];omega
  · have hje:j=kn:=by omega
    subst hje
    go_wp2_with fail
    go_ret2
    refine⟨?_,hb⟩
    rw[HNU.out,if_pos rfl,Int.toNat_natCast,Int.toNat_natCast];rfl
theorem load_no (h:ArX A s P ps p n cap w) (a k:Int) (ha:a≤9223372036854775807) (hn:numE s.L s.es a k≠0):
 Calls Tryz.prog 145 #[.pointer (some ⟨A,0,none⟩),.int .i64 a,.int .i64 k] w (LoadPost s.mm s.L s.es a k w):=by
 have hb0:(numE s.L s.es a k !=0)=true:=by rw[bne_iff_ne];exact hn
 have HC:=fun w (hw:ArX A s P ps p n cap w)=>number_any hw a k ha
 have HNE:=Lib.hid hn
 clear hn
 go_enter Tryz.func145,Tryz.ntmps145
 go_wp2_with fail
 refine(HC _ h).mono ?_
 rintro e w1 ⟨rfl,hb⟩
 clear h HC
 go_wp2_with fail
 go_ret2
 refine⟨?_,hb⟩
 rw[if_neg HNE.out];rfl
theorem load_any (h:ArX A s P ps p n cap w) (a k:Int) (ha:a≤9223372036854775807):
 Calls Tryz.prog 145 #[.pointer (some ⟨A,0,none⟩),.int .i64 a,.int .i64 k] w (LoadPost s.mm s.L s.es a k w):=by
 by_cases hn:numE s.L s.es a k=0
 · exact load_yes h a k ha hn
 · exact load_no h a k ha hn
end
end Go.Proofs.YtpkaehpllldcmaaGreatDoor.Bt
end
section
namespace Go.Proofs.YtpkaehpllldcmaaGreatDoor.Bt
open Go Go.RowKit Go.Shelf
set_option linter.unusedVariables false
def byteN (x:Int) (i:Nat):UInt8:=UInt8.ofNat (x.toNat/2^(8*i))
def numB (x:Int) (k:Nat):List UInt8:=(List.range k).map (byteN x)
theorem numB_succ (x:Int) (k:Nat):numB x (k+1)=numB x k++[byteN x k]:=by simp[numB,List.range_succ]
theorem numB_length (x:Int) (k:Nat):(numB x k).length=k:=by simp[numB]
theorem byte_val {x:Int} (hx:0≤x) (j:Nat):IntKind.u8.wrap (x/2^(8*j))=((byteN x j).toNat:Int):=by
 have e:x/2^(8*j)=((x.toNat/2^(8*j):Nat):Int):=by
  obtain⟨xn,rfl⟩:∃xn:Nat,x=xn:=⟨x.toNat,by omega⟩
  simp
 rw[e]
 generalize hz:x.toNat/2^(8*j)=z
 have e2:IntKind.u8.wrap (z:Int)=((z%256:Nat):Int):=by simp[IntKind.wrap,IntKind.bits,IntKind.signed]
 rw[e2]
 unfold byteN
 rw[hz]
 simp
theorem ArX.setByte {A P n cap:Nat} {s:ASt} {ps:List (Option Nat)} {p:Option Addr} {x:World} (h:ArX A s P ps p n cap x) {i b j:Nat} (hb:ps[i]?=some (some b)) (hj:j<4096) (y:UInt8):
 ArX A {s with mm:=fun k=>if k=i*4096+j then y else s.mm k} P ps p n cap (x.setCell ⟨b,j,none⟩ (.int .u8 (y.toNat:Int)))∧Step A P ps ps x (x.setCell ⟨b,j,none⟩ (.int .u8 (y.toNat:Int))):=by
 refine⟨h.paged hb (by rw[set_size];exact Nat.le_refl _) ?_ (fun k _ hk=>Below.heap_setCell _ _ _ _ (by exact hk)) (fun k hk=>if_neg (fun e=>hk (by omega))),⟨rfl,rfl,rfl,by rw[set_size];exact Nat.le_refl _,fun k _ hk=>Below.heap_setCell _ _ _ _ (by show k≠b;exact fun e=>hk (.inr (.inr ⟨i,by rw[e];exact hb⟩))),fun _ _ e=> .inl e⟩⟩
 rw[heap_set (h.pg i b hb)]
 have e:=pg_set (m:=s.mm) (m':=fun k=>if k=i*4096+j then y else s.mm k) (i:=i) hj (y:=y) (fun k hk=>by
  by_cases e:k=j
  · subst e;simp
  · rw[if_neg e,if_neg (by omega)])
 rw[e]
section
variable {A P n cap:Nat} {s:ASt} {ps:List (Option Nat)} {p:Option Addr} {w:World}
def StRel (A P:Nat) (s:ASt) (ps:List (Option Nat)) (p:Option Addr) (n cap an kn:Nat) (x:Int) (w:World) (i:Value) (wr:World):Prop:=
 ∃(j:Nat) (ps':List (Option Nat)),j≤kn∧i=.int .i64 j∧ArX A {s with mm:=putM s.mm an (numB x j)} P ps' p n cap wr∧Step A P ps ps' w wr
def storeS (s:ASt) (a k x:Int):ASt:=if numE s.L s.es a k=0 then{s with mm:=putM s.mm a.toNat (numB x k.toNat)}else s
def StorePost (A P:Nat) (s:ASt) (ps:List (Option Nat)) (p:Option Addr) (a k x:Int) (w:World) (e:Ending) (w':World):Prop:=
 e=.returned (.int .i64 (numE s.L s.es a k))∧Turned A P ps p (storeS s a k x) w w'
set_option maxRecDepth 100000 in
set_option maxHeartbeats 1000000 in
theorem store_yes (h:ArX A s P ps p n cap w) (a k x:Int) (ha:a≤9223372036854775807) (hx:0≤x) (hn:numE s.L s.es a k=0):
 Calls Tryz.prog 147 #[.pointer (some ⟨A,0,none⟩),.int .i64 a,.int .i64 k,.int .u64 x] w (StorePost A P s ps p a k x w):=by
 have hw:wholeB k=true:=by
  unfold numE at hn;cases hq:wholeB k with
  |true=>rfl
  |false=>rw[hq]at hn;cases hn
 have ht:thereB s.L s.es a k=true:=by
  unfold numE thereE at hn;rw[hw]at hn
  cases hq:thereB s.L s.es a k with
  |true=>rfl
  |false=>rw[hq]at hn;cases hn
 obtain⟨t0,t1,t2,t3⟩:=(there_iff h.good a k).1 ht
 have hk8:1≤k∧k≤8:=by rcases whole_cases hw with rfl|rfl|rfl|rfl<;>omega
 have HM:Hid (∀i:Int,a≤i→i<a+k→mem s.es (i/4096)=true):=Lib.hid t3
 have hsm:=h.good.small
 have HNU:=Lib.hid hn
 have HC:=fun w (hw:ArX A s P ps p n cap w)=>number_any hw a k ha
 clear t3 hn hw ht
 go_enter Tryz.func147,Tryz.ntmps147
 go_wp2_with fail
 refine(HC _ h).mono ?_
 rintro e w1 ⟨rfl,hb⟩
 rw[HNU.out]
 have h':=h.below hb
 clear h HC
 have HX:=Lib.hid h'
 clear h'
 obtain⟨an,rfl⟩:∃an:Nat,a=an:=⟨a.toNat,by omega⟩
 obtain⟨kn,rfl⟩:∃kn:Nat,k=kn:=⟨k.toNat,by omega⟩
 go_wp2_with fail
 go_loopw[20] (fun i wr=>StRel A P s ps p n cap an kn x w i wr) (fun i _=>kn-(intOf i).toNat)
 case atStart=>exact⟨0,ps,Nat.zero_le _,rfl,by rw[show numB x 0=[]from rfl,putM_nil];exact HX.out,Step.of_below hb⟩
 case round=>
  obtain⟨j,ps',hj,rfl,hxj,hst⟩:=hrel
  by_cases hlt:j<kn
  · have hi:(an+j)/4096<s.L:=by omega
    have hm:=HM.out ((an+j:Nat):Int) (by omega) (by omega)
    have hm':mem s.es (((an+j)/4096:Nat):Int)=true:=by
     rw[show((((an+j)/4096:Nat)):Int)=((an+j:Nat):Int)/4096 from by omega];exact hm
    clear hm
    have q1:IntKind.i64.wrap ((an:Int)+j)=(an:Int)+j:=IntWalk.i64_in _ (by omega)
    have q2:0≤(an:Int)+j:=by omega
    have q3:((an:Int)+j).toNat=an+j:=by omega
    have q4:IntKind.i64.wrap (8*(j:Int))=8*(j:Int):=IntWalk.i64_in _ (by omega)
    have q5:0≤8*(j:Int):=by omega
    obtain⟨mi,hmi⟩:∃mi,(an+j)/4096=mi:=⟨_,rfl⟩
    obtain⟨mj,hmj⟩:∃mj,(an+j)%4096=mj:=⟨_,rfl⟩
    have q6:IntKind.i64.wrap (((an:Int)+j).tdiv 4096)=(mi:Int):=by rw[Int.tdiv_eq_ediv_of_nonneg (by omega)];rw[IntWalk.i64_in _ (by omega)];omega
    have q7:((an:Int)+j).tmod 4096=(mj:Int):=by rw[Int.tmod_eq_emod_of_nonneg (by omega)];omega
    have q10:(8*(j:Int)).toNat=8*j:=by omega
    have q8:(mj:Int)<4096:=by omega
    have q9:mj<4096:=by omega
    have HMJ:Hid (mi*4096+mj=an+j):=Lib.hid (by omega)
    rw[hmi]at hi hm'
    clear hmi hmj
    obtain⟨yb,hyb⟩:∃yb:Int,((byteN x j).toNat:Int)=yb:=⟨_,rfl⟩
    have hv:x/2^(8*j)%256=yb:=by
     have h1:=byte_val hx j
     rw[hyb]at h1
     rw[←h1];simp[IntKind.wrap,IntKind.bits,IntKind.signed]
    have HYB:=Lib.hid hyb
    clear hyb
    have hil:mi<ps'.length:=by rw[hxj.len];exact hi
    obtain⟨c0,c1,c2,c3,c4⟩:=hxj.head
    have hcase:(byteN x j=0∧ps'[mi]?=some none)∨(byteN x j≠0∨byteN x j=0∧∃b,ps'[mi]?=some (some b)):=by
     by_cases h0:byteN x j=0
     · cases hq:ps'[mi]? with
       |none=>rw[List.getElem?_eq_none_iff]at hq;omega
       |some q=>cases q with
        |none=>exact .inl ⟨h0,rfl⟩
        |some b=>exact .inr (.inr ⟨h0,b,rfl⟩)
     · exact .inr (.inl h0)
    rcases hcase with⟨h0,hq⟩|hcase
    · obtain rfl:yb=0:=by rw[←HYB.out,h0];rfl
      have hsl:=hxj.slot hq
      simp only[ptrV]at hsl
      have HQ:=Lib.hid hq
      have H0:=Lib.hid h0
      have HXJ:=Lib.hid (And.intro hxj hst)
      clear hq h0 hxj hst
      go_wp2_with fail
      go_roundw
      case rel=>
       refine⟨j+1,ps',by omega,by go_num,?_,HXJ.out.2⟩
       have hz:putM s.mm an (numB x j) (mi*4096+mj)=0:=HXJ.out.1.no _ HQ.out mj q9
       have e:putM s.mm an (numB x (j+1))=putM s.mm an (numB x j):=by
        rw[numB_succ,putM_snoc,numB_length,←HMJ.out]
        funext i
        by_cases e:i=mi*4096+mj
        · rw[if_pos e,H0.out,e,hz]
        · rw[if_neg e]
       rw[e];exact HXJ.out.1
      case measure=>simp[intOf];omega
    rcases hcase with h0|⟨h0,b0,hq⟩
    · have d0:¬yb=0:=by
       rw[←HYB.out]
       have h1:(byteN x j).toNat≠0:=fun e=>h0 (UInt8.toNat_inj.1 e)
       omega
      clear h0
      go_wp2_with fail
      refine(laid_page hxj mi hi hm').mono ?_
      rintro e w' ⟨b,ps2,rfl,hpb,hx2,hs2⟩
      have hby:=hx2.byte hpb q9
      have hfr:=(cell_blk (hx2.pg _ b hpb) mj).2
      have hsb:=hx2.setByte hpb q9 (byteN x j)
      rw[HYB.out]at hsb
      have HSB:=Lib.hid hsb
      clear hsb
      have HSS:=Lib.hid ((hst.trans hs2).trans (HSB.out.2))
      clear hpb hs2 hxj hst
      go_wp2_with fail
      go_roundw
      case rel=>
       refine⟨j+1,ps2,by omega,by go_num,?_,HSS.out⟩
       have e:putM s.mm an (numB x (j+1))=fun k=>if k=mi*4096+mj then byteN x j else putM s.mm an (numB x j) k:=by
        rw[numB_succ,putM_snoc,numB_length,HMJ.out]
       rw[e];exact HSB.out.1
      case measure=>simp[intOf];omega
    · obtain rfl:yb=0:=by rw[←HYB.out,h0];rfl
      have hsl:=hxj.slot hq
      simp only[ptrV]at hsl
      clear h0 hq
      go_wp2_with fail
      refine(laid_page hxj mi hi hm').mono ?_
      rintro e w' ⟨b,ps2,rfl,hpb,hx2,hs2⟩
      have hby:=hx2.byte hpb q9
      have hfr:=(cell_blk (hx2.pg _ b hpb) mj).2
      have hsb:=hx2.setByte hpb q9 (byteN x j)
      rw[HYB.out]at hsb
      have HSB:=Lib.hid hsb
      clear hsb
      have HSS:=Lib.hid ((hst.trans hs2).trans (HSB.out.2))
      clear hpb hs2 hxj hst
      go_wp2_with fail
      go_roundw
      case rel=>
       refine⟨j+1,ps2,by omega,by go_num,?_,HSS.out⟩
       have e:putM s.mm an (numB x (j+1))=fun k=>if k=mi*4096+mj then byteN x j else putM s.mm an (numB x j) k:=by
        rw[numB_succ,putM_snoc,numB_length,HMJ.out]
       rw[e];exact HSB.out.1
      case measure=>simp[intOf];omega
  · have hje:j=kn:=by omega
    subst hje
    have HF:=Lib.hid (And.intro hxj hst)
    clear hxj hst
    go_wp2_with fail
    go_ret
    refine⟨by rw[HNU.out];rfl,ps',p,n,cap,?_,HF.out.2,fun _ _ _=> .inl rfl⟩
    unfold storeS
    rw[HNU.out,if_pos rfl,Int.toNat_natCast,Int.toNat_natCast];exact HF.out.1
theorem store_no (h:ArX A s P ps p n cap w) (a k x:Int) (ha:a≤9223372036854775807) (hn:numE s.L s.es a k≠0):
 Calls Tryz.prog 147 #[.pointer (some ⟨A,0,none⟩),.int .i64 a,.int .i64 k,.int .u64 x] w (StorePost A P s ps p a k x w):=by
 have hb0:(numE s.L s.es a k !=0)=true:=by rw[bne_iff_ne];exact hn
 have HC:=fun w (hw:ArX A s P ps p n cap w)=>number_any hw a k ha
 have HNE:=Lib.hid hn
 have HX:=Lib.hid h
 clear hn
 go_enter Tryz.func147,Tryz.ntmps147
 go_wp2_with fail
 refine(HC _ h).mono ?_
 rintro e w1 ⟨rfl,hb⟩
 clear h HC
 go_wp2_with fail
 go_ret
 exact⟨rfl,ps,p,n,cap,by unfold storeS;rw[if_neg HNE.out];exact HX.out.below hb,Step.of_below hb,fun _ _ _=> .inl rfl⟩
theorem store_any (h:ArX A s P ps p n cap w) (a k x:Int) (ha:a≤9223372036854775807) (hx:0≤x):
 Calls Tryz.prog 147 #[.pointer (some ⟨A,0,none⟩),.int .i64 a,.int .i64 k,.int .u64 x] w (StorePost A P s ps p a k x w):=by
 by_cases hn:numE s.L s.es a k=0
 · exact store_yes h a k x ha hx hn
 · exact store_no h a k x ha hn
end
end Go.Proofs.YtpkaehpllldcmaaGreatDoor.Bt
end
