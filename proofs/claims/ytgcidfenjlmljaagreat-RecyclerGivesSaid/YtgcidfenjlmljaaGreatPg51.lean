import Derived.Test.YtgcidfenjlmljaaGreatPg50
import Derived.Test.YtgcidfenjlmljaaGreatPg46
import Derived.Test.YtgcidfenjlmljaaGreatPg49
import Derived.Lib.SmallJoins
import Derived.Deep.Slices
import Derived.Deep.Strs
import Derived.ChangeSame
import Derived.OpenShut
import Derived.WideShapes
import Derived.WalkSmall
import Derived.Test.YtgcidfenjlmljaaGreatPgR
set_option linter.unusedVariables false
set_option linter.unusedSimpArgs false
set_option maxRecDepth 100000
set_option maxHeartbeats 16000000
namespace Go.Proofs.YtgcidfenjlmljaaGreat.Bt
section
open Go Go.RowKit Go.Shelf
section
variable {Q B A n g K:Nat} {R:Zag} {q:Nat->List Nat} {hs:List Hd} {s:ASt} {v:Value} {w y:World}
theorem ldo (hrv:RcV Q B A n 4096 s w) (hpy:PyS n g K R q hs s) {Ds:List Nat} (hDz:∀z∈Ds,z<w.heap.size) (hdw:DWo A (n:Int) (g:Int) (rfI s) (K:Int) (tkT R g) q hs v Ds w) (d k m:Int) (d0:0<=d) (d1:d<=255) (k0: -9223372036854775808<=k) (k1:k<=9223372036854775807) (m0: -9223372036854775808<=m) (m1:m<=9223372036854775807):
 Calls Tryz.prog 19 #[rcP Q,v,.agg #[.int .u8 d,iV k,iV m]] w (Zom Q B A n Ds (Zci q 5<=K) w):=by
 by_cases c:200<=d
 · exact Ydn hrv hpy hDz hdw d k m d0 d1 k0 k1 m0 m1 c
 · have h8:(d%8=3\/d%8=4)\/d%8=5\/d%8=6\/d%8=7\/(d%8=0\/d%8=1\/d%8=2):=by omega
   rcases h8 with e|e|e|e|e
   · exact Ydo hrv hpy hDz hdw d k m d0 d1 k0 k1 m0 m1 ⟨c,e⟩
   · exact Zz9 hrv hpy hDz hdw d k m d0 d1 k0 k1 m0 m1 ⟨c,e⟩
   · exact Zz6 hrv hpy hDz hdw d k m d0 d1 k0 k1 m0 m1 ⟨c,e⟩
   · exact Zz8 hrv hpy hDz hdw d k m d0 d1 k0 k1 m0 m1 ⟨c,e⟩
   · exact Zz7 hrv hpy hDz hdw d k m d0 d1 k0 k1 m0 m1 ⟨c,e⟩
end
end
section
open Go Go.RowKit Go.Shelf
theorem Yj3 (w:World):Calls Tryz.prog 51 #[] w (Zan (.bool true) w):=by
 go_enter Tryz.func51,Tryz.ntmps51;go_wp2_with fail
 refine(Yg3 _).mono ?_
 rintro e w1 ⟨rfl,hb⟩;have HB:=hid hb;clear hb;go_wp2_with fail
 go_ret
 exact⟨rfl,HB.out⟩
theorem Yiw (w:World):Calls Tryz.prog 52 #[] w (Zan (.bool true) w):=by
 go_enter Tryz.func52,Tryz.ntmps52;go_wp2_with fail
 refine(Zl7 _).mono ?_
 rintro e w1 ⟨rfl,hb⟩;have HB:=hid hb;clear hb;go_wp2_with fail
 go_ret
 exact⟨rfl,HB.out⟩
theorem Zzy {C:Nat->Nat} {o:Int} {k:Nat} (hk:k<5) (h1:o<=(k:Int)) (h2:0<C k):lsV C o≠Zhk:=by
 have:((List.range 5).find? (Zf5 C o)).isSome:=by
  rw[List.find?_isSome]
  exact⟨k,List.mem_range.2 hk,by unfold Zf5;simp[h1,h2]⟩
 unfold lsV;obtain⟨j,hj⟩:=Option.isSome_iff_exists.1 this;rw[hj];intro e;simp[Zhk]at e
section
variable {Q B A n g K:Nat} {R:Zag} {q:Nat->List Nat} {hs:List Hd} {s:ASt} {v:Value} {w y:World}
theorem Yd8 (hv:RcV Q B A 8 4096 s w) (h:PyS 8 1 16 R (fun _=>[]) [] s) (hrf:s.rf=false):
 Calls Tryz.prog 27 #[rcP Q,iV 0,.int .u64 5] w fun e w'=>∃(i g':Nat) (R':Zag) (s':ASt),e=.returned (.tuple #[cV (adr i:Int) 0 5 0,iV 0])/\RcV Q B A 8 4096 s' w'/\Zam A w w'/\PyS 8 g' 16 R' (fun _=>[]) [⟨(adr i:Int),0,5,0⟩] s':=by
 have hr:rfI s= -1:=by unfold rfI;rw[hrf];rfl
 refine(Yc8 hv h 0 5 (by omega)).mono ?_
 rintro e w' ⟨c0,c1,c2,er,g',R',q',hs',s',rfl,h1,h2,h3,⟨h4,_⟩|⟨kn,hk,_,_,⟨i,l,_,rfl,rfl,rfl,rfl,rfl,h5⟩|⟨_,_,_,_,_,_,h5⟩⟩⟩
 · omega
 · have hk0:kn=0:=by omega
   subst hk0;rcases h5 with⟨rest,_,_,e,_⟩|⟨_,rfl,rfl,_⟩|⟨_,_,c,_⟩
   · cases e
   · exact⟨i,g',R',s',rfl,h1,h2,h3⟩
   · rw[Zl4]at c;omega
 · have hk0:kn=0:=by omega
   subst hk0;obtain⟨_,r1,_,hq,_⟩:=h5;rw[hr]at hq;have e1:Zfl 8 1 (-1) 0 (upN 1 (2^0))=(2, -1,0):=by decide
   rw[show((8:Nat):Int)=8 from rfl,show((1:Nat):Int)=1 from rfl,e1]at hq;simp at hq
theorem PyS.Yf3 (h:PyS n g K R q hs s) {c:Hd} (hc:c∈hs):Zac s.L s.es c.a 32=0/\c.a<=9223372036854775807:=by
 obtain⟨i,k,u,rfl,f2,f3,f4,f5,f6,f7⟩:=h.ow c hc;have h1:=h.rc.bu.addr f3;have h2:=h.rc.bu.c2;have h3:=h.rc.bu.gG
 refine⟨h.rc.bu.there (by show 0<=(adr i:Int);omega) (by omega) (by show(adr i:Int)+32<=_;unfold adr;omega),?_⟩
 show(adr i:Int)<=_
 unfold adr;omega
theorem Yd9 {i:Nat} (hv:RcV Q B A 8 4096 s w) (h:PyS 8 g 16 R (fun _=>[]) [⟨(adr i:Int),0,5,0⟩] s):
 Calls Tryz.prog 28 #[rcP Q,iV (adr i:Int)] w fun e w'=>∃(R':Zag) (s':ASt) (hs':List Hd),e=.returned (iV 0)/\RcV Q B A 8 4096 s' w'/\Zam A w w'/\PyS 8 g 16 R' (Zde (fun _=>[]) 0 [1+i]) hs' s':=by
 obtain⟨t1,t2⟩:=h.Yf3 (c:=⟨(adr i:Int),0,5,0⟩) (by simp)
 refine(Yfz hv h (adr i:Int) t2 t1).mono ?_
 rintro e w' ⟨ans,R',q',hs',s',rfl,h1,h2,h3,⟨c,_⟩|⟨_,c,_⟩|⟨_,j,k,u,hf,rfl,h5,_,h6⟩⟩
 · have:=Zlz.1 c
   obtain⟨p,_,m,_,hm⟩:=this;cases hm
 · have e1:gvC [⟨(adr i:Int),0,5,0⟩] (adr i:Int)=⟨(adr i:Int),0,5,0⟩:=if_pos rfl
   rw[e1]at c;cases c
 · have e1:gvC [⟨(adr i:Int),0,5,0⟩] (adr i:Int)=⟨(adr i:Int),0,5,0⟩:=if_pos rfl
   have hf1:=hf.1;rw[e1]at hf1;simp only[Hd.mk.injEq]at hf1;have hi:i=j:=Zmc hf1.1;have hk:k=0:=by have:=hf1.2.1;omega
   subst hi;subst hk
   rcases h6 with⟨_,_,_,rfl⟩|⟨c|c,_⟩
   · exact⟨R',s',hs',rfl,h1,h2,h3⟩
   · omega
   · rw[Zl4]at c;omega
theorem Yap {i:Nat} (hv:RcV Q B A 8 4096 s w) (h:PyS 8 g 16 R (Zde (fun _=>[]) 0 [1+i]) hs s):
 Calls Tryz.prog 27 #[rcP Q,iV 0,.int .u64 6] w fun e w'=>∃s',e=.returned (.tuple #[cV (adr i:Int) 0 6 0,iV 0])/\RcV Q B A 8 4096 s' w'/\Zam A w w':=by
 have hn:lsV (Zlq (Zde (fun _=>[]) 0 [1+i])) 0≠Zhk:=Zzy (k:=0) (by omega) (by omega) (by show 0<(Zde (fun _=>[]) 0 [1+i] 0).length;rw[Za1];simp)
 refine(Yc8 hv h 0 6 (by omega)).mono ?_
 rintro e w' ⟨c0,c1,c2,er,g',R',q',hs',s',rfl,h1,h2,h3,⟨h4,_⟩|⟨kn,hk,_,_,⟨j,l,_,rfl,rfl,rfl,rfl,rfl,h5⟩|⟨_,_,_,_,_,_,h5⟩⟩⟩
 · omega
 · have hk0:kn=0:=by omega
   subst hk0;rcases h5 with⟨rest,_,_,e,_⟩|⟨c,_⟩|⟨c,_⟩
   · by_cases hl:l=0
     · subst hl
       rw[Za1]at e
       have:i=j:=by simp at e;omega
       subst this
       exact⟨s',rfl,h1,h2⟩
     · rw[Zaz _ _ hl]at e;cases e
   · exact absurd c hn
   · exact absurd c hn
 · have hk0:kn=0:=by omega
   subst hk0;exact absurd h5.1 hn
end
theorem Yeq (w:World):Calls Tryz.prog 12 #[] w (Zan (.bool true) w):=by
 go_enter Tryz.func12,Tryz.ntmps12;go_wp2_with fail
 refine(Ygh 9 (by omega) (by omega) _).mono ?_
 rintro e w1 ⟨Q,B,A,n,R,s,v,hn,rfl,h,hrf,hbs⟩;have hn8:n=8:=by omega
 subst hn8;obtain⟨u,c,P,nn,C,op,on,oc,rfl, -⟩:=h.dw;obtain⟨ln,ht⟩:=eX ((tkT R 1).length);obtain⟨ri,hri⟩:=eX (rfI s);rw[ht,hri];have HBS:=hid hbs;have HTK:=hid fun X (hX:RcV Q B A 8 4096 s X)=>Yd8 hX h.py hrf
 have HX1:=hid ((WkS.start h.rv).new (rqA ((8:Nat):Int) ((1:Nat):Int) ri ((16:Nat):Int) (.slice u ln c) P nn C (.slice op on oc)) 33 Za3);clear ht hri hbs hrf h hn;go_upto_region 2 with fail;change Code.wp _ _ _ _ (w1.alloc (.cells (rqA ((8:Nat):Int) ((1:Nat):Int) ri ((16:Nat):Int) (.slice u ln c) P nn C (.slice op on oc)) 33));obtain⟨x1,hx1⟩:=eX (w1.alloc (.cells (rqA ((8:Nat):Int) ((1:Nat):Int) ri ((16:Nat):Int) (.slice u ln c) P nn C (.slice op on oc)) 33));obtain⟨D,hD⟩:=eX w1.heap.size;rw[hx1,hD]at HX1;rw[hx1,hD];clear hx1 hD;go_upto_region 3 with fail
 refine(HTK.out _ HX1.out.rv).mono ?_
 rintro e w2 ⟨i,g2,R2,s2,rfl,hv,hg,hp⟩;have HX2:=hid ((HX1.out.Zf9 hv hg).new (cC (adr i:Int) 0 5 0) 71 (by unfold Zc7;decide));have HGV:=hid fun X (hX:RcV Q B A 8 4096 s2 X)=>Yd9 hX hp
 obtain⟨a,ha⟩:=eX ((adr i:Int):Int);have HAI:=hid ha;clear hv hg hp HX1 HTK;rw[ha]at HX2 HGV⊢;unfold cV;clear ha;go_upto_region 3 with fail;change Code.wp _ _ _ _ (w2.alloc (.cells (cC a 0 5 0) 71));obtain⟨x2,hx2⟩:=eX (w2.alloc (.cells (cC a 0 5 0) 71));obtain⟨E,hE⟩:=eX w2.heap.size;rw[hx2,hE]at HX2;rw[hx2,hE];clear hx2 hE;obtain⟨e0, -⟩:=Zal HX2.out.fr.at0;go_upto_region 4 with fail
 refine(HGV.out _ HX2.out.rv).mono ?_
 rintro e w3 ⟨R3,s3,hs3,rfl,hv,hg,hp⟩;have HX3:=hid (HX2.out.Zf9 hv hg);have HAG:=hid fun X (hX:RcV Q B A 8 4096 s3 X)=>Yap hX hp
 rw[HAI.out]at HAG;clear hv hg hp HX2 HGV e0;go_upto_region 5 with fail
 refine(HAG.out _ HX3.out.rv).mono ?_
 rintro e w4 ⟨s4,rfl,hv,hg⟩;have HX4:=hid ((HX3.out.Zf9 hv hg).new (cC a 0 6 0) 71 (by unfold Zc7;decide));clear hv hg HX3 HAG;unfold cV;go_upto_region 5 with fail;change Code.wp _ _ _ _ (w4.alloc (.cells (cC a 0 6 0) 71));obtain⟨x4,hx4⟩:=eX (w4.alloc (.cells (cC a 0 6 0) 71));obtain⟨F,hF⟩:=eX w4.heap.size;rw[hx4,hF]at HX4;rw[hx4,hF];clear hx4 hF;go_wp2_with fail
 refine(Yj3 _).mono ?_
 rintro e w5 ⟨rfl,hb⟩;have HX5:=hid (HX4.out.below hb);clear hb HX4;go_wp2_with fail
 refine(Yiw _).mono ?_
 rintro e w6 ⟨rfl,hb⟩;have HX6:=hid (HX5.out.below hb);clear hb HX5;obtain⟨e0, -⟩:=Zal HX6.out.fr.at1;obtain⟨f0, -,f2, -⟩:=Zal HX6.out.fr.at0;go_wp2_with fail
 go_ret
 exact⟨rfl,(HBS.out.Zaq HX6.out.fr.wt).bel⟩
end
section
open Go Go.RowKit Go.Shelf Go.Deep Go.ChangeShapes Go.WideShapes Go.ChangeAt
theorem Tryz.Ztg:Tryz.prog.cellsOf 44=3:=by kernel_rfl
theorem Tryz.Ztf:Tryz.prog.cellsOf 5=1:=by kernel_rfl
theorem Zpw {H:Type} {enc:TypeId × Value->H} {w:World} {fuel:Nat} {v:Value} {x:DataW H × List MemPlace} {a:Option Addr} {len cap:Nat} (hv:v=.slice a len cap)
 (h:DataW.trod enc Tryz.prog w 0 (fun _=>true) true fuel 22 v.cells.toList=some x):∃acts:List Ycg,acts.length=len/\len<=9223372036854775807/\Zpz w a acts:=by
 subst hv;rcases open_slice Tryz.underlying22 h with⟨h1,_⟩|⟨ad,len',cap',m,n,D,Pl,h1,_,hl,hm,hmm,_,hi⟩
 · simp[Value.cells]at h1
   exact⟨[],by simp[h1.2.1],by omega,.inl rfl⟩
 · simp[Value.cells]at h1
   obtain⟨rfl,rfl,rfl⟩:=h1;unfold maxLen at hm;have hlm:len<=m:=by rw[hmm];simp;omega
   have key:∀i,i<len->∃act:Ycg,act.ok/\w.cell? (ad.add (i*3))=some (.int .u8 act.d)/\w.cell? (ad.add (i*3+1))=some (iV act.k)/\w.cell? (ad.add (i*3+2))=some (iV act.n):=by
    intro i hilt;obtain⟨cs',hc,ht⟩:=hi i (by omega);rw[Tryz.Ztg]at hc;obtain⟨_,hcl,hat⟩:=World.cells?_some hc;obtain⟨y0,y1,y2,k,_,_,e0,e1,e2⟩:=Go.Deep.trod_struct3 Tryz.underlying44 ht
    match cs',hcl with
    |[c0,c1,c2],_=>
     simp only[Tryz.Ya1,Tryz.Ztf,List.drop_zero,List.drop_succ_cons,List.take_succ_cons,List.take_zero]at e0 e1 e2;obtain⟨d,hd,_,wd⟩:=DataW.trod_int Tryz.underlying5 e0;obtain⟨f,hf,_,wf⟩:=DataW.trod_int Tryz.underlying3 e1;obtain⟨g,hg,_,wg⟩:=DataW.trod_int Tryz.underlying3 e2;simp only[List.cons.injEq,and_true]at hd hf hg;subst hd hf hg;have b0:=bounds_u8 wd;have b1:=bounds_i64 wf;have b2:=bounds_i64 wg;have a0:=hat 0 (by omega);have a1:=hat 1 (by omega);have a2:=hat 2 (by omega);rw[add_add]at a0 a1 a2
     exact⟨⟨d,f,g⟩,⟨b0.1,b0.2,b1.1,b1.2,b2.1,b2.2⟩,by simpa using a0,by simpa using a1,by simpa using a2⟩
   refine⟨(List.range len).attach.map fun i=>Classical.choose (key i.1 (List.mem_range.1 i.2)),by simp,by omega,?_⟩
   by_cases h0:len=0
   · subst h0;exact .inl rfl
   · have k0:=(Classical.choose_spec (key 0 (by omega))).2.1
     obtain⟨b,off,spot⟩:=ad;have hspot:spot=none:=by simpa[Addr.add]using World.cell?_spot k0
     subst hspot;refine .inr ⟨b,off,rfl,World.block_lt_of_cell? _ _ (by simpa[Addr.add]using k0),fun i hil=>?_⟩;have hil':i<len:=by simpa using hil
     have ks:=Classical.choose_spec (key i hil')
     have eA:∀j,((aD b off):Addr).add j=(aD b (off+j)):=fun j=>by
      simp only[Addr.add];split<;>simp_all
     simp only[List.getElem_map,List.getElem_attach,List.getElem_range]
     exact⟨⟨(congrArg w.cell? (eA _).symm).trans ks.2.1,(congrArg w.cell? (eA (i*3+1)).symm).trans ks.2.2.1,(congrArg w.cell? (eA (i*3+2)).symm).trans ks.2.2.2⟩,ks.1⟩
structure PR (D n Q B A g K:Nat) (R:Zag) (q:Nat->List Nat) (hs:List Hd) (s:ASt) (cs:Array Value) (w0 x:World):Prop where
 rv:RcV Q B A n 4096 s x
 py:PyS n g K R q hs s
 dw:DWo A (n:Int) (g:Int) (rfI s) (K:Int) (tkT R g) q hs (.agg cs) [D] x
 fr:Fr A w0 [⟨D,cs,33⟩] x
 bs:Ze0 A w0 x
structure PR2 (D n Q B A g K:Nat) (R:Zag) (q:Nat->List Nat) (hs:List Hd) (s:ASt) (co cs:Array Value) (w0 x:World):Prop where
 rv:RcV Q B A n 4096 s x
 py:PyS n g K R q hs s
 dw:DWo A (n:Int) (g:Int) (rfI s) (K:Int) (tkT R g) q hs (.agg cs) [D] x
 fr:Fr A w0 [⟨D,co,33⟩] x
 bs:Ze0 A w0 x
section
variable {D n Q B A g g' K K':Nat} {R R':Zag} {q q':Nat->List Nat} {hs hs':List Hd} {s s':ASt} {co cs cs':Array Value} {w0 x y z:World}
theorem PR.below (h:PR D n Q B A g K R q hs s cs w0 x) (hb:Below x.heap.size x y):PR D n Q B A g K R q hs s cs w0 y:=
 ⟨h.rv.below hb,h.py,h.dw.Zaq h.rv.1.1 (Zam.Zad h.rv.1.1 hb),h.fr.below h.rv.1.1 hb,h.bs.below h.rv.1.1 hb⟩
theorem PR.lt (h:PR D n Q B A g K R q hs s cs w0 x):∀z∈[D],z<x.heap.size:=fun z hz=>by
 rw[List.mem_singleton]at hz;subst hz
 exact(Array.getElem?_eq_some_iff.1 h.fr.at0).1
theorem PR.act (h:PR D n Q B A g K R q hs s co w0 x) (hv:RcV Q B A n 4096 s' y) (hp:PyS n g' K' R' q' hs' s') (hd:DWo A (n:Int) (g':Int) (rfI s') (K':Int) (tkT R' g') q' hs' (.agg cs) [D] y) (hg:Zam A x y):PR2 D n Q B A g' K' R' q' hs' s' co cs w0 y:=
 ⟨hv,hp,hd,h.fr.Zaq h.rv.1.1 hg,h.bs.Zaq hg⟩
theorem PR2.store {vs:List Value} (h:PR2 D n Q B A g K R q hs s co vs.toArray w0 x) (hc:co.size=vs.length) {i:Int} (h2:x.cell? (aD D 2)=some (iV i)):PR D n Q B A g K R q hs s vs.toArray w0 (stR x D vs 0):=
 ⟨h.rv.stR (L1:=[]) h.fr vs 0,h.py,h.dw.stR h.rv.1.1 h.fr.at0 (by decide) h2 h.fr.Zji (by simp) vs 0,h.fr.Zd9 h.rv.1.1 vs hc,Ze0.Zc0 h.fr.ge0 vs 0 x h.bs h.rv.1.1 h.fr.Zji⟩
theorem PR.start {v:Value} (h:LwS Q B A n g K R q hs s v x) (hb:Ze0 A w0 x) {cs:Array Value} (e:v=.agg cs):PR x.heap.size n Q B A g K R q hs s cs w0 (x.alloc (.cells cs 33)):=by
 subst e;have hw:=Zaj x (.cells cs 33);have hg:=Zam.Zad h.rv.1.1 hw
 refine⟨h.rv.below hw,h.py,(h.dw.off (Ds:=[x.heap.size]) (fun D hD=>by rw[List.mem_singleton]at hD;subst hD;exact Nat.le_refl _)).Zaq h.rv.1.1 hg,⟨fun z hz=>?_,List.pairwise_singleton _ _,(Zam.Zo6 hb).trans hg⟩,hb.Zaq hg⟩
 rw[List.mem_singleton]at hz;subst hz
 exact⟨Zab _ _,Zbb.new h.rv.1.1 _,hb.bel.size,Za3⟩
end
end
end Go.Proofs.YtgcidfenjlmljaaGreat.Bt
