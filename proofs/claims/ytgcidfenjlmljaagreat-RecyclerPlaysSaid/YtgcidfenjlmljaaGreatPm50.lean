import Derived.Test.YtgcidfenjlmljaaGreatPm49
import Derived.Test.YtgcidfenjlmljaaGreatPm46
import Derived.Test.YtgcidfenjlmljaaGreatPm48
import Derived.Lib.SmallJoins
import Derived.Deep.Slices
import Derived.Deep.Strs
import Derived.ChangeSame
import Derived.OpenShut
import Derived.WideShapes
import Derived.WalkSmall
import Derived.Test.YtgcidfenjlmljaaGreatPm45
import Derived.Test.YtgcidfenjlmljaaGreatPm38
import Derived.Test.YtgcidfenjlmljaaGreatPmR
set_option linter.unusedVariables false
set_option linter.unusedSimpArgs false
set_option maxRecDepth 100000
set_option maxHeartbeats 16000000
namespace Go.Proofs.YtgcidfenjlmljaaGreat.Bt
section
open Go Go.RowKit Go.Shelf
section
variable {Q B A n g K:Nat} {R:Zag} {q:Nat->List Nat} {hs:List Hd} {s:ASt} {v:Value} {w y:World}
theorem ldo (hrv:RcV Q B A n 4096 s w) (hpy:PyS n g K R q hs s) {Ds:List Nat} (hDz:∀z∈Ds,z<w.heap.size) (hdw:DWo A (n:Int) (g:Int) (rfI s) (K:Int) (tkT R g) q hs v Ds w) (d k m:Int) (d0:0<=d) (d1:d<=255) (k0: -9223372036854775808<=k) (k1:k<=9223372036854775807) (m0: -9223372036854775808<=m) (m1:m<=9223372036854775807):
 Calls Tryz.prog 19 #[rcP Q,v,.agg #[.int .u8 d,iV k,iV m]] w (Zom Q B A n Ds w):=by
 by_cases c:200<=d
 · exact Ydn hrv hpy hDz hdw d k m d0 d1 k0 k1 m0 m1 c
 · have h8:(d%8=3\/d%8=4)\/d%8=5\/d%8=6\/d%8=7\/(d%8=0\/d%8=1\/d%8=2):=by omega
   rcases h8 with e|e|e|e|e
   · exact Ydo hrv hpy hDz hdw d k m d0 d1 k0 k1 m0 m1 ⟨c,e⟩
   · exact Zz9 hrv hpy hDz hdw d k m d0 d1 k0 k1 m0 m1 ⟨c,e⟩
   · exact Zz6 hrv hpy hDz hdw d k m d0 d1 k0 k1 m0 m1 ⟨c,e⟩
   · exact Zz8 hrv hpy hDz hdw d k m d0 d1 k0 k1 m0 m1 ⟨c,e⟩
   · exact Zz7 hrv hpy hDz hdw d k m d0 d1 k0 k1 m0 m1 ⟨c,e⟩
end
end
section
open Go Go.RowKit Go.Shelf
theorem Yj3 (w:World):Calls Tryz.prog 51 #[] w (Zan (.bool true) w):=by
 go_enter Tryz.func51,Tryz.ntmps51
 go_wp2_with fail
 refine(Yg3 _).mono ?_
 rintro e w1 ⟨rfl,hb⟩
 have HB:=hid hb
 clear hb
 go_wp2_with fail
 go_ret
 exact⟨rfl,HB.out⟩
theorem Yiw (w:World):Calls Tryz.prog 52 #[] w (Zan (.bool true) w):=by
 go_enter Tryz.func52,Tryz.ntmps52
 go_wp2_with fail
 refine(Zl7 _).mono ?_
 rintro e w1 ⟨rfl,hb⟩
 have HB:=hid hb
 clear hb
 go_wp2_with fail
 go_ret
 exact⟨rfl,HB.out⟩
theorem Zzy {C:Nat->Nat} {o:Int} {k:Nat} (hk:k<5) (h1:o<=(k:Int)) (h2:0<C k):lsV C o≠Zhk:=by
 have:((List.range 5).find? (Zf5 C o)).isSome:=by
  rw[List.find?_isSome]
  exact⟨k,List.mem_range.2 hk,by unfold Zf5;simp[h1,h2]⟩
 unfold lsV
 obtain⟨j,hj⟩:=Option.isSome_iff_exists.1 this
 rw[hj]
 intro e
 simp[Zhk]at e
section
variable {Q B A n g K:Nat} {R:Zag} {q:Nat->List Nat} {hs:List Hd} {s:ASt} {v:Value} {w y:World}
theorem Zl4:∀k,Zci (fun _=>[]) k=0
 |0=>rfl
 |k+1=>by unfold Zci;rw[Zl4 k];simp
theorem Yd8 (hv:RcV Q B A 8 4096 s w) (h:PyS 8 1 16 R (fun _=>[]) [] s) (hrf:s.rf=false):
 Calls Tryz.prog 27 #[rcP Q,iV 0,.int .u64 5] w fun e w'=>∃(i g':Nat) (R':Zag) (s':ASt),e=.returned (.tuple #[cV (adr i:Int) 0 5 0,iV 0])/\RcV Q B A 8 4096 s' w'/\Zam A w w'/\PyS 8 g' 16 R' (fun _=>[]) [⟨(adr i:Int),0,5,0⟩] s':=by
 have hr:rfI s= -1:=by unfold rfI;rw[hrf];rfl
 refine(Yc8 hv h 0 5 (by omega)).mono ?_
 rintro e w' ⟨c0,c1,c2,er,g',R',q',hs',s',rfl,h1,h2,h3,⟨h4,_⟩|⟨kn,hk,_,_,⟨i,l,_,rfl,rfl,rfl,rfl,rfl,h5⟩|⟨_,_,_,_,_,_,h5⟩⟩⟩
 · omega
 · have hk0:kn=0:=by omega
   subst hk0
   rcases h5 with⟨rest,_,_,e,_⟩|⟨_,rfl,rfl,_⟩|⟨_,_,c,_⟩
   · cases e
   · exact⟨i,g',R',s',rfl,h1,h2,h3⟩
   · rw[Zl4]at c;omega
 · have hk0:kn=0:=by omega
   subst hk0
   obtain⟨_,r1,_,hq,_⟩:=h5
   rw[hr]at hq
   have e1:Zfl 8 1 (-1) 0 (upN 1 (2^0))=(2, -1,0):=by decide
   rw[show((8:Nat):Int)=8 from rfl,show((1:Nat):Int)=1 from rfl,e1]at hq
   simp at hq
theorem PyS.Yf3 (h:PyS n g K R q hs s) {c:Hd} (hc:c∈hs):Zac s.L s.es c.a 32=0/\c.a<=9223372036854775807:=by
 obtain⟨i,k,u,rfl,f2,f3,f4,f5,f6,f7⟩:=h.ow c hc
 have h1:=h.rc.bu.addr f3
 have h2:=h.rc.bu.c2;have h3:=h.rc.bu.gG
 refine⟨h.rc.bu.there (by show 0<=(adr i:Int);omega) (by omega) (by show(adr i:Int)+32<=_;unfold adr;omega),?_⟩
 show(adr i:Int)<=_
 unfold adr;omega
theorem Yd9 {i:Nat} (hv:RcV Q B A 8 4096 s w) (h:PyS 8 g 16 R (fun _=>[]) [⟨(adr i:Int),0,5,0⟩] s):
 Calls Tryz.prog 28 #[rcP Q,iV (adr i:Int)] w fun e w'=>∃(R':Zag) (s':ASt) (hs':List Hd),e=.returned (iV 0)/\RcV Q B A 8 4096 s' w'/\Zam A w w'/\PyS 8 g 16 R' (Zde (fun _=>[]) 0 [1+i]) hs' s':=by
 obtain⟨t1,t2⟩:=h.Yf3 (c:=⟨(adr i:Int),0,5,0⟩) (by simp)
 refine(Yfz hv h (adr i:Int) t2 t1).mono ?_
 rintro e w' ⟨ans,R',q',hs',s',rfl,h1,h2,h3,⟨c,_⟩|⟨_,c,_⟩|⟨_,j,k,u,hf,rfl,h5,_,h6⟩⟩
 · have:=Zlz.1 c
   obtain⟨p,_,m,_,hm⟩:=this
   cases hm
 · have e1:gvC [⟨(adr i:Int),0,5,0⟩] (adr i:Int)=⟨(adr i:Int),0,5,0⟩:=if_pos rfl
   rw[e1]at c
   cases c
 · have e1:gvC [⟨(adr i:Int),0,5,0⟩] (adr i:Int)=⟨(adr i:Int),0,5,0⟩:=if_pos rfl
   have hf1:=hf.1
   rw[e1]at hf1
   simp only[Hd.mk.injEq]at hf1
   have hi:i=j:=Zmc hf1.1
   have hk:k=0:=by have:=hf1.2.1;omega
   subst hi;subst hk
   rcases h6 with⟨_,_,_,rfl⟩|⟨c|c,_⟩
   · exact⟨R',s',hs',rfl,h1,h2,h3⟩
   · omega
   · rw[Zl4]at c;omega
theorem Yap {i:Nat} (hv:RcV Q B A 8 4096 s w) (h:PyS 8 g 16 R (Zde (fun _=>[]) 0 [1+i]) hs s):
 Calls Tryz.prog 27 #[rcP Q,iV 0,.int .u64 6] w fun e w'=>∃s',e=.returned (.tuple #[cV (adr i:Int) 0 6 0,iV 0])/\RcV Q B A 8 4096 s' w'/\Zam A w w':=by
 have hn:lsV (Zlq (Zde (fun _=>[]) 0 [1+i])) 0≠Zhk:=Zzy (k:=0) (by omega) (by omega) (by show 0<(Zde (fun _=>[]) 0 [1+i] 0).length;rw[Za1];simp)
 refine(Yc8 hv h 0 6 (by omega)).mono ?_
 rintro e w' ⟨c0,c1,c2,er,g',R',q',hs',s',rfl,h1,h2,h3,⟨h4,_⟩|⟨kn,hk,_,_,⟨j,l,_,rfl,rfl,rfl,rfl,rfl,h5⟩|⟨_,_,_,_,_,_,h5⟩⟩⟩
 · omega
 · have hk0:kn=0:=by omega
   subst hk0
   rcases h5 with⟨rest,_,_,e,_⟩|⟨c,_⟩|⟨c,_⟩
   · by_cases hl:l=0
     · subst hl
       rw[Za1]at e
       have:i=j:=by simp at e;omega
       subst this
       exact⟨s',rfl,h1,h2⟩
     · rw[Zaz _ _ hl]at e;cases e
   · exact absurd c hn
   · exact absurd c hn
 · have hk0:kn=0:=by omega
   subst hk0
   exact absurd h5.1 hn
end
theorem Yeq (w:World):Calls Tryz.prog 12 #[] w (Zan (.bool true) w):=by
 go_enter Tryz.func12,Tryz.ntmps12
 go_wp2_with fail
 refine(Ygh 9 (by omega) (by omega) _).mono ?_
 rintro e w1 ⟨Q,B,A,n,R,s,v,hn,rfl,h,hrf,hbs⟩
 have hn8:n=8:=by omega
 subst hn8
 obtain⟨u,c,P,nn,C,op,on,oc,rfl, -⟩:=h.dw
 obtain⟨ln,ht⟩:=eX ((tkT R 1).length)
 obtain⟨ri,hri⟩:=eX (rfI s)
 rw[ht,hri]
 have HBS:=hid hbs
 have HTK:=hid fun X (hX:RcV Q B A 8 4096 s X)=>Yd8 hX h.py hrf
 have HX1:=hid ((WkS.start h.rv).new (rqA ((8:Nat):Int) ((1:Nat):Int) ri ((16:Nat):Int) (.slice u ln c) P nn C (.slice op on oc)) 33 Za3)
 clear ht hri hbs hrf h hn
 go_upto_region 2 with fail
 change Code.wp _ _ _ _ (w1.alloc (.cells (rqA ((8:Nat):Int) ((1:Nat):Int) ri ((16:Nat):Int) (.slice u ln c) P nn C (.slice op on oc)) 33))
 obtain⟨x1,hx1⟩:=eX (w1.alloc (.cells (rqA ((8:Nat):Int) ((1:Nat):Int) ri ((16:Nat):Int) (.slice u ln c) P nn C (.slice op on oc)) 33))
 obtain⟨D,hD⟩:=eX w1.heap.size
 rw[hx1,hD]at HX1
 rw[hx1,hD]
 clear hx1 hD
 go_upto_region 3 with fail
 refine(HTK.out _ HX1.out.rv).mono ?_
 rintro e w2 ⟨i,g2,R2,s2,rfl,hv,hg,hp⟩
 have HX2:=hid ((HX1.out.Zf9 hv hg).new (cC (adr i:Int) 0 5 0) 71 (by unfold Zc7;decide))
 have HGV:=hid fun X (hX:RcV Q B A 8 4096 s2 X)=>Yd9 hX hp
 obtain⟨a,ha⟩:=eX ((adr i:Int):Int)
 have HAI:=hid ha
 clear hv hg hp HX1 HTK
 rw[ha]at HX2 HGV⊢
 unfold cV
 clear ha
 go_upto_region 3 with fail
 change Code.wp _ _ _ _ (w2.alloc (.cells (cC a 0 5 0) 71))
 obtain⟨x2,hx2⟩:=eX (w2.alloc (.cells (cC a 0 5 0) 71))
 obtain⟨E,hE⟩:=eX w2.heap.size
 rw[hx2,hE]at HX2
 rw[hx2,hE]
 clear hx2 hE
 obtain⟨e0, -⟩:=Zal HX2.out.fr.at0
 go_upto_region 4 with fail
 refine(HGV.out _ HX2.out.rv).mono ?_
 rintro e w3 ⟨R3,s3,hs3,rfl,hv,hg,hp⟩
 have HX3:=hid (HX2.out.Zf9 hv hg)
 have HAG:=hid fun X (hX:RcV Q B A 8 4096 s3 X)=>Yap hX hp
 rw[HAI.out]at HAG
 clear hv hg hp HX2 HGV e0
 go_upto_region 5 with fail
 refine(HAG.out _ HX3.out.rv).mono ?_
 rintro e w4 ⟨s4,rfl,hv,hg⟩
 have HX4:=hid ((HX3.out.Zf9 hv hg).new (cC a 0 6 0) 71 (by unfold Zc7;decide))
 clear hv hg HX3 HAG
 unfold cV
 go_upto_region 5 with fail
 change Code.wp _ _ _ _ (w4.alloc (.cells (cC a 0 6 0) 71))
 obtain⟨x4,hx4⟩:=eX (w4.alloc (.cells (cC a 0 6 0) 71))
 obtain⟨F,hF⟩:=eX w4.heap.size
 rw[hx4,hF]at HX4
 rw[hx4,hF]
 clear hx4 hF
 go_wp2_with fail
 refine(Yj3 _).mono ?_
 rintro e w5 ⟨rfl,hb⟩
 have HX5:=hid (HX4.out.below hb)
 clear hb HX4
 go_wp2_with fail
 refine(Yiw _).mono ?_
 rintro e w6 ⟨rfl,hb⟩
 have HX6:=hid (HX5.out.below hb)
 clear hb HX5
 obtain⟨e0, -⟩:=Zal HX6.out.fr.at1
 obtain⟨f0, -,f2, -⟩:=Zal HX6.out.fr.at0
 go_wp2_with fail
 go_ret
 exact⟨rfl,(HBS.out.Zaq HX6.out.fr.wt).bel⟩
end
section
open Go Go.RowKit Go.Shelf Go.Deep Go.ChangeShapes Go.WideShapes Go.ChangeAt
theorem Tryz.Ztg:Tryz.prog.cellsOf 44=3:=by kernel_rfl
theorem Tryz.Ztf:Tryz.prog.cellsOf 5=1:=by kernel_rfl
theorem Zpw {H:Type} {enc:TypeId × Value->H} {w:World} {fuel:Nat} {v:Value} {x:DataW H × List MemPlace} {a:Option Addr} {len cap:Nat} (hv:v=.slice a len cap)
 (h:DataW.trod enc Tryz.prog w 0 (fun _=>true) true fuel 22 v.cells.toList=some x):∃acts:List Ycg,acts.length=len/\len<=9223372036854775807/\Zpz w a acts:=by
 subst hv
 rcases open_slice Tryz.underlying22 h with⟨h1,_⟩|⟨ad,len',cap',m,n,D,Pl,h1,_,hl,hm,hmm,_,hi⟩
 · simp[Value.cells]at h1
   exact⟨[],by simp[h1.2.1],by omega,.inl rfl⟩
 · simp[Value.cells]at h1
   obtain⟨rfl,rfl,rfl⟩:=h1
   unfold maxLen at hm
   have hlm:len<=m:=by rw[hmm];simp;omega
   have key:∀i,i<len->∃act:Ycg,act.ok/\w.cell? (ad.add (i*3))=some (.int .u8 act.d)/\w.cell? (ad.add (i*3+1))=some (iV act.k)/\w.cell? (ad.add (i*3+2))=some (iV act.n):=by
    intro i hilt
    obtain⟨cs',hc,ht⟩:=hi i (by omega)
    rw[Tryz.Ztg]at hc
    obtain⟨_,hcl,hat⟩:=World.cells?_some hc
    obtain⟨y0,y1,y2,k,_,_,e0,e1,e2⟩:=Go.Deep.trod_struct3 Tryz.underlying44 ht
    match cs',hcl with
    |[c0,c1,c2],_=>
     simp only[Tryz.Ya1,Tryz.Ztf,List.drop_zero,List.drop_succ_cons,List.take_succ_cons,List.take_zero]at e0 e1 e2
     obtain⟨d,hd,_,wd⟩:=DataW.trod_int Tryz.underlying5 e0
     obtain⟨f,hf,_,wf⟩:=DataW.trod_int Tryz.underlying3 e1
     obtain⟨g,hg,_,wg⟩:=DataW.trod_int Tryz.underlying3 e2
     simp only[List.cons.injEq,and_true]at hd hf hg
     subst hd hf hg
     have b0:=bounds_u8 wd
     have b1:=bounds_i64 wf
     have b2:=bounds_i64 wg
     have a0:=hat 0 (by omega)
     have a1:=hat 1 (by omega)
     have a2:=hat 2 (by omega)
     rw[add_add]at a0 a1 a2
     exact⟨⟨d,f,g⟩,⟨b0.1,b0.2,b1.1,b1.2,b2.1,b2.2⟩,by simpa using a0,by simpa using a1,by simpa using a2⟩
   refine⟨(List.range len).attach.map fun i=>Classical.choose (key i.1 (List.mem_range.1 i.2)),by simp,by omega,?_⟩
   by_cases h0:len=0
   · subst h0;exact .inl rfl
   · have k0:=(Classical.choose_spec (key 0 (by omega))).2.1
     obtain⟨b,off,spot⟩:=ad
     have hspot:spot=none:=by simpa[Addr.add]using World.cell?_spot k0
     subst hspot
     refine .inr ⟨b,off,rfl,World.block_lt_of_cell? _ _ (by simpa[Addr.add]using k0),fun i hil=>?_⟩
     have hil':i<len:=by simpa using hil
     have ks:=Classical.choose_spec (key i hil')
     have eA:∀j,((aD b off):Addr).add j=(aD b (off+j)):=fun j=>by
      simp only[Addr.add];split<;>simp_all
     simp only[List.getElem_map,List.getElem_attach,List.getElem_range]
     exact⟨⟨(congrArg w.cell? (eA _).symm).trans ks.2.1,(congrArg w.cell? (eA (i*3+1)).symm).trans ks.2.2.1,(congrArg w.cell? (eA (i*3+2)).symm).trans ks.2.2.2⟩,ks.1⟩
structure PR (D n Q B A g K:Nat) (R:Zag) (q:Nat->List Nat) (hs:List Hd) (s:ASt) (cs:Array Value) (w0 x:World):Prop where
 rv:RcV Q B A n 4096 s x
 py:PyS n g K R q hs s
 dw:DWo A (n:Int) (g:Int) (rfI s) (K:Int) (tkT R g) q hs (.agg cs) [D] x
 fr:Fr A w0 [⟨D,cs,33⟩] x
 bs:Ze0 A w0 x
structure PR2 (D n Q B A g K:Nat) (R:Zag) (q:Nat->List Nat) (hs:List Hd) (s:ASt) (co cs:Array Value) (w0 x:World):Prop where
 rv:RcV Q B A n 4096 s x
 py:PyS n g K R q hs s
 dw:DWo A (n:Int) (g:Int) (rfI s) (K:Int) (tkT R g) q hs (.agg cs) [D] x
 fr:Fr A w0 [⟨D,co,33⟩] x
 bs:Ze0 A w0 x
section
variable {D n Q B A g g' K K':Nat} {R R':Zag} {q q':Nat->List Nat} {hs hs':List Hd} {s s':ASt} {co cs cs':Array Value} {w0 x y z:World}
theorem PR.below (h:PR D n Q B A g K R q hs s cs w0 x) (hb:Below x.heap.size x y):PR D n Q B A g K R q hs s cs w0 y:=
 ⟨h.rv.below hb,h.py,h.dw.Zaq h.rv.1.1 (Zam.Zad h.rv.1.1 hb),h.fr.below h.rv.1.1 hb,h.bs.below h.rv.1.1 hb⟩
theorem PR2.below (h:PR2 D n Q B A g K R q hs s co cs w0 x) (hb:Below x.heap.size x y):PR2 D n Q B A g K R q hs s co cs w0 y:=
 ⟨h.rv.below hb,h.py,h.dw.Zaq h.rv.1.1 (Zam.Zad h.rv.1.1 hb),h.fr.below h.rv.1.1 hb,h.bs.below h.rv.1.1 hb⟩
theorem PR2.lw (h:PR2 D n Q B A g K R q hs s co cs w0 x):LwS Q B A n g K R q hs s (.agg cs) x:=⟨h.rv,h.py,h.dw.dw⟩
theorem PR.lt (h:PR D n Q B A g K R q hs s cs w0 x):∀z∈[D],z<x.heap.size:=fun z hz=>by
 rw[List.mem_singleton]at hz
 subst hz
 exact(Array.getElem?_eq_some_iff.1 h.fr.at0).1
theorem PR.act (h:PR D n Q B A g K R q hs s co w0 x) (hv:RcV Q B A n 4096 s' y) (hp:PyS n g' K' R' q' hs' s') (hd:DWo A (n:Int) (g':Int) (rfI s') (K':Int) (tkT R' g') q' hs' (.agg cs) [D] y) (hg:Zam A x y):PR2 D n Q B A g' K' R' q' hs' s' co cs w0 y:=
 ⟨hv,hp,hd,h.fr.Zaq h.rv.1.1 hg,h.bs.Zaq hg⟩
theorem PR2.store {vs:List Value} (h:PR2 D n Q B A g K R q hs s co vs.toArray w0 x) (hc:co.size=vs.length) {i:Int} (h2:x.cell? (aD D 2)=some (iV i)):PR D n Q B A g K R q hs s vs.toArray w0 (stR x D vs 0):=
 ⟨h.rv.stR (L1:=[]) h.fr vs 0,h.py,h.dw.stR h.rv.1.1 h.fr.at0 (by decide) h2 h.fr.Zji (by simp) vs 0,h.fr.Zd9 h.rv.1.1 vs hc,Ze0.Zc0 h.fr.ge0 vs 0 x h.bs h.rv.1.1 h.fr.Zji⟩
theorem PR.clone {A2 B2 Q2:Nat} (h:PR D n Q B A g K R q hs s cs w0 x) (ho:On A2 s y) (hb:Below x.heap.size x y) (hown:∀k,Zpx A2 y k->x.heap.size<=k) (hedg:∀k,Ztr A2 y k->Ztr A x k) (hz:Below y.heap.size y z) (hV:RcV Q2 B2 A2 n 4096 s z):
 PR D n Q2 B2 A2 g K R q hs s cs w0 z:=by
 have hm:∀j,Zbb A j x->Zbb A2 j y:=fun j hj=>⟨Nat.lt_of_lt_of_le hj.lt hb.size,fun k=>by have:=hown _ k;have:=hj.lt;omega,fun k=>hj.edg (hedg _ k)⟩
 have hbs:Ze0 A2 w0 y:=⟨h.bs.bel.trans (hb.mono h.bs.bel.size),fun k hk=>Nat.le_trans h.bs.bel.size (hown k hk),fun k hk=>h.bs.edg k (hedg k hk)⟩
 have hgz:=Zam.Zad ho hz
 obtain⟨u,c,P,nn,C,op,on,oc,h1,h2,h3,h4⟩:=h.dw
 refine⟨hV,h.py,⟨u,c,P,nn,C,op,on,oc,h1,(h2.below hb).below hz,fun k hk hq b off e=>((hm b (h3 k hk hq b off e)).Zaq hgz),h4⟩,⟨fun v hv=>?_,h.fr.nd,(Zam.Zo6 hbs).trans hgz⟩,hbs.Zaq hgz⟩
 obtain⟨a1,a2,a3,a4⟩:=h.fr.bs v hv
 have b1:=(hb.block _ a2.lt).trans a1
 exact⟨(hz.block _ (hm _ a2).lt).trans b1,(hm _ a2).Zaq hgz,a3,a4⟩
theorem PR.start {v:Value} (h:LwS Q B A n g K R q hs s v x) (hb:Ze0 A w0 x) {cs:Array Value} (e:v=.agg cs):PR x.heap.size n Q B A g K R q hs s cs w0 (x.alloc (.cells cs 33)):=by
 subst e
 have hw:=Zaj x (.cells cs 33)
 have hg:=Zam.Zad h.rv.1.1 hw
 refine⟨h.rv.below hw,h.py,(h.dw.off (Ds:=[x.heap.size]) (fun D hD=>by rw[List.mem_singleton]at hD;subst hD;exact Nat.le_refl _)).Zaq h.rv.1.1 hg,⟨fun z hz=>?_,List.pairwise_singleton _ _,(Zam.Zo6 hb).trans hg⟩,hb.Zaq hg⟩
 rw[List.mem_singleton]at hz
 subst hz
 exact⟨Zab _ _,Zbb.new h.rv.1.1 _,hb.bel.size,Za3⟩
end
end
section
open Go Go.RowKit Go.Shelf
structure TlX (Q B A n D:Nat) (s:ASt) (cs:Array Value) (u:Option Addr) (L:List (Nat × Nat × Bool)) (P:Nat->Option Addr) (nn C:Nat->Nat) (q:Nat->List Nat) (op:Option Addr) (on oc:Nat) (hs:List Hd) (w x:World):Prop where
 f:Fb w [⟨D,cs,33⟩] x
 v:RcV Q B A n 4096 s x
 d:DIn u L P nn C q op on oc hs x
section
variable {Q B A n g K:Nat} {R:Zag} {q:Nat->List Nat} {hs:List Hd} {s:ASt} {v:Value} {w x y:World}
theorem TlX.below {D:Nat} {cs:Array Value} {u:Option Addr} {L:List (Nat × Nat × Bool)} {P:Nat->Option Addr} {nn C:Nat->Nat} {op:Option Addr} {on oc:Nat} (h:TlX Q B A n D s cs u L P nn C q op on oc hs w x) (hb:Below x.heap.size x y):TlX Q B A n D s cs u L P nn C q op on oc hs w y:=⟨h.f.below hb,h.v.below hb,h.d.below hb⟩
theorem PyS.Yf5 (h:PyS n g K R q hs s) {c:Hd} (hc:c∈hs):rdV s c.a=.tuple #[cV c.a c.o c.u c.x,iV 0]/\c.a<=9223372036854775807:=by
 obtain⟨i,k,u,rfl,f2,f3,f4,f5,f6,f7⟩:=h.ow c hc
 have h1:=h.rc.bu.addr f3
 have h2:=h.rc.bu.c2;have h3:=h.rc.bu.gG
 have ht:Zac s.L s.es (adr i:Int) 32=0:=h.rc.bu.there (by omega) (by omega) (by unfold adr;omega)
 refine⟨?_,?_⟩
 · show rdV s (adr i:Int)=.tuple #[cV (adr i:Int) (k:Int) (u:Int) 0,iV 0]
   unfold rdV
   rw[if_pos ht,if_pos f7.s,Int.toNat_natCast,f7.o,f7.u,f7.x]
 · show(adr i:Int)<=_
   unfold adr;omega
theorem Zf7 {D j:Nat} {a b r K:Int} {U O:Value} {P:Nat->Option Addr} {nn C:Nat->Nat} {t:TypeId} {X:World} (h:X.heap[D]?=some (.cells (rqA a b r K U P nn C O) t (0,0))) (hj:j<5):X.cell? (aD D (5+j))=some (.slice (P j) (nn j) (C j)):=by
 rw[(Zaa h _).1]
 match j,hj with
 |0,_=>rfl
 |1,_=>rfl
 |2,_=>rfl
 |3,_=>rfl
 |4,_=>rfl
theorem Yik (h:LwS Q B A n g K R q hs s v w):
 Calls Tryz.prog 20 #[rcP Q,v] w (Zan (.bool true) w):=by
 have hpy:=h.py
 have hrv:=h.rv
 have HPY:=hid h.py
 obtain⟨u,c,P,nn,C,op,on,oc,rfl,hi, -⟩:=h.dw
 have HBI:=hid fun X (hX:RcV Q B A n 4096 s X)=>Zvc hX
 have HAL:=hid fun X (hX:On A s X) (j:Nat) (hj:j<5)=>Yen hX 4096 64 j (by omega) (by omega) (by omega) hj hpy.rc.bn (hi.nl j)
 have HOF:=hid fun X (hX:RcV Q B A n 4096 s X)=>Yei hX.1 hpy.rc.bu
 have hg80:g<=80:=by have:=hpy.rc.bu.gG;have:=hpy.rc.bu.c2;omega
 have HG8:=hid hg80
 have HRU:=hid fun X (hX:Zcg X u (tkT R g))=>Zn4 1 (n:Int) (rfI s) g hg80 u c R hpy.rc.bu.ti X hX
 have HKE:=hid fun X (hX:RcV Q B A n 4096 s X)=>Ybm hX hpy.rc
 have HCA:=hid fun X (hX:RcV Q B A n 4096 s X)=>Zo0 hX hpy.rc
 have HCN:=hid fun X=>Zdv P nn C (fun k=>by rw[hi.nq k];have:=hi.nl k;omega) X
 rw[Zrj hi.nq 5]at HCN
 have HNQ:=hid hi.nq;have HNL:=hid hi.nl;have HHN:=hid hi.hn;have HHL:=hid hi.hl
 obtain⟨ln,ht⟩:=eX ((tkT R g).length)
 obtain⟨ri,hri⟩:=eX (rfI s)
 obtain⟨cq,hcq⟩:=eX (((Zci q 5:Nat):Int):Int)
 rw[ht,hri]at HRU
 rw[hcq]at HCN HCA
 rw[ht,hri]
 clear ht hri hcq hpy hg80
 have hf:=(Fb.start w).new (rqA (n:Int) (g:Int) ri (K:Int) (.slice u ln c) P nn C (.slice op on oc)) 33
 have hv1:=hrv.below (Zaj w (.cells (rqA (n:Int) (g:Int) ri (K:Int) (.slice u ln c) P nn C (.slice op on oc)) 33))
 have hd1:=hi.below (Zaj w (.cells (rqA (n:Int) (g:Int) ri (K:Int) (.slice u ln c) P nn C (.slice op on oc)) 33))
 clear hrv hi h
 go_enter Tryz.func20,Tryz.ntmps20
 go_upto_region 1 with fail
 change Code.wp _ _ _ _ (w.alloc (.cells (rqA (n:Int) (g:Int) ri (K:Int) (.slice u ln c) P nn C (.slice op on oc)) 33))
 obtain⟨x,hx⟩:=eX (w.alloc (.cells (rqA (n:Int) (g:Int) ri (K:Int) (.slice u ln c) P nn C (.slice op on oc)) 33))
 obtain⟨D,hD⟩:=eX w.heap.size
 rw[hx]at hf hv1 hd1
 rw[hD]at hf
 rw[hx,hD]
 have HX:=hid (show TlX Q B A n D s (rqA (n:Int) (g:Int) ri (K:Int) (.slice u ln c) P nn C (.slice op on oc)) u (tkT R g) P nn C q op on oc hs w x from⟨hf,hv1,hd1⟩)
 clear hf hv1 hd1 hx hD
 go_wp2_with fail
 go_loopw[10] (fun s10 wr=>∃j:Nat,j<=5/\s10=iV j/\TlX Q B A n D s (rqA (n:Int) (g:Int) ri (K:Int) (.slice u ln c) P nn C (.slice op on oc)) u (tkT R g) P nn C q op on oc hs w wr) (fun s10 _=>5-(intOf s10).toNat)
 case atStart=>exact⟨0,by omega,rfl,HX.out⟩
 case round=>
  clear HX
  obtain⟨j,hj,rfl,hx⟩:=hrel
  have HX:=hid hx
  clear hx
  by_cases hj5:j<5
  · have hjc:(j:Int)<5:=by omega
    have hcd:=Zf7 HX.out.f.at0 hj5
    have HAJ:=hid fun X hX=>HAL.out X hX j hj5
    have HQJ:=hid fun X (hX:TlX Q B A n D s (rqA (n:Int) (g:Int) ri (K:Int) (.slice u ln c) P nn C (.slice op on oc)) u (tkT R g) P nn C q op on oc hs w X)=>hX.d.qa j hj5
    obtain⟨pj,hpj⟩:∃p,P j=p:=⟨_,rfl⟩
    obtain⟨nj,hnj⟩:∃p,nn j=p:=⟨_,rfl⟩
    obtain⟨cj,hcj⟩:∃p,C j=p:=⟨_,rfl⟩
    have HNJ:Hid (nj=(q j).length):=hid (by rw[<-hnj];exact HNQ.out j)
    rw[hpj,hnj,hcj]at hcd
    rw[hpj]at HQJ
    have HLE:Hid ((adI (q j)).length=nj):=hid (by rw[HNJ.out];simp[adI])
    have HLB:Hid (nj<4294967296):=hid (by rw[HNJ.out];have:=HNL.out j;omega)
    have HXD:=hid (HX.out.below (Below.refl _ _).drew)
    have hcdd:=Zf7 HXD.out.f.at0 hj5
    have HEE:Hid ((adI (q j)==adI (q j))=true):=hid (by simp)
    go_upto_region 4 with fail
    go_region_held3 (fun X=>X.cell? (aD D (5+j))=some (.slice pj nj cj))
     (first|exact(show _=some (.slice pj nj cj)from by rw[<-hpj,<-hnj,<-hcj];exact Zf7 HXD.out.f.at0 hj5)|assumption)
     (first|(go_at_call 31;refine(HBI.out _ HXD.out.v).mono ?_;rintro e x1 ⟨rfl,hb1⟩;have hx1:=HXD.out.below hb1;have kk1:=Zf7 hx1.f.at0 hj5;rw[hpj,hnj,hcj]at kk1)
           |(go_at_call 73;refine(HAJ.out _ hx1.v.1.1).mono ?_;rintro e x2 ⟨v2,rfl,hi2,hb2⟩;obtain⟨pv,cv,rfl,hrw⟩:=hi2.row;have hx2:=hx1.below hb2;have kk2:=Zf7 hx2.f.at0 hj5;rw[hpj,hnj,hcj]at kk2;rw[HLE.out])
           |(go_at_call 72;refine(Znu pv pj cv cj nj nj (adI (q j)) (adI (q j)) HLE.out.symm HLE.out.symm (by have:=HLB.out;omega) _ hrw (HQJ.out _ hx2)).mono ?_;rintro e x3 ⟨rfl,dd,rfl⟩;rw[HEE.out];have hx3:=hx2.below (below_drewN (Below.refl _ _) dd);have kk3:=Zf7 hx3.f.at0 hj5;rw[hpj,hnj,hcj]at kk3))
    have HX3:=hid hx3
    clear hx1 hx2 hx3 kk1 kk2 kk3 hb1 hi2 hrw hb2 HXD
    go_wp2_with fail
    go_roundw
    case rel=>exact⟨j+1,by omega,by go_num,HX3.out⟩
    case measure=>simp[intOf];omega
  · have hjc:¬(j:Int)<5:=by omega
    have hon:=HHL.out
    rw[<-HHN.out]at hon
    have HON:=hid hon
    clear hon
    have d11:wr.cell? (aD D 11)=some (.slice op on oc):=HX.out.f.cell0 11 rfl
    obtain⟨w0,hw0⟩:∃w0,w0=wr:=⟨_,rfl⟩
    go_wp2_with fail
    go_loopw[27] (fun s27 wr=>∃i:Nat,i<=on/\s27=iV i/\TlX Q B A n D s (rqA (n:Int) (g:Int) ri (K:Int) (.slice u ln c) P nn C (.slice op on oc)) u (tkT R g) P nn C q op on oc hs w wr) (fun s27 _=>on-(intOf s27).toNat)
    case atStart=>exact⟨0,by omega,rfl,HX.out⟩
    case round=>
     clear HX d11
     obtain⟨i,hi,rfl,hx⟩:=hrel
     have HX:=hid hx
     clear hx
     have hho:=HX.out.d.ho
     by_cases hs0:i<on
     · have hic:(i:Int)<(on:Int):=by omega
       rcases hho with⟨_,e⟩|⟨b,cap,cs,fr,e,hb0,hc⟩
       · rw[HHN.out,e]at hs0;exact absurd hs0 (Nat.not_lt_zero _)
       · simp only[Value.slice.injEq]at e
         obtain⟨rfl, -, -⟩:=e
         have hil:i<hs.length:=by rw[<-HHN.out];exact hs0
         obtain⟨q0,q1,q2,q3⟩:=hc i hil
         have hm:hs.getD i hdZ∈hs:=by rw[List.getD_eq_getElem?_getD,List.getElem?_eq_getElem hil];exact List.getElem_mem _
         obtain⟨h1,h2⟩:=HPY.out.Yf5 hm
         have HRD:=hid fun X (hX:On A s X)=>Ze5 hX (hs.getD i hdZ).a h2
         rw[h1]at HRD
         generalize hs.getD i hdZ=cc at q0 q1 q2 q3 HRD
         obtain⟨a,o,ow,nx⟩:=cc
         simp only at q0 q1 q2 q3 HRD
         have HIO:=hid hs0
         have HFX:=hid (HX.out.f.new (cC a o ow nx) 65)
         have HXX:=hid (HX.out.below (Zaj wr (.cells (cC a o ow nx) 65)))
         clear hc hb0 hm h1 h2
         go_upto_region 10 with fail
         change Code.wp _ _ _ _ (wr.alloc (.cells (cC a o ow nx) 65))
         obtain⟨x1,hx1⟩:=eX (wr.alloc (.cells (cC a o ow nx) 65))
         obtain⟨E,hE⟩:=eX wr.heap.size
         rw[hx1]at HFX HXX⊢
         rw[hE]at HFX⊢
         clear hx1 hE HX q0 q1 q2 q3
         refine wp_region_held_drew (S:=fun X:World=>TlX Q B A n D s (rqA (n:Int) (g:Int) ri (K:Int) (.slice u ln c) P nn C (.slice (some (aD b 0)) on oc)) u (tkT R g) P nn C q (some (aD b 0)) on oc hs w X/\X.heap[E]?=some (.cells (cC a o ow nx) 65 (0,0))) (by kernel_rfl) ⟨HXX.out.below (Below.refl x1.heap.size x1).drew,(HFX.out.below (Below.refl x1.heap.size x1).drew).at0⟩ (fun hHeld=>?_)
         have HFY:=hid (HFX.out.below (Below.refl x1.heap.size x1).drew)
         clear HFX HXX
         generalize x1.drew=x2 at*
         refine tk 0 (rcP Q) rfl hHeld (fun X hS=>by obtain⟨p0,p1,p2,p3,p4⟩:=hS.1.v.all.1;obtain⟨e0,e1,e2,e3⟩:=Zal hS.2;clear hS;go_simp) ?_
         refine tk 1 (rcP Q) rfl hHeld (fun X hS=>by obtain⟨p0,p1,p2,p3,p4⟩:=hS.1.v.all.1;obtain⟨e0,e1,e2,e3⟩:=Zal hS.2;clear hS;go_simp) ?_
         refine tk 2 (pT Q) rfl hHeld (fun X hS=>by obtain⟨p0,p1,p2,p3,p4⟩:=hS.1.v.all.1;obtain⟨e0,e1,e2,e3⟩:=Zal hS.2;clear hS;go_simp) ?_
         refine tk 3 (Zcv B) rfl hHeld (fun X hS=>by obtain⟨p0,p1,p2,p3,p4⟩:=hS.1.v.all.1;obtain⟨e0,e1,e2,e3⟩:=Zal hS.2;clear hS;go_simp) ?_
         refine tk 4 (Zcv B) rfl hHeld (fun X hS=>by obtain⟨p0,p1,p2,p3,p4⟩:=hS.1.v.all.1;obtain⟨e0,e1,e2,e3⟩:=Zal hS.2;clear hS;go_simp) ?_
         refine tk 5 (pT B) rfl hHeld (fun X hS=>by obtain⟨p0,p1,p2,p3,p4⟩:=hS.1.v.all.1;obtain⟨e0,e1,e2,e3⟩:=Zal hS.2;clear hS;go_simp) ?_
         refine tk 6 (pT A) rfl hHeld (fun X hS=>by obtain⟨p0,p1,p2,p3,p4⟩:=hS.1.v.all.1;obtain⟨e0,e1,e2,e3⟩:=Zal hS.2;clear hS;go_simp) ?_
         refine tk 7 (pT E) rfl hHeld (fun X hS=>by obtain⟨p0,p1,p2,p3,p4⟩:=hS.1.v.all.1;obtain⟨e0,e1,e2,e3⟩:=Zal hS.2;clear hS;go_simp) ?_
         refine tk 8 (iV a) rfl hHeld (fun X hS=>by obtain⟨p0,p1,p2,p3,p4⟩:=hS.1.v.all.1;obtain⟨e0,e1,e2,e3⟩:=Zal hS.2;clear hS;go_simp) ?_
         refine rd [9,13] (AllReadyH.cons rfl (fun K1 hK1=>?_) (AllReadyH.cons rfl (fun K1 hK1=>?_) AllReadyH.nil))
         focus
          go_simp
          have HH:=hid hHeld
          clear hHeld
          refine(HRD.out _ HH.out.1.v.1.1).mono ?_
          rintro e x3 ⟨rfl,hb⟩
          unfold cV
          have HFZ:=hid (HFY.out.below hb)
          have hn:=And.intro (HH.out.1.below hb) HFZ.out.at0
          clear hb HH HFY HRD
          refine hK1.out _ _ hn (fun hHeld=>?_)
          clear hK1 hn
          try simp only[Act.put,List.getElem_toArray,List.getElem_cons_zero,List.getElem_cons_succ,List.setIfInBounds_toArray,List.set_cons_zero,List.set_cons_succ]
          refine tk 10 (.tuple #[.agg #[iV a,iV o,.int .u64 ow,iV nx],iV 0]) rfl hHeld (fun X hS=>by obtain⟨e0,e1,e2,e3⟩:=Zal hS.2;clear hS;go_simp) ?_
          refine tk 11 (.agg #[iV a,iV o,.int .u64 ow,iV nx]) rfl hHeld (fun X hS=>by obtain⟨e0,e1,e2,e3⟩:=Zal hS.2;clear hS;go_simp) ?_
          refine tk 12 (iV 0) rfl hHeld (fun X hS=>by obtain⟨e0,e1,e2,e3⟩:=Zal hS.2;clear hS;go_simp) ?_
          refine rd [13] (AllReadyH.cons rfl (fun K1 hK1=>?_) AllReadyH.nil)
          go_simp
          have HH:=hid hHeld
          clear hHeld
          have HT0:=hid HH.out.1
          have HF3:=hid (HFZ.out.new zCk 71)
          have HBB:=hid (Zaj x3 (.cells zCk 71))
          refine hK1.out _ (x3.alloc (.cells zCk 71)) ⟨HH.out.1.below (Zaj _ _),HF3.out.at1⟩ (fun hHeld=>?_)
          clear hK1 HH HFZ
          obtain⟨x4,hx4⟩:=eX (x3.alloc (.cells zCk 71))
          have HSZ:Hid (x3.heap.size<=x3.heap.size):=hid (Nat.le_refl _)
          obtain⟨b0,hb0⟩:=eX x3.heap.size
          have HB0:=hid hb0
          rw[hx4,hb0]at HF3
          rw[hx4]at hHeld HBB⊢
          rw[hb0]
          clear hx4 HSZ
          try simp only[Act.put,List.getElem_toArray,List.getElem_cons_zero,List.getElem_cons_succ,List.setIfInBounds_toArray,List.set_cons_zero,List.set_cons_succ]
         rotate_left
         focus
          go_simp
          have HH:=hid hHeld
          clear hHeld
          have HT0:=hid HH.out.1
          have HF3:=hid (HFY.out.new zCk 71)
          have HBB:=hid (Zaj x2 (.cells zCk 71))
          refine hK1.out _ (x2.alloc (.cells zCk 71)) ⟨HH.out.1.below (Zaj _ _),HF3.out.at1⟩ (fun hHeld=>?_)
          clear hK1 HH HFY
          obtain⟨x3,hx3⟩:=eX (x2.alloc (.cells zCk 71))
          have HSZ:Hid (x2.heap.size<=x2.heap.size):=hid (Nat.le_refl _)
          obtain⟨b0,hb0⟩:=eX x2.heap.size
          have HB0:=hid hb0
          rw[hx3,hb0]at HF3
          rw[hx3]at hHeld HBB⊢
          rw[hb0]
          clear hx3 HSZ
          try simp only[Act.put,List.getElem_toArray,List.getElem_cons_zero,List.getElem_cons_succ,List.setIfInBounds_toArray,List.set_cons_zero,List.set_cons_succ]
          refine rd [9] (AllReadyH.cons rfl (fun K1 hK1=>?_) AllReadyH.nil)
          go_simp
          have HH:=hid hHeld
          clear hHeld
          refine(HRD.out _ HH.out.1.v.1.1).mono ?_
          rintro e x4 ⟨rfl,hb⟩
          unfold cV
          have HF9:=hid (HF3.out.below hb)
          have HBC:=hid (HBB.out.trans (hb.mono HBB.out.size))
          clear HBB
          have HBB:=HBC
          clear HBC
          have hn:=And.intro (HH.out.1.below hb) HF9.out.at1
          clear hb HH HF3 HRD
          refine hK1.out _ _ hn (fun hHeld=>?_)
          clear hK1 hn
          try simp only[Act.put,List.getElem_toArray,List.getElem_cons_zero,List.getElem_cons_succ,List.setIfInBounds_toArray,List.set_cons_zero,List.set_cons_succ]
          have HF3:=HF9
          clear HF9
          refine tk 10 (.tuple #[.agg #[iV a,iV o,.int .u64 ow,iV nx],iV 0]) rfl hHeld (fun X hS=>by obtain⟨e0,e1,e2,e3⟩:=Zal hS.2;clear hS;go_simp) ?_
          refine tk 11 (.agg #[iV a,iV o,.int .u64 ow,iV nx]) rfl hHeld (fun X hS=>by obtain⟨e0,e1,e2,e3⟩:=Zal hS.2;clear hS;go_simp) ?_
          refine tk 12 (iV 0) rfl hHeld (fun X hS=>by obtain⟨e0,e1,e2,e3⟩:=Zal hS.2;clear hS;go_simp) ?_
         all_goals
          obtain⟨z0,z1,z2,z3⟩:x4.frozen? (aD b0 0)=false/\x4.frozen? (aD b0 1)=false/\x4.frozen? (aD b0 2)=false/\x4.frozen? (aD b0 3)=false:=⟨HF3.out.Za5 0,HF3.out.Za5 1,HF3.out.Za5 2,HF3.out.Za5 3⟩
          have o0:=HF3.out.cell0 0 rfl;have o1:=HF3.out.cell0 1 rfl;have o2:=HF3.out.cell0 2 rfl;have o3:=HF3.out.cell0 3 rfl
          have HF4:=hid (HF3.out.Zd9 [iV a,iV o,.int .u64 ow,iV nx] rfl)
          have HT4:=hid (HT0.out.below (Zfu HBB.out (Nat.le_of_eq HB0.out) [iV a,iV o,.int .u64 ow,iV nx] 0))
          refine rd [14] (AllReadyH.cons rfl (fun K1 hK1=>?_) AllReadyH.nil)
          go_simp
          clear hHeld
          refine hK1.out _ (stR x4 b0 [iV a,iV o,.int .u64 ow,iV nx] 0) ⟨HT4.out,HF4.out.at1⟩ (fun hHeld=>?_)
          clear hK1 HF3 HT0 HBB z0 z1 z2 z3 o0 o1 o2 o3
          obtain⟨x5,hx5⟩:=eX (stR x4 b0 [iV a,iV o,.int .u64 ow,iV nx] 0)
          rw[hx5]at HF4 HT4 hHeld⊢
          clear hx5 HT4
          try simp only[Act.put,List.getElem_toArray,List.getElem_cons_zero,List.getElem_cons_succ,List.setIfInBounds_toArray,List.set_cons_zero,List.set_cons_succ]
          refine tk 15 (iV 0) rfl hHeld (fun X hS=>by obtain⟨e0,e1,e2,e3⟩:=Zal hS.2;clear hS;go_simp) ?_
          refine wpAnyH_done (by kernel_rfl) ?_ _
          have HH:=hid hHeld
          clear hHeld
          obtain⟨e0,e1,e2,e3⟩:=Zal HH.out.2;have hon:=HON.out
          have u0:=HF4.out.cell0 0 rfl;have u1:=HF4.out.cell0 1 rfl;have u2:=HF4.out.cell0 2 rfl;have u3:=HF4.out.cell0 3 rfl
          go_wp2_with fail
          go_roundw
          case rel=>exact⟨i+1,HIO.out,by go_num,HH.out.1⟩
          case measure=>have:=HIO.out;simp[intOf];omega
     · have hic:¬(i:Int)<(on:Int):=by omega
       go_upto_region 14 with fail
       refine wp_region_held_drew (S:=fun X:World=>TlX Q B A n D s (rqA (n:Int) (g:Int) ri (K:Int) (.slice u ln c) P nn C (.slice op on oc)) u (tkT R g) P nn C q op on oc hs w X) (by kernel_rfl) (HX.out.below (Below.refl _ _).drew) (fun hHeld=>?_)
       clear HX
       generalize wr.drew=y0 at*
       refine tk 0 (rcP Q) rfl hHeld (fun X hS=>by obtain⟨p0,p1,p2,p3,p4⟩:=hS.v.all.1;have dQ:=Zaf hS.f.at0;clear hS;go_simp) ?_
       refine tk 1 (rcP Q) rfl hHeld (fun X hS=>by obtain⟨p0,p1,p2,p3,p4⟩:=hS.v.all.1;have dQ:=Zaf hS.f.at0;clear hS;go_simp) ?_
       refine tk 2 (pT Q) rfl hHeld (fun X hS=>by obtain⟨p0,p1,p2,p3,p4⟩:=hS.v.all.1;have dQ:=Zaf hS.f.at0;clear hS;go_simp) ?_
       refine tk 3 (Zcv B) rfl hHeld (fun X hS=>by obtain⟨p0,p1,p2,p3,p4⟩:=hS.v.all.1;have dQ:=Zaf hS.f.at0;clear hS;go_simp) ?_
       refine tk 5 (pT D) rfl hHeld (fun X hS=>by obtain⟨p0,p1,p2,p3,p4⟩:=hS.v.all.1;have dQ:=Zaf hS.f.at0;clear hS;go_simp) ?_
       refine tk 6 (bqV 1 (n:Int) (g:Int) ri (.slice u ln c)) rfl hHeld (fun X hS=>by obtain⟨p0,p1,p2,p3,p4⟩:=hS.v.all.1;have dQ:=Zaf hS.f.at0;clear hS;go_simp) ?_
       refine rd [4] (AllReadyH.cons rfl (fun K1 hK1=>?_) AllReadyH.nil)
       go_simp
       have HH:=hid hHeld
       clear hHeld
       refine(HOF.out _ HH.out.v).mono ?_
       rintro e x1 ⟨ua,ca,rfl,hra,_,hb⟩
       have HRA:=hid hra
       clear hra
       have hn:=HH.out.below hb
       clear hb HH
       refine hK1.out _ _ hn (fun hHeld=>?_)
       clear hK1
       try simp only[Act.put,List.getElem_toArray,List.getElem_cons_zero,List.getElem_cons_succ,List.setIfInBounds_toArray,List.set_cons_zero,List.set_cons_succ]
       refine rd [7] (AllReadyH.cons rfl (fun K1 hK1=>?_) AllReadyH.nil)
       go_simp
       have HH:=hid hHeld
       clear hHeld
       refine(HRU.out _ HH.out.d.rn).mono ?_
       rintro e x2 ⟨ub,cb,rfl,hrb,_,hb⟩
       have HRB:=hid hrb
       have HRA2:=hid (HRA.out.below hb)
       clear hrb HRA
       have hn:=HH.out.below hb
       clear hb HH
       refine hK1.out _ _ hn (fun hHeld=>?_)
       clear hK1
       try simp only[Act.put,List.getElem_toArray,List.getElem_cons_zero,List.getElem_cons_succ,List.setIfInBounds_toArray,List.set_cons_zero,List.set_cons_succ]
       refine rd [8] (AllReadyH.cons rfl (fun K1 hK1=>?_) AllReadyH.nil)
       go_simp
       have HH:=hid hHeld
       clear hHeld
       refine(Zsd ua ub ca cb (Zbi R g) (by have:=Zdq R g;have:=HG8.out;omega) x2 HRA2.out HRB.out).mono ?_
       rintro e x3 ⟨rfl,hb⟩
       clear HRA2 HRB
       have hn:=HH.out.below hb
       clear hb HH
       refine hK1.out _ _ hn (fun hHeld=>?_)
       clear hK1
       try simp only[Act.put,List.getElem_toArray,List.getElem_cons_zero,List.getElem_cons_succ,List.setIfInBounds_toArray,List.set_cons_zero,List.set_cons_succ]
       refine tk 9 (.bool true) rfl hHeld (fun X hS=>by obtain⟨p0,p1,p2,p3,p4⟩:=hS.v.all.1;have dQ:=Zaf hS.f.at0;clear hS;go_simp) ?_
       refine tk 10 (rcP Q) rfl hHeld (fun X hS=>by obtain⟨p0,p1,p2,p3,p4⟩:=hS.v.all.1;have dQ:=Zaf hS.f.at0;clear hS;go_simp) ?_
       refine tk 12 (.pointer (some (aD D 10))) rfl hHeld (fun X hS=>by obtain⟨p0,p1,p2,p3,p4⟩:=hS.v.all.1;have dQ:=Zaf hS.f.at0;clear hS;go_simp) ?_
       refine tk 13 (iV K) rfl hHeld (fun X hS=>by obtain⟨p0,p1,p2,p3,p4⟩:=hS.v.all.1;have dQ:=Zaf hS.f.at0;clear hS;go_simp) ?_
       refine rd [11] (AllReadyH.cons rfl (fun K1 hK1=>?_) AllReadyH.nil)
       go_simp
       have HH:=hid hHeld
       clear hHeld
       refine(HKE.out _ HH.out.v).mono ?_
       rintro e x4 ⟨rfl,hb⟩
       have hn:=HH.out.below hb
       clear hb HH
       refine hK1.out _ _ hn (fun hHeld=>?_)
       clear hK1
       try simp only[Act.put,List.getElem_toArray,List.getElem_cons_zero,List.getElem_cons_succ,List.setIfInBounds_toArray,List.set_cons_zero,List.set_cons_succ]
       refine tk 14 (.bool true) rfl hHeld (fun X hS=>by obtain⟨p0,p1,p2,p3,p4⟩:=hS.v.all.1;have dQ:=Zaf hS.f.at0;clear hS;go_simp) ?_
       refine tk 15 (.bool true) rfl hHeld (fun X hS=>by obtain⟨p0,p1,p2,p3,p4⟩:=hS.v.all.1;have dQ:=Zaf hS.f.at0;clear hS;go_simp) ?_
       refine tk 16 (.bool true) rfl hHeld (fun X hS=>by obtain⟨p0,p1,p2,p3,p4⟩:=hS.v.all.1;have dQ:=Zaf hS.f.at0;clear hS;go_simp) ?_
       refine tk 17 (rcP Q) rfl hHeld (fun X hS=>by obtain⟨p0,p1,p2,p3,p4⟩:=hS.v.all.1;have dQ:=Zaf hS.f.at0;clear hS;go_simp) ?_
       refine tk 19 (.pointer (some (aD D 5))) rfl hHeld (fun X hS=>by obtain⟨p0,p1,p2,p3,p4⟩:=hS.v.all.1;have dQ:=Zaf hS.f.at0;clear hS;go_simp) ?_
       refine tk 20 (.agg (qC P nn C)) rfl hHeld (fun X hS=>by obtain⟨p0,p1,p2,p3,p4⟩:=hS.v.all.1;have dQ:=Zaf hS.f.at0;clear hS;unfold qC;go_simp) ?_
       refine rd [18] (AllReadyH.cons rfl (fun K1 hK1=>?_) AllReadyH.nil)
       go_simp
       have HH:=hid hHeld
       clear hHeld
       refine(HCA.out _ HH.out.v).mono ?_
       rintro e x5 ⟨rfl,hb⟩
       have hn:=HH.out.below hb
       clear hb HH
       refine hK1.out _ _ hn (fun hHeld=>?_)
       clear hK1
       try simp only[Act.put,List.getElem_toArray,List.getElem_cons_zero,List.getElem_cons_succ,List.setIfInBounds_toArray,List.set_cons_zero,List.set_cons_succ]
       refine rd [21] (AllReadyH.cons rfl (fun K1 hK1=>?_) AllReadyH.nil)
       go_simp
       have HH:=hid hHeld
       clear hHeld
       refine(HCN.out _).mono ?_
       rintro e x6 ⟨rfl,hb⟩
       have hn:=HH.out.below hb
       clear hb HH
       refine hK1.out _ _ hn (fun hHeld=>?_)
       clear hK1
       try simp only[Act.put,List.getElem_toArray,List.getElem_cons_zero,List.getElem_cons_succ,List.setIfInBounds_toArray,List.set_cons_zero,List.set_cons_succ]
       refine tk 22 (.bool true) rfl hHeld (fun X hS=>by obtain⟨p0,p1,p2,p3,p4⟩:=hS.v.all.1;have dQ:=Zaf hS.f.at0;clear hS;go_simp) ?_
       refine tk 23 (.bool true) rfl hHeld (fun X hS=>by obtain⟨p0,p1,p2,p3,p4⟩:=hS.v.all.1;have dQ:=Zaf hS.f.at0;clear hS;go_simp) ?_
       refine tk 24 (.bool true) rfl hHeld (fun X hS=>by obtain⟨p0,p1,p2,p3,p4⟩:=hS.v.all.1;have dQ:=Zaf hS.f.at0;clear hS;go_simp) ?_
       refine wpAnyH_done (by kernel_rfl) ?_ _
       have HF:=hid hHeld
       clear hHeld
       go_wp2_with fail
       go_ret
       exact⟨rfl,HF.out.f.be⟩
end
end
end Go.Proofs.YtgcidfenjlmljaaGreat.Bt
