import Derived.Test.YtgcidfenjlmljaaGreatPg44
import Derived.Test.YtgcidfenjlmljaaGreatPg42
import Derived.Test.YtgcidfenjlmljaaGreatPgR
set_option linter.unusedVariables false
set_option linter.unusedSimpArgs false
set_option maxRecDepth 100000
set_option maxHeartbeats 16000000
namespace Go.Proofs.YtgcidfenjlmljaaGreat.Bt
section
open Go Go.RowKit Go.Shelf
theorem Zrj {nn:Nat->Nat} {q:Nat->List Nat} (h:∀k,nn k=(q k).length):∀k,Zfz nn k=Zci q k
 |0=>rfl
 |k+1=>by unfold Zfz Zci;rw[Zrj h k,h k]
section
variable {Q B A n g K:Nat} {R:Zag} {q:Nat->List Nat} {hs:List Hd} {s:ASt} {v:Value} {w y:World}
theorem Yie (hv:RcV Q B A n 4096 s w) (h:PyS n g K R q hs s):Calls Tryz.prog 24 #[rcP Q] w fun e w'=>∃R' s',e=.returned (iV ((Zci q 5:Nat):Int))/\RcV Q B A n 4096 s' w'/\Zam A w w'/\PyS n g K R' (fun _=>[]) hs s'/\trK (tkT R g) q 5=tkT R' g/\rfI s'=rfI s:=by
 refine(Yc0 hv h.rc).mono ?_
 rintro e w' ⟨rfl,R',q',s',hz,ht,h1,h2⟩
 exact⟨R',s',rfl,h1,h2,(h.trim ht).congr fun j hj=>(hz j hj).symm,ht.trK h.rc hz,Zcr ht.rf ht.lf⟩
theorem Zvy {s1:ASt} {r:Int} (hp:PyS n g K R q hs s) (ho:On A s1 w) {R':Zag} (he:trK (tkT R g) q 5=tkT R' g) {Ds:List Nat} (hDs:∀D∈Ds,D<w.heap.size) (hd:DWo A (n:Int) (g:Int) r (K:Int) (tkT R g) q hs v Ds w):
 Calls Tryz.prog 69 #[v] w fun e w'=>∃v',e=.returned (.tuple #[v',iV ((Zci q 5:Nat):Int)])/\DWo A (n:Int) (g:Int) r (K:Int) (tkT R' g) (fun _=>[]) hs v' Ds w'/\Below w.heap.size w w':=by
 obtain⟨u0,c,P,nn,C,op,on,oc,rfl,hi,hm,hf0⟩:=hd;have hbel:∀{n g r K:Int} {L q hs P v w'},Zj4 n g r K L q hs P w v w'->Below w.heap.size w w':=fun h=>by obtain⟨_,_,_,_,_,_,_,_,_,_,_,hb⟩:=h;exact hb
 refine(Yb2 (n:Int) (g:Int) r (K:Int) c hi).mono ?_
 rintro e w' ⟨v',rfl,hd⟩;rw[he]at hd
 exact⟨v',by rw[Zrj hi.nq],hd.dwo hm hf0 hDs ho fun k _ hq=>absurd rfl hq,hbel hd⟩
def Yhm (g K2:Nat) (R:Zag) (q:Nat->List Nat) (R':Zag) (q':Nat->List Nat):Prop:=(Zci q 5<=K2/\R'=R/\q'=q)\/(K2<Zci q 5/\q'=(fun _=>[])/\trK (tkT R g) q 5=tkT R' g)
theorem Yig (hv:RcV Q B A n 4096 s w) (h:PyS n g K R q hs s) (p:Int) (h0: -9223372036854775808<=p) (h1:p<=9223372036854775807):
 Calls Tryz.prog 30 #[rcP Q,iV p] w fun e w'=>∃R' q' s',e=.returned (.tuple #[])/\RcV Q B A n 4096 s' w'/\Zam A w w'/\PyS n g p.toNat R' q' hs s'/\Yhm g p.toNat R q R' q'/\rfI s'=rfI s:=by
 refine(Yfr hv h.rc p h0 h1).mono ?_
 rintro e w' ⟨rfl,R',q',s',⟨k1,rfl,rfl,rfl⟩|⟨k1,hz,ht⟩,a1,a2⟩
 · exact⟨R',q',_,rfl,a1,a2,h.Zdn (by omega),.inl ⟨k1,rfl,rfl⟩,Zcr rfl rfl⟩
 · have hk:=h.Zdn (K2:=p.toNat) (by omega)
   exact⟨R',fun _=>[],s',rfl,a1,a2,(hk.trim ht).congr fun j hj=>(hz j hj).symm,.inr ⟨k1,rfl,ht.trK hk.rc hz⟩,Zcr ht.rf ht.lf⟩
theorem Zv6 {s1:ASt} {r:Int} (hp:PyS n g K R q hs s) (ho:On A s1 w) (p:Int) (h0: -9223372036854775808<=p) (h1:p<=9223372036854775807) {R':Zag} {q':Nat->List Nat} (he:Yhm g p.toNat R q R' q') {Ds:List Nat} (hDs:∀D∈Ds,D<w.heap.size) (hd:DWo A (n:Int) (g:Int) r (K:Int) (tkT R g) q hs v Ds w):
 Calls Tryz.prog 70 #[v,iV p] w fun e w'=>∃v',e=.returned v'/\DWo A (n:Int) (g:Int) r ((p.toNat:Nat):Int) (tkT R' g) q' hs v' Ds w'/\Below w.heap.size w w':=by
 obtain⟨u0,c,P,nn,C,op,on,oc,rfl,hi,hm,hf0⟩:=hd;have hbel:∀{n g r K:Int} {L q hs P v w'},Zj4 n g r K L q hs P w v w'->Below w.heap.size w w':=fun h=>by obtain⟨_,_,_,_,_,_,_,_,_,_,_,hb⟩:=h;exact hb
 refine(Zxb (n:Int) (g:Int) r (K:Int) c p h0 h1 hi).mono ?_
 rintro e w' ⟨v',rfl,hd⟩;rw[Zrj hi.nq]at hd;rcases he with⟨k1,rfl,rfl⟩|⟨k1,rfl,k2⟩
 · have e1:Zpb (tkT R' g) q' p.toNat (Zci q' 5)=tkT R' g:=if_neg (by omega)
   have e2:Zpa q' p.toNat (Zci q' 5)=q':=if_neg (by omega);rw[e1,e2]at hd
   exact⟨v',rfl,hd.dwo hm hf0 hDs ho fun k _ hq=> .inl ⟨rfl,hq⟩,hbel hd⟩
 · have e1:Zpb (tkT R g) q p.toNat (Zci q 5)=tkT R' g:=(if_pos k1).trans k2
   have e2:Zpa q p.toNat (Zci q 5)=fun _=>[]:=if_pos k1
   rw[e1,e2]at hd
   exact⟨v',rfl,hd.dwo hm hf0 hDs ho fun k _ hq=>absurd rfl hq,hbel hd⟩
theorem PyS.refuse (h:PyS n g K R q hs s) (b:Bool) (l:Nat):PyS n g K R q hs {s with rf:=b,lf:=l}:=
 h.mm (h.rc.to {h.rc.bu with} fun i k e _=>⟨e,fun _ _ _=>rfl⟩) rfl
end
end
section
open Go Go.RowKit Go.Shelf
section
variable {Q B A n g K:Nat} {R:Zag} {q:Nat->List Nat} {hs:List Hd} {s:ASt} {v:Value} {w y:World}
theorem Za3:Zc7 33:=by unfold Zc7;decide
theorem Ykh (q:Nat->List Nat) (k:Nat) (l:List Nat):∀N,Zci (Zde q k l) N+(if k<N then(q k).length*2^k else 0)=Zci q N+(if k<N then l.length*2^k else 0)
 |0=>rfl
 |N+1=>by
  have ih:=Ykh q k l N;unfold Zci;by_cases h:N=k
  · subst h
    rw[Za1,if_pos (by omega),if_pos (by omega)];rw[if_neg (by omega),if_neg (by omega)]at ih;omega
  · rw[Zaz _ _ h]
    by_cases c:k<N
    · rw[if_pos (by omega),if_pos (by omega)]
      rw[if_pos c,if_pos c]at ih;omega
    · rw[if_neg (by omega),if_neg (by omega)]
      rw[if_neg c,if_neg c]at ih;omega
theorem Yhp.cq {a:Int} {R':Zag} {q':Nat->List Nat} {hs':List Hd} {s':ASt} {ans:Int} (h:Yhp g K R q hs s a R' q' hs' s' ans) (hc:Zci q 5<=K):Zci q' 5<=K:=by
 rcases h with⟨_,_,_,rfl,_⟩|⟨_,_,_,_,rfl,_⟩|⟨_,i,k,u,_,_,_,_,⟨c1,c2,_,rfl⟩|⟨_,rfl,_⟩⟩
 · exact hc
 · exact hc
 · have:=Ykh q k ((1+i)::q k) 5
   rw[if_pos (by omega),if_pos (by omega),List.length_cons,Nat.add_mul]at this;omega
 · exact hc
def Zom (Q B A n:Nat) (Ds:List Nat) (cq:Prop) (w:World) (e:Ending) (w':World):Prop:=∃g K R q hs s v,e=.returned (.tuple #[v,.bool true])/\RcV Q B A n 4096 s w'/\PyS n g K R q hs s/\DWo A (n:Int) (g:Int) (rfI s) (K:Int) (tkT R g) q hs v Ds w'/\Zam A w w'/\(cq->Zci q 5<=K)
theorem Ygj {Ds:List Nat} (hDs0:∀z∈Ds,z<w.heap.size) (hrv:RcV Q B A n 4096 s w) (hpy:PyS n g K R q hs s) (hdw:DWo A (n:Int) (g:Int) (rfI s) (K:Int) (tkT R g) q hs v Ds w) (a:Int) (ha0: -9223372036854775808<=a) (ha:a<=9223372036854775807):
 Calls Tryz.prog 67 #[rcP Q,v,iV a] w (Zom Q B A n Ds (Zci q 5<=K) w):=by
 have HPY:=hid hpy;have hw0:=hdw;have HDS:=hid hDs0;have hX0:=WkS.start hrv;have HO:=hid hrv.1.1;have HBY:=hid fun X (hX:On A s X)=>Zvq hX a 32 ha
 have HPN:=hid fun X (hX:RcV Q B A n 4096 s X) ht=>Zzg hX a ha ht
 have HPG:=hid fun X (hX:RcV Q B A n 4096 s X) ht=>Yfz hX hpy a ha ht
 obtain⟨u,c,P,nn,C,op,on,oc,rfl, -⟩:=hdw;obtain⟨⟨p0,p1,p2,p3,p4⟩, -⟩:=hrv.all;obtain⟨ln,ht⟩:=eX ((tkT R g).length);obtain⟨ri,hri⟩:=eX (rfI s);have hX1:=(hX0.new (rqA (n:Int) (g:Int) ri (K:Int) (.slice u ln c) P nn C (.slice op on oc)) 33 Za3).new rqZ 33 Za3;rw[ht,hri]at hw0⊢;have HRI:=hid hri;clear ht hri hrv hpy hDs0 hX0;have hb0:=(Zaj w (.cells (rqA (n:Int) (g:Int) ri (K:Int) (.slice u ln c) P nn C (.slice op on oc)) 33));have hb1:=hb0.trans ((Zaj (w.alloc (.cells (rqA (n:Int) (g:Int) ri (K:Int) (.slice u ln c) P nn C (.slice op on oc)) 33)) (.cells rqZ 33)).mono hb0.size);go_enter Tryz.func67,Tryz.ntmps67;go_upto_region 1 with fail;change Code.wp _ _ _ _ ((w.alloc (.cells (rqA (n:Int) (g:Int) ri (K:Int) (.slice u ln c) P nn C (.slice op on oc)) 33)).alloc (.cells rqZ 33));have hE1:(w.alloc (.cells (rqA (n:Int) (g:Int) ri (K:Int) (.slice u ln c) P nn C (.slice op on oc)) 33)).heap.size=w.heap.size+1:=by simp
 obtain⟨x,hx⟩:=eX ((w.alloc (.cells (rqA (n:Int) (g:Int) ri (K:Int) (.slice u ln c) P nn C (.slice op on oc)) 33)).alloc (.cells rqZ 33));rw[hx]at hb1;rw[hx,hE1]at hX1;obtain⟨E,hE⟩:=eX (w.heap.size+1);obtain⟨D,hD⟩:=eX w.heap.size;have hDE:∀z∈[D,E],w.heap.size<=z:=fun z hz=>by simp at hz;omega
 have HDO:=hid ((hw0.more hDE).Zaq HO.out hX1.fr.wt);rw[hE,hD]at hX1;rw[hx,hE,hD];have HX:=hid hX1;clear hx hE1 hE hD hX1 hb0 hb1 hw0 hDE HO p0 p1 p2 p3 p4;obtain⟨⟨p0,p1,p2,p3,p4⟩, -⟩:=HX.out.rv.all;go_upto_region 2 with fail
 refine(HBY.out _ HX.out.rv.1.1).mono ?_
 rintro e w1 ⟨rfl,hb⟩;have HX1:=hid (HX.out.below hb);have HD1:=hid (HDO.out.Zaq HX.out.rv.1.1 (Zam.Zad HX.out.rv.1.1 hb));clear hb HX HDO HBY p0 p1 p2 p3 p4;obtain⟨by1,hby⟩:=eX (byV s a 32);rw[hby];clear hby;have HTE:=hid (Zms s.L s.es a 32);obtain⟨er,her⟩:=eX (Zac s.L s.es a 32);have HER:=hid her;rw[her];clear her;go_upto_region 3 with fail;rcases HTE.out with ht|ht
 · have e0:er=0:=by rw[<-HER.out];exact ht
   subst e0
   refine(HPG.out _ HX1.out.rv ht).mono ?_
   rintro e w2 ⟨ans,R',q',hs',s',rfl,hv2,hg2,hp2,hrel⟩
   have hrr:rfI s'=ri:=by
    rw[<-HRI.out];rcases hrel with⟨_,_,_,_,_,rfl⟩|⟨_,_,_,_,_,_,rfl⟩|⟨_,_,_,_,_,_,_,e,_⟩
    · rfl
    · rfl
    · exact e
   have HRR:=hid hrr;have HX2:=hid (HX1.out.Zf9 hv2 hg2);have HD2:=hid (HD1.out.Zaq HX1.out.rv.1.1 hg2);have HP2:=hid hp2;have HRL:=hid hrel;have HCQ:=hid hrel.cq;clear hv2 hg2 hp2 hrel hrr HX1 HD1 HPN HPG ht HER HTE;have cQ:=Zaf HX2.out.fr.at1;go_upto_region 6 with fail
   have hDs:∀z∈[D,E]++Ds,z<w2.heap.size:=fun z hz=>by
    have h0:=(Array.getElem?_eq_some_iff.1 HX2.out.fr.at0).1;have h1:=(Array.getElem?_eq_some_iff.1 HX2.out.fr.at1).1
    rcases List.mem_append.1 hz with hz|hz
    · simp only[List.mem_cons,List.not_mem_nil,or_false]at hz
      rcases hz with rfl|rfl<;>assumption
    · exact Nat.lt_of_lt_of_le (HDS.out z hz) HX2.out.fr.wt.size
   have HLG:=hid (Zv8 (x:=w) HPY.out HX2.out.rv.1.1 a HP2.out HRL.out hDs HD2.out);clear hDs;refine HLG.out.mono ?_;rintro e w3 ⟨v',rfl,hd3,hb⟩;have HD3:=hid hd3;obtain⟨u2,t2,P2,nn2,C2,op2,on2,oc2,rfl, -⟩:=hd3;have HX3:=hid (HX2.out.below hb);obtain⟨ln2,hln2⟩:=eX ((tkT R' g).length);rw[hln2]at HD3⊢;clear hb hln2 HX2 HD2 HLG HRL cQ;have cQ:=Zaf HX3.out.fr.at1;have zQ:=Zap HX3.out.fr.at1;have HX4:=hid (HX3.out.Zgk (rqL (n:Int) (g:Int) ri (K:Int) (.slice u2 ln2 t2) P2 nn2 C2 (.slice op2 on2 oc2)) rfl);have HD4:=hid (HD3.out.stR HX3.out.rv.1.1 HX3.out.fr.at1 (by decide) cQ.2.2.1 HX3.out.fr.Ygc (by simp) (rqL (n:Int) (g:Int) ri (K:Int) (.slice u2 ln2 t2) P2 nn2 C2 (.slice op2 on2 oc2)) 0);go_upto_region 6 with fail;change Code.wp _ _ _ _ (stR w3 D (rqL (n:Int) (g:Int) ri (K:Int) (.slice u2 ln2 t2) P2 nn2 C2 (.slice op2 on2 oc2)) 0);obtain⟨w4,hw4⟩:=eX (stR w3 D (rqL (n:Int) (g:Int) ri (K:Int) (.slice u2 ln2 t2) P2 nn2 C2 (.slice op2 on2 oc2)) 0);rw[hw4]at HX4 HD4⊢;clear hw4 HX3 HD3 cQ zQ;have cQ:=Zaf HX4.out.fr.at1;have zQ:=Zap HX4.out.fr.at0;have oQ:=Zbl HX4.out.fr.at0;have HX5:=hid (HX4.out.Zd9 (rqL (n:Int) (g:Int) ri (K:Int) (.slice u2 ln2 t2) P2 nn2 C2 (.slice op2 on2 oc2)) rfl);have HD5:=hid (HD4.out.stR HX4.out.rv.1.1 HX4.out.fr.at0 (by decide) oQ.2.2.1 HX4.out.fr.Zji (by simp) (rqL (n:Int) (g:Int) ri (K:Int) (.slice u2 ln2 t2) P2 nn2 C2 (.slice op2 on2 oc2)) 0);go_wp2_with fail;change bodyPost _ _ _ _ _ (stR w4 E (rqL (n:Int) (g:Int) ri (K:Int) (.slice u2 ln2 t2) P2 nn2 C2 (.slice op2 on2 oc2)) 0);have yQ:=Zaf HX5.out.fr.at0;have HPO:=hid ((⟨g,K,R',q',hs',s',_,rfl,HX5.out.rv,HP2.out,by rw[HRR.out];exact HD5.out.sub (fun z hz=>List.mem_append_right _ hz),HX5.out.fr.wt,HCQ.out⟩:Zom Q B A n Ds (Zci q 5<=K) w (.returned (.tuple #[rqV (n:Int) (g:Int) ri (K:Int) (.slice u2 ln2 t2) P2 nn2 C2 (.slice op2 on2 oc2),.bool true])) (stR w4 E (rqL (n:Int) (g:Int) ri (K:Int) (.slice u2 ln2 t2) P2 nn2 C2 (.slice op2 on2 oc2)) 0)));obtain⟨z,hz⟩:=eX (stR w4 E (rqL (n:Int) (g:Int) ri (K:Int) (.slice u2 ln2 t2) P2 nn2 C2 (.slice op2 on2 oc2)) 0);rw[hz]at HPO yQ⊢;exact bodyPost_ret (v:=.tuple #[.agg (rqA (n:Int) (g:Int) ri (K:Int) (.slice u2 ln2 t2) P2 nn2 C2 (.slice op2 on2 oc2)),.bool true]) (by simp[results,Tryz.results67,go_sem,yQ]) rfl HPO.out
 · have e0:er=3:=by rw[<-HER.out];exact ht
   subst e0
   refine(HPN.out _ HX1.out.rv ht).mono ?_
   rintro e w2 ⟨rfl,hb⟩;have HX2:=hid (HX1.out.below hb);have HD2:=hid (HD1.out.Zaq HX1.out.rv.1.1 (Zam.Zad HX1.out.rv.1.1 hb));clear hb HX1 HD1 HPN HPG ht HER HTE;have cQ:=Zaf HX2.out.fr.at1;have zQ:=Zap HX2.out.fr.at0;have oQ:=Zbl HX2.out.fr.at0;have HX3:=hid (HX2.out.Zd9 (rqL (n:Int) (g:Int) ri (K:Int) (.slice u ln c) P nn C (.slice op on oc)) rfl);have HD3:=hid (HD2.out.stR HX2.out.rv.1.1 HX2.out.fr.at0 (by decide) oQ.2.2.1 HX2.out.fr.Zji (by simp) (rqL (n:Int) (g:Int) ri (K:Int) (.slice u ln c) P nn C (.slice op on oc)) 0);go_wp2_with fail;change bodyPost _ _ _ _ _ (stR w2 E (rqL (n:Int) (g:Int) ri (K:Int) (.slice u ln c) P nn C (.slice op on oc)) 0);have yQ:=Zaf HX3.out.fr.at0;have HPO:=hid ((⟨g,K,R,q,hs,s,_,rfl,HX3.out.rv,HPY.out,by rw[HRI.out];exact HD3.out.sub (fun z hz=>List.mem_append_right _ hz),HX3.out.fr.wt,id⟩:Zom Q B A n Ds (Zci q 5<=K) w (.returned (.tuple #[rqV (n:Int) (g:Int) ri (K:Int) (.slice u ln c) P nn C (.slice op on oc),.bool true])) (stR w2 E (rqL (n:Int) (g:Int) ri (K:Int) (.slice u ln c) P nn C (.slice op on oc)) 0)));obtain⟨z,hz⟩:=eX (stR w2 E (rqL (n:Int) (g:Int) ri (K:Int) (.slice u ln c) P nn C (.slice op on oc)) 0);rw[hz]at HPO yQ⊢;exact bodyPost_ret (v:=.tuple #[.agg (rqA (n:Int) (g:Int) ri (K:Int) (.slice u ln c) P nn C (.slice op on oc)),.bool true]) (by simp[results,Tryz.results67,go_sem,yQ]) rfl HPO.out
end
end
end Go.Proofs.YtgcidfenjlmljaaGreat.Bt
