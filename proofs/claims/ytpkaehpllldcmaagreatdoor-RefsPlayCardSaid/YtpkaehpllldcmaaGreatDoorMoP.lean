/- FdD, ArDec, ArNumM, ArKeepM, RfA, RfB, FdA, FdE, FdH, FdI. -/
import Derived.Test.YtpkaehpllldcmaaGreatDoorMoO
import Derived.Test.YtpkaehpllldcmaaGreatDoorMoK
import Derived.Test.YtpkaehpllldcmaaGreatDoorMoM
import Derived.Deep.DeepCutAuto
import Derived.RegionTactic
import Derived.Laws.CopyRow
import Derived.Laws.AppendOwn
import Derived.Test.YtpkaehpllldcmaaGreatDoorMoA
section
namespace Go.Proofs.YtpkaehpllldcmaaGreatDoor.Bt
open Go Go.RowKit Go.Shelf
set_option linter.unusedVariables false
set_option linter.unusedSimpArgs false
def rec0:Array Value:=recC 0 (fun _=>0)
theorem setRow_ad {x:World} {O:Nat} {c:Array Value} {T:TypeId} (h:x.heap[O]?=some (.cells c T (0,0))) (d:Array Value):(x.setRow O d).heap[O]?=some (.cells d T (0,0)):=setRow_heap _ _ _ _ _ _ h
theorem rec0_size:rec0.size=34:=recC_size _ _
theorem rec_one (n:Nat) (f:Nat→Nat):(recC n f).all (·.oneCell')=true:=by
 rw[Array.all_eq_true]
 intro i hi
 rw[recC_size]at hi
 rcases i with _|i
 · have:=recC_0 n f;rw[Array.getElem?_eq_getElem (by rw[recC_size];omega)]at this
   simp only[Option.some.injEq]at this;rw[this];rfl
 · have:=recC_at n f i (by omega);rw[Nat.add_comm,Array.getElem?_eq_getElem (by rw[recC_size];omega)]at this
   simp only[Option.some.injEq]at this;rw[this];rfl
theorem built0:(Tryz.prog.built 122 []).getD #[]=rec0:=by kernel_rfl
theorem builtN (n:Nat):(Tryz.prog.built 122 [(0,.int .i64 (n:Int))]).getD #[]=recC n (fun _=>0):=by kernel_rfl
def WsAt (w:World) (p:Option Addr) (ws:List Int):Prop:=
 ws.length=0∨∃b off,p=some ⟨b,off,none⟩∧b<w.heap.size∧∀i,i<ws.length→w.cell? ⟨b,off+i,none⟩=some (.int .i64 (ws.getD i 0))
def sumW (ws:List Int) (i:Nat):Nat:=((ws.take i).map Int.toNat).sum
theorem sumW_succ (ws:List Int) (i:Nat) (h:i<ws.length):sumW ws (i+1)=sumW ws i+(ws.getD i 0).toNat:=by
 unfold sumW
 rw[List.take_succ_eq_append_getElem h,List.map_append,List.sum_append]
 simp[List.getD_eq_getElem?_getD,h]
def fP (ws:List Int) (j i:Nat):Nat:=if i≤j then sumW ws i else 0
def wOk (x:Int):Bool:=decide (x=1∨x=2∨x=4∨x=8)
theorem fP_zero (ws:List Int) (n:Nat):recC n (fP ws 0)=recC n (fun _=>0):=by
 have e:fP ws 0=fun _=>0:=by
  funext i
  unfold fP sumW
  by_cases h:i≤0
  · obtain rfl:i=0:=by omega
    simp
  · rw[if_neg h]
 rw[e]
theorem fP_step (ws:List Int) (n j:Nat) (hj:j<ws.length) (h33:j+1<33) (v:Nat) (hv:v=sumW ws (j+1)):(recC n (fP ws j)).setIfInBounds (1+(j+1)) (.int .i64 (v:Int))=recC n (fP ws (j+1)):=by
 subst hv
 apply Array.ext_getElem?
 intro i
 rw[Array.getElem?_setIfInBounds]
 by_cases e:1+(j+1)=i
 · subst e
   rw[if_pos rfl,recC_size,if_pos (by omega),recC_at _ _ _ h33]
   unfold fP;rw[if_pos (Nat.le_refl _)]
 · rw[if_neg e]
   rcases i with _|i
   · rw[recC_0,recC_0]
   · by_cases hi:i<33
     · rw[Nat.add_comm,recC_at _ _ _ hi,recC_at _ _ _ hi]
       unfold fP
       by_cases h1:i≤j
       · rw[if_pos h1,if_pos (by omega)]
       · rw[if_neg h1,if_neg (by omega)]
     · rw[Array.getElem?_eq_none (by rw[recC_size];omega),Array.getElem?_eq_none (by rw[recC_size];omega)]
theorem take_ok {ws:List Int} {j:Nat} (h:(ws.take j).all wOk=true):∀i,i<j→i<ws.length→wOk (ws.getD i 0)=true:=fun i h1 h2=>by
 rw[List.all_eq_true]at h
 refine h _ ?_
 rw[List.getD_eq_getElem?_getD,List.getElem?_eq_getElem h2]
 exact List.mem_take_iff_getElem.2 ⟨i,by omega,rfl⟩
theorem sumW_le {ws:List Int} {j:Nat} (h:(ws.take j).all wOk=true) (hj:j≤ws.length):sumW ws j≤8*j:=by
 induction j with
 |zero=>simp[sumW]
 |succ j ih=>
  have h2:=take_ok h j (by omega) (by omega)
  have h3:(ws.take j).all wOk=true:=by
   rw[List.all_eq_true]at h⊢
   intro x hx
   exact h x ((List.take_prefix_take_left (by omega)).subset hx)
  rw[sumW_succ ws j (by omega)]
  have:=ih h3 (by omega)
  have h4:ws.getD j 0=1∨ws.getD j 0=2∨ws.getD j 0=4∨ws.getD j 0=8:=by unfold wOk at h2;simpa using h2
  omega
theorem take_all_succ {ws:List Int} {j:Nat} (h:(ws.take j).all wOk=true) (hj:j<ws.length) (h2:wOk (ws.getD j 0)=true):(ws.take (j+1)).all wOk=true:=by
 rw[List.take_succ_eq_append_getElem hj,List.all_append,h]
 simpa[List.getD_eq_getElem?_getD,hj]using h2
def okV (ws:List Int):Value:=if ws.all wOk then .tuple #[.agg (recC ws.length (fP ws ws.length)),.int .i64 0]else .tuple #[.agg rec0,.int .i64 2]
structure OfAt (R B n j:Nat) (ws:List Int) (w x:World):Prop where
 r:x.heap[R]?=some (.cells rec0 122 (0,0))
 b:VR B n (fP ws j) x
 bel:Below w.heap.size w x
set_option maxRecDepth 100000 in
set_option maxHeartbeats 4000000 in
theorem of_in (p:Option Addr) (n c:Nat) (ws:List Int) (hn:n=ws.length) (h0:0<n) (h1:n≤32) (w:World) (hw:WsAt w p ws):
 Calls Tryz.prog 76 #[.slice p n c] w (Gives (okV ws) w):=by
 obtain⟨b,off,rfl,hlt0,hc⟩:∃b off,p=some ⟨b,off,none⟩∧b<w.heap.size∧∀i,i<ws.length→w.cell? ⟨b,off+i,none⟩=some (.int .i64 (ws.getD i 0)):=by
  rcases hw with h|h
  · omega
  · exact h
 have HSZ:Hid ((Tryz.prog.info? 122).map (·.size)=some rec0.size):=Lib.hid (by rw[rec0_size];exact Tryz.infoRec)
 have HSN:Hid (∀f,(Tryz.prog.info? 122).map (·.size)=some (recC n f).size):=Lib.hid (fun f=>by rw[recC_size];exact Tryz.infoRec)
 have HB0:=Lib.hid built0
 have HBN:=Lib.hid (builtN n)
 have HCW:=Lib.hid hc
 have HN:=Lib.hid hn
 have d0:((n:Int)==0)=false:=by simp;omega
 have d1:decide (32<(n:Int))=false:=by simp;omega
 clear hw hc hn
 go_enter Tryz.func76,Tryz.ntmps76
 go_upto_region 5 with fail
 obtain⟨x,hx⟩:∃x,w.alloc (.cells rec0 122)=x:=⟨_,rfl⟩
 have hR:x.heap[w.heap.size]?=some (.cells rec0 122 (0,0)):=by rw[←hx];exact heap_new _ _
 have bx:Below w.heap.size w x:=by rw[←hx];exact bel1 _ _
 have hs:x.heap.size=w.heap.size+1:=by rw[←hx];simp
 have HR:=Lib.hid hR;have BX:=Lib.hid bx;have HS:=Lib.hid hs
 change Code.wp _ _ _ _ (w.alloc (.cells rec0 122))
 rw[hx]
 clear hR bx hx hs
 have hB:=heap_new x (.cells rec0 122)
 have HB:=Lib.hid hB
 clear hB
 go_upto_region 6 with(first|(refine wpList_build rfl 122 #[(0,.tmp 16)] rfl (by kernel_rfl) ?_;simp only[List.map_toArray,List.map_nil,List.map_cons];rw[show _=recC n (fun _=>0)from HBN.out])|(refine wpList_store_row rfl 122 (.tmp 4) (.tmp 17) rfl x.heap.size (recC n (fun _=>0)) rfl rfl 122 rec0 HB.out (HSN.out _) (by rw[rec0_size,recC_size]) (rec_one _ _) ?_;simp only[Act.put,List.setIfInBounds_toArray,List.set_cons_zero,List.set_cons_succ]))
 obtain⟨y,hy⟩:∃y,(x.alloc (.cells rec0 122)).setRow x.heap.size (recC n (fun _=>0))=y:=⟨_,rfl⟩
 obtain⟨B,hBB⟩:∃B,x.heap.size=B:=⟨_,rfl⟩
 obtain⟨R,hRR⟩:∃R,w.heap.size=R:=⟨_,rfl⟩
 have hle:w.heap.size≤B∧R<B:=by have:=HS.out;omega
 have hO:OfAt R B n 0 ws w y:=by
  have hb:=setRow_ad HB.out (recC n (fun _=>0))
  refine⟨?_,?_,?_⟩
  · rw[←hy,setRow_other _ _ _ _ (by omega),←hRR];exact(Below.heap_alloc _ _ _ (by have:=HS.out;omega)).trans HR.out
  · unfold VR;rw[fP_zero,←hy,←hBB];exact hb
  · rw[←hy];exact below_setRow (BX.out.alloc BX.out.size _) (by omega) _
 change Code.wp _ _ _ _ ((x.alloc (.cells rec0 122)).setRow x.heap.size (recC n (fun _=>0)))
 rw[hy,hBB,hRR]
 have HO:=Lib.hid hO;have HRR:=Lib.hid hRR
 clear hO hy hBB HB BX HR HS hRR
 go_wp2_with fail
 go_loopw[20] (fun v wr=>∃j:Nat,j≤n∧v=.int .i64 (j:Int)∧(ws.take j).all wOk=true∧OfAt R B n j ws w wr) (fun v _=>n-(intOf v).toNat)
 case atStart=>exact⟨0,Nat.zero_le _,rfl,by simp,HO.out⟩
 case round=>
  obtain⟨j,hj,rfl,ha,ho⟩:=hrel
  have HA:=Lib.hid ha;have HOJ:=Lib.hid ho
  clear ha ho HO
  by_cases hlt:j<n
  · have hjw:j<ws.length:=by have:=HN.out;omega
    have hcj:wr.cell? ⟨b,off+j,none⟩=some (.int .i64 (ws.getD j 0)):=(HOJ.out.bel.cell (p:=⟨b,off+j,none⟩) hlt0).trans (HCW.out j hjw)
    have hcf:=HOJ.out.b.f j (by omega)
    have hff:=(cell_blk HOJ.out.b (1+(j+1))).2
    have hcg:=HOJ.out.b.f (j+1) (by omega)
    cases hok:wOk (ws.getD j 0)with
    |true=>
     have HOK:=Lib.hid hok
     obtain⟨g,hg⟩:∃g,ws.getD j 0=g:=⟨_,rfl⟩
     have HG:=Lib.hid hg
     rw[hg]at hcj hok
     have h4:g=1∨g=2∨g=4∨g=8:=by unfold wOk at hok;simpa using hok
     have hfb:((fP ws j j:Nat):Int)≤256:=by
      have:=sumW_le HA.out (by omega)
      unfold fP;rw[if_pos (Nat.le_refl _)];omega
     have hfs:∀k:Nat,g=k→fP ws j j+k=sumW ws (j+1):=fun k hk=>by
      unfold fP;rw[if_pos (Nat.le_refl _),sumW_succ ws j hjw,HG.out,hk,Int.toNat_natCast]
     have HFS:=Lib.hid hfs
     have hrb:Below w.heap.size w wr:=HOJ.out.bel
     clear hok hg hfs
     have HRB:=Lib.hid hrb
     clear hrb
     rcases h4 with rfl|rfl|rfl|rfl
     all_goals
      go_wp2_with fail
      go_roundw
      case rel=>
       refine⟨j+1,by omega,by go_num,take_all_succ HA.out hjw HOK.out,(set_other _ (by omega)).trans HOJ.out.r,?_,HOJ.out.bel.setCell (p:=⟨B,_,none⟩) hle.1 _⟩
       unfold VR
       rw[←fP_step ws n j hjw (by omega) _ (HFS.out _ rfl)]
       exact heap_set HOJ.out.b _
      case measure=>simp[intOf];omega
    |false=>
     have HV:Hid (okV ws=.tuple #[.agg rec0,.int .i64 2]):=Lib.hid (by
      unfold okV;rw[if_neg]
      intro hall
      rw[List.all_eq_true]at hall
      have:=hall (ws.getD j 0) (by rw[List.getD_eq_getElem?_getD,List.getElem?_eq_getElem hjw];exact List.getElem_mem hjw)
      rw[hok]at this;cases this)
     obtain⟨g,hg⟩:∃g,ws.getD j 0=g:=⟨_,rfl⟩
     rw[hg]at hcj hok
     have h4:¬g=1∧¬g=2∧¬g=4∧¬g=8:=by unfold wOk at hok;simpa[not_or]using hok
     obtain⟨k1,k2,k3,k4⟩:=h4
     have e1:(g !=1)=true:=by simpa using k1
     have e2:(g !=2)=true:=by simpa using k2
     have e3:(g !=4)=true:=by simpa using k3
     have e4:(g !=8)=true:=by simpa using k4
     clear hok hg k1 k2 k3 k4 hcf hff hcg
     go_wp2_with (first|(refine wpList_build rfl 122 #[] rfl (by kernel_rfl) ?_;simp only[List.map_toArray,List.map_nil];rw[HB0.out])|(refine wpList_store_row rfl 122 (.tmp 2) (.tmp 39) rfl R rec0 rfl rfl 122 rec0 HOJ.out.r HSZ.out rfl (rec_one _ _) ?_))
     have hl:=run_loadVar_row (P:=Tryz.prog) (wr.setRow R rec0) R 122 122 rec0 (0,0) _ (setRow_ad HOJ.out.r rec0) Tryz.underlying122 rfl HSZ.out
     exact bodyPost_ret (v:=.tuple #[.agg rec0,.int .i64 2]) (by simp[results,Tryz.results76,asAddr,hl]) rfl ⟨by rw[HV.out],below_setRow HOJ.out.bel (by have:=HRR.out;omega) _⟩
  · have hje:j=n:=by omega
    have HV:Hid (okV ws=.tuple #[.agg (recC n (fP ws n)),.int .i64 0]):=Lib.hid (by
     have hn:=HN.out
     have hall:ws.all wOk=true:=by have:=HA.out;rw[hje,hn,List.take_length]at this;exact this
     unfold okV;rw[if_pos hall,←hn])
    have HOn:Hid (OfAt R B n n ws w wr):=Lib.hid (hje▸HOJ.out)
    clear hje
    go_wp2_with (first|(refine wpList_load_row rfl 122 (.tmp 4) rfl B rfl 122 (recC n (fP ws n)) (0,0) _ HOn.out.b Tryz.underlying122 rfl (HSN.out _) ?_)|(refine wpList_store_row rfl 122 (.tmp 2) (.tmp 51) rfl R (recC n (fP ws n)) rfl rfl 122 rec0 HOn.out.r (HSN.out _) (by rw[rec0_size,recC_size]) (rec_one _ _) ?_))
    have hl:=run_loadVar_row (P:=Tryz.prog) (wr.setRow R (recC n (fP ws n))) R 122 122 (recC n (fP ws n)) (0,0) _ (setRow_ad HOn.out.r _) Tryz.underlying122 rfl (HSN.out _)
    exact bodyPost_ret (v:=.tuple #[.agg (recC n (fP ws n)),.int .i64 0]) (by simp[results,Tryz.results76,asAddr,hl]) rfl ⟨by rw[HV.out],below_setRow HOn.out.bel (by have:=HRR.out;omega) _⟩
end Go.Proofs.YtpkaehpllldcmaaGreatDoor.Bt
end
section
namespace Go.Proofs.YtpkaehpllldcmaaGreatDoor.Bt
open Go Go.RowKit Go.Shelf
set_option linter.unusedVariables false
section
variable {A P n cap:Nat} {s:ASt} {ps:List (Option Nat)} {p:Option Addr} {w:World}
end
end Go.Proofs.YtpkaehpllldcmaaGreatDoor.Bt
end
section
namespace Go.Proofs.YtpkaehpllldcmaaGreatDoor.Bt
open Go Go.RowKit Go.Shelf
set_option linter.unusedVariables false
theorem numV_congr {m m':Nat→UInt8} {a k:Nat} (h:∀j,j<k→m (a+j)=m' (a+j)):numV m a k=numV m' a k:=by
 induction k with
 |zero=>rfl
 |succ k ih=>unfold numV;rw[ih fun j hj=>h j (by omega),h k (by omega)]
theorem numV_store (m:Nat→UInt8) (a:Nat) (x:Int) (k:Nat):numV (putM m a (numB x k)) a k=x.toNat%2^(8*k):=by
 have key:∀j,j≤k→numV (putM m a (numB x k)) a j=x.toNat%2^(8*j):=by
  intro j
  induction j with
  |zero=>intro _;simp[numV,Nat.mod_one]
  |succ j ih=>
   intro hj
   unfold numV
   rw[ih (by omega),putM_in _ _ _ (by rw[numB_length];omega)]
   have e:(numB x k).getD j 0=byteN x j:=by simp[numB,List.getD_eq_getElem?_getD,show j<k from by omega]
   rw[e]
   unfold byteN
   have e2:2^(8*(j+1))=2^(8*j)*256:=by rw[show 8*(j+1)=8*j+8 from by omega,Nat.pow_add]
   rw[e2,Nat.mod_mul]
   simp[Nat.mul_comm]
 exact key k (Nat.le_refl k)
end Go.Proofs.YtpkaehpllldcmaaGreatDoor.Bt
end
section
namespace Go.Proofs.YtpkaehpllldcmaaGreatDoor.Bt
open Go Go.RowKit Go.Shelf
set_option linter.unusedVariables false
end Go.Proofs.YtpkaehpllldcmaaGreatDoor.Bt
end
section
namespace Go.Proofs.YtpkaehpllldcmaaGreatDoor.Bt
open Go Go.RowKit Go.Shelf
set_option linter.unusedVariables false
end Go.Proofs.YtpkaehpllldcmaaGreatDoor.Bt
end
section
namespace Go.Proofs.YtpkaehpllldcmaaGreatDoor.Bt
open Go Go.RowKit Go.Shelf
set_option linter.unusedVariables false
end Go.Proofs.YtpkaehpllldcmaaGreatDoor.Bt
end
section
namespace Go.Proofs.YtpkaehpllldcmaaGreatDoor.Bt
open Go Go.RowKit Go.Shelf
set_option linter.unusedVariables false
structure OB (A:Nat) (s:ASt) (w0 x:World):Prop where
 o:On A s x
 b:Base A w0 x
theorem blk_at {x y:World} {B:Nat} {o:Obj} (hb:Below x.heap.size x y) (h:x.heap[B]?=some o):y.heap[B]?=some o:=(hb.block B (Array.getElem?_eq_some_iff.1 h).1).trans h
theorem heap_far3 {x:World} {B R:Nat} (hne:B≠R) (u v z:Value):(((x.setCell ⟨R,0,none⟩ u).setCell ⟨R,1,none⟩ v).setCell ⟨R,2,none⟩ z).heap[B]?=x.heap[B]?:=
 (Below.heap_setCell _ ⟨R,2,none⟩ _ _ hne).trans (heap_far2 hne u v)
end Go.Proofs.YtpkaehpllldcmaaGreatDoor.Bt
end
section
namespace Go.Proofs.YtpkaehpllldcmaaGreatDoor.Bt
open Go Go.RowKit Go.Shelf
set_option linter.unusedVariables false
set_option linter.unusedSimpArgs false
end Go.Proofs.YtpkaehpllldcmaaGreatDoor.Bt
end
section
namespace Go.Proofs.YtpkaehpllldcmaaGreatDoor.Bt
open Go Go.RowKit Go.Shelf
set_option linter.unusedVariables false
set_option linter.unusedSimpArgs false
section
variable {A:Nat} {s:ASt} {w:World}
set_option maxHeartbeats 1000000 in
theorem fget_on (h:On A s w) (n:Nat) (f:Nat→Nat) (va vs:Nat) (h1:va≤4294967296) (h2:vs≤4294967296) (hn:n≤32) (k:Nat) (hk:k<n) (hm:f k≤f (k+1)) (hs:f (k+1)≤1000):
 Calls Tryz.prog 97 #[.agg (recC n f),vwV A va vs,.int .i64 (k:Int)] w
  (Gives (.tuple #[.int .u64 (ldV s (addrV va vs (f k:Nat) (f (k+1)-f k:Nat)) (f (k+1)-f k:Nat)),.int .i64 (numE s.L s.es (addrV va vs (f k:Nat) (f (k+1)-f k:Nat)) (f (k+1)-f k:Nat))]) w):=by
 have HO:=Lib.hid h
 have HH:Hid (hasF n k=true):=Lib.hid (decide_eq_true ⟨by omega,by omega⟩)
 have HV:=Lib.hid (rv_new n f A va vs w)
 have HZ:Hid ((Tryz.prog.info? 122).map (·.size)=some (recC n f).size):=Lib.hid (by rw[recC_size];exact Tryz.infoRec)
 clear h
 go_enter Tryz.func97,Tryz.ntmps97
 go_wp2_with (refine wpList_load_row rfl 122 (.tmp 3) rfl w.heap.size rfl 122 (recC n f) (0,0) _ HV.out.1 Tryz.underlying122 rfl HZ.out ?_)
 refine(fhas_any n f k _).mono ?_
 rintro e w1 ⟨rfl,hb⟩
 rw[HH.out]
 have B2:=Lib.hid ((below2 w (.cells (recC n f) 122) (.cells #[.pointer (some ⟨A,0,none⟩),.int .i64 (va:Int),.int .i64 (vs:Int)] 30)).trans (hb.mono (by simp;omega)))
 have HV2:=HV.out.below hb
 clear hb HV
 go_wp2_with fail
 obtain⟨B,hB⟩:∃B,w.heap.size=B:=⟨_,rfl⟩
 obtain⟨V,hVV⟩:∃V,B+1=V:=⟨_,rfl⟩
 rw[hB]at HV2⊢
 rw[hVV]at HV2⊢
 clear hB hVV
 have hu:=Tryz.underlying122
 have hi:(Tryz.prog.info? 122).map (·.size)=some (recC n f).toList.length:=by rw[Array.length_toList];exact HZ.out
 have i0:0≤(k:Int):=by omega
 have i1:(k:Int)<33:=by omega
 refine wp_region_held_drew (S:=(fun x=>x.cell? ⟨V,0,none⟩=some (.pointer (some ⟨A,0,none⟩))∧x.cell? ⟨V,1,none⟩=some (.int .i64 (va:Int))∧x.cell? ⟨V,2,none⟩=some (.int .i64 (vs:Int))∧x.cell? ⟨B,1+k,none⟩=some (.int .i64 ((f k:Nat):Int))∧x.rangeAt B 0 (recC n f).toList∧RV B V n f A va vs x)) (by kernel_rfl) ((HV2.below (Below.refl _ _).drew).all k (by omega)) (fun hHeld=>?_)
 refine tk 0 (.agg #[.pointer (some ⟨A,0,none⟩),.int .i64 (va:Int),.int .i64 (vs:Int)]) rfl hHeld (fun X hS=>by obtain⟨s1,s2,s3,s4,_,_⟩:=hS;go_simp) ?_
 refine tk 1 (.int .i64 (k:Int)) rfl hHeld (fun X hS=>by obtain⟨s1,s2,s3,s4,_,_⟩:=hS;go_simp) ?_
 refine tk 2 (.pointer (some ⟨B,1,none⟩)) rfl hHeld (fun X hS=>by obtain⟨s1,s2,s3,s4,_,_⟩:=hS;go_simp) ?_
 refine tk 3 (.pointer (some ⟨B,1+k,none⟩)) rfl hHeld (fun X hS=>by obtain⟨s1,s2,s3,s4,_,_⟩:=hS;go_simp) ?_
 refine tk 4 (.int .i64 ((f k:Nat):Int)) rfl hHeld (fun X hS=>by obtain⟨s1,s2,s3,s4,_,_⟩:=hS;go_simp) ?_
 refine wpAnyH_take (i:=5) (v:=.agg (recC n f)) rfl (by kernel_rfl) (by kernel_rfl) (by kernel_rfl) (fun _ _ _ h=>h) (yieldsIf_load_mid (by rfl) 122 (.tmp 3) rfl B 0 rfl (recC n f).toList _ (fun X hS=>hS.2.2.2.2.1) hu rfl hi) hHeld ?_
 try simp only[Act.put,List.getElem_toArray,List.getElem_cons_zero,List.getElem_cons_succ,List.setIfInBounds_toArray,List.set_cons_zero,List.set_cons_succ]
 refine tk 6 (.int .i64 (k:Int)) rfl hHeld (fun X hS=>by obtain⟨s1,s2,s3,s4,_,_⟩:=hS;go_simp) ?_
 refine wpAnyH_ready (rs:=[7]) (by kernel_rfl) (by simp) ?_
 refine AllReadyH.cons rfl (fun K hK=>?_) AllReadyH.nil
 go_simp
 refine(fwidth_any n f hn k hk hm hs _).mono ?_
 rintro e x1 ⟨rfl,hb1⟩
 have b1:=(B2.out.trans ((Below.refl _ _).drew.mono B2.out.size)).trans (hb1.mono (B2.out.trans ((Below.refl _ _).drew.mono B2.out.size)).size)
 have k1:=((HV2.below (Below.refl _ _).drew).below hb1).all k (by omega)
 refine hK.out _ _ k1 (fun hHeld=>?_)
 clear hK
 try simp only[Act.put,List.getElem_toArray,List.getElem_cons_zero,List.getElem_cons_succ,List.setIfInBounds_toArray,List.set_cons_zero,List.set_cons_succ]
 refine wpAnyH_ready (rs:=[8]) (by kernel_rfl) (by simp) ?_
 refine AllReadyH.cons rfl (fun K hK=>?_) AllReadyH.nil
 go_simp
 refine(on_load (HO.out.below b1) va vs h1 h2 (f k:Nat) (f (k+1)-f k:Nat) (by omega)).mono ?_
 rintro e x2 ⟨rfl,hb2⟩
 have b2:=b1.trans (hb2.mono b1.size)
 have k2:=(k1.2.2.2.2.2.below hb2).all k (by omega)
 refine hK.out _ _ k2 (fun hHeld=>?_)
 clear hK
 generalize ldV s (addrV va vs (f k:Nat) (f (k+1)-f k:Nat)) (f (k+1)-f k:Nat)=LVV at*
 generalize numE s.L s.es (addrV va vs (f k:Nat) (f (k+1)-f k:Nat)) (f (k+1)-f k:Nat)=NEE at*
 try simp only[Act.put,List.getElem_toArray,List.getElem_cons_zero,List.getElem_cons_succ,List.setIfInBounds_toArray,List.set_cons_zero,List.set_cons_succ]
 refine tk 9 (.int .u64 LVV) rfl hHeld (fun X hS=>by obtain⟨s1,s2,s3,s4,_,_⟩:=hS;go_simp) ?_
 refine tk 10 (.int .i64 NEE) rfl hHeld (fun X hS=>by obtain⟨s1,s2,s3,s4,_,_⟩:=hS;go_simp) ?_
 refine tk 11 (.int .u64 LVV) rfl hHeld (fun X hS=>by obtain⟨s1,s2,s3,s4,_,_⟩:=hS;go_simp) ?_
 refine tk 12 (.int .i64 NEE) rfl hHeld (fun X hS=>by obtain⟨s1,s2,s3,s4,_,_⟩:=hS;go_simp) ?_
 refine wpAnyH_done (by kernel_rfl) ?_ _
 have HF:=Lib.hid b2
 clear HV2 k1 k2 b1 b2
 go_wp2_with fail
 go_ret2
 exact⟨rfl,HF.out⟩
end
end Go.Proofs.YtpkaehpllldcmaaGreatDoor.Bt
end
section
namespace Go.Proofs.YtpkaehpllldcmaaGreatDoor.Bt
open Go Go.RowKit Go.Shelf
set_option linter.unusedVariables false
set_option linter.unusedSimpArgs false
def NsAt (w:World) (p:Option Addr) (xs:List Int):Prop:=
 xs.length=0∨∃b off,p=some ⟨b,off,none⟩∧b<w.heap.size∧∀i,i<xs.length→w.cell? ⟨b,off+i,none⟩=some (.int .u64 (xs.getD i 0))
theorem NsAt.below {w w':World} {p:Option Addr} {ws:List Int} (h:NsAt w p ws) (hb:Below w.heap.size w w'):NsAt w' p ws:=by
 rcases h with h|⟨b,off,rfl,hlt,hc⟩
 · exact .inl h
 · exact .inr ⟨b,off,rfl,Nat.lt_of_lt_of_le hlt hb.size,fun i hi=>(hb.cell (p:=⟨b,off+i,none⟩) hlt).trans (hc i hi)⟩
structure Rec (n:Nat) (f:Nat→Nat):Prop where
 n32:n≤32
 f0:f 0=0
 mono:∀k,k<n→f k≤f (k+1)
 wide:∀k,k<n→f (k+1)-f k≤8
 whole:∀k,k<n→wholeB ((f (k+1)-f k:Nat):Int)=true
theorem Rec.le {n:Nat} {f:Nat→Nat} (h:Rec n f) {j k:Nat} (hjk:j≤k) (hk:k≤n):f j≤f k:=by
 induction k with
 |zero=>obtain rfl:j=0:=by omega
        exact Nat.le_refl _
 |succ k ih=>
  by_cases e:j=k+1
  · subst e;exact Nat.le_refl _
  · exact Nat.le_trans (ih (by omega) (by omega)) (h.mono k (by omega))
theorem Rec.small {n:Nat} {f:Nat→Nat} (h:Rec n f) {k:Nat} (hk:k≤n):f k≤8*k:=by
 induction k with
 |zero=>rw[h.f0];omega
 |succ k ih=>have:=ih (by omega);have:=h.wide k (by omega);have:=h.mono k (by omega);omega
def putR (m:Nat→UInt8) (an:Nat) (f:Nat→Nat) (xs:List Int):Nat→(Nat→UInt8)
 |0=>m
 |j+1=>putM (putR m an f xs j) (an+f j) (numB (xs.getD j 0) (f (j+1)-f j))
section
variable {A:Nat} {s:ASt} {w:World}
def allShort (f:Nat→Nat) (xs:List Int) (j:Nat):Prop:=∀k,k<j→longB (xs.getD k 0) (f (k+1)-f k)=false
end
end Go.Proofs.YtpkaehpllldcmaaGreatDoor.Bt
end
