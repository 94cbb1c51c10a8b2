/- VwC, ArFull, VwAny. -/
import Derived.Test.YtpkaehpllldcmaaGreatDoorMoL
section
namespace Go.Proofs.YtpkaehpllldcmaaGreatDoor.Bt
open Go Go.RowKit Go.Shelf
set_option linter.unusedVariables false
theorem copy_self {A P n cap:Nat} {s:ASt} {ps:List (Option Nat)} {p:Option Addr} {w:World} (h:ArX A s P ps p n cap w) (a k:Int) (ha:a≤9223372036854775807):
 Calls Tryz.prog 30 #[.pointer (some ⟨A,0,none⟩),.int .i64 a,.int .i64 a,.int .i64 k] w fun e w'=>e=.returned (.int .i64 (thereE s.L s.es a k))∧Below w.heap.size w w':=by
 have HC:=fun w (hw:ArX A s P ps p n cap w)=>there_any hw a k ha
 have HX:=Lib.hid h
 clear h
 rcases thereE_or s.L s.es a k with ht|ht
 all_goals
  have HT:=Lib.hid ht
  have hd:(a==a)=true:=by simp
  clear ht
  go_enter Tryz.func30,Tryz.ntmps30
  go_wp2_with fail
  refine(HC _ HX.out).mono ?_
  rintro e w1 ⟨rfl,hb⟩
  rw[HT.out]
  clear HC
  go_wp2_with fail
  go_ret
  exact⟨by rw[HT.out];rfl,hb⟩
def ofV (pa:Option Addr) (a k er:Int):Value:=if er=0 then .agg #[.pointer pa,.int .i64 a,.int .i64 k]else .agg #[.pointer none,.int .i64 0,.int .i64 0]
theorem three_set {x:World} {B:Nat} {c:Array Value} {T:TypeId} (h:x.heap[B]?=some (.cells c T (0,0))) (hc:c.size=3) (u v z:Value):
 (((x.setCell ⟨B,0,none⟩ u).setCell ⟨B,1,none⟩ v).setCell ⟨B,2,none⟩ z).heap[B]?=some (.cells #[u,v,z] T (0,0)):=by
 rw[heap_set (heap_set (heap_set h u) v) z]
 match c,hc with
 |⟨[_,_,_]⟩,_=>rfl
theorem vof_gen (pa:Option Addr) (a k:Int) (w:World) (er:Int)
 (HC:∀X,Below w.heap.size w X→Calls Tryz.prog 30 #[.pointer pa,.int .i64 a,.int .i64 a,.int .i64 k] X fun e X'=>e=.returned (.int .i64 er)∧Below X.heap.size X X'):
 Calls Tryz.prog 7 #[.pointer pa,.int .i64 a,.int .i64 k] w fun e w'=>e=.returned (.tuple #[ofV pa a k er,.int .i64 er])∧Below w.heap.size w w':=by
 have HC':=Lib.hid HC;clear HC
 have B0:Below w.heap.size w (w.alloc (.cells #[.pointer none,.int .i64 0,.int .i64 0] 30)):=(Below.refl _ _).alloc (Nat.le_refl _) _
 have R0:(w.alloc (.cells #[.pointer none,.int .i64 0,.int .i64 0] 30)).heap[w.heap.size]?=some (.cells #[.pointer none,.int .i64 0,.int .i64 0] 30 (0,0)):=heap_new _ _
 have sz:(w.alloc (.cells #[.pointer none,.int .i64 0,.int .i64 0] 30)).heap.size=w.heap.size+1:=by simp
 have HB0:=Lib.hid B0;have HR0:=Lib.hid R0;have HSZ:=Lib.hid sz
 clear B0 R0 sz
 by_cases he:er=0
 · have hE:Hid (ofV pa a k er=.agg #[.pointer pa,.int .i64 a,.int .i64 k]):=Lib.hid (by unfold ofV;rw[if_pos he])
   have hd:(er !=0)=false:=by simpa using he
   have HER:=Lib.hid he
   clear he
   go_enter Tryz.func7,Tryz.ntmps7
   go_wp2_with fail
   refine(HC'.out _ HB0.out).mono ?_
   rintro e w1 ⟨rfl,hb⟩
   have R1:=(hb.block w.heap.size (by rw[HSZ.out];omega)).trans HR0.out
   have B1:=HB0.out.trans (hb.mono (by rw[HSZ.out];omega))
   have r0:w1.cell? ⟨w.heap.size,0,none⟩=some (.pointer none):=(cell_blk R1 0).1
   have r1:w1.cell? ⟨w.heap.size,1,none⟩=some (.int .i64 0):=(cell_blk R1 1).1
   have r2:w1.cell? ⟨w.heap.size,2,none⟩=some (.int .i64 0):=(cell_blk R1 2).1
   have f0:=(cell_blk R1 0).2;have f1:=(cell_blk R1 1).2;have f2:=(cell_blk R1 2).2
   have HR1:=Lib.hid R1
   clear R1 hb
   go_wp2_with fail
   have h3:=three_set HR1.out rfl (.pointer pa) (.int .i64 a) (.int .i64 k)
   have g0:(((w1.setCell ⟨w.heap.size,0,none⟩ (.pointer pa)).setCell ⟨w.heap.size,1,none⟩ (.int .i64 a)).setCell ⟨w.heap.size,2,none⟩ (.int .i64 k)).cell? ⟨w.heap.size,0,none⟩=some (.pointer pa):=(cell_blk h3 0).1
   have g1:(((w1.setCell ⟨w.heap.size,0,none⟩ (.pointer pa)).setCell ⟨w.heap.size,1,none⟩ (.int .i64 a)).setCell ⟨w.heap.size,2,none⟩ (.int .i64 k)).cell? ⟨w.heap.size,1,none⟩=some (.int .i64 a):=(cell_blk h3 1).1
   have g2:(((w1.setCell ⟨w.heap.size,0,none⟩ (.pointer pa)).setCell ⟨w.heap.size,1,none⟩ (.int .i64 a)).setCell ⟨w.heap.size,2,none⟩ (.int .i64 k)).cell? ⟨w.heap.size,2,none⟩=some (.int .i64 k):=(cell_blk h3 2).1
   have hbf:Below w.heap.size w (((w1.setCell ⟨w.heap.size,0,none⟩ (.pointer pa)).setCell ⟨w.heap.size,1,none⟩ (.int .i64 a)).setCell ⟨w.heap.size,2,none⟩ (.int .i64 k)):=((B1.setCell (p:=⟨w.heap.size,0,none⟩) (Nat.le_refl _) _).setCell (p:=⟨w.heap.size,1,none⟩) (Nat.le_refl _) _).setCell (p:=⟨w.heap.size,2,none⟩) (Nat.le_refl _) _
   exact bodyPost_ret (v:=.tuple #[.agg #[.pointer pa,.int .i64 a,.int .i64 k],.int .i64 0]) (by simp[results,Tryz.results7,go_sem,g0,g1,g2]) rfl ⟨by rw[hE.out];rw[HER.out],hbf⟩
 · have hE:Hid (ofV pa a k er=.agg #[.pointer none,.int .i64 0,.int .i64 0]):=Lib.hid (by unfold ofV;rw[if_neg he])
   have hd:(er !=0)=true:=by simpa using he
   clear he
   go_enter Tryz.func7,Tryz.ntmps7
   go_wp2_with fail
   refine(HC'.out _ HB0.out).mono ?_
   rintro e w1 ⟨rfl,hb⟩
   have R1:=(hb.block w.heap.size (by rw[HSZ.out];omega)).trans HR0.out
   have B1:=HB0.out.trans (hb.mono (by rw[HSZ.out];omega))
   have r0:w1.cell? ⟨w.heap.size,0,none⟩=some (.pointer none):=(cell_blk R1 0).1
   have r1:w1.cell? ⟨w.heap.size,1,none⟩=some (.int .i64 0):=(cell_blk R1 1).1
   have r2:w1.cell? ⟨w.heap.size,2,none⟩=some (.int .i64 0):=(cell_blk R1 2).1
   have f0:=(cell_blk R1 0).2;have f1:=(cell_blk R1 1).2;have f2:=(cell_blk R1 2).2
   have HR1:=Lib.hid R1
   clear R1 hb
   go_wp2_with fail
   have h3:=three_set HR1.out rfl (.pointer none) (.int .i64 0) (.int .i64 0)
   have g0:(((w1.setCell ⟨w.heap.size,0,none⟩ (.pointer none)).setCell ⟨w.heap.size,1,none⟩ (.int .i64 0)).setCell ⟨w.heap.size,2,none⟩ (.int .i64 0)).cell? ⟨w.heap.size,0,none⟩=some (.pointer none):=(cell_blk h3 0).1
   have g1:(((w1.setCell ⟨w.heap.size,0,none⟩ (.pointer none)).setCell ⟨w.heap.size,1,none⟩ (.int .i64 0)).setCell ⟨w.heap.size,2,none⟩ (.int .i64 0)).cell? ⟨w.heap.size,1,none⟩=some (.int .i64 0):=(cell_blk h3 1).1
   have g2:(((w1.setCell ⟨w.heap.size,0,none⟩ (.pointer none)).setCell ⟨w.heap.size,1,none⟩ (.int .i64 0)).setCell ⟨w.heap.size,2,none⟩ (.int .i64 0)).cell? ⟨w.heap.size,2,none⟩=some (.int .i64 0):=(cell_blk h3 2).1
   have hbf:Below w.heap.size w (((w1.setCell ⟨w.heap.size,0,none⟩ (.pointer none)).setCell ⟨w.heap.size,1,none⟩ (.int .i64 0)).setCell ⟨w.heap.size,2,none⟩ (.int .i64 0)):=((B1.setCell (p:=⟨w.heap.size,0,none⟩) (Nat.le_refl _) _).setCell (p:=⟨w.heap.size,1,none⟩) (Nat.le_refl _) _).setCell (p:=⟨w.heap.size,2,none⟩) (Nat.le_refl _) _
   exact bodyPost_ret (v:=.tuple #[.agg #[.pointer none,.int .i64 0,.int .i64 0],.int .i64 er]) (by simp[results,Tryz.results7,go_sem,g0,g1,g2]) rfl ⟨by rw[hE.out],hbf⟩
theorem vof_any {A P n cap:Nat} {s:ASt} {ps:List (Option Nat)} {p:Option Addr} {w:World} (h:ArX A s P ps p n cap w) (a k:Int) (ha:a≤9223372036854775807):
 Calls Tryz.prog 7 #[.pointer (some ⟨A,0,none⟩),.int .i64 a,.int .i64 k] w fun e w'=>e=.returned (.tuple #[ofV (some ⟨A,0,none⟩) a k (thereE s.L s.es a k),.int .i64 (thereE s.L s.es a k)])∧Below w.heap.size w w':=
 vof_gen _ a k w _ fun X hX=>copy_self (h.below hX) a k ha
theorem VC.far {B R:Nat} {pa:Option Addr} {va vs:Nat} {x:World} (hne:B≠R) (h:VC B pa va vs x) (u v z:Value):VC B pa va vs (((x.setCell ⟨R,0,none⟩ u).setCell ⟨R,1,none⟩ v).setCell ⟨R,2,none⟩ z):=
 (Below.heap_setCell _ ⟨R,2,none⟩ _ _ hne).trans ((Below.heap_setCell _ ⟨R,1,none⟩ _ _ hne).trans ((Below.heap_setCell _ ⟨R,0,none⟩ _ _ hne).trans h))
set_option maxHeartbeats 2000000 in
theorem vpart_gen (pa:Option Addr) (va vs:Nat) (h1:va≤4294967296) (h2:vs≤4294967296) (a k:Int) (ha:a≤9223372036854775807) (w:World) (pu:Option Addr) (iv iz:Int) (er:Int)
 (HC:∀X,Below w.heap.size w X→Calls Tryz.prog 7 #[.pointer pa,.int .i64 (addrV va vs a k),.int .i64 k] X fun e X'=>e=.returned (.tuple #[.agg #[.pointer pu,.int .i64 iv,.int .i64 iz],.int .i64 er])∧Below X.heap.size X X'):
 Calls Tryz.prog 64 #[.agg #[.pointer pa,.int .i64 (va:Int),.int .i64 (vs:Int)],.int .i64 a,.int .i64 k] w fun e w'=>e=.returned (.tuple #[.agg #[.pointer pu,.int .i64 iv,.int .i64 iz],.int .i64 er])∧Below w.heap.size w w':=by
 have HC':=Lib.hid HC;clear HC
 go_enter Tryz.func64,Tryz.ntmps64
 go_wp2_with fail
 obtain⟨w1,hw1⟩:∃w1,(w.alloc (.cells #[.pointer pa,.int .i64 (va:Int),.int .i64 (vs:Int)] 30)).alloc (.cells #[.pointer none,.int .i64 0,.int .i64 0] 30)=w1:=⟨_,rfl⟩
 have HH:VC w.heap.size pa va vs w1:=by rw[←hw1];unfold VC;rw[Below.heap_alloc _ _ _ (by simp)];exact heap_new _ _
 have HR:w1.heap[w.heap.size+1]?=some (.cells #[.pointer none,.int .i64 0,.int .i64 0] 30 (0,0)):=by
  rw[←hw1];have:=heap_new (w.alloc (.cells #[.pointer pa,.int .i64 (va:Int),.int .i64 (vs:Int)] 30)) (.cells #[.pointer none,.int .i64 0,.int .i64 0] 30);simpa using this
 have HB:Below w.heap.size w w1:=by rw[←hw1];exact((Below.refl w.heap.size w).alloc (Nat.le_refl _) _).alloc (by simp) _
 have hs1:w1.heap.size=w.heap.size+2:=by rw[←hw1];simp
 rw[hw1]
 clear hw1
 obtain⟨R,hR⟩:∃R,w.heap.size+1=R:=⟨_,rfl⟩
 obtain⟨B,hB⟩:∃B,w.heap.size=B:=⟨_,rfl⟩
 have HBh:=Lib.hid HB
 have hBR:B≠R:=by omega
 have HRl:Hid (w.heap.size≤R∧R<w1.heap.size):=Lib.hid (by omega)
 rw[hR]at HR⊢
 clear HB hR hs1
 rw[hB]at HH⊢
 clear hB
 have HRh:=Lib.hid HR;have HBR:=Lib.hid hBR
 clear HR hBR
 go_region_held3 (fun x=>x.cell? ⟨B,0,none⟩=some (.pointer pa)∧x.cell? ⟨B,1,none⟩=some (.int .i64 (va:Int))∧x.cell? ⟨B,2,none⟩=some (.int .i64 (vs:Int))∧VC B pa va vs x)
  (first|exact(HH.below (Below.refl _ _).drew).all|assumption)
  (first|(go_at_call 93;refine(address_any pa va vs h1 h2 a k ha _).mono ?_;rintro e w' ⟨rfl,hbb⟩;have hnx:=((HH.below (Below.refl _ _).drew).below hbb).all;have hbw:=(HBh.out.drew).trans (hbb.mono HBh.out.size);have hb1:=Lib.hid hbb)
        |(go_at_call 7;refine(HC'.out _ hbw).mono ?_;rintro e w'' ⟨rfl,hbc⟩;have hR2:=((hb1.out.trans (hbc.mono hb1.out.size)).block R HRl.out.2).trans HRh.out;have r0:w''.cell? ⟨R,0,none⟩=some (.pointer none):=(cell_blk hR2 0).1;have r1:w''.cell? ⟨R,1,none⟩=some (.int .i64 0):=(cell_blk hR2 1).1;have r2:w''.cell? ⟨R,2,none⟩=some (.int .i64 0):=(cell_blk hR2 2).1;have f0:=(cell_blk hR2 0).2;have f1:=(cell_blk hR2 1).2;have f2:=(cell_blk hR2 2).2;have hny:=(hnx.2.2.2.below hbc).all;have hV3:=VC.far HBR.out hny.2.2.2 (.pointer pu) (.int .i64 iv) (.int .i64 iz);have hnz:=hV3.all;have HR2:=Lib.hid hR2;clear hR2 hV3))
 have h3:=three_set HR2.out rfl (.pointer pu) (.int .i64 iv) (.int .i64 iz)
 have hbf:=(((hbw.trans (hbc.mono hbw.size)).setCell (p:=⟨R,0,none⟩) HRl.out.1 (.pointer pu)).setCell (p:=⟨R,1,none⟩) HRl.out.1 (.int .i64 iv)).setCell (p:=⟨R,2,none⟩) HRl.out.1 (.int .i64 iz)
 have HBF:=Lib.hid hbf
 obtain⟨w4,hw4⟩:∃w4,(((w''.setCell ⟨R,0,none⟩ (.pointer pu)).setCell ⟨R,1,none⟩ (.int .i64 iv)).setCell ⟨R,2,none⟩ (.int .i64 iz))=w4:=⟨_,rfl⟩
 rw[hw4]at h3 HBF⊢
 clear hw4 hbf hnx hny hnz HH
 have g0:w4.cell? ⟨R,0,none⟩=some (.pointer pu):=(cell_blk h3 0).1
 have g1:w4.cell? ⟨R,1,none⟩=some (.int .i64 iv):=(cell_blk h3 1).1
 have g2:w4.cell? ⟨R,2,none⟩=some (.int .i64 iz):=(cell_blk h3 2).1
 go_wp2_with fail
 exact bodyPost_ret (v:=.tuple #[.agg #[.pointer pu,.int .i64 iv,.int .i64 iz],.int .i64 er]) (by simp[results,Tryz.results64,go_sem,g0,g1,g2]) rfl ⟨rfl,HBF.out⟩
end Go.Proofs.YtpkaehpllldcmaaGreatDoor.Bt
end
section
namespace Go.Proofs.YtpkaehpllldcmaaGreatDoor.Bt
open Go Go.RowKit Go.Shelf
set_option linter.unusedVariables false
def fullS (L:Nat) (m:Nat→UInt8):ASt:=⟨L,[0,L],m,false,0⟩
theorem good_full {L:Nat} (h0:0<L) (hL:L≤1048576):Good L [0,L]:=
 ⟨by simp[Rising,h0],by simp,(fun e h=>by simp at h;omega),hL⟩
theorem mem_full {L:Nat} (h0:0<L) (i:Int):mem [0,L] i=decide (0≤i∧i<L):=by
 unfold mem
 rw[cnt_cons,cnt_cons,cnt_nil]
 by_cases h1:0≤i
 · by_cases h2:i<L
   · rw[decide_eq_true (show 0≤i∧i<L from⟨h1,h2⟩),if_pos (by omega),if_neg (by omega)];rfl
   · rw[decide_eq_false (show¬(0≤i∧i<L)from fun h=>h2 h.2),if_pos (by omega),if_pos (by omega)];rfl
 · rw[decide_eq_false (show¬(0≤i∧i<L)from fun h=>h1 h.1),if_neg (by omega),if_neg (by omega)];rfl
theorem there_full {L:Nat} (h0:0<L) (hL:L≤1048576) (a k:Int):thereB L [0,L] a k=decide (0≤a∧0≤k∧a+k≤(L:Int)*4096):=by
 rw[Bool.eq_iff_iff,there_iff (good_full h0 hL),decide_eq_true_iff]
 constructor
 · rintro ⟨x0,x1,x2,_⟩;exact⟨x0,x1,x2⟩
 · rintro ⟨x0,x1,x2⟩
   exact⟨x0,x1,x2,fun i i1 i2=>by rw[mem_full h0];simp;omega⟩
theorem thereE_full {L:Nat} (h0:0<L) (hL:L≤1048576) (a k:Int):thereE L [0,L] a k=if 0≤a∧0≤k∧a+k≤(L:Int)*4096 then 0 else 3:=by
 unfold thereE
 rw[there_full h0 hL]
 by_cases h:0≤a∧0≤k∧a+k≤(L:Int)*4096
 · rw[if_pos h,decide_eq_true h];rfl
 · rw[if_neg h,decide_eq_false h];rfl
theorem full_new (c L:Nat) (hc:lenN c=L) (he:commitE (newS L) 0 c=0) (hs:laidS L [] 0 c true=[0,L]):commitS (newS L) 0 c=fullS L (fun _=>0):=by
 unfold commitS
 unfold commitE at he
 have hn:¬(countE (newS L).L 0 c≠0∨0<countR (newS L).L (newS L).es 0 c):=by
  rintro (h|h)
  · rw[if_pos h]at he;exact h he
  · by_cases h2:countE (newS L).L 0 c=0
    · rw[if_neg (by simpa using h2),if_pos h]at he;cases he
    · rw[if_pos h2]at he;exact h2 he
 rw[if_neg hn,show refB (newS L)=false from rfl]
 show ASt.mk _ _ _ _ _=_
 rw[show laidS (newS L).L (newS L).es 0 c true=[0,L]from hs];rfl
end Go.Proofs.YtpkaehpllldcmaaGreatDoor.Bt
end
section
namespace Go.Proofs.YtpkaehpllldcmaaGreatDoor.Bt
open Go Go.RowKit Go.Shelf
set_option linter.unusedVariables false
section
variable {A P n cap:Nat} {s:ASt} {ps:List (Option Nat)} {p:Option Addr} {w:World}
theorem keepsV_ar (h:ArX A s P ps p n cap w) (s':ASt):KeepsV w (fun x x'=>Turned A P ps p s' x x'):=fun x x' B c hb ⟨ps',p',n',cap',_,hst,_⟩ hB=>
 hst.block B (Array.getElem?_eq_some_iff.1 hB).1 (own_not (h.below hb) hB (by decide) (by decide) (by decide))
theorem thru_turned {er:Int} {s':ASt} {e:Ending} {w':World} (h:Thru er (fun x x'=>Turned A P ps p s' x x') w e w'):e=.returned (.int .i64 er)∧Turned A P ps p s' w w':=by
 obtain⟨he,x,hb,ht⟩:=h
 exact⟨he,Turned.trans (s':=s') (Step.of_below hb) (fun _ _ _=> .inl rfl) ht⟩
theorem vload_any (h:ArX A s P ps p n cap w) (va vs:Nat) (h1:va≤4294967296) (h2:vs≤4294967296) (a k:Int) (ha:a≤9223372036854775807):
 Calls Tryz.prog 128 #[.agg #[.pointer (some ⟨A,0,none⟩),.int .i64 (va:Int),.int .i64 (vs:Int)],.int .i64 a,.int .i64 k] w (LoadPost s.mm s.L s.es (addrV va vs a k) k w):=
 vload_gen _ va vs h1 h2 a k ha w _ _ fun x hx=>load_any (h.below hx) _ k (addrV_le h1 h2 a k)
theorem vbytes_any (h:ArX A s P ps p n cap w) (va vs:Nat) (h1:va≤4294967296) (h2:vs≤4294967296) (a k:Int) (ha:a≤9223372036854775807):
 Calls Tryz.prog 240 #[.agg #[.pointer (some ⟨A,0,none⟩),.int .i64 (va:Int),.int .i64 (vs:Int)],.int .i64 a,.int .i64 k] w (BytesPost s.mm s.L s.es (addrV va vs a k) k w):=
 vbytes_gen _ va vs h1 h2 a k ha w _ _ fun x hx=>bytes_any (h.below hx) _ k (addrV_le h1 h2 a k)
theorem vstore_any (h:ArX A s P ps p n cap w) (va vs:Nat) (h1:va≤4294967296) (h2:vs≤4294967296) (a k x:Int) (ha:a≤9223372036854775807) (hx:0≤x):
 Calls Tryz.prog 113 #[.agg #[.pointer (some ⟨A,0,none⟩),.int .i64 (va:Int),.int .i64 (vs:Int)],.int .i64 a,.int .i64 k,.int .u64 x] w (StorePost A P s ps p (addrV va vs a k) k x w):=
 (vstore_gen _ va vs h1 h2 a ha k x w _ _ (fun X hX=>store_any (h.below hX) _ k x (addrV_le h1 h2 a k) hx) (keepsV_ar h _)).mono fun e w' ht=>thru_turned ht
theorem vput_any (h:ArX A s P ps p n cap w) (va vs:Nat) (h1:va≤4294967296) (h2:vs≤4294967296) (a:Int) (ha:a≤9223372036854775807) (x:ByteArray) (hx:x.size≤9223372036854775807):
 Calls Tryz.prog 222 #[.agg #[.pointer (some ⟨A,0,none⟩),.int .i64 (va:Int),.int .i64 (vs:Int)],.int .i64 a,.string x] w (PutPost A P s ps p (addrV va vs a x.size) x.data.toList w):=
 (vput_gen _ va vs h1 h2 a ha x hx w _ _ (fun X hX=>put_any (h.below hX) _ (addrV_le h1 h2 a x.size) x hx) (keepsV_ar h _)).mono fun e w' ht=>thru_turned ht
theorem vcopy_any (h:ArX A s P ps p n cap w) (va vs:Nat) (h1:va≤4294967296) (h2:vs≤4294967296) (to fr k:Int) (ha:to≤9223372036854775807) (hf:fr≤9223372036854775807):
 Calls Tryz.prog 55 #[.agg #[.pointer (some ⟨A,0,none⟩),.int .i64 (va:Int),.int .i64 (vs:Int)],.int .i64 to,.int .i64 fr,.int .i64 k] w (CopyPost A P s ps p (addrV va vs to k) (addrV va vs fr k) k w):=
 (vcopy_gen _ va vs h1 h2 to fr k ha hf w _ _ (fun X hX=>copy_any (h.below hX) _ _ k (addrV_le h1 h2 to k) (addrV_le h1 h2 fr k)) (keepsV_ar h _)).mono fun e w' ht=>thru_turned ht
end
end Go.Proofs.YtpkaehpllldcmaaGreatDoor.Bt
end
