/- ArIter, ArBytes. -/
import Derived.Test.YtpkaehpllldcmaaGreatDoorMoH
import Derived.RangeFuncNested
import Derived.RangeFuncBound
import Derived.RangeFuncCalls
import Derived.Laws.BytesArg
import Derived.Laws.CopyRow
import Derived.Laws.CopyOwn
section
namespace Go.Proofs.YtpkaehpllldcmaaGreatDoor.Bt
open Go Go.RowKit Go.Shelf
set_option linter.unusedVariables false
attribute [local go_sem] Oper.semAt_some
abbrev Pc (a n:Nat):={x:Nat × Nat//0<x.2∧x.1+x.2≤n∧(a+x.1)%4096+x.2≤4096}
def encPc (a n:Nat) (x:Pc a n):Array Value:=
 #[.int .i64 (x.1.1:Int),.agg #[.int .i64 (((a+x.1.1)/4096:Nat):Int),.int .i64 (((a+x.1.1)%4096:Nat):Int),.int .i64 (((a+x.1.1)%4096+x.1.2:Nat):Int)]]
def cov {a n:Nat} (l:List (Pc a n)) (i:Nat):Bool:=l.any fun x=>decide (x.1.1≤i∧i<x.1.1+x.1.2)
theorem cov_snoc {a n:Nat} (l:List (Pc a n)) (x:Pc a n) (i:Nat):cov (l++[x]) i=(cov l i||decide (x.1.1≤i∧i<x.1.1+x.1.2)):=by simp[cov]
set_option maxRecDepth 100000 in
set_option maxHeartbeats 2000000 in
theorem pieces1_in (nf l Bn Ba a n:Nat) (hn:n≤4294967296) (hb:a≤4294967296) (J Jx:List (Pc a n)→World→Prop)
 (hY:∀pre x W,J pre W→pre.length<n→YieldAt Fence.wide (nf-1) Tryz.prog l (encPc a n x) W fun e W'=>
  (e=.returned (.bool true)∧J (pre++[x]) W'∧K2 Bn Ba W W')∨(e=.returned (.bool false)∧Jx (pre++[x]) W'))
 (W:World) (hN:W.cell? ⟨Bn,0,none⟩=some (.int .i64 (n:Int))) (hA:W.cell? ⟨Ba,0,none⟩=some (.int .i64 (a:Int))) (h0:J [] W):
 CallsIn Fence.wide nf Tryz.prog 127 #[.func (.yield l) #[] #[],.pointer (some ⟨Bn,0,none⟩),.pointer (some ⟨Ba,0,none⟩)] W fun e W'=>(∃v,e=.returned v)∧
  ((∃ys,(∀i,i<n→cov ys i=true)∧J ys W')∨(∃pre,True∧Jx pre W')):=by
 refine callsIn_of_wp Tryz.func127 rfl trivial ?_ rfl
 simp only[Tryz.ntmps127,List.size_toArray,List.length_cons,List.length_nil,Nat.reduceAdd,Nat.reduceSub,Array.replicate_succ,Array.replicate_zero,List.push_toArray,List.append_toArray,List.nil_append,List.cons_append]
 gi_wp2
 gi_loopw [4] (fun i wr=>∃(d:Nat) (pre:List (Pc a n)),d≤n∧i=.int .i64 (d:Nat)∧pre.length≤d∧Hid (∀i,i<d→cov pre i=true)∧J pre wr∧K2 Bn Ba W wr)
  (fun i _=>n-(intOf i).toNat)
 case atStart=>exact⟨0,[],by omega,rfl,by simp,Lib.hid (fun i hi=>by omega),h0,K2.refl _⟩
 case round=>
  obtain⟨d,pre,hd,rfl,hpl,hcv,hJs,hnx⟩:=hrel
  have cN:wr.cell? ⟨Bn,0,none⟩=some (.int .i64 (n:Int)):=(hnx.one 0).trans hN
  have cA:wr.cell? ⟨Ba,0,none⟩=some (.int .i64 (a:Int)):=(hnx.two 0).trans hA
  clear hN hA
  by_cases hlt:d<n
  · obtain⟨lo,hlo⟩:∃lo,(a+d)%4096=lo:=⟨_,rfl⟩
    obtain⟨pg,hpg⟩:∃pg,(a+d)/4096=pg:=⟨_,rfl⟩
    have hl4:lo<4096:=by omega
    have q1:((a:Int)+d)%4096=(lo:Int):=by omega
    have q2:((a:Int)+d)/4096=(pg:Int):=by omega
    obtain⟨m,hm0,hm1,hm2,hmm⟩:∃m:Nat,0<m∧d+m≤n∧lo+m≤4096∧((m=n-d∧(lo:Int)+n-d≤4096)∨(lo+m=4096∧(4096:Int)<(lo:Int)+n-d)):=by
     by_cases h:(lo:Int)+n-d≤4096
     · exact⟨n-d,by omega,by omega,by omega,.inl ⟨rfl,h⟩⟩
     · exact⟨4096-lo,by omega,by omega,by omega,.inr ⟨by omega,by omega⟩⟩
    obtain⟨x,hx1,hx2⟩:∃x:Pc a n,x.1.1=d∧x.1.2=m:=⟨⟨(d,m),hm0,hm1,by rw[hlo];exact hm2⟩,rfl,rfl⟩
    obtain⟨fn,tmps,assign,body,hy,hR⟩:=hY pre x wr hJs (by omega)
    simp only[encPc,hx1,hx2,hlo,hpg]at hy
    have HCV:Hid (∀i,i<d+m→cov (pre++[x]) i=true):=Lib.hid fun i hi=>by
     rw[cov_snoc,hx1,hx2]
     by_cases h:i<d
     · rw[hcv.out i h];rfl
     · rw[decide_eq_true (by omega)];simp
    clear hlo hpg hx1 hx2
    have HKF:Hid (∀W3,J (pre++[x]) W3→K2 Bn Ba wr W3→∃(d':Nat) (pre':List (Pc a n)),d'≤n∧Value.int .i64 ((d:Int)+m)=.int .i64 (d':Nat)∧pre'.length≤d'∧Hid (∀i,i<d'→cov pre' i=true)∧J pre' W3∧K2 Bn Ba W W3):=Lib.hid fun W3 hj hk=>
     ⟨d+m,pre++[x],by omega,by go_num,by simp;omega,HCV,hj,hnx.trans hk⟩
    rcases hmm with⟨hm5,h4⟩|⟨hm5,h4⟩
    · obtain⟨H,hH⟩:∃H,lo+m=H:=⟨_,rfl⟩
      rw[hH]at hy
      have e1:(lo:Int)+n-d=(H:Int):=by omega
      have e2:(H:Int)-lo=(m:Int):=by omega
      have hH4:H≤4096:=by omega
      clear hm5 hH h4
      gi_wp2_with fail
      refine⟨fun hd=>by simp[Fence.wide]at hd,hR.mono ?_⟩
      rintro e W3 (⟨rfl,hJ3,hk3⟩|⟨rfl,hJx3⟩)
      · have HF:=Lib.hid (HKF.out W3 hJ3 hk3)
        clear HKF
        gi_wp2_with fail
        go_roundw
        case rel=>exact HF.out
        case measure=>simp[intOf];omega
      · gi_wp2_with fail
        refine bodyPost_ret (results_none rfl _ _ _) rfl ?_
        exact⟨⟨_,rfl⟩,.inr ⟨_,trivial,hJx3⟩⟩
    · rw[hm5,show(((4096:Nat):Int))=4096 from rfl]at hy
      have e2:(4096:Int)-lo=(m:Int):=by omega
      clear hm5
      gi_wp2_with fail
      refine⟨fun hd=>by simp[Fence.wide]at hd,hR.mono ?_⟩
      rintro e W3 (⟨rfl,hJ3,hk3⟩|⟨rfl,hJx3⟩)
      · have HF:=Lib.hid (HKF.out W3 hJ3 hk3)
        clear HKF
        gi_wp2_with fail
        go_roundw
        case rel=>exact HF.out
        case measure=>simp[intOf];omega
      · gi_wp2_with fail
        refine bodyPost_ret (results_none rfl _ _ _) rfl ?_
        exact⟨⟨_,rfl⟩,.inr ⟨_,trivial,hJx3⟩⟩
  · have hke:d=n:=by omega
    have HK:=Lib.hid hke;clear hke
    gi_wp2
    go_end0
    exact⟨⟨_,rfl⟩,.inl ⟨_,fun i hi=>hcv.out i (by rw[HK.out];exact hi),hJs⟩⟩
theorem pieces_stops (nf Bn Ba a n:Nat) (hn:n≤4294967296) (hb:a≤4294967296) (w:World) (lN:Bn<w.heap.size) (lA:Ba<w.heap.size) (hN:w.cell? ⟨Bn,0,none⟩=some (.int .i64 (n:Int))) (hA:w.cell? ⟨Ba,0,none⟩=some (.int .i64 (a:Int))):
 SeqStopsK Fence.wide nf Tryz.prog 127 #[.pointer (some ⟨Bn,0,none⟩),.pointer (some ⟨Ba,0,none⟩)] (encPc a n) (K2 Bn Ba) (fun ys=>∀i,i<n→cov ys i=true) (fun _=>True) n w:=fun l J Jx W hW hJ hJx hY h0=>
 pieces1_in nf l Bn Ba a n hn hb J Jx hY W ((hW.cell (p:=⟨Bn,0,none⟩) lN).trans hN) ((hW.cell (p:=⟨Ba,0,none⟩) lA).trans hA) h0
theorem pieces_fn (a n:Int) (w:World):
 Calls Tryz.prog 92 #[.int .i64 a,.int .i64 n] w fun e w'=>e=.returned (.func (.func 127) #[] #[.pointer (some ⟨w.heap.size+1,0,none⟩),.pointer (some ⟨w.heap.size,0,none⟩)])∧w'=(w.alloc (.cells #[.int .i64 a] 3)).alloc (.cells #[.int .i64 n] 3):=by
 have hmf:∀(fn:Fn) (first cap:Array Value) (w:World),(Instr.makeFunc fn first cap).run Tryz.prog w=.ok (.func fn first cap) w:=fun _ _ _ _=>rfl
 go_enter Tryz.func92,Tryz.ntmps92
 go_wp2
 go_ret
 exact⟨rfl,rfl⟩
end Go.Proofs.YtpkaehpllldcmaaGreatDoor.Bt
end
section
namespace Go.Proofs.YtpkaehpllldcmaaGreatDoor.Bt
open Go Go.RowKit Go.Shelf
set_option linter.unusedVariables false
attribute [local go_sem] Oper.semAt_some
def strL (l:List UInt8):ByteArray:=⟨l.toArray⟩
def outV {a n:Nat} (m:Nat→UInt8) (l:List (Pc a n)):Array Value:=((List.range n).map fun i=>Value.int .u8 (((if cov l i then m (a+i)else 0):UInt8).toNat:Int)).toArray
theorem Tryz.infoByte:(Tryz.prog.info? 5).map (fun i=>(i.zero,i.size,i.bytes))=some (some (.int .u8 0),1,1):=by kernel_rfl
theorem made_out {a:Nat} (m:Nat→UInt8) (n:Nat):madeCells (Value.int .u8 0).cells (n*1)=outV (a:=a) (n:=n) m []:=by
 apply Array.ext_getElem?
 intro j
 by_cases hj:j<n
 · simp[madeCells,hj,Value.cells,Nat.mod_one,outV,cov]
 · rw[Array.getElem?_eq_none (by rw[size_madeCells];omega),Array.getElem?_eq_none (by simp[outV];omega)]
theorem run_bytes (a n:Nat) (m:Nat→UInt8) (hn:n≤4294967296) (w:World):
 (Instr.makeSlice 173 (.int .i64 (n:Int)) (.int .i64 (n:Int))).run Tryz.prog w=.ok (.slice (some ⟨w.heap.size,0,none⟩) n n) (w.alloc (.cells (outV (a:=a) (n:=n) m []) 5)):=by
 obtain⟨i0,hi,hz0,hz1,hz2⟩:=info_parts Tryz.infoByte
 have h:=run_make (P:=Tryz.prog) w 173 5 i0 (.int .u8 0) Tryz.underlying173 hi hz0 .i64 .i64 (n:Int) n (by omega) (Int.le_refl _) (by rw[hz2];omega) (by omega)
 rw[Int.toNat_natCast,hz1,made_out (a:=a) m]at h
 exact h
theorem outV_get {a n:Nat} (m:Nat→UInt8) (l:List (Pc a n)) (i:Nat) (hi:i<n):(outV m l)[i]?=some (.int .u8 (((if cov l i then m (a+i)else 0):UInt8).toNat:Int)):=by simp[outV,hi]
theorem outV_size {a n:Nat} (m:Nat→UInt8) (l:List (Pc a n)):(outV m l).size=n:=by simp[outV]
theorem out_skip {a n:Nat} (m:Nat→UInt8) (l:List (Pc a n)) (x:Pc a n) (h:∀i,x.1.1≤i→i<x.1.1+x.1.2→m (a+i)=0):outV m (l++[x])=outV m l:=by
 apply Array.ext_getElem?
 intro i
 by_cases hi:i<n
 · rw[outV_get m _ i hi,outV_get m _ i hi,cov_snoc]
   by_cases hx:x.1.1≤i∧i<x.1.1+x.1.2
   · rw[h i hx.1 hx.2];simp
   · rw[decide_eq_false hx];simp
 · rw[Array.getElem?_eq_none (by rw[outV_size];omega),Array.getElem?_eq_none (by rw[outV_size];omega)]
def srcV (m:Nat→UInt8) (a k:Nat):List Value:=(List.range k).map fun j=>Value.int .u8 ((m (a+j)).toNat:Int)
theorem srcV_length (m:Nat→UInt8) (a k:Nat):(srcV m a k).length=k:=by simp[srcV]
theorem out_copy {a n:Nat} (m:Nat→UInt8) (l:List (Pc a n)) (x:Pc a n):
 ((outV m l).toList.take x.1.1++srcV m (a+x.1.1) x.1.2++(outV m l).toList.drop (x.1.1+(srcV m (a+x.1.1) x.1.2).length)).toArray=outV m (l++[x]):=by
 have hx:=x.2
 rw[srcV_length]
 apply Array.ext_getElem?
 intro i
 have hlen:(outV m l).toList.length=n:=by simp[outV]
 by_cases hi:i<n
 · rw[outV_get m _ i hi,cov_snoc,List.getElem?_toArray]
   by_cases h1:i<x.1.1
   · rw[List.append_assoc,List.getElem?_append_left (by rw[List.length_take];omega),List.getElem?_take,if_pos h1,Array.getElem?_toList,outV_get m l i hi,decide_eq_false (by omega)]
     simp
   · by_cases h2:i<x.1.1+x.1.2
     · rw[List.append_assoc,List.getElem?_append_right (by rw[List.length_take];omega),List.length_take,hlen,List.getElem?_append_left (by rw[srcV_length];omega),decide_eq_true (by omega)]
       have e:i-min x.1.1 n=i-x.1.1:=by omega
       have e2:a+x.1.1+(i-x.1.1)=a+i:=by omega
       rw[e]
       simp only[srcV,List.getElem?_map]
       rw[List.getElem?_range (by omega)]
       simp only[Option.map_some,e2,Bool.or_true,if_true]
     · rw[List.getElem?_append_right (by simp only[List.length_append,List.length_take,srcV_length,hlen];omega)]
       simp only[List.length_append,List.length_take,srcV_length,hlen]
       rw[List.getElem?_drop,Array.getElem?_toList,decide_eq_false (by omega)]
       have e:x.1.1+x.1.2+(i-(min x.1.1 n+x.1.2))=i:=by omega
       rw[e,outV_get m l i hi]
       simp
 · rw[Array.getElem?_eq_none (by simp only[List.size_toArray,List.length_append,List.length_take,List.length_drop,srcV_length,hlen];omega),Array.getElem?_eq_none (by rw[outV_size];omega)]
theorem page_len:Tryz.prog.underlying 90=some (.array 4096 5):=by kernel_rfl
theorem slice_page (b lo m:Nat) (hm:0<m) (h:lo+m≤4096) (w:World):
 (Instr.sliceAt 90 (.pointer (some ⟨b,0,none⟩)) (some (.int .i64 (lo:Int))) (some (.int .i64 ((lo:Int)+m))) none).run Tryz.prog w=.ok (.slice (some ⟨b,lo,none⟩) m (4096-lo)) w:=by
 have hne:¬4096=lo:=by omega
 have h1:0≤(lo:Int)+m∧(lo:Int)+m≤4096:=by omega
 have h2:((lo:Int)+m).toNat=lo+m:=by omega
 simp[Instr.sliceAt,Instr.sureAddr,run_underlying page_len,Instr.sliceBounds,Instr.sliceBound,go_sem]
 rw[if_pos h1,h2,if_pos (Nat.le_add_right _ _),if_neg hne,Nat.add_sub_cancel_left]
theorem addr_add (b o j:Nat):(⟨b,o,none⟩:Addr).add j=⟨b,o+j,none⟩:=by simp only[Addr.add];split<;>simp_all
theorem copy_out {a n:Nat} (mm:Nat→UInt8) (l:List (Pc a n)) (x:Pc a n) (W:World) (O b:Nat) (hO:W.heap[O]?=some (.cells (outV mm l) 5 (0,0)))
 (hb:∀j,j<x.1.2→W.cell? ⟨b,(a+x.1.1)%4096+j,none⟩=some (.int .u8 ((mm (a+x.1.1+j)).toNat:Int))) (ty:TypeId):
 (Builtin.copy_ #[173,173] ty #[.slice (some ⟨O,x.1.1,none⟩) (n-x.1.1) (n-x.1.1),.slice (some ⟨b,(a+x.1.1)%4096,none⟩) x.1.2 (4096-(a+x.1.1)%4096)]).run Tryz.prog W=
  .ok (goInt x.1.2) (W.setRow O (outV mm (l++[x]))):=by
 have hx:=x.2
 obtain⟨i0,hi,hz0,hz1,hz2⟩:=info_parts Tryz.infoByte
 have h:=run_copy_row Tryz.prog W 173 173 ty 5 O x.1.1 (n-x.1.1) (n-x.1.1) ⟨b,(a+x.1.1)%4096,none⟩ x.1.2 (4096-(a+x.1.1)%4096) (outV mm l) 5 (srcV mm (a+x.1.1) x.1.2)
  Tryz.underlying173 (by rw[hi];simp[hz1]) hO (by rw[srcV_length];exact(Nat.min_eq_left (by omega)).symm)
  (fun j v hj=>by
   have hjl:j<x.1.2:=by have:=(List.getElem?_eq_some_iff.1 hj).1;rw[srcV_length]at this;exact this
   rw[addr_add,hb j hjl]
   simp only[srcV,List.getElem?_map]at hj
   rw[List.getElem?_range hjl]at hj
   simpa using hj)
  (by rw[srcV_length,outV_size];omega) (fun v hv=>by simp only[srcV,List.mem_map]at hv;obtain⟨_,_,rfl⟩:=hv;rfl)
 rw[h,srcV_length]
 have e:=out_copy mm l x
 rw[srcV_length]at e
 rw[e]
theorem four_new (w:World) (a b c d:Array Value) (ta tb tc td:TypeId):
 ((((w.alloc (.cells a ta)).alloc (.cells b tb)).alloc (.cells c tc)).alloc (.cells d td)).heap[w.heap.size]?=some (.cells a ta (0,0))∧
 ((((w.alloc (.cells a ta)).alloc (.cells b tb)).alloc (.cells c tc)).alloc (.cells d td)).heap[w.heap.size+1]?=some (.cells b tb (0,0))∧
 ((((w.alloc (.cells a ta)).alloc (.cells b tb)).alloc (.cells c tc)).alloc (.cells d td)).heap[w.heap.size+1+1]?=some (.cells c tc (0,0))∧
 ((((w.alloc (.cells a ta)).alloc (.cells b tb)).alloc (.cells c tc)).alloc (.cells d td)).heap[w.heap.size+1+1+1]?=some (.cells d td (0,0)):=by
 obtain⟨h1,h2,h3⟩:=three_new w a b c ta tb tc
 have hs:(((w.alloc (.cells a ta)).alloc (.cells b tb)).alloc (.cells c tc)).heap.size=w.heap.size+1+1+1:=by simp
 refine⟨?_,?_,?_,?_⟩
 · rw[Below.heap_alloc _ _ _ (by omega)];exact h1
 · rw[Below.heap_alloc _ _ _ (by omega)];exact h2
 · rw[Below.heap_alloc _ _ _ (by omega)];exact h3
 · have:=heap_new (((w.alloc (.cells a ta)).alloc (.cells b tb)).alloc (.cells c tc)) (.cells d td);rw[hs]at this;exact this
section
variable {A P n cap:Nat} {s:ASt} {ps:List (Option Nat)} {p:Option Addr} {w:World}
def BytesPost (m:Nat→UInt8) (L:Nat) (es:List Nat) (a k:Int) (w:World) (e:Ending) (w':World):Prop:=
 e=.returned (.tuple #[.string (if thereE L es a k=0 then strL (getM m a.toNat k.toNat)else⟨#[]⟩),.int .i64 (thereE L es a k)])∧Below w.heap.size w w'
set_option maxRecDepth 100000 in
set_option maxHeartbeats 4000000 in
theorem bytes_yes (h:ArX A s P ps p n cap w) (a k:Nat) (hn:thereE s.L s.es a k=0):
 CallsIn Fence.wide 4 Tryz.prog 51 #[.pointer (some ⟨A,0,none⟩),.int .i64 a,.int .i64 k] w (BytesPost s.mm s.L s.es a k w):=by
 have ht:thereB s.L s.es a k=true:=by
  unfold thereE at hn
  cases hq:thereB s.L s.es a k with
  |true=>rfl
  |false=>rw[hq]at hn;cases hn
 obtain⟨t0,t1,t2,t3⟩:=(there_iff h.good a k).1 ht
 have HM:Hid (∀i:Int,a≤i→i<a+k→mem s.es (i/4096)=true):=Lib.hid t3
 have hsm:=h.good.small
 have hk32:k≤4294967296:=by omega
 have ha32:a≤4294967296:=by omega
 have HNU:=Lib.hid hn
 have hmk:=run_bytes a k s.mm hk32
 have HX:=Lib.hid h
 clear t3 hn ht h
 refine callsIn_of_wp_marks Tryz.func51 rfl trivial ?_ rfl
 simp only[Tryz.ntmps51,List.size_toArray,List.length_cons,List.length_nil,Nat.reduceAdd,Nat.reduceSub,Array.replicate_succ,Array.replicate_zero,List.push_toArray,List.append_toArray,List.nil_append,List.cons_append]
 gi_wp2_with fail
 have hxa:=HX.out.below ((Below.refl w.heap.size w).alloc (Nat.le_refl _) (.cells #[.pointer (some ⟨A,0,none⟩)] 25))
 refine⟨trivial,(callsIn_wide.2 (there_any hxa a k (by omega))).mono ?_⟩
 rintro e w1 ⟨rfl,hb1⟩
 rw[HNU.out]
 have c0:w1.cell? ⟨w.heap.size,0,none⟩=some (.pointer (some ⟨A,0,none⟩)):=(hb1.cell (p:=⟨w.heap.size,0,none⟩) (by simp)).trans (by simp)
 have B1:Below w.heap.size w w1:=((Below.refl w.heap.size w).alloc (Nat.le_refl _) (.cells #[.pointer (some ⟨A,0,none⟩)] 25)).trans (hb1.mono (by simp))
 have hs1:w.heap.size+1≤w1.heap.size:=by have:=hb1.size;simpa using this
 clear hb1 hxa
 gi_wp2_with (refine⟨trivial,?_⟩;gi_at_call 92;refine(callsIn_wide.2 (pieces_fn a k _)).mono ?_;rintro e w' ⟨rfl,rfl⟩)
 obtain⟨w2,hw2⟩:∃w2,(((w1.alloc (.cells (outV (a:=a) (n:=k) s.mm []) 5)).alloc (.cells #[.slice (some ⟨w1.heap.size,0,none⟩) k k] 173)).alloc (.cells #[.int .i64 (a:Int)] 3)).alloc (.cells #[.int .i64 (k:Int)] 3)=w2:=⟨_,rfl⟩
 have hsz:w2.heap.size=w1.heap.size+4:=by rw[←hw2];simp
 have hB2:Below w1.heap.size w1 w2:=by rw[←hw2];exact((((Below.refl _ w1).alloc (Nat.le_refl _) _).alloc (by simp) _).alloc (by simp;omega) _).alloc (by simp;omega) _
 obtain⟨h4a,h4b,h4c,h4d⟩:=four_new w1 (outV (a:=a) (n:=k) s.mm []) #[.slice (some ⟨w1.heap.size,0,none⟩) k k] #[.int .i64 (a:Int)] #[.int .i64 (k:Int)] 5 173 3 3
 rw[hw2]at h4a h4b h4c h4d
 have hcA:=(cell_blk h4c 0).1
 have hcN:=(cell_blk h4d 0).1
 rw[hw2]
 clear hw2 hmk
 refine wpIn_rangeFunc_ownH rfl (by omega) (gf:=127) (lb:=#[.pointer (some ⟨w1.heap.size+1+1+1,0,none⟩),.pointer (some ⟨w1.heap.size+1+1,0,none⟩)]) rfl trivial (enters_of Tryz.func127 (by kernel_rfl) rfl)
  (pieces_stops (4-1) (w1.heap.size+1+1+1) (w1.heap.size+1+1) a k hk32 ha32 w2 (by omega) (by omega) hcN hcA) K2.trans (K2.put (by omega) (by omega)) (Below.refl _ _) (fun _=>rfl)
  (fun pre W=>((W.heap[w1.heap.size]?=some (.cells (outV s.mm pre) 5 (0,0))∧W.heap[w1.heap.size+1]?=some (.cells #[.slice (some ⟨w1.heap.size,0,none⟩) k k] 173 (0,0)))∧Below w1.heap.size w1 W)∧w2.heap.size≤W.heap.size)
  (fun _ _ _=>False)
  (OwnFrom.and (OwnFrom.and (fun pre X Y row hs hg hr=>⟨(grownBy_keeps_cells hg (fun r e=>(hr r e).2) hs.1 rfl).trans hs.1,(grownBy_keeps_cells hg (fun r e=>(hr r e).2) hs.2 rfl).trans hs.2⟩) (ownFrom_below (Nat.le_refl _) (by omega))) (fun pre X Y row hs hg hr=>Nat.le_trans hs hg.size))
  (fun _ _ _ _ _ hs _ _=>hs)
  ⟨⟨⟨h4a,h4b⟩,hB2⟩,Nat.le_refl _⟩
  (fun x a' W=>∃V,w2.heap.size≤V∧a'={tmps:=#[.pointer (some ⟨A,0,none⟩),.int .i64 a,.int .i64 k,.pointer (some ⟨w.heap.size,0,none⟩),undef,undef,.string {data:=#[]},.int .i64 0,.int .i64 0,.pointer (some ⟨w1.heap.size+1,0,none⟩),.int .i64 (x.1.1:Int),.pointer (some ⟨V,0,none⟩),undef,.pointer (some ⟨A,0,none⟩),.int .i64 a,.int .i64 k,.int .i64 0,.int .i64 0,.bool false,undef,.int .i64 k,.slice (some ⟨w1.heap.size,0,none⟩) k k,.int .i64 a,.int .i64 k,.func (.func 127) #[] #[.pointer (some ⟨w1.heap.size+1+1+1,0,none⟩),.pointer (some ⟨w1.heap.size+1+1,0,none⟩)],.int .i64 (x.1.1:Int),.agg #[.int .i64 (((a+x.1.1)/4096:Nat):Int),.int .i64 (((a+x.1.1)%4096:Nat):Int),.int .i64 (((a+x.1.1)%4096+x.1.2:Nat):Int)],undef,undef,undef,undef,undef,undef,undef,undef,undef,undef,undef,undef,undef,undef,undef,undef,undef,undef,undef,undef,undef,undef,undef],defers:=[]}∧W.heap[V]?=some (.cells #[.int .i64 (((a+x.1.1)/4096:Nat):Int),.int .i64 (((a+x.1.1)%4096:Nat):Int),.int .i64 (((a+x.1.1)%4096+x.1.2:Nat):Int)] 178 (0,0)))
  (fun x a' _ X Y row hs hg hr=>by
   obtain⟨V,h1,h2,h3⟩:=hs
   exact⟨V,h1,h2,(grownBy_keeps_cells hg (fun r e=>(hr r e).2) h3 rfl).trans h3⟩)
  ?assign ?body ?done ?stop
 case assign=>
  intro l pre x W K hI hK
  simp only[encPc]
  generalize (a+x.1.1)%4096+x.1.2=g3 at*
  generalize (a+x.1.1)/4096=g1 at*
  generalize (a+x.1.1)%4096=g2 at*
  gi_wp2
  exact hK _ _ ((KeepsOthers.alloc _ _).from _) ⟨Below.heap_alloc _ _ _ (by have:=hI.2;omega),Below.heap_alloc _ _ _ (by have:=hI.2;omega)⟩
   ⟨⟨⟨(Below.heap_alloc _ _ _ (by have:=hI.2;omega)).trans hI.1.1.1,(Below.heap_alloc _ _ _ (by have:=hI.2;omega)).trans hI.1.1.2⟩,hI.1.2.alloc hI.1.2.size _⟩,by have:=hI.2;simp;omega⟩
   ⟨W.heap.size,hI.2,rfl,heap_new _ _⟩
 case body=>
  rintro l pre x a' W hl hlr ⟨⟨⟨iO,iB⟩,iW⟩,iS⟩ ⟨V,hV,rfl,hcV⟩ hlen
  have hx:=x.2
  obtain⟨hx0,hx1,hx2⟩:=hx
  have hXW:=HX.out.below (B1.trans (iW.mono B1.size))
  obtain⟨_,_,c2,_,_⟩:=hXW.head
  have cb:=(iW.cell (p:=⟨w.heap.size,0,none⟩) (by show w.heap.size<w1.heap.size;omega)).trans c0
  have v0:=(cell_blk hcV 0).1
  have v1:=(cell_blk hcV 1).1
  have v2:=(cell_blk hcV 2).1
  have ob:=(cell_blk iB 0).1
  have hi:(a+x.1.1)/4096<s.L:=by omega
  have hil:(a+x.1.1)/4096<ps.length:=by rw[HX.out.len];exact hi
  have HXW:=Lib.hid hXW
  clear hXW
  obtain⟨d,hd⟩:∃d,x.1.1=d:=⟨_,rfl⟩
  obtain⟨m,hm⟩:∃m,x.1.2=m:=⟨_,rfl⟩
  obtain⟨g1,hg1⟩:∃g1,(a+d)/4096=g1:=⟨_,rfl⟩
  obtain⟨g2,hg2⟩:∃g2,(a+d)%4096=g2:=⟨_,rfl⟩
  simp only[hd,hm]at hx0 hx1 hx2 hi hil v0 v1 v2 hcV⊢
  simp only[hg1,hg2]at hx2 hi hil v0 v1 v2 hcV⊢
  have HD:=Lib.hid hd;have HMm:=Lib.hid hm;have HG1:=Lib.hid hg1;have HG2:=Lib.hid hg2
  clear hd hm hg1 hg2
  cases hq:ps[g1]? with
  |none=>rw[List.getElem?_eq_none_iff]at hq;omega
  |some q=>
   have hsl:=HXW.out.slot hq
   cases q with
   |none=>
    simp only[ptrV]at hsl
    have HQ:=Lib.hid hq;clear hq
    gi_wp2_with fail
    refine round_still_tail 8 (by kernel_rfl) (by kernel_rfl) (by kernel_rfl) ?_
    simp only[List.take_succ_cons,List.take_zero,List.drop_succ_cons,List.drop_zero]
    repeat still_step
    refine wpStill_nil ?_
    gi_wp2_with fail
    have HS:=Lib.hid (out_skip s.mm pre x fun i h1 h2=>by
     rw[HD.out]at h1 h2;rw[HMm.out]at h2
     have hz:=HXW.out.no g1 HQ.out (g2+(i-d)) (by omega)
     have hg1:=HG1.out;have hg2:=HG2.out
     rw[show g1*4096+(g2+(i-d))=a+i from by omega]at hz;exact hz)
    exact⟨(KeepsOthers.drew _).from _,K2.drew _,⟨⟨by rw[HS.out];exact iO,iB⟩,iW.drew⟩,iS⟩
   |some b=>
    simp only[ptrV]at hsl
    have HQ:=Lib.hid hq;clear hq
    gi_wp2_with fail
    refine round_still_tail 8 (by kernel_rfl) (by kernel_rfl) (by kernel_rfl) ?_
    simp only[List.take_succ_cons,List.take_zero,List.drop_succ_cons,List.drop_zero]
    repeat still_step
    refine wpStill_nil ?_
    have z1:(d:Int)<k:=by omega
    have z2:((g2+m:Nat):Int)≤4096:=by omega
    have z3:(g2:Int)≤((g2+m:Nat):Int):=by omega
    have z4:d≤k:=by omega
    have z5:¬k=d:=by omega
    have HSP:=slice_page b g2 m hx0 hx2
    have HCP:∀ty,(Builtin.copy_ #[173,173] ty #[.slice (some ⟨w1.heap.size,d,none⟩) (k-d) (k-d),.slice (some ⟨b,g2,none⟩) m (4096-g2)]).run Tryz.prog W.drew.drew=.ok (goInt m) (W.drew.drew.setRow w1.heap.size (outV s.mm (pre++[x]))):=fun ty=>by
     have h:=copy_out s.mm pre x W.drew.drew w1.heap.size b iO (fun j hj=>by
      rw[HMm.out]at hj
      rw[HD.out,HG2.out]
      have hby:=HXW.out.byte HQ.out (show g2+j<4096 by omega)
      have hg1:=HG1.out;have hg2:=HG2.out
      rw[show g1*4096+(g2+j)=a+d+j from by omega]at hby;exact hby) ty
     rw[HD.out,HMm.out,HG2.out]at h
     exact h
    gi_wp2_with fail
    refine round_still_tail 10 (by kernel_rfl) (by kernel_rfl) (by kernel_rfl) ?_
    simp only[List.take_succ_cons,List.take_zero,List.drop_succ_cons,List.drop_zero]
    repeat still_step
    refine wpStill_nil ?_
    gi_wp2_with fail
    have hOlt:w1.heap.size<W.drew.drew.heap.size:=by show w1.heap.size<W.heap.size;omega
    refine⟨?_,?_,⟨⟨?_,?_⟩,?_⟩,?_⟩
    · exact⟨by rw[setRow_size];exact Nat.le_refl _,fun j o hB hj hc=>(setRow_other _ _ _ _ (by omega)).trans hj⟩
    · exact⟨setRow_other _ _ _ _ (by omega),setRow_other _ _ _ _ (by omega)⟩
    · exact setRow_heap _ _ _ _ _ _ iO
    · exact(setRow_other _ _ _ _ (by omega)).trans iB
    · exact below_setRow iW.drew.drew (Nat.le_refl _) _
    · rw[setRow_size];exact iS
 case done=>
  rintro D xs W hD hS ⟨⟨⟨iO,iB⟩,iW⟩,iS⟩ hK
  have ob:=(cell_blk iB 0).1
  have HCV:(convert 173 9 (.slice (some ⟨w1.heap.size,0,none⟩) k k)).run Tryz.prog W=.ok (.string (strL (getM s.mm a k))) W:=by
   have h:=run_convert_bytes_arg (P:=Tryz.prog) W 173 5 Tryz.underlying173 Tryz.underlying5 w1.heap.size 0 k k ((List.range k).map fun i=>((s.mm (a+i)).toNat:Int)) (by simp) (fun i hi=>by
    rw[(cell_blk iO _).1,Nat.zero_add,outV_get s.mm xs i hi,hS i hi]
    simp[List.getD_eq_getElem?_getD,hi]) 9 Tryz.underlying9
   rw[h]
   congr 2
   simp[strOfNums,strL,getM,Function.comp_def]
  clear iO iB
  gi_wp2_with fail
  refine⟨by simp,.inl ⟨_,_,rfl,run_takeDeferred hK,?_⟩⟩
  refine⟨_,results_tmp2 rfl _ _ _,?_,((B1.trans (iW.mono B1.size)).trans ((belowK_b (w:=w1) (Nat.le_refl _) W D _ _ (by omega) hK rfl rfl).mono B1.size))⟩
  rw[HNU.out,if_pos rfl,Int.toNat_natCast,Int.toNat_natCast];rfl
 case stop=>
  rintro D c pre W _ _ h _
  exact h.elim
theorem bytes_no (h:ArX A s P ps p n cap w) (a k:Int) (ha:a≤9223372036854775807) (hn:thereE s.L s.es a k≠0):
 Calls Tryz.prog 51 #[.pointer (some ⟨A,0,none⟩),.int .i64 a,.int .i64 k] w (BytesPost s.mm s.L s.es a k w):=by
 have hb0:(thereE s.L s.es a k !=0)=true:=by rw[bne_iff_ne];exact hn
 have HC:=fun w (hw:ArX A s P ps p n cap w)=>there_any hw a k ha
 have HNE:=Lib.hid hn
 clear hn
 go_enter Tryz.func51,Tryz.ntmps51
 go_wp2_with fail
 refine(HC _ (h.below ((Below.refl w.heap.size w).alloc (Nat.le_refl _) _))).mono ?_
 rintro e w1 ⟨rfl,hb⟩
 have B1:Below w.heap.size w w1:=((Below.refl w.heap.size w).alloc (Nat.le_refl _) (.cells #[.pointer (some ⟨A,0,none⟩)] 25)).trans (hb.mono (by simp))
 clear h HC hb
 go_wp2_with fail
 go_ret2
 refine⟨?_,B1⟩
 rw[if_neg HNE.out];rfl
theorem bytes_any (h:ArX A s P ps p n cap w) (a k:Int) (ha:a≤9223372036854775807):
 Calls Tryz.prog 51 #[.pointer (some ⟨A,0,none⟩),.int .i64 a,.int .i64 k] w (BytesPost s.mm s.L s.es a k w):=by
 by_cases hn:thereE s.L s.es a k=0
 · have ht:thereB s.L s.es a k=true:=by
    unfold thereE at hn
    cases hq:thereB s.L s.es a k with
    |true=>rfl
    |false=>rw[hq]at hn;cases hn
   obtain⟨t0,t1,t2,t3⟩:=(there_iff h.good a k).1 ht
   obtain⟨an,rfl⟩:∃an:Nat,a=an:=⟨a.toNat,by omega⟩
   obtain⟨kn,rfl⟩:∃kn:Nat,k=kn:=⟨k.toNat,by omega⟩
   exact callsIn_wide.1 (bytes_yes h an kn hn)
 · exact bytes_no h a k ha hn
end
end Go.Proofs.YtpkaehpllldcmaaGreatDoor.Bt
end
