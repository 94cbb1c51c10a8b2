import Derived.Test.YtpkaehpllldcmaaGreatDoorMoA
import Derived.Test.YtpkaehpllldcmaaGreatDoorMoY
import Derived.Test.YtpkaehpllldcmaaGreatDoorMoZ
namespace Go.Proofs.YtpkaehpllldcmaaGreatDoor.Bt
open Go Go.RowKit Go.Shelf
set_option linter.unusedVariables false
set_option linter.unusedSimpArgs false
theorem drR_cases (L:List Lk) (id:Nat):drR L id=0∨drR L id=2∨drR L id=8∨drR L id=9∨drR L id=10:=by
 unfold drR;split<;>simp
theorem addE_cases (L:List Lk) (n:Nat) (e:Lk):addE L n e=0∨addE L n e=2∨addE L n e=8∨addE L n e=9∨addE L n e=10:=by
 unfold addE;split
 · simp
 · split
   · simp
   · split<;>simp
structure PlC (C A vs:Nat) (p:Option Addr) (cap:Nat) (L:List Lk) (m:Nat→UInt8) (w x:World):Prop where
 v:ClS C A vs m w x
 l:Ls m (vs/16) L
 d:DocE p cap L x
 u:Uq L
structure HfC (C A vs:Nat) (p:Option Addr) (cap:Nat) (L M:List Lk) (m:Nat→UInt8) (w x:World):Prop where
 v:ClS C A vs m w x
 l:Ls m (vs/16) M
 d:DocE p cap L x
 u:Uq L
section
variable {C A vs cap cap':Nat} {p p':Option Addr} {L M:List Lk} {m m':Nat→UInt8} {w x z:World}
theorem PlC.below (h:PlC C A vs p cap L m w x) (hb:Below x.heap.size x z):PlC C A vs p cap L m w z:=⟨h.v.below hb,h.l,h.d.below hb,h.u⟩
theorem PlC.len (h:PlC C A vs p cap L m w x) (hv:vs≤400):L.length≤25:=by have:=h.l.len;omega
theorem PlC.half (h:PlC C A vs p cap L m w x) (ho:On A (cS m') z) (hl:Ls m' (vs/16) M) (hg:Went A x z):HfC C A vs p cap L M m' w z:=⟨h.v.went ho hg,hl,h.d.went h.v.on hg,h.u⟩
theorem HfC.done (h:HfC C A vs p cap L M m w x) (hb:Below x.heap.size x z) (hd:DocE p' cap' M z) (hu:Uq M):PlC C A vs p' cap' M m w z:=⟨h.v.below hb,h.l,hd,hu⟩
end
theorem hclone {A:Nat} {s:ASt} {w:World} (h:On A s w):Calls Tryz.prog 18 #[.pointer (some ⟨A,0,none⟩)] w (ClonePost A s w):=by
 obtain⟨P,ps,p,n,cap,h⟩:=h;exact clone_any h
set_option maxHeartbeats 64000000 in
set_option maxRecDepth 100000 in
theorem rplays (size:Int) (hsz:0≤size∧size≤65535) (p0:Option Addr) (c0':Nat) (acts:List Act23) (hlen:acts.length≤9223372036854775807) (w:World) (h:Acts23At w p0 acts)
 (haw:Calls Tryz.prog 4 #[] w (Gives (.bool true) w)):
 Calls Tryz.prog 3 #[.int .u16 size,.slice p0 acts.length c0'] w fun e w'=>e=.returned (.bool true)∧Below w.heap.size w w':=by
 have HACT:=Lib.hid h
 have HAW:=Lib.hid haw
 obtain⟨sz,rfl⟩:=Int.eq_ofNat_of_zero_le hsz.1
 obtain⟨vs,hvs⟩:∃vs,sz%401=vs:=⟨_,rfl⟩
 have hv:vs≤400:=by rw[←hvs];have:=Nat.mod_lt sz (show 0<401 by omega);omega
 have q1:Int.tmod (sz:Int) 401=(vs:Int):=by rw[Int.tmod_eq_emod_of_nonneg (by omega),←hvs];rfl
 have q2:IntKind.i64.wrap (sz:Int)=(sz:Int):=by rw[IntKind.wrap_i64];omega
 have q3:IntKind.i64.wrap (vs:Int)=(vs:Int):=by rw[IntKind.wrap_i64];omega
 have q4:(sz:Int)%401=(vs:Int):=by rw[←hvs];rfl
 have HQ:=Lib.hid (And.intro q1 (And.intro q2 (And.intro q3 q4)))
 have HV:=Lib.hid hv
 have L1:Hid (lenN 1=1):=Lib.hid (by decide)
 have E1:Hid (commitE (newS 1) 0 1=0):=Lib.hid (by decide)
 have S1:Hid (commitS (newS 1) 0 1=fullS 1 (fun _=>0)):=Lib.hid (full_new 1 1 (by decide) (by decide) (by decide))
 have T1:Hid (∀m,thereE (cS m).L (cS m).es 40 vs=0):=Lib.hid (fun m=>cS_there (by omega) (by omega) (by omega))
 clear h q1 q2 q3 q4 hvs hv hsz haw
 go_enter Tryz.func3,Tryz.ntmps3
 go_wp2_with fail
 refine HAW.out.mono ?_
 rintro e w0 ⟨rfl,hb⟩
 have HB0:=Lib.hid hb
 have HAC0:=Lib.hid (HACT.out.below hb)
 clear hb HAW
 by_cases h60:(60:Int)<(acts.length:Int)
 · go_wp2_with fail
   go_ret
   exact⟨rfl,HB0.out⟩
 obtain⟨q1,q2,q3,q4⟩:=HQ.out
 go_wp2_with fail
 refine(on_new 1 _).mono ?_
 rintro e w1 ⟨A,rfl,hA,hx,hb,hm⟩
 rw[L1.out]at hx
 have HX1:=Lib.hid hx
 have HB1:=Lib.hid (show Base A w w1 from hb.rebase HB0.out)
 have HAC1:=Lib.hid (HAC0.out.below hb.bel)
 clear hx hb hA hm HAC0 q1 q2 q3 q4
 go_wp2_with fail
 refine(on_commit HX1.out 0 1 (by omega)).mono ?_
 rintro e w2 ⟨rfl,hx,hg⟩
 rw[E1.out];rw[S1.out]at hx
 have HX2:=Lib.hid hx
 have HB2:=Lib.hid (HB1.out.went hg)
 clear hx hg HX1 HB1 E1 S1 HAC1
 go_wp2_with fail
 refine(on_of HX2.out 40 vs (by omega)).mono ?_
 rintro e w3 ⟨rfl,hb⟩
 rw[T1.out,ofV_ok]
 have HX3:=Lib.hid (And.intro ((HX2.out.below hb).below (bel1 w3 (.cells (vwC A 40 vs) 30))) ((HB2.out.below HX2.out hb).below (HX2.out.below hb) (bel1 w3 (.cells (vwC A 40 vs) 30))))
 clear hb HX2 HB2
 go_wp2_with fail
 refine(copen (some ⟨A,0,none⟩) 40 vs _).mono ?_
 rintro e w4 ⟨rfl,hb⟩
 have HT0:=Lib.hid (ClS.start (vs:=vs) (HX3.out.1.below hb) (HX3.out.2.below HX3.out.1 hb))
 clear hb HX3
 go_upto_region 12 with fail
 change Code.wp _ _ _ _ (w4.alloc (.cells (vwC A 40 vs) 34))
 obtain⟨y,hy⟩:∃y,w4.alloc (.cells (vwC A 40 vs) 34)=y:=⟨_,rfl⟩
 obtain⟨C,hC⟩:∃C,w4.heap.size=C:=⟨_,rfl⟩
 rw[hy,hC]at HT0
 rw[hy,hC]
 clear hy hC
 obtain⟨d,hd⟩:∃d,vs/16=d:=⟨_,rfl⟩
 have HD:=Lib.hid hd
 have hd25:d≤25:=by have:=HV.out;omega
 have hv:=HV.out
 have HADD:=Lib.hid fun m L X (hX:On A (cS m) X) (hL:Ls m (vs/16) L) e (he:Lk.ok e)=>cAdd hX hv hL e he
 have HDR:=Lib.hid fun m L X (hX:On A (cS m) X) (hL:Ls m (vs/16) L) id=>cDrop hX hv hL id
 have HAL:=Lib.hid fun A2 m L X (hX:On A2 (cS m) X) (hL:Ls m (vs/16) L)=>call hX hv hL
 have HHS:=Lib.hid fun m L X (hX:On A (cS m) X) (hL:Ls m (vs/16) L) id=>chas hX hv hL id
 rw[hd]at HADD
 have HD25:=Lib.hid hd25
 have q5:(vs:Int)/16=(d:Int):=by omega
 have q6:(vs:Int).tdiv 16=(d:Int):=by rw[Int.tdiv_eq_ediv_of_nonneg (by omega)];omega
 have HQ5:=Lib.hid (And.intro q5 q6)
 clear hd hv hd25 q5 q6
 have HP0:Hid (∃m,PlC C A vs none 0 [] m w y):=Lib.hid ⟨_,HT0.out,Ls.new _,DocE.empty _,List.nodup_nil⟩
 obtain⟨len,hl⟩:∃len,acts.length=len:=⟨_,rfl⟩
 have HL:=Lib.hid hl
 have HL60:Hid (len≤60):=Lib.hid (by omega)
 rw[hl]
 clear hl hlen h60 HT0
 go_wp2_with fail
 go_loopw[11,45] (fun s11 s45 wr=>∃(j:Nat) (p:Option Addr) (cap:Nat) (L:List Lk),j≤len∧s11=.slice p L.length cap∧s45=.int .i64 (j:Int)∧Hid (∃m,PlC C A vs p cap L m w wr)) (fun _ s45 _=>len-(intOf s45).toNat)
 case atStart=>exact⟨0,none,0,[],Nat.zero_le _,rfl,rfl,HP0⟩
 case round=>
  clear HP0
  obtain⟨j,p,cap,L,hj,rfl,rfl,HPm⟩:=hrel
  obtain⟨m,hpm⟩:=HPm.out
  have HP:=Lib.hid hpm
  clear hpm HPm
  obtain⟨lq,hlq⟩:∃l,L.length=l:=⟨_,rfl⟩
  have HLQ:=Lib.hid hlq
  have HLB:Hid (L.length≤100):=Lib.hid (by have:=HP.out.len HV.out;omega)
  by_cases hjn:j<len
  · have hjn2:(j:Int)<(len:Int):=by omega
    have hj0:(0:Int)≤(j:Int):=by omega
    have hjL:j<acts.length:=by rw[HL.out];exact hjn
    have HJN:=Lib.hid (And.intro hjn HL60.out)
    rcases HACT.out.below HP.out.v.bs.bel with e|⟨b,off,rfl,hbl,hc⟩
    · rw[e]at hjL;simp at hjL
    obtain⟨⟨k0,k1,k2⟩,hok⟩:=hc j hjL
    obtain⟨a,ha⟩:∃a,acts[j]=a:=⟨_,rfl⟩
    rw[ha]at k0 k1 k2 hok
    have HOK:=Lib.hid hok
    have HA0:Hid (AcW wr.heap.size a (wr.alloc (.cells #[.bool a.o,.int .u64 (a.e.i:Int),.int .u64 (a.e.x:Int)] 41))∧PlC C A vs p cap L m w (wr.alloc (.cells #[.bool a.o,.int .u64 (a.e.i:Int),.int .u64 (a.e.x:Int)] 41))):=Lib.hid ⟨heap_new _ _,HP.out.below (bel1 _ _)⟩
    rw[hlq]
    clear hc hbl hjL ha hok hj hjn HP hlq
    go_upto_region 16 with fail
    change Code.wp _ _ _ _ (wr.alloc (.cells #[.bool a.o,.int .u64 (a.e.i:Int),.int .u64 (a.e.x:Int)] 41))
    obtain⟨y3,hy3⟩:∃y,wr.alloc (.cells #[.bool a.o,.int .u64 (a.e.i:Int),.int .u64 (a.e.x:Int)] 41)=y:=⟨_,rfl⟩
    obtain⟨D,hF⟩:∃D,wr.heap.size=D:=⟨_,rfl⟩
    rw[hy3,hF]at HA0
    rw[hy3,hF]
    clear hy3 hF k0 k1 k2
    have HAC1:=Lib.hid HA0.out.1
    have HP1:=Lib.hid HA0.out.2
    clear HA0
    obtain⟨ob,hob⟩:∃ob,a.o=ob:=⟨_,rfl⟩
    have HOB:=Lib.hid hob
    clear hob
    cases ob with
    |true=>
     have HU2:=Lib.hid (drL_uq HP1.out.u a.e.i)
     have HPC:=Lib.hid (HDR.out _ _ _ HP1.out.v.on HP1.out.l a.e.i)
     have HDC:=Lib.hid fun mz z1 (HH1:Hid (HfC C A vs p cap L (drL L a.e.i) mz w z1))=>dDrop23 (w:=z1) p cap a.e.i HH1.out.d HH1.out.u HLB.out
     have hwr:IntKind.i64.wrap (drR L a.e.i)=drR L a.e.i:=by rw[IntKind.wrap_i64];have:drR L a.e.i=0∨drR L a.e.i=2∨drR L a.e.i=8∨drR L a.e.i=9∨drR L a.e.i=10:=drR_cases _ _;omega
     obtain⟨r,hr⟩:∃r,drR L a.e.i=r:=⟨_,rfl⟩
     rw[hr]at HPC HDC hwr
     have HWR:=Lib.hid hwr
     clear hr hwr
     obtain⟨d0,d1,d2⟩:=HAC1.out.all
     rw[HOB.out]at d0
     obtain⟨c0,c1,c2⟩:=HP1.out.v.all
     go_wp2_with fail
     refine HPC.out.mono ?_
     rintro e x0 ⟨mm,rfl,ho,hl,hg⟩
     have HH0:=Lib.hid (HP1.out.half ho hl hg)
     have HAC2:=Lib.hid (HAC1.out.went HP1.out.v.on hg)
     have HDX:=Lib.hid (HDC.out _ _ HH0)
     rw[HLQ.out]at HDX
     clear ho hl hg HP1 HPC HAC1 HDC c0 c1 c2 d0 d1 d2
     obtain⟨d0,d1,d2⟩:=HAC2.out.all
     rw[HOB.out]at d0
     obtain⟨q5,q6⟩:=HQ5.out
     have hd25:=HD25.out
     have q7:wrap64 (d:Int)=(d:Int):=IntWalk.wrap64_in _ ⟨by omega,by omega⟩
     go_wp2_with fail
     refine HDX.out.mono ?_
     rintro e x1 ⟨p2,cap2,rfl,hde,hb⟩
     have HPE:=Lib.hid (HH0.out.done hb hde HU2.out)
     have HAC3:=Lib.hid (HAC2.out.below hb)
     clear hde hb HH0 HDX HAC2 d0 d1 d2 q5 q6 q7 hd25
     go_upto_region 22 with fail
     have HMB:Hid ((drL L a.e.i).length≤100):=Lib.hid (by have:=HPE.out.len HV.out;omega)
     obtain⟨lm,hlm⟩:∃l,(drL L a.e.i).length=l:=⟨_,rfl⟩
     have HLM:=Lib.hid hlm
     rw[hlm]
     clear hlm
     have hs0:=And.intro (HAC3.out.below (Below.refl _ _).drew) (HPE.out.below (Below.refl _ _).drew)
     clear HAC3 HPE
     obtain⟨bh,hbh⟩:∃bh,hasL (drL L a.e.i) a.e.i=bh:=⟨_,rfl⟩
     have HBH:=Lib.hid hbh
     have hbb:(bh !=bh)=false:=by cases bh<;>rfl
     have HBB:=Lib.hid hbb
     clear hbh hbb
     have hrr:((r:Int) !=r)=false:=by simp
     have HRR:=Lib.hid hrr
     clear hrr
     refine wp_region_held_drew (S:=fun X:World=>AcW D a X∧PlC C A vs p2 cap2 (drL L a.e.i) mm w X) (by kernel_rfl) hs0 (fun hHeld=>?_)
     clear hs0
     generalize x1.drew=x2 at*
     refine tk 0 (.int .i64 r) rfl hHeld (fun X hS=>by skip;go_simp) ?_
     refine tk 1 (.int .i64 r) rfl hHeld (fun X hS=>by skip;go_simp) ?_
     refine tk 2 (.bool false) rfl hHeld (fun X hS=>by have hrr:=HRR.out;go_simp) ?_
     refine tk 3 (.bool false) rfl hHeld (fun X hS=>by skip;go_simp) ?_
     refine tk 4 (vwV A 40 vs) rfl hHeld (fun X hS=>by obtain⟨s0,s1,s2⟩:=hS.2.v.all;go_simp) ?_
     refine tk 7 (.slice p2 lm cap2) rfl hHeld (fun X hS=>by skip;go_simp) ?_
     refine rd [5] (AllReadyH.cons rfl (fun K1 hK1=>?_) AllReadyH.nil)
     go_simp
     have HH:=Lib.hid hHeld
     clear hHeld
     refine(HAL.out A _ _ _ HH.out.2.v.on HH.out.2.l).mono ?_
     rintro e x3 ⟨p3,cap3,rfl,hcap,hrow,hb⟩
     have HRW:=Lib.hid hrow
     rw[HLM.out]
     clear hcap hrow
     have hn:=And.intro (HH.out.1.below hb) (HH.out.2.below hb)
     clear hb HH
     refine hK1.out _ _ hn (fun hHeld=>?_)
     clear hK1
     try simp only[Act.put,List.getElem_toArray,List.getElem_cons_zero,List.getElem_cons_succ,List.setIfInBounds_toArray,List.set_cons_zero,List.set_cons_succ]
     refine rd [6] (AllReadyH.cons rfl (fun K1 hK1=>?_) AllReadyH.nil)
     go_simp
     have HH:=Lib.hid hHeld
     clear hHeld
     have hof:=of23 (w:=_) p3 cap3 HMB.out HRW.out
     rw[HLM.out]at hof
     refine hof.mono ?_
     rintro e x4 ⟨p4,cap4,rfl,hde,hb⟩
     have HDE:=Lib.hid hde
     rw[HLM.out]
     clear hde hof HRW
     have hn:=And.intro (HH.out.1.below hb) (HH.out.2.below hb)
     clear hb HH
     refine hK1.out _ _ hn (fun hHeld=>?_)
     clear hK1
     try simp only[Act.put,List.getElem_toArray,List.getElem_cons_zero,List.getElem_cons_succ,List.setIfInBounds_toArray,List.set_cons_zero,List.set_cons_succ]
     refine rd [8] (AllReadyH.cons rfl (fun K1 hK1=>?_) AllReadyH.nil)
     go_simp
     have HH:=Lib.hid hHeld
     clear hHeld
     have heq:=requal23 (w:=_) p4 p2 cap4 cap2 HMB.out HDE.out HH.out.2.d
     rw[HLM.out]at heq
     refine heq.mono ?_
     rintro e x5 ⟨rfl,hb⟩
     clear heq HDE
     have hn:=And.intro (HH.out.1.below hb) (HH.out.2.below hb)
     clear hb HH
     refine hK1.out _ _ hn (fun hHeld=>?_)
     clear hK1
     try simp only[Act.put,List.getElem_toArray,List.getElem_cons_zero,List.getElem_cons_succ,List.setIfInBounds_toArray,List.set_cons_zero,List.set_cons_succ]
     refine tk 9 (.bool false) rfl hHeld (fun X hS=>by skip;go_simp) ?_
     refine tk 10 (.bool false) rfl hHeld (fun X hS=>by skip;go_simp) ?_
     refine tk 11 (.bool false) rfl hHeld (fun X hS=>by skip;go_simp) ?_
     refine tk 12 (vwV A 40 vs) rfl hHeld (fun X hS=>by obtain⟨s0,s1,s2⟩:=hS.2.v.all;go_simp) ?_
     refine tk 13 (.pointer (some ⟨D,1,none⟩)) rfl hHeld (fun X hS=>by skip;go_simp) ?_
     refine tk 14 (.pointer (some ⟨D,1,none⟩)) rfl hHeld (fun X hS=>by skip;go_simp) ?_
     refine tk 15 (.int .u64 (a.e.i:Int)) rfl hHeld (fun X hS=>by obtain⟨s0,s1,s2⟩:=hS.1.all;go_simp) ?_
     refine tk 17 (.slice p2 lm cap2) rfl hHeld (fun X hS=>by skip;go_simp) ?_
     refine tk 18 (.pointer (some ⟨D,1,none⟩)) rfl hHeld (fun X hS=>by skip;go_simp) ?_
     refine tk 19 (.pointer (some ⟨D,1,none⟩)) rfl hHeld (fun X hS=>by skip;go_simp) ?_
     refine tk 20 (.int .u64 (a.e.i:Int)) rfl hHeld (fun X hS=>by obtain⟨s0,s1,s2⟩:=hS.1.all;go_simp) ?_
     refine rd [16] (AllReadyH.cons rfl (fun K1 hK1=>?_) AllReadyH.nil)
     go_simp
     have HH:=Lib.hid hHeld
     clear hHeld
     have hhs:=HHS.out _ _ _ HH.out.2.v.on HH.out.2.l a.e.i
     rw[HBH.out]at hhs
     refine hhs.mono ?_
     rintro e x6 ⟨rfl,hb⟩
     clear hhs
     have hn:=And.intro (HH.out.1.below hb) (HH.out.2.below hb)
     clear hb HH
     refine hK1.out _ _ hn (fun hHeld=>?_)
     clear hK1
     try simp only[Act.put,List.getElem_toArray,List.getElem_cons_zero,List.getElem_cons_succ,List.setIfInBounds_toArray,List.set_cons_zero,List.set_cons_succ]
     refine rd [21] (AllReadyH.cons rfl (fun K1 hK1=>?_) AllReadyH.nil)
     go_simp
     have HH:=Lib.hid hHeld
     clear hHeld
     have hhs:=dhas23 (w:=_) p2 cap2 a.e.i HH.out.2.d HMB.out
     rw[HLM.out,HBH.out]at hhs
     refine hhs.mono ?_
     rintro e x7 ⟨rfl,hb⟩
     clear hhs
     have hn:=And.intro (HH.out.1.below hb) (HH.out.2.below hb)
     clear hb HH
     refine hK1.out _ _ hn (fun hHeld=>?_)
     clear hK1
     try simp only[Act.put,List.getElem_toArray,List.getElem_cons_zero,List.getElem_cons_succ,List.setIfInBounds_toArray,List.set_cons_zero,List.set_cons_succ]
     refine tk 22 (.bool false) rfl hHeld (fun X hS=>by have hbb:=HBB.out;go_simp) ?_
     refine tk 23 (.bool false) rfl hHeld (fun X hS=>by skip;go_simp) ?_
     refine wpAnyH_done (by kernel_rfl) ?_ _
     have HPZ:=Lib.hid hHeld
     clear hHeld
     have HPX:Hid (∃m,PlC C A vs p2 cap2 (drL L a.e.i) m w x7):=Lib.hid ⟨_,HPZ.out.2⟩
     clear HPZ
     obtain⟨hjn,hlen60⟩:=HJN.out
     have hj1:(j:Int)+1≤9223372036854775807:=by omega
     go_wp2_with fail
     go_roundw
     case rel=>exact⟨j+1,p2,cap2,drL L a.e.i,by omega,by rw[HLM.out],by go_num,HPX⟩
     case measure=>simp[intOf];omega
    |false=>
     have HU2:=Lib.hid (addL_uq (n:=d) (e:=a.e) HP1.out.u)
     have HPC:=Lib.hid (HADD.out _ _ _ HP1.out.v.on (by have:=HP1.out.l;rw[HD.out]at this;exact this) a.e HOK.out)
     have HDC:=Lib.hid fun mz z1 (HH1:Hid (HfC C A vs p cap L (addL L d a.e) mz w z1))=>dAdd23 (w:=z1) p cap d a.e HH1.out.d (by have:=HP1.out.l.len;rw[HD.out]at this;exact this) (by have:=HD25.out;omega)
     have hwr:IntKind.i64.wrap (addE L d a.e)=addE L d a.e:=by rw[IntKind.wrap_i64];have:addE L d a.e=0∨addE L d a.e=2∨addE L d a.e=8∨addE L d a.e=9∨addE L d a.e=10:=addE_cases _ _ _;omega
     obtain⟨r,hr⟩:∃r,addE L d a.e=r:=⟨_,rfl⟩
     rw[hr]at HPC HDC hwr
     have HWR:=Lib.hid hwr
     clear hr hwr
     obtain⟨d0,d1,d2⟩:=HAC1.out.all
     rw[HOB.out]at d0
     obtain⟨c0,c1,c2⟩:=HP1.out.v.all
     go_wp2_with fail
     refine HPC.out.mono ?_
     rintro e x0 ⟨mm,rfl,ho,hl,hg⟩
     have HH0:=Lib.hid (HP1.out.half ho hl hg)
     have HAC2:=Lib.hid (HAC1.out.went HP1.out.v.on hg)
     have HDX:=Lib.hid (HDC.out _ _ HH0)
     rw[HLQ.out]at HDX
     clear ho hl hg HP1 HPC HAC1 HDC c0 c1 c2 d0 d1 d2
     obtain⟨d0,d1,d2⟩:=HAC2.out.all
     rw[HOB.out]at d0
     obtain⟨q5,q6⟩:=HQ5.out
     have hd25:=HD25.out
     have q7:wrap64 (d:Int)=(d:Int):=IntWalk.wrap64_in _ ⟨by omega,by omega⟩
     go_wp2_with fail
     refine HDX.out.mono ?_
     rintro e x1 ⟨p2,cap2,rfl,hde,hb⟩
     have HPE:=Lib.hid (HH0.out.done hb hde HU2.out)
     have HAC3:=Lib.hid (HAC2.out.below hb)
     clear hde hb HH0 HDX HAC2 d0 d1 d2 q5 q6 q7 hd25
     go_upto_region 22 with fail
     have HMB:Hid ((addL L d a.e).length≤100):=Lib.hid (by have:=HPE.out.len HV.out;omega)
     obtain⟨lm,hlm⟩:∃l,(addL L d a.e).length=l:=⟨_,rfl⟩
     have HLM:=Lib.hid hlm
     rw[hlm]
     clear hlm
     have hs0:=And.intro (HAC3.out.below (Below.refl _ _).drew) (HPE.out.below (Below.refl _ _).drew)
     clear HAC3 HPE
     obtain⟨bh,hbh⟩:∃bh,hasL (addL L d a.e) a.e.i=bh:=⟨_,rfl⟩
     have HBH:=Lib.hid hbh
     have hbb:(bh !=bh)=false:=by cases bh<;>rfl
     have HBB:=Lib.hid hbb
     clear hbh hbb
     have hrr:((r:Int) !=r)=false:=by simp
     have HRR:=Lib.hid hrr
     clear hrr
     refine wp_region_held_drew (S:=fun X:World=>AcW D a X∧PlC C A vs p2 cap2 (addL L d a.e) mm w X) (by kernel_rfl) hs0 (fun hHeld=>?_)
     clear hs0
     generalize x1.drew=x2 at*
     refine tk 0 (.int .i64 r) rfl hHeld (fun X hS=>by skip;go_simp) ?_
     refine tk 1 (.int .i64 r) rfl hHeld (fun X hS=>by skip;go_simp) ?_
     refine tk 2 (.bool false) rfl hHeld (fun X hS=>by have hrr:=HRR.out;go_simp) ?_
     refine tk 3 (.bool false) rfl hHeld (fun X hS=>by skip;go_simp) ?_
     refine tk 4 (vwV A 40 vs) rfl hHeld (fun X hS=>by obtain⟨s0,s1,s2⟩:=hS.2.v.all;go_simp) ?_
     refine tk 7 (.slice p2 lm cap2) rfl hHeld (fun X hS=>by skip;go_simp) ?_
     refine rd [5] (AllReadyH.cons rfl (fun K1 hK1=>?_) AllReadyH.nil)
     go_simp
     have HH:=Lib.hid hHeld
     clear hHeld
     refine(HAL.out A _ _ _ HH.out.2.v.on HH.out.2.l).mono ?_
     rintro e x3 ⟨p3,cap3,rfl,hcap,hrow,hb⟩
     have HRW:=Lib.hid hrow
     rw[HLM.out]
     clear hcap hrow
     have hn:=And.intro (HH.out.1.below hb) (HH.out.2.below hb)
     clear hb HH
     refine hK1.out _ _ hn (fun hHeld=>?_)
     clear hK1
     try simp only[Act.put,List.getElem_toArray,List.getElem_cons_zero,List.getElem_cons_succ,List.setIfInBounds_toArray,List.set_cons_zero,List.set_cons_succ]
     refine rd [6] (AllReadyH.cons rfl (fun K1 hK1=>?_) AllReadyH.nil)
     go_simp
     have HH:=Lib.hid hHeld
     clear hHeld
     have hof:=of23 (w:=_) p3 cap3 HMB.out HRW.out
     rw[HLM.out]at hof
     refine hof.mono ?_
     rintro e x4 ⟨p4,cap4,rfl,hde,hb⟩
     have HDE:=Lib.hid hde
     rw[HLM.out]
     clear hde hof HRW
     have hn:=And.intro (HH.out.1.below hb) (HH.out.2.below hb)
     clear hb HH
     refine hK1.out _ _ hn (fun hHeld=>?_)
     clear hK1
     try simp only[Act.put,List.getElem_toArray,List.getElem_cons_zero,List.getElem_cons_succ,List.setIfInBounds_toArray,List.set_cons_zero,List.set_cons_succ]
     refine rd [8] (AllReadyH.cons rfl (fun K1 hK1=>?_) AllReadyH.nil)
     go_simp
     have HH:=Lib.hid hHeld
     clear hHeld
     have heq:=requal23 (w:=_) p4 p2 cap4 cap2 HMB.out HDE.out HH.out.2.d
     rw[HLM.out]at heq
     refine heq.mono ?_
     rintro e x5 ⟨rfl,hb⟩
     clear heq HDE
     have hn:=And.intro (HH.out.1.below hb) (HH.out.2.below hb)
     clear hb HH
     refine hK1.out _ _ hn (fun hHeld=>?_)
     clear hK1
     try simp only[Act.put,List.getElem_toArray,List.getElem_cons_zero,List.getElem_cons_succ,List.setIfInBounds_toArray,List.set_cons_zero,List.set_cons_succ]
     refine tk 9 (.bool false) rfl hHeld (fun X hS=>by skip;go_simp) ?_
     refine tk 10 (.bool false) rfl hHeld (fun X hS=>by skip;go_simp) ?_
     refine tk 11 (.bool false) rfl hHeld (fun X hS=>by skip;go_simp) ?_
     refine tk 12 (vwV A 40 vs) rfl hHeld (fun X hS=>by obtain⟨s0,s1,s2⟩:=hS.2.v.all;go_simp) ?_
     refine tk 13 (.pointer (some ⟨D,1,none⟩)) rfl hHeld (fun X hS=>by skip;go_simp) ?_
     refine tk 14 (.pointer (some ⟨D,1,none⟩)) rfl hHeld (fun X hS=>by skip;go_simp) ?_
     refine tk 15 (.int .u64 (a.e.i:Int)) rfl hHeld (fun X hS=>by obtain⟨s0,s1,s2⟩:=hS.1.all;go_simp) ?_
     refine tk 17 (.slice p2 lm cap2) rfl hHeld (fun X hS=>by skip;go_simp) ?_
     refine tk 18 (.pointer (some ⟨D,1,none⟩)) rfl hHeld (fun X hS=>by skip;go_simp) ?_
     refine tk 19 (.pointer (some ⟨D,1,none⟩)) rfl hHeld (fun X hS=>by skip;go_simp) ?_
     refine tk 20 (.int .u64 (a.e.i:Int)) rfl hHeld (fun X hS=>by obtain⟨s0,s1,s2⟩:=hS.1.all;go_simp) ?_
     refine rd [16] (AllReadyH.cons rfl (fun K1 hK1=>?_) AllReadyH.nil)
     go_simp
     have HH:=Lib.hid hHeld
     clear hHeld
     have hhs:=HHS.out _ _ _ HH.out.2.v.on HH.out.2.l a.e.i
     rw[HBH.out]at hhs
     refine hhs.mono ?_
     rintro e x6 ⟨rfl,hb⟩
     clear hhs
     have hn:=And.intro (HH.out.1.below hb) (HH.out.2.below hb)
     clear hb HH
     refine hK1.out _ _ hn (fun hHeld=>?_)
     clear hK1
     try simp only[Act.put,List.getElem_toArray,List.getElem_cons_zero,List.getElem_cons_succ,List.setIfInBounds_toArray,List.set_cons_zero,List.set_cons_succ]
     refine rd [21] (AllReadyH.cons rfl (fun K1 hK1=>?_) AllReadyH.nil)
     go_simp
     have HH:=Lib.hid hHeld
     clear hHeld
     have hhs:=dhas23 (w:=_) p2 cap2 a.e.i HH.out.2.d HMB.out
     rw[HLM.out,HBH.out]at hhs
     refine hhs.mono ?_
     rintro e x7 ⟨rfl,hb⟩
     clear hhs
     have hn:=And.intro (HH.out.1.below hb) (HH.out.2.below hb)
     clear hb HH
     refine hK1.out _ _ hn (fun hHeld=>?_)
     clear hK1
     try simp only[Act.put,List.getElem_toArray,List.getElem_cons_zero,List.getElem_cons_succ,List.setIfInBounds_toArray,List.set_cons_zero,List.set_cons_succ]
     refine tk 22 (.bool false) rfl hHeld (fun X hS=>by have hbb:=HBB.out;go_simp) ?_
     refine tk 23 (.bool false) rfl hHeld (fun X hS=>by skip;go_simp) ?_
     refine wpAnyH_done (by kernel_rfl) ?_ _
     have HPZ:=Lib.hid hHeld
     clear hHeld
     have HPX:Hid (∃m,PlC C A vs p2 cap2 (addL L d a.e) m w x7):=Lib.hid ⟨_,HPZ.out.2⟩
     clear HPZ
     obtain⟨hjn,hlen60⟩:=HJN.out
     have hj1:(j:Int)+1≤9223372036854775807:=by omega
     go_wp2_with fail
     go_roundw
     case rel=>exact⟨j+1,p2,cap2,addL L d a.e,by omega,by rw[HLM.out],by go_num,HPX⟩
     case measure=>simp[intOf];omega
  · have hjn2:¬(j:Int)<(len:Int):=by omega
    have HCL:=Lib.hid (hclone HP.out.v.on)
    rw[hlq]
    clear hlq
    go_wp2_with fail
    refine HCL.out.mono ?_
    rintro e x0 ⟨A2,rfl,ho,hb,hA2, -, -⟩
    have HP1:=Lib.hid (And.intro (HP.out.below hb) ho)
    clear ho hb hA2 HP HCL
    have HOF:=Lib.hid (on_of HP1.out.2 40 vs (by omega))
    rw[T1.out,ofV_ok]at HOF
    go_wp2_with fail
    refine HOF.out.mono ?_
    rintro e x1 ⟨rfl,hb⟩
    have HP2:=Lib.hid (And.intro ((HP1.out.1.below hb).below (bel1 x1 (.cells (vwC A2 40 vs) 30))) ((HP1.out.2.below hb).below (bel1 x1 (.cells (vwC A2 40 vs) 30))))
    clear hb HP1 HOF
    go_wp2_with fail
    refine(copen (some ⟨A2,0,none⟩) 40 vs _).mono ?_
    rintro e x2 ⟨rfl,hb⟩
    have HP3:=Lib.hid (And.intro (HP2.out.1.below hb) (HP2.out.2.below hb))
    clear hb HP2
    have HALM:=Lib.hid (HAL.out A2 _ _ _ HP3.out.2 HP3.out.1.l)
    go_wp2_with fail
    refine HALM.out.mono ?_
    rintro e x3 ⟨p3,cap3,rfl,hcap,hrow,hb⟩
    rw[HLQ.out]
    have HP4:=Lib.hid (HP3.out.1.below hb)
    have HOFF:=Lib.hid (of23 (w:=x3) p3 cap3 HLB.out hrow)
    rw[HLQ.out]at HOFF
    clear hb hcap hrow HP3 HALM
    go_wp2_with fail
    refine HOFF.out.mono ?_
    rintro e x4 ⟨p4,cap4,rfl,hde,hb⟩
    have HP5:=Lib.hid (HP4.out.below hb)
    have HEQ:=Lib.hid (requal23 (w:=x4) p4 p cap4 cap HLB.out hde HP5.out.d)
    rw[HLQ.out]at HEQ
    rw[HLQ.out]
    clear hb hde HP4 HOFF
    go_wp2_with fail
    refine HEQ.out.mono ?_
    rintro e x5 ⟨rfl,hb⟩
    have HBE:=Lib.hid (HP5.out.below hb).v.bs.bel
    clear hb HP5 HEQ
    go_wp2_with fail
    go_ret
    exact⟨rfl,HBE.out⟩
end Go.Proofs.YtpkaehpllldcmaaGreatDoor.Bt
