/- Bins of no view, or of one that is too small; the walk of BinsNone. (Written by gen_bng.py.) -/
import Derived.Test.YtoineackmpafdaaBnP
namespace Go.Proofs.Ytoineackmpafdaa.Bt
open Go Go.RowKit Go.Shelf
set_option linter.unusedVariables false
set_option linter.unusedSimpArgs false
section
variable {w : World}
/-- a view's Part that gives none -/
def NoPart (pa : Option Addr) (va vs : Nat) (er : Int) (w : World) : Prop :=
  ∀ X : World, Below w.heap.size w X → Calls Try.prog 51 #[.agg #[.pointer pa, .int .i64 (va : Int), .int .i64 (vs : Int)], .int .i64 0, .int .i64 40] X (Gives (.tuple #[.agg #[.pointer none, .int .i64 0, .int .i64 0], .int .i64 er]) X)
theorem NoPart.below {pa : Option Addr} {va vs : Nat} {er : Int} {x : World} (h : NoPart pa va vs er w) (hb : Below w.heap.size w x) : NoPart pa va vs er x := fun X hX => h X (hb.trans (hX.mono hb.size))
set_option maxHeartbeats 1000000 in
set_option maxRecDepth 100000 in
theorem bplace_gen (pa : Option Addr) (va vs k : Nat) (hk : k < 5) (er : Int) (her : (er != 0) = true) (HP : NoPart pa va vs er w) :
    Calls Try.prog 148 #[.agg #[.pointer pa, .int .i64 (va : Int), .int .i64 (vs : Int)], .int .i64 (k : Int)] w (Gives (.tuple #[.agg #[.pointer none, .int .i64 0, .int .i64 0], .int .i64 er]) w) := by
  have HI := Lib.hid (fun w => isbin_any (k : Int) w)
  rw [decide_eq_true (show 0 ≤ (k : Int) ∧ (k : Int) ≤ 4 by omega)] at HI
  have hB := below2 w (.cells #[.pointer pa, .int .i64 (va : Int), .int .i64 (vs : Int)] 26) (.cells #[.pointer none, .int .i64 0, .int .i64 0] 24)
  have HPP := Lib.hid (HP.below hB)
  have HB := Lib.hid hB
  have HP := Lib.hid (pairs_new w #[.pointer pa, .int .i64 (va : Int), .int .i64 (vs : Int)] #[.pointer none, .int .i64 0, .int .i64 0] 26 24)
  clear hB
  go_enter Try.func148, Try.ntmps148
  go_upto_region 1 with fail
  obtain ⟨x, hx⟩ : ∃ x, (w.alloc (.cells #[.pointer pa, .int .i64 (va : Int), .int .i64 (vs : Int)] 26)).alloc (.cells #[.pointer none, .int .i64 0, .int .i64 0] 24) = x := ⟨_, rfl⟩
  obtain ⟨B, hB⟩ : ∃ B, w.heap.size = B := ⟨_, rfl⟩
  have hBR := Lib.hid (show w.heap.size ≤ B + 1 by omega)
  rw [hx] at HPP HB HP
  rw [hB] at HP
  change Code.wp _ _ _ _ ((w.alloc (.cells #[.pointer pa, .int .i64 (va : Int), .int .i64 (vs : Int)] 26)).alloc (.cells #[.pointer none, .int .i64 0, .int .i64 0] 24))
  try simp only [World.size_alloc]
  rw [hx, hB]
  clear hx hB
  have HP1 : Hid (B3 26 B pa va vs x) := Lib.hid HP.out.1
  have HP2 : Hid (B3 24 (B + 1) none 0 0 x) := Lib.hid HP.out.2
  clear HP
  obtain ⟨⟨b0, b1, b2⟩, -, -, -⟩ := HP1.out.all
  go_wp2_with fail
  refine (HI.out _).mono ?_
  rintro e w1 ⟨rfl, rfl⟩
  go_wp2_with fail
  refine (HPP.out _ (Below.refl _ _)).mono ?_
  rintro e w2 ⟨rfl, hb⟩
  clear b0 b1 b2
  have HB2 := Lib.hid (HB.out.trans (hb.mono HB.out.size))
  have HR2 := Lib.hid (HP2.out.below hb)
  clear hb HB HP1 HP2
  go_upto_region 4 with fail
  have hb := bel1 w2 (.cells #[.pointer none, .int .i64 0, .int .i64 0] 24)
  have hby := HB2.out.trans (hb.mono HB2.out.size)
  have hry := HR2.out.below hb
  obtain ⟨y, hy⟩ : ∃ y, w2.alloc (.cells #[.pointer none, .int .i64 0, .int .i64 0] 24) = y := ⟨_, rfl⟩
  rw [hy] at hby hry
  change Code.wp _ _ _ _ (w2.alloc (.cells #[.pointer none, .int .i64 0, .int .i64 0] 24))
  rw [hy]
  have HB3 := Lib.hid hby; have HR3 := Lib.hid hry
  obtain ⟨⟨r0, r1, r2⟩, f0, f1, f2⟩ := hry.all
  clear hy hby hry hb HB2 HR2
  go_wp2_with fail
  obtain ⟨g0, g1, g2, hbf⟩ := b3_set HR3.out HB3.out hBR.out (.pointer none) (.int .i64 0) (.int .i64 0)
  exact bodyPost_ret (v := .tuple #[.agg #[.pointer none, .int .i64 0, .int .i64 0], .int .i64 er]) (by simp [results, Try.results148, go_sem, g0, g1, g2]) rfl ⟨rfl, hbf⟩
theorem bhead_no (pa : Option Addr) (va vs k : Nat) (hk : k < 5) (er : Int) (her : (er != 0) = true) (HP : NoPart pa va vs er w) :
    Calls Try.prog 85 #[.agg #[.pointer pa, .int .i64 (va : Int), .int .i64 (vs : Int)], .int .i64 (k : Int)] w (Gives (.tuple #[.int .i64 0, .int .i64 0]) w) :=
  bhead_gen pa va vs (k : Int) er her fun X hX => bplace_gen pa va vs k hk er her (HP.below hX)
theorem bleast_no (pa : Option Addr) (va vs : Nat) (er : Int) (her : (er != 0) = true) (HP : NoPart pa va vs er w) (o : Int) :
    Calls Try.prog 18 #[.agg #[.pointer pa, .int .i64 (va : Int), .int .i64 (vs : Int)], .int .i64 o] w (Gives (.tuple #[.int .i64 0, .bool false]) w) := by
  have := bleast_gen (w := w) pa va vs (fun _ => 0) (fun _ => 0) o fun X k hX hk => bhead_no pa va vs k hk er her (HP.below hX)
  rwa [lsV_none (fun j _ => by unfold lsP; simp)] at this
theorem bcount_no (pa : Option Addr) (va vs : Nat) (er : Int) (her : (er != 0) = true) (HP : NoPart pa va vs er w) :
    Calls Try.prog 22 #[.agg #[.pointer pa, .int .i64 (va : Int), .int .i64 (vs : Int)]] w (Gives (.int .i64 0) w) :=
  bcount_gen (w := w) pa va vs (fun _ => 0) (fun _ => 0) (fun _ => by omega) fun X k hX hk => bhead_no pa va vs k hk er her (HP.below hX)
theorem ball_no (pa : Option Addr) (va vs k : Nat) (hk : k < 5) (er : Int) (her : (er != 0) = true) (HP : NoPart pa va vs er w) :
    Calls Try.prog 21 #[.agg #[.pointer pa, .int .i64 (va : Int), .int .i64 (vs : Int)], .int .i64 (k : Int)] w (Gives (.slice none 0 0) w) :=
  ball_none pa va vs 0 (k : Int) fun X hX => bhead_no pa va vs k hk er her (HP.below hX)
set_option maxHeartbeats 1000000 in
set_option maxRecDepth 100000 in
theorem bpush_no (pa : Option Addr) (va vs : Nat) (at_ er : Int) (her : (er != 0) = true) (HP : NoPart pa va vs er w) :
    Calls Try.prog 20 #[.agg #[.pointer pa, .int .i64 (va : Int), .int .i64 (vs : Int)], .int .i64 at_] w (Gives (.int .i64 er) w) := by
  have hB := bel1 w (.cells #[.pointer pa, .int .i64 (va : Int), .int .i64 (vs : Int)] 26)
  have HPP := Lib.hid (HP _ hB)
  have HB := Lib.hid hB
  clear hB HP
  go_enter Try.func20, Try.ntmps20
  go_wp2_with fail
  refine HPP.out.mono ?_
  rintro e w2 ⟨rfl, hb⟩
  have HB2 := Lib.hid (HB.out.trans (hb.mono HB.out.size))
  clear hb HB HPP
  go_upto_region 2 with fail
  have hb := bel1 w2 (.cells #[.pointer none, .int .i64 0, .int .i64 0] 24)
  have hby := HB2.out.trans (hb.mono HB2.out.size)
  obtain ⟨y, hy⟩ : ∃ y, w2.alloc (.cells #[.pointer none, .int .i64 0, .int .i64 0] 24) = y := ⟨_, rfl⟩
  rw [hy] at hby
  change Code.wp _ _ _ _ (w2.alloc (.cells #[.pointer none, .int .i64 0, .int .i64 0] 24))
  rw [hy]
  have HB3 := Lib.hid hby
  clear hy hby hb HB2
  go_wp2_with fail
  go_ret
  exact ⟨rfl, HB3.out⟩
set_option maxHeartbeats 1000000 in
set_option maxRecDepth 100000 in
theorem bpop_gen (pa : Option Addr) (va vs : Nat) (n k : Int)
    (HH : ∀ (X : World), Below w.heap.size w X → Calls Try.prog 85 #[.agg #[.pointer pa, .int .i64 (va : Int), .int .i64 (vs : Int)], .int .i64 k] X (Gives (.tuple #[.int .i64 n, .int .i64 0]) X)) :
    Calls Try.prog 17 #[.agg #[.pointer pa, .int .i64 (va : Int), .int .i64 (vs : Int)], .int .i64 k] w (Gives (.tuple #[.agg #[.int .i64 0, .int .i64 0, .int .u64 0, .int .i64 0], .bool false]) w) := by
  have hB := below2 w (.cells #[.pointer pa, .int .i64 (va : Int), .int .i64 (vs : Int)] 26) (.cells (cC 0 0 0 0) 35)
  have hpr := (pairs_new w #[.pointer pa, .int .i64 (va : Int), .int .i64 (vs : Int)] (cC 0 0 0 0) 26 35).2
  have HHH := Lib.hid (HH _ hB)
  have HSZ : Hid (∀ a o u x, (Try.prog.info? 35).map (·.size) = some (cC a o u x).size) := Lib.hid (fun a o u x => Try.infoChk)
  have hpb := (pairs_new w #[.pointer pa, .int .i64 (va : Int), .int .i64 (vs : Int)] (cC 0 0 0 0) 26 35).1
  clear HH
  go_enter Try.func17, Try.ntmps17
  go_upto_region 1 with fail
  obtain ⟨x, hxx⟩ : ∃ x, (w.alloc (.cells #[.pointer pa, .int .i64 (va : Int), .int .i64 (vs : Int)] 26)).alloc (.cells (cC 0 0 0 0) 35) = x := ⟨_, rfl⟩
  obtain ⟨B, hBB⟩ : ∃ B, w.heap.size = B := ⟨_, rfl⟩
  have hBR := Lib.hid (show w.heap.size ≤ B + 1 by omega)
  rw [hxx] at hB hpr HHH hpb
  rw [hBB] at hpr hpb
  change Code.wp _ _ _ _ ((w.alloc (.cells #[.pointer pa, .int .i64 (va : Int), .int .i64 (vs : Int)] 26)).alloc (.cells (cC 0 0 0 0) 35))
  try simp only [World.size_alloc]
  rw [hxx, hBB]
  have HR : Hid (CB (B + 1) 0 0 0 0 x) := Lib.hid hpr
  have HB := Lib.hid hB
  have hb3 : B3 26 B pa va vs x := hpb
  obtain ⟨⟨b0, b1, b2⟩, -, -, -⟩ := hb3.all
  clear hxx hBB hpr hB hpb hb3
  go_wp2_with fail
  refine HHH.out.mono ?_
  rintro e w2 ⟨rfl, hb⟩
  have HR2 := Lib.hid (show CB (B + 1) 0 0 0 0 w2 from blk_at hb HR.out)
  have HB2 := Lib.hid (HB.out.trans (hb.mono HB.out.size))
  clear hb HB HR HHH b0 b1 b2
  go_wp2_with (first | (refine wpList_store_row rfl 35 (.tmp 4) (.tmp 20) rfl (B + 1) (cC 0 0 0 0) rfl rfl 35 (cC 0 0 0 0) HR2.out (HSZ.out _ _ _ _) rfl (cC_one _ _ _ _) ?_))
  have hl := run_loadVar_row (P := Try.prog) (w2.setRow (B + 1) (cC 0 0 0 0)) (B + 1) 35 35 (cC 0 0 0 0) (0, 0) _ (setRow_ad HR2.out _) Try.underlying35 rfl (HSZ.out _ _ _ _)
  exact bodyPost_ret (v := .tuple #[cV 0 0 0 0, .bool false]) (by simp [results, Try.results17, asAddr, hl, Act.put]; rfl) rfl ⟨rfl, below_setRow HB2.out hBR.out _⟩
theorem bpop_no (pa : Option Addr) (va vs k : Nat) (hk : k < 5) (er : Int) (her : (er != 0) = true) (HP : NoPart pa va vs er w) :
    Calls Try.prog 17 #[.agg #[.pointer pa, .int .i64 (va : Int), .int .i64 (vs : Int)], .int .i64 (k : Int)] w (Gives (.tuple #[.agg #[.int .i64 0, .int .i64 0, .int .u64 0, .int .i64 0], .bool false]) w) :=
  bpop_gen pa va vs 0 (k : Int) fun X hX => bhead_no pa va vs k hk er her (HP.below hX)
/-- of no view, and of one that is too small -/
theorem nopart_nil : NoPart none 0 0 1 w := fun X _ => vpart_nil 0 40 (by omega) X
theorem nopart_small {A : Nat} {s : ASt} (h : On A s w) (va vs : Nat) (h1 : va ≤ 4294967296) (h40 : vs < 40) : NoPart (some ⟨A, 0, none⟩) va vs 3 w := fun X hX => by
  have k := on_part (h.below hX) va vs h1 (by omega) 0 40 (by omega)
  have e : addrV va vs 0 40 = -1 := by unfold addrV; rw [if_neg (by omega)]
  have e3 : thereE s.L s.es (-1) 40 = 3 := by
    unfold thereE; rw [if_neg]
    intro hh
    have := ((there_iff h.good (-1) 40).1 hh).1; omega
  rw [e, e3] at k
  exact k
end
/-- the variables of the statement -/
def NoV (B C A : Nat) (X : World) : Prop :=
  X.cell? ⟨B, 0, none⟩ = some (.pointer none) ∧ X.cell? ⟨B, 1, none⟩ = some (.int .i64 0) ∧ X.cell? ⟨B, 2, none⟩ = some (.int .i64 0) ∧ X.cell? ⟨C, 0, none⟩ = some (.pointer (some ⟨A, 0, none⟩)) ∧ X.cell? ⟨C, 1, none⟩ = some (.int .i64 0) ∧ X.cell? ⟨C, 2, none⟩ = some (.int .i64 39) ∧
  B3 26 B none 0 0 X ∧ B3 26 C (some ⟨A, 0, none⟩) 0 39 X
theorem nov_mk {B C A : Nat} {X : World} (h : B3 26 B none 0 0 X) (k : B3 26 C (some ⟨A, 0, none⟩) 0 39 X) : NoV B C A X :=
  ⟨h.all.1.1, h.all.1.2.1, h.all.1.2.2, k.all.1.1, k.all.1.2.1, k.all.1.2.2, h, k⟩
theorem NoV.below {B C A : Nat} {X Y : World} (h : NoV B C A X) (hb : Below X.heap.size X Y) : NoV B C A Y := nov_mk (h.2.2.2.2.2.2.1.below hb) (h.2.2.2.2.2.2.2.below hb)
theorem new2_39 : thereE (fullS 2 fun _ => 0).L (fullS 2 fun _ => 0).es 0 39 = 0 := by
  show thereE 2 [0, 2] 0 39 = 0
  rw [thereE_full (by omega) (by omega), if_pos (by omega)]
set_option maxHeartbeats 4000000 in
set_option maxRecDepth 100000 in
theorem bnone_all (w : World) : Calls Try.prog 3 #[] w (Gives (.bool true) w) := by
  have L1 : Hid (lenN 2 = 2) := Lib.hid (by decide)
  have E1 : Hid (commitE (newS 2) 0 2 = 0) := Lib.hid (by decide)
  have S1 : Hid (commitS (newS 2) 0 2 = fullS 2 (fun _ => 0)) := Lib.hid (full_new 2 2 (by decide) (by decide) (by decide))
  have T1 := Lib.hid new2_39
  have HV : Hid (∀ pu a k, ofV pu a k 0 = .agg #[.pointer pu, .int .i64 a, .int .i64 k]) := Lib.hid fun pu a k => by unfold ofV; rw [if_pos rfl]
  go_enter Try.func3, Try.ntmps3
  go_wp2_with fail
  refine (bopenL none 0 0 _).mono ?_
  rintro e w1 ⟨rfl, hb⟩
  have HB1 := Lib.hid hb
  clear hb
  go_upto_region 2 with fail
  have hb := bel1 w1 (.cells #[.pointer none, .int .i64 0, .int .i64 0] 26)
  have hv := B3.new 26 none 0 0 w1
  have hB := HB1.out.trans (hb.mono HB1.out.size)
  obtain ⟨x, hx⟩ : ∃ x, w1.alloc (.cells #[.pointer none, .int .i64 0, .int .i64 0] 26) = x := ⟨_, rfl⟩
  obtain ⟨B, hBB⟩ : ∃ B, w1.heap.size = B := ⟨_, rfl⟩
  rw [hx] at hv hB
  rw [hBB] at hv
  change Code.wp _ _ _ _ (w1.alloc (.cells #[.pointer none, .int .i64 0, .int .i64 0] 26))
  rw [hx, hBB]
  have HBX := Lib.hid hB; have HVX := Lib.hid hv
  clear hx hBB hb hv hB HB1
  go_wp2_with fail
  refine (on_new 2 _).mono ?_
  rintro e w2 ⟨A, rfl, hA, hx, hb, hm⟩
  rw [L1.out] at hx
  have HX2 := Lib.hid hx
  have HB2 := Lib.hid (hb.rebase HBX.out)
  have HV2 := Lib.hid (HVX.out.below hb.bel)
  clear hx hb hA hm HBX HVX
  go_wp2_with fail
  refine (on_commit HX2.out 0 2 (by omega)).mono ?_
  rintro e w3 ⟨rfl, hx, hg⟩
  rw [E1.out]; rw [S1.out] at hx
  have HX3 := Lib.hid hx
  have HB3 := Lib.hid (HB2.out.went hg)
  have HV3 := Lib.hid (HV2.out.went HX2.out hg (by decide) (by decide) (by decide))
  clear hx hg HX2 HB2 HV2
  go_wp2_with fail
  refine (on_of HX3.out 0 39 (by omega)).mono ?_
  rintro e w4 ⟨rfl, hb⟩
  rw [T1.out, HV.out]
  have HX4 := Lib.hid (HX3.out.below hb)
  have HB4 := Lib.hid (HB3.out.below HX3.out hb)
  have HV4 := Lib.hid (HV3.out.below hb)
  clear hb HX3 HB3 HV3
  go_upto_region 5 with fail
  have hb := bel1 w4 (.cells #[.pointer (some ⟨A, 0, none⟩), .int .i64 0, .int .i64 39] 24)
  have hu := B3.new 24 (some ⟨A, 0, none⟩) 0 39 w4
  have hxo := HX4.out.below hb
  have hbo := HB4.out.below HX4.out hb
  have hvo := HV4.out.below hb
  obtain ⟨x, hx⟩ : ∃ x, w4.alloc (.cells #[.pointer (some ⟨A, 0, none⟩), .int .i64 0, .int .i64 39] 24) = x := ⟨_, rfl⟩
  obtain ⟨U, hUU⟩ : ∃ B, w4.heap.size = B := ⟨_, rfl⟩
  rw [hx] at hu hxo hbo hvo
  rw [hUU] at hu
  change Code.wp _ _ _ _ (w4.alloc (.cells #[.pointer (some ⟨A, 0, none⟩), .int .i64 0, .int .i64 39] 24))
  rw [hx, hUU]
  have HX5 := Lib.hid hxo; have HB5 := Lib.hid hbo; have HV5 := Lib.hid hvo
  obtain ⟨⟨u0, u1, u2⟩, -, -, -⟩ := hu.all
  clear hx hUU hb hu hxo hbo hvo HX4 HB4 HV4
  go_wp2_with fail
  refine (bopenL (some ⟨A, 0, none⟩) 0 39 _).mono ?_
  rintro e w6 ⟨rfl, hb⟩
  have HX6 := Lib.hid (HX5.out.below hb)
  have HB6 := Lib.hid (HB5.out.below HX5.out hb)
  have HV6 := Lib.hid (HV5.out.below hb)
  clear hb HX5 HB5 HV5 u0 u1 u2
  go_upto_region 6 with fail
  have hb := bel1 w6 (.cells #[.pointer (some ⟨A, 0, none⟩), .int .i64 0, .int .i64 39] 26)
  have hu := B3.new 26 (some ⟨A, 0, none⟩) 0 39 w6
  have hxo := HX6.out.below hb
  have hbo := (HB6.out.below HX6.out hb).bel
  have hvo := HV6.out.below hb
  obtain ⟨x, hx⟩ : ∃ x, w6.alloc (.cells #[.pointer (some ⟨A, 0, none⟩), .int .i64 0, .int .i64 39] 26) = x := ⟨_, rfl⟩
  obtain ⟨C, hCC⟩ : ∃ B, w6.heap.size = B := ⟨_, rfl⟩
  rw [hx] at hu hxo hbo hvo
  rw [hCC] at hu
  change Code.wp _ _ _ _ (w6.alloc (.cells #[.pointer (some ⟨A, 0, none⟩), .int .i64 0, .int .i64 39] 26))
  rw [hx, hCC]
  have HN := Lib.hid (nov_mk hvo hu)
  have HO := Lib.hid hxo; have HB := Lib.hid hbo
  obtain ⟨s1, s2, s3, s4, s5, s6, -, -⟩ := HN.out
  clear hx hCC hb hu hxo hbo hvo HX6 HB6 HV6
  go_wp2_with fail
  refine (bpop_no none 0 0 0 (by omega) 1 rfl nopart_nil).mono ?_
  rintro e w7 ⟨rfl, hb⟩
  have HN7 := Lib.hid (HN.out.below hb); have HO7 := Lib.hid (HO.out.below hb); have HB7 := Lib.hid (HB.out.trans (hb.mono HB.out.size))
  clear hb HN HO HB s1 s2 s3 s4 s5 s6
  go_upto_region 7 with fail
  have hb := bel1 w7 (.cells (cC 0 0 0 0) 35)
  have hn := HN7.out.below hb; have ho := HO7.out.below hb; have hb2 := HB7.out.trans (hb.mono HB7.out.size)
  obtain ⟨x, hx⟩ : ∃ x, w7.alloc (.cells (cC 0 0 0 0) 35) = x := ⟨_, rfl⟩
  rw [hx] at hn ho hb2
  change Code.wp _ _ _ _ (w7.alloc (.cells (cC 0 0 0 0) 35))
  rw [hx]
  have HN := Lib.hid hn; have HO := Lib.hid ho; have HB := Lib.hid hb2
  obtain ⟨s1, s2, s3, s4, s5, s6, -, -⟩ := HN.out
  clear hx hb hn ho hb2 HN7 HO7 HB7
  go_wp2_with fail
  refine (bpop_no (some ⟨A, 0, none⟩) 0 39 0 (by omega) 3 rfl (nopart_small HO.out 0 39 (by omega) (by omega))).mono ?_
  rintro e w8 ⟨rfl, hb⟩
  have HN7 := Lib.hid (HN.out.below hb); have HO7 := Lib.hid (HO.out.below hb); have HB7 := Lib.hid (HB.out.trans (hb.mono HB.out.size))
  clear hb HN HO HB s1 s2 s3 s4 s5 s6
  go_upto_region 8 with fail
  have hb := bel1 w8 (.cells (cC 0 0 0 0) 35)
  have hn := HN7.out.below hb; have ho := HO7.out.below hb; have hb2 := HB7.out.trans (hb.mono HB7.out.size)
  obtain ⟨x, hx⟩ : ∃ x, w8.alloc (.cells (cC 0 0 0 0) 35) = x := ⟨_, rfl⟩
  rw [hx] at hn ho hb2
  change Code.wp _ _ _ _ (w8.alloc (.cells (cC 0 0 0 0) 35))
  rw [hx]
  have HN := Lib.hid hn; have HO := Lib.hid ho; have HB := Lib.hid hb2
  obtain ⟨s1, s2, s3, s4, s5, s6, -, -⟩ := HN.out
  clear hx hb hn ho hb2 HN7 HO7 HB7
  go_wp2_with fail
  refine (bleast_no (some ⟨A, 0, none⟩) 0 39 3 rfl (nopart_small HO.out 0 39 (by omega) (by omega)) 0).mono ?_
  rintro e w9 ⟨rfl, hb⟩
  have HN7 := Lib.hid (HN.out.below hb); have HO7 := Lib.hid (HO.out.below hb); have HB7 := Lib.hid (HB.out.trans (hb.mono HB.out.size))
  clear hb HN HO HB s1 s2 s3 s4 s5 s6
  go_upto_region 9 with fail
  have hS0 : NoV B C A w9.drew := HN7.out.below (Below.refl _ _).drew
  have HO := Lib.hid (HO7.out.below (Below.refl w9.heap.size w9).drew)
  have HB := Lib.hid (HB7.out.trans ((Below.refl w9.heap.size w9).drew.mono HB7.out.size))
  clear HN7 HO7 HB7
  refine wp_region_held_drew (S := NoV B C A) (by kernel_rfl) hS0 (fun hHeld => ?_)
  clear hS0
  refine wpAnyH_ready (rs := [0]) (by kernel_rfl) (by simp) (AllReadyH.cons rfl (fun K1 hK1 => ?_) AllReadyH.nil)
  go_simp
  refine (awake11_calls _).mono ?_
  rintro e x1 ⟨rfl, hb1⟩
  have hS1 := hHeld.below hb1
  have HO2 := Lib.hid (HO.out.below hb1); have HB2 := Lib.hid (HB.out.trans (hb1.mono HB.out.size))
  clear hb1 hHeld HO HB
  refine hK1.out _ _ hS1 (fun hHeld => ?_)
  clear hK1 hS1
  have HO := HO2; have HB := HB2
  clear HO2 HB2
  try simp only [Act.put, List.getElem_toArray, List.getElem_cons_zero, List.getElem_cons_succ, List.setIfInBounds_toArray, List.set_cons_zero, List.set_cons_succ]
  refine wpAnyH_take (i := 1) (v := (.bool true)) rfl (by kernel_rfl) (by kernel_rfl) (by kernel_rfl) (fun _ _ _ h => h) (Or.inl ⟨by rfl, fun X hS => ?_⟩) hHeld ?_
  · obtain ⟨s1, s2, s3, s4, s5, s6, _, _⟩ := hS
    go_simp
  try simp only [Act.put, List.getElem_toArray, List.getElem_cons_zero, List.getElem_cons_succ, List.setIfInBounds_toArray, List.set_cons_zero, List.set_cons_succ]
  refine wpAnyH_take (i := 2) (v := (.int .i64 0)) rfl (by kernel_rfl) (by kernel_rfl) (by kernel_rfl) (fun _ _ _ h => h) (Or.inl ⟨by rfl, fun X hS => ?_⟩) hHeld ?_
  · obtain ⟨s1, s2, s3, s4, s5, s6, _, _⟩ := hS
    go_simp
  try simp only [Act.put, List.getElem_toArray, List.getElem_cons_zero, List.getElem_cons_succ, List.setIfInBounds_toArray, List.set_cons_zero, List.set_cons_succ]
  refine wpAnyH_take (i := 3) (v := (.bool true)) rfl (by kernel_rfl) (by kernel_rfl) (by kernel_rfl) (fun _ _ _ h => h) (Or.inl ⟨by rfl, fun X hS => ?_⟩) hHeld ?_
  · obtain ⟨s1, s2, s3, s4, s5, s6, _, _⟩ := hS
    go_simp
  try simp only [Act.put, List.getElem_toArray, List.getElem_cons_zero, List.getElem_cons_succ, List.setIfInBounds_toArray, List.set_cons_zero, List.set_cons_succ]
  refine wpAnyH_take (i := 4) (v := (.bool true)) rfl (by kernel_rfl) (by kernel_rfl) (by kernel_rfl) (fun _ _ _ h => h) (Or.inl ⟨by rfl, fun X hS => ?_⟩) hHeld ?_
  · obtain ⟨s1, s2, s3, s4, s5, s6, _, _⟩ := hS
    go_simp
  try simp only [Act.put, List.getElem_toArray, List.getElem_cons_zero, List.getElem_cons_succ, List.setIfInBounds_toArray, List.set_cons_zero, List.set_cons_succ]
  refine wpAnyH_take (i := 5) (v := (.bool true)) rfl (by kernel_rfl) (by kernel_rfl) (by kernel_rfl) (fun _ _ _ h => h) (Or.inl ⟨by rfl, fun X hS => ?_⟩) hHeld ?_
  · obtain ⟨s1, s2, s3, s4, s5, s6, _, _⟩ := hS
    go_simp
  try simp only [Act.put, List.getElem_toArray, List.getElem_cons_zero, List.getElem_cons_succ, List.setIfInBounds_toArray, List.set_cons_zero, List.set_cons_succ]
  refine wpAnyH_take (i := 6) (v := (.int .i64 0)) rfl (by kernel_rfl) (by kernel_rfl) (by kernel_rfl) (fun _ _ _ h => h) (Or.inl ⟨by rfl, fun X hS => ?_⟩) hHeld ?_
  · obtain ⟨s1, s2, s3, s4, s5, s6, _, _⟩ := hS
    go_simp
  try simp only [Act.put, List.getElem_toArray, List.getElem_cons_zero, List.getElem_cons_succ, List.setIfInBounds_toArray, List.set_cons_zero, List.set_cons_succ]
  refine wpAnyH_take (i := 7) (v := (.bool true)) rfl (by kernel_rfl) (by kernel_rfl) (by kernel_rfl) (fun _ _ _ h => h) (Or.inl ⟨by rfl, fun X hS => ?_⟩) hHeld ?_
  · obtain ⟨s1, s2, s3, s4, s5, s6, _, _⟩ := hS
    go_simp
  try simp only [Act.put, List.getElem_toArray, List.getElem_cons_zero, List.getElem_cons_succ, List.setIfInBounds_toArray, List.set_cons_zero, List.set_cons_succ]
  refine wpAnyH_take (i := 8) (v := (.bool true)) rfl (by kernel_rfl) (by kernel_rfl) (by kernel_rfl) (fun _ _ _ h => h) (Or.inl ⟨by rfl, fun X hS => ?_⟩) hHeld ?_
  · obtain ⟨s1, s2, s3, s4, s5, s6, _, _⟩ := hS
    go_simp
  try simp only [Act.put, List.getElem_toArray, List.getElem_cons_zero, List.getElem_cons_succ, List.setIfInBounds_toArray, List.set_cons_zero, List.set_cons_succ]
  refine wpAnyH_take (i := 9) (v := (.bool true)) rfl (by kernel_rfl) (by kernel_rfl) (by kernel_rfl) (fun _ _ _ h => h) (Or.inl ⟨by rfl, fun X hS => ?_⟩) hHeld ?_
  · obtain ⟨s1, s2, s3, s4, s5, s6, _, _⟩ := hS
    go_simp
  try simp only [Act.put, List.getElem_toArray, List.getElem_cons_zero, List.getElem_cons_succ, List.setIfInBounds_toArray, List.set_cons_zero, List.set_cons_succ]
  refine wpAnyH_take (i := 10) (v := (.agg #[.pointer none, .int .i64 0, .int .i64 0])) rfl (by kernel_rfl) (by kernel_rfl) (by kernel_rfl) (fun _ _ _ h => h) (Or.inl ⟨by rfl, fun X hS => ?_⟩) hHeld ?_
  · obtain ⟨s1, s2, s3, s4, s5, s6, _, _⟩ := hS
    go_simp
  try simp only [Act.put, List.getElem_toArray, List.getElem_cons_zero, List.getElem_cons_succ, List.setIfInBounds_toArray, List.set_cons_zero, List.set_cons_succ]
  refine wpAnyH_ready (rs := [11]) (by kernel_rfl) (by simp) (AllReadyH.cons rfl (fun K1 hK1 => ?_) AllReadyH.nil)
  go_simp
  refine (bpush_no none 0 0 0 1 rfl nopart_nil).mono ?_
  rintro e x1 ⟨rfl, hb1⟩
  have hS1 := hHeld.below hb1
  have HO2 := Lib.hid (HO.out.below hb1); have HB2 := Lib.hid (HB.out.trans (hb1.mono HB.out.size))
  clear hb1 hHeld HO HB
  refine hK1.out _ _ hS1 (fun hHeld => ?_)
  clear hK1 hS1
  have HO := HO2; have HB := HB2
  clear HO2 HB2
  try simp only [Act.put, List.getElem_toArray, List.getElem_cons_zero, List.getElem_cons_succ, List.setIfInBounds_toArray, List.set_cons_zero, List.set_cons_succ]
  refine wpAnyH_take (i := 12) (v := (.bool true)) rfl (by kernel_rfl) (by kernel_rfl) (by kernel_rfl) (fun _ _ _ h => h) (Or.inl ⟨by rfl, fun X hS => ?_⟩) hHeld ?_
  · obtain ⟨s1, s2, s3, s4, s5, s6, _, _⟩ := hS
    go_simp
  try simp only [Act.put, List.getElem_toArray, List.getElem_cons_zero, List.getElem_cons_succ, List.setIfInBounds_toArray, List.set_cons_zero, List.set_cons_succ]
  refine wpAnyH_take (i := 13) (v := (.bool true)) rfl (by kernel_rfl) (by kernel_rfl) (by kernel_rfl) (fun _ _ _ h => h) (Or.inl ⟨by rfl, fun X hS => ?_⟩) hHeld ?_
  · obtain ⟨s1, s2, s3, s4, s5, s6, _, _⟩ := hS
    go_simp
  try simp only [Act.put, List.getElem_toArray, List.getElem_cons_zero, List.getElem_cons_succ, List.setIfInBounds_toArray, List.set_cons_zero, List.set_cons_succ]
  refine wpAnyH_take (i := 14) (v := (.bool true)) rfl (by kernel_rfl) (by kernel_rfl) (by kernel_rfl) (fun _ _ _ h => h) (Or.inl ⟨by rfl, fun X hS => ?_⟩) hHeld ?_
  · obtain ⟨s1, s2, s3, s4, s5, s6, _, _⟩ := hS
    go_simp
  try simp only [Act.put, List.getElem_toArray, List.getElem_cons_zero, List.getElem_cons_succ, List.setIfInBounds_toArray, List.set_cons_zero, List.set_cons_succ]
  refine wpAnyH_take (i := 15) (v := (.agg #[.pointer (some ⟨A, 0, none⟩), .int .i64 0, .int .i64 39])) rfl (by kernel_rfl) (by kernel_rfl) (by kernel_rfl) (fun _ _ _ h => h) (Or.inl ⟨by rfl, fun X hS => ?_⟩) hHeld ?_
  · obtain ⟨s1, s2, s3, s4, s5, s6, _, _⟩ := hS
    go_simp
  try simp only [Act.put, List.getElem_toArray, List.getElem_cons_zero, List.getElem_cons_succ, List.setIfInBounds_toArray, List.set_cons_zero, List.set_cons_succ]
  refine wpAnyH_ready (rs := [16]) (by kernel_rfl) (by simp) (AllReadyH.cons rfl (fun K1 hK1 => ?_) AllReadyH.nil)
  go_simp
  refine (bpush_no (some ⟨A, 0, none⟩) 0 39 0 3 rfl (nopart_small HO.out 0 39 (by omega) (by omega))).mono ?_
  rintro e x1 ⟨rfl, hb1⟩
  have hS1 := hHeld.below hb1
  have HO2 := Lib.hid (HO.out.below hb1); have HB2 := Lib.hid (HB.out.trans (hb1.mono HB.out.size))
  clear hb1 hHeld HO HB
  refine hK1.out _ _ hS1 (fun hHeld => ?_)
  clear hK1 hS1
  have HO := HO2; have HB := HB2
  clear HO2 HB2
  try simp only [Act.put, List.getElem_toArray, List.getElem_cons_zero, List.getElem_cons_succ, List.setIfInBounds_toArray, List.set_cons_zero, List.set_cons_succ]
  refine wpAnyH_take (i := 17) (v := (.bool true)) rfl (by kernel_rfl) (by kernel_rfl) (by kernel_rfl) (fun _ _ _ h => h) (Or.inl ⟨by rfl, fun X hS => ?_⟩) hHeld ?_
  · obtain ⟨s1, s2, s3, s4, s5, s6, _, _⟩ := hS
    go_simp
  try simp only [Act.put, List.getElem_toArray, List.getElem_cons_zero, List.getElem_cons_succ, List.setIfInBounds_toArray, List.set_cons_zero, List.set_cons_succ]
  refine wpAnyH_take (i := 18) (v := (.bool true)) rfl (by kernel_rfl) (by kernel_rfl) (by kernel_rfl) (fun _ _ _ h => h) (Or.inl ⟨by rfl, fun X hS => ?_⟩) hHeld ?_
  · obtain ⟨s1, s2, s3, s4, s5, s6, _, _⟩ := hS
    go_simp
  try simp only [Act.put, List.getElem_toArray, List.getElem_cons_zero, List.getElem_cons_succ, List.setIfInBounds_toArray, List.set_cons_zero, List.set_cons_succ]
  refine wpAnyH_take (i := 19) (v := (.bool true)) rfl (by kernel_rfl) (by kernel_rfl) (by kernel_rfl) (fun _ _ _ h => h) (Or.inl ⟨by rfl, fun X hS => ?_⟩) hHeld ?_
  · obtain ⟨s1, s2, s3, s4, s5, s6, _, _⟩ := hS
    go_simp
  try simp only [Act.put, List.getElem_toArray, List.getElem_cons_zero, List.getElem_cons_succ, List.setIfInBounds_toArray, List.set_cons_zero, List.set_cons_succ]
  refine wpAnyH_take (i := 20) (v := (.bool false)) rfl (by kernel_rfl) (by kernel_rfl) (by kernel_rfl) (fun _ _ _ h => h) (Or.inl ⟨by rfl, fun X hS => ?_⟩) hHeld ?_
  · obtain ⟨s1, s2, s3, s4, s5, s6, _, _⟩ := hS
    go_simp
  try simp only [Act.put, List.getElem_toArray, List.getElem_cons_zero, List.getElem_cons_succ, List.setIfInBounds_toArray, List.set_cons_zero, List.set_cons_succ]
  refine wpAnyH_take (i := 21) (v := (.bool true)) rfl (by kernel_rfl) (by kernel_rfl) (by kernel_rfl) (fun _ _ _ h => h) (Or.inl ⟨by rfl, fun X hS => ?_⟩) hHeld ?_
  · obtain ⟨s1, s2, s3, s4, s5, s6, _, _⟩ := hS
    go_simp
  try simp only [Act.put, List.getElem_toArray, List.getElem_cons_zero, List.getElem_cons_succ, List.setIfInBounds_toArray, List.set_cons_zero, List.set_cons_succ]
  refine wpAnyH_take (i := 22) (v := (.bool true)) rfl (by kernel_rfl) (by kernel_rfl) (by kernel_rfl) (fun _ _ _ h => h) (Or.inl ⟨by rfl, fun X hS => ?_⟩) hHeld ?_
  · obtain ⟨s1, s2, s3, s4, s5, s6, _, _⟩ := hS
    go_simp
  try simp only [Act.put, List.getElem_toArray, List.getElem_cons_zero, List.getElem_cons_succ, List.setIfInBounds_toArray, List.set_cons_zero, List.set_cons_succ]
  refine wpAnyH_take (i := 23) (v := (.bool true)) rfl (by kernel_rfl) (by kernel_rfl) (by kernel_rfl) (fun _ _ _ h => h) (Or.inl ⟨by rfl, fun X hS => ?_⟩) hHeld ?_
  · obtain ⟨s1, s2, s3, s4, s5, s6, _, _⟩ := hS
    go_simp
  try simp only [Act.put, List.getElem_toArray, List.getElem_cons_zero, List.getElem_cons_succ, List.setIfInBounds_toArray, List.set_cons_zero, List.set_cons_succ]
  refine wpAnyH_take (i := 24) (v := (.bool false)) rfl (by kernel_rfl) (by kernel_rfl) (by kernel_rfl) (fun _ _ _ h => h) (Or.inl ⟨by rfl, fun X hS => ?_⟩) hHeld ?_
  · obtain ⟨s1, s2, s3, s4, s5, s6, _, _⟩ := hS
    go_simp
  try simp only [Act.put, List.getElem_toArray, List.getElem_cons_zero, List.getElem_cons_succ, List.setIfInBounds_toArray, List.set_cons_zero, List.set_cons_succ]
  refine wpAnyH_take (i := 25) (v := (.bool true)) rfl (by kernel_rfl) (by kernel_rfl) (by kernel_rfl) (fun _ _ _ h => h) (Or.inl ⟨by rfl, fun X hS => ?_⟩) hHeld ?_
  · obtain ⟨s1, s2, s3, s4, s5, s6, _, _⟩ := hS
    go_simp
  try simp only [Act.put, List.getElem_toArray, List.getElem_cons_zero, List.getElem_cons_succ, List.setIfInBounds_toArray, List.set_cons_zero, List.set_cons_succ]
  refine wpAnyH_take (i := 26) (v := (.bool true)) rfl (by kernel_rfl) (by kernel_rfl) (by kernel_rfl) (fun _ _ _ h => h) (Or.inl ⟨by rfl, fun X hS => ?_⟩) hHeld ?_
  · obtain ⟨s1, s2, s3, s4, s5, s6, _, _⟩ := hS
    go_simp
  try simp only [Act.put, List.getElem_toArray, List.getElem_cons_zero, List.getElem_cons_succ, List.setIfInBounds_toArray, List.set_cons_zero, List.set_cons_succ]
  refine wpAnyH_take (i := 27) (v := (.bool true)) rfl (by kernel_rfl) (by kernel_rfl) (by kernel_rfl) (fun _ _ _ h => h) (Or.inl ⟨by rfl, fun X hS => ?_⟩) hHeld ?_
  · obtain ⟨s1, s2, s3, s4, s5, s6, _, _⟩ := hS
    go_simp
  try simp only [Act.put, List.getElem_toArray, List.getElem_cons_zero, List.getElem_cons_succ, List.setIfInBounds_toArray, List.set_cons_zero, List.set_cons_succ]
  refine wpAnyH_take (i := 28) (v := (.bool false)) rfl (by kernel_rfl) (by kernel_rfl) (by kernel_rfl) (fun _ _ _ h => h) (Or.inl ⟨by rfl, fun X hS => ?_⟩) hHeld ?_
  · obtain ⟨s1, s2, s3, s4, s5, s6, _, _⟩ := hS
    go_simp
  try simp only [Act.put, List.getElem_toArray, List.getElem_cons_zero, List.getElem_cons_succ, List.setIfInBounds_toArray, List.set_cons_zero, List.set_cons_succ]
  refine wpAnyH_take (i := 29) (v := (.bool true)) rfl (by kernel_rfl) (by kernel_rfl) (by kernel_rfl) (fun _ _ _ h => h) (Or.inl ⟨by rfl, fun X hS => ?_⟩) hHeld ?_
  · obtain ⟨s1, s2, s3, s4, s5, s6, _, _⟩ := hS
    go_simp
  try simp only [Act.put, List.getElem_toArray, List.getElem_cons_zero, List.getElem_cons_succ, List.setIfInBounds_toArray, List.set_cons_zero, List.set_cons_succ]
  refine wpAnyH_take (i := 30) (v := (.bool true)) rfl (by kernel_rfl) (by kernel_rfl) (by kernel_rfl) (fun _ _ _ h => h) (Or.inl ⟨by rfl, fun X hS => ?_⟩) hHeld ?_
  · obtain ⟨s1, s2, s3, s4, s5, s6, _, _⟩ := hS
    go_simp
  try simp only [Act.put, List.getElem_toArray, List.getElem_cons_zero, List.getElem_cons_succ, List.setIfInBounds_toArray, List.set_cons_zero, List.set_cons_succ]
  refine wpAnyH_take (i := 31) (v := (.bool true)) rfl (by kernel_rfl) (by kernel_rfl) (by kernel_rfl) (fun _ _ _ h => h) (Or.inl ⟨by rfl, fun X hS => ?_⟩) hHeld ?_
  · obtain ⟨s1, s2, s3, s4, s5, s6, _, _⟩ := hS
    go_simp
  try simp only [Act.put, List.getElem_toArray, List.getElem_cons_zero, List.getElem_cons_succ, List.setIfInBounds_toArray, List.set_cons_zero, List.set_cons_succ]
  refine wpAnyH_take (i := 32) (v := (.agg #[.pointer none, .int .i64 0, .int .i64 0])) rfl (by kernel_rfl) (by kernel_rfl) (by kernel_rfl) (fun _ _ _ h => h) (Or.inl ⟨by rfl, fun X hS => ?_⟩) hHeld ?_
  · obtain ⟨s1, s2, s3, s4, s5, s6, _, _⟩ := hS
    go_simp
  try simp only [Act.put, List.getElem_toArray, List.getElem_cons_zero, List.getElem_cons_succ, List.setIfInBounds_toArray, List.set_cons_zero, List.set_cons_succ]
  refine wpAnyH_take (i := 35) (v := (.agg #[.pointer (some ⟨A, 0, none⟩), .int .i64 0, .int .i64 39])) rfl (by kernel_rfl) (by kernel_rfl) (by kernel_rfl) (fun _ _ _ h => h) (Or.inl ⟨by rfl, fun X hS => ?_⟩) hHeld ?_
  · obtain ⟨s1, s2, s3, s4, s5, s6, _, _⟩ := hS
    go_simp
  try simp only [Act.put, List.getElem_toArray, List.getElem_cons_zero, List.getElem_cons_succ, List.setIfInBounds_toArray, List.set_cons_zero, List.set_cons_succ]
  refine wpAnyH_take (i := 39) (v := (.agg #[.pointer none, .int .i64 0, .int .i64 0])) rfl (by kernel_rfl) (by kernel_rfl) (by kernel_rfl) (fun _ _ _ h => h) (Or.inl ⟨by rfl, fun X hS => ?_⟩) hHeld ?_
  · obtain ⟨s1, s2, s3, s4, s5, s6, _, _⟩ := hS
    go_simp
  try simp only [Act.put, List.getElem_toArray, List.getElem_cons_zero, List.getElem_cons_succ, List.setIfInBounds_toArray, List.set_cons_zero, List.set_cons_succ]
  refine wpAnyH_take (i := 42) (v := (.agg #[.pointer (some ⟨A, 0, none⟩), .int .i64 0, .int .i64 39])) rfl (by kernel_rfl) (by kernel_rfl) (by kernel_rfl) (fun _ _ _ h => h) (Or.inl ⟨by rfl, fun X hS => ?_⟩) hHeld ?_
  · obtain ⟨s1, s2, s3, s4, s5, s6, _, _⟩ := hS
    go_simp
  try simp only [Act.put, List.getElem_toArray, List.getElem_cons_zero, List.getElem_cons_succ, List.setIfInBounds_toArray, List.set_cons_zero, List.set_cons_succ]
  refine wpAnyH_ready (rs := [33]) (by kernel_rfl) (by simp) (AllReadyH.cons rfl (fun K1 hK1 => ?_) AllReadyH.nil)
  go_simp
  refine (ball_no none 0 0 0 (by omega) 1 rfl nopart_nil).mono ?_
  rintro e x1 ⟨rfl, hb1⟩
  have hS1 := hHeld.below hb1
  have HO2 := Lib.hid (HO.out.below hb1); have HB2 := Lib.hid (HB.out.trans (hb1.mono HB.out.size))
  clear hb1 hHeld HO HB
  refine hK1.out _ _ hS1 (fun hHeld => ?_)
  clear hK1 hS1
  have HO := HO2; have HB := HB2
  clear HO2 HB2
  try simp only [Act.put, List.getElem_toArray, List.getElem_cons_zero, List.getElem_cons_succ, List.setIfInBounds_toArray, List.set_cons_zero, List.set_cons_succ]
  refine wpAnyH_take (i := 34) (v := (.int .i64 0)) rfl (by kernel_rfl) (by kernel_rfl) (by kernel_rfl) (fun _ _ _ h => h) (Or.inl ⟨by rfl, fun X hS => ?_⟩) hHeld ?_
  · obtain ⟨s1, s2, s3, s4, s5, s6, _, _⟩ := hS
    go_simp
  try simp only [Act.put, List.getElem_toArray, List.getElem_cons_zero, List.getElem_cons_succ, List.setIfInBounds_toArray, List.set_cons_zero, List.set_cons_succ]
  refine wpAnyH_ready (rs := [36]) (by kernel_rfl) (by simp) (AllReadyH.cons rfl (fun K1 hK1 => ?_) AllReadyH.nil)
  go_simp
  refine (ball_no (some ⟨A, 0, none⟩) 0 39 0 (by omega) 3 rfl (nopart_small HO.out 0 39 (by omega) (by omega))).mono ?_
  rintro e x1 ⟨rfl, hb1⟩
  have hS1 := hHeld.below hb1
  have HO2 := Lib.hid (HO.out.below hb1); have HB2 := Lib.hid (HB.out.trans (hb1.mono HB.out.size))
  clear hb1 hHeld HO HB
  refine hK1.out _ _ hS1 (fun hHeld => ?_)
  clear hK1 hS1
  have HO := HO2; have HB := HB2
  clear HO2 HB2
  try simp only [Act.put, List.getElem_toArray, List.getElem_cons_zero, List.getElem_cons_succ, List.setIfInBounds_toArray, List.set_cons_zero, List.set_cons_succ]
  refine wpAnyH_take (i := 37) (v := (.int .i64 0)) rfl (by kernel_rfl) (by kernel_rfl) (by kernel_rfl) (fun _ _ _ h => h) (Or.inl ⟨by rfl, fun X hS => ?_⟩) hHeld ?_
  · obtain ⟨s1, s2, s3, s4, s5, s6, _, _⟩ := hS
    go_simp
  try simp only [Act.put, List.getElem_toArray, List.getElem_cons_zero, List.getElem_cons_succ, List.setIfInBounds_toArray, List.set_cons_zero, List.set_cons_succ]
  refine wpAnyH_take (i := 38) (v := (.int .i64 0)) rfl (by kernel_rfl) (by kernel_rfl) (by kernel_rfl) (fun _ _ _ h => h) (Or.inl ⟨by rfl, fun X hS => ?_⟩) hHeld ?_
  · obtain ⟨s1, s2, s3, s4, s5, s6, _, _⟩ := hS
    go_simp; rfl
  try simp only [Act.put, List.getElem_toArray, List.getElem_cons_zero, List.getElem_cons_succ, List.setIfInBounds_toArray, List.set_cons_zero, List.set_cons_succ]
  refine wpAnyH_ready (rs := [40]) (by kernel_rfl) (by simp) (AllReadyH.cons rfl (fun K1 hK1 => ?_) AllReadyH.nil)
  go_simp
  refine (bcount_no none 0 0 1 rfl nopart_nil).mono ?_
  rintro e x1 ⟨rfl, hb1⟩
  have hS1 := hHeld.below hb1
  have HO2 := Lib.hid (HO.out.below hb1); have HB2 := Lib.hid (HB.out.trans (hb1.mono HB.out.size))
  clear hb1 hHeld HO HB
  refine hK1.out _ _ hS1 (fun hHeld => ?_)
  clear hK1 hS1
  have HO := HO2; have HB := HB2
  clear HO2 HB2
  try simp only [Act.put, List.getElem_toArray, List.getElem_cons_zero, List.getElem_cons_succ, List.setIfInBounds_toArray, List.set_cons_zero, List.set_cons_succ]
  refine wpAnyH_take (i := 41) (v := (.int .i64 0)) rfl (by kernel_rfl) (by kernel_rfl) (by kernel_rfl) (fun _ _ _ h => h) (Or.inl ⟨by rfl, fun X hS => ?_⟩) hHeld ?_
  · obtain ⟨s1, s2, s3, s4, s5, s6, _, _⟩ := hS
    go_simp; rfl
  try simp only [Act.put, List.getElem_toArray, List.getElem_cons_zero, List.getElem_cons_succ, List.setIfInBounds_toArray, List.set_cons_zero, List.set_cons_succ]
  refine wpAnyH_ready (rs := [43]) (by kernel_rfl) (by simp) (AllReadyH.cons rfl (fun K1 hK1 => ?_) AllReadyH.nil)
  go_simp
  refine (bcount_no (some ⟨A, 0, none⟩) 0 39 3 rfl (nopart_small HO.out 0 39 (by omega) (by omega))).mono ?_
  rintro e x1 ⟨rfl, hb1⟩
  have hS1 := hHeld.below hb1
  have HO2 := Lib.hid (HO.out.below hb1); have HB2 := Lib.hid (HB.out.trans (hb1.mono HB.out.size))
  clear hb1 hHeld HO HB
  refine hK1.out _ _ hS1 (fun hHeld => ?_)
  clear hK1 hS1
  have HO := HO2; have HB := HB2
  clear HO2 HB2
  try simp only [Act.put, List.getElem_toArray, List.getElem_cons_zero, List.getElem_cons_succ, List.setIfInBounds_toArray, List.set_cons_zero, List.set_cons_succ]
  refine wpAnyH_take (i := 44) (v := (.int .i64 0)) rfl (by kernel_rfl) (by kernel_rfl) (by kernel_rfl) (fun _ _ _ h => h) (Or.inl ⟨by rfl, fun X hS => ?_⟩) hHeld ?_
  · obtain ⟨s1, s2, s3, s4, s5, s6, _, _⟩ := hS
    go_simp; rfl
  try simp only [Act.put, List.getElem_toArray, List.getElem_cons_zero, List.getElem_cons_succ, List.setIfInBounds_toArray, List.set_cons_zero, List.set_cons_succ]
  refine wpAnyH_take (i := 45) (v := (.bool true)) rfl (by kernel_rfl) (by kernel_rfl) (by kernel_rfl) (fun _ _ _ h => h) (Or.inl ⟨by rfl, fun X hS => ?_⟩) hHeld ?_
  · obtain ⟨s1, s2, s3, s4, s5, s6, _, _⟩ := hS
    go_simp
  try simp only [Act.put, List.getElem_toArray, List.getElem_cons_zero, List.getElem_cons_succ, List.setIfInBounds_toArray, List.set_cons_zero, List.set_cons_succ]
  refine wpAnyH_take (i := 46) (v := (.bool true)) rfl (by kernel_rfl) (by kernel_rfl) (by kernel_rfl) (fun _ _ _ h => h) (Or.inl ⟨by rfl, fun X hS => ?_⟩) hHeld ?_
  · obtain ⟨s1, s2, s3, s4, s5, s6, _, _⟩ := hS
    go_simp
  try simp only [Act.put, List.getElem_toArray, List.getElem_cons_zero, List.getElem_cons_succ, List.setIfInBounds_toArray, List.set_cons_zero, List.set_cons_succ]
  refine wpAnyH_take (i := 47) (v := (.bool true)) rfl (by kernel_rfl) (by kernel_rfl) (by kernel_rfl) (fun _ _ _ h => h) (Or.inl ⟨by rfl, fun X hS => ?_⟩) hHeld ?_
  · obtain ⟨s1, s2, s3, s4, s5, s6, _, _⟩ := hS
    go_simp
  try simp only [Act.put, List.getElem_toArray, List.getElem_cons_zero, List.getElem_cons_succ, List.setIfInBounds_toArray, List.set_cons_zero, List.set_cons_succ]
  refine wpAnyH_done (by kernel_rfl) ?_ _
  clear hHeld
  go_wp2_with fail
  go_ret
  exact ⟨rfl, HB.out⟩
end Go.Proofs.Ytoineackmpafdaa.Bt
