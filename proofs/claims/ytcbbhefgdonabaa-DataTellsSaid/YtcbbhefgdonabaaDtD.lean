/- Several texts in one: CeA; ShJoin; VwTexts; FdT; DkA; CeB. -/
import Derived.Test.YtcbbhefgdonabaaDtC
import Derived.Test.YtcbbhefgdonabaaArFull
import Derived.Test.YtcbbhefgdonabaaDtB
import Derived.Shelf.Strings.OnBuilder
import Derived.Test.YtcbbhefgdonabaaProg
import Derived.Test.YtcbbhefgdonabaaVwAny
import Derived.Deep.Slices
import Derived.Deep.Strs
import Derived.ChangeSame
import Derived.OpenShut
import Derived.Deep.MidRow
/- A list of cleanups: sort.Search where nothing is found; how many slots, and where each stands; the layout. -/
namespace Go.Proofs.Ytcbbhefgdonabaa.Bt
open Go Go.RowKit Go.Shelf
set_option linter.unusedVariables false
set_option linter.unusedSimpArgs false
/-- the arena of the statements: one page -/
abbrev cS (m : Nat → UInt8) : ASt := fullS 1 m
theorem cS_there {m : Nat → UInt8} {a k : Int} (h0 : 0 ≤ a) (h1 : 0 ≤ k) (h2 : a + k ≤ 4096) : thereE (cS m).L (cS m).es a k = 0 := by
  show thereE 1 [0, 1] a k = 0
  rw [thereE_full (by omega) (by omega), if_pos (by omega)]
abbrev zvV : Value := .agg #[.pointer none, .int .i64 0, .int .i64 0]
theorem ofV_ok (pu : Option Addr) (a k : Int) : ofV pu a k 0 = .agg #[.pointer pu, .int .i64 a, .int .i64 k] := by unfold ofV; rw [if_pos rfl]
theorem addr_in {va vs : Nat} {a k : Int} (h : 0 ≤ a ∧ 0 ≤ k ∧ k ≤ (vs : Int) - a) : addrV va vs a k = (va : Int) + a := by unfold addrV; rw [if_pos h]
abbrev vwC (A a k : Nat) : Array Value := #[.pointer (some ⟨A, 0, none⟩), .int .i64 (a : Int), .int .i64 (k : Int)]
abbrev zvC : Array Value := #[.pointer none, .int .i64 0, .int .i64 0]
set_option maxHeartbeats 2000000 in
/-- sort.Search where none is found -/
theorem searchN (g : Nat) (lb : Array Value) (eg : ∀ args w, (callFunc g args).run Try.prog w = .ok (.enter g args) w) (n : Nat) (hn : n ≤ 1000) (w : World)
    (hp : ∀ X (i : Nat), Below w.heap.size w X → i < n → Calls Try.prog g (#[.int .i64 (i : Int)] ++ lb) X (Gives (.bool false) X)) :
    Calls Try.prog 58 #[.int .i64 (n : Int), .func (.func g) #[] lb] w (Gives (.int .i64 (n : Int)) w) := by
  have HP := Lib.hid hp
  clear hp
  go_enter Try.func58, Try.ntmps58
  go_wp2_with fail
  go_loopw [5, 6] (fun s5 s6 wr => ∃ j : Nat, j ≤ n ∧ s5 = .int .i64 (j : Int) ∧ s6 = .int .i64 (n : Int) ∧ Hid (Below w.heap.size w wr)) (fun s5 _ _ => n - (intOf s5).toNat)
  case atStart => exact ⟨0, Nat.zero_le _, rfl, rfl, Lib.hid (Below.refl _ _)⟩
  case round =>
    obtain ⟨j, hj, rfl, rfl, HB⟩ := hrel
    by_cases hjn : j < n
    · have hjn2 : (j : Int) < (n : Int) := by omega
      obtain ⟨k, hk⟩ : ∃ k, (j + n) / 2 = k := ⟨_, rfl⟩
      have hk2 : k < n := by omega
      have hjk : j ≤ k := by omega
      have q1 : IntKind.u64.wrap ((j : Int) + (n : Int)) = (j : Int) + (n : Int) := by rw [IntKind.wrap_u64]; omega
      have q2 : ((j : Int) + (n : Int)) / 2 = (k : Int) := by omega
      have q3 : IntKind.i64.wrap (k : Int) = (k : Int) := by rw [IntKind.wrap_i64]; omega
      have q4 : IntKind.u64.wrap (k : Int) = (k : Int) := by rw [IntKind.wrap_u64]; omega
      have HC := Lib.hid fun X (hX : Below w.heap.size w X) => HP.out X k hX hk2
      have HK := Lib.hid (And.intro hk2 hjk)
      clear hk hk2 hjk
      go_wp2_with fail
      refine (HC.out _ HB.out).mono ?_
      rintro e w' ⟨rfl, hb'⟩
      have HB2 := Lib.hid (HB.out.trans (hb'.mono HB.out.size))
      have hk2 := HK.out.1
      have hk3 := HK.out.2
      clear hb' HB HC HK q1 q2 q3 q4
      go_wp2_with fail
      go_roundw
      case rel => exact ⟨k + 1, by omega, by go_num, rfl, HB2⟩
      case measure => simp [intOf]; omega
    · obtain rfl : j = n := by omega
      have hjn2 : ¬ ((j : Int) < (j : Int)) := by omega
      go_wp2_with fail
      go_ret
      exact ⟨rfl, HB.out⟩
section
variable {A vs : Nat} {m : Nat → UInt8} {w : World}
theorem cslots1 (h : On A (cS m) w) (hv : vs ≤ 400) (F : Nat) (hF : w.heap[F]? = some (.cells (vwC A 40 vs) 29 (0, 0))) (i : Nat) (hi : i < vs / 24) :
    Calls Try.prog 60 (#[.int .i64 (i : Int)] ++ #[.pointer (some ⟨F, 0, none⟩)]) w (Gives (.bool false) w) := by
  have hp : Hid (∀ X, On A (cS m) X → Calls Try.prog 61 #[vwV A 40 vs, .int .i64 0, .int .i64 (((i : Int) + 1) * 24)] X (Gives (.tuple #[.agg #[.pointer (some ⟨A, 0, none⟩), .int .i64 40, .int .i64 (((i : Int) + 1) * 24)], .int .i64 0]) X)) := Lib.hid fun X hX => by
    have := on_part hX 40 vs (by omega) (by omega) 0 (((i : Int) + 1) * 24) (by omega)
    rw [addr_in (by omega), cS_there (by omega) (by omega) (by omega), ofV_ok] at this
    exact this
  have c0 := (cell_blk hF 0).1; have c1 := (cell_blk hF 1).1; have c2 := (cell_blk hF 2).1
  have hi2 : (i : Int) ≤ 17 := by omega
  have HO := Lib.hid h
  clear hi hF h
  go_enter Try.func60, Try.ntmps60
  go_wp2_with fail
  refine (hp.out _ HO.out).mono ?_
  rintro e w1 ⟨rfl, hb⟩
  have HB := Lib.hid hb
  clear hb c0 c1 c2
  go_wp2_with fail
  go_ret
  exact ⟨rfl, HB.out.alloc HB.out.size _⟩
set_option maxHeartbeats 1000000 in
/-- how many slots -/
theorem cslots (h : On A (cS m) w) (hv : vs ≤ 400) : Calls Try.prog 35 #[vwV A 40 vs] w (Gives (.int .i64 ((vs / 24 : Nat) : Int)) w) := by
  have eg : ∀ args w, (callFunc 60 args).run Try.prog w = .ok (.enter 60 args) w := enters_of Try.func60 (by kernel_rfl) rfl
  have q1 : IntKind.i64.wrap ((vs : Int).tdiv 24) = ((vs / 24 : Nat) : Int) := by rw [Int.tdiv_eq_ediv_of_nonneg (by omega), IntWalk.i64_in _ (by omega)]; omega
  have q2 : (vs : Int).tdiv 24 = ((vs / 24 : Nat) : Int) := by rw [Int.tdiv_eq_ediv_of_nonneg (by omega)]; omega
  have q5 : (vs : Int) / 24 = ((vs / 24 : Nat) : Int) := by omega
  obtain ⟨d, hd⟩ : ∃ d, vs / 24 = d := ⟨_, rfl⟩
  have hd17 : d ≤ 17 := by omega
  have HS := Lib.hid fun (X : World) (F : Nat) (hX : On A (cS m) X) (hF : X.heap[F]? = some (.cells (vwC A 40 vs) 29 (0, 0))) =>
    searchN 60 #[.pointer (some ⟨F, 0, none⟩)] eg d (by omega) X fun Y i hY hi => cslots1 (hX.below hY) hv F ((hY.block _ (Array.getElem?_eq_some_iff.1 hF).1).trans hF) i (by omega)
  rw [hd] at q1 q2 q5
  rw [hd]
  have q4 : wrap64 (d : Int) = (d : Int) := IntWalk.wrap64_in _ ⟨by omega, by omega⟩
  have HQ := Lib.hid (And.intro q1 (And.intro q2 (And.intro q4 q5)))
  clear q1 q2 q4 q5 hd hd17 eg
  have HF := Lib.hid (And.intro (heap_new w (.cells (vwC A 40 vs) 29)) (And.intro (h.below (bel1 w (.cells (vwC A 40 vs) 29))) (bel1 w (.cells (vwC A 40 vs) 29))))
  clear h
  go_enter Try.func35, Try.ntmps35
  go_upto_region 1 with fail
  change Code.wp _ _ _ _ (w.alloc (.cells (vwC A 40 vs) 29))
  obtain ⟨y, hy⟩ : ∃ y, w.alloc (.cells (vwC A 40 vs) 29) = y := ⟨_, rfl⟩
  obtain ⟨F, hFF⟩ : ∃ F, w.heap.size = F := ⟨_, rfl⟩
  have hf := HF.out
  rw [hy, hFF] at hf
  rw [hy, hFF]
  have HWF := Lib.hid hFF
  have HG := Lib.hid hf
  clear hy hFF hf HF
  have c0 := (cell_blk HG.out.1 0).1; have c1 := (cell_blk HG.out.1 1).1; have c2 := (cell_blk HG.out.1 2).1
  go_wp2_with fail
  refine (vsize_any (some ⟨A, 0, none⟩) 40 vs _).mono ?_
  rintro e w1 ⟨rfl, hb⟩
  have HG1 : Hid (w1.heap[F]? = some (.cells (vwC A 40 vs) 29 (0, 0)) ∧ On A (cS m) w1 ∧ Below w.heap.size w w1) := Lib.hid ⟨blk_at hb HG.out.1, HG.out.2.1.below hb, (HWF.out ▸ HG.out.2.2).trans (hb.mono (by have := HG.out.2.2.size; omega))⟩
  clear hb c0 c1 c2 HG
  obtain ⟨q1, q2, q4, q5⟩ := HQ.out
  go_wp2_with fail
  refine (HS.out _ _ HG1.out.2.1 HG1.out.1).mono ?_
  rintro e w2 ⟨rfl, hb⟩
  have HB2 := Lib.hid (HG1.out.2.2.trans (hb.mono HG1.out.2.2.size))
  clear hb
  go_wp2_with fail
  go_ret
  exact ⟨rfl, HB2.out⟩
theorem cslots_nil (w : World) : Calls Try.prog 35 #[zvV] w (Gives (.int .i64 0) w) := by
  have eg : ∀ args w, (callFunc 60 args).run Try.prog w = .ok (.enter 60 args) w := enters_of Try.func60 (by kernel_rfl) rfl
  have HS := Lib.hid fun (X : World) (F : Nat) =>
    searchN 60 #[.pointer (some ⟨F, 0, none⟩)] eg 0 (by omega) X fun Y i hY hi => absurd hi (by omega)
  have HF := Lib.hid (And.intro (heap_new w (.cells zvC 29)) (bel1 w (.cells zvC 29)))
  clear eg
  go_enter Try.func35, Try.ntmps35
  go_upto_region 1 with fail
  change Code.wp _ _ _ _ (w.alloc (.cells zvC 29))
  obtain ⟨y, hy⟩ : ∃ y, w.alloc (.cells zvC 29) = y := ⟨_, rfl⟩
  obtain ⟨F, hFF⟩ : ∃ F, w.heap.size = F := ⟨_, rfl⟩
  have hf := HF.out
  rw [hy, hFF] at hf
  rw [hy, hFF]
  have HWF := Lib.hid hFF
  have HG := Lib.hid hf
  clear hy hFF hf HF
  have c0 := (cell_blk HG.out.1 0).1; have c1 := (cell_blk HG.out.1 1).1; have c2 := (cell_blk HG.out.1 2).1
  go_wp2_with fail
  refine (vsize_any none 0 0 _).mono ?_
  rintro e w1 ⟨rfl, hb⟩
  have HB1 : Hid (Below w.heap.size w w1) := Lib.hid ((HWF.out ▸ HG.out.2).trans (hb.mono (by have := HG.out.2.size; omega)))
  clear hb c0 c1 c2 HG
  go_wp2_with fail
  refine (HS.out _ _).mono ?_
  rintro e w2 ⟨rfl, hb⟩
  have HB2 := Lib.hid (HB1.out.trans (hb.mono HB1.out.size))
  clear hb
  go_wp2_with fail
  go_ret
  exact ⟨rfl, HB2.out⟩
/-- where a slot stands -/
theorem cslot (h : On A (cS m) w) (hv : vs ≤ 400) (i : Nat) (hi : i < vs / 24) : Calls Try.prog 38 #[vwV A 40 vs, .int .i64 (i : Int)] w (Gives (vwV A (40 + 24 * i) 24) w) := by
  have e : addrV 40 vs ((i : Int) * 24) 24 = ((40 + 24 * i : Nat) : Int) := by rw [addr_in (by omega)]; push_cast; omega
  have hp : Hid (∀ X, On A (cS m) X → Calls Try.prog 61 #[vwV A 40 vs, .int .i64 ((i : Int) * 24), .int .i64 24] X (Gives (.tuple #[vwV A (40 + 24 * i) 24, .int .i64 0]) X)) := Lib.hid fun X hX => by
    have := on_part hX 40 vs (by omega) (by omega) ((i : Int) * 24) 24 (by omega)
    rw [e, cS_there (by omega) (by omega) (by omega), ofV_ok] at this
    exact this
  have hi2 : (i : Int) ≤ 17 := by omega
  clear hi e
  have HF := Lib.hid (((Fb.start w).new (vwC A 40 vs) 29).new zvC 27)
  have HO := Lib.hid h
  clear h
  go_enter Try.func38, Try.ntmps38
  go_upto_region 1 with fail
  change Code.wp _ _ _ _ ((w.alloc (.cells (vwC A 40 vs) 29)).alloc (.cells zvC 27))
  obtain ⟨y, hy⟩ : ∃ y, (w.alloc (.cells (vwC A 40 vs) 29)).alloc (.cells zvC 27) = y := ⟨_, rfl⟩
  obtain ⟨C, hC⟩ : ∃ C, w.heap.size = C := ⟨_, rfl⟩
  obtain ⟨O, hO⟩ : ∃ O, (w.alloc (.cells (vwC A 40 vs) 29)).heap.size = O := ⟨_, rfl⟩
  have hO2 : w.heap.size + 1 = O := by rw [← hO]; simp
  have hf := HF.out
  rw [hy, hO, hC] at hf
  rw [hy, hO2, hC]
  have HG := Lib.hid hf
  clear hy hC hO hO2 hf HF
  have c0 := HG.out.cell1 0 rfl; have c1 := HG.out.cell1 1 rfl; have c2 := HG.out.cell1 2 rfl
  go_wp2_with fail
  refine (hp.out _ (HO.out.below HG.out.be)).mono ?_
  rintro e w1 ⟨rfl, hb⟩
  have HG1 := Lib.hid (HG.out.below hb)
  clear hb HG c0 c1 c2
  go_upto_region 2 with fail
  have HG2 := Lib.hid (HG1.out.new (vwC A (40 + 24 * i) 24) 27)
  change Code.wp _ _ _ _ (w1.alloc (.cells (vwC A (40 + 24 * i) 24) 27))
  obtain ⟨w2, hw2⟩ : ∃ y, w1.alloc (.cells (vwC A (40 + 24 * i) 24) 27) = y := ⟨_, rfl⟩
  obtain ⟨V, hV⟩ : ∃ F, w1.heap.size = F := ⟨_, rfl⟩
  rw [hw2, hV] at HG2
  rw [hw2, hV]
  clear hw2 hV HG1
  have v0 := HG2.out.cell0 0 rfl; have v1 := HG2.out.cell0 1 rfl; have v2 := HG2.out.cell0 2 rfl
  have r0 := HG2.out.cell1 0 rfl; have r1 := HG2.out.cell1 1 rfl; have r2 := HG2.out.cell1 2 rfl
  have f0 := HG2.out.free1 0; have f1 := HG2.out.free1 1; have f2 := HG2.out.free1 2
  go_wp2_with fail
  change bodyPost _ _ _ _ _ (stR w2 O [.pointer (some ⟨A, 0, none⟩), .int .i64 ((40 + 24 * i : Nat) : Int), .int .i64 ((24 : Nat) : Int)] 0)
  have hz := HG2.out.stores1 [.pointer (some ⟨A, 0, none⟩), .int .i64 ((40 + 24 * i : Nat) : Int), .int .i64 ((24 : Nat) : Int)] 0
  obtain ⟨z, hzz⟩ : ∃ z, stR w2 O [.pointer (some ⟨A, 0, none⟩), .int .i64 ((40 + 24 * i : Nat) : Int), .int .i64 ((24 : Nat) : Int)] 0 = z := ⟨_, rfl⟩
  rw [hzz] at hz ⊢
  have hz : Fb w [⟨V, vwC A (40 + 24 * i) 24, 27⟩, ⟨O, vwC A (40 + 24 * i) 24, 27⟩, ⟨C, vwC A 40 vs, 29⟩] z := hz
  have g0 := hz.cell1 0 rfl; have g1 := hz.cell1 1 rfl; have g2 := hz.cell1 2 rfl
  exact bodyPost_ret (v := vwV A (40 + 24 * i) 24) (by simp [results, Try.results38, go_sem, g0, g1, g2]) rfl ⟨rfl, hz.be⟩
end
end Go.Proofs.Ytcbbhefgdonabaa.Bt
/- Contracts of the shelf at this seat (made by gen_shelf.sh: the numbers are this seat's). -/
namespace Go.Proofs.Ytcbbhefgdonabaa.Bt
open Go.Shelf
def Try.lays156_ren : Go.Shelf.Ren := ⟨fun | 156 => 114 | 165 => 119 | 166 => 120 | 169 => 121 | 240 => 124 | 241 => 125 | 276 => 127 | 277 => 128 | n => n, fun | 31 => 139 | 9 => 9 | 3 => 3 | 4 => 4 | 0 => 0 | 20 => 20 | 72 => 175 | 76 => 179 | 70 => 173 | 37 => 61 | 75 => 178 | 127 => 182 | 164 => 183 | 5 => 5 | 80 => 181 | n => n, fun | n => n⟩
theorem Try.lays156 : Go.Proofs.Lays.n156 Try.prog Try.lays156_ren := {
  mixed := by kernel_rfl
  f156 := Try.func114.trans (congrArg some (by kernel_rfl))
  f165 := Try.func119.trans (congrArg some (by kernel_rfl))
  f166 := Try.func120.trans (congrArg some (by kernel_rfl))
  f169 := Try.func121.trans (congrArg some (by kernel_rfl))
  f240 := Try.func124.trans (congrArg some (by kernel_rfl))
  f241 := Try.func125.trans (congrArg some (by kernel_rfl))
  f276 := Try.func127.trans (congrArg some (by kernel_rfl))
  f277 := Try.func128.trans (congrArg some (by kernel_rfl))
  t0 := Try.underlying0
  a0 := Try.isAgg0
  z0 := Try.sizeOf0
  v0 := Try.zeroValue0
  t3 := Try.underlying3
  a3 := Try.isAgg3
  z3 := Try.sizeOf3
  v3 := Try.zeroValue3
  t4 := Try.underlying4
  a4 := Try.isAgg4
  z4 := Try.sizeOf4
  v4 := Try.zeroValue4
  t9 := Try.underlying9
  a9 := Try.isAgg9
  z9 := Try.sizeOf9
  v9 := Try.zeroValue9
  t20 := Try.underlying20
  a20 := Try.isAgg20
  z20 := Try.sizeOf20
  v20 := Try.zeroValue20
  t31 := Try.underlying139
  a31 := Try.isAgg139
  z31 := Try.sizeOf139
  v31 := Try.zeroValue139
  t37 := Try.underlying61
  a37 := Try.isAgg61
  z37 := Try.sizeOf61
  v37 := Try.zeroValue61
  t70 := Try.underlying173
  a70 := Try.isAgg173
  z70 := Try.sizeOf173
  v70 := Try.zeroValue173
  t72 := Try.underlying175
  a72 := Try.isAgg175
  z72 := Try.sizeOf175
  v72 := Try.zeroValue175
  t75 := Try.underlying178
  a75 := Try.isAgg178
  z75 := Try.sizeOf178
  v75 := Try.zeroValue178
  t76 := Try.underlying179
  a76 := Try.isAgg179
  z76 := Try.sizeOf179
  v76 := Try.zeroValue179
  t127 := Try.underlying182
  a127 := Try.isAgg182
  z127 := Try.sizeOf182
  v127 := Try.zeroValue182
  t164 := Try.underlying183
  a164 := Try.isAgg183
  z164 := Try.sizeOf183
  v164 := Try.zeroValue183 }
theorem Try.Builder_Extra_156 : Builder.Extra Try.prog Try.lays156_ren := {
  sizeBuilder := by kernel_rfl
  liesBuilder := by kernel_rfl
  t5 := Try.underlying5
  a5 := Try.isAgg5
  z5 := Try.sizeOf5
  v5 := Try.zeroValue5
  infoByte := by kernel_rfl
  cellsByte := by kernel_rfl
  sizeByte := by kernel_rfl
  neB5 := by decide }
open Go.RowKit in
theorem Try.strings_Join_none (a : Option Addr) (c : Nat) (sep : ByteArray) (w : World) :
    Calls Try.prog 114 #[.slice a 0 c, .string sep] w fun e w' => e = .returned (.string ⟨#[]⟩) ∧ w' = w := Any.strings_Join_none Try.lays156 Try.Builder_Extra_156 a c sep w
open Go.RowKit in
theorem Try.strings_Join (bk o c : Nat) (xs : List ByteArray) (sep : ByteArray) (w : World) (hcells : ∀ (j : Nat) x, xs[j]? = some x → w.cell? ⟨bk, o + j, none⟩ = some (.string x)) (hbk : bk < w.heap.size) (hN : xs.length ≤ 140737488355328) (hcap : xs.length ≤ c) (hlen : (Lib.join (xs.map (·.data.toList)) sep.data.toList).length ≤ 140737488355328) :
    Calls Try.prog 114 #[.slice (some ⟨bk, o, none⟩) xs.length c, .string sep] w fun e w' => e = .returned (.string ⟨(Lib.join (xs.map (·.data.toList)) sep.data.toList).toArray⟩) ∧ Below w.heap.size w w' := Any.strings_Join Try.lays156 Try.Builder_Extra_156 bk o c xs sep w hcells hbk hN hcap hlen
end Go.Proofs.Ytcbbhefgdonabaa.Bt
/- Texts that came in; Join; the Texts of a view. -/
namespace Go.Proofs.Ytcbbhefgdonabaa.Bt
open Go Go.RowKit Go.Shelf Go.ChangeShapes Go.WideShapes Go.Deep
set_option linter.unusedVariables false

def StrsAt (w : World) (p : Option Addr) (xs : List ByteArray) : Prop :=
  xs.length = 0 ∨ ∃ b off, p = some ⟨b, off, none⟩ ∧ b < w.heap.size ∧ ∀ i (hi : i < xs.length), w.cell? ⟨b, off + i, none⟩ = some (.string xs[i])
theorem StrsAt.below {w w' : World} {p : Option Addr} {xs : List ByteArray} (h : StrsAt w p xs) (hb : Below w.heap.size w w') : StrsAt w' p xs := by
  rcases h with h | ⟨b, off, rfl, hlt, hc⟩
  · exact .inl h
  · exact .inr ⟨b, off, rfl, Nat.lt_of_lt_of_le hlt hb.size, fun i hi => (hb.cell (p := ⟨b, off + i, none⟩) hlt).trans (hc i hi)⟩
theorem Try.cellsString : Try.prog.cellsOf 9 = 1 := by kernel_rfl
set_option maxRecDepth 100000 in
theorem strs_open {H : Type} {enc : TypeId × Value → H} {w : World} {fuel : Nat} {v : Value} {x : DataW H × List MemPlace} {a : Option Addr} {len cap : Nat} (hv : v = .slice a len cap)
    (h : DataW.trod enc Try.prog w 0 (fun _ => true) true fuel 139 v.cells.toList = some x) : ∃ xs : List ByteArray, xs.length = len ∧ len ≤ 9223372036854775807 ∧ len ≤ cap ∧ StrsAt w a xs ∧ ∀ x ∈ xs, x.size ≤ 9223372036854775807 := by
  subst hv
  rcases open_slice Try.underlying139 h with ⟨h1, _⟩ | ⟨ad, len', cap', m, n, D, Pl, h1, _, hl, hm, hmm, _, hi⟩
  · simp [Value.cells] at h1
    exact ⟨[], by simp [h1.2.1], by omega, by omega, .inl rfl, fun x hx => by simp at hx⟩
  · simp [Value.cells] at h1
    obtain ⟨rfl, rfl, rfl⟩ := h1
    unfold maxLen at hm
    have hlm : len ≤ m := by rw [hmm]; simp; omega
    have key : ∀ i, i < len → ∃ s : ByteArray, s.size ≤ 9223372036854775807 ∧ w.cell? (ad.add i) = some (.string s) := by
      intro i hilt
      obtain ⟨cs', hc, ht⟩ := hi i (by omega)
      rw [Try.cellsString, Nat.mul_one] at hc
      obtain ⟨_, hcl, hat⟩ := World.cells?_some hc
      match cs', hcl with
      | [c0], _ =>
        obtain ⟨q0, h0, _, w0⟩ := DataW.trod_string Try.underlying9 ht
        simp only [List.cons.injEq, and_true] at h0
        subst h0
        unfold maxLen at w0
        have a0 := hat 0 (by omega)
        exact ⟨q0, w0, by rw [add_add] at a0; simpa using a0⟩
    refine ⟨(List.range len).attach.map fun i => Classical.choose (key i.1 (List.mem_range.1 i.2)), by simp, by omega, hl, ?_, fun x hx => ?_⟩
    · by_cases h0 : len = 0
      · subst h0; exact .inl rfl
      · have k0 := (Classical.choose_spec (key 0 (by omega))).2
        obtain ⟨b, off, spot⟩ := ad
        have hspot : spot = none := by simpa [Addr.add] using World.cell?_spot k0
        subst hspot
        refine .inr ⟨b, off, rfl, World.block_lt_of_cell? _ _ (by simpa [Addr.add] using k0), fun i hil => ?_⟩
        have hil' : i < len := by simpa using hil
        have ks := Classical.choose_spec (key i hil')
        have eA : ∀ j, (⟨b, off, none⟩ : Addr).add j = ⟨b, off + j, none⟩ := fun j => by
          simp only [Addr.add]; split <;> simp_all
        simp only [List.getElem_map, List.getElem_attach, List.getElem_range]
        exact (congrArg w.cell? (eA _).symm).trans ks.2
    · obtain ⟨i, _, rfl⟩ := List.mem_map.1 hx
      exact (Classical.choose_spec (key i.1 (List.mem_range.1 i.2))).1

/-- all texts, one behind the other -/
def joinB (xs : List ByteArray) : ByteArray := ⟨(Lib.join (xs.map (·.data.toList)) []).toArray⟩
theorem lens_le (xs : List ByteArray) (n : Nat) (h : ∀ x ∈ xs, x.size ≤ n) : Lib.lens (xs.map (·.data.toList)) ≤ xs.length * n := by
  induction xs with
  | nil => simp [Lib.lens]
  | cons x r ih =>
    have h1 := h x (by simp)
    have h2 := ih fun y hy => h y (by simp [hy])
    have e : x.data.toList.length = x.size := by rw [Array.length_toList]; rfl
    simp only [Lib.lens, List.map_cons, List.length_cons, List.sum_cons, List.map_map] at h2 ⊢
    rw [e, Nat.succ_mul]
    omega
theorem join_le (xs : List ByteArray) (n : Nat) (h : ∀ x ∈ xs, x.size ≤ n) : (Lib.join (xs.map (·.data.toList)) []).length ≤ xs.length * n := by
  cases xs with
  | nil => simp [Lib.join_nil]
  | cons x r =>
    have := lens_le (x :: r) n h
    rw [List.map_cons, Lib.join_length]
    rw [List.map_cons] at this
    simp only [List.length_nil, Nat.zero_mul, Nat.zero_add]
    exact this
theorem joinB_size (xs : List ByteArray) : (joinB xs).size = (Lib.join (xs.map (·.data.toList)) []).length := by
  show (Lib.join (xs.map (·.data.toList)) []).toArray.size = _
  rw [List.size_toArray]
theorem join_any (p : Option Addr) (c : Nat) (xs : List ByteArray) (w : World) (h : StrsAt w p xs) (hN : xs.length ≤ 140737488355328) (hcap : xs.length ≤ c) (hj : (joinB xs).size ≤ 140737488355328) :
    Calls Try.prog 114 #[.slice p xs.length c, .string ⟨#[]⟩] w fun e w' => e = .returned (.string (joinB xs)) ∧ Below w.heap.size w w' := by
  rcases h with h | ⟨b, off, rfl, hlt, hc⟩
  · have hx : xs = [] := List.eq_nil_of_length_eq_zero h
    subst hx
    exact (Try.strings_Join_none p c ⟨#[]⟩ w).mono fun e w' ⟨he, hw⟩ => ⟨he, hw ▸ Below.refl _ _⟩
  · exact Try.strings_Join b off c xs ⟨#[]⟩ w (fun j x hx => by
      obtain ⟨hj, rfl⟩ := List.getElem?_eq_some_iff.1 hx
      exact hc j hj) hlt hN hcap (by rw [joinB_size] at hj; exact hj)
section
set_option maxHeartbeats 1000000
theorem vtexts_gen (pa : Option Addr) (va vs : Nat) (q : Option Addr) (c : Nat) (xs : List ByteArray) (w : World) (hs : StrsAt w q xs) (hN : xs.length ≤ 140737488355328) (hcap : xs.length ≤ c) (hj : (joinB xs).size ≤ 140737488355328) (er : Int) (Q : World → World → Prop)
    (HC : ∀ X, Below w.heap.size w X → Calls Try.prog 113 #[.agg #[.pointer pa, .int .i64 (va : Int), .int .i64 (vs : Int)], .int .i64 0, .string (joinB xs)] X fun e X' => e = .returned (.int .i64 er) ∧ Q X X')
    (HK : KeepsV w Q) :
    Calls Try.prog 104 #[.agg #[.pointer pa, .int .i64 (va : Int), .int .i64 (vs : Int)], .slice q xs.length c] w (Thru er Q w) := by
  have HC' := Lib.hid HC; have HK' := Lib.hid HK; clear HC HK
  go_enter Try.func104, Try.ntmps104
  go_wp2_with fail
  have HH : VC w.heap.size pa va vs (w.alloc (.cells #[.pointer pa, .int .i64 (va : Int), .int .i64 (vs : Int)] 27)) := heap_new _ _
  have HB := (Below.refl w.heap.size w).alloc (Nat.le_refl _) (.cells #[.pointer pa, .int .i64 (va : Int), .int .i64 (vs : Int)] 27)
  obtain ⟨w1, hw1⟩ : ∃ w1, w.alloc (.cells #[.pointer pa, .int .i64 (va : Int), .int .i64 (vs : Int)] 27) = w1 := ⟨_, rfl⟩
  rw [hw1] at HH HB ⊢
  clear hw1
  have HS := Lib.hid (hs.below HB)
  obtain ⟨B, hB⟩ : ∃ B, w.heap.size = B := ⟨_, rfl⟩
  have HBh := Lib.hid HB
  clear HB hs
  rw [hB] at HH ⊢
  clear hB
  go_region_held3 (fun x => x.cell? ⟨B, 0, none⟩ = some (.pointer pa) ∧ x.cell? ⟨B, 1, none⟩ = some (.int .i64 (va : Int)) ∧ x.cell? ⟨B, 2, none⟩ = some (.int .i64 (vs : Int)) ∧ VC B pa va vs x)
    (first | exact (HH.below (Below.refl _ _).drew).all | assumption)
    (first | (go_at_call 114; refine (join_any q c xs _ (HS.out.below (Below.refl _ _).drew) hN hcap hj).mono ?_; rintro e w' ⟨rfl, hbb⟩; have hnx := ((HH.below (Below.refl _ _).drew).below hbb).all; have hbw := (HBh.out.drew).trans (hbb.mono HBh.out.size))
           | (go_at_call 113; refine (HC'.out _ hbw).mono ?_; rintro e w'' ⟨rfl, hq⟩; have hny := VC.all (B := B) (pa := pa) (va := va) (vs := vs) (x := w'') ((HK'.out _ _ _ _ hbw hq hnx.2.2.2).trans hnx.2.2.2)))
  have HF := Lib.hid (And.intro hbw hq)
  clear HH hnx hny hbw hq
  go_wp2_with fail
  go_ret
  exact ⟨rfl, _, HF.out.1, HF.out.2⟩
end
section
variable {A P n cap : Nat} {s : ASt} {ps : List (Option Nat)} {p : Option Addr} {w : World}
theorem vtexts_any (h : ArX A s P ps p n cap w) (va vs : Nat) (h1 : va ≤ 4294967296) (h2 : vs ≤ 4294967296) (q : Option Addr) (c : Nat) (xs : List ByteArray) (hs : StrsAt w q xs) (hN : xs.length ≤ 140737488355328) (hcap : xs.length ≤ c) (hj : (joinB xs).size ≤ 140737488355328) :
    Calls Try.prog 104 #[.agg #[.pointer (some ⟨A, 0, none⟩), .int .i64 (va : Int), .int .i64 (vs : Int)], .slice q xs.length c] w (PutPost A P s ps p (addrV va vs 0 (joinB xs).size) (joinB xs).data.toList w) :=
  (vtexts_gen _ va vs q c xs w hs hN hcap hj _ _ (fun X hX => vput_any (h.below hX) va vs h1 h2 0 (by omega) (joinB xs) (by omega)) (keepsV_ar h _)).mono fun e w' ht => thru_turned ht
theorem vtexts_none (q : Option Addr) (c : Nat) (xs : List ByteArray) (hs : StrsAt w q xs) (hN : xs.length ≤ 140737488355328) (hcap : xs.length ≤ c) (hj : (joinB xs).size ≤ 140737488355328) :
    Calls Try.prog 104 #[.agg #[.pointer none, .int .i64 0, .int .i64 0], .slice q xs.length c] w fun e w' => e = .returned (.int .i64 1) ∧ Below w.heap.size w w' :=
  (vtexts_gen none 0 0 q c xs w hs hN hcap hj 1 _ (fun X hX => vput_nil 0 (by omega) (joinB xs) (by omega) X) (keepsV_below w)).mono fun e w' ht => thru_below ht
end
end Go.Proofs.Ytcbbhefgdonabaa.Bt
/- The contracts of PutText and Text. -/
namespace Go.Proofs.Ytcbbhefgdonabaa.Bt
open Go Go.RowKit Go.Shelf
set_option linter.unusedVariables false
set_option linter.unusedSimpArgs false

section
variable {A : Nat} {s : ASt} {w : World}
theorem on_texts (h : On A s w) (va vs : Nat) (h1 : va ≤ 4294967296) (h2 : vs ≤ 4294967296) (q : Option Addr) (c : Nat) (xs : List ByteArray) (hs : StrsAt w q xs) (hN : xs.length ≤ 140737488355328) (hcap : xs.length ≤ c) (hj : (joinB xs).size ≤ 140737488355328) :
    Calls Try.prog 104 #[vwV A va vs, .slice q xs.length c] w (Ret A (putS s (addrV va vs 0 (joinB xs).size) (joinB xs).data.toList) (.int .i64 (thereE s.L s.es (addrV va vs 0 (joinB xs).size) (joinB xs).data.toList.length)) w) := by
  obtain ⟨P, ps, p, n, cap, h⟩ := h; exact (vtexts_any h va vs h1 h2 q c xs hs hN hcap hj).mono fun e w' k => On.ret h k
def mostB (m : Int) : Bool := decide (0 ≤ m ∧ m ≤ 255)
theorem fmost_any (m : Int) (w : World) : Calls Try.prog 92 #[.int .i64 m] w fun e w' => e = .returned (.bool (mostB m)) ∧ w = w' := by
  by_cases h0 : 0 ≤ m
  · by_cases h1 : m ≤ 255
    · have HB : Hid (mostB m = true) := Lib.hid (decide_eq_true ⟨h0, h1⟩)
      go_enter Try.func92, Try.ntmps92
      go_wp2_with fail
      go_ret
      exact ⟨by rw [HB.out]; rfl, rfl⟩
    · have HB : Hid (mostB m = false) := Lib.hid (decide_eq_false fun h => h1 h.2)
      go_enter Try.func92, Try.ntmps92
      go_wp2_with fail
      go_ret
      exact ⟨by rw [HB.out]; rfl, rfl⟩
  · have HB : Hid (mostB m = false) := Lib.hid (decide_eq_false fun h => h0 h.1)
    go_enter Try.func92, Try.ntmps92
    go_wp2_with fail
    go_ret
    exact ⟨by rw [HB.out]; rfl, rfl⟩
theorem fput_arg (va vs : Nat) (a m : Int) (x : ByteArray) (hx : x.size ≤ 9223372036854775807) (hb : mostB m = false) :
    Calls Try.prog 91 #[vwV A va vs, .int .i64 a, .int .i64 m, .string x] w (Gives (.int .i64 2) w) := by
  have HB := Lib.hid hb
  clear hb
  go_enter Try.func91, Try.ntmps91
  go_wp2_with fail
  refine (fmost_any m _).mono ?_
  rintro e w1 ⟨rfl, rfl⟩
  rw [HB.out]
  go_wp2_with fail
  go_ret
  exact ⟨rfl, bel1 _ _⟩
theorem fput_long (va vs : Nat) (a m : Int) (x : ByteArray) (hx : x.size ≤ 9223372036854775807) (hb : mostB m = true) (hl : m < x.size) :
    Calls Try.prog 91 #[vwV A va vs, .int .i64 a, .int .i64 m, .string x] w (Gives (.int .i64 16) w) := by
  have HB := Lib.hid hb
  clear hb
  go_enter Try.func91, Try.ntmps91
  go_wp2_with fail
  refine (fmost_any m _).mono ?_
  rintro e w1 ⟨rfl, rfl⟩
  rw [HB.out]
  go_wp2_with fail
  go_ret
  exact ⟨rfl, bel1 _ _⟩
theorem fput_no (h : On A s w) (va vs : Nat) (h1 : va ≤ 4294967296) (h2 : vs ≤ 4294967296) (a m : Int) (ha : a ≤ 9223372036854775807) (x : ByteArray) (hx : x.size ≤ 9223372036854775807) (hb : mostB m = true) (hl : (x.size : Int) ≤ m) (he : thereE s.L s.es (addrV va vs a (m + 1)) (m + 1) = 3) :
    Calls Try.prog 91 #[vwV A va vs, .int .i64 a, .int .i64 m, .string x] w (Gives (.int .i64 3) w) := by
  have HB := Lib.hid hb; have HE := Lib.hid he; have HO := Lib.hid h
  have hm : 0 ≤ m ∧ m ≤ 255 := of_decide_eq_true hb
  obtain ⟨m0, m1⟩ := hm
  have HV : Hid (∀ pu a k, ofV pu a k 3 = .agg #[.pointer none, .int .i64 0, .int .i64 0]) := Lib.hid fun pu a k => by unfold ofV; rw [if_neg (by decide)]
  clear hb he h
  go_enter Try.func91, Try.ntmps91
  go_wp2_with fail
  refine (fmost_any m _).mono ?_
  rintro e w1 ⟨rfl, rfl⟩
  rw [HB.out]
  go_wp2_with fail
  refine (on_part (HO.out.below (bel1 _ _)) va vs h1 h2 a (m + 1) ha).mono ?_
  rintro e w2 ⟨rfl, hb⟩
  rw [HE.out, HV.out]
  have B2 := Lib.hid ((bel1 w (.cells #[.pointer (some ⟨A, 0, none⟩), .int .i64 (va : Int), .int .i64 (vs : Int)] 27)).trans (hb.mono (by simp)))
  clear hb
  go_wp2_with fail
  go_ret
  exact ⟨rfl, B2.out.alloc B2.out.size _⟩
theorem conv_one (X : World) (B k : Nat) (hk : k ≤ 255) (hB : X.heap[B]? = some (.cells #[.int .u8 (k : Int)] 5 (0, 0))) :
    (convert 61 9 (.slice (some ⟨B, 0, none⟩) 1 1)).run Try.prog X = .ok (.string ⟨#[UInt8.ofNat k]⟩) X := by
  have h := run_convert_bytes_arg (P := Try.prog) X 61 5 Try.underlying61 Try.underlying5 B 0 1 1 [(k : Int)] rfl (fun i hi => by
    have hi0 : i = 0 := by simp at hi; omega
    subst hi0
    exact (cell_blk hB 0).1) 9 Try.underlying9
  have e2 : strOfNums [(k : Int)] = ⟨#[UInt8.ofNat k]⟩ := by simp [strOfNums]
  rw [e2] at h
  exact h
def txtS (s : ASt) (an : Nat) (x : ByteArray) : ASt := { s with mm := putM s.mm an (UInt8.ofNat x.size :: x.data.toList) }
theorem join_two (c : UInt8) (x : ByteArray) : (joinB [⟨#[c]⟩, x]).data.toList = c :: x.data.toList := by
  simp [joinB, Lib.join]
theorem join_two_size (c : UInt8) (x : ByteArray) : (joinB [⟨#[c]⟩, x]).size = x.size + 1 := by
  have := congrArg List.length (join_two c x)
  rw [List.length_cons] at this
  exact this
set_option maxHeartbeats 1000000 in
theorem fput_yes (h : On A s w) (va vs : Nat) (h1 : va ≤ 4294967296) (h2 : vs ≤ 4294967296) (a m : Int) (ha : a ≤ 9223372036854775807) (x : ByteArray) (hb : mostB m = true) (hl : (x.size : Int) ≤ m) (an : Nat) (han : addrV va vs a (m + 1) = an) (he : thereE s.L s.es (addrV va vs a (m + 1)) (m + 1) = 0) :
    Calls Try.prog 91 #[vwV A va vs, .int .i64 a, .int .i64 m, .string x] w (Ret A (txtS s an x) (.int .i64 0) w) := by
  have HB := Lib.hid hb; have HO := Lib.hid h
  have hm : 0 ≤ m ∧ m ≤ 255 := of_decide_eq_true hb
  obtain ⟨m0, m1⟩ := hm
  obtain ⟨mn, rfl⟩ : ∃ k : Nat, m = k := ⟨m.toNat, by omega⟩
  have hx : x.size ≤ 9223372036854775807 := by omega
  rw [han] at he
  have h3 : an ≤ 4294967296 := by
    have hh := (there_iff h.good an ((mn : Int) + 1)).1 (by unfold thereE at he; cases hq : thereB s.L s.es an ((mn : Int) + 1) with
      | true => rfl
      | false => rw [hq] at he; cases he)
    have := h.good.small
    omega
  have hadr : addrV an (mn + 1) 0 (joinB [⟨#[UInt8.ofNat x.size]⟩, x]).size = (an : Int) := by
    rw [join_two_size]; unfold addrV; rw [if_pos (by omega)]; omega
  have hth : thereE s.L s.es (an : Int) (joinB [⟨#[UInt8.ofNat x.size]⟩, x]).data.toList.length = 0 := by
    rw [join_two]
    exact there_part h.good he (by omega) (by omega) (by rw [List.length_cons, bytes_len]; omega)
  have hpS : putS s (an : Int) (joinB [⟨#[UInt8.ofNat x.size]⟩, x]).data.toList = txtS s an x := by
    unfold putS; rw [if_pos hth, join_two]; rfl
  have HE := Lib.hid he; have HA := Lib.hid han; have HAD := Lib.hid hadr; have HTH := Lib.hid hth; have HPS := Lib.hid hpS
  have HV : Hid (∀ pu a k, ofV pu a k 0 = .agg #[.pointer pu, .int .i64 a, .int .i64 k]) := Lib.hid fun pu a k => by unfold ofV; rw [if_pos rfl]
  have HJ : Hid ((joinB [⟨#[UInt8.ofNat x.size]⟩, x]).size ≤ 140737488355328) := Lib.hid (by rw [join_two_size]; omega)
  have HXS := Lib.hid (show x.size ≤ 255 by omega)
  clear hb h he han hadr hth hpS
  go_enter Try.func91, Try.ntmps91
  go_wp2_with fail
  refine (fmost_any (mn : Int) _).mono ?_
  rintro e w1 ⟨rfl, rfl⟩
  rw [HB.out]
  go_wp2_with fail
  refine (on_part (HO.out.below (bel1 _ _)) va vs h1 h2 a ((mn : Int) + 1) ha).mono ?_
  rintro e w2 ⟨rfl, hb⟩
  rw [HA.out, HE.out, HV.out]
  have B2 := Lib.hid ((bel1 w (.cells #[.pointer (some ⟨A, 0, none⟩), .int .i64 (va : Int), .int .i64 (vs : Int)] 27)).trans (hb.mono (by simp)))
  clear hb
  go_upto_region 8 with fail
  rw [show ((mn : Int) + 1) = ((mn + 1 : Nat) : Int) from by omega]
  have hv := heap_new w2 (.cells #[.pointer (some ⟨A, 0, none⟩), .int .i64 (an : Int), .int .i64 ((mn + 1 : Nat) : Int)] 27)
  have B3 := Lib.hid (B2.out.alloc B2.out.size (.cells #[.pointer (some ⟨A, 0, none⟩), .int .i64 (an : Int), .int .i64 ((mn + 1 : Nat) : Int)] 27))
  obtain ⟨w3, hw3⟩ : ∃ x, w2.alloc (.cells #[.pointer (some ⟨A, 0, none⟩), .int .i64 (an : Int), .int .i64 ((mn + 1 : Nat) : Int)] 27) = x := ⟨_, rfl⟩
  obtain ⟨V, hV⟩ : ∃ x, w2.heap.size = x := ⟨_, rfl⟩
  rw [hw3] at hv B3 ⊢
  rw [hV] at hv ⊢
  have c0 := (cell_blk hv 0).1; have c1 := (cell_blk hv 1).1; have c2 := (cell_blk hv 2).1
  clear hw3 hV hv B2
  have HCV := conv_one (w3.alloc (.cells #[.int .u8 (x.size : Int)] 5)) w3.heap.size x.size HXS.out (heap_new _ _)
  have hxs := HXS.out
  have B5 := Lib.hid (B3.out.trans ((below2 w3 (.cells #[.int .u8 (x.size : Int)] 5) (.cells #[.string ⟨#[UInt8.ofNat x.size]⟩, .string x] 9)).mono B3.out.size))
  have HSA : Hid (StrsAt ((w3.alloc (.cells #[.int .u8 (x.size : Int)] 5)).alloc (.cells #[.string ⟨#[UInt8.ofNat x.size]⟩, .string x] 9)) (some ⟨w3.heap.size + 1, 0, none⟩) [⟨#[UInt8.ofNat x.size]⟩, x]) := Lib.hid (by
    refine .inr ⟨_, 0, rfl, by simp, fun i hi => ?_⟩
    have hb := heap_old2 w3 (.cells #[.int .u8 (x.size : Int)] 5) (.cells #[.string ⟨#[UInt8.ofNat x.size]⟩, .string x] 9)
    rw [(cell_blk hb _).1, Nat.zero_add]
    have : i = 0 ∨ i = 1 := by simp at hi; omega
    rcases this with rfl | rfl <;> rfl)
  go_wp2_with fail
  refine (on_texts (HO.out.below B5.out) an (mn + 1) h3 (by omega) _ 2 [⟨#[UInt8.ofNat x.size]⟩, x] HSA.out (by simp) (by simp) HJ.out).mono ?_
  rintro e w6 ⟨rfl, hx6, hg⟩
  rw [HAD.out] at hx6 ⊢
  rw [HPS.out] at hx6
  rw [HTH.out]
  have HF := Lib.hid (And.intro hx6 ((Went.of_below HO.out B5.out).trans hg))
  clear hx6 hg c0 c1 c2 HCV
  go_wp2_with fail
  go_ret
  exact ⟨rfl, HF.out.1, HF.out.2⟩
theorem ldV_one (s : ASt) (an : Nat) (h : numE s.L s.es (an : Int) 1 = 0) : ldV s (an : Int) 1 = ((s.mm an).toNat : Int) := by
  unfold ldV
  rw [if_pos h, Int.toNat_natCast]
  show ((numV s.mm an 0 + (s.mm (an + 0)).toNat * 2 ^ (8 * 0) : Nat) : Int) = _
  simp [numV]
set_option maxHeartbeats 1000000 in
theorem ftext_yes (h : On A s w) (va vs : Nat) (h1 : va ≤ 4294967296) (h2 : vs ≤ 4294967296) (a m : Int) (ha : a ≤ 9223372036854775807) (hb : mostB m = true) (an k : Nat) (han : addrV va vs a (m + 1) = an) (he : thereE s.L s.es (addrV va vs a (m + 1)) (m + 1) = 0)
    (hk : (s.mm an).toNat = k) (hkm : (k : Int) ≤ m) :
    Calls Try.prog 78 #[vwV A va vs, .int .i64 a, .int .i64 m] w (Gives (.tuple #[.string (strL (getM s.mm (an + 1) k)), .int .i64 0]) w) := by
  have HB := Lib.hid hb; have HO := Lib.hid h
  have hm : 0 ≤ m ∧ m ≤ 255 := of_decide_eq_true hb
  obtain ⟨m0, m1⟩ := hm
  obtain ⟨mn, rfl⟩ : ∃ k : Nat, m = k := ⟨m.toNat, by omega⟩
  rw [han] at he
  have h3 : an ≤ 4294967296 := by
    have hh := (there_iff h.good an ((mn : Int) + 1)).1 (by unfold thereE at he; cases hq : thereB s.L s.es an ((mn : Int) + 1) with
      | true => rfl
      | false => rw [hq] at he; cases he)
    have := h.good.small
    omega
  have hA1 : addrV an (mn + 1) 0 1 = (an : Int) := by unfold addrV; rw [if_pos (by omega)]; omega
  have hA2 : addrV an (mn + 1) 1 k = ((an + 1 : Nat) : Int) := by unfold addrV; rw [if_pos (by omega)]; omega
  have hn1 : numE s.L s.es (an : Int) 1 = 0 := by
    unfold numE; rw [show wholeB 1 = true from rfl, if_pos rfl]; exact there_part h.good he (by omega) (by omega) (by omega)
  have hl : ldV s (an : Int) 1 = (k : Int) := by rw [ldV_one s an hn1, hk]
  have ht2 : thereE s.L s.es ((an + 1 : Nat) : Int) k = 0 := there_part h.good he (by omega) (by omega) (by omega)
  have hby : byV s ((an + 1 : Nat) : Int) k = strL (getM s.mm (an + 1) k) := by unfold byV; rw [if_pos ht2, Int.toNat_natCast, Int.toNat_natCast]
  have HE := Lib.hid he; have HA := Lib.hid han; have HA1 := Lib.hid hA1; have HA2 := Lib.hid hA2; have HN1 := Lib.hid hn1; have HL := Lib.hid hl; have HT2 := Lib.hid ht2; have HBY := Lib.hid hby
  have HV : Hid (∀ pu a k, ofV pu a k 0 = .agg #[.pointer pu, .int .i64 a, .int .i64 k]) := Lib.hid fun pu a k => by unfold ofV; rw [if_pos rfl]
  clear hb h he han hA1 hA2 hn1 hl ht2 hby hk
  generalize strL (getM s.mm (an + 1) k) = tx at *
  have k1 : (k : Int) ≤ 255 := by omega
  go_enter Try.func78, Try.ntmps78
  go_wp2_with fail
  refine (fmost_any (mn : Int) _).mono ?_
  rintro e w1 ⟨rfl, rfl⟩
  rw [HB.out]
  go_wp2_with fail
  refine (on_part (HO.out.below (bel1 _ _)) va vs h1 h2 a ((mn : Int) + 1) ha).mono ?_
  rintro e w2 ⟨rfl, hb⟩
  rw [HA.out, HE.out, HV.out]
  have B2 := Lib.hid ((bel1 w (.cells #[.pointer (some ⟨A, 0, none⟩), .int .i64 (va : Int), .int .i64 (vs : Int)] 27)).trans (hb.mono (by simp)))
  clear hb
  go_upto_region 6 with fail
  rw [show ((mn : Int) + 1) = ((mn + 1 : Nat) : Int) from by omega]
  have hv : VC w2.heap.size (some ⟨A, 0, none⟩) an (mn + 1) _ := heap_new w2 (.cells #[.pointer (some ⟨A, 0, none⟩), .int .i64 (an : Int), .int .i64 ((mn + 1 : Nat) : Int)] 27)
  have B3 := Lib.hid (B2.out.alloc B2.out.size (.cells #[.pointer (some ⟨A, 0, none⟩), .int .i64 (an : Int), .int .i64 ((mn + 1 : Nat) : Int)] 27))
  obtain ⟨w3, hw3⟩ : ∃ x, w2.alloc (.cells #[.pointer (some ⟨A, 0, none⟩), .int .i64 (an : Int), .int .i64 ((mn + 1 : Nat) : Int)] 27) = x := ⟨_, rfl⟩
  obtain ⟨V, hV⟩ : ∃ x, w2.heap.size = x := ⟨_, rfl⟩
  rw [hw3] at hv B3 ⊢
  rw [hV] at hv ⊢
  have HVC := Lib.hid hv
  have c0 := (cell_blk hv 0).1; have c1 := (cell_blk hv 1).1; have c2 := (cell_blk hv 2).1
  clear hw3 hV hv B2
  go_wp2_with fail
  refine (on_load (HO.out.below B3.out) an (mn + 1) h3 (by omega) 0 1 (by omega)).mono ?_
  rintro e w4 ⟨rfl, hb⟩
  rw [HA1.out, HL.out, HN1.out]
  have B4 := Lib.hid (B3.out.trans (hb.mono B3.out.size))
  have HVC4 := Lib.hid (HVC.out.below hb)
  clear hb c0 c1 c2 HVC
  have c0 := (cell_blk HVC4.out 0).1; have c1 := (cell_blk HVC4.out 1).1; have c2 := (cell_blk HVC4.out 2).1
  go_wp2_with fail
  refine (on_bytes (HO.out.below B4.out) an (mn + 1) h3 (by omega) 1 k (by omega)).mono ?_
  rintro e w5 ⟨rfl, hb⟩
  rw [HA2.out, HBY.out, HT2.out]
  have B5 := Lib.hid (B4.out.trans (hb.mono B4.out.size))
  clear hb c0 c1 c2 HVC4
  go_wp2_with fail
  go_ret2
  exact ⟨rfl, B5.out⟩
end
end Go.Proofs.Ytcbbhefgdonabaa.Bt
/- Keys: how many slots, and where each stands; an item told, and laid. (Written by gen_dka.py.) -/
namespace Go.Proofs.Ytcbbhefgdonabaa.Bt
open Go Go.RowKit Go.Shelf
set_option linter.unusedVariables false
set_option linter.unusedSimpArgs false
set_option maxRecDepth 100000
section
variable {A vs : Nat} {m : Nat → UInt8} {w : World}
theorem kslots1 (h : On A (cS m) w) (hv : vs ≤ 400) (F : Nat) (hF : w.heap[F]? = some (.cells (vwC A 40 vs) 67 (0, 0))) (i : Nat) (hi : i < vs / 32) :
    Calls Try.prog 76 (#[.int .i64 (i : Int)] ++ #[.pointer (some ⟨F, 0, none⟩)]) w (Gives (.bool false) w) := by
  have hp : Hid (∀ X, On A (cS m) X → Calls Try.prog 61 #[vwV A 40 vs, .int .i64 0, .int .i64 (((i : Int) + 1) * 32)] X (Gives (.tuple #[.agg #[.pointer (some ⟨A, 0, none⟩), .int .i64 40, .int .i64 (((i : Int) + 1) * 32)], .int .i64 0]) X)) := Lib.hid fun X hX => by
    have := on_part hX 40 vs (by omega) (by omega) 0 (((i : Int) + 1) * 32) (by omega)
    rw [addr_in (by omega), cS_there (by omega) (by omega) (by omega), ofV_ok] at this
    exact this
  have c0 := (cell_blk hF 0).1; have c1 := (cell_blk hF 1).1; have c2 := (cell_blk hF 2).1
  have hi2 : (i : Int) ≤ 17 := by omega
  have HO := Lib.hid h
  clear hi hF h
  go_enter Try.func76, Try.ntmps76
  go_wp2_with fail
  refine (hp.out _ HO.out).mono ?_
  rintro e w1 ⟨rfl, hb⟩
  have HB := Lib.hid hb
  clear hb c0 c1 c2
  go_wp2_with fail
  go_ret
  exact ⟨rfl, HB.out.alloc HB.out.size _⟩
set_option maxHeartbeats 1000000 in
/-- how many slots -/
theorem kslots (h : On A (cS m) w) (hv : vs ≤ 400) : Calls Try.prog 48 #[vwV A 40 vs] w (Gives (.int .i64 ((vs / 32 : Nat) : Int)) w) := by
  have eg : ∀ args w, (callFunc 76 args).run Try.prog w = .ok (.enter 76 args) w := enters_of Try.func76 (by kernel_rfl) rfl
  have q1 : IntKind.i64.wrap ((vs : Int).tdiv 32) = ((vs / 32 : Nat) : Int) := by rw [Int.tdiv_eq_ediv_of_nonneg (by omega), IntWalk.i64_in _ (by omega)]; omega
  have q2 : (vs : Int).tdiv 32 = ((vs / 32 : Nat) : Int) := by rw [Int.tdiv_eq_ediv_of_nonneg (by omega)]; omega
  have q5 : (vs : Int) / 32 = ((vs / 32 : Nat) : Int) := by omega
  obtain ⟨d, hd⟩ : ∃ d, vs / 32 = d := ⟨_, rfl⟩
  have hd17 : d ≤ 17 := by omega
  have HS := Lib.hid fun (X : World) (F : Nat) (hX : On A (cS m) X) (hF : X.heap[F]? = some (.cells (vwC A 40 vs) 67 (0, 0))) =>
    searchN 76 #[.pointer (some ⟨F, 0, none⟩)] eg d (by omega) X fun Y i hY hi => kslots1 (hX.below hY) hv F ((hY.block _ (Array.getElem?_eq_some_iff.1 hF).1).trans hF) i (by omega)
  rw [hd] at q1 q2 q5
  rw [hd]
  have q4 : wrap64 (d : Int) = (d : Int) := IntWalk.wrap64_in _ ⟨by omega, by omega⟩
  have HQ := Lib.hid (And.intro q1 (And.intro q2 (And.intro q4 q5)))
  clear q1 q2 q4 q5 hd hd17 eg
  have HF := Lib.hid (And.intro (heap_new w (.cells (vwC A 40 vs) 67)) (And.intro (h.below (bel1 w (.cells (vwC A 40 vs) 67))) (bel1 w (.cells (vwC A 40 vs) 67))))
  clear h
  go_enter Try.func48, Try.ntmps48
  go_upto_region 1 with fail
  change Code.wp _ _ _ _ (w.alloc (.cells (vwC A 40 vs) 67))
  obtain ⟨y, hy⟩ : ∃ y, w.alloc (.cells (vwC A 40 vs) 67) = y := ⟨_, rfl⟩
  obtain ⟨F, hFF⟩ : ∃ F, w.heap.size = F := ⟨_, rfl⟩
  have hf := HF.out
  rw [hy, hFF] at hf
  rw [hy, hFF]
  have HWF := Lib.hid hFF
  have HG := Lib.hid hf
  clear hy hFF hf HF
  have c0 := (cell_blk HG.out.1 0).1; have c1 := (cell_blk HG.out.1 1).1; have c2 := (cell_blk HG.out.1 2).1
  go_wp2_with fail
  refine (vsize_any (some ⟨A, 0, none⟩) 40 vs _).mono ?_
  rintro e w1 ⟨rfl, hb⟩
  have HG1 : Hid (w1.heap[F]? = some (.cells (vwC A 40 vs) 67 (0, 0)) ∧ On A (cS m) w1 ∧ Below w.heap.size w w1) := Lib.hid ⟨blk_at hb HG.out.1, HG.out.2.1.below hb, (HWF.out ▸ HG.out.2.2).trans (hb.mono (by have := HG.out.2.2.size; omega))⟩
  clear hb c0 c1 c2 HG
  obtain ⟨q1, q2, q4, q5⟩ := HQ.out
  go_wp2_with fail
  refine (HS.out _ _ HG1.out.2.1 HG1.out.1).mono ?_
  rintro e w2 ⟨rfl, hb⟩
  have HB2 := Lib.hid (HG1.out.2.2.trans (hb.mono HG1.out.2.2.size))
  clear hb
  go_wp2_with fail
  go_ret
  exact ⟨rfl, HB2.out⟩
theorem kslots_nil (w : World) : Calls Try.prog 48 #[zvV] w (Gives (.int .i64 0) w) := by
  have eg : ∀ args w, (callFunc 76 args).run Try.prog w = .ok (.enter 76 args) w := enters_of Try.func76 (by kernel_rfl) rfl
  have HS := Lib.hid fun (X : World) (F : Nat) =>
    searchN 76 #[.pointer (some ⟨F, 0, none⟩)] eg 0 (by omega) X fun Y i hY hi => absurd hi (by omega)
  have HF := Lib.hid (And.intro (heap_new w (.cells zvC 67)) (bel1 w (.cells zvC 67)))
  clear eg
  go_enter Try.func48, Try.ntmps48
  go_upto_region 1 with fail
  change Code.wp _ _ _ _ (w.alloc (.cells zvC 67))
  obtain ⟨y, hy⟩ : ∃ y, w.alloc (.cells zvC 67) = y := ⟨_, rfl⟩
  obtain ⟨F, hFF⟩ : ∃ F, w.heap.size = F := ⟨_, rfl⟩
  have hf := HF.out
  rw [hy, hFF] at hf
  rw [hy, hFF]
  have HWF := Lib.hid hFF
  have HG := Lib.hid hf
  clear hy hFF hf HF
  have c0 := (cell_blk HG.out.1 0).1; have c1 := (cell_blk HG.out.1 1).1; have c2 := (cell_blk HG.out.1 2).1
  go_wp2_with fail
  refine (vsize_any none 0 0 _).mono ?_
  rintro e w1 ⟨rfl, hb⟩
  have HB1 : Hid (Below w.heap.size w w1) := Lib.hid ((HWF.out ▸ HG.out.2).trans (hb.mono (by have := HG.out.2.size; omega)))
  clear hb c0 c1 c2 HG
  go_wp2_with fail
  refine (HS.out _ _).mono ?_
  rintro e w2 ⟨rfl, hb⟩
  have HB2 := Lib.hid (HB1.out.trans (hb.mono HB1.out.size))
  clear hb
  go_wp2_with fail
  go_ret
  exact ⟨rfl, HB2.out⟩
/-- where a slot stands -/
theorem kslot (h : On A (cS m) w) (hv : vs ≤ 400) (i : Nat) (hi : i < vs / 32) : Calls Try.prog 77 #[vwV A 40 vs, .int .i64 (i : Int)] w (Gives (vwV A (40 + 32 * i) 32) w) := by
  have e : addrV 40 vs ((i : Int) * 32) 32 = ((40 + 32 * i : Nat) : Int) := by rw [addr_in (by omega)]; push_cast; omega
  have hp : Hid (∀ X, On A (cS m) X → Calls Try.prog 61 #[vwV A 40 vs, .int .i64 ((i : Int) * 32), .int .i64 32] X (Gives (.tuple #[vwV A (40 + 32 * i) 32, .int .i64 0]) X)) := Lib.hid fun X hX => by
    have := on_part hX 40 vs (by omega) (by omega) ((i : Int) * 32) 32 (by omega)
    rw [e, cS_there (by omega) (by omega) (by omega), ofV_ok] at this
    exact this
  have hi2 : (i : Int) ≤ 17 := by omega
  clear hi e
  have HF := Lib.hid (((Fb.start w).new (vwC A 40 vs) 67).new zvC 27)
  have HO := Lib.hid h
  clear h
  go_enter Try.func77, Try.ntmps77
  go_upto_region 1 with fail
  change Code.wp _ _ _ _ ((w.alloc (.cells (vwC A 40 vs) 67)).alloc (.cells zvC 27))
  obtain ⟨y, hy⟩ : ∃ y, (w.alloc (.cells (vwC A 40 vs) 67)).alloc (.cells zvC 27) = y := ⟨_, rfl⟩
  obtain ⟨C, hC⟩ : ∃ C, w.heap.size = C := ⟨_, rfl⟩
  obtain ⟨O, hO⟩ : ∃ O, (w.alloc (.cells (vwC A 40 vs) 67)).heap.size = O := ⟨_, rfl⟩
  have hO2 : w.heap.size + 1 = O := by rw [← hO]; simp
  have hf := HF.out
  rw [hy, hO, hC] at hf
  rw [hy, hO2, hC]
  have HG := Lib.hid hf
  clear hy hC hO hO2 hf HF
  have c0 := HG.out.cell1 0 rfl; have c1 := HG.out.cell1 1 rfl; have c2 := HG.out.cell1 2 rfl
  go_wp2_with fail
  refine (hp.out _ (HO.out.below HG.out.be)).mono ?_
  rintro e w1 ⟨rfl, hb⟩
  have HG1 := Lib.hid (HG.out.below hb)
  clear hb HG c0 c1 c2
  go_upto_region 2 with fail
  have HG2 := Lib.hid (HG1.out.new (vwC A (40 + 32 * i) 32) 27)
  change Code.wp _ _ _ _ (w1.alloc (.cells (vwC A (40 + 32 * i) 32) 27))
  obtain ⟨w2, hw2⟩ : ∃ y, w1.alloc (.cells (vwC A (40 + 32 * i) 32) 27) = y := ⟨_, rfl⟩
  obtain ⟨V, hV⟩ : ∃ F, w1.heap.size = F := ⟨_, rfl⟩
  rw [hw2, hV] at HG2
  rw [hw2, hV]
  clear hw2 hV HG1
  have v0 := HG2.out.cell0 0 rfl; have v1 := HG2.out.cell0 1 rfl; have v2 := HG2.out.cell0 2 rfl
  have r0 := HG2.out.cell1 0 rfl; have r1 := HG2.out.cell1 1 rfl; have r2 := HG2.out.cell1 2 rfl
  have f0 := HG2.out.free1 0; have f1 := HG2.out.free1 1; have f2 := HG2.out.free1 2
  go_wp2_with fail
  change bodyPost _ _ _ _ _ (stR w2 O [.pointer (some ⟨A, 0, none⟩), .int .i64 ((40 + 32 * i : Nat) : Int), .int .i64 ((32 : Nat) : Int)] 0)
  have hz := HG2.out.stores1 [.pointer (some ⟨A, 0, none⟩), .int .i64 ((40 + 32 * i : Nat) : Int), .int .i64 ((32 : Nat) : Int)] 0
  obtain ⟨z, hzz⟩ : ∃ z, stR w2 O [.pointer (some ⟨A, 0, none⟩), .int .i64 ((40 + 32 * i : Nat) : Int), .int .i64 ((32 : Nat) : Int)] 0 = z := ⟨_, rfl⟩
  rw [hzz] at hz ⊢
  have hz : Fb w [⟨V, vwC A (40 + 32 * i) 32, 27⟩, ⟨O, vwC A (40 + 32 * i) 32, 27⟩, ⟨C, vwC A 40 vs, 67⟩] z := hz
  have g0 := hz.cell1 0 rfl; have g1 := hz.cell1 1 rfl; have g2 := hz.cell1 2 rfl
  exact bodyPost_ret (v := vwV A (40 + 32 * i) 32) (by simp [results, Try.results77, go_sem, g0, g1, g2]) rfl ⟨rfl, hz.be⟩

abbrev iV (t : Itm) : Value := .agg #[.string t.k, .int .u64 (t.x : Int)]
theorem strL_key (k : ByteArray) : strL k.data.toList = k := by unfold strL; rfl
/-- what a slot tells -/
def rdT (m : Nat → UInt8) (a : Nat) : Itm := ⟨strL (getM m (a + 1) (m a).toNat), numV m (a + 24) 8⟩
theorem ItAt.tell {m : Nat → UInt8} {a : Nat} {t : Itm} (h : ItAt m a t) : rdT m a = t := by
  unfold rdT
  rw [h.n, h.b, h.x, strL_key]
set_option maxHeartbeats 4000000 in
/-- the item in a slot -/
theorem kload (h : On A (cS m) w) (hv : vs ≤ 400) (i : Nat) (hi : i < vs / 32) (hk : (m (40 + 32 * i)).toNat ≤ 16) : Calls Try.prog 49 #[vwV A 40 vs, .int .i64 (i : Int)] w (Gives (iV (rdT m (40 + 32 * i))) w) := by
  have HSL := Lib.hid fun X (hX : On A (cS m) X) => kslot hX hv i hi
  have han : 40 + 32 * i + 32 ≤ 4096 := by omega
  have HTX : Hid (∀ X, On A (cS m) X → Calls Try.prog 78 #[vwV A (40 + 32 * i) 32, .int .i64 0, .int .i64 16] X (Gives (.tuple #[.string (strL (getM m (40 + 32 * i + 1) (m (40 + 32 * i)).toNat)), .int .i64 0]) X)) := Lib.hid fun X hX => by
    have ea : addrV (40 + 32 * i) 32 0 (16 + 1) = ((40 + 32 * i : Nat) : Int) := by rw [addr_in (by omega)]; omega
    exact ftext_yes hX (40 + 32 * i) 32 (by omega) (by omega) 0 16 (by omega) (by decide) (40 + 32 * i) _ ea (by rw [ea]; exact cS_there (by omega) (by omega) (by omega)) rfl (by show ((m (40 + 32 * i)).toNat : Int) ≤ 16; omega)
  have HLD : Hid (∀ X, On A (cS m) X → Calls Try.prog 79 #[vwV A (40 + 32 * i) 32, .int .i64 24, .int .i64 8] X (Gives (.tuple #[.int .u64 ((numV m (40 + 32 * i + 24) 8 : Nat) : Int), .int .i64 0]) X)) := Lib.hid fun X hX => by
    have ea : addrV (40 + 32 * i) 32 24 8 = ((40 + 32 * i + 24 : Nat) : Int) := by rw [addr_in (by omega)]; push_cast; rfl
    have hn : numE (cS m).L (cS m).es ((40 + 32 * i + 24 : Nat) : Int) 8 = 0 := by exact cS_there (by omega) (by omega) (by omega)
    have := on_load hX (40 + 32 * i) 32 (by omega) (by omega) 24 8 (by omega)
    rw [ea, hn, show ldV (cS m) ((40 + 32 * i + 24 : Nat) : Int) 8 = ((numV m (40 + 32 * i + 24) 8 : Nat) : Int) from by unfold ldV; rw [if_pos hn, Int.toNat_natCast]; rfl] at this
    exact this
  unfold rdT
  obtain ⟨a, ha⟩ : ∃ a, 40 + 32 * i = a := ⟨_, rfl⟩
  rw [ha] at HSL HTX HLD
  rw [ha]
  obtain ⟨K, hK⟩ : ∃ K, strL (getM m (a + 1) (m a).toNat) = K := ⟨_, rfl⟩
  obtain ⟨x, hx⟩ : ∃ x, numV m (a + 24) 8 = x := ⟨_, rfl⟩
  rw [hK] at HTX
  rw [hx] at HLD
  rw [hK, hx]
  have HO := Lib.hid h
  clear h hi han ha hK hx hk
  have HF0 := Lib.hid (((Fb.start w).new (vwC A 40 vs) 67).new #[.string ⟨#[]⟩, .int .u64 0] 75)
  go_enter Try.func49, Try.ntmps49
  go_upto_region 1 with fail
  change Code.wp _ _ _ _ ((w.alloc (.cells (vwC A 40 vs) 67)).alloc (.cells #[.string ⟨#[]⟩, .int .u64 0] 75))
  obtain ⟨y, hy⟩ : ∃ y, ((w.alloc (.cells (vwC A 40 vs) 67)).alloc (.cells #[.string ⟨#[]⟩, .int .u64 0] 75)) = y := ⟨_, rfl⟩
  obtain ⟨B0, hB0⟩ : ∃ B, w.heap.size = B := ⟨_, rfl⟩
  obtain ⟨B1, hB1⟩ : ∃ B, (w.alloc (.cells (vwC A 40 vs) 67)).heap.size = B := ⟨_, rfl⟩
  have hC1 : w.heap.size + 1 = B1 := by rw [← hB1]; simp
  have hf := HF0.out
  rw [hy, hB1, hB0] at hf
  rw [hy, hC1, hB0]
  have HF := Lib.hid hf
  clear hf HF0 hy hB0 hB1 hC1
  have c0 := HF.out.cell1 0 rfl; have c1 := HF.out.cell1 1 rfl; have c2 := HF.out.cell1 2 rfl
  go_wp2_with fail
  refine (HSL.out _ (HO.out.below HF.out.be)).mono ?_
  rintro e w1 ⟨rfl, hb⟩
  have HF1 := Lib.hid ((HF.out.below hb).new (vwC A a 32) 27)
  clear hb HF c0 c1 c2 HSL
  go_upto_region 2 with fail
  change Code.wp _ _ _ _ (w1.alloc (.cells (vwC A a 32) 27))
  obtain ⟨y1, hy⟩ : ∃ z, w1.alloc (.cells (vwC A a 32) 27) = z := ⟨_, rfl⟩
  obtain ⟨V, hV⟩ : ∃ V, w1.heap.size = V := ⟨_, rfl⟩
  rw [hy, hV] at HF1
  rw [hy, hV]
  clear hy hV
  have c0 := HF1.out.cell0 0 rfl; have c1 := HF1.out.cell0 1 rfl; have c2 := HF1.out.cell0 2 rfl
  go_wp2_with fail
  refine (HTX.out _ (HO.out.below HF1.out.be)).mono ?_
  rintro e w2 ⟨rfl, hb⟩
  have HF2 := Lib.hid (HF1.out.below hb)
  clear hb HF1 c0 c1 c2 HTX
  have c0 := HF2.out.cell0 0 rfl; have c1 := HF2.out.cell0 1 rfl; have c2 := HF2.out.cell0 2 rfl
  go_wp2_with fail
  refine (HLD.out _ (HO.out.below HF2.out.be)).mono ?_
  rintro e w3 ⟨rfl, hb⟩
  have HF3 := Lib.hid (HF2.out.below hb)
  clear hb HF2 c0 c1 c2 HLD
  have o0 := HF3.out.cell1 0 rfl; have o1 := HF3.out.cell1 1 rfl
  have f0 := HF3.out.free1 0; have f1 := HF3.out.free1 1
  go_wp2_with fail
  have hst : Fb w [⟨V, vwC A a 32, 27⟩, ⟨B1, #[.string K, .int .u64 (x : Int)], 75⟩, ⟨B0, vwC A 40 vs, 67⟩] (stR w3 B1 [.string K, .int .u64 (x : Int)] 0) := HF3.out.stores1 [.string K, .int .u64 (x : Int)] 0
  change bodyPost _ _ _ _ _ (stR w3 B1 [.string K, .int .u64 (x : Int)] 0)
  obtain ⟨z, hzz⟩ : ∃ z, stR w3 B1 [.string K, .int .u64 (x : Int)] 0 = z := ⟨_, rfl⟩
  rw [hzz] at hst ⊢
  have g0 := hst.cell1 0 rfl; have g1 := hst.cell1 1 rfl
  have HST := Lib.hid hst
  clear hst
  exact bodyPost_ret (v := .agg #[.string K, .int .u64 (x : Int)]) (by simp [results, Try.results49, go_sem, g0, g1]) rfl ⟨rfl, HST.out.be⟩
set_option maxHeartbeats 4000000 in
/-- an item is laid in a slot -/
theorem kstore (h : On A (cS m) w) (hv : vs ≤ 400) (i : Nat) (hi : i < vs / 32) (t : Itm) (ht : t.ok) : Calls Try.prog 75 #[vwV A 40 vs, .int .i64 (i : Int), iV t] w (Ret A (cS (stT m (40 + 32 * i) t)) (.tuple #[]) w) := by
  have HSL := Lib.hid fun X (hX : On A (cS m) X) => kslot hX hv i hi
  have hsz := ht.2.1
  have hx8 := ht.2.2
  obtain ⟨m1, hm1⟩ : ∃ m1, putM m (40 + 32 * i) (UInt8.ofNat t.k.size :: t.k.data.toList) = m1 := ⟨_, rfl⟩
  have HTX : Hid (∀ X, On A (cS m) X → Calls Try.prog 91 #[vwV A (40 + 32 * i) 32, .int .i64 0, .int .i64 16, .string t.k] X (Ret A (cS m1) (.int .i64 0) X)) := Lib.hid fun X hX => by
    have ea : addrV (40 + 32 * i) 32 0 (16 + 1) = ((40 + 32 * i : Nat) : Int) := by rw [addr_in (by omega)]; omega
    have := fput_yes hX (40 + 32 * i) 32 (by omega) (by omega) 0 16 (by omega) t.k (by decide) (by omega) (40 + 32 * i) ea (by rw [ea]; exact cS_there (by omega) (by omega) (by omega))
    unfold txtS at this
    rw [show ({ cS m with mm := putM (cS m).mm (40 + 32 * i) (UInt8.ofNat t.k.size :: t.k.data.toList) } : ASt) = cS m1 from by rw [← hm1]; rfl] at this
    exact this
  have HLD : Hid (∀ X, On A (cS m1) X → Calls Try.prog 87 #[vwV A (40 + 32 * i) 32, .int .i64 24, .int .i64 8, .int .u64 (t.x : Int)] X (Ret A (cS (stT m (40 + 32 * i) t)) (.int .i64 0) X)) := Lib.hid fun X hX => by
    have ea : addrV (40 + 32 * i) 32 24 8 = ((40 + 32 * i + 24 : Nat) : Int) := by rw [addr_in (by omega)]; push_cast; rfl
    have hn : numE (cS m1).L (cS m1).es ((40 + 32 * i + 24 : Nat) : Int) 8 = 0 := by exact cS_there (by omega) (by omega) (by omega)
    have := on_store hX (40 + 32 * i) 32 (by omega) (by omega) 24 8 (t.x : Int) (by omega) (by omega)
    rw [ea, hn, show storeS (cS m1) ((40 + 32 * i + 24 : Nat) : Int) 8 (t.x : Int) = cS (stT m (40 + 32 * i) t) from by unfold storeS; rw [if_pos hn]; unfold stT put8; rw [hm1]; rfl] at this
    exact this
  obtain ⟨sW, hsW⟩ : ∃ s, cS (stT m (40 + 32 * i) t) = s := ⟨_, rfl⟩
  obtain ⟨a, ha⟩ : ∃ a, 40 + 32 * i = a := ⟨_, rfl⟩
  rw [hsW, ha] at HLD
  rw [ha] at HSL HTX
  rw [hsW]
  have hl9 : t.k.size ≤ 9223372036854775807 := by omega
  clear hi ha hm1 hsW ht hx8
  have f0_ := Fr.start A w
  have f1_ := f0_.new h (vwC A 40 vs) 67 (by unfold NotAr; decide)
  have h1_ := h.below (bel1 _ (.cells (vwC A 40 vs) 67))
  have f2_ := f1_.new h1_ #[.string t.k, .int .u64 (t.x : Int)] 75 (by unfold NotAr; decide)
  have h2_ := h1_.below (bel1 _ (.cells #[.string t.k, .int .u64 (t.x : Int)] 75))
  have HF0 := Lib.hid (And.intro f2_ h2_)
  clear f0_ f1_ f2_ h1_ h2_ h
  go_enter Try.func75, Try.ntmps75
  go_upto_region 1 with fail
  change Code.wp _ _ _ _ ((w.alloc (.cells (vwC A 40 vs) 67)).alloc (.cells #[.string t.k, .int .u64 (t.x : Int)] 75))
  obtain ⟨y, hy⟩ : ∃ y, ((w.alloc (.cells (vwC A 40 vs) 67)).alloc (.cells #[.string t.k, .int .u64 (t.x : Int)] 75)) = y := ⟨_, rfl⟩
  obtain ⟨B0, hB0⟩ : ∃ B, w.heap.size = B := ⟨_, rfl⟩
  obtain ⟨B1, hB1⟩ : ∃ B, (w.alloc (.cells (vwC A 40 vs) 67)).heap.size = B := ⟨_, rfl⟩
  have hC1 : w.heap.size + 1 = B1 := by rw [← hB1]; simp
  have hf := HF0.out
  rw [hy, hB1, hB0] at hf
  rw [hy, hC1, hB0]
  have HF := Lib.hid hf
  clear hf HF0 hy hB0 hB1 hC1
  have c0 := HF.out.1.cell1 0 rfl; have c1 := HF.out.1.cell1 1 rfl; have c2 := HF.out.1.cell1 2 rfl
  go_wp2_with fail
  refine (HSL.out _ HF.out.2).mono ?_
  rintro e w1 ⟨rfl, hb⟩
  have HF1 := Lib.hid (And.intro ((HF.out.1.below HF.out.2 hb).new (HF.out.2.below hb) (vwC A a 32) 27 (by unfold NotAr; decide)) ((HF.out.2.below hb).below (bel1 w1 (.cells (vwC A a 32) 27))))
  clear hb HF c0 c1 c2 HSL
  go_upto_region 2 with fail
  change Code.wp _ _ _ _ (w1.alloc (.cells (vwC A a 32) 27))
  obtain ⟨y1, hy⟩ : ∃ z, w1.alloc (.cells (vwC A a 32) 27) = z := ⟨_, rfl⟩
  obtain ⟨V, hV⟩ : ∃ V, w1.heap.size = V := ⟨_, rfl⟩
  rw [hy, hV] at HF1
  rw [hy, hV]
  clear hy hV
  have c0 := HF1.out.1.cell0 0 rfl; have c1 := HF1.out.1.cell0 1 rfl; have c2 := HF1.out.1.cell0 2 rfl
  have e0 := HF1.out.1.cell1 0 rfl; have e1 := HF1.out.1.cell1 1 rfl
  go_wp2_with fail
  refine (HTX.out _ HF1.out.2).mono ?_
  rintro e w2 ⟨rfl, ho, hg⟩
  have HF2 := Lib.hid (And.intro (HF1.out.1.went HF1.out.2 hg) ho)
  clear ho hg HF1 c0 c1 c2 e0 e1 HTX
  have c0 := HF2.out.1.cell0 0 rfl; have c1 := HF2.out.1.cell0 1 rfl; have c2 := HF2.out.1.cell0 2 rfl
  have e0 := HF2.out.1.cell1 0 rfl; have e1 := HF2.out.1.cell1 1 rfl
  go_wp2_with fail
  refine (HLD.out _ HF2.out.2).mono ?_
  rintro e w3 ⟨rfl, ho, hg⟩
  have HF3 := Lib.hid (And.intro (HF2.out.1.went HF2.out.2 hg) ho)
  clear ho hg HF2 c0 c1 c2 e0 e1 HLD
  go_wp2_with fail
  exact bodyPost_ret (v := .tuple #[]) (by simp [results, Try.results75, go_sem]) rfl ⟨rfl, HF3.out.2, HF3.out.1.wt⟩
end
end Go.Proofs.Ytcbbhefgdonabaa.Bt
/- A list of cleanups: its layout, and the entry in a slot. (Written by gen_ceb.py.) -/
namespace Go.Proofs.Ytcbbhefgdonabaa.Bt
open Go Go.RowKit Go.Shelf
set_option linter.unusedVariables false
set_option linter.unusedSimpArgs false
set_option maxRecDepth 100000
theorem clayout (w : World) : Calls Try.prog 36 #[] w (Gives (.agg (recC 4 F3)) w) := by
  have HSZ : Hid (∀ f, (Try.prog.info? 88).map (·.size) = some (recC 4 f).size) := Lib.hid (fun f => by rw [recC_size]; exact Try.infoRec)
  have HX := Lib.hid ok3
  go_enter Try.func36, Try.ntmps36
  go_upto_region 1 with fail
  obtain ⟨x, hx⟩ : ∃ x, w.alloc (.cells rec0 88) = x := ⟨_, rfl⟩
  have hR : x.heap[w.heap.size]? = some (.cells rec0 88 (0, 0)) := by rw [← hx]; exact heap_new _ _
  have bx : Below w.heap.size w x := by rw [← hx]; exact bel1 _ _
  change Code.wp _ _ _ _ (w.alloc (.cells rec0 88))
  rw [hx]
  obtain ⟨R, hRR⟩ : ∃ R, w.heap.size = R := ⟨_, rfl⟩
  rw [hRR] at hR ⊢
  have HR := Lib.hid hR; have BX := Lib.hid bx; have HRR := Lib.hid (show w.heap.size ≤ R by omega)
  clear hR bx hx hRR
  go_wp2_with fail
  have hws : WsAt (x.alloc (.cells #[.int .i64 8, .int .i64 1, .int .i64 1, .int .i64 8] 3)) (some ⟨x.heap.size, 0, none⟩) [8, 1, 1, 8] := by
    refine .inr ⟨x.heap.size, 0, rfl, by simp, fun i hi => ?_⟩
    rw [(cell_blk (heap_new x _) _).1, Nat.zero_add]
    have : i = 0 ∨ i = 1 ∨ i = 2 ∨ i = 3 := by simp at hi; omega
    rcases this with rfl | rfl | rfl | rfl <;> rfl
  refine (of_in _ 4 4 [8, 1, 1, 8] rfl (by omega) (by omega) _ hws).mono ?_
  rintro e w1 ⟨rfl, hb⟩
  rw [HX.out]
  have b1 := (bel1 x (.cells #[.int .i64 8, .int .i64 1, .int .i64 1, .int .i64 8] 3)).trans (hb.mono (by simp))
  have HR1 := Lib.hid (blk_at b1 HR.out)
  have B1 := Lib.hid (BX.out.trans (b1.mono BX.out.size))
  clear hws hb b1 HR BX
  go_upto_region 2 with (refine wpList_store_row rfl 88 (.tmp 1) (.tmp 6) rfl w1.heap.size (recC 4 F3) rfl rfl 88 rec0 (heap_new _ _) (HSZ.out _) (by rw [rec0_size, recC_size]) (rec_one _ _) ?_; simp only [Act.put, List.setIfInBounds_toArray, List.set_cons_zero, List.set_cons_succ])
  obtain ⟨y, hy⟩ : ∃ y, (w1.alloc (.cells rec0 88)).setRow w1.heap.size (recC 4 F3) = y := ⟨_, rfl⟩
  obtain ⟨R1, hR1⟩ : ∃ B, w1.heap.size = B := ⟨_, rfl⟩
  have hv : y.heap[R1]? = some (.cells (recC 4 F3) 88 (0, 0)) := by rw [← hy, ← hR1]; exact setRow_ad (heap_new _ _) _
  have by_ : Below w.heap.size w y := by rw [← hy]; exact below_setRow (B1.out.alloc B1.out.size _) B1.out.size _
  have hr : y.heap[R]? = some (.cells rec0 88 (0, 0)) := by
    have hlt := (Array.getElem?_eq_some_iff.1 HR1.out).1
    rw [← hy, setRow_other _ _ _ _ (by omega)]
    exact (Below.heap_alloc _ _ _ hlt).trans HR1.out
  change Code.wp _ _ _ _ ((w1.alloc (.cells rec0 88)).setRow w1.heap.size (recC 4 F3))
  rw [hy, hR1]
  have HV := Lib.hid hv; have BY := Lib.hid by_; have HR2 := Lib.hid hr
  clear hv by_ hy hR1 hr B1 HR1
  go_wp2_with (first | (refine wpList_load_row rfl 88 (.tmp 1) rfl R1 rfl 88 (recC 4 F3) (0, 0) _ HV.out Try.underlying88 rfl (HSZ.out _) ?_) | (refine wpList_store_row rfl 88 (.tmp 0) (.tmp 8) rfl R (recC 4 F3) rfl rfl 88 rec0 HR2.out (HSZ.out _) (by rw [rec0_size, recC_size]) (rec_one _ _) ?_))
  have hl := run_loadVar_row (P := Try.prog) (y.setRow R (recC 4 F3)) R 88 88 (recC 4 F3) (0, 0) _ (setRow_ad HR2.out _) Try.underlying88 rfl (HSZ.out _)
  exact bodyPost_ret (v := .agg (recC 4 F3)) (by simp [results, Try.results36, asAddr, hl, Act.put]) rfl ⟨rfl, below_setRow BY.out HRR.out _⟩

theorem Fb.plus {w0 x y : World} {L : List Blk} {N : Nat} {c : Array Value} {T : TypeId} (h : Fb w0 L x) (hb : Below x.heap.size x y) (hN : y.heap[N]? = some (.cells c T (0, 0))) (hl : x.heap.size ≤ N) : Fb w0 (⟨N, c, T⟩ :: L) y := by
  have h2 := h.below hb
  refine ⟨fun z hz => ?_, List.pairwise_cons.2 ⟨fun z hz => ?_, h2.nd⟩, h2.be⟩
  · rcases List.mem_cons.1 hz with rfl | hz
    · exact ⟨hN, Nat.le_trans h.be.size hl⟩
    · exact h2.bs z hz
  · have := (Array.getElem?_eq_some_iff.1 (h.bs z hz).1).1
    show N ≠ z.r
    omega
section
variable {A vs : Nat} {m : Nat → UInt8} {w : World}
theorem addr_sl (an : Nat) : addrV an 24 0 (F3 4 : Nat) = an := by rw [F3_at.2.2.2.2, addr_in (by omega)]; omega
theorem nums_e (m : Nat → UInt8) (an : Nat) : numC 4 (allV (cS m) an F3) 4 = #[.int .u64 ((rdE m an).i : Int), .int .u64 ((rdE m an).k : Int), .int .u64 ((rdE m an).l : Int), .int .u64 ((rdE m an).x : Int)] := rfl
def NumP (A vs O C : Nat) (w : World) (e : Ent) (s5 : Value) (x : World) : Prop :=
  ∃ N, s5 = .slice (some ⟨N, 0, none⟩) 4 4 ∧ Hid (Fb w [⟨N, #[.int .u64 (e.i : Int), .int .u64 (e.k : Int), .int .u64 (e.l : Int), .int .u64 (e.x : Int)], 33⟩, ⟨O, eC eZ, 35⟩, ⟨C, vwC A 40 vs, 29⟩] x)
set_option maxRecDepth 100000 in
set_option maxHeartbeats 4000000 in
/-- the entry in a slot -/
theorem cload (h : On A (cS m) w) (hv : vs ≤ 400) (i : Nat) (hi : i < vs / 24) : Calls Try.prog 39 #[vwV A 40 vs, .int .i64 (i : Int)] w (Gives (eV (rdE m (40 + 24 * i))) w) := by
  have HSL := Lib.hid fun X (hX : On A (cS m) X) => cslot hX hv i hi
  have han : 40 + 24 * i + 24 ≤ 4096 := by omega
  have HAL : Hid (∀ X, On A (cS m) X → Calls Try.prog 66 #[.agg (recC 4 F3), vwV A (40 + 24 * i) 24] X (AllPf 4 (allV (cS m) (40 + 24 * i) F3) X)) := Lib.hid fun X hX => by
    refine fall_on hX 4 F3 rec3 (40 + 24 * i) 24 (by omega) (by omega) (40 + 24 * i) (addr_sl _) ?_
    rw [addr_sl, F3_at.2.2.2.2]
    exact cS_there (by omega) (by omega) (by omega)
  have hne := nums_e m (40 + 24 * i)
  obtain ⟨b0, b1, b2, b3⟩ := rdE_ok m (40 + 24 * i)
  unfold AllPf at HAL
  rw [hne] at HAL
  obtain ⟨E, hE⟩ : ∃ E, rdE m (40 + 24 * i) = E := ⟨_, rfl⟩
  rw [hE] at HAL b0 b1 b2 b3
  rw [hE]
  have q1 : IntKind.u8.wrap (E.k : Int) = (E.k : Int) := by rw [IntKind.wrap_u8]; omega
  have q2 : IntKind.u8.wrap (E.l : Int) = (E.l : Int) := by rw [IntKind.wrap_u8]; omega
  have HQ := Lib.hid (And.intro q1 q2)
  have HO := Lib.hid h
  have HF := Lib.hid (((Fb.start w).new (vwC A 40 vs) 29).new (eC eZ) 35)
  clear h hi han hne hE b0 b1 b2 b3 q1 q2
  go_enter Try.func39, Try.ntmps39
  go_upto_region 1 with fail
  change Code.wp _ _ _ _ ((w.alloc (.cells (vwC A 40 vs) 29)).alloc (.cells (eC eZ) 35))
  obtain ⟨y, hy⟩ : ∃ y, (w.alloc (.cells (vwC A 40 vs) 29)).alloc (.cells (eC eZ) 35) = y := ⟨_, rfl⟩
  obtain ⟨C, hC⟩ : ∃ C, w.heap.size = C := ⟨_, rfl⟩
  obtain ⟨O, hO⟩ : ∃ O, (w.alloc (.cells (vwC A 40 vs) 29)).heap.size = O := ⟨_, rfl⟩
  have hO2 : w.heap.size + 1 = O := by rw [← hO]; simp
  have hf := HF.out
  rw [hy, hO, hC] at hf
  rw [hy, hO2, hC]
  have HG := Lib.hid hf
  clear hy hC hO hO2 hf HF
  go_cut [5, 6] (fun s5 s6 wx => s6 = .int .i64 0 ∧ NumP A vs O C w E s5 wx)
  case first =>
    as_aux_lemma =>
    have HB0 := Lib.hid (show Below w.heap.size w y.drew from HG.out.be.drew)
    refine wp_region_held_drew (S := Fb w [⟨O, eC eZ, 35⟩, ⟨C, vwC A 40 vs, 29⟩]) (by kernel_rfl) (HG.out.below (Below.refl _ _).drew) (fun hHeld => ?_)
    clear HG
    refine wpAnyH_take (i := 1) (v := (vwV A 40 vs)) rfl (by kernel_rfl) (by kernel_rfl) (by kernel_rfl) (fun _ _ _ h => h) (Or.inl ⟨by rfl, fun X hS => ?_⟩) hHeld ?_
    · have s0 := hS.cell1 0 rfl; have s1 := hS.cell1 1 rfl; have s2 := hS.cell1 2 rfl
      go_simp
    try simp only [Act.put, List.getElem_toArray, List.getElem_cons_zero, List.getElem_cons_succ, List.setIfInBounds_toArray, List.set_cons_zero, List.set_cons_succ]
    refine wpAnyH_take (i := 2) (v := (.int .i64 (i : Int))) rfl (by kernel_rfl) (by kernel_rfl) (by kernel_rfl) (fun _ _ _ h => h) (Or.inl ⟨by rfl, fun X hS => ?_⟩) hHeld ?_
    · skip
      go_simp
    try simp only [Act.put, List.getElem_toArray, List.getElem_cons_zero, List.getElem_cons_succ, List.setIfInBounds_toArray, List.set_cons_zero, List.set_cons_succ]
    refine wpAnyH_ready (rs := [0]) (by kernel_rfl) (by simp) (AllReadyH.cons rfl (fun K1 hK1 => ?_) AllReadyH.nil)
    go_simp
    refine (clayout _).mono ?_
    rintro e x1 ⟨rfl, hb⟩
    have HB1 := Lib.hid (HB0.out.trans (hb.mono HB0.out.size))
    have hS1 := hHeld.below hb
    clear hHeld hb HB0
    refine hK1.out _ _ hS1 (fun hHeld => ?_)
    clear hK1 hS1
    try simp only [Act.put, List.getElem_toArray, List.getElem_cons_zero, List.getElem_cons_succ, List.setIfInBounds_toArray, List.set_cons_zero, List.set_cons_succ]
    refine wpAnyH_ready (rs := [3]) (by kernel_rfl) (by simp) (AllReadyH.cons rfl (fun K2 hK2 => ?_) AllReadyH.nil)
    go_simp
    refine (HSL.out _ (HO.out.below HB1.out)).mono ?_
    rintro e x2 ⟨rfl, hb⟩
    have HB2 := Lib.hid (HB1.out.trans (hb.mono HB1.out.size))
    have hS2 := hHeld.below hb
    clear hHeld hb HB1 HSL
    refine hK2.out _ _ hS2 (fun hHeld => ?_)
    clear hK2 hS2
    try simp only [Act.put, List.getElem_toArray, List.getElem_cons_zero, List.getElem_cons_succ, List.setIfInBounds_toArray, List.set_cons_zero, List.set_cons_succ]
    refine wpAnyH_ready (rs := [4]) (by kernel_rfl) (by simp) (AllReadyH.cons rfl (fun K3 hK3 => ?_) AllReadyH.nil)
    go_simp
    refine (HAL.out _ (HO.out.below HB2.out)).mono ?_
    rintro e x3 ⟨N, rfl, hN, hNl, hb3⟩
    have hS3 := hHeld.below hb3
    have HF3 := Lib.hid (hHeld.plus hb3 hN hNl)
    clear hHeld hb3 hN hNl HAL HB2
    refine hK3.out _ _ hS3 (fun hHeld => ?_)
    clear hK3 hS3
    try simp only [Act.put, List.getElem_toArray, List.getElem_cons_zero, List.getElem_cons_succ, List.setIfInBounds_toArray, List.set_cons_zero, List.set_cons_succ]
    refine wpAnyH_take (i := 5) (v := (.tuple #[.slice (some ⟨N, 0, none⟩) 4 4, .int .i64 0])) rfl (by kernel_rfl) (by kernel_rfl) (by kernel_rfl) (fun _ _ _ h => h) (Or.inl ⟨by rfl, fun X hS => ?_⟩) hHeld ?_
    · skip
      go_simp
    try simp only [Act.put, List.getElem_toArray, List.getElem_cons_zero, List.getElem_cons_succ, List.setIfInBounds_toArray, List.set_cons_zero, List.set_cons_succ]
    refine wpAnyH_take (i := 6) (v := (.slice (some ⟨N, 0, none⟩) 4 4)) rfl (by kernel_rfl) (by kernel_rfl) (by kernel_rfl) (fun _ _ _ h => h) (Or.inl ⟨by rfl, fun X hS => ?_⟩) hHeld ?_
    · skip
      go_simp
    try simp only [Act.put, List.getElem_toArray, List.getElem_cons_zero, List.getElem_cons_succ, List.setIfInBounds_toArray, List.set_cons_zero, List.set_cons_succ]
    refine wpAnyH_take (i := 7) (v := (.int .i64 0)) rfl (by kernel_rfl) (by kernel_rfl) (by kernel_rfl) (fun _ _ _ h => h) (Or.inl ⟨by rfl, fun X hS => ?_⟩) hHeld ?_
    · skip
      go_simp
    try simp only [Act.put, List.getElem_toArray, List.getElem_cons_zero, List.getElem_cons_succ, List.setIfInBounds_toArray, List.set_cons_zero, List.set_cons_succ]
    refine wpAnyH_take (i := 8) (v := (.slice (some ⟨N, 0, none⟩) 4 4)) rfl (by kernel_rfl) (by kernel_rfl) (by kernel_rfl) (fun _ _ _ h => h) (Or.inl ⟨by rfl, fun X hS => ?_⟩) hHeld ?_
    · skip
      go_simp
    try simp only [Act.put, List.getElem_toArray, List.getElem_cons_zero, List.getElem_cons_succ, List.setIfInBounds_toArray, List.set_cons_zero, List.set_cons_succ]
    refine wpAnyH_take (i := 9) (v := (.int .i64 0)) rfl (by kernel_rfl) (by kernel_rfl) (by kernel_rfl) (fun _ _ _ h => h) (Or.inl ⟨by rfl, fun X hS => ?_⟩) hHeld ?_
    · skip
      go_simp
    try simp only [Act.put, List.getElem_toArray, List.getElem_cons_zero, List.getElem_cons_succ, List.setIfInBounds_toArray, List.set_cons_zero, List.set_cons_succ]
    refine wpAnyH_done (by kernel_rfl) ?_ _
    clear hHeld
    go_wp2_with fail
    go_meet

    exact ⟨rfl, _, rfl, HF3⟩
  case rest =>
    as_aux_lemma =>
    clear HG HAL HSL
    obtain ⟨rfl, N, rfl, HF⟩ := hcut
    go_upto_region 4 with fail
    have HF4 := Lib.hid (HF.out.below (Below.refl _ _).drew)
    have hs0 := HF4.out.drop1.drop1
    refine wp_region_held_drew (S := Fb w [⟨N, #[.int .u64 (E.i : Int), .int .u64 (E.k : Int), .int .u64 (E.l : Int), .int .u64 (E.x : Int)], 33⟩]) (by kernel_rfl) hs0 (fun hHeld => ?_)
    clear HF hs0
    generalize wc.drew = x4 at *
    refine wpAnyH_take (i := 0) (v := (.slice (some ⟨N, 0, none⟩) 4 4)) rfl (by kernel_rfl) (by kernel_rfl) (by kernel_rfl) (fun _ _ _ h => h) (Or.inl ⟨by rfl, fun X hS => ?_⟩) hHeld ?_
    · have n0 := hS.cell0 0 rfl; have n1 := hS.cell0 1 rfl; have n2 := hS.cell0 2 rfl; have n3 := hS.cell0 3 rfl
      go_simp
    try simp only [Act.put, List.getElem_toArray, List.getElem_cons_zero, List.getElem_cons_succ, List.setIfInBounds_toArray, List.set_cons_zero, List.set_cons_succ]
    refine wpAnyH_take (i := 1) (v := (.pointer (some ⟨N, 0, none⟩))) rfl (by kernel_rfl) (by kernel_rfl) (by kernel_rfl) (fun _ _ _ h => h) (Or.inl ⟨by rfl, fun X hS => ?_⟩) hHeld ?_
    · have n0 := hS.cell0 0 rfl; have n1 := hS.cell0 1 rfl; have n2 := hS.cell0 2 rfl; have n3 := hS.cell0 3 rfl
      go_simp
    try simp only [Act.put, List.getElem_toArray, List.getElem_cons_zero, List.getElem_cons_succ, List.setIfInBounds_toArray, List.set_cons_zero, List.set_cons_succ]
    refine wpAnyH_take (i := 2) (v := (.int .u64 (E.i : Int))) rfl (by kernel_rfl) (by kernel_rfl) (by kernel_rfl) (fun _ _ _ h => h) (Or.inl ⟨by rfl, fun X hS => ?_⟩) hHeld ?_
    · have n0 := hS.cell0 0 rfl; have n1 := hS.cell0 1 rfl; have n2 := hS.cell0 2 rfl; have n3 := hS.cell0 3 rfl
      go_simp
    try simp only [Act.put, List.getElem_toArray, List.getElem_cons_zero, List.getElem_cons_succ, List.setIfInBounds_toArray, List.set_cons_zero, List.set_cons_succ]
    refine wpAnyH_take (i := 3) (v := (.slice (some ⟨N, 0, none⟩) 4 4)) rfl (by kernel_rfl) (by kernel_rfl) (by kernel_rfl) (fun _ _ _ h => h) (Or.inl ⟨by rfl, fun X hS => ?_⟩) hHeld ?_
    · have n0 := hS.cell0 0 rfl; have n1 := hS.cell0 1 rfl; have n2 := hS.cell0 2 rfl; have n3 := hS.cell0 3 rfl
      go_simp
    try simp only [Act.put, List.getElem_toArray, List.getElem_cons_zero, List.getElem_cons_succ, List.setIfInBounds_toArray, List.set_cons_zero, List.set_cons_succ]
    refine wpAnyH_take (i := 4) (v := (.pointer (some ⟨N, 1, none⟩))) rfl (by kernel_rfl) (by kernel_rfl) (by kernel_rfl) (fun _ _ _ h => h) (Or.inl ⟨by rfl, fun X hS => ?_⟩) hHeld ?_
    · have n0 := hS.cell0 0 rfl; have n1 := hS.cell0 1 rfl; have n2 := hS.cell0 2 rfl; have n3 := hS.cell0 3 rfl
      go_simp
    try simp only [Act.put, List.getElem_toArray, List.getElem_cons_zero, List.getElem_cons_succ, List.setIfInBounds_toArray, List.set_cons_zero, List.set_cons_succ]
    refine wpAnyH_take (i := 5) (v := (.int .u64 (E.k : Int))) rfl (by kernel_rfl) (by kernel_rfl) (by kernel_rfl) (fun _ _ _ h => h) (Or.inl ⟨by rfl, fun X hS => ?_⟩) hHeld ?_
    · have n0 := hS.cell0 0 rfl; have n1 := hS.cell0 1 rfl; have n2 := hS.cell0 2 rfl; have n3 := hS.cell0 3 rfl
      go_simp
    try simp only [Act.put, List.getElem_toArray, List.getElem_cons_zero, List.getElem_cons_succ, List.setIfInBounds_toArray, List.set_cons_zero, List.set_cons_succ]
    refine wpAnyH_take (i := 6) (v := (.int .u8 (E.k : Int))) rfl (by kernel_rfl) (by kernel_rfl) (by kernel_rfl) (fun _ _ _ h => h) (Or.inl ⟨by rfl, fun X hS => ?_⟩) hHeld ?_
    · obtain ⟨q1, q2⟩ := HQ.out
      go_simp
    try simp only [Act.put, List.getElem_toArray, List.getElem_cons_zero, List.getElem_cons_succ, List.setIfInBounds_toArray, List.set_cons_zero, List.set_cons_succ]
    refine wpAnyH_take (i := 7) (v := (.slice (some ⟨N, 0, none⟩) 4 4)) rfl (by kernel_rfl) (by kernel_rfl) (by kernel_rfl) (fun _ _ _ h => h) (Or.inl ⟨by rfl, fun X hS => ?_⟩) hHeld ?_
    · have n0 := hS.cell0 0 rfl; have n1 := hS.cell0 1 rfl; have n2 := hS.cell0 2 rfl; have n3 := hS.cell0 3 rfl
      go_simp
    try simp only [Act.put, List.getElem_toArray, List.getElem_cons_zero, List.getElem_cons_succ, List.setIfInBounds_toArray, List.set_cons_zero, List.set_cons_succ]
    refine wpAnyH_take (i := 8) (v := (.pointer (some ⟨N, 2, none⟩))) rfl (by kernel_rfl) (by kernel_rfl) (by kernel_rfl) (fun _ _ _ h => h) (Or.inl ⟨by rfl, fun X hS => ?_⟩) hHeld ?_
    · have n0 := hS.cell0 0 rfl; have n1 := hS.cell0 1 rfl; have n2 := hS.cell0 2 rfl; have n3 := hS.cell0 3 rfl
      go_simp
    try simp only [Act.put, List.getElem_toArray, List.getElem_cons_zero, List.getElem_cons_succ, List.setIfInBounds_toArray, List.set_cons_zero, List.set_cons_succ]
    refine wpAnyH_take (i := 9) (v := (.int .u64 (E.l : Int))) rfl (by kernel_rfl) (by kernel_rfl) (by kernel_rfl) (fun _ _ _ h => h) (Or.inl ⟨by rfl, fun X hS => ?_⟩) hHeld ?_
    · have n0 := hS.cell0 0 rfl; have n1 := hS.cell0 1 rfl; have n2 := hS.cell0 2 rfl; have n3 := hS.cell0 3 rfl
      go_simp
    try simp only [Act.put, List.getElem_toArray, List.getElem_cons_zero, List.getElem_cons_succ, List.setIfInBounds_toArray, List.set_cons_zero, List.set_cons_succ]
    refine wpAnyH_take (i := 10) (v := (.int .u8 (E.l : Int))) rfl (by kernel_rfl) (by kernel_rfl) (by kernel_rfl) (fun _ _ _ h => h) (Or.inl ⟨by rfl, fun X hS => ?_⟩) hHeld ?_
    · obtain ⟨q1, q2⟩ := HQ.out
      go_simp
    try simp only [Act.put, List.getElem_toArray, List.getElem_cons_zero, List.getElem_cons_succ, List.setIfInBounds_toArray, List.set_cons_zero, List.set_cons_succ]
    refine wpAnyH_take (i := 11) (v := (.slice (some ⟨N, 0, none⟩) 4 4)) rfl (by kernel_rfl) (by kernel_rfl) (by kernel_rfl) (fun _ _ _ h => h) (Or.inl ⟨by rfl, fun X hS => ?_⟩) hHeld ?_
    · have n0 := hS.cell0 0 rfl; have n1 := hS.cell0 1 rfl; have n2 := hS.cell0 2 rfl; have n3 := hS.cell0 3 rfl
      go_simp
    try simp only [Act.put, List.getElem_toArray, List.getElem_cons_zero, List.getElem_cons_succ, List.setIfInBounds_toArray, List.set_cons_zero, List.set_cons_succ]
    refine wpAnyH_take (i := 12) (v := (.pointer (some ⟨N, 3, none⟩))) rfl (by kernel_rfl) (by kernel_rfl) (by kernel_rfl) (fun _ _ _ h => h) (Or.inl ⟨by rfl, fun X hS => ?_⟩) hHeld ?_
    · have n0 := hS.cell0 0 rfl; have n1 := hS.cell0 1 rfl; have n2 := hS.cell0 2 rfl; have n3 := hS.cell0 3 rfl
      go_simp
    try simp only [Act.put, List.getElem_toArray, List.getElem_cons_zero, List.getElem_cons_succ, List.setIfInBounds_toArray, List.set_cons_zero, List.set_cons_succ]
    refine wpAnyH_take (i := 13) (v := (.int .u64 (E.x : Int))) rfl (by kernel_rfl) (by kernel_rfl) (by kernel_rfl) (fun _ _ _ h => h) (Or.inl ⟨by rfl, fun X hS => ?_⟩) hHeld ?_
    · have n0 := hS.cell0 0 rfl; have n1 := hS.cell0 1 rfl; have n2 := hS.cell0 2 rfl; have n3 := hS.cell0 3 rfl
      go_simp
    try simp only [Act.put, List.getElem_toArray, List.getElem_cons_zero, List.getElem_cons_succ, List.setIfInBounds_toArray, List.set_cons_zero, List.set_cons_succ]
    refine wpAnyH_take (i := 14) (v := (.agg #[.int .u64 (E.i : Int), .int .u8 (E.k : Int), .int .u8 (E.l : Int), .int .u64 (E.x : Int)])) rfl (by kernel_rfl) (by kernel_rfl) (by kernel_rfl) (fun _ _ _ h => h) (Or.inl ⟨by rfl, fun X hS => ?_⟩) hHeld ?_
    · have n0 := hS.cell0 0 rfl; have n1 := hS.cell0 1 rfl; have n2 := hS.cell0 2 rfl; have n3 := hS.cell0 3 rfl
      go_simp
    try simp only [Act.put, List.getElem_toArray, List.getElem_cons_zero, List.getElem_cons_succ, List.setIfInBounds_toArray, List.set_cons_zero, List.set_cons_succ]
    refine wpAnyH_ready (rs := [15]) (by kernel_rfl) (by simp) (AllReadyH.cons rfl (fun K1 hK1 => ?_) AllReadyH.nil)
    clear hHeld
    have HH := HF4
    have o0 := HH.out.cell1 0 rfl; have o1 := HH.out.cell1 1 rfl; have o2 := HH.out.cell1 2 rfl; have o3 := HH.out.cell1 3 rfl
    have f0 := HH.out.free1 0; have f1 := HH.out.free1 1; have f2 := HH.out.free1 2; have f3 := HH.out.free1 3
    go_simp
    have hst := HH.out.stores1 [.int .u64 (E.i : Int), .int .u8 (E.k : Int), .int .u8 (E.l : Int), .int .u64 (E.x : Int)] 0
    obtain ⟨z, hzz⟩ : ∃ z, stR x4 O [.int .u64 (E.i : Int), .int .u8 (E.k : Int), .int .u8 (E.l : Int), .int .u64 (E.x : Int)] 0 = z := ⟨_, rfl⟩
    change K1 _ (stR x4 O [.int .u64 (E.i : Int), .int .u8 (E.k : Int), .int .u8 (E.l : Int), .int .u64 (E.x : Int)] 0)
    rw [hzz] at hst ⊢
    have hst : Fb w [⟨N, #[.int .u64 (E.i : Int), .int .u64 (E.k : Int), .int .u64 (E.l : Int), .int .u64 (E.x : Int)], 33⟩, ⟨O, #[.int .u64 (E.i : Int), .int .u8 (E.k : Int), .int .u8 (E.l : Int), .int .u64 (E.x : Int)], 35⟩, ⟨C, vwC A 40 vs, 29⟩] z := hst
    have HZ := Lib.hid hst
    clear hzz hst HH HF4 o0 o1 o2 o3 f0 f1 f2 f3
    refine hK1.out _ _ HZ.out.drop1.drop1 (fun hHeld => ?_)
    clear hK1 hHeld
    try simp only [Act.put, List.getElem_toArray, List.getElem_cons_zero, List.getElem_cons_succ, List.setIfInBounds_toArray, List.set_cons_zero, List.set_cons_succ]
    refine wpAnyH_done (by kernel_rfl) ?_ _
    have hz := HZ.out
    have g0 := hz.cell1 0 rfl; have g1 := hz.cell1 1 rfl; have g2 := hz.cell1 2 rfl; have g3 := hz.cell1 3 rfl
    go_wp2_with fail
    exact bodyPost_ret (v := .agg #[.int .u64 (E.i : Int), .int .u8 (E.k : Int), .int .u8 (E.l : Int), .int .u64 (E.x : Int)]) (by simp [results, Try.results39, go_sem, g0, g1, g2, g3]) rfl ⟨rfl, HZ.out.be⟩

end
end Go.Proofs.Ytcbbhefgdonabaa.Bt
