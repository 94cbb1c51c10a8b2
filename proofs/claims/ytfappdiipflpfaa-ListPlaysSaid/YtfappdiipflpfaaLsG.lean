/- The contracts of a list's Add and Remove, where they do something, or find what they are asked for. (Written by gen_lsg.py.) -/
import Derived.Test.YtfappdiipflpfaaLsF
import Derived.Deep.DeepCutAuto
namespace Go.Proofs.Ytfappdiipflpfaa.Bt
open Go Go.RowKit Go.Shelf
set_option linter.unusedVariables false

theorem Ch.next {L : Nat} {es : List Nat} {mm : Nat → UInt8} (g : Good L es) : ∀ {h b : Nat} {ms : List Nat}, Ch L es mm h b ms → ∀ x ∈ ms, (nxt mm x = 0 ∨ x < nxt mm x) ∧ nxt mm x ≤ 4294967296
  | _, _, [], _, x, hx => by cases hx
  | _, _, m :: t, k, x, hx => by
    rcases List.mem_cons.1 hx with rfl | hx
    · cases t with
      | nil => have := k.2.2.2.2.2; unfold nxt; omega
      | cons m2 t2 => have h2 := k.2.2.2.2; have h3 := there_lt g h2.2.2.2.1; have h4 := h2.2.1; have h5 := h2.2.2.1; unfold nxt; omega
    · exact Ch.next g k.2.2.2.2 x hx
theorem blk_on {A : Nat} {w w' : World} {k : Nat} {o : Obj} (hb : Below w.heap.size w w') (h : w.heap[k]? = some o) : w'.heap[k]? = some o := (hb.block k (Array.getElem?_eq_some_iff.1 h).1).trans h
/-- two views' variables -/
def TwoV (A L M fa fz xa xz : Nat) (W : World) : Prop := W.heap[L]? = some (.cells #[.pointer (some ⟨A, 0, none⟩), .int .i64 (fa : Int), .int .i64 (fz : Int)] 53 (0, 0)) ∧ W.heap[M]? = some (.cells #[.pointer (some ⟨A, 0, none⟩), .int .i64 (xa : Int), .int .i64 (xz : Int)] 53 (0, 0))
theorem TwoV.all {A L M fa fz xa xz : Nat} {W : World} (h : TwoV A L M fa fz xa xz W) : W.cell? ⟨L, 0, none⟩ = some (.pointer (some ⟨A, 0, none⟩)) ∧ W.cell? ⟨L, 1, none⟩ = some (.int .i64 (fa : Int)) ∧ W.cell? ⟨L, 2, none⟩ = some (.int .i64 (fz : Int)) ∧
    W.cell? ⟨M, 0, none⟩ = some (.pointer (some ⟨A, 0, none⟩)) ∧ W.cell? ⟨M, 1, none⟩ = some (.int .i64 (xa : Int)) ∧ W.cell? ⟨M, 2, none⟩ = some (.int .i64 (xz : Int)) ∧ TwoV A L M fa fz xa xz W :=
  ⟨(cell_blk h.1 0).1, (cell_blk h.1 1).1, (cell_blk h.1 2).1, (cell_blk h.2 0).1, (cell_blk h.2 1).1, (cell_blk h.2 2).1, h⟩
theorem TwoV.below {A L M fa fz xa xz : Nat} {W W' : World} (h : TwoV A L M fa fz xa xz W) (hb : Below W.heap.size W W') : TwoV A L M fa fz xa xz W' := ⟨blk_on (A := A) hb h.1, blk_on (A := A) hb h.2⟩
theorem TwoV.went {A L M fa fz xa xz : Nat} {s : ASt} {W W' : World} (h : TwoV A L M fa fz xa xz W) (ho : On A s W) (hg : Went A W W') : TwoV A L M fa fz xa xz W' := ⟨hg.keep ho h.1 (by decide) (by decide) (by decide), hg.keep ho h.2 (by decide) (by decide) (by decide)⟩
section
variable {A : Nat} {s : ASt} {w : World}
set_option maxRecDepth 100000 in
set_option maxHeartbeats 4000000 in
theorem ladd_there (h : On A s w) (va vs : Nat) (h1 : va ≤ 4294967296) (h2 : vs ≤ 4294967296) (k : Int) (h0 x : Nat) (ms : List Nat) (hl : LsK s va vs k h0 ms) (hx : 0 < x) (hm : x ∈ ms) :
    Calls Try.prog 82 #[lsP (some ⟨A, 0, none⟩) va vs, .int .i64 k, .int .i64 (x : Int)] w (Gives (.int .i64 9) w) := by
  have hb0 := bel1 w (.cells #[.pointer (some ⟨A, 0, none⟩), .int .i64 (va : Int), .int .i64 (vs : Int)] 115)
  have hch := hl.ch
  have hTT : thereE s.L s.es x 16 = 0 := hch.mems x hm
  have hxx := there_lt h.good hTT
  have HF := Lib.hid (lfind (h.below hb0) va vs h1 h2 k x _ hl.lk)
  have HB := Lib.hid hb0
  have HO := Lib.hid h
  have HC := Lib.hid (heap_new w (.cells #[.pointer (some ⟨A, 0, none⟩), .int .i64 (va : Int), .int .i64 (vs : Int)] 115))
  have HV := Lib.hid (fndV_ch (A := A) hch x)
  have HCH := Lib.hid hch
  have HIS := Lib.hid (fnd_is hch 8 x hx)
  have HFT := Lib.hid (fnd_there h.good hch 8 x)
  have HSZ := Lib.hid (fnd_size h0 8 ms x)
  have HV0 : Hid (∀ pu a k, ofV pu a k 0 = .agg #[.pointer pu, .int .i64 a, .int .i64 k]) := Lib.hid fun pu a k => by unfold ofV; rw [if_pos rfl]
  have HD : Hid (decide ((x : Int) < 1) = false) := Lib.hid (by simp; omega)
  have HXP := Lib.hid hx
  clear h hl hb0 hch hx
  go_enter Try.func82, Try.ntmps82
  go_wp2_with fail
  refine HF.out.mono ?_
  rintro e w1 ⟨rfl, hb⟩
  rw [HV.out]
  have hc1 := blk_on (A := A) hb HC.out
  have HB1 := Lib.hid (HB.out.trans (hb.mono HB.out.size))
  generalize hfa : (fnd h0 8 ms x).1 = fa at *
  generalize hfz : (fnd h0 8 ms x).2.1 = fz at *
  generalize hfm : (fnd h0 8 ms x).2.2 = fm at *
  have HFA := Lib.hid hfa; have HFZ := Lib.hid hfz; have HFM := Lib.hid hfm
  have HFT' := HFT; have HSZ' := HSZ; have HIS' := HIS
  have HXX := Lib.hid hxx
  clear HFT HSZ HIS hfa hfz hfm HV HF hxx
  have hl1 := heap_new w1 (.cells #[.pointer (some ⟨A, 0, none⟩), .int .i64 (fa : Int), .int .i64 (fz : Int)] 53)
  have hc2 := blk_on (A := A) (bel1 w1 (.cells #[.pointer (some ⟨A, 0, none⟩), .int .i64 (fa : Int), .int .i64 (fz : Int)] 53)) hc1
  have c0 := (cell_blk hc2 0).1
  have hb2 := HB1.out.alloc HB1.out.size (.cells #[.pointer (some ⟨A, 0, none⟩), .int .i64 (fa : Int), .int .i64 (fz : Int)] 53)
  have HX1 := Lib.hid (And.intro hl1 hc2)
  have HOF := Lib.hid (on_of (HO.out.below hb2) x 16 (by have := HXX.out; omega))
  have HB2 := Lib.hid hb2
  clear hb hc1 hl1 hc2 hb2
  have hT := hTT
  clear hTT
  obtain rfl : fm = x := HIS'.out.2 hm
  have HT := Lib.hid hT
  clear hT hm
  have hd := HD.out
  go_wp2_with fail
  refine HOF.out.mono ?_
  rintro e w2 ⟨rfl, hb⟩
  rw [HT.out, HV0.out]
  have HB3 := Lib.hid (HB2.out.trans (hb.mono HB2.out.size))
  clear hb c0
  go_wp2_with fail
  go_ret
  exact ⟨rfl, HB3.out.alloc HB3.out.size _⟩
set_option maxRecDepth 100000 in
set_option maxHeartbeats 4000000 in
theorem ladd_yes (h : On A s w) (va vs : Nat) (h1 : va ≤ 4294967296) (h2 : vs ≤ 4294967296) (k : Int) (h0 x : Nat) (ms : List Nat) (hl : LsK s va vs k h0 ms) (hx : 0 < x) (hm : x ∉ ms) (hT : thereE s.L s.es x 16 = 0) :
    Calls Try.prog 82 #[lsP (some ⟨A, 0, none⟩) va vs, .int .i64 k, .int .i64 (x : Int)] w (Ret A { s with mm := put8 (put8 s.mm x (fnd h0 8 ms x).2.2) (fnd h0 8 ms x).1 x } (.int .i64 0) w) := by
  have hb0 := bel1 w (.cells #[.pointer (some ⟨A, 0, none⟩), .int .i64 (va : Int), .int .i64 (vs : Int)] 115)
  have hch := hl.ch
  have hTT : thereE s.L s.es x 16 = 0 := hT
  have hxx := there_lt h.good hTT
  have HF := Lib.hid (lfind (h.below hb0) va vs h1 h2 k x _ hl.lk)
  have HB := Lib.hid hb0
  have HO := Lib.hid h
  have HC := Lib.hid (heap_new w (.cells #[.pointer (some ⟨A, 0, none⟩), .int .i64 (va : Int), .int .i64 (vs : Int)] 115))
  have HV := Lib.hid (fndV_ch (A := A) hch x)
  have HCH := Lib.hid hch
  have HIS := Lib.hid (fnd_is hch 8 x hx)
  have HFT := Lib.hid (fnd_there h.good hch 8 x)
  have HSZ := Lib.hid (fnd_size h0 8 ms x)
  have HV0 : Hid (∀ pu a k, ofV pu a k 0 = .agg #[.pointer pu, .int .i64 a, .int .i64 k]) := Lib.hid fun pu a k => by unfold ofV; rw [if_pos rfl]
  have HD : Hid (decide ((x : Int) < 1) = false) := Lib.hid (by simp; omega)
  have HXP := Lib.hid hx
  clear h hl hb0 hch hx
  go_enter Try.func82, Try.ntmps82
  go_wp2_with fail
  refine HF.out.mono ?_
  rintro e w1 ⟨rfl, hb⟩
  rw [HV.out]
  have hc1 := blk_on (A := A) hb HC.out
  have HB1 := Lib.hid (HB.out.trans (hb.mono HB.out.size))
  generalize hfa : (fnd h0 8 ms x).1 = fa at *
  generalize hfz : (fnd h0 8 ms x).2.1 = fz at *
  generalize hfm : (fnd h0 8 ms x).2.2 = fm at *
  have HFA := Lib.hid hfa; have HFZ := Lib.hid hfz; have HFM := Lib.hid hfm
  have HFT' := HFT; have HSZ' := HSZ; have HIS' := HIS
  have HXX := Lib.hid hxx
  clear HFT HSZ HIS hfa hfz hfm HV HF hxx
  have hl1 := heap_new w1 (.cells #[.pointer (some ⟨A, 0, none⟩), .int .i64 (fa : Int), .int .i64 (fz : Int)] 53)
  have hc2 := blk_on (A := A) (bel1 w1 (.cells #[.pointer (some ⟨A, 0, none⟩), .int .i64 (fa : Int), .int .i64 (fz : Int)] 53)) hc1
  have c0 := (cell_blk hc2 0).1
  have hb2 := HB1.out.alloc HB1.out.size (.cells #[.pointer (some ⟨A, 0, none⟩), .int .i64 (fa : Int), .int .i64 (fz : Int)] 53)
  have HX1 := Lib.hid (And.intro hl1 hc2)
  have HOF := Lib.hid (on_of (HO.out.below hb2) x 16 (by have := HXX.out; omega))
  have HB2 := Lib.hid hb2
  clear hb hc1 hl1 hc2 hb2
  have HNE : Hid (((fm : Int) == (x : Int)) = false) := Lib.hid (by have h3 : fm ≠ x := fun e => hm (HIS'.out.1 e); exact beq_eq_false_iff_ne.2 (fun e => h3 (by omega)))
  have hfm32 : fm ≤ 4294967296 := by
    rw [← HFM.out]
    rcases fnd_val h0 8 ms x with ⟨e, _⟩ | ⟨e, _⟩
    · omega
    · have := HCH.out.lt HO.out.good _ e; omega
  have hfa32 : fa ≤ 4294967296 := by have := there_lt HO.out.good HFT'.out; omega
  have HT := Lib.hid hT
  have HT8 := Lib.hid (there_sub HO.out.good hT (j := 8) (by omega) (by omega))
  clear hT hm
  have hd := HD.out
  go_wp2_with fail
  refine HOF.out.mono ?_
  rintro e w2 ⟨rfl, hb⟩
  rw [HT.out, HV0.out]
  have ho2 := (HO.out.below HB2.out).below hb
  have hl2 := blk_on (A := A) hb HX1.out.1
  have hc2 := blk_on (A := A) hb HX1.out.2
  have hm3 := heap_new w2 (.cells #[.pointer (some ⟨A, 0, none⟩), .int .i64 (x : Int), .int .i64 (16 : Int)] 53)
  have hl3 := blk_on (A := A) (bel1 w2 (.cells #[.pointer (some ⟨A, 0, none⟩), .int .i64 (x : Int), .int .i64 (16 : Int)] 53)) hl2
  have ho3 := ho2.below (bel1 w2 (.cells #[.pointer (some ⟨A, 0, none⟩), .int .i64 (x : Int), .int .i64 (16 : Int)] 53))
  have HB3 := Lib.hid ((HB2.out.trans (hb.mono HB2.out.size)).alloc (HB2.out.trans (hb.mono HB2.out.size)).size (.cells #[.pointer (some ⟨A, 0, none⟩), .int .i64 (x : Int), .int .i64 (16 : Int)] 53))
  have HLD := Lib.hid (llead ho3 x 16 fm (by have := HXX.out; omega) (by omega) (by omega) hfm32 HT8.out)
  have HX3 := Lib.hid (And.intro hl3 ho3)
  have m0 := (cell_blk hm3 0).1; have m1 := (cell_blk hm3 1).1; have m2 := (cell_blk hm3 2).1
  clear hb c0 ho2 hl2 hc2 hm3 hl3 ho3 hd
  have hne := HNE.out
  go_wp2_with fail
  refine HLD.out.mono ?_
  rintro e w3 ⟨rfl, ho4, hg4⟩
  have hl4 := hg4.keep HX3.out.2 HX3.out.1 (by decide) (by decide) (by decide)
  have HG4 := Lib.hid ((Went.of_below HO.out HB3.out).trans hg4)
  have HL2 := Lib.hid (llead ho4 fa fz x hfa32 (by have := HSZ'.out; omega) (by have := HSZ'.out; omega) (by have := HXX.out; omega) HFT'.out)
  have l0 := (cell_blk hl4 0).1; have l1 := (cell_blk hl4 1).1; have l2 := (cell_blk hl4 2).1
  clear ho4 hg4 hl4 m0 m1 m2
  go_wp2_with fail
  refine HL2.out.mono ?_
  rintro e w4 ⟨rfl, ho5, hg5⟩
  have HF := Lib.hid (And.intro ho5 (HG4.out.trans hg5))
  clear ho5 hg5 l0 l1 l2
  go_wp2_with fail
  go_ret
  exact ⟨rfl, HF.out.1, HF.out.2⟩
set_option maxHeartbeats 1000000 in
theorem lrem_out (h : On A s w) (va vs : Nat) (h1 : va ≤ 4294967296) (h2 : vs ≤ 4294967296) (k f : Int) (hk : k < 0 ∨ ((vs / 8 : Nat) : Int) ≤ k) :
    Calls Try.prog 80 #[lsP (some ⟨A, 0, none⟩) va vs, .int .i64 k, .int .i64 f] w (Gives (.int .i64 3) w) := by
  have hb0 := bel1 w (.cells #[.pointer (some ⟨A, 0, none⟩), .int .i64 (va : Int), .int .i64 (vs : Int)] 115)
  have HF := Lib.hid (lfind (h.below hb0) va vs h1 h2 k f [] (.inl ⟨hk, rfl⟩))
  have HB := Lib.hid hb0
  have HV : Hid (fndV A [] f = .tuple #[.agg #[.pointer none, .int .i64 0, .int .i64 0], .int .i64 0, .int .i64 3]) := Lib.hid rfl
  clear h hk hb0
  go_enter Try.func80, Try.ntmps80
  go_wp2_with fail
  refine HF.out.mono ?_
  rintro e w1 ⟨rfl, hb⟩
  rw [HV.out]
  have HB1 := Lib.hid (HB.out.trans (hb.mono HB.out.size))
  clear hb
  go_wp2_with fail
  go_ret
  exact ⟨rfl, HB1.out.alloc HB1.out.size _⟩
set_option maxHeartbeats 1000000 in
theorem lrem_none (h : On A s w) (va vs : Nat) (h1 : va ≤ 4294967296) (h2 : vs ≤ 4294967296) (k f : Int) (h0 : Nat) (ms : List Nat) (hl : LsK s va vs k h0 ms) (hm : ∀ x : Nat, f = x → x ∉ ms) :
    Calls Try.prog 80 #[lsP (some ⟨A, 0, none⟩) va vs, .int .i64 k, .int .i64 f] w (Gives (.int .i64 8) w) := by
  have hb0 := bel1 w (.cells #[.pointer (some ⟨A, 0, none⟩), .int .i64 (va : Int), .int .i64 (vs : Int)] 115)
  have HF := Lib.hid (lfind (h.below hb0) va vs h1 h2 k f _ hl.lk)
  have HB := Lib.hid hb0
  have HV := Lib.hid (fndV_ch (A := A) hl.ch f)
  have hne : ¬ f < 1 → ¬ ((fnd h0 8 ms f).2.2 : Int) = f := fun hf e => by
    obtain ⟨x, rfl⟩ : ∃ x : Nat, f = x := ⟨f.toNat, by omega⟩
    exact hm x rfl ((fnd_is hl.ch 8 x (by omega)).1 (by omega))
  clear h hl hb0 hm
  go_enter Try.func80, Try.ntmps80
  go_wp2_with fail
  refine HF.out.mono ?_
  rintro e w1 ⟨rfl, hb⟩
  rw [HV.out]
  have HB1 := Lib.hid (HB.out.trans (hb.mono HB.out.size))
  generalize (fnd h0 8 ms f).1 = fa at *
  generalize (fnd h0 8 ms f).2.1 = fz at *
  generalize (fnd h0 8 ms f).2.2 = fm at *
  clear hb
  by_cases hf : f < 1
  · clear hne
    go_wp2_with fail
    go_ret
    exact ⟨rfl, HB1.out.alloc HB1.out.size _⟩
  · have hn2 : ((fm : Int) != f) = true := by have h3 := hne (by omega); simpa using h3
    clear hne
    go_wp2_with fail
    go_ret
    exact ⟨rfl, HB1.out.alloc HB1.out.size _⟩
set_option maxRecDepth 100000 in
set_option maxHeartbeats 4000000 in
theorem lrem_yes (h : On A s w) (va vs : Nat) (h1 : va ≤ 4294967296) (h2 : vs ≤ 4294967296) (k : Int) (h0 x : Nat) (ms : List Nat) (hl : LsK s va vs k h0 ms) (hx : 0 < x) (hm : x ∈ ms) :
    Calls Try.prog 80 #[lsP (some ⟨A, 0, none⟩) va vs, .int .i64 k, .int .i64 (x : Int)] w (Ret A { s with mm := put8 s.mm (fnd h0 8 ms x).1 (nxt s.mm x) } (.int .i64 0) w) := by
  have hb0 := bel1 w (.cells #[.pointer (some ⟨A, 0, none⟩), .int .i64 (va : Int), .int .i64 (vs : Int)] 115)
  have hch := hl.ch
  have hTT : thereE s.L s.es x 16 = 0 := hch.mems x hm
  have hxx := there_lt h.good hTT
  have HF := Lib.hid (lfind (h.below hb0) va vs h1 h2 k x _ hl.lk)
  have HB := Lib.hid hb0
  have HO := Lib.hid h
  have HC := Lib.hid (heap_new w (.cells #[.pointer (some ⟨A, 0, none⟩), .int .i64 (va : Int), .int .i64 (vs : Int)] 115))
  have HV := Lib.hid (fndV_ch (A := A) hch x)
  have HCH := Lib.hid hch
  have HIS := Lib.hid (fnd_is hch 8 x hx)
  have HFT := Lib.hid (fnd_there h.good hch 8 x)
  have HSZ := Lib.hid (fnd_size h0 8 ms x)
  have HV0 : Hid (∀ pu a k, ofV pu a k 0 = .agg #[.pointer pu, .int .i64 a, .int .i64 k]) := Lib.hid fun pu a k => by unfold ofV; rw [if_pos rfl]
  have HD : Hid (decide ((x : Int) < 1) = false) := Lib.hid (by simp; omega)
  have HXP := Lib.hid hx
  clear h hl hb0 hch hx
  go_enter Try.func80, Try.ntmps80
  go_wp2_with fail
  refine HF.out.mono ?_
  rintro e w1 ⟨rfl, hb⟩
  rw [HV.out]
  have hc1 := blk_on (A := A) hb HC.out
  have HB1 := Lib.hid (HB.out.trans (hb.mono HB.out.size))
  generalize hfa : (fnd h0 8 ms x).1 = fa at *
  generalize hfz : (fnd h0 8 ms x).2.1 = fz at *
  generalize hfm : (fnd h0 8 ms x).2.2 = fm at *
  have HFA := Lib.hid hfa; have HFZ := Lib.hid hfz; have HFM := Lib.hid hfm
  have HFT' := HFT; have HSZ' := HSZ; have HIS' := HIS
  have HXX := Lib.hid hxx
  clear HFT HSZ HIS hfa hfz hfm HV HF hxx
  have hl1 := heap_new w1 (.cells #[.pointer (some ⟨A, 0, none⟩), .int .i64 (fa : Int), .int .i64 (fz : Int)] 53)
  have hc2 := blk_on (A := A) (bel1 w1 (.cells #[.pointer (some ⟨A, 0, none⟩), .int .i64 (fa : Int), .int .i64 (fz : Int)] 53)) hc1
  have c0 := (cell_blk hc2 0).1
  have hb2 := HB1.out.alloc HB1.out.size (.cells #[.pointer (some ⟨A, 0, none⟩), .int .i64 (fa : Int), .int .i64 (fz : Int)] 53)
  have HX1 := Lib.hid (And.intro hl1 hc2)
  have HOF := Lib.hid (on_of (HO.out.below hb2) x 16 (by have := HXX.out; omega))
  have HB2 := Lib.hid hb2
  clear hb hc1 hl1 hc2 hb2
  have hT := hTT
  clear hTT
  obtain rfl : fm = x := HIS'.out.2 hm
  obtain ⟨hn1, hn2⟩ := HCH.out.next HO.out.good fm hm
  have hfa32 : fa ≤ 4294967296 := by have := there_lt HO.out.good HFT'.out; omega
  have HT := Lib.hid hT
  have HT8 := Lib.hid (there_sub HO.out.good hT (j := 8) (by omega) (by omega))
  have HRN : Hid ((if ((nxt s.mm fm : Nat) : Int) ≤ (fm : Int) then 0 else ((nxt s.mm fm : Nat) : Int)) = ((nxt s.mm fm : Nat) : Int)) := Lib.hid (by
    rcases hn1 with e | e
    · rw [if_pos (by omega)]; omega
    · rw [if_neg (by omega)])
  have HN2 := Lib.hid hn2
  have HNX : Hid (numV s.mm fm 8 = nxt s.mm fm) := Lib.hid rfl
  clear hT hm hn1 hn2
  generalize nxt s.mm fm = nx at *
  have hd := HD.out
  go_wp2_with fail
  refine HOF.out.mono ?_
  rintro e w2 ⟨rfl, hb⟩
  rw [HT.out, HV0.out]
  have ho2 := (HO.out.below HB2.out).below hb
  have hl2 := blk_on (A := A) hb HX1.out.1
  have hm3 := heap_new w2 (.cells #[.pointer (some ⟨A, 0, none⟩), .int .i64 (fm : Int), .int .i64 (16 : Int)] 53)
  have hl3 := blk_on (A := A) (bel1 w2 (.cells #[.pointer (some ⟨A, 0, none⟩), .int .i64 (fm : Int), .int .i64 (16 : Int)] 53)) hl2
  have ho3 := ho2.below (bel1 w2 (.cells #[.pointer (some ⟨A, 0, none⟩), .int .i64 (fm : Int), .int .i64 (16 : Int)] 53))
  have HB3 := Lib.hid ((HB2.out.trans (hb.mono HB2.out.size)).alloc (HB2.out.trans (hb.mono HB2.out.size)).size (.cells #[.pointer (some ⟨A, 0, none⟩), .int .i64 (fm : Int), .int .i64 (16 : Int)] 53))
  have HX3 := Lib.hid (And.intro hl3 (And.intro hm3 ho3))
  clear hb c0 ho2 hl2 hm3 hl3 ho3
  have HN8 : Hid (thereE s.L s.es (fa : Int) 8 = 0) := HFT'
  go_upto_region 9 with fail
  have HTW : TwoV A w1.heap.size w2.heap.size fa fz fm 16 (w2.alloc (.cells #[.pointer (some ⟨A, 0, none⟩), .int .i64 (fm : Int), .int .i64 (16 : Int)] 53)) := ⟨HX3.out.1, HX3.out.2.1⟩
  obtain ⟨L1, hL1⟩ : ∃ L1, w1.heap.size = L1 := ⟨_, rfl⟩
  obtain ⟨M2, hM2⟩ : ∃ M2, w2.heap.size = M2 := ⟨_, rfl⟩
  have HO3 := Lib.hid HX3.out.2.2
  obtain ⟨w3, hw3⟩ : ∃ w3, w2.alloc (.cells #[.pointer (some ⟨A, 0, none⟩), .int .i64 (fm : Int), .int .i64 (16 : Int)] 53) = w3 := ⟨_, rfl⟩
  rw [hL1, hM2, hw3] at HTW
  rw [hw3] at HO3 HB3
  rw [hL1, hM2, hw3]
  clear HX3 hL1 hM2 hw3 hd HX1
  go_region_held3 (fun x => x.cell? ⟨L1, 0, none⟩ = some (.pointer (some ⟨A, 0, none⟩)) ∧ x.cell? ⟨L1, 1, none⟩ = some (.int .i64 (fa : Int)) ∧ x.cell? ⟨L1, 2, none⟩ = some (.int .i64 (fz : Int)) ∧ x.cell? ⟨M2, 0, none⟩ = some (.pointer (some ⟨A, 0, none⟩)) ∧ x.cell? ⟨M2, 1, none⟩ = some (.int .i64 (fm : Int)) ∧ x.cell? ⟨M2, 2, none⟩ = some (.int .i64 16) ∧ TwoV A L1 M2 fa fz fm 16 x)
    (first | exact (HTW.below (Below.refl _ _).drew).all | assumption)
    (first | (go_at_call 136; refine (lfollow (HO3.out.below (Below.refl _ _).drew) fm 16 nx (by have := HXX.out; omega) (by omega) (by omega) HN2.out HT8.out HNX.out fm).mono ?_; rintro e w' ⟨rfl, hbb⟩; rw [HRN.out]; have hnx := ((HTW.below (Below.refl _ _).drew).below hbb).all; have hoo := (HO3.out.below (Below.refl _ _).drew).below hbb; have hbw := HB3.out.trans ((Below.refl _ w3).drew.trans hbb |>.mono HB3.out.size))
           | (go_at_call 135; refine (llead hoo fa fz nx hfa32 (by have := HSZ'.out; omega) (by have := HSZ'.out; omega) HN2.out HN8.out).mono ?_; rintro e w'' ⟨rfl, ho4, hg4⟩; have hny := (hnx.2.2.2.2.2.2.went hoo hg4).all))
  all_goals
    have HF := Lib.hid (And.intro ho4 ((Went.of_below HO.out hbw).trans hg4))
    clear HTW hnx hny ho4 hg4 hoo hbw hbb
    go_wp2_with fail
    go_ret
    exact ⟨rfl, HF.out.1, HF.out.2⟩
end
end Go.Proofs.Ytfappdiipflpfaa.Bt
