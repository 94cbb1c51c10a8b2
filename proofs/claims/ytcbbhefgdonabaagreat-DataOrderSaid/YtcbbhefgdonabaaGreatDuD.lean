/- Several texts in one: FdT; DkA; CeB; RwR; CeC; DkB. -/
import Derived.Test.YtcbbhefgdonabaaGreatDuB
import Derived.Test.YtcbbhefgdonabaaGreatDuC
import Derived.Deep.MidRow
import Derived.Laws.AppendOwn
import Derived.Deep.Onto
import Derived.MapKept
import Derived.Laws.StructEq
/- The contracts of PutText and Text. -/
namespace Go.Proofs.YtcbbhefgdonabaaGreat.Bt
open Go Go.RowKit Go.Shelf
set_option linter.unusedVariables false
set_option linter.unusedSimpArgs false

section
variable {A : Nat} {s : ASt} {w : World}
theorem on_texts (h : On A s w) (va vs : Nat) (h1 : va ≤ 4294967296) (h2 : vs ≤ 4294967296) (q : Option Addr) (c : Nat) (xs : List ByteArray) (hs : StrsAt w q xs) (hN : xs.length ≤ 140737488355328) (hcap : xs.length ≤ c) (hj : (joinB xs).size ≤ 140737488355328) :
    Calls Tryz.prog 68 #[vwV A va vs, .slice q xs.length c] w (Ret A (putS s (addrV va vs 0 (joinB xs).size) (joinB xs).data.toList) (.int .i64 (thereE s.L s.es (addrV va vs 0 (joinB xs).size) (joinB xs).data.toList.length)) w) := by
  obtain ⟨P, ps, p, n, cap, h⟩ := h; exact (vtexts_any h va vs h1 h2 q c xs hs hN hcap hj).mono fun e w' k => On.ret h k
def mostB (m : Int) : Bool := decide (0 ≤ m ∧ m ≤ 255)
theorem fmost_any (m : Int) (w : World) : Calls Tryz.prog 67 #[.int .i64 m] w fun e w' => e = .returned (.bool (mostB m)) ∧ w = w' := by
  by_cases h0 : 0 ≤ m
  · by_cases h1 : m ≤ 255
    · have HB : Hid (mostB m = true) := Lib.hid (decide_eq_true ⟨h0, h1⟩)
      go_enter Tryz.func67, Tryz.ntmps67
      go_wp2_with fail
      go_ret
      exact ⟨by rw [HB.out]; rfl, rfl⟩
    · have HB : Hid (mostB m = false) := Lib.hid (decide_eq_false fun h => h1 h.2)
      go_enter Tryz.func67, Tryz.ntmps67
      go_wp2_with fail
      go_ret
      exact ⟨by rw [HB.out]; rfl, rfl⟩
  · have HB : Hid (mostB m = false) := Lib.hid (decide_eq_false fun h => h0 h.1)
    go_enter Tryz.func67, Tryz.ntmps67
    go_wp2_with fail
    go_ret
    exact ⟨by rw [HB.out]; rfl, rfl⟩
theorem fput_arg (va vs : Nat) (a m : Int) (x : ByteArray) (hx : x.size ≤ 9223372036854775807) (hb : mostB m = false) :
    Calls Tryz.prog 49 #[vwV A va vs, .int .i64 a, .int .i64 m, .string x] w (Gives (.int .i64 2) w) := by
  have HB := Lib.hid hb
  clear hb
  go_enter Tryz.func49, Tryz.ntmps49
  go_wp2_with fail
  refine (fmost_any m _).mono ?_
  rintro e w1 ⟨rfl, rfl⟩
  rw [HB.out]
  go_wp2_with fail
  go_ret
  exact ⟨rfl, bel1 _ _⟩
theorem fput_long (va vs : Nat) (a m : Int) (x : ByteArray) (hx : x.size ≤ 9223372036854775807) (hb : mostB m = true) (hl : m < x.size) :
    Calls Tryz.prog 49 #[vwV A va vs, .int .i64 a, .int .i64 m, .string x] w (Gives (.int .i64 16) w) := by
  have HB := Lib.hid hb
  clear hb
  go_enter Tryz.func49, Tryz.ntmps49
  go_wp2_with fail
  refine (fmost_any m _).mono ?_
  rintro e w1 ⟨rfl, rfl⟩
  rw [HB.out]
  go_wp2_with fail
  go_ret
  exact ⟨rfl, bel1 _ _⟩
theorem fput_no (h : On A s w) (va vs : Nat) (h1 : va ≤ 4294967296) (h2 : vs ≤ 4294967296) (a m : Int) (ha : a ≤ 9223372036854775807) (x : ByteArray) (hx : x.size ≤ 9223372036854775807) (hb : mostB m = true) (hl : (x.size : Int) ≤ m) (he : thereE s.L s.es (addrV va vs a (m + 1)) (m + 1) = 3) :
    Calls Tryz.prog 49 #[vwV A va vs, .int .i64 a, .int .i64 m, .string x] w (Gives (.int .i64 3) w) := by
  have HB := Lib.hid hb; have HE := Lib.hid he; have HO := Lib.hid h
  have hm : 0 ≤ m ∧ m ≤ 255 := of_decide_eq_true hb
  obtain ⟨m0, m1⟩ := hm
  have HV : Hid (∀ pu a k, ofV pu a k 3 = .agg #[.pointer none, .int .i64 0, .int .i64 0]) := Lib.hid fun pu a k => by unfold ofV; rw [if_neg (by decide)]
  clear hb he h
  go_enter Tryz.func49, Tryz.ntmps49
  go_wp2_with fail
  refine (fmost_any m _).mono ?_
  rintro e w1 ⟨rfl, rfl⟩
  rw [HB.out]
  go_wp2_with fail
  refine (on_part (HO.out.below (bel1 _ _)) va vs h1 h2 a (m + 1) ha).mono ?_
  rintro e w2 ⟨rfl, hb⟩
  rw [HE.out, HV.out]
  have B2 := Lib.hid ((bel1 w (.cells #[.pointer (some ⟨A, 0, none⟩), .int .i64 (va : Int), .int .i64 (vs : Int)] 28)).trans (hb.mono (by simp)))
  clear hb
  go_wp2_with fail
  go_ret
  exact ⟨rfl, B2.out.alloc B2.out.size _⟩
theorem conv_one (X : World) (B k : Nat) (hk : k ≤ 255) (hB : X.heap[B]? = some (.cells #[.int .u8 (k : Int)] 5 (0, 0))) :
    (convert 121 9 (.slice (some ⟨B, 0, none⟩) 1 1)).run Tryz.prog X = .ok (.string ⟨#[UInt8.ofNat k]⟩) X := by
  have h := run_convert_bytes_arg (P := Tryz.prog) X 121 5 Tryz.underlying121 Tryz.underlying5 B 0 1 1 [(k : Int)] rfl (fun i hi => by
    have hi0 : i = 0 := by simp at hi; omega
    subst hi0
    exact (cell_blk hB 0).1) 9 Tryz.underlying9
  have e2 : strOfNums [(k : Int)] = ⟨#[UInt8.ofNat k]⟩ := by simp [strOfNums]
  rw [e2] at h
  exact h
def txtS (s : ASt) (an : Nat) (x : ByteArray) : ASt := { s with mm := putM s.mm an (UInt8.ofNat x.size :: x.data.toList) }
theorem join_two (c : UInt8) (x : ByteArray) : (joinB [⟨#[c]⟩, x]).data.toList = c :: x.data.toList := by
  simp [joinB, Lib.join]
theorem join_two_size (c : UInt8) (x : ByteArray) : (joinB [⟨#[c]⟩, x]).size = x.size + 1 := by
  have := congrArg List.length (join_two c x)
  rw [List.length_cons] at this
  exact this
set_option maxHeartbeats 1000000 in
theorem fput_yes (h : On A s w) (va vs : Nat) (h1 : va ≤ 4294967296) (h2 : vs ≤ 4294967296) (a m : Int) (ha : a ≤ 9223372036854775807) (x : ByteArray) (hb : mostB m = true) (hl : (x.size : Int) ≤ m) (an : Nat) (han : addrV va vs a (m + 1) = an) (he : thereE s.L s.es (addrV va vs a (m + 1)) (m + 1) = 0) :
    Calls Tryz.prog 49 #[vwV A va vs, .int .i64 a, .int .i64 m, .string x] w (Ret A (txtS s an x) (.int .i64 0) w) := by
  have HB := Lib.hid hb; have HO := Lib.hid h
  have hm : 0 ≤ m ∧ m ≤ 255 := of_decide_eq_true hb
  obtain ⟨m0, m1⟩ := hm
  obtain ⟨mn, rfl⟩ : ∃ k : Nat, m = k := ⟨m.toNat, by omega⟩
  have hx : x.size ≤ 9223372036854775807 := by omega
  rw [han] at he
  have h3 : an ≤ 4294967296 := by
    have hh := (there_iff h.good an ((mn : Int) + 1)).1 (by unfold thereE at he; cases hq : thereB s.L s.es an ((mn : Int) + 1) with
      | true => rfl
      | false => rw [hq] at he; cases he)
    have := h.good.small
    omega
  have hadr : addrV an (mn + 1) 0 (joinB [⟨#[UInt8.ofNat x.size]⟩, x]).size = (an : Int) := by
    rw [join_two_size]; unfold addrV; rw [if_pos (by omega)]; omega
  have hth : thereE s.L s.es (an : Int) (joinB [⟨#[UInt8.ofNat x.size]⟩, x]).data.toList.length = 0 := by
    rw [join_two]
    exact there_part h.good he (by omega) (by omega) (by rw [List.length_cons, bytes_len]; omega)
  have hpS : putS s (an : Int) (joinB [⟨#[UInt8.ofNat x.size]⟩, x]).data.toList = txtS s an x := by
    unfold putS; rw [if_pos hth, join_two]; rfl
  have HE := Lib.hid he; have HA := Lib.hid han; have HAD := Lib.hid hadr; have HTH := Lib.hid hth; have HPS := Lib.hid hpS
  have HV : Hid (∀ pu a k, ofV pu a k 0 = .agg #[.pointer pu, .int .i64 a, .int .i64 k]) := Lib.hid fun pu a k => by unfold ofV; rw [if_pos rfl]
  have HJ : Hid ((joinB [⟨#[UInt8.ofNat x.size]⟩, x]).size ≤ 140737488355328) := Lib.hid (by rw [join_two_size]; omega)
  have HXS := Lib.hid (show x.size ≤ 255 by omega)
  clear hb h he han hadr hth hpS
  go_enter Tryz.func49, Tryz.ntmps49
  go_wp2_with fail
  refine (fmost_any (mn : Int) _).mono ?_
  rintro e w1 ⟨rfl, rfl⟩
  rw [HB.out]
  go_wp2_with fail
  refine (on_part (HO.out.below (bel1 _ _)) va vs h1 h2 a ((mn : Int) + 1) ha).mono ?_
  rintro e w2 ⟨rfl, hb⟩
  rw [HA.out, HE.out, HV.out]
  have B2 := Lib.hid ((bel1 w (.cells #[.pointer (some ⟨A, 0, none⟩), .int .i64 (va : Int), .int .i64 (vs : Int)] 28)).trans (hb.mono (by simp)))
  clear hb
  go_upto_region 8 with fail
  rw [show ((mn : Int) + 1) = ((mn + 1 : Nat) : Int) from by omega]
  have hv := heap_new w2 (.cells #[.pointer (some ⟨A, 0, none⟩), .int .i64 (an : Int), .int .i64 ((mn + 1 : Nat) : Int)] 28)
  have B3 := Lib.hid (B2.out.alloc B2.out.size (.cells #[.pointer (some ⟨A, 0, none⟩), .int .i64 (an : Int), .int .i64 ((mn + 1 : Nat) : Int)] 28))
  obtain ⟨w3, hw3⟩ : ∃ x, w2.alloc (.cells #[.pointer (some ⟨A, 0, none⟩), .int .i64 (an : Int), .int .i64 ((mn + 1 : Nat) : Int)] 28) = x := ⟨_, rfl⟩
  obtain ⟨V, hV⟩ : ∃ x, w2.heap.size = x := ⟨_, rfl⟩
  rw [hw3] at hv B3 ⊢
  rw [hV] at hv ⊢
  have c0 := (cell_blk hv 0).1; have c1 := (cell_blk hv 1).1; have c2 := (cell_blk hv 2).1
  clear hw3 hV hv B2
  have HCV := conv_one (w3.alloc (.cells #[.int .u8 (x.size : Int)] 5)) w3.heap.size x.size HXS.out (heap_new _ _)
  have hxs := HXS.out
  have B5 := Lib.hid (B3.out.trans ((below2 w3 (.cells #[.int .u8 (x.size : Int)] 5) (.cells #[.string ⟨#[UInt8.ofNat x.size]⟩, .string x] 9)).mono B3.out.size))
  have HSA : Hid (StrsAt ((w3.alloc (.cells #[.int .u8 (x.size : Int)] 5)).alloc (.cells #[.string ⟨#[UInt8.ofNat x.size]⟩, .string x] 9)) (some ⟨w3.heap.size + 1, 0, none⟩) [⟨#[UInt8.ofNat x.size]⟩, x]) := Lib.hid (by
    refine .inr ⟨_, 0, rfl, by simp, fun i hi => ?_⟩
    have hb := heap_old2 w3 (.cells #[.int .u8 (x.size : Int)] 5) (.cells #[.string ⟨#[UInt8.ofNat x.size]⟩, .string x] 9)
    rw [(cell_blk hb _).1, Nat.zero_add]
    have : i = 0 ∨ i = 1 := by simp at hi; omega
    rcases this with rfl | rfl <;> rfl)
  go_wp2_with fail
  refine (on_texts (HO.out.below B5.out) an (mn + 1) h3 (by omega) _ 2 [⟨#[UInt8.ofNat x.size]⟩, x] HSA.out (by simp) (by simp) HJ.out).mono ?_
  rintro e w6 ⟨rfl, hx6, hg⟩
  rw [HAD.out] at hx6 ⊢
  rw [HPS.out] at hx6
  rw [HTH.out]
  have HF := Lib.hid (And.intro hx6 ((Went.of_below HO.out B5.out).trans hg))
  clear hx6 hg c0 c1 c2 HCV
  go_wp2_with fail
  go_ret
  exact ⟨rfl, HF.out.1, HF.out.2⟩
theorem ldV_one (s : ASt) (an : Nat) (h : numE s.L s.es (an : Int) 1 = 0) : ldV s (an : Int) 1 = ((s.mm an).toNat : Int) := by
  unfold ldV
  rw [if_pos h, Int.toNat_natCast]
  show ((numV s.mm an 0 + (s.mm (an + 0)).toNat * 2 ^ (8 * 0) : Nat) : Int) = _
  simp [numV]
set_option maxHeartbeats 1000000 in
theorem ftext_yes (h : On A s w) (va vs : Nat) (h1 : va ≤ 4294967296) (h2 : vs ≤ 4294967296) (a m : Int) (ha : a ≤ 9223372036854775807) (hb : mostB m = true) (an k : Nat) (han : addrV va vs a (m + 1) = an) (he : thereE s.L s.es (addrV va vs a (m + 1)) (m + 1) = 0)
    (hk : (s.mm an).toNat = k) (hkm : (k : Int) ≤ m) :
    Calls Tryz.prog 55 #[vwV A va vs, .int .i64 a, .int .i64 m] w (Gives (.tuple #[.string (strL (getM s.mm (an + 1) k)), .int .i64 0]) w) := by
  have HB := Lib.hid hb; have HO := Lib.hid h
  have hm : 0 ≤ m ∧ m ≤ 255 := of_decide_eq_true hb
  obtain ⟨m0, m1⟩ := hm
  obtain ⟨mn, rfl⟩ : ∃ k : Nat, m = k := ⟨m.toNat, by omega⟩
  rw [han] at he
  have h3 : an ≤ 4294967296 := by
    have hh := (there_iff h.good an ((mn : Int) + 1)).1 (by unfold thereE at he; cases hq : thereB s.L s.es an ((mn : Int) + 1) with
      | true => rfl
      | false => rw [hq] at he; cases he)
    have := h.good.small
    omega
  have hA1 : addrV an (mn + 1) 0 1 = (an : Int) := by unfold addrV; rw [if_pos (by omega)]; omega
  have hA2 : addrV an (mn + 1) 1 k = ((an + 1 : Nat) : Int) := by unfold addrV; rw [if_pos (by omega)]; omega
  have hn1 : numE s.L s.es (an : Int) 1 = 0 := by
    unfold numE; rw [show wholeB 1 = true from rfl, if_pos rfl]; exact there_part h.good he (by omega) (by omega) (by omega)
  have hl : ldV s (an : Int) 1 = (k : Int) := by rw [ldV_one s an hn1, hk]
  have ht2 : thereE s.L s.es ((an + 1 : Nat) : Int) k = 0 := there_part h.good he (by omega) (by omega) (by omega)
  have hby : byV s ((an + 1 : Nat) : Int) k = strL (getM s.mm (an + 1) k) := by unfold byV; rw [if_pos ht2, Int.toNat_natCast, Int.toNat_natCast]
  have HE := Lib.hid he; have HA := Lib.hid han; have HA1 := Lib.hid hA1; have HA2 := Lib.hid hA2; have HN1 := Lib.hid hn1; have HL := Lib.hid hl; have HT2 := Lib.hid ht2; have HBY := Lib.hid hby
  have HV : Hid (∀ pu a k, ofV pu a k 0 = .agg #[.pointer pu, .int .i64 a, .int .i64 k]) := Lib.hid fun pu a k => by unfold ofV; rw [if_pos rfl]
  clear hb h he han hA1 hA2 hn1 hl ht2 hby hk
  generalize strL (getM s.mm (an + 1) k) = tx at *
  have k1 : (k : Int) ≤ 255 := by omega
  go_enter Tryz.func55, Tryz.ntmps55
  go_wp2_with fail
  refine (fmost_any (mn : Int) _).mono ?_
  rintro e w1 ⟨rfl, rfl⟩
  rw [HB.out]
  go_wp2_with fail
  refine (on_part (HO.out.below (bel1 _ _)) va vs h1 h2 a ((mn : Int) + 1) ha).mono ?_
  rintro e w2 ⟨rfl, hb⟩
  rw [HA.out, HE.out, HV.out]
  have B2 := Lib.hid ((bel1 w (.cells #[.pointer (some ⟨A, 0, none⟩), .int .i64 (va : Int), .int .i64 (vs : Int)] 28)).trans (hb.mono (by simp)))
  clear hb
  go_upto_region 6 with fail
  rw [show ((mn : Int) + 1) = ((mn + 1 : Nat) : Int) from by omega]
  have hv : VC w2.heap.size (some ⟨A, 0, none⟩) an (mn + 1) _ := heap_new w2 (.cells #[.pointer (some ⟨A, 0, none⟩), .int .i64 (an : Int), .int .i64 ((mn + 1 : Nat) : Int)] 28)
  have B3 := Lib.hid (B2.out.alloc B2.out.size (.cells #[.pointer (some ⟨A, 0, none⟩), .int .i64 (an : Int), .int .i64 ((mn + 1 : Nat) : Int)] 28))
  obtain ⟨w3, hw3⟩ : ∃ x, w2.alloc (.cells #[.pointer (some ⟨A, 0, none⟩), .int .i64 (an : Int), .int .i64 ((mn + 1 : Nat) : Int)] 28) = x := ⟨_, rfl⟩
  obtain ⟨V, hV⟩ : ∃ x, w2.heap.size = x := ⟨_, rfl⟩
  rw [hw3] at hv B3 ⊢
  rw [hV] at hv ⊢
  have HVC := Lib.hid hv
  have c0 := (cell_blk hv 0).1; have c1 := (cell_blk hv 1).1; have c2 := (cell_blk hv 2).1
  clear hw3 hV hv B2
  go_wp2_with fail
  refine (on_load (HO.out.below B3.out) an (mn + 1) h3 (by omega) 0 1 (by omega)).mono ?_
  rintro e w4 ⟨rfl, hb⟩
  rw [HA1.out, HL.out, HN1.out]
  have B4 := Lib.hid (B3.out.trans (hb.mono B3.out.size))
  have HVC4 := Lib.hid (HVC.out.below hb)
  clear hb c0 c1 c2 HVC
  have c0 := (cell_blk HVC4.out 0).1; have c1 := (cell_blk HVC4.out 1).1; have c2 := (cell_blk HVC4.out 2).1
  go_wp2_with fail
  refine (on_bytes (HO.out.below B4.out) an (mn + 1) h3 (by omega) 1 k (by omega)).mono ?_
  rintro e w5 ⟨rfl, hb⟩
  rw [HA2.out, HBY.out, HT2.out]
  have B5 := Lib.hid (B4.out.trans (hb.mono B4.out.size))
  clear hb c0 c1 c2 HVC4
  go_wp2_with fail
  go_ret2
  exact ⟨rfl, B5.out⟩
end
end Go.Proofs.YtcbbhefgdonabaaGreat.Bt
/- Keys: how many slots, and where each stands; an item told, and laid. (Written by gen_dka.py.) -/
namespace Go.Proofs.YtcbbhefgdonabaaGreat.Bt
open Go Go.RowKit Go.Shelf
set_option linter.unusedVariables false
set_option linter.unusedSimpArgs false
set_option maxRecDepth 100000
section
variable {A vs : Nat} {m : Nat → UInt8} {w : World}
theorem kslots1 (h : On A (cS m) w) (hv : vs ≤ 400) (F : Nat) (hF : w.heap[F]? = some (.cells (vwC A 40 vs) 30 (0, 0))) (i : Nat) (hi : i < vs / 32) :
    Calls Tryz.prog 46 (#[.int .i64 (i : Int)] ++ #[.pointer (some ⟨F, 0, none⟩)]) w (Gives (.bool false) w) := by
  have hp : Hid (∀ X, On A (cS m) X → Calls Tryz.prog 47 #[vwV A 40 vs, .int .i64 0, .int .i64 (((i : Int) + 1) * 32)] X (Gives (.tuple #[.agg #[.pointer (some ⟨A, 0, none⟩), .int .i64 40, .int .i64 (((i : Int) + 1) * 32)], .int .i64 0]) X)) := Lib.hid fun X hX => by
    have := on_part hX 40 vs (by omega) (by omega) 0 (((i : Int) + 1) * 32) (by omega)
    rw [addr_in (by omega), cS_there (by omega) (by omega) (by omega), ofV_ok] at this
    exact this
  have c0 := (cell_blk hF 0).1; have c1 := (cell_blk hF 1).1; have c2 := (cell_blk hF 2).1
  have hi2 : (i : Int) ≤ 17 := by omega
  have HO := Lib.hid h
  clear hi hF h
  go_enter Tryz.func46, Tryz.ntmps46
  go_wp2_with fail
  refine (hp.out _ HO.out).mono ?_
  rintro e w1 ⟨rfl, hb⟩
  have HB := Lib.hid hb
  clear hb c0 c1 c2
  go_wp2_with fail
  go_ret
  exact ⟨rfl, HB.out.alloc HB.out.size _⟩
set_option maxHeartbeats 1000000 in
/-- how many slots -/
theorem kslots (h : On A (cS m) w) (hv : vs ≤ 400) : Calls Tryz.prog 29 #[vwV A 40 vs] w (Gives (.int .i64 ((vs / 32 : Nat) : Int)) w) := by
  have eg : ∀ args w, (callFunc 46 args).run Tryz.prog w = .ok (.enter 46 args) w := enters_of Tryz.func46 (by kernel_rfl) rfl
  have q1 : IntKind.i64.wrap ((vs : Int).tdiv 32) = ((vs / 32 : Nat) : Int) := by rw [Int.tdiv_eq_ediv_of_nonneg (by omega), IntWalk.i64_in _ (by omega)]; omega
  have q2 : (vs : Int).tdiv 32 = ((vs / 32 : Nat) : Int) := by rw [Int.tdiv_eq_ediv_of_nonneg (by omega)]; omega
  have q5 : (vs : Int) / 32 = ((vs / 32 : Nat) : Int) := by omega
  obtain ⟨d, hd⟩ : ∃ d, vs / 32 = d := ⟨_, rfl⟩
  have hd17 : d ≤ 17 := by omega
  have HS := Lib.hid fun (X : World) (F : Nat) (hX : On A (cS m) X) (hF : X.heap[F]? = some (.cells (vwC A 40 vs) 30 (0, 0))) =>
    searchN 46 #[.pointer (some ⟨F, 0, none⟩)] eg d (by omega) X fun Y i hY hi => kslots1 (hX.below hY) hv F ((hY.block _ (Array.getElem?_eq_some_iff.1 hF).1).trans hF) i (by omega)
  rw [hd] at q1 q2 q5
  rw [hd]
  have q4 : wrap64 (d : Int) = (d : Int) := IntWalk.wrap64_in _ ⟨by omega, by omega⟩
  have HQ := Lib.hid (And.intro q1 (And.intro q2 (And.intro q4 q5)))
  clear q1 q2 q4 q5 hd hd17 eg
  have HF := Lib.hid (And.intro (heap_new w (.cells (vwC A 40 vs) 30)) (And.intro (h.below (bel1 w (.cells (vwC A 40 vs) 30))) (bel1 w (.cells (vwC A 40 vs) 30))))
  clear h
  go_enter Tryz.func29, Tryz.ntmps29
  go_upto_region 1 with fail
  change Code.wp _ _ _ _ (w.alloc (.cells (vwC A 40 vs) 30))
  obtain ⟨y, hy⟩ : ∃ y, w.alloc (.cells (vwC A 40 vs) 30) = y := ⟨_, rfl⟩
  obtain ⟨F, hFF⟩ : ∃ F, w.heap.size = F := ⟨_, rfl⟩
  have hf := HF.out
  rw [hy, hFF] at hf
  rw [hy, hFF]
  have HWF := Lib.hid hFF
  have HG := Lib.hid hf
  clear hy hFF hf HF
  have c0 := (cell_blk HG.out.1 0).1; have c1 := (cell_blk HG.out.1 1).1; have c2 := (cell_blk HG.out.1 2).1
  go_wp2_with fail
  refine (vsize_any (some ⟨A, 0, none⟩) 40 vs _).mono ?_
  rintro e w1 ⟨rfl, hb⟩
  have HG1 : Hid (w1.heap[F]? = some (.cells (vwC A 40 vs) 30 (0, 0)) ∧ On A (cS m) w1 ∧ Below w.heap.size w w1) := Lib.hid ⟨blk_at hb HG.out.1, HG.out.2.1.below hb, (HWF.out ▸ HG.out.2.2).trans (hb.mono (by have := HG.out.2.2.size; omega))⟩
  clear hb c0 c1 c2 HG
  obtain ⟨q1, q2, q4, q5⟩ := HQ.out
  go_wp2_with fail
  refine (HS.out _ _ HG1.out.2.1 HG1.out.1).mono ?_
  rintro e w2 ⟨rfl, hb⟩
  have HB2 := Lib.hid (HG1.out.2.2.trans (hb.mono HG1.out.2.2.size))
  clear hb
  go_wp2_with fail
  go_ret
  exact ⟨rfl, HB2.out⟩
theorem kslots_nil (w : World) : Calls Tryz.prog 29 #[zvV] w (Gives (.int .i64 0) w) := by
  have eg : ∀ args w, (callFunc 46 args).run Tryz.prog w = .ok (.enter 46 args) w := enters_of Tryz.func46 (by kernel_rfl) rfl
  have HS := Lib.hid fun (X : World) (F : Nat) =>
    searchN 46 #[.pointer (some ⟨F, 0, none⟩)] eg 0 (by omega) X fun Y i hY hi => absurd hi (by omega)
  have HF := Lib.hid (And.intro (heap_new w (.cells zvC 30)) (bel1 w (.cells zvC 30)))
  clear eg
  go_enter Tryz.func29, Tryz.ntmps29
  go_upto_region 1 with fail
  change Code.wp _ _ _ _ (w.alloc (.cells zvC 30))
  obtain ⟨y, hy⟩ : ∃ y, w.alloc (.cells zvC 30) = y := ⟨_, rfl⟩
  obtain ⟨F, hFF⟩ : ∃ F, w.heap.size = F := ⟨_, rfl⟩
  have hf := HF.out
  rw [hy, hFF] at hf
  rw [hy, hFF]
  have HWF := Lib.hid hFF
  have HG := Lib.hid hf
  clear hy hFF hf HF
  have c0 := (cell_blk HG.out.1 0).1; have c1 := (cell_blk HG.out.1 1).1; have c2 := (cell_blk HG.out.1 2).1
  go_wp2_with fail
  refine (vsize_any none 0 0 _).mono ?_
  rintro e w1 ⟨rfl, hb⟩
  have HB1 : Hid (Below w.heap.size w w1) := Lib.hid ((HWF.out ▸ HG.out.2).trans (hb.mono (by have := HG.out.2.size; omega)))
  clear hb c0 c1 c2 HG
  go_wp2_with fail
  refine (HS.out _ _).mono ?_
  rintro e w2 ⟨rfl, hb⟩
  have HB2 := Lib.hid (HB1.out.trans (hb.mono HB1.out.size))
  clear hb
  go_wp2_with fail
  go_ret
  exact ⟨rfl, HB2.out⟩
/-- where a slot stands -/
theorem kslot (h : On A (cS m) w) (hv : vs ≤ 400) (i : Nat) (hi : i < vs / 32) : Calls Tryz.prog 48 #[vwV A 40 vs, .int .i64 (i : Int)] w (Gives (vwV A (40 + 32 * i) 32) w) := by
  have e : addrV 40 vs ((i : Int) * 32) 32 = ((40 + 32 * i : Nat) : Int) := by rw [addr_in (by omega)]; push_cast; omega
  have hp : Hid (∀ X, On A (cS m) X → Calls Tryz.prog 47 #[vwV A 40 vs, .int .i64 ((i : Int) * 32), .int .i64 32] X (Gives (.tuple #[vwV A (40 + 32 * i) 32, .int .i64 0]) X)) := Lib.hid fun X hX => by
    have := on_part hX 40 vs (by omega) (by omega) ((i : Int) * 32) 32 (by omega)
    rw [e, cS_there (by omega) (by omega) (by omega), ofV_ok] at this
    exact this
  have hi2 : (i : Int) ≤ 17 := by omega
  clear hi e
  have HF := Lib.hid (((Fb.start w).new (vwC A 40 vs) 30).new zvC 28)
  have HO := Lib.hid h
  clear h
  go_enter Tryz.func48, Tryz.ntmps48
  go_upto_region 1 with fail
  change Code.wp _ _ _ _ ((w.alloc (.cells (vwC A 40 vs) 30)).alloc (.cells zvC 28))
  obtain ⟨y, hy⟩ : ∃ y, (w.alloc (.cells (vwC A 40 vs) 30)).alloc (.cells zvC 28) = y := ⟨_, rfl⟩
  obtain ⟨C, hC⟩ : ∃ C, w.heap.size = C := ⟨_, rfl⟩
  obtain ⟨O, hO⟩ : ∃ O, (w.alloc (.cells (vwC A 40 vs) 30)).heap.size = O := ⟨_, rfl⟩
  have hO2 : w.heap.size + 1 = O := by rw [← hO]; simp
  have hf := HF.out
  rw [hy, hO, hC] at hf
  rw [hy, hO2, hC]
  have HG := Lib.hid hf
  clear hy hC hO hO2 hf HF
  have c0 := HG.out.cell1 0 rfl; have c1 := HG.out.cell1 1 rfl; have c2 := HG.out.cell1 2 rfl
  go_wp2_with fail
  refine (hp.out _ (HO.out.below HG.out.be)).mono ?_
  rintro e w1 ⟨rfl, hb⟩
  have HG1 := Lib.hid (HG.out.below hb)
  clear hb HG c0 c1 c2
  go_upto_region 2 with fail
  have HG2 := Lib.hid (HG1.out.new (vwC A (40 + 32 * i) 32) 28)
  change Code.wp _ _ _ _ (w1.alloc (.cells (vwC A (40 + 32 * i) 32) 28))
  obtain ⟨w2, hw2⟩ : ∃ y, w1.alloc (.cells (vwC A (40 + 32 * i) 32) 28) = y := ⟨_, rfl⟩
  obtain ⟨V, hV⟩ : ∃ F, w1.heap.size = F := ⟨_, rfl⟩
  rw [hw2, hV] at HG2
  rw [hw2, hV]
  clear hw2 hV HG1
  have v0 := HG2.out.cell0 0 rfl; have v1 := HG2.out.cell0 1 rfl; have v2 := HG2.out.cell0 2 rfl
  have r0 := HG2.out.cell1 0 rfl; have r1 := HG2.out.cell1 1 rfl; have r2 := HG2.out.cell1 2 rfl
  have f0 := HG2.out.free1 0; have f1 := HG2.out.free1 1; have f2 := HG2.out.free1 2
  go_wp2_with fail
  change bodyPost _ _ _ _ _ (stR w2 O [.pointer (some ⟨A, 0, none⟩), .int .i64 ((40 + 32 * i : Nat) : Int), .int .i64 ((32 : Nat) : Int)] 0)
  have hz := HG2.out.stores1 [.pointer (some ⟨A, 0, none⟩), .int .i64 ((40 + 32 * i : Nat) : Int), .int .i64 ((32 : Nat) : Int)] 0
  obtain ⟨z, hzz⟩ : ∃ z, stR w2 O [.pointer (some ⟨A, 0, none⟩), .int .i64 ((40 + 32 * i : Nat) : Int), .int .i64 ((32 : Nat) : Int)] 0 = z := ⟨_, rfl⟩
  rw [hzz] at hz ⊢
  have hz : Fb w [⟨V, vwC A (40 + 32 * i) 32, 28⟩, ⟨O, vwC A (40 + 32 * i) 32, 28⟩, ⟨C, vwC A 40 vs, 30⟩] z := hz
  have g0 := hz.cell1 0 rfl; have g1 := hz.cell1 1 rfl; have g2 := hz.cell1 2 rfl
  exact bodyPost_ret (v := vwV A (40 + 32 * i) 32) (by simp [results, Tryz.results48, go_sem, g0, g1, g2]) rfl ⟨rfl, hz.be⟩

abbrev iV (t : Itm) : Value := .agg #[.string t.k, .int .u64 (t.x : Int)]
theorem strL_key (k : ByteArray) : strL k.data.toList = k := by unfold strL; rfl
/-- what a slot tells -/
def rdT (m : Nat → UInt8) (a : Nat) : Itm := ⟨strL (getM m (a + 1) (m a).toNat), numV m (a + 24) 8⟩
theorem ItAt.tell {m : Nat → UInt8} {a : Nat} {t : Itm} (h : ItAt m a t) : rdT m a = t := by
  unfold rdT
  rw [h.n, h.b, h.x, strL_key]
set_option maxHeartbeats 4000000 in
/-- the item in a slot -/
theorem kload (h : On A (cS m) w) (hv : vs ≤ 400) (i : Nat) (hi : i < vs / 32) (hk : (m (40 + 32 * i)).toNat ≤ 16) : Calls Tryz.prog 35 #[vwV A 40 vs, .int .i64 (i : Int)] w (Gives (iV (rdT m (40 + 32 * i))) w) := by
  have HSL := Lib.hid fun X (hX : On A (cS m) X) => kslot hX hv i hi
  have han : 40 + 32 * i + 32 ≤ 4096 := by omega
  have HTX : Hid (∀ X, On A (cS m) X → Calls Tryz.prog 55 #[vwV A (40 + 32 * i) 32, .int .i64 0, .int .i64 16] X (Gives (.tuple #[.string (strL (getM m (40 + 32 * i + 1) (m (40 + 32 * i)).toNat)), .int .i64 0]) X)) := Lib.hid fun X hX => by
    have ea : addrV (40 + 32 * i) 32 0 (16 + 1) = ((40 + 32 * i : Nat) : Int) := by rw [addr_in (by omega)]; omega
    exact ftext_yes hX (40 + 32 * i) 32 (by omega) (by omega) 0 16 (by omega) (by decide) (40 + 32 * i) _ ea (by rw [ea]; exact cS_there (by omega) (by omega) (by omega)) rfl (by show ((m (40 + 32 * i)).toNat : Int) ≤ 16; omega)
  have HLD : Hid (∀ X, On A (cS m) X → Calls Tryz.prog 56 #[vwV A (40 + 32 * i) 32, .int .i64 24, .int .i64 8] X (Gives (.tuple #[.int .u64 ((numV m (40 + 32 * i + 24) 8 : Nat) : Int), .int .i64 0]) X)) := Lib.hid fun X hX => by
    have ea : addrV (40 + 32 * i) 32 24 8 = ((40 + 32 * i + 24 : Nat) : Int) := by rw [addr_in (by omega)]; push_cast; rfl
    have hn : numE (cS m).L (cS m).es ((40 + 32 * i + 24 : Nat) : Int) 8 = 0 := by exact cS_there (by omega) (by omega) (by omega)
    have := on_load hX (40 + 32 * i) 32 (by omega) (by omega) 24 8 (by omega)
    rw [ea, hn, show ldV (cS m) ((40 + 32 * i + 24 : Nat) : Int) 8 = ((numV m (40 + 32 * i + 24) 8 : Nat) : Int) from by unfold ldV; rw [if_pos hn, Int.toNat_natCast]; rfl] at this
    exact this
  unfold rdT
  obtain ⟨a, ha⟩ : ∃ a, 40 + 32 * i = a := ⟨_, rfl⟩
  rw [ha] at HSL HTX HLD
  rw [ha]
  obtain ⟨K, hK⟩ : ∃ K, strL (getM m (a + 1) (m a).toNat) = K := ⟨_, rfl⟩
  obtain ⟨x, hx⟩ : ∃ x, numV m (a + 24) 8 = x := ⟨_, rfl⟩
  rw [hK] at HTX
  rw [hx] at HLD
  rw [hK, hx]
  have HO := Lib.hid h
  clear h hi han ha hK hx hk
  have HF0 := Lib.hid (((Fb.start w).new (vwC A 40 vs) 30).new #[.string ⟨#[]⟩, .int .u64 0] 39)
  go_enter Tryz.func35, Tryz.ntmps35
  go_upto_region 1 with fail
  change Code.wp _ _ _ _ ((w.alloc (.cells (vwC A 40 vs) 30)).alloc (.cells #[.string ⟨#[]⟩, .int .u64 0] 39))
  obtain ⟨y, hy⟩ : ∃ y, ((w.alloc (.cells (vwC A 40 vs) 30)).alloc (.cells #[.string ⟨#[]⟩, .int .u64 0] 39)) = y := ⟨_, rfl⟩
  obtain ⟨B0, hB0⟩ : ∃ B, w.heap.size = B := ⟨_, rfl⟩
  obtain ⟨B1, hB1⟩ : ∃ B, (w.alloc (.cells (vwC A 40 vs) 30)).heap.size = B := ⟨_, rfl⟩
  have hC1 : w.heap.size + 1 = B1 := by rw [← hB1]; simp
  have hf := HF0.out
  rw [hy, hB1, hB0] at hf
  rw [hy, hC1, hB0]
  have HF := Lib.hid hf
  clear hf HF0 hy hB0 hB1 hC1
  have c0 := HF.out.cell1 0 rfl; have c1 := HF.out.cell1 1 rfl; have c2 := HF.out.cell1 2 rfl
  go_wp2_with fail
  refine (HSL.out _ (HO.out.below HF.out.be)).mono ?_
  rintro e w1 ⟨rfl, hb⟩
  have HF1 := Lib.hid ((HF.out.below hb).new (vwC A a 32) 28)
  clear hb HF c0 c1 c2 HSL
  go_upto_region 2 with fail
  change Code.wp _ _ _ _ (w1.alloc (.cells (vwC A a 32) 28))
  obtain ⟨y1, hy⟩ : ∃ z, w1.alloc (.cells (vwC A a 32) 28) = z := ⟨_, rfl⟩
  obtain ⟨V, hV⟩ : ∃ V, w1.heap.size = V := ⟨_, rfl⟩
  rw [hy, hV] at HF1
  rw [hy, hV]
  clear hy hV
  have c0 := HF1.out.cell0 0 rfl; have c1 := HF1.out.cell0 1 rfl; have c2 := HF1.out.cell0 2 rfl
  go_wp2_with fail
  refine (HTX.out _ (HO.out.below HF1.out.be)).mono ?_
  rintro e w2 ⟨rfl, hb⟩
  have HF2 := Lib.hid (HF1.out.below hb)
  clear hb HF1 c0 c1 c2 HTX
  have c0 := HF2.out.cell0 0 rfl; have c1 := HF2.out.cell0 1 rfl; have c2 := HF2.out.cell0 2 rfl
  go_wp2_with fail
  refine (HLD.out _ (HO.out.below HF2.out.be)).mono ?_
  rintro e w3 ⟨rfl, hb⟩
  have HF3 := Lib.hid (HF2.out.below hb)
  clear hb HF2 c0 c1 c2 HLD
  have o0 := HF3.out.cell1 0 rfl; have o1 := HF3.out.cell1 1 rfl
  have f0 := HF3.out.free1 0; have f1 := HF3.out.free1 1
  go_wp2_with fail
  have hst : Fb w [⟨V, vwC A a 32, 28⟩, ⟨B1, #[.string K, .int .u64 (x : Int)], 39⟩, ⟨B0, vwC A 40 vs, 30⟩] (stR w3 B1 [.string K, .int .u64 (x : Int)] 0) := HF3.out.stores1 [.string K, .int .u64 (x : Int)] 0
  change bodyPost _ _ _ _ _ (stR w3 B1 [.string K, .int .u64 (x : Int)] 0)
  obtain ⟨z, hzz⟩ : ∃ z, stR w3 B1 [.string K, .int .u64 (x : Int)] 0 = z := ⟨_, rfl⟩
  rw [hzz] at hst ⊢
  have g0 := hst.cell1 0 rfl; have g1 := hst.cell1 1 rfl
  have HST := Lib.hid hst
  clear hst
  exact bodyPost_ret (v := .agg #[.string K, .int .u64 (x : Int)]) (by simp [results, Tryz.results35, go_sem, g0, g1]) rfl ⟨rfl, HST.out.be⟩
set_option maxHeartbeats 4000000 in
/-- an item is laid in a slot -/
theorem kstore (h : On A (cS m) w) (hv : vs ≤ 400) (i : Nat) (hi : i < vs / 32) (t : Itm) (ht : t.ok) : Calls Tryz.prog 31 #[vwV A 40 vs, .int .i64 (i : Int), iV t] w (Ret A (cS (stT m (40 + 32 * i) t)) (.tuple #[]) w) := by
  have HSL := Lib.hid fun X (hX : On A (cS m) X) => kslot hX hv i hi
  have hsz := ht.2.1
  have hx8 := ht.2.2
  obtain ⟨m1, hm1⟩ : ∃ m1, putM m (40 + 32 * i) (UInt8.ofNat t.k.size :: t.k.data.toList) = m1 := ⟨_, rfl⟩
  have HTX : Hid (∀ X, On A (cS m) X → Calls Tryz.prog 49 #[vwV A (40 + 32 * i) 32, .int .i64 0, .int .i64 16, .string t.k] X (Ret A (cS m1) (.int .i64 0) X)) := Lib.hid fun X hX => by
    have ea : addrV (40 + 32 * i) 32 0 (16 + 1) = ((40 + 32 * i : Nat) : Int) := by rw [addr_in (by omega)]; omega
    have := fput_yes hX (40 + 32 * i) 32 (by omega) (by omega) 0 16 (by omega) t.k (by decide) (by omega) (40 + 32 * i) ea (by rw [ea]; exact cS_there (by omega) (by omega) (by omega))
    unfold txtS at this
    rw [show ({ cS m with mm := putM (cS m).mm (40 + 32 * i) (UInt8.ofNat t.k.size :: t.k.data.toList) } : ASt) = cS m1 from by rw [← hm1]; rfl] at this
    exact this
  have HLD : Hid (∀ X, On A (cS m1) X → Calls Tryz.prog 50 #[vwV A (40 + 32 * i) 32, .int .i64 24, .int .i64 8, .int .u64 (t.x : Int)] X (Ret A (cS (stT m (40 + 32 * i) t)) (.int .i64 0) X)) := Lib.hid fun X hX => by
    have ea : addrV (40 + 32 * i) 32 24 8 = ((40 + 32 * i + 24 : Nat) : Int) := by rw [addr_in (by omega)]; push_cast; rfl
    have hn : numE (cS m1).L (cS m1).es ((40 + 32 * i + 24 : Nat) : Int) 8 = 0 := by exact cS_there (by omega) (by omega) (by omega)
    have := on_store hX (40 + 32 * i) 32 (by omega) (by omega) 24 8 (t.x : Int) (by omega) (by omega)
    rw [ea, hn, show storeS (cS m1) ((40 + 32 * i + 24 : Nat) : Int) 8 (t.x : Int) = cS (stT m (40 + 32 * i) t) from by unfold storeS; rw [if_pos hn]; unfold stT put8; rw [hm1]; rfl] at this
    exact this
  obtain ⟨sW, hsW⟩ : ∃ s, cS (stT m (40 + 32 * i) t) = s := ⟨_, rfl⟩
  obtain ⟨a, ha⟩ : ∃ a, 40 + 32 * i = a := ⟨_, rfl⟩
  rw [hsW, ha] at HLD
  rw [ha] at HSL HTX
  rw [hsW]
  have hl9 : t.k.size ≤ 9223372036854775807 := by omega
  clear hi ha hm1 hsW ht hx8
  have f0_ := Fr.start A w
  have f1_ := f0_.new h (vwC A 40 vs) 30 (by unfold NotAr; decide)
  have h1_ := h.below (bel1 _ (.cells (vwC A 40 vs) 30))
  have f2_ := f1_.new h1_ #[.string t.k, .int .u64 (t.x : Int)] 39 (by unfold NotAr; decide)
  have h2_ := h1_.below (bel1 _ (.cells #[.string t.k, .int .u64 (t.x : Int)] 39))
  have HF0 := Lib.hid (And.intro f2_ h2_)
  clear f0_ f1_ f2_ h1_ h2_ h
  go_enter Tryz.func31, Tryz.ntmps31
  go_upto_region 1 with fail
  change Code.wp _ _ _ _ ((w.alloc (.cells (vwC A 40 vs) 30)).alloc (.cells #[.string t.k, .int .u64 (t.x : Int)] 39))
  obtain ⟨y, hy⟩ : ∃ y, ((w.alloc (.cells (vwC A 40 vs) 30)).alloc (.cells #[.string t.k, .int .u64 (t.x : Int)] 39)) = y := ⟨_, rfl⟩
  obtain ⟨B0, hB0⟩ : ∃ B, w.heap.size = B := ⟨_, rfl⟩
  obtain ⟨B1, hB1⟩ : ∃ B, (w.alloc (.cells (vwC A 40 vs) 30)).heap.size = B := ⟨_, rfl⟩
  have hC1 : w.heap.size + 1 = B1 := by rw [← hB1]; simp
  have hf := HF0.out
  rw [hy, hB1, hB0] at hf
  rw [hy, hC1, hB0]
  have HF := Lib.hid hf
  clear hf HF0 hy hB0 hB1 hC1
  have c0 := HF.out.1.cell1 0 rfl; have c1 := HF.out.1.cell1 1 rfl; have c2 := HF.out.1.cell1 2 rfl
  go_wp2_with fail
  refine (HSL.out _ HF.out.2).mono ?_
  rintro e w1 ⟨rfl, hb⟩
  have HF1 := Lib.hid (And.intro ((HF.out.1.below HF.out.2 hb).new (HF.out.2.below hb) (vwC A a 32) 28 (by unfold NotAr; decide)) ((HF.out.2.below hb).below (bel1 w1 (.cells (vwC A a 32) 28))))
  clear hb HF c0 c1 c2 HSL
  go_upto_region 2 with fail
  change Code.wp _ _ _ _ (w1.alloc (.cells (vwC A a 32) 28))
  obtain ⟨y1, hy⟩ : ∃ z, w1.alloc (.cells (vwC A a 32) 28) = z := ⟨_, rfl⟩
  obtain ⟨V, hV⟩ : ∃ V, w1.heap.size = V := ⟨_, rfl⟩
  rw [hy, hV] at HF1
  rw [hy, hV]
  clear hy hV
  have c0 := HF1.out.1.cell0 0 rfl; have c1 := HF1.out.1.cell0 1 rfl; have c2 := HF1.out.1.cell0 2 rfl
  have e0 := HF1.out.1.cell1 0 rfl; have e1 := HF1.out.1.cell1 1 rfl
  go_wp2_with fail
  refine (HTX.out _ HF1.out.2).mono ?_
  rintro e w2 ⟨rfl, ho, hg⟩
  have HF2 := Lib.hid (And.intro (HF1.out.1.went HF1.out.2 hg) ho)
  clear ho hg HF1 c0 c1 c2 e0 e1 HTX
  have c0 := HF2.out.1.cell0 0 rfl; have c1 := HF2.out.1.cell0 1 rfl; have c2 := HF2.out.1.cell0 2 rfl
  have e0 := HF2.out.1.cell1 0 rfl; have e1 := HF2.out.1.cell1 1 rfl
  go_wp2_with fail
  refine (HLD.out _ HF2.out.2).mono ?_
  rintro e w3 ⟨rfl, ho, hg⟩
  have HF3 := Lib.hid (And.intro (HF2.out.1.went HF2.out.2 hg) ho)
  clear ho hg HF2 c0 c1 c2 e0 e1 HLD
  go_wp2_with fail
  exact bodyPost_ret (v := .tuple #[]) (by simp [results, Tryz.results31, go_sem]) rfl ⟨rfl, HF3.out.2, HF3.out.1.wt⟩
end
end Go.Proofs.YtcbbhefgdonabaaGreat.Bt
/- A list of cleanups: its layout, and the entry in a slot. (Written by gen_ceb.py.) -/
namespace Go.Proofs.YtcbbhefgdonabaaGreat.Bt
open Go Go.RowKit Go.Shelf
set_option linter.unusedVariables false
set_option linter.unusedSimpArgs false
set_option maxRecDepth 100000
theorem Fb.plus {w0 x y : World} {L : List Blk} {N : Nat} {c : Array Value} {T : TypeId} (h : Fb w0 L x) (hb : Below x.heap.size x y) (hN : y.heap[N]? = some (.cells c T (0, 0))) (hl : x.heap.size ≤ N) : Fb w0 (⟨N, c, T⟩ :: L) y := by
  have h2 := h.below hb
  refine ⟨fun z hz => ?_, List.pairwise_cons.2 ⟨fun z hz => ?_, h2.nd⟩, h2.be⟩
  · rcases List.mem_cons.1 hz with rfl | hz
    · exact ⟨hN, Nat.le_trans h.be.size hl⟩
    · exact h2.bs z hz
  · have := (Array.getElem?_eq_some_iff.1 (h.bs z hz).1).1
    show N ≠ z.r
    omega
section
variable {A vs : Nat} {m : Nat → UInt8} {w : World}
theorem addr_sl (an : Nat) : addrV an 24 0 (F3 4 : Nat) = an := by rw [F3_at.2.2.2.2, addr_in (by omega)]; omega
theorem nums_e (m : Nat → UInt8) (an : Nat) : numC 4 (allV (cS m) an F3) 4 = #[.int .u64 ((rdE m an).i : Int), .int .u64 ((rdE m an).k : Int), .int .u64 ((rdE m an).l : Int), .int .u64 ((rdE m an).x : Int)] := rfl
end
end Go.Proofs.YtcbbhefgdonabaaGreat.Bt
/- Rows of elements of k cells each, of any type: read, and grown by append. -/
namespace Go.Proofs.YtcbbhefgdonabaaGreat.Bt
open Go Go.RowKit Go.Shelf
set_option linter.unusedVariables false
set_option linter.unusedSimpArgs false
section
variable {α : Type}
def flG (enc : α → List Value) : List α → List Value
  | [] => []
  | y :: l => enc y ++ flG enc l
theorem flG_append (enc : α → List Value) (l l' : List α) : flG enc (l ++ l') = flG enc l ++ flG enc l' := by
  induction l with
  | nil => rfl
  | cons c l ih => show enc c ++ flG enc (l ++ l') = (enc c ++ flG enc l) ++ flG enc l'; rw [ih, List.append_assoc]
theorem flG_one (enc : α → List Value) (l : List α) (y : α) : flG enc (l ++ [y]) = flG enc l ++ enc y := by rw [flG_append]; simp [flG]
theorem flG_length {enc : α → List Value} {k : Nat} (hk : ∀ y, (enc y).length = k) (l : List α) : (flG enc l).length = l.length * k := by
  induction l with
  | nil => simp [flG]
  | cons c l ih => show (enc c ++ flG enc l).length = _; rw [List.length_append, ih, hk, List.length_cons, Nat.succ_mul]; omega
theorem flG_get {enc : α → List Value} {k : Nat} (hk : ∀ y, (enc y).length = k) (l : List α) (j : Nat) (y : α) (h : l[j]? = some y) (i : Nat) (hi : i < k) : (flG enc l)[j * k + i]? = (enc y)[i]? := by
  induction l generalizing j with
  | nil => simp at h
  | cons c l ih =>
    show (enc c ++ flG enc l)[j * k + i]? = _
    rcases j with _ | j
    · simp at h
      subst h
      rw [List.getElem?_append_left (by rw [hk]; omega)]; simp
    · rw [List.getElem?_append_right (by rw [hk, Nat.succ_mul]; omega)]
      have e : (j + 1) * k + i - (enc c).length = j * k + i := by rw [hk, Nat.succ_mul]; omega
      rw [e]
      exact ih j (by simpa using h)
/-- a row in memory -/
def RowG (T : TypeId) (enc : α → List Value) (k : Nat) (p : Option Addr) (L : List α) (w : World) : Prop :=
  L = [] ∨ ∃ g cur, p = some ⟨g, 0, none⟩ ∧ w.heap[g]? = some (.cells cur T (0, 0)) ∧ ∀ j y, L[j]? = some y → ∀ i v, (enc y)[i]? = some v → cur[j * k + i]? = some v
theorem RowG.nil (T : TypeId) (enc : α → List Value) (k : Nat) (p : Option Addr) (w : World) : RowG T enc k p [] w := .inl rfl
theorem RowG.below {T : TypeId} {enc : α → List Value} {k : Nat} {p : Option Addr} {L : List α} {x y : World} (h : RowG T enc k p L x) (hb : Below x.heap.size x y) : RowG T enc k p L y := by
  rcases h with h | ⟨g, cur, hp, hg, hc⟩
  · exact .inl h
  · exact .inr ⟨g, cur, hp, blk_at hb hg, hc⟩
theorem RowG.went {T : TypeId} {enc : α → List Value} {k : Nat} {p : Option Addr} {L : List α} {A : Nat} {s : ASt} {x y : World} (h : RowG T enc k p L x) (hT : NotAr T) (ho : On A s x) (hg : Went A x y) : RowG T enc k p L y := by
  rcases h with h | ⟨g, cur, hp, hgg, hc⟩
  · exact .inl h
  · exact .inr ⟨g, cur, hp, hg.keep ho hgg hT.1 hT.2.1 hT.2.2, hc⟩
theorem RowG.cell {T : TypeId} {enc : α → List Value} {k : Nat} {p : Option Addr} {L : List α} {w : World} (h : RowG T enc k p L w) {j : Nat} {y : α} (hj : L[j]? = some y) :
    ∃ g, p = some ⟨g, 0, none⟩ ∧ g < w.heap.size ∧ ∀ i v, (enc y)[i]? = some v → w.cell? ⟨g, j * k + i, none⟩ = some v := by
  rcases h with rfl | ⟨g, cur, hp, hg, hc⟩
  · simp at hj
  · exact ⟨g, hp, (Array.getElem?_eq_some_iff.1 hg).1, fun i v hi => (cell_blk hg _).1.trans (hc j y hj i v hi)⟩
theorem RowG.take {T : TypeId} {enc : α → List Value} {k : Nat} {p : Option Addr} {L : List α} {w : World} (h : RowG T enc k p L w) (n : Nat) : RowG T enc k p (L.take n) w := by
  rcases h with rfl | ⟨g, cur, hp, hg, hc⟩
  · exact .inl (by simp)
  · exact .inr ⟨g, cur, hp, hg, fun j y hj => hc j y (by
      rw [List.getElem?_take] at hj
      split at hj
      · exact hj
      · cases hj)⟩
/-- grown by append -/
structure RwG (T : TypeId) (enc : α → List Value) (k b0 : Nat) (L : List α) (v : Value) (x y : World) : Prop where
  ow : y.ownsRow b0 T k v L.length (flG enc L)
  bl : Below b0 x y
  sz : b0 ≤ y.heap.size
theorem RwG.start (T : TypeId) (enc : α → List Value) (k : Nat) {b0 : Nat} (x : World) (h : x.heap.size = b0) : RwG T enc k b0 [] (.slice none 0 0) x x :=
  ⟨World.ownsRow_nil _ _ _ _, Below.refl _ _, by omega⟩
theorem RwG.below {T : TypeId} {enc : α → List Value} {k b0 : Nat} {L : List α} {v : Value} {x y y' : World} (h : RwG T enc k b0 L v x y) (hb : Below y.heap.size y y') : RwG T enc k b0 L v x y' :=
  ⟨h.ow.kept (show y.grownBy y' none from ⟨hb.os, hb.tape, hb.output, hb.size, fun k hk _ => hb.block k hk⟩) (by cases e : v.ownBlock with
    | none => exact .inl rfl
    | some g => exact .inr (by simp)), h.bl.trans (hb.mono h.sz), Nat.le_trans h.sz hb.size⟩
theorem rowG_grow {W w1 w : World} {base n k : Nat} {e : TypeId} {v : Value} {xs : List Value} (hrow : W.ownsRow base e k v n xs) (hgrow : W.grownBy w1 v.ownBlock) (hs : base ≤ W.heap.size) (hb : Below base w W) : Below base w w1 :=
  hb.grown hgrow (by omega) fun j ej => by
    rcases hrow.2 with ⟨rfl, _⟩ | ⟨g, cap, cur, rfl, h, _⟩
    · simp [Value.ownBlock] at ej
    · obtain rfl : g = j := by simpa [Value.ownBlock] using ej
      exact h
/-- behind an append of one element -/
theorem RwG.app {T : TypeId} {enc : α → List Value} {k b0 : Nat} {L : List α} {v v' : Value} {x y y' : World} (h : RwG T enc k b0 L v x y) (u : α) (hg : y.grownBy y' v.ownBlock)
    (ho : y'.ownsRow b0 T k v' (L.length + 1) (flG enc L ++ enc u)) : RwG T enc k b0 (L ++ [u]) v' x y' := by
  have hz := h.sz
  have hs := hg.size
  exact ⟨by rw [List.length_append, flG_one]; exact ho, rowG_grow h.ow hg h.sz h.bl, by omega⟩
/-- behind an append of some -/
theorem RwG.apps {T : TypeId} {enc : α → List Value} {k b0 : Nat} {L : List α} {v v' : Value} {x y y' : World} (h : RwG T enc k b0 L v x y) (M : List α) (hg : y.grownBy y' v.ownBlock)
    (ho : y'.ownsRow b0 T k v' (L.length + M.length) (flG enc L ++ flG enc M)) : RwG T enc k b0 (L ++ M) v' x y' := by
  have hz := h.sz
  have hs := hg.size
  exact ⟨by rw [List.length_append, flG_append]; exact ho, rowG_grow h.ow hg h.sz h.bl, by omega⟩
theorem RowG.src {T : TypeId} {enc : α → List Value} {k : Nat} (hk : ∀ y, (enc y).length = k) {ad : Addr} {L : List α} {w : World} (h : RowG T enc k (some ad) L w) : ∀ j u, (flG enc L)[j]? = some u → w.cell? (ad.add j) = some u := by
  intro j u hj
  have hjl := (List.getElem?_eq_some_iff.1 hj).1
  rw [flG_length hk] at hjl
  have hk0 : 0 < k := by
    rcases Nat.eq_zero_or_pos k with e | e
    · subst e; simp at hjl
    · exact e
  have hq : j / k < L.length := (Nat.div_lt_iff_lt_mul hk0).2 hjl
  have hy := List.getElem?_eq_getElem hq
  have hdm : j / k * k + j % k = j := by rw [Nat.mul_comm]; exact Nat.div_add_mod j k
  have h2 := flG_get hk L (j / k) _ hy (j % k) (Nat.mod_lt _ hk0)
  rw [hdm, hj] at h2
  obtain ⟨g, hp, _, hc⟩ := h.cell hy
  cases hp
  have e : (⟨g, 0, none⟩ : Addr).add j = ⟨g, j, none⟩ := by simp only [Addr.add]; split <;> simp_all
  rw [e]
  have h3 := hc (j % k) u h2.symm
  rw [hdm] at h3
  exact h3
theorem flG_ones {enc : α → List Value} (h1 : ∀ y, ∀ u ∈ enc y, u.oneCell' = true) (L : List α) : ∀ u ∈ flG enc L, u.oneCell' = true := by
  induction L with
  | nil => intro u hu; simp [flG] at hu
  | cons c l ih =>
    intro u hu
    rcases List.mem_append.1 (show u ∈ enc c ++ flG enc l from hu) with hu | hu
    · exact h1 c u hu
    · exact ih u hu
/-- a row that is whole -/
theorem RwG.row {T : TypeId} {enc : α → List Value} {k b0 : Nat} {L : List α} {v : Value} {x y : World} (hk : ∀ y, (enc y).length = k) (h : RwG T enc k b0 L v x y) : ∃ p cap, v = .slice p L.length cap ∧ L.length ≤ cap ∧ RowG T enc k p L y := by
  rcases h.ow.2 with ⟨rfl, h0⟩ | ⟨g, cap, cur, rfl, _, hg, hnc, _, hcs, htk⟩
  · exact ⟨none, 0, by rw [h0], by omega, .inl (List.eq_nil_of_length_eq_zero h0)⟩
  · refine ⟨_, cap, rfl, by omega, .inr ⟨g, cur, rfl, hg, fun j y hj i v hi => ?_⟩⟩
    have hjl := (List.getElem?_eq_some_iff.1 hj).1
    have hik : i < k := by rw [← hk y]; exact (List.getElem?_eq_some_iff.1 hi).1
    have h2 := flG_get hk L j y hj i hik
    have hlt : j * k + i < L.length * k := by
      have : (j + 1) * k ≤ L.length * k := Nat.mul_le_mul_right _ hjl
      rw [Nat.succ_mul] at this
      omega
    rw [hi, ← htk, List.getElem?_take, if_pos hlt] at h2
    simpa using h2
theorem RwG.row2 {T : TypeId} {enc : α → List Value} {k b0 : Nat} {L : List α} {v : Value} {x y : World} (hk : ∀ y, (enc y).length = k) (h : RwG T enc k b0 L v x y) : ∃ p cap, v = .slice p L.length cap ∧ L.length ≤ cap ∧ (p = none → cap = 0) ∧ RowG T enc k p L y := by
  obtain ⟨p, cap, rfl, h1, h2⟩ := h.row hk
  refine ⟨p, cap, rfl, h1, fun e => ?_, h2⟩
  subst e
  rcases h.ow.2 with ⟨e, h0⟩ | ⟨g, cap', cur, e, _⟩
  · exact ((Value.slice.injEq _ _ _ _ _ _).mp e).2.2
  · have := ((Value.slice.injEq _ _ _ _ _ _).mp e).1
    cases this
theorem RwG.ge {T : TypeId} {enc : α → List Value} {k b0 : Nat} {L : List α} {v : Value} {x y : World} (h : RwG T enc k b0 L v x y) (g n c : Nat) (e : v = .slice (some ⟨g, 0, none⟩) n c) : b0 ≤ g := by
  subst e
  rcases h.ow.2 with ⟨e, _⟩ | ⟨g', cap', cur, e, hb, _⟩
  · have := ((Value.slice.injEq _ _ _ _ _ _).mp e).1
    cases this
  · have := ((Value.slice.injEq _ _ _ _ _ _).mp e).1
    cases this
    exact hb
/-- the cells of an element in a block of its own -/
theorem encG_new {w : World} {c : Array Value} (T : TypeId) (l : List Value) (hl : c = l.toArray) {g : Nat} (hg : w.heap.size = g) : ∀ j u, l[j]? = some u → (w.alloc (.cells c T)).cell? ((⟨g, 0, none⟩ : Addr).add j) = some u := fun j u h => by
  subst hg
  have e : (⟨w.heap.size, 0, none⟩ : Addr).add j = ⟨w.heap.size, j, none⟩ := by simp only [Addr.add]; split <;> simp_all
  rw [e, (cell_blk (heap_new w _) _).1, ← h, hl]
  simp
end
end Go.Proofs.YtcbbhefgdonabaaGreat.Bt
/- A list of cleanups: All, find, Room. (Written by gen_cec.py.) -/
namespace Go.Proofs.YtcbbhefgdonabaaGreat.Bt
open Go Go.RowKit Go.Shelf
set_option linter.unusedVariables false
set_option linter.unusedSimpArgs false
def eL (e : Ent) : List Value := [.int .u64 (e.i : Int), .int .u8 (e.k : Int), .int .u8 (e.l : Int), .int .u64 (e.x : Int)]
theorem eL_len (e : Ent) : (eL e).length = 4 := rfl
theorem take_next {L : List Ent} {j : Nat} {e : Ent} (h : L[j]? = some e) : L.take (j + 1) = L.take j ++ [e] := by rw [List.take_add_one, h]; rfl
section
variable {A vs : Nat} {m : Nat → UInt8} {w : World} {L : List Ent}
end
end Go.Proofs.YtcbbhefgdonabaaGreat.Bt
/- Keys: all items. (Written by gen_dkb.py.) -/
namespace Go.Proofs.YtcbbhefgdonabaaGreat.Bt
open Go Go.RowKit Go.Shelf
set_option linter.unusedVariables false
set_option linter.unusedSimpArgs false
theorem keyEq (a b : ByteArray) : (a.toList == b.toList) = decide (a = b) := by
  rw [← beq_toListBytes, Bool.eq_iff_iff, MapKept.bytes_beq]; simp
theorem keyEmp {k : ByteArray} (h : ¬ k = ⟨#[]⟩) : k.toList.isEmpty = false := by
  cases e : k.toList.isEmpty with
  | false => rfl
  | true =>
    have h2 : (k.toList == (⟨#[]⟩ : ByteArray).toList) = true := by rw [List.isEmpty_iff.1 e]; rw [ByteArray.toList_eq]; rfl
    rw [keyEq] at h2
    exact absurd (of_decide_eq_true h2) h
def iL (t : Itm) : List Value := [.string t.k, .int .u64 (t.x : Int)]
theorem iL_len (t : Itm) : (iL t).length = 2 := rfl
theorem notItm : NotAr 39 := by unfold NotAr; decide
theorem Tryz.infoItm : (Tryz.prog.info? 39).map (fun i => (i.zero, i.size, i.bytes)) = some (some (.agg #[.string ⟨#[]⟩, .int .u64 0]), 2, 24) := by kernel_rfl
theorem RwG.mono {α : Type} {T : TypeId} {enc : α → List Value} {k b b0 : Nat} {L : List α} {v : Value} {x y z : World} (h : RwG T enc k b0 L v y z) (hb : b ≤ b0) (hx : Below b x y) : RwG T enc k b L v x z :=
  ⟨h.ow.mono hb, hx.trans (h.bl.mono hb), by have := h.sz; omega⟩
/-- a row of items that came anew, owned from base on -/
def RowI (b : Nat) (L : List Itm) (x : World) (e : Ending) (w' : World) : Prop := ∃ p cap, e = .returned (.slice p L.length cap) ∧ L.length ≤ cap ∧ (p = none → cap = 0) ∧ RwG 39 iL 2 b L (.slice p L.length cap) x w'
theorem rowI_cell {p : Option Addr} {L : List Itm} {w : World} (h : RowG 39 iL 2 p L w) {j : Nat} {t : Itm} (hj : L[j]? = some t) :
    ∃ g, p = some ⟨g, 0, none⟩ ∧ g < w.heap.size ∧ w.cell? ⟨g, j * 2, none⟩ = some (.string t.k) ∧ w.cell? ⟨g, j * 2 + 1, none⟩ = some (.int .u64 (t.x : Int)) := by
  obtain ⟨g, hp, hg, hc⟩ := h.cell hj
  exact ⟨g, hp, hg, hc 0 _ rfl, hc 1 _ rfl⟩
theorem takeI_next {L : List Itm} {j : Nat} {t : Itm} (h : L[j]? = some t) : L.take (j + 1) = L.take j ++ [t] := by rw [List.take_add_one, h]; rfl
theorem rdT_end {m : Nat → UInt8} {a : Nat} (h : m a = 0) : ∃ x, rdT m a = ⟨⟨#[]⟩, x⟩ := ⟨numV m (a + 24) 8, by unfold rdT; rw [h]; rfl⟩
section
variable {A vs : Nat} {m : Nat → UInt8} {w : World} {L : List Itm}
set_option maxRecDepth 100000 in
set_option maxHeartbeats 4000000 in
/-- all items -/
theorem kall (h : On A (cS m) w) (hv : vs ≤ 400) (hL : Ky m (vs / 32) L) : Calls Tryz.prog 18 #[vwV A 40 vs] w (RowI w.heap.size L w) := by
  obtain ⟨i0, hi, hz0, hz1, hz2⟩ := info_parts Tryz.infoItm
  have HI := Lib.hid hi; have HZ0 := Lib.hid hz0; have HZ1 := Lib.hid hz1; have HZ2 := Lib.hid hz2
  clear hi hz0 hz1 hz2
  have HSN := Lib.hid fun X (hX : On A (cS m) X) => kslots hX hv
  have HLO := Lib.hid fun X (hX : On A (cS m) X) i (hi : i < vs / 32) => kload hX hv i hi (by
    rcases Nat.lt_or_ge i L.length with c | c
    · have h2 := hL.rd i _ (List.getElem?_eq_getElem c)
      rw [h2.1.n]; exact h2.2.2.1
    · rw [hL.fin i c hi]; decide)
  obtain ⟨d, hd⟩ : ∃ d, vs / 32 = d := ⟨_, rfl⟩
  have hd17 : d ≤ 17 := by omega
  rw [hd] at HSN HLO hL
  have hld := hL.len
  have HL := Lib.hid hL
  have HO := Lib.hid h
  have HF := Lib.hid (And.intro (heap_new w (.cells (vwC A 40 vs) 30)) (bel1 w (.cells (vwC A 40 vs) 30)))
  clear hd h hL
  go_enter Tryz.func18, Tryz.ntmps18
  go_upto_region 2 with fail
  change Code.wp _ _ _ _ (w.alloc (.cells (vwC A 40 vs) 30))
  obtain ⟨y, hy⟩ : ∃ y, w.alloc (.cells (vwC A 40 vs) 30) = y := ⟨_, rfl⟩
  obtain ⟨C, hC⟩ : ∃ C, w.heap.size = C := ⟨_, rfl⟩
  have hf := HF.out
  have hcw := hf.2
  rw [hy] at hf hcw
  rw [hC] at hf
  rw [hy, hC]
  have HG : Hid (y.heap[C]? = some (.cells (vwC A 40 vs) 30 (0, 0)) ∧ Below w.heap.size w y) := Lib.hid ⟨hf.1, hcw⟩
  clear hy hC hf hcw HF
  have c0 := (cell_blk HG.out.1 0).1; have c1 := (cell_blk HG.out.1 1).1; have c2 := (cell_blk HG.out.1 2).1
  go_wp2_with fail
  refine (HSN.out _ (HO.out.below HG.out.2)).mono ?_
  rintro e w1 ⟨rfl, hb⟩
  have HG1 : Hid (w1.heap[C]? = some (.cells (vwC A 40 vs) 30 (0, 0)) ∧ Below w.heap.size w w1) := Lib.hid ⟨blk_at hb HG.out.1, HG.out.2.trans (hb.mono HG.out.2.size)⟩
  clear hb c0 c1 c2 HG HSN
  obtain ⟨b0, hb0⟩ : ∃ b0, w1.heap.size = b0 := ⟨_, rfl⟩
  have HCB : Hid (C < b0) := Lib.hid (by have := (Array.getElem?_eq_some_iff.1 HG1.out.1).1; omega)
  have HST := Lib.hid (RwG.start 39 iL 2 w1 hb0)
  have HB0 := Lib.hid hb0
  clear hb0
  go_wp2_with fail
  go_loopw [3, 8] (fun s3 s8 wr => ∃ (j : Nat) (v3 : Value), j ≤ L.length ∧ v3 = s3 ∧ s8 = .int .i64 (j : Int) ∧ Hid (RwG 39 iL 2 b0 (L.take j) v3 w1 wr)) (fun _ s8 _ => d - (intOf s8).toNat)
  case atStart => exact ⟨0, _, Nat.zero_le _, rfl, rfl, HST⟩
  case round =>
    clear HST
    obtain ⟨j, v3, hj, rfl, rfl, HR⟩ := hrel
    have hcr := (HR.out.bl.block _ HCB.out).trans HG1.out.1
    have HBW : Hid (Below w.heap.size w wr) := Lib.hid (HG1.out.2.trans (HR.out.bl.mono (by rw [← HB0.out]; exact HG1.out.2.size)))
    have HEND : j = L.length → Hid (∃ p cap, v3 = .slice p L.length cap ∧ L.length ≤ cap ∧ (p = none → cap = 0) ∧ RwG 39 iL 2 w.heap.size L (.slice p L.length cap) w wr) := fun e => Lib.hid (by
      have h1 := HR.out.mono (x := w) (b := w.heap.size) (by rw [← HB0.out]; exact HG1.out.2.size) HG1.out.2
      rw [e, List.take_length] at h1
      obtain ⟨p, cap, hp, h2, h3, _⟩ := h1.row2 iL_len
      rw [hp] at h1
      exact ⟨p, cap, hp, h2, h3, h1⟩)
    by_cases hjn : j < d
    · have hjn2 : (j : Int) < (d : Int) := by omega
      have c0 := (cell_blk hcr 0).1; have c1 := (cell_blk hcr 1).1; have c2 := (cell_blk hcr 2).1
      have HLJ := Lib.hid fun X (hX : On A (cS m) X) => HLO.out X hX j hjn
      by_cases hjl : j < L.length
      · obtain ⟨E, hE⟩ : ∃ E, L[j]? = some E := ⟨_, List.getElem?_eq_getElem hjl⟩
        have hrd := HL.out.rd j E hE
        rw [hrd.1.tell] at HLJ
        have hz : ¬ (E.k = ⟨#[]⟩) := fun e => by have := hrd.2.1; rw [e] at this; exact absurd this (by decide)
        have hz2 : E.k.toList.isEmpty = false := keyEmp hz
        have HTK := Lib.hid (takeI_next hE)
        have hlen : (L.take j).length ≤ 17 := by rw [List.length_take]; omega
        have HLEN := Lib.hid hlen
        clear hE hrd hcr hlen HEND hz
        go_wp2_with fail
        refine (HLJ.out _ (HO.out.below HBW.out)).mono ?_
        rintro e w2 ⟨rfl, hb⟩
        have HR2 := Lib.hid (HR.out.below hb)
        have HR4 := Lib.hid ((HR2.out.below (bel1 w2 (.cells #[.string E.k, .int .u64 (E.x : Int)] 39))).below (bel1 _ (.cells #[.string E.k, .int .u64 (E.x : Int)] 39)))
        have hsz := HR2.out.sz
        have hlen := HLEN.out
        clear hb c0 c1 c2
        go_wp2_with (at_builtin; refine wpList_append_own _ rfl _ _ 34 rfl b0 39 i0 (.agg #[.string ⟨#[]⟩, .int .u64 0]) 2 24 Tryz.underlying34 HI.out HZ0.out HZ1.out HZ2.out rfl (by decide) _ _ _ rfl HR4.out.ow ⟨_, 0, none⟩ 1 1 (iL E) rfl rfl (encG_new _ _ rfl (by simp)) (by simp [iL, Value.oneCell']) (by unfold maxLen; omega) (by omega) (by simp; omega) ?_; intro v' w6 hown' hgrow _)
        have HF : Hid (RwG 39 iL 2 b0 (L.take (j + 1)) v' w1 w6) := Lib.hid (by
          rw [HTK.out]
          exact HR4.out.app E hgrow hown')
        clear hown' hgrow HR HR2 HR4
        go_wp2_with fail
        go_roundw
        case rel => exact ⟨j + 1, _, by omega, rfl, by go_num, HF⟩
        case measure => simp [intOf]; omega
      · have hje : j = L.length := by omega
        obtain ⟨xz, hrd⟩ := rdT_end (HL.out.fin j (by omega) hjn)
        rw [hrd] at HLJ
        have HE := HEND hje
        obtain ⟨p, cap, rfl, hcap, hnil, hrow⟩ := HE.out
        have HRW := Lib.hid (And.intro hcap (And.intro hnil hrow))
        clear hrd hcr HEND HE hcap hnil hrow HR hje hjl
        go_wp2_with fail
        refine (HLJ.out _ (HO.out.below HBW.out)).mono ?_
        rintro e w2 ⟨rfl, hb⟩
        have HRW2 := Lib.hid (HRW.out.2.2.below hb)
        clear hb c0 c1 c2
        go_wp2_with fail
        go_ret
        exact ⟨p, cap, rfl, HRW.out.1, HRW.out.2.1, HRW2.out.below (bel1 _ _)⟩
    · have hje : j = L.length := by omega
      have hjn2 : ¬ (j : Int) < (d : Int) := by omega
      have HE := HEND hje
      obtain ⟨p, cap, rfl, hcap, hnil, hrow⟩ := HE.out
      have HRW := Lib.hid (And.intro hcap (And.intro hnil hrow))
      clear hcr HEND HE hcap hnil hrow HR hje
      go_wp2_with fail
      go_ret
      exact ⟨p, cap, rfl, HRW.out.1, HRW.out.2.1, HRW.out.2.2⟩
set_option maxHeartbeats 2000000 in
/-- none, where there is no list -/
theorem kall_nil (w : World) : Calls Tryz.prog 18 #[zvV] w (RowI w.heap.size [] w) := by
  have HSN := Lib.hid fun X => kslots_nil X
  have HF := Lib.hid (And.intro (heap_new w (.cells zvC 30)) (bel1 w (.cells zvC 30)))
  go_enter Tryz.func18, Tryz.ntmps18
  go_upto_region 2 with fail
  change Code.wp _ _ _ _ (w.alloc (.cells zvC 30))
  obtain ⟨y, hy⟩ : ∃ y, w.alloc (.cells zvC 30) = y := ⟨_, rfl⟩
  obtain ⟨C, hC⟩ : ∃ C, w.heap.size = C := ⟨_, rfl⟩
  have hf := HF.out
  have hcw := hf.2
  rw [hy] at hf hcw
  rw [hC] at hf
  rw [hy, hC]
  have HG : Hid (y.heap[C]? = some (.cells zvC 30 (0, 0)) ∧ Below w.heap.size w y) := Lib.hid ⟨hf.1, hcw⟩
  clear hy hC hf hcw HF
  have c0 := (cell_blk HG.out.1 0).1; have c1 := (cell_blk HG.out.1 1).1; have c2 := (cell_blk HG.out.1 2).1
  go_wp2_with fail
  refine (HSN.out _).mono ?_
  rintro e w1 ⟨rfl, hb⟩
  have HG1 : Hid (Below w.heap.size w w1) := Lib.hid (HG.out.2.trans (hb.mono HG.out.2.size))
  clear hb c0 c1 c2 HG HSN
  go_wp2_with fail
  go_loopw [3, 8] (fun s3 s8 wr => s3 = .slice none 0 0 ∧ s8 = .int .i64 0 ∧ wr = w1) (fun _ _ _ => 0)
  case atStart => exact ⟨rfl, rfl, rfl⟩
  case round =>
    obtain ⟨rfl, rfl, rfl⟩ := hrel
    go_wp2_with fail
    go_ret
    exact ⟨none, 0, rfl, Nat.le_refl _, fun _ => rfl, ⟨World.ownsRow_nil _ _ _ _, HG1.out, HG1.out.size⟩⟩
end
end Go.Proofs.YtcbbhefgdonabaaGreat.Bt
