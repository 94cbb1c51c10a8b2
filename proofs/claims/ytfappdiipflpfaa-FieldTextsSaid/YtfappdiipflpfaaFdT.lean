/- The contracts of PutText and Text. -/
import Derived.Test.YtfappdiipflpfaaFdE
import Derived.Test.YtfappdiipflpfaaVwTexts
namespace Go.Proofs.Ytfappdiipflpfaa.Bt
open Go Go.RowKit Go.Shelf
set_option linter.unusedVariables false
set_option linter.unusedSimpArgs false

section
variable {A : Nat} {s : ASt} {w : World}
theorem on_texts (h : On A s w) (va vs : Nat) (h1 : va ≤ 4294967296) (h2 : vs ≤ 4294967296) (q : Option Addr) (c : Nat) (xs : List ByteArray) (hs : StrsAt w q xs) (hN : xs.length ≤ 140737488355328) (hcap : xs.length ≤ c) (hj : (joinB xs).size ≤ 140737488355328) :
    Calls Try.prog 43 #[vwV A va vs, .slice q xs.length c] w (Ret A (putS s (addrV va vs 0 (joinB xs).size) (joinB xs).data.toList) (.int .i64 (thereE s.L s.es (addrV va vs 0 (joinB xs).size) (joinB xs).data.toList.length)) w) := by
  obtain ⟨P, ps, p, n, cap, h⟩ := h; exact (vtexts_any h va vs h1 h2 q c xs hs hN hcap hj).mono fun e w' k => On.ret h k
def mostB (m : Int) : Bool := decide (0 ≤ m ∧ m ≤ 255)
theorem fmost_any (m : Int) (w : World) : Calls Try.prog 126 #[.int .i64 m] w fun e w' => e = .returned (.bool (mostB m)) ∧ w = w' := by
  by_cases h0 : 0 ≤ m
  · by_cases h1 : m ≤ 255
    · have HB : Hid (mostB m = true) := Lib.hid (decide_eq_true ⟨h0, h1⟩)
      go_enter Try.func126, Try.ntmps126
      go_wp2_with fail
      go_ret
      exact ⟨by rw [HB.out]; rfl, rfl⟩
    · have HB : Hid (mostB m = false) := Lib.hid (decide_eq_false fun h => h1 h.2)
      go_enter Try.func126, Try.ntmps126
      go_wp2_with fail
      go_ret
      exact ⟨by rw [HB.out]; rfl, rfl⟩
  · have HB : Hid (mostB m = false) := Lib.hid (decide_eq_false fun h => h0 h.1)
    go_enter Try.func126, Try.ntmps126
    go_wp2_with fail
    go_ret
    exact ⟨by rw [HB.out]; rfl, rfl⟩
theorem fput_arg (va vs : Nat) (a m : Int) (x : ByteArray) (hx : x.size ≤ 9223372036854775807) (hb : mostB m = false) :
    Calls Try.prog 65 #[vwV A va vs, .int .i64 a, .int .i64 m, .string x] w (Gives (.int .i64 2) w) := by
  have HB := Lib.hid hb
  clear hb
  go_enter Try.func65, Try.ntmps65
  go_wp2_with fail
  refine (fmost_any m _).mono ?_
  rintro e w1 ⟨rfl, rfl⟩
  rw [HB.out]
  go_wp2_with fail
  go_ret
  exact ⟨rfl, bel1 _ _⟩
theorem fput_long (va vs : Nat) (a m : Int) (x : ByteArray) (hx : x.size ≤ 9223372036854775807) (hb : mostB m = true) (hl : m < x.size) :
    Calls Try.prog 65 #[vwV A va vs, .int .i64 a, .int .i64 m, .string x] w (Gives (.int .i64 16) w) := by
  have HB := Lib.hid hb
  clear hb
  go_enter Try.func65, Try.ntmps65
  go_wp2_with fail
  refine (fmost_any m _).mono ?_
  rintro e w1 ⟨rfl, rfl⟩
  rw [HB.out]
  go_wp2_with fail
  go_ret
  exact ⟨rfl, bel1 _ _⟩
theorem fput_no (h : On A s w) (va vs : Nat) (h1 : va ≤ 4294967296) (h2 : vs ≤ 4294967296) (a m : Int) (ha : a ≤ 9223372036854775807) (x : ByteArray) (hx : x.size ≤ 9223372036854775807) (hb : mostB m = true) (hl : (x.size : Int) ≤ m) (he : thereE s.L s.es (addrV va vs a (m + 1)) (m + 1) = 3) :
    Calls Try.prog 65 #[vwV A va vs, .int .i64 a, .int .i64 m, .string x] w (Gives (.int .i64 3) w) := by
  have HB := Lib.hid hb; have HE := Lib.hid he; have HO := Lib.hid h
  have hm : 0 ≤ m ∧ m ≤ 255 := of_decide_eq_true hb
  obtain ⟨m0, m1⟩ := hm
  have HV : Hid (∀ pu a k, ofV pu a k 3 = .agg #[.pointer none, .int .i64 0, .int .i64 0]) := Lib.hid fun pu a k => by unfold ofV; rw [if_neg (by decide)]
  clear hb he h
  go_enter Try.func65, Try.ntmps65
  go_wp2_with fail
  refine (fmost_any m _).mono ?_
  rintro e w1 ⟨rfl, rfl⟩
  rw [HB.out]
  go_wp2_with fail
  refine (on_part (HO.out.below (bel1 _ _)) va vs h1 h2 a (m + 1) ha).mono ?_
  rintro e w2 ⟨rfl, hb⟩
  rw [HE.out, HV.out]
  have B2 := Lib.hid ((bel1 w (.cells #[.pointer (some ⟨A, 0, none⟩), .int .i64 (va : Int), .int .i64 (vs : Int)] 53)).trans (hb.mono (by simp)))
  clear hb
  go_wp2_with fail
  go_ret
  exact ⟨rfl, B2.out.alloc B2.out.size _⟩
theorem conv_one (X : World) (B k : Nat) (hk : k ≤ 255) (hB : X.heap[B]? = some (.cells #[.int .u8 (k : Int)] 5 (0, 0))) :
    (convert 145 9 (.slice (some ⟨B, 0, none⟩) 1 1)).run Try.prog X = .ok (.string ⟨#[UInt8.ofNat k]⟩) X := by
  have h := run_convert_bytes_arg (P := Try.prog) X 145 5 Try.underlying145 Try.underlying5 B 0 1 1 [(k : Int)] rfl (fun i hi => by
    have hi0 : i = 0 := by simp at hi; omega
    subst hi0
    exact (cell_blk hB 0).1) 9 Try.underlying9
  have e2 : strOfNums [(k : Int)] = ⟨#[UInt8.ofNat k]⟩ := by simp [strOfNums]
  rw [e2] at h
  exact h
def txtS (s : ASt) (an : Nat) (x : ByteArray) : ASt := { s with mm := putM s.mm an (UInt8.ofNat x.size :: x.data.toList) }
theorem join_two (c : UInt8) (x : ByteArray) : (joinB [⟨#[c]⟩, x]).data.toList = c :: x.data.toList := by
  simp [joinB, Lib.join]
theorem join_two_size (c : UInt8) (x : ByteArray) : (joinB [⟨#[c]⟩, x]).size = x.size + 1 := by
  have := congrArg List.length (join_two c x)
  rw [List.length_cons] at this
  exact this
set_option maxHeartbeats 1000000 in
theorem fput_yes (h : On A s w) (va vs : Nat) (h1 : va ≤ 4294967296) (h2 : vs ≤ 4294967296) (a m : Int) (ha : a ≤ 9223372036854775807) (x : ByteArray) (hb : mostB m = true) (hl : (x.size : Int) ≤ m) (an : Nat) (han : addrV va vs a (m + 1) = an) (he : thereE s.L s.es (addrV va vs a (m + 1)) (m + 1) = 0) :
    Calls Try.prog 65 #[vwV A va vs, .int .i64 a, .int .i64 m, .string x] w (Ret A (txtS s an x) (.int .i64 0) w) := by
  have HB := Lib.hid hb; have HO := Lib.hid h
  have hm : 0 ≤ m ∧ m ≤ 255 := of_decide_eq_true hb
  obtain ⟨m0, m1⟩ := hm
  obtain ⟨mn, rfl⟩ : ∃ k : Nat, m = k := ⟨m.toNat, by omega⟩
  have hx : x.size ≤ 9223372036854775807 := by omega
  rw [han] at he
  have h3 : an ≤ 4294967296 := by
    have hh := (there_iff h.good an ((mn : Int) + 1)).1 (by unfold thereE at he; cases hq : thereB s.L s.es an ((mn : Int) + 1) with
      | true => rfl
      | false => rw [hq] at he; cases he)
    have := h.good.small
    omega
  have hadr : addrV an (mn + 1) 0 (joinB [⟨#[UInt8.ofNat x.size]⟩, x]).size = (an : Int) := by
    rw [join_two_size]; unfold addrV; rw [if_pos (by omega)]; omega
  have hth : thereE s.L s.es (an : Int) (joinB [⟨#[UInt8.ofNat x.size]⟩, x]).data.toList.length = 0 := by
    rw [join_two]
    exact there_part h.good he (by omega) (by omega) (by rw [List.length_cons, bytes_len]; omega)
  have hpS : putS s (an : Int) (joinB [⟨#[UInt8.ofNat x.size]⟩, x]).data.toList = txtS s an x := by
    unfold putS; rw [if_pos hth, join_two]; rfl
  have HE := Lib.hid he; have HA := Lib.hid han; have HAD := Lib.hid hadr; have HTH := Lib.hid hth; have HPS := Lib.hid hpS
  have HV : Hid (∀ pu a k, ofV pu a k 0 = .agg #[.pointer pu, .int .i64 a, .int .i64 k]) := Lib.hid fun pu a k => by unfold ofV; rw [if_pos rfl]
  have HJ : Hid ((joinB [⟨#[UInt8.ofNat x.size]⟩, x]).size ≤ 140737488355328) := Lib.hid (by rw [join_two_size]; omega)
  have HXS := Lib.hid (show x.size ≤ 255 by omega)
  clear hb h he han hadr hth hpS
  go_enter Try.func65, Try.ntmps65
  go_wp2_with fail
  refine (fmost_any (mn : Int) _).mono ?_
  rintro e w1 ⟨rfl, rfl⟩
  rw [HB.out]
  go_wp2_with fail
  refine (on_part (HO.out.below (bel1 _ _)) va vs h1 h2 a ((mn : Int) + 1) ha).mono ?_
  rintro e w2 ⟨rfl, hb⟩
  rw [HA.out, HE.out, HV.out]
  have B2 := Lib.hid ((bel1 w (.cells #[.pointer (some ⟨A, 0, none⟩), .int .i64 (va : Int), .int .i64 (vs : Int)] 53)).trans (hb.mono (by simp)))
  clear hb
  go_upto_region 8 with fail
  rw [show ((mn : Int) + 1) = ((mn + 1 : Nat) : Int) from by omega]
  have hv := heap_new w2 (.cells #[.pointer (some ⟨A, 0, none⟩), .int .i64 (an : Int), .int .i64 ((mn + 1 : Nat) : Int)] 53)
  have B3 := Lib.hid (B2.out.alloc B2.out.size (.cells #[.pointer (some ⟨A, 0, none⟩), .int .i64 (an : Int), .int .i64 ((mn + 1 : Nat) : Int)] 53))
  obtain ⟨w3, hw3⟩ : ∃ x, w2.alloc (.cells #[.pointer (some ⟨A, 0, none⟩), .int .i64 (an : Int), .int .i64 ((mn + 1 : Nat) : Int)] 53) = x := ⟨_, rfl⟩
  obtain ⟨V, hV⟩ : ∃ x, w2.heap.size = x := ⟨_, rfl⟩
  rw [hw3] at hv B3 ⊢
  rw [hV] at hv ⊢
  have c0 := (cell_blk hv 0).1; have c1 := (cell_blk hv 1).1; have c2 := (cell_blk hv 2).1
  clear hw3 hV hv B2
  have HCV := conv_one (w3.alloc (.cells #[.int .u8 (x.size : Int)] 5)) w3.heap.size x.size HXS.out (heap_new _ _)
  have hxs := HXS.out
  have B5 := Lib.hid (B3.out.trans ((below2 w3 (.cells #[.int .u8 (x.size : Int)] 5) (.cells #[.string ⟨#[UInt8.ofNat x.size]⟩, .string x] 9)).mono B3.out.size))
  have HSA : Hid (StrsAt ((w3.alloc (.cells #[.int .u8 (x.size : Int)] 5)).alloc (.cells #[.string ⟨#[UInt8.ofNat x.size]⟩, .string x] 9)) (some ⟨w3.heap.size + 1, 0, none⟩) [⟨#[UInt8.ofNat x.size]⟩, x]) := Lib.hid (by
    refine .inr ⟨_, 0, rfl, by simp, fun i hi => ?_⟩
    have hb := heap_old2 w3 (.cells #[.int .u8 (x.size : Int)] 5) (.cells #[.string ⟨#[UInt8.ofNat x.size]⟩, .string x] 9)
    rw [(cell_blk hb _).1, Nat.zero_add]
    have : i = 0 ∨ i = 1 := by simp at hi; omega
    rcases this with rfl | rfl <;> rfl)
  go_wp2_with fail
  refine (on_texts (HO.out.below B5.out) an (mn + 1) h3 (by omega) _ 2 [⟨#[UInt8.ofNat x.size]⟩, x] HSA.out (by simp) (by simp) HJ.out).mono ?_
  rintro e w6 ⟨rfl, hx6, hg⟩
  rw [HAD.out] at hx6 ⊢
  rw [HPS.out] at hx6
  rw [HTH.out]
  have HF := Lib.hid (And.intro hx6 ((Went.of_below HO.out B5.out).trans hg))
  clear hx6 hg c0 c1 c2 HCV
  go_wp2_with fail
  go_ret
  exact ⟨rfl, HF.out.1, HF.out.2⟩
theorem ldV_one (s : ASt) (an : Nat) (h : numE s.L s.es (an : Int) 1 = 0) : ldV s (an : Int) 1 = ((s.mm an).toNat : Int) := by
  unfold ldV
  rw [if_pos h, Int.toNat_natCast]
  show ((numV s.mm an 0 + (s.mm (an + 0)).toNat * 2 ^ (8 * 0) : Nat) : Int) = _
  simp [numV]
set_option maxHeartbeats 1000000 in
theorem ftext_yes (h : On A s w) (va vs : Nat) (h1 : va ≤ 4294967296) (h2 : vs ≤ 4294967296) (a m : Int) (ha : a ≤ 9223372036854775807) (hb : mostB m = true) (an k : Nat) (han : addrV va vs a (m + 1) = an) (he : thereE s.L s.es (addrV va vs a (m + 1)) (m + 1) = 0)
    (hk : (s.mm an).toNat = k) (hkm : (k : Int) ≤ m) :
    Calls Try.prog 66 #[vwV A va vs, .int .i64 a, .int .i64 m] w (Gives (.tuple #[.string (strL (getM s.mm (an + 1) k)), .int .i64 0]) w) := by
  have HB := Lib.hid hb; have HO := Lib.hid h
  have hm : 0 ≤ m ∧ m ≤ 255 := of_decide_eq_true hb
  obtain ⟨m0, m1⟩ := hm
  obtain ⟨mn, rfl⟩ : ∃ k : Nat, m = k := ⟨m.toNat, by omega⟩
  rw [han] at he
  have h3 : an ≤ 4294967296 := by
    have hh := (there_iff h.good an ((mn : Int) + 1)).1 (by unfold thereE at he; cases hq : thereB s.L s.es an ((mn : Int) + 1) with
      | true => rfl
      | false => rw [hq] at he; cases he)
    have := h.good.small
    omega
  have hA1 : addrV an (mn + 1) 0 1 = (an : Int) := by unfold addrV; rw [if_pos (by omega)]; omega
  have hA2 : addrV an (mn + 1) 1 k = ((an + 1 : Nat) : Int) := by unfold addrV; rw [if_pos (by omega)]; omega
  have hn1 : numE s.L s.es (an : Int) 1 = 0 := by
    unfold numE; rw [show wholeB 1 = true from rfl, if_pos rfl]; exact there_part h.good he (by omega) (by omega) (by omega)
  have hl : ldV s (an : Int) 1 = (k : Int) := by rw [ldV_one s an hn1, hk]
  have ht2 : thereE s.L s.es ((an + 1 : Nat) : Int) k = 0 := there_part h.good he (by omega) (by omega) (by omega)
  have hby : byV s ((an + 1 : Nat) : Int) k = strL (getM s.mm (an + 1) k) := by unfold byV; rw [if_pos ht2, Int.toNat_natCast, Int.toNat_natCast]
  have HE := Lib.hid he; have HA := Lib.hid han; have HA1 := Lib.hid hA1; have HA2 := Lib.hid hA2; have HN1 := Lib.hid hn1; have HL := Lib.hid hl; have HT2 := Lib.hid ht2; have HBY := Lib.hid hby
  have HV : Hid (∀ pu a k, ofV pu a k 0 = .agg #[.pointer pu, .int .i64 a, .int .i64 k]) := Lib.hid fun pu a k => by unfold ofV; rw [if_pos rfl]
  clear hb h he han hA1 hA2 hn1 hl ht2 hby hk
  generalize strL (getM s.mm (an + 1) k) = tx at *
  have k1 : (k : Int) ≤ 255 := by omega
  go_enter Try.func66, Try.ntmps66
  go_wp2_with fail
  refine (fmost_any (mn : Int) _).mono ?_
  rintro e w1 ⟨rfl, rfl⟩
  rw [HB.out]
  go_wp2_with fail
  refine (on_part (HO.out.below (bel1 _ _)) va vs h1 h2 a ((mn : Int) + 1) ha).mono ?_
  rintro e w2 ⟨rfl, hb⟩
  rw [HA.out, HE.out, HV.out]
  have B2 := Lib.hid ((bel1 w (.cells #[.pointer (some ⟨A, 0, none⟩), .int .i64 (va : Int), .int .i64 (vs : Int)] 53)).trans (hb.mono (by simp)))
  clear hb
  go_upto_region 6 with fail
  rw [show ((mn : Int) + 1) = ((mn + 1 : Nat) : Int) from by omega]
  have hv : VC w2.heap.size (some ⟨A, 0, none⟩) an (mn + 1) _ := heap_new w2 (.cells #[.pointer (some ⟨A, 0, none⟩), .int .i64 (an : Int), .int .i64 ((mn + 1 : Nat) : Int)] 53)
  have B3 := Lib.hid (B2.out.alloc B2.out.size (.cells #[.pointer (some ⟨A, 0, none⟩), .int .i64 (an : Int), .int .i64 ((mn + 1 : Nat) : Int)] 53))
  obtain ⟨w3, hw3⟩ : ∃ x, w2.alloc (.cells #[.pointer (some ⟨A, 0, none⟩), .int .i64 (an : Int), .int .i64 ((mn + 1 : Nat) : Int)] 53) = x := ⟨_, rfl⟩
  obtain ⟨V, hV⟩ : ∃ x, w2.heap.size = x := ⟨_, rfl⟩
  rw [hw3] at hv B3 ⊢
  rw [hV] at hv ⊢
  have HVC := Lib.hid hv
  have c0 := (cell_blk hv 0).1; have c1 := (cell_blk hv 1).1; have c2 := (cell_blk hv 2).1
  clear hw3 hV hv B2
  go_wp2_with fail
  refine (on_load (HO.out.below B3.out) an (mn + 1) h3 (by omega) 0 1 (by omega)).mono ?_
  rintro e w4 ⟨rfl, hb⟩
  rw [HA1.out, HL.out, HN1.out]
  have B4 := Lib.hid (B3.out.trans (hb.mono B3.out.size))
  have HVC4 := Lib.hid (HVC.out.below hb)
  clear hb c0 c1 c2 HVC
  have c0 := (cell_blk HVC4.out 0).1; have c1 := (cell_blk HVC4.out 1).1; have c2 := (cell_blk HVC4.out 2).1
  go_wp2_with fail
  refine (on_bytes (HO.out.below B4.out) an (mn + 1) h3 (by omega) 1 k (by omega)).mono ?_
  rintro e w5 ⟨rfl, hb⟩
  rw [HA2.out, HBY.out, HT2.out]
  have B5 := Lib.hid (B4.out.trans (hb.mono B4.out.size))
  clear hb c0 c1 c2 HVC4
  go_wp2_with fail
  go_ret2
  exact ⟨rfl, B5.out⟩
end
end Go.Proofs.Ytfappdiipflpfaa.Bt
