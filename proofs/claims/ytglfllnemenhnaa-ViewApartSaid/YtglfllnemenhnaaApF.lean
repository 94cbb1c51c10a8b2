/- The walk of ViewApart. (Written by gen_apf.py.) -/
import Derived.Test.YtglfllnemenhnaaApE
import Derived.Test.YtglfllnemenhnaaApC
import Derived.Test.YtglfllnemenhnaaEmB
namespace Go.Proofs.Ytglfllnemenhnaa.Bt
open Go Go.RowKit Go.Shelf
set_option linter.unusedVariables false
set_option linter.unusedSimpArgs false

section
variable {W A va vs b : Nat} {m : Nat → UInt8} {w : World}
theorem do_any (y : Act3) (hk : y.ok) (hd : 1 < y.d % 10) (hs6 : y.s.size ≤ 6000) (h1 : va ≤ 4294967296) (h2 : vs ≤ 4294967296) (ho : On A (fullS 4 m) w) (hw : WB W A va vs b w) :
    Calls Try.prog 18 #[.pointer (some ⟨W, 0, none⟩), .agg #[.int .u8 y.d, .int .i64 y.a, .int .i64 y.fr, .int .i64 y.n, .int .u64 y.x, .string y.s]] w (DoP W A va vs b m w) := by
  have h : y.d % 10 = 2 ∨ y.d % 10 = 3 ∨ y.d % 10 = 4 ∨ y.d % 10 = 5 ∨ y.d % 10 = 6 ∨ y.d % 10 = 7 ∨ y.d % 10 = 8 ∨ y.d % 10 = 9 := by omega
  rcases h with h | h | h | h | h | h | h | h
  · exact do_texts y hk (.inl h) hs6 h1 h2 ho hw
  · exact do_load y hk h h1 h2 ho hw
  · exact do_store y hk h h1 h2 ho hw
  · exact do_bytes y hk h h1 h2 ho hw
  · exact do_put y hk h h1 h2 ho hw
  · exact do_fill y hk h h1 h2 ho hw
  · exact do_copy y hk h h1 h2 ho hw
  · exact do_texts y hk (.inr h) hs6 h1 h2 ho hw
end
theorem cut_eq {m m' : Nat → UInt8} (i j : Nat) (hj : j ≤ 16384) (h : ∀ k, i ≤ k → k < j → m k = m' k) : (strL (getM m 0 16384)).extract i j = (strL (getM m' 0 16384)).extract i j := by
  apply ByteArray.ext
  rw [ByteArray.data_extract, ByteArray.data_extract]
  show ((getM m 0 16384).toArray).extract i j = ((getM m' 0 16384).toArray).extract i j
  apply Array.ext_getElem?
  intro k
  rw [Array.getElem?_extract, Array.getElem?_extract]
  simp only [List.size_toArray, List.getElem?_toArray, getM_length]
  by_cases hk : k < min j 16384 - i
  · rw [if_pos hk, if_pos hk]
    have h1 := getM_get m 0 16384 (i + k) (by omega)
    have h2 := getM_get m' 0 16384 (i + k) (by omega)
    rw [List.getD_eq_getElem?_getD, List.getElem?_eq_getElem (by rw [getM_length]; omega)] at h1 h2
    rw [List.getElem?_eq_getElem (by rw [getM_length]; omega), List.getElem?_eq_getElem (by rw [getM_length]; omega)]
    simp only [Option.getD_some, Nat.zero_add] at h1 h2
    rw [h1, h2, h (i + k) (by omega) (by omega)]
  · rw [if_neg hk, if_neg hk]
/-- between two acts -/
structure AP (W A va vs b : Nat) (m m' : Nat → UInt8) (w x : World) : Prop where
  o : On A (fullS 4 m') x
  wb : WB W A va vs b x
  f : OkF va vs m m'
  b : Base A w x
set_option maxHeartbeats 16000000 in
set_option maxRecDepth 100000 in
theorem apart_all (a1 a2 : Int) (h1 : a1 ≤ 9223372036854775807) (s : ByteArray) (hs : s.size ≤ 9223372036854775807) (p : Option Addr) (len cap : Nat) (acts : List Act3) (hlen : acts.length = len) (hl63 : len ≤ 9223372036854775807) (w : World) (hrow : Acts3At w p acts) :
    Calls Try.prog 3 #[.int .i64 a1, .int .i64 a2, .string s, .slice p len cap] w (TrueAt w) := by
  have HR := Lib.hid hrow
  have HLN := Lib.hid hlen
  have HLI := Lib.hid (fun w h => light_any p cap acts (by rw [hlen]; exact hl63) w h)
  rw [hlen] at HLI
  have L1 : Hid (lenN 4 = 4) := Lib.hid (by decide)
  have E1 : Hid (commitE (newS 4) 0 4 = 0) := Lib.hid (by decide)
  have S1 : Hid (commitS (newS 4) 0 4 = fullS 4 (fun _ => 0)) := Lib.hid (full_new 4 4 (by decide) (by decide) (by decide))
  have HBY : Hid (∀ m, byV (fullS 4 m) 0 16384 = strL (getM m 0 16384)) := Lib.hid (fun m => by unfold byV; rw [there4f, if_pos (by omega)]; rfl)
  have TBY : Hid (∀ m, thereE (fullS 4 m).L (fullS 4 m).es 0 16384 = 0) := Lib.hid (fun m => by rw [there4f, if_pos (by omega)])
  clear hrow hlen hl63
  go_enter Try.func3, Try.ntmps3
  go_wp2_with fail
  refine (awake4_calls _).mono ?_
  rintro e w1 ⟨rfl, hb⟩
  have HB1 := Lib.hid hb
  have HR1 := Lib.hid (HR.out.below hb)
  clear hb
  go_wp2_with fail
  refine (HLI.out _ HR1.out).mono ?_
  rintro e w2 ⟨rfl, hb⟩
  have HB2 := Lib.hid (HB1.out.trans (hb.mono HB1.out.size))
  have HR2 := Lib.hid (HR1.out.below hb)
  clear hb HB1 HR1 HLI
  cases hli : lightB acts with
  | false =>
    go_wp2_with fail
    go_ret
    exact ⟨rfl, HB2.out⟩
  | true =>
  by_cases hbig : 16384 < (s.size : Int)
  · go_wp2_with fail
    go_ret
    exact ⟨rfl, HB2.out⟩
  have HL6 : Hid (acts.length ≤ 50 ∧ ∀ a ∈ acts, a.s.size ≤ 6000) := Lib.hid (by
    unfold lightB at hli
    simp only [Bool.and_eq_true, decide_eq_true_eq, List.all_eq_true] at hli
    exact hli)
  have P1 : Hid (thereE (fullS 4 fun _ => 0).L (fullS 4 fun _ => 0).es 0 s.data.toList.length = 0) := Lib.hid (by
    have : s.data.toList.length = s.size := by show s.data.toList.length = s.data.size; exact Array.length_toList
    rw [there4f, if_pos (by omega)])
  have P2 : Hid (putS (fullS 4 fun _ => 0) 0 s.data.toList = fullS 4 (putM (fun _ => 0) 0 s.data.toList)) := Lib.hid (by unfold putS; rw [P1.out, if_pos rfl]; rfl)
  obtain ⟨m, hm⟩ : ∃ m, putM (fun _ => 0) 0 s.data.toList = m := ⟨_, rfl⟩
  rw [hm] at P2
  have hlen50 : len ≤ 50 := by have := HL6.out.1; have := HLN.out; omega
  clear hm hli
  go_wp2_with fail
  refine (on_new 4 _).mono ?_
  rintro e w3 ⟨A, rfl, hA, hx, hb, hmn⟩
  rw [L1.out] at hx
  have HX3 := Lib.hid hx
  have HB3 := Lib.hid (hb.rebase HB2.out)
  clear hx hb hA hmn HB2 L1
  go_wp2_with fail
  refine (on_commit HX3.out 0 4 (by omega)).mono ?_
  rintro e w4 ⟨rfl, hx, hg⟩
  rw [E1.out]; rw [S1.out] at hx
  have HX4 := Lib.hid hx
  have HB4 := Lib.hid (HB3.out.went hg)
  clear hx hg HX3 HB3 E1 S1
  go_wp2_with fail
  refine (on_aput HX4.out 0 (by omega) s hs).mono ?_
  rintro e w5 ⟨rfl, hx, hg⟩
  rw [P1.out]; rw [P2.out] at hx
  have HX5 := Lib.hid hx
  have HB5 := Lib.hid (HB4.out.went hg)
  clear hx hg HX4 HB4 P1 P2
  go_wp2_with fail
  refine (on_of HX5.out a1 a2 h1).mono ?_
  rintro e w6 ⟨rfl, hb⟩
  have HX6 := Lib.hid (HX5.out.below hb)
  have HB6 := Lib.hid (HB5.out.below HX5.out hb)
  clear hb HX5 HB5
  by_cases hin : 0 ≤ a1 ∧ 0 ≤ a2 ∧ a1 + a2 ≤ 16384
  rotate_left
  · have HT3 : Hid (thereE (fullS 4 m).L (fullS 4 m).es a1 a2 = 3) := Lib.hid (by rw [there4f, if_neg hin])
    rw [HT3.out, show ofV (some ⟨A, 0, none⟩) a1 a2 3 = .agg #[.pointer none, .int .i64 0, .int .i64 0] from rfl]
    have HBF := Lib.hid (HB6.out.bel.trans ((bel1 w6 (.cells #[.pointer none, .int .i64 0, .int .i64 0] 31)).mono HB6.out.bel.size))
    clear hin
    go_wp2_with fail
    go_ret
    exact ⟨rfl, HBF.out⟩
  have HT0 : Hid (thereE (fullS 4 m).L (fullS 4 m).es a1 a2 = 0) := Lib.hid (by rw [there4f, if_pos hin])
  rw [HT0.out, show ofV (some ⟨A, 0, none⟩) a1 a2 0 = .agg #[.pointer (some ⟨A, 0, none⟩), .int .i64 a1, .int .i64 a2] from rfl]
  obtain ⟨va, rfl⟩ := Int.eq_ofNat_of_zero_le hin.1
  obtain ⟨vs, rfl⟩ := Int.eq_ofNat_of_zero_le hin.2.1
  have hsum : va + vs ≤ 16384 := by omega
  clear hin HT0
  have hV := heap_new w6 (.cells #[.pointer (some ⟨A, 0, none⟩), .int .i64 (va : Int), .int .i64 (vs : Int)] 31)
  have hbv := bel1 w6 (.cells #[.pointer (some ⟨A, 0, none⟩), .int .i64 (va : Int), .int .i64 (vs : Int)] 31)
  have hx7 := HX6.out.below hbv
  have hb7 := HB6.out.below HX6.out hbv
  go_upto_region 9 with fail
  change Code.wp _ _ _ _ (w6.alloc (.cells #[.pointer (some ⟨A, 0, none⟩), .int .i64 (va : Int), .int .i64 (vs : Int)] 31))
  obtain ⟨w7, hw7⟩ : ∃ z, w6.alloc (.cells #[.pointer (some ⟨A, 0, none⟩), .int .i64 (va : Int), .int .i64 (vs : Int)] 31) = z := ⟨_, rfl⟩
  obtain ⟨V, hVV⟩ : ∃ z, w6.heap.size = z := ⟨_, rfl⟩
  rw [hw7] at hV hx7 hb7 ⊢
  rw [hVV] at hV ⊢
  have HV7 := Lib.hid (show VC V (some ⟨A, 0, none⟩) va vs w7 from hV); have HX7 := Lib.hid hx7; have HB7 := Lib.hid hb7
  clear hV hbv hx7 hb7 hw7 hVV HX6 HB6
  go_wp2_with fail
  refine (on_abytes HX7.out 0 16384 (by omega)).mono ?_
  rintro e w8 ⟨rfl, hb⟩
  rw [HBY.out, TBY.out]
  obtain ⟨Wz, hWz⟩ : ∃ z, strL (getM m 0 16384) = z := ⟨_, rfl⟩
  have HWZ := Lib.hid hWz
  rw [hWz]
  have HV8 := Lib.hid (HV7.out.below hb); have HX8 := Lib.hid (HX7.out.below hb); have HB8 := Lib.hid (HB7.out.below HX7.out hb)
  clear hb HV7 HX7 HB7 hWz
  go_upto_region 12 with fail
  have hS0 := (HV8.out.below (Below.refl w8.heap.size w8).drew).all
  have HX9 := Lib.hid (HX8.out.below (Below.refl w8.heap.size w8).drew); have HB9 := Lib.hid (HB8.out.below HX8.out (Below.refl w8.heap.size w8).drew)
  clear HV8 HX8 HB8
  refine wp_region_held_drew (S := fun x => x.cell? ⟨V, 0, none⟩ = some (.pointer (some ⟨A, 0, none⟩)) ∧ x.cell? ⟨V, 1, none⟩ = some (.int .i64 (va : Int)) ∧ x.cell? ⟨V, 2, none⟩ = some (.int .i64 (vs : Int)) ∧ VC V (some ⟨A, 0, none⟩) va vs x) (by kernel_rfl) hS0 (fun hHeld => ?_)
  clear hS0
  refine wpAnyH_take (i := 0) (v := .pointer (some ⟨A, 0, none⟩)) rfl (by kernel_rfl) (by kernel_rfl) (by kernel_rfl) (fun _ _ _ h => h) (Or.inl ⟨by rfl, fun X hS => ?_⟩) hHeld ?_
  · obtain ⟨s0, s1, s2, s3⟩ := hS
    go_simp
  try simp only [Act.put, List.getElem_toArray, List.getElem_cons_zero, List.getElem_cons_succ, List.setIfInBounds_toArray, List.set_cons_zero, List.set_cons_succ]
  refine wpAnyH_take (i := 1) (v := .agg #[.pointer (some ⟨A, 0, none⟩), .int .i64 (va : Int), .int .i64 (vs : Int)]) rfl (by kernel_rfl) (by kernel_rfl) (by kernel_rfl) (fun _ _ _ h => h) (Or.inl ⟨by rfl, fun X hS => ?_⟩) hHeld ?_
  · obtain ⟨s0, s1, s2, s3⟩ := hS
    go_simp
  try simp only [Act.put, List.getElem_toArray, List.getElem_cons_zero, List.getElem_cons_succ, List.setIfInBounds_toArray, List.set_cons_zero, List.set_cons_succ]
  refine wpAnyH_take (i := 3) (v := .agg #[.int .i64 0, .int .i64 0]) rfl (by kernel_rfl) (by kernel_rfl) (by kernel_rfl) (fun _ _ _ h => h) (Or.inl ⟨by rfl, fun X hS => ?_⟩) hHeld ?_
  · obtain ⟨s0, s1, s2, s3⟩ := hS
    go_simp
  try simp only [Act.put, List.getElem_toArray, List.getElem_cons_zero, List.getElem_cons_succ, List.setIfInBounds_toArray, List.set_cons_zero, List.set_cons_succ]
  refine wpAnyH_ready (rs := [2]) (by kernel_rfl) (by simp) (AllReadyH.cons rfl (fun K1 hK1 => ?_) AllReadyH.nil)
  go_simp
  refine (rnew_zero _).mono ?_
  rintro e w10 ⟨b, rfl, hb⟩
  have hS1 := (hHeld.2.2.2.below hb).all
  have HX10 := Lib.hid (HX9.out.below hb); have HB10 := Lib.hid (HB9.out.below HX9.out hb)
  clear hb hHeld HX9 HB9
  refine hK1.out _ _ hS1 (fun hHeld => ?_)
  clear hK1 hS1
  try simp only [Act.put, List.getElem_toArray, List.getElem_cons_zero, List.getElem_cons_succ, List.setIfInBounds_toArray, List.set_cons_zero, List.set_cons_succ]
  refine wpAnyH_take (i := 4) (v := .agg #[.pointer (some ⟨A, 0, none⟩), .pointer (some ⟨A, 0, none⟩), .int .i64 (va : Int), .int .i64 (vs : Int), .slice (some ⟨b, 0, none⟩) 0 0, .int .i64 (-1), .int .i64 0, .int .i64 0]) rfl (by kernel_rfl) (by kernel_rfl) (by kernel_rfl) (fun _ _ _ h => h) (Or.inl ⟨by rfl, fun X hS => ?_⟩) hHeld ?_
  · obtain ⟨s0, s1, s2, s3⟩ := hS
    go_simp
  try simp only [Act.put, List.getElem_toArray, List.getElem_cons_zero, List.getElem_cons_succ, List.setIfInBounds_toArray, List.set_cons_zero, List.set_cons_succ]
  refine wpAnyH_ready (rs := [5]) (by kernel_rfl) (by simp) (AllReadyH.cons rfl (fun K2 hK2 => ?_) AllReadyH.nil)
  go_simp
  have hbw := bel1 w10 (.cells #[.pointer (some ⟨A, 0, none⟩), .pointer (some ⟨A, 0, none⟩), .int .i64 (va : Int), .int .i64 (vs : Int), .slice (some ⟨b, 0, none⟩) 0 0, .int .i64 (-1), .int .i64 0, .int .i64 0] 44)
  have hW := heap_new w10 (.cells #[.pointer (some ⟨A, 0, none⟩), .pointer (some ⟨A, 0, none⟩), .int .i64 (va : Int), .int .i64 (vs : Int), .slice (some ⟨b, 0, none⟩) 0 0, .int .i64 (-1), .int .i64 0, .int .i64 0] 44)
  have hS2 := (hHeld.2.2.2.below hbw).all
  have hx11 := HX10.out.below hbw
  have hb11 := HB10.out.below HX10.out hbw
  clear hHeld
  change K2 _ (w10.alloc (.cells #[.pointer (some ⟨A, 0, none⟩), .pointer (some ⟨A, 0, none⟩), .int .i64 (va : Int), .int .i64 (vs : Int), .slice (some ⟨b, 0, none⟩) 0 0, .int .i64 (-1), .int .i64 0, .int .i64 0] 44))
  obtain ⟨w11, hw11⟩ : ∃ z, w10.alloc (.cells #[.pointer (some ⟨A, 0, none⟩), .pointer (some ⟨A, 0, none⟩), .int .i64 (va : Int), .int .i64 (vs : Int), .slice (some ⟨b, 0, none⟩) 0 0, .int .i64 (-1), .int .i64 0, .int .i64 0] 44) = z := ⟨_, rfl⟩
  obtain ⟨W, hWW⟩ : ∃ z, w10.heap.size = z := ⟨_, rfl⟩
  rw [hw11] at hW hS2 hx11 hb11 ⊢
  rw [hWW] at hW ⊢
  have HST := Lib.hid (show AP W A va vs b m m w w11 from ⟨hx11, hW, OkF.refl _ _ _, hb11⟩)
  clear hbw hW hx11 hb11 hw11 hWW HX10 HB10
  refine hK2.out _ _ hS2 (fun hHeld => ?_)
  clear hK2 hS2
  try simp only [Act.put, List.getElem_toArray, List.getElem_cons_zero, List.getElem_cons_succ, List.setIfInBounds_toArray, List.set_cons_zero, List.set_cons_succ]
  refine wpAnyH_take (i := 6) (v := .pointer (some ⟨W, 0, none⟩)) rfl (by kernel_rfl) (by kernel_rfl) (by kernel_rfl) (fun _ _ _ h => h) (Or.inl ⟨by rfl, fun X hS => ?_⟩) hHeld ?_
  · obtain ⟨s0, s1, s2, s3⟩ := hS
    go_simp
  try simp only [Act.put, List.getElem_toArray, List.getElem_cons_zero, List.getElem_cons_succ, List.setIfInBounds_toArray, List.set_cons_zero, List.set_cons_succ]
  refine wpAnyH_done (by kernel_rfl) ?_ _
  clear hHeld
  go_wp2_with fail
  go_loopw [61] (fun s61 wr => ∃ (i : Nat) (m' : Nat → UInt8), i ≤ len ∧ s61 = .int .i64 (i : Int) ∧ AP W A va vs b m m' w wr) (fun s61 _ => len - (intOf s61).toNat)
  case atStart => exact ⟨0, m, Nat.zero_le _, rfl, HST.out⟩
  case round =>
    clear HST
    obtain ⟨i, m1, hi, rfl, hap⟩ := hrel
    have HP := Lib.hid hap
    clear hap
    by_cases hlt : i < len
    · rcases HR.out with he | ⟨pb, off, rfl, hbl, hc⟩
      · have := HLN.out; omega
      obtain ⟨y, hy⟩ : ∃ y, acts[i]'(by rw [HLN.out]; exact hlt) = y := ⟨_, rfl⟩
      obtain ⟨⟨a0_, a1_, a2_, a3_, a4_, a5_⟩, hyk⟩ := hc i (by rw [HLN.out]; exact hlt)
      have hy6 := HL6.out.2 _ (List.getElem_mem (show i < acts.length by rw [HLN.out]; exact hlt))
      rw [hy] at a0_ a1_ a2_ a3_ a4_ a5_ hyk hy6
      have HYK := Lib.hid hyk; have HY6 := Lib.hid hy6
      have b0 := (HP.out.b.bel.cell (p := ⟨pb, off + i * 6, none⟩) hbl).trans a0_
      have b1 := (HP.out.b.bel.cell (p := ⟨pb, off + i * 6 + 1, none⟩) hbl).trans a1_
      have b2 := (HP.out.b.bel.cell (p := ⟨pb, off + i * 6 + 2, none⟩) hbl).trans a2_
      have b3 := (HP.out.b.bel.cell (p := ⟨pb, off + i * 6 + 3, none⟩) hbl).trans a3_
      have b4 := (HP.out.b.bel.cell (p := ⟨pb, off + i * 6 + 4, none⟩) hbl).trans a4_
      have b5 := (HP.out.b.bel.cell (p := ⟨pb, off + i * 6 + 5, none⟩) hbl).trans a5_
      have hT := heap_new wr (.cells #[.int .u8 y.d, .int .i64 y.a, .int .i64 y.fr, .int .i64 y.n, .int .u64 y.x, .string y.s] 47)
      have hbT := bel1 wr (.cells #[.int .u8 y.d, .int .i64 y.a, .int .i64 y.fr, .int .i64 y.n, .int .u64 y.x, .string y.s] 47)
      have hpT := show AP W A va vs b m m1 w _ from ⟨HP.out.o.below hbT, (hbT.block _ (Array.getElem?_eq_some_iff.1 HP.out.wb).1).trans HP.out.wb, HP.out.f, HP.out.b.below HP.out.o hbT⟩
      have hyd := HYK.out.1
      clear hc hy a0_ a1_ a2_ a3_ a4_ a5_ hyk hy6
      go_upto_region 16 with fail
      change Code.wp _ _ _ _ (wr.alloc (.cells #[.int .u8 y.d, .int .i64 y.a, .int .i64 y.fr, .int .i64 y.n, .int .u64 y.x, .string y.s] 47))
      obtain ⟨x, hx⟩ : ∃ z, wr.alloc (.cells #[.int .u8 y.d, .int .i64 y.a, .int .i64 y.fr, .int .i64 y.n, .int .u64 y.x, .string y.s] 47) = z := ⟨_, rfl⟩
      obtain ⟨T, hTT⟩ : ∃ z, wr.heap.size = z := ⟨_, rfl⟩
      rw [hx] at hT hpT ⊢
      rw [hTT] at hT ⊢
      have HT := Lib.hid (show AB T y x from hT); have HPT := Lib.hid hpT
      clear hT hbT hpT hx hTT b0 b1 b2 b3 b4 b5 HP
      have t0 := (cell_blk HT.out 0).1; have t1 := (cell_blk HT.out 1).1; have t2 := (cell_blk HT.out 2).1; have t3 := (cell_blk HT.out 3).1; have t4 := (cell_blk HT.out 4).1; have t5 := (cell_blk HT.out 5).1
      obtain ⟨r, hr⟩ : ∃ r, y.d % 10 = r := ⟨_, rfl⟩
      have hr2 : y.d.tmod 10 = r := by rw [Int.tmod_eq_emod_of_nonneg hyd.1]; exact hr
      by_cases hbig2 : 1 < r
      · have HDO := Lib.hid (do_any y HYK.out (by rw [hr]; exact hbig2) HY6.out (show va ≤ 4294967296 by omega) (show vs ≤ 4294967296 by omega) HPT.out.o HPT.out.wb)
        go_wp2_with fail
        refine HDO.out.mono ?_
        rintro e x2 ⟨rb, m2, rfl, ho, hg, hf, hw⟩
        have HN := Lib.hid (show AP W A va vs b m m2 w x2 from ⟨ho, hw, HPT.out.f.trans hf, HPT.out.b.went hg⟩)
        clear ho hg hf hw HDO HT HPT t0 t1 t2 t3 t4 t5
        go_wp2_with fail
        go_roundw
        case rel => exact ⟨i + 1, m2, by omega, by go_num, HN.out⟩
        case measure => simp [intOf]; omega
      · go_wp2_with fail
        go_roundw
        case rel => exact ⟨i + 1, m1, by omega, by go_num, HPT.out⟩
        case measure => simp [intOf]; omega
    · have hin : i = len := by omega
      subst hin
      clear hlt
      go_wp2_with fail
      refine (on_abytes HP.out.o 0 16384 (by omega)).mono ?_
      rintro e x2 ⟨rfl, hb⟩
      rw [HBY.out, TBY.out]
      have HE1 : Hid ((strL (getM m1 0 16384)).extract 0 va = Wz.extract 0 va) := Lib.hid (by rw [← HWZ.out]; exact cut_eq _ _ (by omega) fun k _ h2 => HP.out.f k (by omega))
      have HE2 : Hid ((strL (getM m1 0 16384)).extract (va + vs) 16384 = Wz.extract (va + vs) 16384) := Lib.hid (by rw [← HWZ.out]; exact cut_eq _ _ (by omega) fun k h1 _ => HP.out.f k (by omega))
      have HZW : Hid (Wz.size = 16384) := Lib.hid (by rw [← HWZ.out, strL_size, getM_length])
      obtain ⟨N, hN⟩ : ∃ N, strL (getM m1 0 16384) = N := ⟨_, rfl⟩
      have HZN : Hid (N.size = 16384) := Lib.hid (by rw [← hN, strL_size, getM_length])
      rw [hN] at HE1 HE2 ⊢
      have HBF := Lib.hid (HP.out.b.below HP.out.o hb)
      have HSM := Lib.hid hsum
      clear hN hb HP HWZ
      go_upto_region 20 with fail
      have hS0 : Below w.heap.size w x2.drew := HBF.out.bel.drew
      refine wp_region_held_drew (S := fun x => Below w.heap.size w x) (by kernel_rfl) hS0 (fun hHeld => ?_)
      clear hS0
      refine wpAnyH_take (i := 0) (v := .int .i64 0) rfl (by kernel_rfl) (by kernel_rfl) (by kernel_rfl) (fun _ _ _ h => h) (Or.inl ⟨by rfl, fun X hS => ?_⟩) hHeld ?_
      · go_simp
      try simp only [Act.put, List.getElem_toArray, List.getElem_cons_zero, List.getElem_cons_succ, List.setIfInBounds_toArray, List.set_cons_zero, List.set_cons_succ]
      refine wpAnyH_take (i := 1) (v := .bool true) rfl (by kernel_rfl) (by kernel_rfl) (by kernel_rfl) (fun _ _ _ h => h) (Or.inl ⟨by rfl, fun X hS => ?_⟩) hHeld ?_
      · go_simp
      try simp only [Act.put, List.getElem_toArray, List.getElem_cons_zero, List.getElem_cons_succ, List.setIfInBounds_toArray, List.set_cons_zero, List.set_cons_succ]
      refine wpAnyH_take (i := 2) (v := .bool true) rfl (by kernel_rfl) (by kernel_rfl) (by kernel_rfl) (fun _ _ _ h => h) (Or.inl ⟨by rfl, fun X hS => ?_⟩) hHeld ?_
      · go_simp
      try simp only [Act.put, List.getElem_toArray, List.getElem_cons_zero, List.getElem_cons_succ, List.setIfInBounds_toArray, List.set_cons_zero, List.set_cons_succ]
      refine wpAnyH_take (i := 3) (v := .string N) rfl (by kernel_rfl) (by kernel_rfl) (by kernel_rfl) (fun _ _ _ h => h) (Or.inl ⟨by rfl, fun X hS => ?_⟩) hHeld ?_
      · go_simp
      try simp only [Act.put, List.getElem_toArray, List.getElem_cons_zero, List.getElem_cons_succ, List.setIfInBounds_toArray, List.set_cons_zero, List.set_cons_succ]
      refine wpAnyH_take (i := 4) (v := .int .i64 va) rfl (by kernel_rfl) (by kernel_rfl) (by kernel_rfl) (fun _ _ _ h => h) (Or.inl ⟨by rfl, fun X hS => ?_⟩) hHeld ?_
      · go_simp
      try simp only [Act.put, List.getElem_toArray, List.getElem_cons_zero, List.getElem_cons_succ, List.setIfInBounds_toArray, List.set_cons_zero, List.set_cons_succ]
      refine wpAnyH_take (i := 5) (v := .string (N.extract 0 va)) rfl (by kernel_rfl) (by kernel_rfl) (by kernel_rfl) (fun _ _ _ h => h) (Or.inl ⟨by rfl, fun X hS => ?_⟩) hHeld ?_
      · have hzn := HZN.out; have hzw := HZW.out; have hsm := HSM.out; have hk1 : (0 : Int) ≤ (va : Int) := (by omega); have hk2 : (va : Int) ≤ 16384 := (by omega); have hk4 : ¬ (16384 < (va : Int)) := (by omega); have hk5 : ¬ (16384 < va) := (by omega)
        go_simp
      try simp only [Act.put, List.getElem_toArray, List.getElem_cons_zero, List.getElem_cons_succ, List.setIfInBounds_toArray, List.set_cons_zero, List.set_cons_succ]
      refine wpAnyH_take (i := 6) (v := .string Wz) rfl (by kernel_rfl) (by kernel_rfl) (by kernel_rfl) (fun _ _ _ h => h) (Or.inl ⟨by rfl, fun X hS => ?_⟩) hHeld ?_
      · go_simp
      try simp only [Act.put, List.getElem_toArray, List.getElem_cons_zero, List.getElem_cons_succ, List.setIfInBounds_toArray, List.set_cons_zero, List.set_cons_succ]
      refine wpAnyH_take (i := 7) (v := .int .i64 va) rfl (by kernel_rfl) (by kernel_rfl) (by kernel_rfl) (fun _ _ _ h => h) (Or.inl ⟨by rfl, fun X hS => ?_⟩) hHeld ?_
      · go_simp
      try simp only [Act.put, List.getElem_toArray, List.getElem_cons_zero, List.getElem_cons_succ, List.setIfInBounds_toArray, List.set_cons_zero, List.set_cons_succ]
      refine wpAnyH_take (i := 8) (v := .string (Wz.extract 0 va)) rfl (by kernel_rfl) (by kernel_rfl) (by kernel_rfl) (fun _ _ _ h => h) (Or.inl ⟨by rfl, fun X hS => ?_⟩) hHeld ?_
      · have hzn := HZN.out; have hzw := HZW.out; have hsm := HSM.out; have hk1 : (0 : Int) ≤ (va : Int) := (by omega); have hk2 : (va : Int) ≤ 16384 := (by omega); have hk4 : ¬ (16384 < (va : Int)) := (by omega); have hk5 : ¬ (16384 < va) := (by omega)
        go_simp
      try simp only [Act.put, List.getElem_toArray, List.getElem_cons_zero, List.getElem_cons_succ, List.setIfInBounds_toArray, List.set_cons_zero, List.set_cons_succ]
      refine wpAnyH_take (i := 9) (v := .bool true) rfl (by kernel_rfl) (by kernel_rfl) (by kernel_rfl) (fun _ _ _ h => h) (Or.inl ⟨by rfl, fun X hS => ?_⟩) hHeld ?_
      · have he := HE1.out
        go_simp
      try simp only [Act.put, List.getElem_toArray, List.getElem_cons_zero, List.getElem_cons_succ, List.setIfInBounds_toArray, List.set_cons_zero, List.set_cons_succ]
      refine wpAnyH_take (i := 10) (v := .bool true) rfl (by kernel_rfl) (by kernel_rfl) (by kernel_rfl) (fun _ _ _ h => h) (Or.inl ⟨by rfl, fun X hS => ?_⟩) hHeld ?_
      · go_simp
      try simp only [Act.put, List.getElem_toArray, List.getElem_cons_zero, List.getElem_cons_succ, List.setIfInBounds_toArray, List.set_cons_zero, List.set_cons_succ]
      refine wpAnyH_take (i := 11) (v := .bool true) rfl (by kernel_rfl) (by kernel_rfl) (by kernel_rfl) (fun _ _ _ h => h) (Or.inl ⟨by rfl, fun X hS => ?_⟩) hHeld ?_
      · go_simp
      try simp only [Act.put, List.getElem_toArray, List.getElem_cons_zero, List.getElem_cons_succ, List.setIfInBounds_toArray, List.set_cons_zero, List.set_cons_succ]
      refine wpAnyH_take (i := 12) (v := .string N) rfl (by kernel_rfl) (by kernel_rfl) (by kernel_rfl) (fun _ _ _ h => h) (Or.inl ⟨by rfl, fun X hS => ?_⟩) hHeld ?_
      · go_simp
      try simp only [Act.put, List.getElem_toArray, List.getElem_cons_zero, List.getElem_cons_succ, List.setIfInBounds_toArray, List.set_cons_zero, List.set_cons_succ]
      refine wpAnyH_take (i := 13) (v := .int .i64 va) rfl (by kernel_rfl) (by kernel_rfl) (by kernel_rfl) (fun _ _ _ h => h) (Or.inl ⟨by rfl, fun X hS => ?_⟩) hHeld ?_
      · go_simp
      try simp only [Act.put, List.getElem_toArray, List.getElem_cons_zero, List.getElem_cons_succ, List.setIfInBounds_toArray, List.set_cons_zero, List.set_cons_succ]
      refine wpAnyH_take (i := 14) (v := .int .i64 vs) rfl (by kernel_rfl) (by kernel_rfl) (by kernel_rfl) (fun _ _ _ h => h) (Or.inl ⟨by rfl, fun X hS => ?_⟩) hHeld ?_
      · go_simp
      try simp only [Act.put, List.getElem_toArray, List.getElem_cons_zero, List.getElem_cons_succ, List.setIfInBounds_toArray, List.set_cons_zero, List.set_cons_succ]
      refine wpAnyH_take (i := 15) (v := .int .i64 ((va : Int) + (vs : Int))) rfl (by kernel_rfl) (by kernel_rfl) (by kernel_rfl) (fun _ _ _ h => h) (Or.inl ⟨by rfl, fun X hS => ?_⟩) hHeld ?_
      · have hsm := HSM.out; have hq : IntKind.i64.wrap ((va : Int) + (vs : Int)) = (va : Int) + (vs : Int) := (IntWalk.i64_in _ (by omega))
        go_simp
      try simp only [Act.put, List.getElem_toArray, List.getElem_cons_zero, List.getElem_cons_succ, List.setIfInBounds_toArray, List.set_cons_zero, List.set_cons_succ]
      refine wpAnyH_take (i := 16) (v := .string (N.extract (va + vs) 16384)) rfl (by kernel_rfl) (by kernel_rfl) (by kernel_rfl) (fun _ _ _ h => h) (Or.inl ⟨by rfl, fun X hS => ?_⟩) hHeld ?_
      · have hzn := HZN.out; have hzw := HZW.out; have hsm := HSM.out; have hk1 : (0 : Int) ≤ (va : Int) + (vs : Int) := (by omega); have hk2 : (va : Int) + (vs : Int) ≤ 16384 := (by omega); have hk3 : ((va : Int) + (vs : Int)).toNat = va + vs := (by omega); have hk4 : ¬ (16384 < (va : Int) + (vs : Int)) := (by omega)
        go_simp
      try simp only [Act.put, List.getElem_toArray, List.getElem_cons_zero, List.getElem_cons_succ, List.setIfInBounds_toArray, List.set_cons_zero, List.set_cons_succ]
      refine wpAnyH_take (i := 17) (v := .string Wz) rfl (by kernel_rfl) (by kernel_rfl) (by kernel_rfl) (fun _ _ _ h => h) (Or.inl ⟨by rfl, fun X hS => ?_⟩) hHeld ?_
      · go_simp
      try simp only [Act.put, List.getElem_toArray, List.getElem_cons_zero, List.getElem_cons_succ, List.setIfInBounds_toArray, List.set_cons_zero, List.set_cons_succ]
      refine wpAnyH_take (i := 18) (v := .int .i64 va) rfl (by kernel_rfl) (by kernel_rfl) (by kernel_rfl) (fun _ _ _ h => h) (Or.inl ⟨by rfl, fun X hS => ?_⟩) hHeld ?_
      · go_simp
      try simp only [Act.put, List.getElem_toArray, List.getElem_cons_zero, List.getElem_cons_succ, List.setIfInBounds_toArray, List.set_cons_zero, List.set_cons_succ]
      refine wpAnyH_take (i := 19) (v := .int .i64 vs) rfl (by kernel_rfl) (by kernel_rfl) (by kernel_rfl) (fun _ _ _ h => h) (Or.inl ⟨by rfl, fun X hS => ?_⟩) hHeld ?_
      · go_simp
      try simp only [Act.put, List.getElem_toArray, List.getElem_cons_zero, List.getElem_cons_succ, List.setIfInBounds_toArray, List.set_cons_zero, List.set_cons_succ]
      refine wpAnyH_take (i := 20) (v := .int .i64 ((va : Int) + (vs : Int))) rfl (by kernel_rfl) (by kernel_rfl) (by kernel_rfl) (fun _ _ _ h => h) (Or.inl ⟨by rfl, fun X hS => ?_⟩) hHeld ?_
      · have hsm := HSM.out; have hq : IntKind.i64.wrap ((va : Int) + (vs : Int)) = (va : Int) + (vs : Int) := (IntWalk.i64_in _ (by omega))
        go_simp
      try simp only [Act.put, List.getElem_toArray, List.getElem_cons_zero, List.getElem_cons_succ, List.setIfInBounds_toArray, List.set_cons_zero, List.set_cons_succ]
      refine wpAnyH_take (i := 21) (v := .string (Wz.extract (va + vs) 16384)) rfl (by kernel_rfl) (by kernel_rfl) (by kernel_rfl) (fun _ _ _ h => h) (Or.inl ⟨by rfl, fun X hS => ?_⟩) hHeld ?_
      · have hzn := HZN.out; have hzw := HZW.out; have hsm := HSM.out; have hk1 : (0 : Int) ≤ (va : Int) + (vs : Int) := (by omega); have hk2 : (va : Int) + (vs : Int) ≤ 16384 := (by omega); have hk3 : ((va : Int) + (vs : Int)).toNat = va + vs := (by omega); have hk4 : ¬ (16384 < (va : Int) + (vs : Int)) := (by omega)
        go_simp
      try simp only [Act.put, List.getElem_toArray, List.getElem_cons_zero, List.getElem_cons_succ, List.setIfInBounds_toArray, List.set_cons_zero, List.set_cons_succ]
      refine wpAnyH_take (i := 22) (v := .bool true) rfl (by kernel_rfl) (by kernel_rfl) (by kernel_rfl) (fun _ _ _ h => h) (Or.inl ⟨by rfl, fun X hS => ?_⟩) hHeld ?_
      · have he := HE2.out
        go_simp
      try simp only [Act.put, List.getElem_toArray, List.getElem_cons_zero, List.getElem_cons_succ, List.setIfInBounds_toArray, List.set_cons_zero, List.set_cons_succ]
      refine wpAnyH_take (i := 23) (v := .bool true) rfl (by kernel_rfl) (by kernel_rfl) (by kernel_rfl) (fun _ _ _ h => h) (Or.inl ⟨by rfl, fun X hS => ?_⟩) hHeld ?_
      · go_simp
      try simp only [Act.put, List.getElem_toArray, List.getElem_cons_zero, List.getElem_cons_succ, List.setIfInBounds_toArray, List.set_cons_zero, List.set_cons_succ]
      refine wpAnyH_take (i := 24) (v := .bool true) rfl (by kernel_rfl) (by kernel_rfl) (by kernel_rfl) (fun _ _ _ h => h) (Or.inl ⟨by rfl, fun X hS => ?_⟩) hHeld ?_
      · go_simp
      try simp only [Act.put, List.getElem_toArray, List.getElem_cons_zero, List.getElem_cons_succ, List.setIfInBounds_toArray, List.set_cons_zero, List.set_cons_succ]
      refine wpAnyH_done (by kernel_rfl) ?_ _
      go_wp2_with fail
      go_ret
      exact ⟨rfl, hHeld⟩
end Go.Proofs.Ytglfllnemenhnaa.Bt
