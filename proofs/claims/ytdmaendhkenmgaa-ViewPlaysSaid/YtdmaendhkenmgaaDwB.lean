/- Several texts in one: DvM; DvD; VwAt; DvN. -/
import Derived.Test.YtdmaendhkenmgaaDwA
import Derived.Test.YtdmaendhkenmgaaVwTexts
import Derived.Test.YtdmaendhkenmgaaVwA
import Derived.Deep.DeepCutAuto
/- law04's do: Texts. (Written by gen_dve.py.) -/
namespace Go.Proofs.Ytdmaendhkenmgaa.Bt
open Go Go.RowKit Go.Shelf
set_option linter.unusedVariables false
set_option linter.unusedSimpArgs false

theorem joinB_two (S : ByteArray) (K : Nat) (h : K ≤ S.size) : joinB [S.extract 0 K, S.extract K S.size] = S := by
  apply ByteArray.ext
  unfold joinB Lib.join
  have h1 : (S.extract 0 K).data.toList = S.data.toList.take K := by
    rw [ByteArray.data_extract, Array.toList_extract, List.extract_eq_take_drop]; simp
  have h2 : (S.extract K S.size).data.toList = S.data.toList.drop K := by
    rw [ByteArray.data_extract, Array.toList_extract, List.extract_eq_take_drop]
    rw [List.take_of_length_le]
    rw [List.length_drop]
    have : S.data.toList.length = S.size := rfl
    omega
  show ([].intercalate ([S.extract 0 K, S.extract K S.size].map (·.data.toList))).toArray = S.data
  rw [List.map_cons, List.map_cons, List.map_nil, h1, h2]
  simp [List.intercalate]
theorem on_texts {A : Nat} {s : ASt} {w : World} (h : On A s w) (va vs : Nat) (h1 : va ≤ 4294967296) (h2 : vs ≤ 4294967296) (q : Option Addr) (S : ByteArray) (K : Nat) (hK : K ≤ S.size) (hS : S.size ≤ 6000) (hq : StrsAt w q [S.extract 0 K, S.extract K S.size]) :
    Calls Try.prog 84 #[vwV A va vs, .slice q 2 2] w (Ret A (putS s (addrV va vs 0 (S.size : Int)) S.data.toList) (.int .i64 (thereE s.L s.es (addrV va vs 0 (S.size : Int)) (S.size : Int))) w) := by
  obtain ⟨P, ps, p, n, cap, h⟩ := h
  have hj := joinB_two S K hK
  have := vtexts_any h va vs h1 h2 q 2 [S.extract 0 K, S.extract K S.size] hq (by show (2 : Nat) ≤ _; omega) (by show (2 : Nat) ≤ 2; omega) (by rw [hj]; omega)
  rw [hj] at this
  exact this.mono fun e w' k => On.ret h k
set_option maxHeartbeats 8000000 in
set_option maxRecDepth 100000 in
theorem dvo_texts2 {Wb A b cap va vs : Nat} {s : ASt} {d at_ fr n x : Int} {S : ByteArray} {w0 w : World} (h : DvW Wb A b cap va vs s w0 w) (hL : s.L ≤ 8) (hd : d.tmod 10 = 2) (hd0 : 0 ≤ d ∧ d ≤ 255) (ha : -9223372036854775808 ≤ at_ ∧ at_ ≤ 9223372036854775807) (hf : -9223372036854775808 ≤ fr ∧ fr ≤ 9223372036854775807) (hn : -9223372036854775808 ≤ n ∧ n ≤ 9223372036854775807) (hx : 0 ≤ x ∧ x < 18446744073709551616) (hS : S.size ≤ 6000) :
    Calls Try.prog 28 #[.pointer (some ⟨Wb, 0, none⟩), .agg #[.int .u8 d, .int .i64 at_, .int .i64 fr, .int .i64 n, .int .u64 x, .string S]] w (DvP Wb A s.L w0) := by
  obtain ⟨K, hK⟩ : ∃ K : Nat, (K : Int) = max 0 (min n (S.size : Int)) := ⟨(max 0 (min n (S.size : Int))).toNat, by omega⟩
  have hKS : K ≤ S.size := by omega
  have hsl : (S.data.toList.length : Int) = (S.size : Int) := rfl
  have hv1 := h.hva
  have hv2 := h.hvs
  obtain ⟨s', hs'⟩ : ∃ s', putS s (addrV va vs 0 (S.size : Int)) S.data.toList = s' := ⟨_, rfl⟩
  obtain ⟨er, her⟩ : ∃ er, thereE s.L s.es (addrV va vs 0 (S.size : Int)) (S.size : Int) = er := ⟨_, rfl⟩
  have HPC := Lib.hid (fun (y : World) (q : Option Addr) (hy : On A s y) (hq : StrsAt y q [S.extract 0 K, S.extract K S.size]) => on_texts hy va vs hv1 hv2 q S K hKS hS hq)
  have HDC := Lib.hid (fun (y : World) (hy : DocB b (gS s) y) => rv_put (cap := cap) h.x.good hL hv1 hv2 rfl 0 S (by omega) (by omega) hy)
  rw [hs', her] at HPC HDC
  have HSL : Hid (s'.L = s.L) := Lib.hid (by rw [← hs']; unfold putS; split <;> rfl)
  have HRS : Hid (refR s' = refR s) := Lib.hid (by rw [← hs']; unfold putS; split <;> rfl)
  have HK : Hid ((0 : Int) ≤ K ∧ (K : Int) ≤ (S.size : Int) ∧ ¬ ((S.size : Int) < (K : Int)) ∧ K ≤ S.size) := Lib.hid ⟨by omega, by omega, by omega, hKS⟩
  have hmm : (if (if (S.size : Int) < n then (S.size : Int) else n) < 0 then 0 else (if (S.size : Int) < n then (S.size : Int) else n)) = (K : Int) := by rw [hK]; split <;> split <;> omega
  have hm1 : max 0 (min n (S.size : Int)) = (K : Int) := hK.symm
  clear hs' her hf hn hx hv1 hv2 hsl hK hKS
  have hE := heap_new w (.cells #[.int .u8 d, .int .i64 at_, .int .i64 fr, .int .i64 n, .int .u64 x, .string S] 36)
  have hb0 := bel1 w (.cells #[.int .u8 d, .int .i64 at_, .int .i64 fr, .int .i64 n, .int .u64 x, .string S] 36)
  have hds := h.start hE hb0
  clear hE hb0
  go_enter Try.func28, Try.ntmps28
  go_upto_region 1 with fail
  change Code.wp _ _ _ _ (w.alloc (.cells #[.int .u8 d, .int .i64 at_, .int .i64 fr, .int .i64 n, .int .u64 x, .string S] 36))
  obtain ⟨y, hy⟩ : ∃ y, w.alloc (.cells #[.int .u8 d, .int .i64 at_, .int .i64 fr, .int .i64 n, .int .u64 x, .string S] 36) = y := ⟨_, rfl⟩
  obtain ⟨E, hEE⟩ : ∃ E, w.heap.size = E := ⟨_, rfl⟩
  rw [hy, hEE] at hds
  rw [hy, hEE]
  have H := Lib.hid hds
  clear hy hEE hds
  obtain ⟨⟨s1, s2, s3, s4, s5, s6, s7, s8⟩, ⟨t1, t2, t3, t4, t5, t6⟩, f4, f5⟩ := H.out.all
  go_upto_region 4 with fail
  have hS0 := H.out.below (Below.refl y.heap.size y).drew
  have HY := Lib.hid H.out
  clear H s1 s2 s3 s4 s5 s6 s7 s8 t1 t2 t3 t4 t5 t6 f4 f5
  refine wp_region_held_drew (S := fun X => ∃ s', DvS Wb E A b cap va vs s' s d at_ fr n x S w0 X) (by kernel_rfl) ⟨_, hS0⟩ (fun hHeld => ?_)
  refine wpAnyH_take (i := 0) (v := (.pointer (some ⟨Wb, 0, none⟩))) rfl (by kernel_rfl) (by kernel_rfl) (by kernel_rfl) (fun _ _ _ h => h) (Or.inl ⟨by rfl, fun X hS => ?_⟩) hHeld ?_
  · obtain ⟨s9x, hs9x⟩ := hS
    obtain ⟨⟨s1, s2, s3, s4, s5, s6, s7, s8⟩, ⟨t1, t2, t3, t4, t5, t6⟩, f4, f5⟩ := hs9x.all
    go_simp
  try simp only [Act.put, List.getElem_toArray, List.getElem_cons_zero, List.getElem_cons_succ, List.setIfInBounds_toArray, List.set_cons_zero, List.set_cons_succ]
  refine wpAnyH_take (i := 1) (v := (.pointer (some ⟨Wb, 0, none⟩))) rfl (by kernel_rfl) (by kernel_rfl) (by kernel_rfl) (fun _ _ _ h => h) (Or.inl ⟨by rfl, fun X hS => ?_⟩) hHeld ?_
  · obtain ⟨s9x, hs9x⟩ := hS
    obtain ⟨⟨s1, s2, s3, s4, s5, s6, s7, s8⟩, ⟨t1, t2, t3, t4, t5, t6⟩, f4, f5⟩ := hs9x.all
    go_simp
  try simp only [Act.put, List.getElem_toArray, List.getElem_cons_zero, List.getElem_cons_succ, List.setIfInBounds_toArray, List.set_cons_zero, List.set_cons_succ]
  refine wpAnyH_take (i := 2) (v := (.pointer (some ⟨Wb, 1, none⟩))) rfl (by kernel_rfl) (by kernel_rfl) (by kernel_rfl) (fun _ _ _ h => h) (Or.inl ⟨by rfl, fun X hS => ?_⟩) hHeld ?_
  · obtain ⟨s9x, hs9x⟩ := hS
    obtain ⟨⟨s1, s2, s3, s4, s5, s6, s7, s8⟩, ⟨t1, t2, t3, t4, t5, t6⟩, f4, f5⟩ := hs9x.all
    go_simp
  try simp only [Act.put, List.getElem_toArray, List.getElem_cons_zero, List.getElem_cons_succ, List.setIfInBounds_toArray, List.set_cons_zero, List.set_cons_succ]
  refine wpAnyH_take (i := 3) (v := (.agg #[.pointer (some ⟨A, 0, none⟩), .int .i64 (va : Int), .int .i64 (vs : Int)])) rfl (by kernel_rfl) (by kernel_rfl) (by kernel_rfl) (fun _ _ _ h => h) (Or.inl ⟨by rfl, fun X hS => ?_⟩) hHeld ?_
  · obtain ⟨s9x, hs9x⟩ := hS
    obtain ⟨⟨s1, s2, s3, s4, s5, s6, s7, s8⟩, ⟨t1, t2, t3, t4, t5, t6⟩, f4, f5⟩ := hs9x.all
    go_simp
  try simp only [Act.put, List.getElem_toArray, List.getElem_cons_zero, List.getElem_cons_succ, List.setIfInBounds_toArray, List.set_cons_zero, List.set_cons_succ]
  refine wpAnyH_take (i := 4) (v := (.pointer (some ⟨E, 5, none⟩))) rfl (by kernel_rfl) (by kernel_rfl) (by kernel_rfl) (fun _ _ _ h => h) (Or.inl ⟨by rfl, fun X hS => ?_⟩) hHeld ?_
  · obtain ⟨s9x, hs9x⟩ := hS
    obtain ⟨⟨s1, s2, s3, s4, s5, s6, s7, s8⟩, ⟨t1, t2, t3, t4, t5, t6⟩, f4, f5⟩ := hs9x.all
    go_simp
  try simp only [Act.put, List.getElem_toArray, List.getElem_cons_zero, List.getElem_cons_succ, List.setIfInBounds_toArray, List.set_cons_zero, List.set_cons_succ]
  refine wpAnyH_take (i := 5) (v := (.string S)) rfl (by kernel_rfl) (by kernel_rfl) (by kernel_rfl) (fun _ _ _ h => h) (Or.inl ⟨by rfl, fun X hS => ?_⟩) hHeld ?_
  · obtain ⟨s9x, hs9x⟩ := hS
    obtain ⟨⟨s1, s2, s3, s4, s5, s6, s7, s8⟩, ⟨t1, t2, t3, t4, t5, t6⟩, f4, f5⟩ := hs9x.all
    go_simp
  try simp only [Act.put, List.getElem_toArray, List.getElem_cons_zero, List.getElem_cons_succ, List.setIfInBounds_toArray, List.set_cons_zero, List.set_cons_succ]
  refine wpAnyH_take (i := 6) (v := (.int .i64 (K : Int))) rfl (by kernel_rfl) (by kernel_rfl) (by kernel_rfl) (fun _ _ _ h => h) (Or.inl ⟨by rfl, fun X hS => ?_⟩) hHeld ?_
  · obtain ⟨s9x, hs9x⟩ := hS
    obtain ⟨⟨s1, s2, s3, s4, s5, s6, s7, s8⟩, ⟨t1, t2, t3, t4, t5, t6⟩, f4, f5⟩ := hs9x.all
    go_simp
  try simp only [Act.put, List.getElem_toArray, List.getElem_cons_zero, List.getElem_cons_succ, List.setIfInBounds_toArray, List.set_cons_zero, List.set_cons_succ]
  refine wpAnyH_take (i := 7) (v := (.string (S.extract 0 K))) rfl (by kernel_rfl) (by kernel_rfl) (by kernel_rfl) (fun _ _ _ h => h) (Or.inl ⟨by rfl, fun X hS => ?_⟩) hHeld ?_
  · obtain ⟨s9x, hs9x⟩ := hS
    obtain ⟨⟨s1, s2, s3, s4, s5, s6, s7, s8⟩, ⟨t1, t2, t3, t4, t5, t6⟩, f4, f5⟩ := hs9x.all
    have k1 := HK.out.1; have k2 := HK.out.2.1; have k3 := HK.out.2.2.1; have k4 := HK.out.2.2.2
    go_simp
  try simp only [Act.put, List.getElem_toArray, List.getElem_cons_zero, List.getElem_cons_succ, List.setIfInBounds_toArray, List.set_cons_zero, List.set_cons_succ]
  refine wpAnyH_take (i := 8) (v := (.pointer (some ⟨E, 5, none⟩))) rfl (by kernel_rfl) (by kernel_rfl) (by kernel_rfl) (fun _ _ _ h => h) (Or.inl ⟨by rfl, fun X hS => ?_⟩) hHeld ?_
  · obtain ⟨s9x, hs9x⟩ := hS
    obtain ⟨⟨s1, s2, s3, s4, s5, s6, s7, s8⟩, ⟨t1, t2, t3, t4, t5, t6⟩, f4, f5⟩ := hs9x.all
    go_simp
  try simp only [Act.put, List.getElem_toArray, List.getElem_cons_zero, List.getElem_cons_succ, List.setIfInBounds_toArray, List.set_cons_zero, List.set_cons_succ]
  refine wpAnyH_take (i := 9) (v := (.string S)) rfl (by kernel_rfl) (by kernel_rfl) (by kernel_rfl) (fun _ _ _ h => h) (Or.inl ⟨by rfl, fun X hS => ?_⟩) hHeld ?_
  · obtain ⟨s9x, hs9x⟩ := hS
    obtain ⟨⟨s1, s2, s3, s4, s5, s6, s7, s8⟩, ⟨t1, t2, t3, t4, t5, t6⟩, f4, f5⟩ := hs9x.all
    go_simp
  try simp only [Act.put, List.getElem_toArray, List.getElem_cons_zero, List.getElem_cons_succ, List.setIfInBounds_toArray, List.set_cons_zero, List.set_cons_succ]
  refine wpAnyH_take (i := 10) (v := (.int .i64 (K : Int))) rfl (by kernel_rfl) (by kernel_rfl) (by kernel_rfl) (fun _ _ _ h => h) (Or.inl ⟨by rfl, fun X hS => ?_⟩) hHeld ?_
  · obtain ⟨s9x, hs9x⟩ := hS
    obtain ⟨⟨s1, s2, s3, s4, s5, s6, s7, s8⟩, ⟨t1, t2, t3, t4, t5, t6⟩, f4, f5⟩ := hs9x.all
    go_simp
  try simp only [Act.put, List.getElem_toArray, List.getElem_cons_zero, List.getElem_cons_succ, List.setIfInBounds_toArray, List.set_cons_zero, List.set_cons_succ]
  refine wpAnyH_take (i := 11) (v := (.string (S.extract K S.size))) rfl (by kernel_rfl) (by kernel_rfl) (by kernel_rfl) (fun _ _ _ h => h) (Or.inl ⟨by rfl, fun X hS => ?_⟩) hHeld ?_
  · obtain ⟨s9x, hs9x⟩ := hS
    obtain ⟨⟨s1, s2, s3, s4, s5, s6, s7, s8⟩, ⟨t1, t2, t3, t4, t5, t6⟩, f4, f5⟩ := hs9x.all
    have k1 := HK.out.1; have k2 := HK.out.2.1; have k3 := HK.out.2.2.1; have k4 := HK.out.2.2.2
    go_simp
  try simp only [Act.put, List.getElem_toArray, List.getElem_cons_zero, List.getElem_cons_succ, List.setIfInBounds_toArray, List.set_cons_zero, List.set_cons_succ]
  have HD := Lib.hid hS0
  clear hS0 hHeld
  refine wpAnyH_ready (rs := [12]) (by kernel_rfl) (by simp) (AllReadyH.cons rfl (fun K1 hK1 => ?_) AllReadyH.nil)
  go_simp
  have hSB : StrsAt (y.alloc (.cells #[.string (S.extract 0 K), .string (S.extract K S.size)] 9)).drew (some ⟨y.heap.size, 0, none⟩) [S.extract 0 K, S.extract K S.size] := by
    refine .inr ⟨y.heap.size, 0, rfl, by show y.heap.size < (y.alloc (.cells #[.string (S.extract 0 K), .string (S.extract K S.size)] 9)).heap.size; simp, fun i hi => ?_⟩
    show (y.alloc (.cells #[.string (S.extract 0 K), .string (S.extract K S.size)] 9)).cell? _ = _
    rw [(cell_blk (heap_new y _) _).1, Nat.zero_add]
    have : i = 0 ∨ i = 1 := by simp at hi; omega
    rcases this with rfl | rfl <;> rfl
  have hD1 : DvS Wb E A b cap va vs s s d at_ fr n x S w0 (y.alloc (.cells #[.string (S.extract 0 K), .string (S.extract K S.size)] 9)).drew := HY.out.below (bel1 y (.cells #[.string (S.extract 0 K), .string (S.extract K S.size)] 9)).drew
  obtain ⟨x1, hx1⟩ : ∃ x1, (y.alloc (.cells #[.string (S.extract 0 K), .string (S.extract K S.size)] 9)).drew = x1 := ⟨_, rfl⟩
  rw [hx1] at hSB hD1 ⊢
  have HD1 := Lib.hid hD1
  have HSB := Lib.hid hSB
  clear hx1 hSB hD1 HD HY
  refine hK1.out _ _ ⟨_, HD1.out⟩ (fun hHeld => ?_)
  clear hK1
  try simp only [Act.put, List.getElem_toArray, List.getElem_cons_zero, List.getElem_cons_succ, List.setIfInBounds_toArray, List.set_cons_zero, List.set_cons_succ]
  clear hHeld
  refine wpAnyH_ready (rs := [13]) (by kernel_rfl) (by simp) (AllReadyH.cons rfl (fun K1 hK1 => ?_) AllReadyH.nil)
  go_simp
  refine (HPC.out _ _ HD1.out.x HSB.out).mono ?_
  rintro e w2 ⟨rfl, hx, hg⟩
  have HD2 := Lib.hid (HD1.out.went hx hg)
  clear hx hg
  refine hK1.out _ _ ⟨_, HD2.out⟩ (fun hHeld => ?_)
  clear hK1
  try simp only [Act.put, List.getElem_toArray, List.getElem_cons_zero, List.getElem_cons_succ, List.setIfInBounds_toArray, List.set_cons_zero, List.set_cons_succ]
  refine wpAnyH_take (i := 14) (v := (.int .i64 er)) rfl (by kernel_rfl) (by kernel_rfl) (by kernel_rfl) (fun _ _ _ h => h) (Or.inl ⟨by rfl, fun X hS => ?_⟩) hHeld ?_
  · obtain ⟨s9x, hs9x⟩ := hS
    obtain ⟨⟨s1, s2, s3, s4, s5, s6, s7, s8⟩, ⟨t1, t2, t3, t4, t5, t6⟩, f4, f5⟩ := hs9x.all
    go_simp
  try simp only [Act.put, List.getElem_toArray, List.getElem_cons_zero, List.getElem_cons_succ, List.setIfInBounds_toArray, List.set_cons_zero, List.set_cons_succ]
  clear hHeld
  refine wpAnyH_done (by kernel_rfl) ?_ _
  go_upto_region 5 with fail
  have hS0 := HD2.out.below (Below.refl w2.heap.size w2).drew
  clear HD2 HD1
  refine wp_region_held_drew (S := fun X => (X.cell? ⟨E, 0, none⟩ = some (.int .u8 d) ∧ X.cell? ⟨E, 1, none⟩ = some (.int .i64 at_) ∧ X.cell? ⟨E, 2, none⟩ = some (.int .i64 fr) ∧ X.cell? ⟨E, 3, none⟩ = some (.int .i64 n) ∧ X.cell? ⟨E, 4, none⟩ = some (.int .u64 x) ∧ X.cell? ⟨E, 5, none⟩ = some (.string S)) ∧ X.cell? ⟨Wb, 6, none⟩ = some (.int .i64 (va : Int)) ∧ X.cell? ⟨Wb, 7, none⟩ = some (.int .i64 (vs : Int))) (by kernel_rfl) hS0.dd (fun hHeld => ?_)
  refine wpAnyH_take (i := 0) (v := (.pointer (some ⟨Wb, 0, none⟩))) rfl (by kernel_rfl) (by kernel_rfl) (by kernel_rfl) (fun _ _ _ h => h) (Or.inl ⟨by rfl, fun X hS => ?_⟩) hHeld ?_
  · obtain ⟨⟨t1, t2, t3, t4, t5, t6⟩, s7, s8⟩ := hS
    go_simp
  try simp only [Act.put, List.getElem_toArray, List.getElem_cons_zero, List.getElem_cons_succ, List.setIfInBounds_toArray, List.set_cons_zero, List.set_cons_succ]
  refine wpAnyH_take (i := 1) (v := (.pointer (some ⟨Wb, 0, none⟩))) rfl (by kernel_rfl) (by kernel_rfl) (by kernel_rfl) (fun _ _ _ h => h) (Or.inl ⟨by rfl, fun X hS => ?_⟩) hHeld ?_
  · obtain ⟨⟨t1, t2, t3, t4, t5, t6⟩, s7, s8⟩ := hS
    go_simp
  try simp only [Act.put, List.getElem_toArray, List.getElem_cons_zero, List.getElem_cons_succ, List.setIfInBounds_toArray, List.set_cons_zero, List.set_cons_succ]
  refine wpAnyH_take (i := 2) (v := (.pointer (some ⟨Wb, 0, none⟩))) rfl (by kernel_rfl) (by kernel_rfl) (by kernel_rfl) (fun _ _ _ h => h) (Or.inl ⟨by rfl, fun X hS => ?_⟩) hHeld ?_
  · obtain ⟨⟨t1, t2, t3, t4, t5, t6⟩, s7, s8⟩ := hS
    go_simp
  try simp only [Act.put, List.getElem_toArray, List.getElem_cons_zero, List.getElem_cons_succ, List.setIfInBounds_toArray, List.set_cons_zero, List.set_cons_succ]
  refine wpAnyH_take (i := 3) (v := (.pointer (some ⟨Wb, 4, none⟩))) rfl (by kernel_rfl) (by kernel_rfl) (by kernel_rfl) (fun _ _ _ h => h) (Or.inl ⟨by rfl, fun X hS => ?_⟩) hHeld ?_
  · obtain ⟨⟨t1, t2, t3, t4, t5, t6⟩, s7, s8⟩ := hS
    go_simp
  try simp only [Act.put, List.getElem_toArray, List.getElem_cons_zero, List.getElem_cons_succ, List.setIfInBounds_toArray, List.set_cons_zero, List.set_cons_succ]
  refine wpAnyH_take (i := 5) (v := (.pointer (some ⟨Wb, 0, none⟩))) rfl (by kernel_rfl) (by kernel_rfl) (by kernel_rfl) (fun _ _ _ h => h) (Or.inl ⟨by rfl, fun X hS => ?_⟩) hHeld ?_
  · obtain ⟨⟨t1, t2, t3, t4, t5, t6⟩, s7, s8⟩ := hS
    go_simp
  try simp only [Act.put, List.getElem_toArray, List.getElem_cons_zero, List.getElem_cons_succ, List.setIfInBounds_toArray, List.set_cons_zero, List.set_cons_succ]
  refine wpAnyH_take (i := 6) (v := (.pointer (some ⟨Wb, 0, none⟩))) rfl (by kernel_rfl) (by kernel_rfl) (by kernel_rfl) (fun _ _ _ h => h) (Or.inl ⟨by rfl, fun X hS => ?_⟩) hHeld ?_
  · obtain ⟨⟨t1, t2, t3, t4, t5, t6⟩, s7, s8⟩ := hS
    go_simp
  try simp only [Act.put, List.getElem_toArray, List.getElem_cons_zero, List.getElem_cons_succ, List.setIfInBounds_toArray, List.set_cons_zero, List.set_cons_succ]
  refine wpAnyH_take (i := 7) (v := (.pointer (some ⟨Wb, 6, none⟩))) rfl (by kernel_rfl) (by kernel_rfl) (by kernel_rfl) (fun _ _ _ h => h) (Or.inl ⟨by rfl, fun X hS => ?_⟩) hHeld ?_
  · obtain ⟨⟨t1, t2, t3, t4, t5, t6⟩, s7, s8⟩ := hS
    go_simp
  try simp only [Act.put, List.getElem_toArray, List.getElem_cons_zero, List.getElem_cons_succ, List.setIfInBounds_toArray, List.set_cons_zero, List.set_cons_succ]
  refine wpAnyH_take (i := 8) (v := (.agg #[.int .i64 (va : Int), .int .i64 (vs : Int)])) rfl (by kernel_rfl) (by kernel_rfl) (by kernel_rfl) (fun _ _ _ h => h) (Or.inl ⟨by rfl, fun X hS => ?_⟩) hHeld ?_
  · obtain ⟨⟨t1, t2, t3, t4, t5, t6⟩, s7, s8⟩ := hS
    go_simp
  try simp only [Act.put, List.getElem_toArray, List.getElem_cons_zero, List.getElem_cons_succ, List.setIfInBounds_toArray, List.set_cons_zero, List.set_cons_succ]
  refine wpAnyH_take (i := 9) (v := (.pointer (some ⟨E, 5, none⟩))) rfl (by kernel_rfl) (by kernel_rfl) (by kernel_rfl) (fun _ _ _ h => h) (Or.inl ⟨by rfl, fun X hS => ?_⟩) hHeld ?_
  · obtain ⟨⟨t1, t2, t3, t4, t5, t6⟩, s7, s8⟩ := hS
    go_simp
  try simp only [Act.put, List.getElem_toArray, List.getElem_cons_zero, List.getElem_cons_succ, List.setIfInBounds_toArray, List.set_cons_zero, List.set_cons_succ]
  refine wpAnyH_take (i := 10) (v := (.string S)) rfl (by kernel_rfl) (by kernel_rfl) (by kernel_rfl) (fun _ _ _ h => h) (Or.inl ⟨by rfl, fun X hS => ?_⟩) hHeld ?_
  · obtain ⟨⟨t1, t2, t3, t4, t5, t6⟩, s7, s8⟩ := hS
    go_simp
  try simp only [Act.put, List.getElem_toArray, List.getElem_cons_zero, List.getElem_cons_succ, List.setIfInBounds_toArray, List.set_cons_zero, List.set_cons_succ]
  have HD := Lib.hid hS0
  clear hS0 hHeld
  refine wpAnyH_ready (rs := [4]) (by kernel_rfl) (by simp) (AllReadyH.cons rfl (fun K1 hK1 => ?_) AllReadyH.nil)
  obtain ⟨⟨s1, s2, s3, s4, s5, s6, s7, s8⟩, ⟨t1, t2, t3, t4, t5, t6⟩, f4, f5⟩ := HD.out.all
  go_simp
  clear s1 s2 s3 s4 s5 s6 s7 s8 t1 t2 t3 t4 t5 t6 f4 f5
  refine hK1.out _ _ HD.out.dd (fun hHeld => ?_)
  clear hK1
  try simp only [Act.put, List.getElem_toArray, List.getElem_cons_zero, List.getElem_cons_succ, List.setIfInBounds_toArray, List.set_cons_zero, List.set_cons_succ]
  clear hHeld
  refine wpAnyH_ready (rs := [11]) (by kernel_rfl) (by simp) (AllReadyH.cons rfl (fun K1 hK1 => ?_) AllReadyH.nil)
  go_simp
  refine (HDC.out _ HD.out.d).mono ?_
  rintro e w3 ⟨b2, cap2, rfl, hd2, hb⟩
  have HD3 := Lib.hid (HD.out.below hb)
  have HD4 := Lib.hid (HD3.out.put (cap2 := cap2) hd2)
  rw [HRS.out] at HD4
  clear hd2 hb
  refine hK1.out _ _ HD3.out.dd (fun hHeld => ?_)
  clear hK1
  try simp only [Act.put, List.getElem_toArray, List.getElem_cons_zero, List.getElem_cons_succ, List.setIfInBounds_toArray, List.set_cons_zero, List.set_cons_succ]
  refine wpAnyH_take (i := 12) (v := (.tuple #[.agg #[.slice (some ⟨b2, 0, none⟩) s'.L cap2, .int .i64 (refR s)], .int .i64 er])) rfl (by kernel_rfl) (by kernel_rfl) (by kernel_rfl) (fun _ _ _ h => h) (Or.inl ⟨by rfl, fun X hS => ?_⟩) hHeld ?_
  · obtain ⟨⟨t1, t2, t3, t4, t5, t6⟩, s7, s8⟩ := hS
    go_simp
  try simp only [Act.put, List.getElem_toArray, List.getElem_cons_zero, List.getElem_cons_succ, List.setIfInBounds_toArray, List.set_cons_zero, List.set_cons_succ]
  refine wpAnyH_take (i := 13) (v := (.agg #[.slice (some ⟨b2, 0, none⟩) s'.L cap2, .int .i64 (refR s)])) rfl (by kernel_rfl) (by kernel_rfl) (by kernel_rfl) (fun _ _ _ h => h) (Or.inl ⟨by rfl, fun X hS => ?_⟩) hHeld ?_
  · obtain ⟨⟨t1, t2, t3, t4, t5, t6⟩, s7, s8⟩ := hS
    go_simp
  try simp only [Act.put, List.getElem_toArray, List.getElem_cons_zero, List.getElem_cons_succ, List.setIfInBounds_toArray, List.set_cons_zero, List.set_cons_succ]
  refine wpAnyH_take (i := 14) (v := (.int .i64 er)) rfl (by kernel_rfl) (by kernel_rfl) (by kernel_rfl) (fun _ _ _ h => h) (Or.inl ⟨by rfl, fun X hS => ?_⟩) hHeld ?_
  · obtain ⟨⟨t1, t2, t3, t4, t5, t6⟩, s7, s8⟩ := hS
    go_simp
  try simp only [Act.put, List.getElem_toArray, List.getElem_cons_zero, List.getElem_cons_succ, List.setIfInBounds_toArray, List.set_cons_zero, List.set_cons_succ]
  refine wpAnyH_take (i := 15) (v := (.pointer (some ⟨Wb, 0, none⟩))) rfl (by kernel_rfl) (by kernel_rfl) (by kernel_rfl) (fun _ _ _ h => h) (Or.inl ⟨by rfl, fun X hS => ?_⟩) hHeld ?_
  · obtain ⟨⟨t1, t2, t3, t4, t5, t6⟩, s7, s8⟩ := hS
    go_simp
  try simp only [Act.put, List.getElem_toArray, List.getElem_cons_zero, List.getElem_cons_succ, List.setIfInBounds_toArray, List.set_cons_zero, List.set_cons_succ]
  refine wpAnyH_take (i := 16) (v := (.pointer (some ⟨Wb, 4, none⟩))) rfl (by kernel_rfl) (by kernel_rfl) (by kernel_rfl) (fun _ _ _ h => h) (Or.inl ⟨by rfl, fun X hS => ?_⟩) hHeld ?_
  · obtain ⟨⟨t1, t2, t3, t4, t5, t6⟩, s7, s8⟩ := hS
    go_simp
  try simp only [Act.put, List.getElem_toArray, List.getElem_cons_zero, List.getElem_cons_succ, List.setIfInBounds_toArray, List.set_cons_zero, List.set_cons_succ]
  clear hHeld
  obtain ⟨⟨s1, s2, s3, s4, s5, s6, s7, s8⟩, ⟨t1, t2, t3, t4, t5, t6⟩, f4, f5⟩ := HD3.out.all
  refine wpAnyH_ready (rs := [17]) (by kernel_rfl) (by simp) (AllReadyH.cons rfl (fun K1 hK1 => ?_) AllReadyH.nil)
  go_simp
  refine hK1.out _ _ HD4.out.dd (fun hHeld => ?_)
  clear hK1
  try simp only [Act.put, List.getElem_toArray, List.getElem_cons_zero, List.getElem_cons_succ, List.setIfInBounds_toArray, List.set_cons_zero, List.set_cons_succ]
  clear s1 s2 s3 s4 s5 s6 s7 s8 t1 t2 t3 t4 t5 t6 f4 f5
  refine wpAnyH_take (i := 18) (v := (.int .i64 er)) rfl (by kernel_rfl) (by kernel_rfl) (by kernel_rfl) (fun _ _ _ h => h) (Or.inl ⟨by rfl, fun X hS => ?_⟩) hHeld ?_
  · obtain ⟨⟨t1, t2, t3, t4, t5, t6⟩, s7, s8⟩ := hS
    go_simp
  try simp only [Act.put, List.getElem_toArray, List.getElem_cons_zero, List.getElem_cons_succ, List.setIfInBounds_toArray, List.set_cons_zero, List.set_cons_succ]
  clear hHeld
  refine wpAnyH_done (by kernel_rfl) ?_ _
  have hee : (er == er) = true := by simp
  go_wp2_with fail
  go_ret
  exact ⟨b2, cap2, va, vs, s', rfl, HSL.out, HD4.out.fin⟩
set_option maxHeartbeats 8000000 in
set_option maxRecDepth 100000 in
theorem dvo_texts9 {Wb A b cap va vs : Nat} {s : ASt} {d at_ fr n x : Int} {S : ByteArray} {w0 w : World} (h : DvW Wb A b cap va vs s w0 w) (hL : s.L ≤ 8) (hd : d.tmod 10 = 9) (hd0 : 0 ≤ d ∧ d ≤ 255) (ha : -9223372036854775808 ≤ at_ ∧ at_ ≤ 9223372036854775807) (hf : -9223372036854775808 ≤ fr ∧ fr ≤ 9223372036854775807) (hn : -9223372036854775808 ≤ n ∧ n ≤ 9223372036854775807) (hx : 0 ≤ x ∧ x < 18446744073709551616) (hS : S.size ≤ 6000) :
    Calls Try.prog 28 #[.pointer (some ⟨Wb, 0, none⟩), .agg #[.int .u8 d, .int .i64 at_, .int .i64 fr, .int .i64 n, .int .u64 x, .string S]] w (DvP Wb A s.L w0) := by
  obtain ⟨K, hK⟩ : ∃ K : Nat, (K : Int) = max 0 (min n (S.size : Int)) := ⟨(max 0 (min n (S.size : Int))).toNat, by omega⟩
  have hKS : K ≤ S.size := by omega
  have hsl : (S.data.toList.length : Int) = (S.size : Int) := rfl
  have hv1 := h.hva
  have hv2 := h.hvs
  obtain ⟨s', hs'⟩ : ∃ s', putS s (addrV va vs 0 (S.size : Int)) S.data.toList = s' := ⟨_, rfl⟩
  obtain ⟨er, her⟩ : ∃ er, thereE s.L s.es (addrV va vs 0 (S.size : Int)) (S.size : Int) = er := ⟨_, rfl⟩
  have HPC := Lib.hid (fun (y : World) (q : Option Addr) (hy : On A s y) (hq : StrsAt y q [S.extract 0 K, S.extract K S.size]) => on_texts hy va vs hv1 hv2 q S K hKS hS hq)
  have HDC := Lib.hid (fun (y : World) (hy : DocB b (gS s) y) => rv_put (cap := cap) h.x.good hL hv1 hv2 rfl 0 S (by omega) (by omega) hy)
  rw [hs', her] at HPC HDC
  have HSL : Hid (s'.L = s.L) := Lib.hid (by rw [← hs']; unfold putS; split <;> rfl)
  have HRS : Hid (refR s' = refR s) := Lib.hid (by rw [← hs']; unfold putS; split <;> rfl)
  have HK : Hid ((0 : Int) ≤ K ∧ (K : Int) ≤ (S.size : Int) ∧ ¬ ((S.size : Int) < (K : Int)) ∧ K ≤ S.size) := Lib.hid ⟨by omega, by omega, by omega, hKS⟩
  have hmm : (if (if (S.size : Int) < n then (S.size : Int) else n) < 0 then 0 else (if (S.size : Int) < n then (S.size : Int) else n)) = (K : Int) := by rw [hK]; split <;> split <;> omega
  have hm1 : max 0 (min n (S.size : Int)) = (K : Int) := hK.symm
  clear hs' her hf hn hx hv1 hv2 hsl hK hKS
  have hE := heap_new w (.cells #[.int .u8 d, .int .i64 at_, .int .i64 fr, .int .i64 n, .int .u64 x, .string S] 36)
  have hb0 := bel1 w (.cells #[.int .u8 d, .int .i64 at_, .int .i64 fr, .int .i64 n, .int .u64 x, .string S] 36)
  have hds := h.start hE hb0
  clear hE hb0
  go_enter Try.func28, Try.ntmps28
  go_upto_region 1 with fail
  change Code.wp _ _ _ _ (w.alloc (.cells #[.int .u8 d, .int .i64 at_, .int .i64 fr, .int .i64 n, .int .u64 x, .string S] 36))
  obtain ⟨y, hy⟩ : ∃ y, w.alloc (.cells #[.int .u8 d, .int .i64 at_, .int .i64 fr, .int .i64 n, .int .u64 x, .string S] 36) = y := ⟨_, rfl⟩
  obtain ⟨E, hEE⟩ : ∃ E, w.heap.size = E := ⟨_, rfl⟩
  rw [hy, hEE] at hds
  rw [hy, hEE]
  have H := Lib.hid hds
  clear hy hEE hds
  obtain ⟨⟨s1, s2, s3, s4, s5, s6, s7, s8⟩, ⟨t1, t2, t3, t4, t5, t6⟩, f4, f5⟩ := H.out.all
  go_upto_region 4 with fail
  have hS0 := H.out.below (Below.refl y.heap.size y).drew
  have HY := Lib.hid H.out
  clear H s1 s2 s3 s4 s5 s6 s7 s8 t1 t2 t3 t4 t5 t6 f4 f5
  refine wp_region_held_drew (S := fun X => ∃ s', DvS Wb E A b cap va vs s' s d at_ fr n x S w0 X) (by kernel_rfl) ⟨_, hS0⟩ (fun hHeld => ?_)
  refine wpAnyH_take (i := 0) (v := (.pointer (some ⟨Wb, 0, none⟩))) rfl (by kernel_rfl) (by kernel_rfl) (by kernel_rfl) (fun _ _ _ h => h) (Or.inl ⟨by rfl, fun X hS => ?_⟩) hHeld ?_
  · obtain ⟨s9x, hs9x⟩ := hS
    obtain ⟨⟨s1, s2, s3, s4, s5, s6, s7, s8⟩, ⟨t1, t2, t3, t4, t5, t6⟩, f4, f5⟩ := hs9x.all
    go_simp
  try simp only [Act.put, List.getElem_toArray, List.getElem_cons_zero, List.getElem_cons_succ, List.setIfInBounds_toArray, List.set_cons_zero, List.set_cons_succ]
  refine wpAnyH_take (i := 1) (v := (.pointer (some ⟨Wb, 0, none⟩))) rfl (by kernel_rfl) (by kernel_rfl) (by kernel_rfl) (fun _ _ _ h => h) (Or.inl ⟨by rfl, fun X hS => ?_⟩) hHeld ?_
  · obtain ⟨s9x, hs9x⟩ := hS
    obtain ⟨⟨s1, s2, s3, s4, s5, s6, s7, s8⟩, ⟨t1, t2, t3, t4, t5, t6⟩, f4, f5⟩ := hs9x.all
    go_simp
  try simp only [Act.put, List.getElem_toArray, List.getElem_cons_zero, List.getElem_cons_succ, List.setIfInBounds_toArray, List.set_cons_zero, List.set_cons_succ]
  refine wpAnyH_take (i := 2) (v := (.pointer (some ⟨Wb, 1, none⟩))) rfl (by kernel_rfl) (by kernel_rfl) (by kernel_rfl) (fun _ _ _ h => h) (Or.inl ⟨by rfl, fun X hS => ?_⟩) hHeld ?_
  · obtain ⟨s9x, hs9x⟩ := hS
    obtain ⟨⟨s1, s2, s3, s4, s5, s6, s7, s8⟩, ⟨t1, t2, t3, t4, t5, t6⟩, f4, f5⟩ := hs9x.all
    go_simp
  try simp only [Act.put, List.getElem_toArray, List.getElem_cons_zero, List.getElem_cons_succ, List.setIfInBounds_toArray, List.set_cons_zero, List.set_cons_succ]
  refine wpAnyH_take (i := 3) (v := (.agg #[.pointer (some ⟨A, 0, none⟩), .int .i64 (va : Int), .int .i64 (vs : Int)])) rfl (by kernel_rfl) (by kernel_rfl) (by kernel_rfl) (fun _ _ _ h => h) (Or.inl ⟨by rfl, fun X hS => ?_⟩) hHeld ?_
  · obtain ⟨s9x, hs9x⟩ := hS
    obtain ⟨⟨s1, s2, s3, s4, s5, s6, s7, s8⟩, ⟨t1, t2, t3, t4, t5, t6⟩, f4, f5⟩ := hs9x.all
    go_simp
  try simp only [Act.put, List.getElem_toArray, List.getElem_cons_zero, List.getElem_cons_succ, List.setIfInBounds_toArray, List.set_cons_zero, List.set_cons_succ]
  refine wpAnyH_take (i := 4) (v := (.pointer (some ⟨E, 5, none⟩))) rfl (by kernel_rfl) (by kernel_rfl) (by kernel_rfl) (fun _ _ _ h => h) (Or.inl ⟨by rfl, fun X hS => ?_⟩) hHeld ?_
  · obtain ⟨s9x, hs9x⟩ := hS
    obtain ⟨⟨s1, s2, s3, s4, s5, s6, s7, s8⟩, ⟨t1, t2, t3, t4, t5, t6⟩, f4, f5⟩ := hs9x.all
    go_simp
  try simp only [Act.put, List.getElem_toArray, List.getElem_cons_zero, List.getElem_cons_succ, List.setIfInBounds_toArray, List.set_cons_zero, List.set_cons_succ]
  refine wpAnyH_take (i := 5) (v := (.string S)) rfl (by kernel_rfl) (by kernel_rfl) (by kernel_rfl) (fun _ _ _ h => h) (Or.inl ⟨by rfl, fun X hS => ?_⟩) hHeld ?_
  · obtain ⟨s9x, hs9x⟩ := hS
    obtain ⟨⟨s1, s2, s3, s4, s5, s6, s7, s8⟩, ⟨t1, t2, t3, t4, t5, t6⟩, f4, f5⟩ := hs9x.all
    go_simp
  try simp only [Act.put, List.getElem_toArray, List.getElem_cons_zero, List.getElem_cons_succ, List.setIfInBounds_toArray, List.set_cons_zero, List.set_cons_succ]
  refine wpAnyH_take (i := 6) (v := (.int .i64 (K : Int))) rfl (by kernel_rfl) (by kernel_rfl) (by kernel_rfl) (fun _ _ _ h => h) (Or.inl ⟨by rfl, fun X hS => ?_⟩) hHeld ?_
  · obtain ⟨s9x, hs9x⟩ := hS
    obtain ⟨⟨s1, s2, s3, s4, s5, s6, s7, s8⟩, ⟨t1, t2, t3, t4, t5, t6⟩, f4, f5⟩ := hs9x.all
    go_simp
  try simp only [Act.put, List.getElem_toArray, List.getElem_cons_zero, List.getElem_cons_succ, List.setIfInBounds_toArray, List.set_cons_zero, List.set_cons_succ]
  refine wpAnyH_take (i := 7) (v := (.string (S.extract 0 K))) rfl (by kernel_rfl) (by kernel_rfl) (by kernel_rfl) (fun _ _ _ h => h) (Or.inl ⟨by rfl, fun X hS => ?_⟩) hHeld ?_
  · obtain ⟨s9x, hs9x⟩ := hS
    obtain ⟨⟨s1, s2, s3, s4, s5, s6, s7, s8⟩, ⟨t1, t2, t3, t4, t5, t6⟩, f4, f5⟩ := hs9x.all
    have k1 := HK.out.1; have k2 := HK.out.2.1; have k3 := HK.out.2.2.1; have k4 := HK.out.2.2.2
    go_simp
  try simp only [Act.put, List.getElem_toArray, List.getElem_cons_zero, List.getElem_cons_succ, List.setIfInBounds_toArray, List.set_cons_zero, List.set_cons_succ]
  refine wpAnyH_take (i := 8) (v := (.pointer (some ⟨E, 5, none⟩))) rfl (by kernel_rfl) (by kernel_rfl) (by kernel_rfl) (fun _ _ _ h => h) (Or.inl ⟨by rfl, fun X hS => ?_⟩) hHeld ?_
  · obtain ⟨s9x, hs9x⟩ := hS
    obtain ⟨⟨s1, s2, s3, s4, s5, s6, s7, s8⟩, ⟨t1, t2, t3, t4, t5, t6⟩, f4, f5⟩ := hs9x.all
    go_simp
  try simp only [Act.put, List.getElem_toArray, List.getElem_cons_zero, List.getElem_cons_succ, List.setIfInBounds_toArray, List.set_cons_zero, List.set_cons_succ]
  refine wpAnyH_take (i := 9) (v := (.string S)) rfl (by kernel_rfl) (by kernel_rfl) (by kernel_rfl) (fun _ _ _ h => h) (Or.inl ⟨by rfl, fun X hS => ?_⟩) hHeld ?_
  · obtain ⟨s9x, hs9x⟩ := hS
    obtain ⟨⟨s1, s2, s3, s4, s5, s6, s7, s8⟩, ⟨t1, t2, t3, t4, t5, t6⟩, f4, f5⟩ := hs9x.all
    go_simp
  try simp only [Act.put, List.getElem_toArray, List.getElem_cons_zero, List.getElem_cons_succ, List.setIfInBounds_toArray, List.set_cons_zero, List.set_cons_succ]
  refine wpAnyH_take (i := 10) (v := (.int .i64 (K : Int))) rfl (by kernel_rfl) (by kernel_rfl) (by kernel_rfl) (fun _ _ _ h => h) (Or.inl ⟨by rfl, fun X hS => ?_⟩) hHeld ?_
  · obtain ⟨s9x, hs9x⟩ := hS
    obtain ⟨⟨s1, s2, s3, s4, s5, s6, s7, s8⟩, ⟨t1, t2, t3, t4, t5, t6⟩, f4, f5⟩ := hs9x.all
    go_simp
  try simp only [Act.put, List.getElem_toArray, List.getElem_cons_zero, List.getElem_cons_succ, List.setIfInBounds_toArray, List.set_cons_zero, List.set_cons_succ]
  refine wpAnyH_take (i := 11) (v := (.string (S.extract K S.size))) rfl (by kernel_rfl) (by kernel_rfl) (by kernel_rfl) (fun _ _ _ h => h) (Or.inl ⟨by rfl, fun X hS => ?_⟩) hHeld ?_
  · obtain ⟨s9x, hs9x⟩ := hS
    obtain ⟨⟨s1, s2, s3, s4, s5, s6, s7, s8⟩, ⟨t1, t2, t3, t4, t5, t6⟩, f4, f5⟩ := hs9x.all
    have k1 := HK.out.1; have k2 := HK.out.2.1; have k3 := HK.out.2.2.1; have k4 := HK.out.2.2.2
    go_simp
  try simp only [Act.put, List.getElem_toArray, List.getElem_cons_zero, List.getElem_cons_succ, List.setIfInBounds_toArray, List.set_cons_zero, List.set_cons_succ]
  have HD := Lib.hid hS0
  clear hS0 hHeld
  refine wpAnyH_ready (rs := [12]) (by kernel_rfl) (by simp) (AllReadyH.cons rfl (fun K1 hK1 => ?_) AllReadyH.nil)
  go_simp
  have hSB : StrsAt (y.alloc (.cells #[.string (S.extract 0 K), .string (S.extract K S.size)] 9)).drew (some ⟨y.heap.size, 0, none⟩) [S.extract 0 K, S.extract K S.size] := by
    refine .inr ⟨y.heap.size, 0, rfl, by show y.heap.size < (y.alloc (.cells #[.string (S.extract 0 K), .string (S.extract K S.size)] 9)).heap.size; simp, fun i hi => ?_⟩
    show (y.alloc (.cells #[.string (S.extract 0 K), .string (S.extract K S.size)] 9)).cell? _ = _
    rw [(cell_blk (heap_new y _) _).1, Nat.zero_add]
    have : i = 0 ∨ i = 1 := by simp at hi; omega
    rcases this with rfl | rfl <;> rfl
  have hD1 : DvS Wb E A b cap va vs s s d at_ fr n x S w0 (y.alloc (.cells #[.string (S.extract 0 K), .string (S.extract K S.size)] 9)).drew := HY.out.below (bel1 y (.cells #[.string (S.extract 0 K), .string (S.extract K S.size)] 9)).drew
  obtain ⟨x1, hx1⟩ : ∃ x1, (y.alloc (.cells #[.string (S.extract 0 K), .string (S.extract K S.size)] 9)).drew = x1 := ⟨_, rfl⟩
  rw [hx1] at hSB hD1 ⊢
  have HD1 := Lib.hid hD1
  have HSB := Lib.hid hSB
  clear hx1 hSB hD1 HD HY
  refine hK1.out _ _ ⟨_, HD1.out⟩ (fun hHeld => ?_)
  clear hK1
  try simp only [Act.put, List.getElem_toArray, List.getElem_cons_zero, List.getElem_cons_succ, List.setIfInBounds_toArray, List.set_cons_zero, List.set_cons_succ]
  clear hHeld
  refine wpAnyH_ready (rs := [13]) (by kernel_rfl) (by simp) (AllReadyH.cons rfl (fun K1 hK1 => ?_) AllReadyH.nil)
  go_simp
  refine (HPC.out _ _ HD1.out.x HSB.out).mono ?_
  rintro e w2 ⟨rfl, hx, hg⟩
  have HD2 := Lib.hid (HD1.out.went hx hg)
  clear hx hg
  refine hK1.out _ _ ⟨_, HD2.out⟩ (fun hHeld => ?_)
  clear hK1
  try simp only [Act.put, List.getElem_toArray, List.getElem_cons_zero, List.getElem_cons_succ, List.setIfInBounds_toArray, List.set_cons_zero, List.set_cons_succ]
  refine wpAnyH_take (i := 14) (v := (.int .i64 er)) rfl (by kernel_rfl) (by kernel_rfl) (by kernel_rfl) (fun _ _ _ h => h) (Or.inl ⟨by rfl, fun X hS => ?_⟩) hHeld ?_
  · obtain ⟨s9x, hs9x⟩ := hS
    obtain ⟨⟨s1, s2, s3, s4, s5, s6, s7, s8⟩, ⟨t1, t2, t3, t4, t5, t6⟩, f4, f5⟩ := hs9x.all
    go_simp
  try simp only [Act.put, List.getElem_toArray, List.getElem_cons_zero, List.getElem_cons_succ, List.setIfInBounds_toArray, List.set_cons_zero, List.set_cons_succ]
  clear hHeld
  refine wpAnyH_done (by kernel_rfl) ?_ _
  go_upto_region 5 with fail
  have hS0 := HD2.out.below (Below.refl w2.heap.size w2).drew
  clear HD2 HD1
  refine wp_region_held_drew (S := fun X => (X.cell? ⟨E, 0, none⟩ = some (.int .u8 d) ∧ X.cell? ⟨E, 1, none⟩ = some (.int .i64 at_) ∧ X.cell? ⟨E, 2, none⟩ = some (.int .i64 fr) ∧ X.cell? ⟨E, 3, none⟩ = some (.int .i64 n) ∧ X.cell? ⟨E, 4, none⟩ = some (.int .u64 x) ∧ X.cell? ⟨E, 5, none⟩ = some (.string S)) ∧ X.cell? ⟨Wb, 6, none⟩ = some (.int .i64 (va : Int)) ∧ X.cell? ⟨Wb, 7, none⟩ = some (.int .i64 (vs : Int))) (by kernel_rfl) hS0.dd (fun hHeld => ?_)
  refine wpAnyH_take (i := 0) (v := (.pointer (some ⟨Wb, 0, none⟩))) rfl (by kernel_rfl) (by kernel_rfl) (by kernel_rfl) (fun _ _ _ h => h) (Or.inl ⟨by rfl, fun X hS => ?_⟩) hHeld ?_
  · obtain ⟨⟨t1, t2, t3, t4, t5, t6⟩, s7, s8⟩ := hS
    go_simp
  try simp only [Act.put, List.getElem_toArray, List.getElem_cons_zero, List.getElem_cons_succ, List.setIfInBounds_toArray, List.set_cons_zero, List.set_cons_succ]
  refine wpAnyH_take (i := 1) (v := (.pointer (some ⟨Wb, 0, none⟩))) rfl (by kernel_rfl) (by kernel_rfl) (by kernel_rfl) (fun _ _ _ h => h) (Or.inl ⟨by rfl, fun X hS => ?_⟩) hHeld ?_
  · obtain ⟨⟨t1, t2, t3, t4, t5, t6⟩, s7, s8⟩ := hS
    go_simp
  try simp only [Act.put, List.getElem_toArray, List.getElem_cons_zero, List.getElem_cons_succ, List.setIfInBounds_toArray, List.set_cons_zero, List.set_cons_succ]
  refine wpAnyH_take (i := 2) (v := (.pointer (some ⟨Wb, 0, none⟩))) rfl (by kernel_rfl) (by kernel_rfl) (by kernel_rfl) (fun _ _ _ h => h) (Or.inl ⟨by rfl, fun X hS => ?_⟩) hHeld ?_
  · obtain ⟨⟨t1, t2, t3, t4, t5, t6⟩, s7, s8⟩ := hS
    go_simp
  try simp only [Act.put, List.getElem_toArray, List.getElem_cons_zero, List.getElem_cons_succ, List.setIfInBounds_toArray, List.set_cons_zero, List.set_cons_succ]
  refine wpAnyH_take (i := 3) (v := (.pointer (some ⟨Wb, 4, none⟩))) rfl (by kernel_rfl) (by kernel_rfl) (by kernel_rfl) (fun _ _ _ h => h) (Or.inl ⟨by rfl, fun X hS => ?_⟩) hHeld ?_
  · obtain ⟨⟨t1, t2, t3, t4, t5, t6⟩, s7, s8⟩ := hS
    go_simp
  try simp only [Act.put, List.getElem_toArray, List.getElem_cons_zero, List.getElem_cons_succ, List.setIfInBounds_toArray, List.set_cons_zero, List.set_cons_succ]
  refine wpAnyH_take (i := 5) (v := (.pointer (some ⟨Wb, 0, none⟩))) rfl (by kernel_rfl) (by kernel_rfl) (by kernel_rfl) (fun _ _ _ h => h) (Or.inl ⟨by rfl, fun X hS => ?_⟩) hHeld ?_
  · obtain ⟨⟨t1, t2, t3, t4, t5, t6⟩, s7, s8⟩ := hS
    go_simp
  try simp only [Act.put, List.getElem_toArray, List.getElem_cons_zero, List.getElem_cons_succ, List.setIfInBounds_toArray, List.set_cons_zero, List.set_cons_succ]
  refine wpAnyH_take (i := 6) (v := (.pointer (some ⟨Wb, 0, none⟩))) rfl (by kernel_rfl) (by kernel_rfl) (by kernel_rfl) (fun _ _ _ h => h) (Or.inl ⟨by rfl, fun X hS => ?_⟩) hHeld ?_
  · obtain ⟨⟨t1, t2, t3, t4, t5, t6⟩, s7, s8⟩ := hS
    go_simp
  try simp only [Act.put, List.getElem_toArray, List.getElem_cons_zero, List.getElem_cons_succ, List.setIfInBounds_toArray, List.set_cons_zero, List.set_cons_succ]
  refine wpAnyH_take (i := 7) (v := (.pointer (some ⟨Wb, 6, none⟩))) rfl (by kernel_rfl) (by kernel_rfl) (by kernel_rfl) (fun _ _ _ h => h) (Or.inl ⟨by rfl, fun X hS => ?_⟩) hHeld ?_
  · obtain ⟨⟨t1, t2, t3, t4, t5, t6⟩, s7, s8⟩ := hS
    go_simp
  try simp only [Act.put, List.getElem_toArray, List.getElem_cons_zero, List.getElem_cons_succ, List.setIfInBounds_toArray, List.set_cons_zero, List.set_cons_succ]
  refine wpAnyH_take (i := 8) (v := (.agg #[.int .i64 (va : Int), .int .i64 (vs : Int)])) rfl (by kernel_rfl) (by kernel_rfl) (by kernel_rfl) (fun _ _ _ h => h) (Or.inl ⟨by rfl, fun X hS => ?_⟩) hHeld ?_
  · obtain ⟨⟨t1, t2, t3, t4, t5, t6⟩, s7, s8⟩ := hS
    go_simp
  try simp only [Act.put, List.getElem_toArray, List.getElem_cons_zero, List.getElem_cons_succ, List.setIfInBounds_toArray, List.set_cons_zero, List.set_cons_succ]
  refine wpAnyH_take (i := 9) (v := (.pointer (some ⟨E, 5, none⟩))) rfl (by kernel_rfl) (by kernel_rfl) (by kernel_rfl) (fun _ _ _ h => h) (Or.inl ⟨by rfl, fun X hS => ?_⟩) hHeld ?_
  · obtain ⟨⟨t1, t2, t3, t4, t5, t6⟩, s7, s8⟩ := hS
    go_simp
  try simp only [Act.put, List.getElem_toArray, List.getElem_cons_zero, List.getElem_cons_succ, List.setIfInBounds_toArray, List.set_cons_zero, List.set_cons_succ]
  refine wpAnyH_take (i := 10) (v := (.string S)) rfl (by kernel_rfl) (by kernel_rfl) (by kernel_rfl) (fun _ _ _ h => h) (Or.inl ⟨by rfl, fun X hS => ?_⟩) hHeld ?_
  · obtain ⟨⟨t1, t2, t3, t4, t5, t6⟩, s7, s8⟩ := hS
    go_simp
  try simp only [Act.put, List.getElem_toArray, List.getElem_cons_zero, List.getElem_cons_succ, List.setIfInBounds_toArray, List.set_cons_zero, List.set_cons_succ]
  have HD := Lib.hid hS0
  clear hS0 hHeld
  refine wpAnyH_ready (rs := [4]) (by kernel_rfl) (by simp) (AllReadyH.cons rfl (fun K1 hK1 => ?_) AllReadyH.nil)
  obtain ⟨⟨s1, s2, s3, s4, s5, s6, s7, s8⟩, ⟨t1, t2, t3, t4, t5, t6⟩, f4, f5⟩ := HD.out.all
  go_simp
  clear s1 s2 s3 s4 s5 s6 s7 s8 t1 t2 t3 t4 t5 t6 f4 f5
  refine hK1.out _ _ HD.out.dd (fun hHeld => ?_)
  clear hK1
  try simp only [Act.put, List.getElem_toArray, List.getElem_cons_zero, List.getElem_cons_succ, List.setIfInBounds_toArray, List.set_cons_zero, List.set_cons_succ]
  clear hHeld
  refine wpAnyH_ready (rs := [11]) (by kernel_rfl) (by simp) (AllReadyH.cons rfl (fun K1 hK1 => ?_) AllReadyH.nil)
  go_simp
  refine (HDC.out _ HD.out.d).mono ?_
  rintro e w3 ⟨b2, cap2, rfl, hd2, hb⟩
  have HD3 := Lib.hid (HD.out.below hb)
  have HD4 := Lib.hid (HD3.out.put (cap2 := cap2) hd2)
  rw [HRS.out] at HD4
  clear hd2 hb
  refine hK1.out _ _ HD3.out.dd (fun hHeld => ?_)
  clear hK1
  try simp only [Act.put, List.getElem_toArray, List.getElem_cons_zero, List.getElem_cons_succ, List.setIfInBounds_toArray, List.set_cons_zero, List.set_cons_succ]
  refine wpAnyH_take (i := 12) (v := (.tuple #[.agg #[.slice (some ⟨b2, 0, none⟩) s'.L cap2, .int .i64 (refR s)], .int .i64 er])) rfl (by kernel_rfl) (by kernel_rfl) (by kernel_rfl) (fun _ _ _ h => h) (Or.inl ⟨by rfl, fun X hS => ?_⟩) hHeld ?_
  · obtain ⟨⟨t1, t2, t3, t4, t5, t6⟩, s7, s8⟩ := hS
    go_simp
  try simp only [Act.put, List.getElem_toArray, List.getElem_cons_zero, List.getElem_cons_succ, List.setIfInBounds_toArray, List.set_cons_zero, List.set_cons_succ]
  refine wpAnyH_take (i := 13) (v := (.agg #[.slice (some ⟨b2, 0, none⟩) s'.L cap2, .int .i64 (refR s)])) rfl (by kernel_rfl) (by kernel_rfl) (by kernel_rfl) (fun _ _ _ h => h) (Or.inl ⟨by rfl, fun X hS => ?_⟩) hHeld ?_
  · obtain ⟨⟨t1, t2, t3, t4, t5, t6⟩, s7, s8⟩ := hS
    go_simp
  try simp only [Act.put, List.getElem_toArray, List.getElem_cons_zero, List.getElem_cons_succ, List.setIfInBounds_toArray, List.set_cons_zero, List.set_cons_succ]
  refine wpAnyH_take (i := 14) (v := (.int .i64 er)) rfl (by kernel_rfl) (by kernel_rfl) (by kernel_rfl) (fun _ _ _ h => h) (Or.inl ⟨by rfl, fun X hS => ?_⟩) hHeld ?_
  · obtain ⟨⟨t1, t2, t3, t4, t5, t6⟩, s7, s8⟩ := hS
    go_simp
  try simp only [Act.put, List.getElem_toArray, List.getElem_cons_zero, List.getElem_cons_succ, List.setIfInBounds_toArray, List.set_cons_zero, List.set_cons_succ]
  refine wpAnyH_take (i := 15) (v := (.pointer (some ⟨Wb, 0, none⟩))) rfl (by kernel_rfl) (by kernel_rfl) (by kernel_rfl) (fun _ _ _ h => h) (Or.inl ⟨by rfl, fun X hS => ?_⟩) hHeld ?_
  · obtain ⟨⟨t1, t2, t3, t4, t5, t6⟩, s7, s8⟩ := hS
    go_simp
  try simp only [Act.put, List.getElem_toArray, List.getElem_cons_zero, List.getElem_cons_succ, List.setIfInBounds_toArray, List.set_cons_zero, List.set_cons_succ]
  refine wpAnyH_take (i := 16) (v := (.pointer (some ⟨Wb, 4, none⟩))) rfl (by kernel_rfl) (by kernel_rfl) (by kernel_rfl) (fun _ _ _ h => h) (Or.inl ⟨by rfl, fun X hS => ?_⟩) hHeld ?_
  · obtain ⟨⟨t1, t2, t3, t4, t5, t6⟩, s7, s8⟩ := hS
    go_simp
  try simp only [Act.put, List.getElem_toArray, List.getElem_cons_zero, List.getElem_cons_succ, List.setIfInBounds_toArray, List.set_cons_zero, List.set_cons_succ]
  clear hHeld
  obtain ⟨⟨s1, s2, s3, s4, s5, s6, s7, s8⟩, ⟨t1, t2, t3, t4, t5, t6⟩, f4, f5⟩ := HD3.out.all
  refine wpAnyH_ready (rs := [17]) (by kernel_rfl) (by simp) (AllReadyH.cons rfl (fun K1 hK1 => ?_) AllReadyH.nil)
  go_simp
  refine hK1.out _ _ HD4.out.dd (fun hHeld => ?_)
  clear hK1
  try simp only [Act.put, List.getElem_toArray, List.getElem_cons_zero, List.getElem_cons_succ, List.setIfInBounds_toArray, List.set_cons_zero, List.set_cons_succ]
  clear s1 s2 s3 s4 s5 s6 s7 s8 t1 t2 t3 t4 t5 t6 f4 f5
  refine wpAnyH_take (i := 18) (v := (.int .i64 er)) rfl (by kernel_rfl) (by kernel_rfl) (by kernel_rfl) (fun _ _ _ h => h) (Or.inl ⟨by rfl, fun X hS => ?_⟩) hHeld ?_
  · obtain ⟨⟨t1, t2, t3, t4, t5, t6⟩, s7, s8⟩ := hS
    go_simp
  try simp only [Act.put, List.getElem_toArray, List.getElem_cons_zero, List.getElem_cons_succ, List.setIfInBounds_toArray, List.set_cons_zero, List.set_cons_succ]
  clear hHeld
  refine wpAnyH_done (by kernel_rfl) ?_ _
  have hee : (er == er) = true := by simp
  go_wp2_with fail
  go_ret
  exact ⟨b2, cap2, va, vs, s', rfl, HSL.out, HD4.out.fin⟩
end Go.Proofs.Ytdmaendhkenmgaa.Bt
/- The document's views: Part. (Written by gen_dvd.py.) -/
namespace Go.Proofs.Ytdmaendhkenmgaa.Bt
open Go Go.RowKit Go.Shelf
set_option linter.unusedVariables false
set_option linter.unusedSimpArgs false

/-- with the variable of a result that is a view -/
structure RvP (V b L cap : Nat) (r : Int) (va vs : Nat) (gs : List ByteArray) (w X : World) : Prop where
  s : RvS V b L cap r va vs gs w X
  o : X.heap[V + 2]? = some (.cells #[.int .i64 0, .int .i64 0] 61 (0, 0))
  hV : w.heap.size ≤ V
theorem RvP.below {V b L cap : Nat} {r : Int} {va vs : Nat} {gs : List ByteArray} {w X Y : World} (h : RvP V b L cap r va vs gs w X) (hb : Below X.heap.size X Y) : RvP V b L cap r va vs gs w Y :=
  ⟨h.s.below hb, blk_at hb h.o, h.hV⟩
theorem RvP.start {b L cap : Nat} {r : Int} {va vs : Nat} {gs : List ByteArray} {w : World} (hb : DocB b gs w) (hL : gs.length = L) :
    RvP w.heap.size b L cap r va vs gs w (((w.alloc (.cells #[.slice (some ⟨b, 0, none⟩) L cap, .int .i64 r] 30)).alloc (.cells #[.int .i64 (va : Int), .int .i64 (vs : Int)] 61)).alloc (.cells #[.int .i64 0, .int .i64 0] 61)) := by
  have h := RvS.start hb (cap := cap) (r := r) (va := va) (vs := vs) hL
  have hn := heap_new ((w.alloc (.cells #[.slice (some ⟨b, 0, none⟩) L cap, .int .i64 r] 30)).alloc (.cells #[.int .i64 (va : Int), .int .i64 (vs : Int)] 61)) (.cells #[.int .i64 0, .int .i64 0] 61)
  have hsz : ((w.alloc (.cells #[.slice (some ⟨b, 0, none⟩) L cap, .int .i64 r] 30)).alloc (.cells #[.int .i64 (va : Int), .int .i64 (vs : Int)] 61)).heap.size = w.heap.size + 2 := by simp
  rw [hsz] at hn
  exact ⟨h.below (bel1 _ _), hn, Nat.le_refl _⟩
theorem RvP.all {V b L cap : Nat} {r : Int} {va vs : Nat} {gs : List ByteArray} {w X : World} (h : RvP V b L cap r va vs gs w X) : ((X.cell? ⟨V, 0, none⟩ = some (.slice (some ⟨b, 0, none⟩) L cap) ∧ X.cell? ⟨V, 1, none⟩ = some (.int .i64 r)) ∧ X.cell? ⟨V + 1, 0, none⟩ = some (.int .i64 (va : Int)) ∧ X.cell? ⟨V + 1, 1, none⟩ = some (.int .i64 (vs : Int))) ∧
    X.cell? ⟨V + 2, 0, none⟩ = some (.int .i64 0) ∧ X.cell? ⟨V + 2, 1, none⟩ = some (.int .i64 0) ∧ X.frozen? ⟨V + 2, 0, none⟩ = false ∧ X.frozen? ⟨V + 2, 1, none⟩ = false :=
  ⟨h.s.all, (cell_blk h.o 0).1, (cell_blk h.o 1).1, (cell_blk h.o 0).2, (cell_blk h.o 1).2⟩
theorem RvP.out {V b L cap : Nat} {r : Int} {va vs : Nat} {gs : List ByteArray} {w X : World} (h : RvP V b L cap r va vs gs w X) (u v : Value) :
    ((X.setCell ⟨V + 2, 0, none⟩ u).setCell ⟨V + 2, 1, none⟩ v).cell? ⟨V + 2, 0, none⟩ = some u ∧ ((X.setCell ⟨V + 2, 0, none⟩ u).setCell ⟨V + 2, 1, none⟩ v).cell? ⟨V + 2, 1, none⟩ = some v ∧
    Below w.heap.size w ((X.setCell ⟨V + 2, 0, none⟩ u).setCell ⟨V + 2, 1, none⟩ v) := by
  have h2 := heap_set (heap_set h.o u (o := 0)) v (o := 1)
  refine ⟨(cell_blk h2 0).1, (cell_blk h2 1).1, ?_⟩
  have := h.hV
  exact (h.s.bl.setCell (p := ⟨V + 2, 0, none⟩) (by show w.heap.size ≤ V + 2; omega) u).setCell (p := ⟨V + 2, 1, none⟩) (by show w.heap.size ≤ V + 2; omega) v
section
variable {s : ASt} {b cap : Nat} {w : World} {va vs : Nat}
set_option maxRecDepth 100000 in
theorem rv_part_no (g : Good s.L s.es) (hL8 : s.L ≤ 8) (hva : va ≤ 4294967296) (hvs : vs ≤ 4294967296) (r a n : Int) (ha : -9223372036854775808 ≤ a ∧ a ≤ 9223372036854775807) (hn : -9223372036854775808 ≤ n ∧ n ≤ 9223372036854775807) (hb : DocB b (gS s) w) (hw : wiB s va vs a n = false) :
    Calls Try.prog 73 #[.agg #[.slice (some ⟨b, 0, none⟩) s.L cap, .int .i64 r], .agg #[.int .i64 (va : Int), .int .i64 (vs : Int)], .int .i64 a, .int .i64 n] w (Gives (.tuple #[.agg #[.int .i64 0, .int .i64 0], .int .i64 3]) w) := by
  have HW := Lib.hid (fun (y : World) (hy : DocB b (gS s) y) => rv_within (cap := cap) g hL8 hva hvs r a n ha hn hy)
  obtain ⟨L, hLL⟩ : ∃ L, (gS s).length = L := ⟨_, rfl⟩
  have hls : s.L = L := by rw [← hLL, gS_len]
  rw [hw, hls] at HW
  rw [hls]
  clear hw hls g hL8 ha hn
  have hst := RvP.start hb (cap := cap) (r := r) (va := va) (vs := vs) (w := w) hLL
  go_enter Try.func73, Try.ntmps73
  go_upto_region 1 with fail
  change Code.wp _ _ _ _ (((w.alloc (.cells #[.slice (some ⟨b, 0, none⟩) L cap, .int .i64 r] 30)).alloc (.cells #[.int .i64 (va : Int), .int .i64 (vs : Int)] 61)).alloc (.cells #[.int .i64 0, .int .i64 0] 61))
  try simp only [World.size_alloc]
  obtain ⟨y, hy⟩ : ∃ y, (((w.alloc (.cells #[.slice (some ⟨b, 0, none⟩) L cap, .int .i64 r] 30)).alloc (.cells #[.int .i64 (va : Int), .int .i64 (vs : Int)] 61)).alloc (.cells #[.int .i64 0, .int .i64 0] 61)) = y := ⟨_, rfl⟩
  obtain ⟨V, hV⟩ : ∃ V, w.heap.size = V := ⟨_, rfl⟩
  rw [hy, hV] at hst
  rw [hy, hV]
  have HS := Lib.hid hst
  have HVV := Lib.hid hV
  clear hst hy hV
  obtain ⟨⟨⟨c0, c1⟩, c2, c3⟩, c4, c5, f4, f5⟩ := HS.out.all
  go_wp2_with fail
  refine (HW.out _ HS.out.s.d).mono ?_
  rintro e w1 ⟨rfl, hb1⟩
  have HS1 := Lib.hid (HS.out.below hb1)
  clear hb1 HS c0 c1 c2 c3 c4 c5 f4 f5
  obtain ⟨⟨⟨c0, c1⟩, c2, c3⟩, c4, c5, f4, f5⟩ := HS1.out.all
  go_wp2_with fail
  obtain ⟨z0, z1, zb⟩ := HS1.out.out (.int .i64 0) (.int .i64 0)
  exact bodyPost_ret (v := .tuple #[.agg #[.int .i64 0, .int .i64 0], .int .i64 3]) (by simp [results, Try.results73, go_sem, z0, z1]) rfl ⟨rfl, zb⟩
set_option maxRecDepth 100000 in
theorem rv_part_yes (g : Good s.L s.es) (hL8 : s.L ≤ 8) (hva : va ≤ 4294967296) (hvs : vs ≤ 4294967296) (r a n : Int) (ha : -9223372036854775808 ≤ a ∧ a ≤ 9223372036854775807) (hn : -9223372036854775808 ≤ n ∧ n ≤ 9223372036854775807) (hb : DocB b (gS s) w) (hw : wiB s va vs a n = true) :
    Calls Try.prog 73 #[.agg #[.slice (some ⟨b, 0, none⟩) s.L cap, .int .i64 r], .agg #[.int .i64 (va : Int), .int .i64 (vs : Int)], .int .i64 a, .int .i64 n] w (Gives (.tuple #[.agg #[.int .i64 ((va : Int) + a), .int .i64 n], .int .i64 0]) w) := by
  have HW := Lib.hid (fun (y : World) (hy : DocB b (gS s) y) => rv_within (cap := cap) g hL8 hva hvs r a n ha hn hy)
  have hin := wi_true g hw
  have q2 : wrap64 ((va : Int) + a) = (va : Int) + a := IntWalk.wrap64_in _ ⟨by omega, by omega⟩
  obtain ⟨P, hP⟩ : ∃ P, (va : Int) + a = P := ⟨_, rfl⟩
  replace q2 : wrap64 ((va : Int) + a) = P := q2.trans hP
  rw [hP]
  obtain ⟨L, hLL⟩ : ∃ L, (gS s).length = L := ⟨_, rfl⟩
  have hls : s.L = L := by rw [← hLL, gS_len]
  rw [hw, hls] at HW
  rw [hls]
  clear hw hls g hL8 ha hn hin hP hva hvs
  have hst := RvP.start hb (cap := cap) (r := r) (va := va) (vs := vs) (w := w) hLL
  go_enter Try.func73, Try.ntmps73
  go_upto_region 1 with fail
  change Code.wp _ _ _ _ (((w.alloc (.cells #[.slice (some ⟨b, 0, none⟩) L cap, .int .i64 r] 30)).alloc (.cells #[.int .i64 (va : Int), .int .i64 (vs : Int)] 61)).alloc (.cells #[.int .i64 0, .int .i64 0] 61))
  try simp only [World.size_alloc]
  obtain ⟨y, hy⟩ : ∃ y, (((w.alloc (.cells #[.slice (some ⟨b, 0, none⟩) L cap, .int .i64 r] 30)).alloc (.cells #[.int .i64 (va : Int), .int .i64 (vs : Int)] 61)).alloc (.cells #[.int .i64 0, .int .i64 0] 61)) = y := ⟨_, rfl⟩
  obtain ⟨V, hV⟩ : ∃ V, w.heap.size = V := ⟨_, rfl⟩
  rw [hy, hV] at hst
  rw [hy, hV]
  have HS := Lib.hid hst
  have HVV := Lib.hid hV
  clear hst hy hV
  obtain ⟨⟨⟨c0, c1⟩, c2, c3⟩, c4, c5, f4, f5⟩ := HS.out.all
  go_wp2_with fail
  refine (HW.out _ HS.out.s.d).mono ?_
  rintro e w1 ⟨rfl, hb1⟩
  have HS1 := Lib.hid (HS.out.below hb1)
  clear hb1 HS c0 c1 c2 c3 c4 c5 f4 f5
  obtain ⟨⟨⟨c0, c1⟩, c2, c3⟩, c4, c5, f4, f5⟩ := HS1.out.all
  go_wp2_with fail
  obtain ⟨z0, z1, zb⟩ := HS1.out.out (.int .i64 P) (.int .i64 n)
  exact bodyPost_ret (v := .tuple #[.agg #[.int .i64 P, .int .i64 n], .int .i64 0]) (by simp [results, Try.results73, go_sem, z0, z1]) rfl ⟨rfl, zb⟩
end
end Go.Proofs.Ytdmaendhkenmgaa.Bt
/- A view: where it begins. -/
namespace Go.Proofs.Ytdmaendhkenmgaa.Bt
open Go Go.RowKit Go.Shelf
set_option linter.unusedVariables false

theorem vat_any (pa : Option Addr) (va vs : Nat) (w : World) : Calls Try.prog 27 #[.agg #[.pointer pa, .int .i64 (va : Int), .int .i64 (vs : Int)]] w fun e w' => e = .returned (.int .i64 (va : Int)) ∧ Below w.heap.size w w' := by
  go_enter Try.func27, Try.ntmps27
  go_wp2_with fail
  go_ret
  exact ⟨rfl, (Below.refl _ _).alloc (Nat.le_refl _) _⟩
end Go.Proofs.Ytdmaendhkenmgaa.Bt
/- law04's do: Part. (Written by gen_dve.py.) -/
namespace Go.Proofs.Ytdmaendhkenmgaa.Bt
open Go Go.RowKit Go.Shelf
set_option linter.unusedVariables false
set_option linter.unusedSimpArgs false

/-- the variables of the parts, the program's and the document's -/
def PtT (T : Nat) (pp : Option Addr) (pa pn : Int) (X : World) : Prop := X.heap[T]? = some (.cells #[.pointer pp, .int .i64 pa, .int .i64 pn] 55 (0, 0))
def PtU (U : Nat) (pa pn : Int) (X : World) : Prop := X.heap[U]? = some (.cells #[.int .i64 pa, .int .i64 pn] 61 (0, 0))
def PtS (T U : Nat) (pp : Option Addr) (pa pn qa qn : Int) (X : World) : Prop :=
  (X.cell? ⟨T, 0, none⟩ = some (.pointer pp) ∧ X.cell? ⟨T, 1, none⟩ = some (.int .i64 pa) ∧ X.cell? ⟨T, 2, none⟩ = some (.int .i64 pn)) ∧ (X.cell? ⟨U, 0, none⟩ = some (.int .i64 qa) ∧ X.cell? ⟨U, 1, none⟩ = some (.int .i64 qn)) ∧ PtT T pp pa pn X ∧ PtU U qa qn X
theorem pts_mk {T U : Nat} {pp : Option Addr} {pa pn qa qn : Int} {X : World} (h : PtT T pp pa pn X) (k : PtU U qa qn X) : PtS T U pp pa pn qa qn X := ⟨⟨(cell_blk h 0).1, (cell_blk h 1).1, (cell_blk h 2).1⟩, ⟨(cell_blk k 0).1, (cell_blk k 1).1⟩, h, k⟩
theorem PtS.below {T U : Nat} {pp : Option Addr} {pa pn qa qn : Int} {X Y : World} (h : PtS T U pp pa pn qa qn X) (hb : Below X.heap.size X Y) : PtS T U pp pa pn qa qn Y := pts_mk (blk_at hb h.2.2.1) (blk_at hb h.2.2.2)
section
variable {Wb E A b cap va vs : Nat} {s t : ASt} {d at_ fr n x : Int} {S : ByteArray} {w0 X Y : World}
/-- a store in a block of its own -/
theorem DvS.far (h : DvS Wb E A b cap va vs s t d at_ fr n x S w0 X) {T : Nat} (n1 : Wb ≠ T) (n2 : E ≠ T) (n3 : b ≠ T) (hm : Mine A T X) (h0 : w0.heap.size ≤ T) (o : Nat) (v : Value) :
    DvS Wb E A b cap va vs s t d at_ fr n x S w0 (X.setCell ⟨T, o, none⟩ v) :=
  ⟨(heap_far_one n1 _).trans h.w, (heap_far_one n2 _).trans h.e, h.x.set hm o v, (heap_far_one n3 _).trans h.d, Mine.set h.x hm h.m o v, h.bs.set h.x hm h0 o v, h.ws, h.ne, h.hva, h.hvs⟩
theorem DvS.far3 (h : DvS Wb E A b cap va vs s t d at_ fr n x S w0 X) {T : Nat} (hT : PtT T none 0 0 X) (hm : Mine A T X) (h0 : w0.heap.size ≤ T) (pp : Option Addr) (pa pn : Int) :
    DvS Wb E A b cap va vs s t d at_ fr n x S w0 (((X.setCell ⟨T, 0, none⟩ (.pointer pp)).setCell ⟨T, 1, none⟩ (.int .i64 pa)).setCell ⟨T, 2, none⟩ (.int .i64 pn)) ∧
    PtT T pp pa pn (((X.setCell ⟨T, 0, none⟩ (.pointer pp)).setCell ⟨T, 1, none⟩ (.int .i64 pa)).setCell ⟨T, 2, none⟩ (.int .i64 pn)) := by
  have n1 : Wb ≠ T := heap_neD h.w hT (by decide)
  have n2 : E ≠ T := heap_neD h.e hT (by decide)
  have n3 : b ≠ T := heap_neD h.d hT (by decide)
  have m1 := Mine.set h.x hm hm 0 (.pointer pp)
  have k1 := h.far n1 n2 n3 hm h0 0 (.pointer pp)
  have m2 := Mine.set k1.x m1 m1 1 (.int .i64 pa)
  have k2 := k1.far n1 n2 n3 m1 h0 1 (.int .i64 pa)
  exact ⟨k2.far n1 n2 n3 m2 h0 2 _, three_set hT rfl _ _ _⟩
theorem DvS.far2 (h : DvS Wb E A b cap va vs s t d at_ fr n x S w0 X) {T U : Nat} {pp : Option Addr} {pa pn : Int} (hT : PtT T pp pa pn X) (hU : PtU U 0 0 X) (hm : Mine A U X) (h0 : w0.heap.size ≤ U) (qa qn : Int) :
    DvS Wb E A b cap va vs s t d at_ fr n x S w0 ((X.setCell ⟨U, 0, none⟩ (.int .i64 qa)).setCell ⟨U, 1, none⟩ (.int .i64 qn)) ∧
    PtT T pp pa pn ((X.setCell ⟨U, 0, none⟩ (.int .i64 qa)).setCell ⟨U, 1, none⟩ (.int .i64 qn)) ∧ PtU U qa qn ((X.setCell ⟨U, 0, none⟩ (.int .i64 qa)).setCell ⟨U, 1, none⟩ (.int .i64 qn)) := by
  have n1 : Wb ≠ U := heap_neD h.w hU (by decide)
  have n2 : E ≠ U := heap_neD h.e hU (by decide)
  have n3 : b ≠ U := heap_neD h.d hU (by decide)
  have n4 : T ≠ U := heap_neD hT hU (by decide)
  have m1 := Mine.set h.x hm hm 0 (.int .i64 qa)
  have k1 := h.far n1 n2 n3 hm h0 0 (.int .i64 qa)
  exact ⟨k1.far n1 n2 n3 m1 h0 1 _, (heap_far_one n4 _).trans ((heap_far_one n4 _).trans hT), heap_set (heap_set hU _) _⟩
end
def Pt7 (Wb E A b cap va vs : Nat) (s : ASt) (d at_ fr n x : Int) (S : ByteArray) (w0 : World) (pp : Option Addr) (pa pn er : Int) (s7 s8 : Value) (X : World) : Prop :=
  ∃ T, s7 = .pointer (some ⟨T, 0, none⟩) ∧ s8 = .int .i64 er ∧ DvS Wb E A b cap va vs s s d at_ fr n x S w0 X ∧ PtT T pp pa pn X
def Pt8 (Wb E A b cap va vs T : Nat) (s : ASt) (d at_ fr n x : Int) (S : ByteArray) (w0 : World) (pp : Option Addr) (pa pn qa qn er : Int) (s9 s10 : Value) (X : World) : Prop :=
  ∃ U, s9 = .pointer (some ⟨U, 0, none⟩) ∧ s10 = .int .i64 er ∧ DvS Wb E A b cap va vs s s d at_ fr n x S w0 X ∧ PtT T pp pa pn X ∧ PtU U qa qn X
set_option maxHeartbeats 8000000 in
set_option maxRecDepth 100000 in
theorem dvo_part_no {Wb A b cap va vs : Nat} {s : ASt} {d at_ fr n x : Int} {S : ByteArray} {w0 w : World} (h : DvW Wb A b cap va vs s w0 w) (hL : s.L ≤ 8) (hd : d.tmod 10 = 0) (hd0 : 0 ≤ d ∧ d ≤ 255) (ha : -9223372036854775808 ≤ at_ ∧ at_ ≤ 9223372036854775807) (hf : -9223372036854775808 ≤ fr ∧ fr ≤ 9223372036854775807) (hn : -9223372036854775808 ≤ n ∧ n ≤ 9223372036854775807) (hx : 0 ≤ x ∧ x < 18446744073709551616) (hS : S.size ≤ 9223372036854775807) (hw : wiB s va vs at_ n = false) :
    Calls Try.prog 28 #[.pointer (some ⟨Wb, 0, none⟩), .agg #[.int .u8 d, .int .i64 at_, .int .i64 fr, .int .i64 n, .int .u64 x, .string S]] w (DvP Wb A s.L w0) := by
  have hv1 := h.hva
  have hv2 := h.hvs
  have hE3 : thereE s.L s.es (addrV va vs at_ n) n = 3 := by rw [wi_thereE, hw]; rfl
  have HPC := Lib.hid (fun (y : World) (hy : On A s y) => on_part hy va vs hv1 hv2 at_ n (by omega))
  rw [hE3, show ofV (some ⟨A, 0, none⟩) (addrV va vs at_ n) n 3 = .agg #[.pointer none, .int .i64 0, .int .i64 0] from rfl] at HPC
  have HDC := Lib.hid (fun (y : World) (hy : DocB b (gS s) y) => rv_part_no (cap := cap) h.x.good hL hv1 hv2 (refR s) at_ n ha hn hy hw)
  clear hE3 hf hn hx hS hv1 hv2 hw
  have hE := heap_new w (.cells #[.int .u8 d, .int .i64 at_, .int .i64 fr, .int .i64 n, .int .u64 x, .string S] 36)
  have hb0 := bel1 w (.cells #[.int .u8 d, .int .i64 at_, .int .i64 fr, .int .i64 n, .int .u64 x, .string S] 36)
  have hds := h.start hE hb0
  clear hE hb0
  go_enter Try.func28, Try.ntmps28
  go_upto_region 1 with fail
  change Code.wp _ _ _ _ (w.alloc (.cells #[.int .u8 d, .int .i64 at_, .int .i64 fr, .int .i64 n, .int .u64 x, .string S] 36))
  obtain ⟨y, hy⟩ : ∃ y, w.alloc (.cells #[.int .u8 d, .int .i64 at_, .int .i64 fr, .int .i64 n, .int .u64 x, .string S] 36) = y := ⟨_, rfl⟩
  obtain ⟨E, hEE⟩ : ∃ E, w.heap.size = E := ⟨_, rfl⟩
  rw [hy, hEE] at hds
  rw [hy, hEE]
  have H := Lib.hid hds
  clear hy hEE hds
  obtain ⟨⟨s1, s2, s3, s4, s5, s6, s7, s8⟩, ⟨t1, t2, t3, t4, t5, t6⟩, f4, f5⟩ := H.out.all
  go_upto_region 7 with fail
  have HY := Lib.hid H.out
  have HYD := Lib.hid (H.out.below (Below.refl y.heap.size y).drew)
  clear H s1 s2 s3 s4 s5 s6 s7 s8 t1 t2 t3 t4 t5 t6 f4 f5
  go_cut [7, 8] (fun s7 s8 wx => Pt7 Wb E A b cap va vs s d at_ fr n x S w0 none 0 0 3 s7 s8 wx)
  case first =>
    as_aux_lemma =>
    have hS0 := HYD.out
    refine wp_region_held_drew (S := DvS Wb E A b cap va vs s s d at_ fr n x S w0) (by kernel_rfl) hS0 (fun hHeld => ?_)
    refine wpAnyH_take (i := 0) (v := (.pointer (some ⟨Wb, 0, none⟩))) rfl (by kernel_rfl) (by kernel_rfl) (by kernel_rfl) (fun _ _ _ h => h) (Or.inl ⟨by rfl, fun X hS => ?_⟩) hHeld ?_
    · obtain ⟨⟨s1, s2, s3, s4, s5, s6, s7, s8⟩, ⟨t1, t2, t3, t4, t5, t6⟩, f4, f5⟩ := hS.all
      go_simp
    try simp only [Act.put, List.getElem_toArray, List.getElem_cons_zero, List.getElem_cons_succ, List.setIfInBounds_toArray, List.set_cons_zero, List.set_cons_succ]
    refine wpAnyH_take (i := 1) (v := (.pointer (some ⟨Wb, 0, none⟩))) rfl (by kernel_rfl) (by kernel_rfl) (by kernel_rfl) (fun _ _ _ h => h) (Or.inl ⟨by rfl, fun X hS => ?_⟩) hHeld ?_
    · obtain ⟨⟨s1, s2, s3, s4, s5, s6, s7, s8⟩, ⟨t1, t2, t3, t4, t5, t6⟩, f4, f5⟩ := hS.all
      go_simp
    try simp only [Act.put, List.getElem_toArray, List.getElem_cons_zero, List.getElem_cons_succ, List.setIfInBounds_toArray, List.set_cons_zero, List.set_cons_succ]
    refine wpAnyH_take (i := 2) (v := (.pointer (some ⟨Wb, 1, none⟩))) rfl (by kernel_rfl) (by kernel_rfl) (by kernel_rfl) (fun _ _ _ h => h) (Or.inl ⟨by rfl, fun X hS => ?_⟩) hHeld ?_
    · obtain ⟨⟨s1, s2, s3, s4, s5, s6, s7, s8⟩, ⟨t1, t2, t3, t4, t5, t6⟩, f4, f5⟩ := hS.all
      go_simp
    try simp only [Act.put, List.getElem_toArray, List.getElem_cons_zero, List.getElem_cons_succ, List.setIfInBounds_toArray, List.set_cons_zero, List.set_cons_succ]
    refine wpAnyH_take (i := 3) (v := (.agg #[.pointer (some ⟨A, 0, none⟩), .int .i64 (va : Int), .int .i64 (vs : Int)])) rfl (by kernel_rfl) (by kernel_rfl) (by kernel_rfl) (fun _ _ _ h => h) (Or.inl ⟨by rfl, fun X hS => ?_⟩) hHeld ?_
    · obtain ⟨⟨s1, s2, s3, s4, s5, s6, s7, s8⟩, ⟨t1, t2, t3, t4, t5, t6⟩, f4, f5⟩ := hS.all
      go_simp
    try simp only [Act.put, List.getElem_toArray, List.getElem_cons_zero, List.getElem_cons_succ, List.setIfInBounds_toArray, List.set_cons_zero, List.set_cons_succ]
    refine wpAnyH_take (i := 4) (v := (.pointer (some ⟨E, 1, none⟩))) rfl (by kernel_rfl) (by kernel_rfl) (by kernel_rfl) (fun _ _ _ h => h) (Or.inl ⟨by rfl, fun X hS => ?_⟩) hHeld ?_
    · obtain ⟨⟨s1, s2, s3, s4, s5, s6, s7, s8⟩, ⟨t1, t2, t3, t4, t5, t6⟩, f4, f5⟩ := hS.all
      go_simp
    try simp only [Act.put, List.getElem_toArray, List.getElem_cons_zero, List.getElem_cons_succ, List.setIfInBounds_toArray, List.set_cons_zero, List.set_cons_succ]
    refine wpAnyH_take (i := 5) (v := (.int .i64 at_)) rfl (by kernel_rfl) (by kernel_rfl) (by kernel_rfl) (fun _ _ _ h => h) (Or.inl ⟨by rfl, fun X hS => ?_⟩) hHeld ?_
    · obtain ⟨⟨s1, s2, s3, s4, s5, s6, s7, s8⟩, ⟨t1, t2, t3, t4, t5, t6⟩, f4, f5⟩ := hS.all
      go_simp
    try simp only [Act.put, List.getElem_toArray, List.getElem_cons_zero, List.getElem_cons_succ, List.setIfInBounds_toArray, List.set_cons_zero, List.set_cons_succ]
    refine wpAnyH_take (i := 6) (v := (.pointer (some ⟨E, 3, none⟩))) rfl (by kernel_rfl) (by kernel_rfl) (by kernel_rfl) (fun _ _ _ h => h) (Or.inl ⟨by rfl, fun X hS => ?_⟩) hHeld ?_
    · obtain ⟨⟨s1, s2, s3, s4, s5, s6, s7, s8⟩, ⟨t1, t2, t3, t4, t5, t6⟩, f4, f5⟩ := hS.all
      go_simp
    try simp only [Act.put, List.getElem_toArray, List.getElem_cons_zero, List.getElem_cons_succ, List.setIfInBounds_toArray, List.set_cons_zero, List.set_cons_succ]
    refine wpAnyH_take (i := 7) (v := (.int .i64 n)) rfl (by kernel_rfl) (by kernel_rfl) (by kernel_rfl) (fun _ _ _ h => h) (Or.inl ⟨by rfl, fun X hS => ?_⟩) hHeld ?_
    · obtain ⟨⟨s1, s2, s3, s4, s5, s6, s7, s8⟩, ⟨t1, t2, t3, t4, t5, t6⟩, f4, f5⟩ := hS.all
      go_simp
    try simp only [Act.put, List.getElem_toArray, List.getElem_cons_zero, List.getElem_cons_succ, List.setIfInBounds_toArray, List.set_cons_zero, List.set_cons_succ]
    clear hHeld
    refine wpAnyH_ready (rs := [8, 12]) (by kernel_rfl) (by simp) (AllReadyH.cons rfl (fun K1 hK1 => ?_) (AllReadyH.cons rfl (fun K1 hK1 => ?_) AllReadyH.nil))
    · go_simp
      refine (HPC.out _ HYD.out.x).mono ?_
      rintro e w2 ⟨rfl, hb⟩
      have HD2 := Lib.hid (HYD.out.below hb)
      clear hb
      refine hK1.out _ _ HD2.out (fun hHeld => ?_)
      clear hK1
      try simp only [Act.put, List.getElem_toArray, List.getElem_cons_zero, List.getElem_cons_succ, List.setIfInBounds_toArray, List.set_cons_zero, List.set_cons_succ]
      refine wpAnyH_take (i := 9) (v := (.tuple #[.agg #[.pointer none, .int .i64 0, .int .i64 0], .int .i64 3])) rfl (by kernel_rfl) (by kernel_rfl) (by kernel_rfl) (fun _ _ _ h => h) (Or.inl ⟨by rfl, fun X hS => ?_⟩) hHeld ?_
      · obtain ⟨⟨s1, s2, s3, s4, s5, s6, s7, s8⟩, ⟨t1, t2, t3, t4, t5, t6⟩, f4, f5⟩ := hS.all
        go_simp
      try simp only [Act.put, List.getElem_toArray, List.getElem_cons_zero, List.getElem_cons_succ, List.setIfInBounds_toArray, List.set_cons_zero, List.set_cons_succ]
      refine wpAnyH_take (i := 10) (v := (.agg #[.pointer none, .int .i64 0, .int .i64 0])) rfl (by kernel_rfl) (by kernel_rfl) (by kernel_rfl) (fun _ _ _ h => h) (Or.inl ⟨by rfl, fun X hS => ?_⟩) hHeld ?_
      · obtain ⟨⟨s1, s2, s3, s4, s5, s6, s7, s8⟩, ⟨t1, t2, t3, t4, t5, t6⟩, f4, f5⟩ := hS.all
        go_simp
      try simp only [Act.put, List.getElem_toArray, List.getElem_cons_zero, List.getElem_cons_succ, List.setIfInBounds_toArray, List.set_cons_zero, List.set_cons_succ]
      refine wpAnyH_take (i := 11) (v := (.int .i64 3)) rfl (by kernel_rfl) (by kernel_rfl) (by kernel_rfl) (fun _ _ _ h => h) (Or.inl ⟨by rfl, fun X hS => ?_⟩) hHeld ?_
      · obtain ⟨⟨s1, s2, s3, s4, s5, s6, s7, s8⟩, ⟨t1, t2, t3, t4, t5, t6⟩, f4, f5⟩ := hS.all
        go_simp
      try simp only [Act.put, List.getElem_toArray, List.getElem_cons_zero, List.getElem_cons_succ, List.setIfInBounds_toArray, List.set_cons_zero, List.set_cons_succ]
      clear hHeld
      refine wpAnyH_ready (rs := [12]) (by kernel_rfl) (by simp) (AllReadyH.cons rfl (fun K1 hK1 => ?_) AllReadyH.nil)
      go_simp
      have hD3 : DvS Wb E A b cap va vs s s d at_ fr n x S w0 (w2.alloc (.cells #[.pointer none, .int .i64 0, .int .i64 0] 55)) := HD2.out.below (bel1 w2 (.cells #[.pointer none, .int .i64 0, .int .i64 0] 55))
      have hT : PtT w2.heap.size none 0 0 (w2.alloc (.cells #[.pointer none, .int .i64 0, .int .i64 0] 55)) := heap_new w2 (.cells #[.pointer none, .int .i64 0, .int .i64 0] 55)
      have hM : Mine A w2.heap.size (w2.alloc (.cells #[.pointer none, .int .i64 0, .int .i64 0] 55)) := (Mine.new HD2.out.x (.cells #[.pointer none, .int .i64 0, .int .i64 0] 55)).went (Went.of_below (HD2.out.x.below (bel1 w2 (.cells #[.pointer none, .int .i64 0, .int .i64 0] 55))) (Below.refl _ _))
      have h0 : w0.heap.size ≤ w2.heap.size := HD2.out.bs.bel.size
      obtain ⟨x1, hx1⟩ : ∃ x1, (w2.alloc (.cells #[.pointer none, .int .i64 0, .int .i64 0] 55)) = x1 := ⟨_, rfl⟩
      obtain ⟨T, hTT⟩ : ∃ T, w2.heap.size = T := ⟨_, rfl⟩
      rw [hx1] at hD3 hT hM ⊢
      rw [hTT] at hT hM h0 ⊢
      have HD3 := Lib.hid hD3
      have HTN := Lib.hid hT
      have HM := Lib.hid hM
      have H0 := Lib.hid h0

      clear hx1 hTT hD3 hT hM h0 

      refine hK1.out _ _ HD3.out (fun hHeld => ?_)
      clear hK1
      try simp only [Act.put, List.getElem_toArray, List.getElem_cons_zero, List.getElem_cons_succ, List.setIfInBounds_toArray, List.set_cons_zero, List.set_cons_succ]
      clear hHeld
      refine wpAnyH_ready (rs := [13]) (by kernel_rfl) (by simp) (AllReadyH.cons rfl (fun K1 hK1 => ?_) AllReadyH.nil)
      have c0 := (cell_blk HTN.out 0).1
      have c1 := (cell_blk HTN.out 1).1
      have c2 := (cell_blk HTN.out 2).1
      have f0 := (cell_blk HTN.out 0).2
      have f1 := (cell_blk HTN.out 1).2
      have f2 := (cell_blk HTN.out 2).2
      go_simp
      clear c0 c1 c2 f0 f1 f2
      have hfar := HD3.out.far3 HTN.out HM.out H0.out none 0 0
      have HFD := Lib.hid hfar.1
      have HFT := Lib.hid hfar.2
      clear hfar
      refine hK1.out _ _ HFD.out (fun hHeld => ?_)
      clear hK1
      try simp only [Act.put, List.getElem_toArray, List.getElem_cons_zero, List.getElem_cons_succ, List.setIfInBounds_toArray, List.set_cons_zero, List.set_cons_succ]
      refine wpAnyH_take (i := 14) (v := (.int .i64 3)) rfl (by kernel_rfl) (by kernel_rfl) (by kernel_rfl) (fun _ _ _ h => h) (Or.inl ⟨by rfl, fun X hS => ?_⟩) hHeld ?_
      · obtain ⟨⟨s1, s2, s3, s4, s5, s6, s7, s8⟩, ⟨t1, t2, t3, t4, t5, t6⟩, f4, f5⟩ := hS.all
        go_simp
      try simp only [Act.put, List.getElem_toArray, List.getElem_cons_zero, List.getElem_cons_succ, List.setIfInBounds_toArray, List.set_cons_zero, List.set_cons_succ]
      refine wpAnyH_done (by kernel_rfl) ?_ _
      clear hHeld
      go_wp2_with fail
      go_meet
      exact ⟨T, rfl, rfl, HFD.out, HFT.out⟩
    · go_simp
      have hD3 : DvS Wb E A b cap va vs s s d at_ fr n x S w0 (y.alloc (.cells #[.pointer none, .int .i64 0, .int .i64 0] 55)).drew := HY.out.below (bel1 y (.cells #[.pointer none, .int .i64 0, .int .i64 0] 55)).drew
      have hT : PtT y.heap.size none 0 0 (y.alloc (.cells #[.pointer none, .int .i64 0, .int .i64 0] 55)).drew := heap_new y (.cells #[.pointer none, .int .i64 0, .int .i64 0] 55)
      have hM : Mine A y.heap.size (y.alloc (.cells #[.pointer none, .int .i64 0, .int .i64 0] 55)).drew := (Mine.new HY.out.x (.cells #[.pointer none, .int .i64 0, .int .i64 0] 55)).went (Went.of_below (HY.out.x.below (bel1 y (.cells #[.pointer none, .int .i64 0, .int .i64 0] 55))) (Below.refl _ _).drew)
      have h0 : w0.heap.size ≤ y.heap.size := HY.out.bs.bel.size
      obtain ⟨x1, hx1⟩ : ∃ x1, (y.alloc (.cells #[.pointer none, .int .i64 0, .int .i64 0] 55)).drew = x1 := ⟨_, rfl⟩
      obtain ⟨T, hTT⟩ : ∃ T, y.heap.size = T := ⟨_, rfl⟩
      rw [hx1] at hD3 hT hM ⊢
      rw [hTT] at hT hM h0 ⊢
      have HD3 := Lib.hid hD3
      have HTN := Lib.hid hT
      have HM := Lib.hid hM
      have H0 := Lib.hid h0

      clear hx1 hTT hD3 hT hM h0 
      refine hK1.out _ _ HD3.out (fun hHeld => ?_)
      clear hK1
      try simp only [Act.put, List.getElem_toArray, List.getElem_cons_zero, List.getElem_cons_succ, List.setIfInBounds_toArray, List.set_cons_zero, List.set_cons_succ]
      clear hHeld
      refine wpAnyH_ready (rs := [8]) (by kernel_rfl) (by simp) (AllReadyH.cons rfl (fun K1 hK1 => ?_) AllReadyH.nil)
      go_simp
      refine (HPC.out _ HD3.out.x).mono ?_
      rintro e w2 ⟨rfl, hb⟩
      have HD4 := Lib.hid (HD3.out.below hb)
      have HTN2 := Lib.hid (show PtT T none 0 0 w2 from blk_at hb HTN.out)
      have HM2 := Lib.hid (HM.out.went (Went.of_below HD3.out.x hb))
      clear hb

      refine hK1.out _ _ HD4.out (fun hHeld => ?_)
      clear hK1
      try simp only [Act.put, List.getElem_toArray, List.getElem_cons_zero, List.getElem_cons_succ, List.setIfInBounds_toArray, List.set_cons_zero, List.set_cons_succ]
      refine wpAnyH_take (i := 9) (v := (.tuple #[.agg #[.pointer none, .int .i64 0, .int .i64 0], .int .i64 3])) rfl (by kernel_rfl) (by kernel_rfl) (by kernel_rfl) (fun _ _ _ h => h) (Or.inl ⟨by rfl, fun X hS => ?_⟩) hHeld ?_
      · obtain ⟨⟨s1, s2, s3, s4, s5, s6, s7, s8⟩, ⟨t1, t2, t3, t4, t5, t6⟩, f4, f5⟩ := hS.all
        go_simp
      try simp only [Act.put, List.getElem_toArray, List.getElem_cons_zero, List.getElem_cons_succ, List.setIfInBounds_toArray, List.set_cons_zero, List.set_cons_succ]
      refine wpAnyH_take (i := 10) (v := (.agg #[.pointer none, .int .i64 0, .int .i64 0])) rfl (by kernel_rfl) (by kernel_rfl) (by kernel_rfl) (fun _ _ _ h => h) (Or.inl ⟨by rfl, fun X hS => ?_⟩) hHeld ?_
      · obtain ⟨⟨s1, s2, s3, s4, s5, s6, s7, s8⟩, ⟨t1, t2, t3, t4, t5, t6⟩, f4, f5⟩ := hS.all
        go_simp
      try simp only [Act.put, List.getElem_toArray, List.getElem_cons_zero, List.getElem_cons_succ, List.setIfInBounds_toArray, List.set_cons_zero, List.set_cons_succ]
      refine wpAnyH_take (i := 11) (v := (.int .i64 3)) rfl (by kernel_rfl) (by kernel_rfl) (by kernel_rfl) (fun _ _ _ h => h) (Or.inl ⟨by rfl, fun X hS => ?_⟩) hHeld ?_
      · obtain ⟨⟨s1, s2, s3, s4, s5, s6, s7, s8⟩, ⟨t1, t2, t3, t4, t5, t6⟩, f4, f5⟩ := hS.all
        go_simp
      try simp only [Act.put, List.getElem_toArray, List.getElem_cons_zero, List.getElem_cons_succ, List.setIfInBounds_toArray, List.set_cons_zero, List.set_cons_succ]
      clear HD3 HTN HM
      have HD3 := HD4
      have HTN := HTN2
      have HM := HM2
      clear hHeld
      refine wpAnyH_ready (rs := [13]) (by kernel_rfl) (by simp) (AllReadyH.cons rfl (fun K1 hK1 => ?_) AllReadyH.nil)
      have c0 := (cell_blk HTN.out 0).1
      have c1 := (cell_blk HTN.out 1).1
      have c2 := (cell_blk HTN.out 2).1
      have f0 := (cell_blk HTN.out 0).2
      have f1 := (cell_blk HTN.out 1).2
      have f2 := (cell_blk HTN.out 2).2
      go_simp
      clear c0 c1 c2 f0 f1 f2
      have hfar := HD3.out.far3 HTN.out HM.out H0.out none 0 0
      have HFD := Lib.hid hfar.1
      have HFT := Lib.hid hfar.2
      clear hfar
      refine hK1.out _ _ HFD.out (fun hHeld => ?_)
      clear hK1
      try simp only [Act.put, List.getElem_toArray, List.getElem_cons_zero, List.getElem_cons_succ, List.setIfInBounds_toArray, List.set_cons_zero, List.set_cons_succ]
      refine wpAnyH_take (i := 14) (v := (.int .i64 3)) rfl (by kernel_rfl) (by kernel_rfl) (by kernel_rfl) (fun _ _ _ h => h) (Or.inl ⟨by rfl, fun X hS => ?_⟩) hHeld ?_
      · obtain ⟨⟨s1, s2, s3, s4, s5, s6, s7, s8⟩, ⟨t1, t2, t3, t4, t5, t6⟩, f4, f5⟩ := hS.all
        go_simp
      try simp only [Act.put, List.getElem_toArray, List.getElem_cons_zero, List.getElem_cons_succ, List.setIfInBounds_toArray, List.set_cons_zero, List.set_cons_succ]
      refine wpAnyH_done (by kernel_rfl) ?_ _
      clear hHeld
      go_wp2_with fail
      go_meet
      exact ⟨T, rfl, rfl, HFD.out, HFT.out⟩
  case rest =>
  obtain ⟨T, rfl, rfl, hd7, ht7⟩ := hcut
  clear HY HYD
  obtain ⟨y, hyw⟩ : ∃ y, wc = y := ⟨_, rfl⟩
  rw [hyw] at hd7 ht7 ⊢
  clear hyw
  have HY := Lib.hid hd7
  have HYD := Lib.hid (hd7.below (Below.refl y.heap.size y).drew)
  have HTY := Lib.hid ht7
  have HTYD := Lib.hid (show PtT T none 0 0 y.drew from blk_at (Below.refl y.heap.size y).drew ht7)
  clear hd7 ht7
  go_upto_region 8 with fail
  go_cut [9, 10] (fun s9 s10 wx => Pt8 Wb E A b cap va vs T s d at_ fr n x S w0 none 0 0 0 0 3 s9 s10 wx)
  case first =>
    as_aux_lemma =>
    have hS0 := HYD.out
    refine wp_region_held_drew (S := DvS Wb E A b cap va vs s s d at_ fr n x S w0) (by kernel_rfl) hS0 (fun hHeld => ?_)
    refine wpAnyH_take (i := 0) (v := (.pointer (some ⟨Wb, 0, none⟩))) rfl (by kernel_rfl) (by kernel_rfl) (by kernel_rfl) (fun _ _ _ h => h) (Or.inl ⟨by rfl, fun X hS => ?_⟩) hHeld ?_
    · obtain ⟨⟨s1, s2, s3, s4, s5, s6, s7, s8⟩, ⟨t1, t2, t3, t4, t5, t6⟩, f4, f5⟩ := hS.all
      go_simp
    try simp only [Act.put, List.getElem_toArray, List.getElem_cons_zero, List.getElem_cons_succ, List.setIfInBounds_toArray, List.set_cons_zero, List.set_cons_succ]
    refine wpAnyH_take (i := 1) (v := (.pointer (some ⟨Wb, 0, none⟩))) rfl (by kernel_rfl) (by kernel_rfl) (by kernel_rfl) (fun _ _ _ h => h) (Or.inl ⟨by rfl, fun X hS => ?_⟩) hHeld ?_
    · obtain ⟨⟨s1, s2, s3, s4, s5, s6, s7, s8⟩, ⟨t1, t2, t3, t4, t5, t6⟩, f4, f5⟩ := hS.all
      go_simp
    try simp only [Act.put, List.getElem_toArray, List.getElem_cons_zero, List.getElem_cons_succ, List.setIfInBounds_toArray, List.set_cons_zero, List.set_cons_succ]
    refine wpAnyH_take (i := 2) (v := (.pointer (some ⟨Wb, 4, none⟩))) rfl (by kernel_rfl) (by kernel_rfl) (by kernel_rfl) (fun _ _ _ h => h) (Or.inl ⟨by rfl, fun X hS => ?_⟩) hHeld ?_
    · obtain ⟨⟨s1, s2, s3, s4, s5, s6, s7, s8⟩, ⟨t1, t2, t3, t4, t5, t6⟩, f4, f5⟩ := hS.all
      go_simp
    try simp only [Act.put, List.getElem_toArray, List.getElem_cons_zero, List.getElem_cons_succ, List.setIfInBounds_toArray, List.set_cons_zero, List.set_cons_succ]
    refine wpAnyH_take (i := 3) (v := (.agg #[.slice (some ⟨b, 0, none⟩) s.L cap, .int .i64 (refR s)])) rfl (by kernel_rfl) (by kernel_rfl) (by kernel_rfl) (fun _ _ _ h => h) (Or.inl ⟨by rfl, fun X hS => ?_⟩) hHeld ?_
    · obtain ⟨⟨s1, s2, s3, s4, s5, s6, s7, s8⟩, ⟨t1, t2, t3, t4, t5, t6⟩, f4, f5⟩ := hS.all
      go_simp
    try simp only [Act.put, List.getElem_toArray, List.getElem_cons_zero, List.getElem_cons_succ, List.setIfInBounds_toArray, List.set_cons_zero, List.set_cons_succ]
    refine wpAnyH_take (i := 4) (v := (.pointer (some ⟨Wb, 0, none⟩))) rfl (by kernel_rfl) (by kernel_rfl) (by kernel_rfl) (fun _ _ _ h => h) (Or.inl ⟨by rfl, fun X hS => ?_⟩) hHeld ?_
    · obtain ⟨⟨s1, s2, s3, s4, s5, s6, s7, s8⟩, ⟨t1, t2, t3, t4, t5, t6⟩, f4, f5⟩ := hS.all
      go_simp
    try simp only [Act.put, List.getElem_toArray, List.getElem_cons_zero, List.getElem_cons_succ, List.setIfInBounds_toArray, List.set_cons_zero, List.set_cons_succ]
    refine wpAnyH_take (i := 5) (v := (.pointer (some ⟨Wb, 0, none⟩))) rfl (by kernel_rfl) (by kernel_rfl) (by kernel_rfl) (fun _ _ _ h => h) (Or.inl ⟨by rfl, fun X hS => ?_⟩) hHeld ?_
    · obtain ⟨⟨s1, s2, s3, s4, s5, s6, s7, s8⟩, ⟨t1, t2, t3, t4, t5, t6⟩, f4, f5⟩ := hS.all
      go_simp
    try simp only [Act.put, List.getElem_toArray, List.getElem_cons_zero, List.getElem_cons_succ, List.setIfInBounds_toArray, List.set_cons_zero, List.set_cons_succ]
    refine wpAnyH_take (i := 6) (v := (.pointer (some ⟨Wb, 6, none⟩))) rfl (by kernel_rfl) (by kernel_rfl) (by kernel_rfl) (fun _ _ _ h => h) (Or.inl ⟨by rfl, fun X hS => ?_⟩) hHeld ?_
    · obtain ⟨⟨s1, s2, s3, s4, s5, s6, s7, s8⟩, ⟨t1, t2, t3, t4, t5, t6⟩, f4, f5⟩ := hS.all
      go_simp
    try simp only [Act.put, List.getElem_toArray, List.getElem_cons_zero, List.getElem_cons_succ, List.setIfInBounds_toArray, List.set_cons_zero, List.set_cons_succ]
    refine wpAnyH_take (i := 7) (v := (.agg #[.int .i64 (va : Int), .int .i64 (vs : Int)])) rfl (by kernel_rfl) (by kernel_rfl) (by kernel_rfl) (fun _ _ _ h => h) (Or.inl ⟨by rfl, fun X hS => ?_⟩) hHeld ?_
    · obtain ⟨⟨s1, s2, s3, s4, s5, s6, s7, s8⟩, ⟨t1, t2, t3, t4, t5, t6⟩, f4, f5⟩ := hS.all
      go_simp
    try simp only [Act.put, List.getElem_toArray, List.getElem_cons_zero, List.getElem_cons_succ, List.setIfInBounds_toArray, List.set_cons_zero, List.set_cons_succ]
    refine wpAnyH_take (i := 8) (v := (.pointer (some ⟨E, 1, none⟩))) rfl (by kernel_rfl) (by kernel_rfl) (by kernel_rfl) (fun _ _ _ h => h) (Or.inl ⟨by rfl, fun X hS => ?_⟩) hHeld ?_
    · obtain ⟨⟨s1, s2, s3, s4, s5, s6, s7, s8⟩, ⟨t1, t2, t3, t4, t5, t6⟩, f4, f5⟩ := hS.all
      go_simp
    try simp only [Act.put, List.getElem_toArray, List.getElem_cons_zero, List.getElem_cons_succ, List.setIfInBounds_toArray, List.set_cons_zero, List.set_cons_succ]
    refine wpAnyH_take (i := 9) (v := (.int .i64 at_)) rfl (by kernel_rfl) (by kernel_rfl) (by kernel_rfl) (fun _ _ _ h => h) (Or.inl ⟨by rfl, fun X hS => ?_⟩) hHeld ?_
    · obtain ⟨⟨s1, s2, s3, s4, s5, s6, s7, s8⟩, ⟨t1, t2, t3, t4, t5, t6⟩, f4, f5⟩ := hS.all
      go_simp
    try simp only [Act.put, List.getElem_toArray, List.getElem_cons_zero, List.getElem_cons_succ, List.setIfInBounds_toArray, List.set_cons_zero, List.set_cons_succ]
    refine wpAnyH_take (i := 10) (v := (.pointer (some ⟨E, 3, none⟩))) rfl (by kernel_rfl) (by kernel_rfl) (by kernel_rfl) (fun _ _ _ h => h) (Or.inl ⟨by rfl, fun X hS => ?_⟩) hHeld ?_
    · obtain ⟨⟨s1, s2, s3, s4, s5, s6, s7, s8⟩, ⟨t1, t2, t3, t4, t5, t6⟩, f4, f5⟩ := hS.all
      go_simp
    try simp only [Act.put, List.getElem_toArray, List.getElem_cons_zero, List.getElem_cons_succ, List.setIfInBounds_toArray, List.set_cons_zero, List.set_cons_succ]
    refine wpAnyH_take (i := 11) (v := (.int .i64 n)) rfl (by kernel_rfl) (by kernel_rfl) (by kernel_rfl) (fun _ _ _ h => h) (Or.inl ⟨by rfl, fun X hS => ?_⟩) hHeld ?_
    · obtain ⟨⟨s1, s2, s3, s4, s5, s6, s7, s8⟩, ⟨t1, t2, t3, t4, t5, t6⟩, f4, f5⟩ := hS.all
      go_simp
    try simp only [Act.put, List.getElem_toArray, List.getElem_cons_zero, List.getElem_cons_succ, List.setIfInBounds_toArray, List.set_cons_zero, List.set_cons_succ]
    clear hHeld
    refine wpAnyH_ready (rs := [12, 16]) (by kernel_rfl) (by simp) (AllReadyH.cons rfl (fun K1 hK1 => ?_) (AllReadyH.cons rfl (fun K1 hK1 => ?_) AllReadyH.nil))
    · go_simp
      refine (HDC.out _ HYD.out.d).mono ?_
      rintro e w2 ⟨rfl, hb⟩
      have HD2 := Lib.hid (HYD.out.below hb)
      have HT2 := Lib.hid (show PtT T none 0 0 w2 from blk_at hb HTYD.out)
      clear hb
      refine hK1.out _ _ HD2.out (fun hHeld => ?_)
      clear hK1
      try simp only [Act.put, List.getElem_toArray, List.getElem_cons_zero, List.getElem_cons_succ, List.setIfInBounds_toArray, List.set_cons_zero, List.set_cons_succ]
      refine wpAnyH_take (i := 13) (v := (.tuple #[.agg #[.int .i64 0, .int .i64 0], .int .i64 3])) rfl (by kernel_rfl) (by kernel_rfl) (by kernel_rfl) (fun _ _ _ h => h) (Or.inl ⟨by rfl, fun X hS => ?_⟩) hHeld ?_
      · obtain ⟨⟨s1, s2, s3, s4, s5, s6, s7, s8⟩, ⟨t1, t2, t3, t4, t5, t6⟩, f4, f5⟩ := hS.all
        go_simp
      try simp only [Act.put, List.getElem_toArray, List.getElem_cons_zero, List.getElem_cons_succ, List.setIfInBounds_toArray, List.set_cons_zero, List.set_cons_succ]
      refine wpAnyH_take (i := 14) (v := (.agg #[.int .i64 0, .int .i64 0])) rfl (by kernel_rfl) (by kernel_rfl) (by kernel_rfl) (fun _ _ _ h => h) (Or.inl ⟨by rfl, fun X hS => ?_⟩) hHeld ?_
      · obtain ⟨⟨s1, s2, s3, s4, s5, s6, s7, s8⟩, ⟨t1, t2, t3, t4, t5, t6⟩, f4, f5⟩ := hS.all
        go_simp
      try simp only [Act.put, List.getElem_toArray, List.getElem_cons_zero, List.getElem_cons_succ, List.setIfInBounds_toArray, List.set_cons_zero, List.set_cons_succ]
      refine wpAnyH_take (i := 15) (v := (.int .i64 3)) rfl (by kernel_rfl) (by kernel_rfl) (by kernel_rfl) (fun _ _ _ h => h) (Or.inl ⟨by rfl, fun X hS => ?_⟩) hHeld ?_
      · obtain ⟨⟨s1, s2, s3, s4, s5, s6, s7, s8⟩, ⟨t1, t2, t3, t4, t5, t6⟩, f4, f5⟩ := hS.all
        go_simp
      try simp only [Act.put, List.getElem_toArray, List.getElem_cons_zero, List.getElem_cons_succ, List.setIfInBounds_toArray, List.set_cons_zero, List.set_cons_succ]
      clear hHeld
      refine wpAnyH_ready (rs := [16]) (by kernel_rfl) (by simp) (AllReadyH.cons rfl (fun K1 hK1 => ?_) AllReadyH.nil)
      go_simp
      have hD3 : DvS Wb E A b cap va vs s s d at_ fr n x S w0 (w2.alloc (.cells #[.int .i64 0, .int .i64 0] 61)) := HD2.out.below (bel1 w2 (.cells #[.int .i64 0, .int .i64 0] 61))
      have hT : PtU w2.heap.size 0 0 (w2.alloc (.cells #[.int .i64 0, .int .i64 0] 61)) := heap_new w2 (.cells #[.int .i64 0, .int .i64 0] 61)
      have hM : Mine A w2.heap.size (w2.alloc (.cells #[.int .i64 0, .int .i64 0] 61)) := (Mine.new HD2.out.x (.cells #[.int .i64 0, .int .i64 0] 61)).went (Went.of_below (HD2.out.x.below (bel1 w2 (.cells #[.int .i64 0, .int .i64 0] 61))) (Below.refl _ _))
      have h0 : w0.heap.size ≤ w2.heap.size := HD2.out.bs.bel.size
      have hT0 : PtT T none 0 0 (w2.alloc (.cells #[.int .i64 0, .int .i64 0] 61)) := blk_at (bel1 w2 (.cells #[.int .i64 0, .int .i64 0] 61)) HT2.out
      obtain ⟨x1, hx1⟩ : ∃ x1, (w2.alloc (.cells #[.int .i64 0, .int .i64 0] 61)) = x1 := ⟨_, rfl⟩
      obtain ⟨U, hTT⟩ : ∃ T, w2.heap.size = T := ⟨_, rfl⟩
      rw [hx1] at hD3 hT hM hT0 ⊢
      rw [hTT] at hT hM h0 ⊢
      have HD3 := Lib.hid hD3
      have HTN := Lib.hid hT
      have HM := Lib.hid hM
      have H0 := Lib.hid h0
      have HT3 := Lib.hid hT0
      clear hx1 hTT hD3 hT hM h0 hT0

      refine hK1.out _ _ HD3.out (fun hHeld => ?_)
      clear hK1
      try simp only [Act.put, List.getElem_toArray, List.getElem_cons_zero, List.getElem_cons_succ, List.setIfInBounds_toArray, List.set_cons_zero, List.set_cons_succ]
      clear hHeld
      refine wpAnyH_ready (rs := [17]) (by kernel_rfl) (by simp) (AllReadyH.cons rfl (fun K1 hK1 => ?_) AllReadyH.nil)
      have c0 := (cell_blk HTN.out 0).1
      have c1 := (cell_blk HTN.out 1).1
      have f0 := (cell_blk HTN.out 0).2
      have f1 := (cell_blk HTN.out 1).2
      go_simp
      clear c0 c1 f0 f1
      have hfar := HD3.out.far2 HT3.out HTN.out HM.out H0.out 0 0
      have HFD := Lib.hid hfar.1
      have HFT := Lib.hid hfar.2
      clear hfar
      refine hK1.out _ _ HFD.out (fun hHeld => ?_)
      clear hK1
      try simp only [Act.put, List.getElem_toArray, List.getElem_cons_zero, List.getElem_cons_succ, List.setIfInBounds_toArray, List.set_cons_zero, List.set_cons_succ]
      refine wpAnyH_take (i := 18) (v := (.int .i64 3)) rfl (by kernel_rfl) (by kernel_rfl) (by kernel_rfl) (fun _ _ _ h => h) (Or.inl ⟨by rfl, fun X hS => ?_⟩) hHeld ?_
      · obtain ⟨⟨s1, s2, s3, s4, s5, s6, s7, s8⟩, ⟨t1, t2, t3, t4, t5, t6⟩, f4, f5⟩ := hS.all
        go_simp
      try simp only [Act.put, List.getElem_toArray, List.getElem_cons_zero, List.getElem_cons_succ, List.setIfInBounds_toArray, List.set_cons_zero, List.set_cons_succ]
      refine wpAnyH_done (by kernel_rfl) ?_ _
      clear hHeld
      go_wp2_with fail
      go_meet
      exact ⟨U, rfl, rfl, HFD.out, HFT.out.1, HFT.out.2⟩
    · go_simp
      have hD3 : DvS Wb E A b cap va vs s s d at_ fr n x S w0 (y.alloc (.cells #[.int .i64 0, .int .i64 0] 61)).drew := HY.out.below (bel1 y (.cells #[.int .i64 0, .int .i64 0] 61)).drew
      have hT : PtU y.heap.size 0 0 (y.alloc (.cells #[.int .i64 0, .int .i64 0] 61)).drew := heap_new y (.cells #[.int .i64 0, .int .i64 0] 61)
      have hM : Mine A y.heap.size (y.alloc (.cells #[.int .i64 0, .int .i64 0] 61)).drew := (Mine.new HY.out.x (.cells #[.int .i64 0, .int .i64 0] 61)).went (Went.of_below (HY.out.x.below (bel1 y (.cells #[.int .i64 0, .int .i64 0] 61))) (Below.refl _ _).drew)
      have h0 : w0.heap.size ≤ y.heap.size := HY.out.bs.bel.size
      have hT0 : PtT T none 0 0 (y.alloc (.cells #[.int .i64 0, .int .i64 0] 61)).drew := blk_at (bel1 y (.cells #[.int .i64 0, .int .i64 0] 61)).drew HTY.out
      obtain ⟨x1, hx1⟩ : ∃ x1, (y.alloc (.cells #[.int .i64 0, .int .i64 0] 61)).drew = x1 := ⟨_, rfl⟩
      obtain ⟨U, hTT⟩ : ∃ T, y.heap.size = T := ⟨_, rfl⟩
      rw [hx1] at hD3 hT hM hT0 ⊢
      rw [hTT] at hT hM h0 ⊢
      have HD3 := Lib.hid hD3
      have HTN := Lib.hid hT
      have HM := Lib.hid hM
      have H0 := Lib.hid h0
      have HT3 := Lib.hid hT0
      clear hx1 hTT hD3 hT hM h0 hT0
      refine hK1.out _ _ HD3.out (fun hHeld => ?_)
      clear hK1
      try simp only [Act.put, List.getElem_toArray, List.getElem_cons_zero, List.getElem_cons_succ, List.setIfInBounds_toArray, List.set_cons_zero, List.set_cons_succ]
      clear hHeld
      refine wpAnyH_ready (rs := [12]) (by kernel_rfl) (by simp) (AllReadyH.cons rfl (fun K1 hK1 => ?_) AllReadyH.nil)
      go_simp
      refine (HDC.out _ HD3.out.d).mono ?_
      rintro e w2 ⟨rfl, hb⟩
      have HD4 := Lib.hid (HD3.out.below hb)
      have HTN2 := Lib.hid (show PtU U 0 0 w2 from blk_at hb HTN.out)
      have HM2 := Lib.hid (HM.out.went (Went.of_below HD3.out.x hb))
      have HT4 := Lib.hid (show PtT T none 0 0 w2 from blk_at hb HT3.out)
      clear hb

      refine hK1.out _ _ HD4.out (fun hHeld => ?_)
      clear hK1
      try simp only [Act.put, List.getElem_toArray, List.getElem_cons_zero, List.getElem_cons_succ, List.setIfInBounds_toArray, List.set_cons_zero, List.set_cons_succ]
      refine wpAnyH_take (i := 13) (v := (.tuple #[.agg #[.int .i64 0, .int .i64 0], .int .i64 3])) rfl (by kernel_rfl) (by kernel_rfl) (by kernel_rfl) (fun _ _ _ h => h) (Or.inl ⟨by rfl, fun X hS => ?_⟩) hHeld ?_
      · obtain ⟨⟨s1, s2, s3, s4, s5, s6, s7, s8⟩, ⟨t1, t2, t3, t4, t5, t6⟩, f4, f5⟩ := hS.all
        go_simp
      try simp only [Act.put, List.getElem_toArray, List.getElem_cons_zero, List.getElem_cons_succ, List.setIfInBounds_toArray, List.set_cons_zero, List.set_cons_succ]
      refine wpAnyH_take (i := 14) (v := (.agg #[.int .i64 0, .int .i64 0])) rfl (by kernel_rfl) (by kernel_rfl) (by kernel_rfl) (fun _ _ _ h => h) (Or.inl ⟨by rfl, fun X hS => ?_⟩) hHeld ?_
      · obtain ⟨⟨s1, s2, s3, s4, s5, s6, s7, s8⟩, ⟨t1, t2, t3, t4, t5, t6⟩, f4, f5⟩ := hS.all
        go_simp
      try simp only [Act.put, List.getElem_toArray, List.getElem_cons_zero, List.getElem_cons_succ, List.setIfInBounds_toArray, List.set_cons_zero, List.set_cons_succ]
      refine wpAnyH_take (i := 15) (v := (.int .i64 3)) rfl (by kernel_rfl) (by kernel_rfl) (by kernel_rfl) (fun _ _ _ h => h) (Or.inl ⟨by rfl, fun X hS => ?_⟩) hHeld ?_
      · obtain ⟨⟨s1, s2, s3, s4, s5, s6, s7, s8⟩, ⟨t1, t2, t3, t4, t5, t6⟩, f4, f5⟩ := hS.all
        go_simp
      try simp only [Act.put, List.getElem_toArray, List.getElem_cons_zero, List.getElem_cons_succ, List.setIfInBounds_toArray, List.set_cons_zero, List.set_cons_succ]
      clear HD3 HTN HM HT3
      have HD3 := HD4
      have HTN := HTN2
      have HM := HM2
      have HT3 := HT4
      clear hHeld
      refine wpAnyH_ready (rs := [17]) (by kernel_rfl) (by simp) (AllReadyH.cons rfl (fun K1 hK1 => ?_) AllReadyH.nil)
      have c0 := (cell_blk HTN.out 0).1
      have c1 := (cell_blk HTN.out 1).1
      have f0 := (cell_blk HTN.out 0).2
      have f1 := (cell_blk HTN.out 1).2
      go_simp
      clear c0 c1 f0 f1
      have hfar := HD3.out.far2 HT3.out HTN.out HM.out H0.out 0 0
      have HFD := Lib.hid hfar.1
      have HFT := Lib.hid hfar.2
      clear hfar
      refine hK1.out _ _ HFD.out (fun hHeld => ?_)
      clear hK1
      try simp only [Act.put, List.getElem_toArray, List.getElem_cons_zero, List.getElem_cons_succ, List.setIfInBounds_toArray, List.set_cons_zero, List.set_cons_succ]
      refine wpAnyH_take (i := 18) (v := (.int .i64 3)) rfl (by kernel_rfl) (by kernel_rfl) (by kernel_rfl) (fun _ _ _ h => h) (Or.inl ⟨by rfl, fun X hS => ?_⟩) hHeld ?_
      · obtain ⟨⟨s1, s2, s3, s4, s5, s6, s7, s8⟩, ⟨t1, t2, t3, t4, t5, t6⟩, f4, f5⟩ := hS.all
        go_simp
      try simp only [Act.put, List.getElem_toArray, List.getElem_cons_zero, List.getElem_cons_succ, List.setIfInBounds_toArray, List.set_cons_zero, List.set_cons_succ]
      refine wpAnyH_done (by kernel_rfl) ?_ _
      clear hHeld
      go_wp2_with fail
      go_meet
      exact ⟨U, rfl, rfl, HFD.out, HFT.out.1, HFT.out.2⟩
  case rest =>
  obtain ⟨U, rfl, rfl, hd8, ht8, hu8⟩ := hcut
  have HD8 := Lib.hid hd8
  have hS0 := (pts_mk ht8 hu8).below (Below.refl wc.heap.size wc).drew
  have hu0 := (cell_blk hu8 0).1
  have hu1 := (cell_blk hu8 1).1
  clear hd8 ht8 hu8 HY HYD HTY HTYD
  go_upto_region 9 with fail
  refine wp_region_held_drew (S := PtS T U none 0 0 0 0) (by kernel_rfl) hS0 (fun hHeld => ?_)
  refine wpAnyH_take (i := 0) (v := (.int .i64 3)) rfl (by kernel_rfl) (by kernel_rfl) (by kernel_rfl) (fun _ _ _ h => h) (Or.inl ⟨by rfl, fun X hS => ?_⟩) hHeld ?_
  · obtain ⟨⟨p0, p1, p2⟩, ⟨u0, u1⟩, -, -⟩ := hS
    go_simp
  try simp only [Act.put, List.getElem_toArray, List.getElem_cons_zero, List.getElem_cons_succ, List.setIfInBounds_toArray, List.set_cons_zero, List.set_cons_succ]
  refine wpAnyH_take (i := 1) (v := (.int .i64 3)) rfl (by kernel_rfl) (by kernel_rfl) (by kernel_rfl) (fun _ _ _ h => h) (Or.inl ⟨by rfl, fun X hS => ?_⟩) hHeld ?_
  · obtain ⟨⟨p0, p1, p2⟩, ⟨u0, u1⟩, -, -⟩ := hS
    go_simp
  try simp only [Act.put, List.getElem_toArray, List.getElem_cons_zero, List.getElem_cons_succ, List.setIfInBounds_toArray, List.set_cons_zero, List.set_cons_succ]
  refine wpAnyH_take (i := 2) (v := (.bool false)) rfl (by kernel_rfl) (by kernel_rfl) (by kernel_rfl) (fun _ _ _ h => h) (Or.inl ⟨by rfl, fun X hS => ?_⟩) hHeld ?_
  · obtain ⟨⟨p0, p1, p2⟩, ⟨u0, u1⟩, -, -⟩ := hS
    go_simp
  try simp only [Act.put, List.getElem_toArray, List.getElem_cons_zero, List.getElem_cons_succ, List.setIfInBounds_toArray, List.set_cons_zero, List.set_cons_succ]
  refine wpAnyH_take (i := 3) (v := (.bool false)) rfl (by kernel_rfl) (by kernel_rfl) (by kernel_rfl) (fun _ _ _ h => h) (Or.inl ⟨by rfl, fun X hS => ?_⟩) hHeld ?_
  · obtain ⟨⟨p0, p1, p2⟩, ⟨u0, u1⟩, -, -⟩ := hS
    go_simp
  try simp only [Act.put, List.getElem_toArray, List.getElem_cons_zero, List.getElem_cons_succ, List.setIfInBounds_toArray, List.set_cons_zero, List.set_cons_succ]
  refine wpAnyH_take (i := 4) (v := (.int .i64 3)) rfl (by kernel_rfl) (by kernel_rfl) (by kernel_rfl) (fun _ _ _ h => h) (Or.inl ⟨by rfl, fun X hS => ?_⟩) hHeld ?_
  · obtain ⟨⟨p0, p1, p2⟩, ⟨u0, u1⟩, -, -⟩ := hS
    go_simp
  try simp only [Act.put, List.getElem_toArray, List.getElem_cons_zero, List.getElem_cons_succ, List.setIfInBounds_toArray, List.set_cons_zero, List.set_cons_succ]
  refine wpAnyH_take (i := 5) (v := (.bool false)) rfl (by kernel_rfl) (by kernel_rfl) (by kernel_rfl) (fun _ _ _ h => h) (Or.inl ⟨by rfl, fun X hS => ?_⟩) hHeld ?_
  · obtain ⟨⟨p0, p1, p2⟩, ⟨u0, u1⟩, -, -⟩ := hS
    go_simp
  try simp only [Act.put, List.getElem_toArray, List.getElem_cons_zero, List.getElem_cons_succ, List.setIfInBounds_toArray, List.set_cons_zero, List.set_cons_succ]
  refine wpAnyH_take (i := 6) (v := (.bool false)) rfl (by kernel_rfl) (by kernel_rfl) (by kernel_rfl) (fun _ _ _ h => h) (Or.inl ⟨by rfl, fun X hS => ?_⟩) hHeld ?_
  · obtain ⟨⟨p0, p1, p2⟩, ⟨u0, u1⟩, -, -⟩ := hS
    go_simp
  try simp only [Act.put, List.getElem_toArray, List.getElem_cons_zero, List.getElem_cons_succ, List.setIfInBounds_toArray, List.set_cons_zero, List.set_cons_succ]
  refine wpAnyH_take (i := 7) (v := undef) rfl (by kernel_rfl) (by kernel_rfl) (by kernel_rfl) (fun _ _ _ h => h) (Or.inr ⟨by rfl, rfl⟩) hHeld ?_
  try simp only [Act.put, List.getElem_toArray, List.getElem_cons_zero, List.getElem_cons_succ, List.setIfInBounds_toArray, List.set_cons_zero, List.set_cons_succ]
  refine wpAnyH_take (i := 8) (v := undef) rfl (by kernel_rfl) (by kernel_rfl) (by kernel_rfl) (fun _ _ _ h => h) (Or.inr ⟨by rfl, rfl⟩) hHeld ?_
  try simp only [Act.put, List.getElem_toArray, List.getElem_cons_zero, List.getElem_cons_succ, List.setIfInBounds_toArray, List.set_cons_zero, List.set_cons_succ]
  refine wpAnyH_take (i := 9) (v := undef) rfl (by kernel_rfl) (by kernel_rfl) (by kernel_rfl) (fun _ _ _ h => h) (Or.inr ⟨by rfl, rfl⟩) hHeld ?_
  try simp only [Act.put, List.getElem_toArray, List.getElem_cons_zero, List.getElem_cons_succ, List.setIfInBounds_toArray, List.set_cons_zero, List.set_cons_succ]
  refine wpAnyH_take (i := 10) (v := undef) rfl (by kernel_rfl) (by kernel_rfl) (by kernel_rfl) (fun _ _ _ h => h) (Or.inr ⟨by rfl, rfl⟩) hHeld ?_
  try simp only [Act.put, List.getElem_toArray, List.getElem_cons_zero, List.getElem_cons_succ, List.setIfInBounds_toArray, List.set_cons_zero, List.set_cons_succ]
  refine wpAnyH_take (i := 11) (v := undef) rfl (by kernel_rfl) (by kernel_rfl) (by kernel_rfl) (fun _ _ _ h => h) (Or.inr ⟨by rfl, rfl⟩) hHeld ?_
  try simp only [Act.put, List.getElem_toArray, List.getElem_cons_zero, List.getElem_cons_succ, List.setIfInBounds_toArray, List.set_cons_zero, List.set_cons_succ]
  refine wpAnyH_take (i := 12) (v := undef) rfl (by kernel_rfl) (by kernel_rfl) (by kernel_rfl) (fun _ _ _ h => h) (Or.inr ⟨by rfl, rfl⟩) hHeld ?_
  try simp only [Act.put, List.getElem_toArray, List.getElem_cons_zero, List.getElem_cons_succ, List.setIfInBounds_toArray, List.set_cons_zero, List.set_cons_succ]
  refine wpAnyH_take (i := 13) (v := undef) rfl (by kernel_rfl) (by kernel_rfl) (by kernel_rfl) (fun _ _ _ h => h) (Or.inr ⟨by rfl, rfl⟩) hHeld ?_
  try simp only [Act.put, List.getElem_toArray, List.getElem_cons_zero, List.getElem_cons_succ, List.setIfInBounds_toArray, List.set_cons_zero, List.set_cons_succ]
  refine wpAnyH_take (i := 14) (v := undef) rfl (by kernel_rfl) (by kernel_rfl) (by kernel_rfl) (fun _ _ _ h => h) (Or.inr ⟨by rfl, rfl⟩) hHeld ?_
  try simp only [Act.put, List.getElem_toArray, List.getElem_cons_zero, List.getElem_cons_succ, List.setIfInBounds_toArray, List.set_cons_zero, List.set_cons_succ]
  refine wpAnyH_take (i := 15) (v := undef) rfl (by kernel_rfl) (by kernel_rfl) (by kernel_rfl) (fun _ _ _ h => h) (Or.inr ⟨by rfl, rfl⟩) hHeld ?_
  try simp only [Act.put, List.getElem_toArray, List.getElem_cons_zero, List.getElem_cons_succ, List.setIfInBounds_toArray, List.set_cons_zero, List.set_cons_succ]
  refine wpAnyH_take (i := 16) (v := undef) rfl (by kernel_rfl) (by kernel_rfl) (by kernel_rfl) (fun _ _ _ h => h) (Or.inr ⟨by rfl, rfl⟩) hHeld ?_
  try simp only [Act.put, List.getElem_toArray, List.getElem_cons_zero, List.getElem_cons_succ, List.setIfInBounds_toArray, List.set_cons_zero, List.set_cons_succ]
  refine wpAnyH_take (i := 17) (v := undef) rfl (by kernel_rfl) (by kernel_rfl) (by kernel_rfl) (fun _ _ _ h => h) (Or.inr ⟨by rfl, rfl⟩) hHeld ?_
  try simp only [Act.put, List.getElem_toArray, List.getElem_cons_zero, List.getElem_cons_succ, List.setIfInBounds_toArray, List.set_cons_zero, List.set_cons_succ]
  refine wpAnyH_take (i := 18) (v := undef) rfl (by kernel_rfl) (by kernel_rfl) (by kernel_rfl) (fun _ _ _ h => h) (Or.inr ⟨by rfl, rfl⟩) hHeld ?_
  try simp only [Act.put, List.getElem_toArray, List.getElem_cons_zero, List.getElem_cons_succ, List.setIfInBounds_toArray, List.set_cons_zero, List.set_cons_succ]
  refine wpAnyH_take (i := 19) (v := (.bool false)) rfl (by kernel_rfl) (by kernel_rfl) (by kernel_rfl) (fun _ _ _ h => h) (Or.inl ⟨by rfl, fun X hS => ?_⟩) hHeld ?_
  · obtain ⟨⟨p0, p1, p2⟩, ⟨u0, u1⟩, -, -⟩ := hS
    go_simp
  try simp only [Act.put, List.getElem_toArray, List.getElem_cons_zero, List.getElem_cons_succ, List.setIfInBounds_toArray, List.set_cons_zero, List.set_cons_succ]
  refine wpAnyH_take (i := 20) (v := (.bool false)) rfl (by kernel_rfl) (by kernel_rfl) (by kernel_rfl) (fun _ _ _ h => h) (Or.inl ⟨by rfl, fun X hS => ?_⟩) hHeld ?_
  · obtain ⟨⟨p0, p1, p2⟩, ⟨u0, u1⟩, -, -⟩ := hS
    go_simp
  try simp only [Act.put, List.getElem_toArray, List.getElem_cons_zero, List.getElem_cons_succ, List.setIfInBounds_toArray, List.set_cons_zero, List.set_cons_succ]
  clear hHeld
  refine wpAnyH_done (by kernel_rfl) ?_ _
  go_wp2_with fail
  go_ret
  exact ⟨b, cap, va, vs, s, rfl, rfl, (HD8.out.below (Below.refl wc.heap.size wc).drew).fin⟩
end Go.Proofs.Ytdmaendhkenmgaa.Bt
