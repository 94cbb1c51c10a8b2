/- ChunkAlone: only a header's bytes are turned. -/
import Derived.Test.YtglfllnemenhnaaChP
namespace Go.Proofs.Ytglfllnemenhnaa.Bt
open Go Go.RowKit Go.Shelf
set_option linter.unusedVariables false
set_option linter.unusedSimpArgs false

theorem strL_cut {l l' : List UInt8} (hl : l.length = l'.length) {i j : Nat} (h : ∀ k, i ≤ k → k < j → l.getD k 0 = l'.getD k 0) : (strL l).extract i j = (strL l').extract i j := by
  apply ByteArray.ext
  rw [ByteArray.data_extract, ByteArray.data_extract]
  show (l.toArray).extract i j = (l'.toArray).extract i j
  apply Array.ext_getElem?
  intro k
  rw [Array.getElem?_extract, Array.getElem?_extract]
  simp only [List.size_toArray, List.getElem?_toArray]
  rw [hl]
  by_cases hk : k < min j l'.length - i
  · rw [if_pos hk, if_pos hk]
    have h2 := h (i + k) (by omega) (by omega)
    rw [List.getD_eq_getElem?_getD, List.getD_eq_getElem?_getD] at h2
    rw [List.getElem?_eq_getElem (by omega), List.getElem?_eq_getElem (by omega)] at h2 ⊢
    simpa using h2
  · rw [if_neg hk, if_neg hk]
theorem bytes_cut (m m' : Nat → UInt8) (n i j : Nat) (hj : j ≤ n) (h : ∀ k, i ≤ k → k < j → m k = m' k) : (strL (getM m 0 n)).extract i j = (strL (getM m' 0 n)).extract i j :=
  strL_cut (by rw [getM_length, getM_length]) fun k h1 h2 => by rw [getM_get _ _ _ _ (by omega), getM_get _ _ _ _ (by omega), Nat.zero_add]; exact h k h1 h2
theorem getM_fill (m : Nat → UInt8) (a n : Nat) (y : UInt8) : getM (putM m a (List.replicate n y)) a n = List.replicate n y := by
  have := getM_putM m a (List.replicate n y)
  rwa [List.length_replicate] at this
section
variable {A : Nat} {s : ASt} {w : World}
theorem wipe_any (h : On A s w) (a : Int) (ha : a ≤ 9223372036854775807) :
    Calls Try.prog 42 #[.pointer (some ⟨A, 0, none⟩), .int .i64 a] w (Ret A (fillS s a 32 0) (.int .i64 (thereE s.L s.es a 32)) w) := by
  have HO := Lib.hid h
  clear h
  go_enter Try.func42, Try.ntmps42
  go_wp2_with fail
  refine (on_afill HO.out a 32 ha 0).mono ?_
  rintro e w1 ⟨rfl, hx, hg⟩
  have HF := Lib.hid (And.intro hx hg)
  clear hx hg
  go_wp2_with fail
  go_ret
  exact ⟨rfl, HF.out.1, HF.out.2⟩
end
def s2 (m : Nat → UInt8) : ASt := fullS 2 m
theorem there2 (m : Nat → UInt8) (a k : Int) : thereE (fullS 2 m).L (fullS 2 m).es a k = if 0 ≤ a ∧ 0 ≤ k ∧ a + k ≤ 8192 then 0 else 3 := by
  show thereE 2 [0, 2] a k = _
  rw [thereE_full (by omega) (by omega)]; rfl
/-- the variables of the last line -/
def LS (C D : Nat) (a o u x : Int) (X : World) : Prop :=
  X.cell? ⟨C, 0, none⟩ = some (.int .i64 a) ∧ X.cell? ⟨C, 1, none⟩ = some (.int .i64 o) ∧ X.cell? ⟨C, 2, none⟩ = some (.int .u64 u) ∧ X.cell? ⟨C, 3, none⟩ = some (.int .i64 x) ∧
  X.cell? ⟨D, 0, none⟩ = some (.int .i64 a) ∧ X.cell? ⟨D, 1, none⟩ = some (.int .i64 o) ∧ X.cell? ⟨D, 2, none⟩ = some (.int .u64 u) ∧ X.cell? ⟨D, 3, none⟩ = some (.int .i64 x) ∧ CB C a o u x X ∧ CB D a o u x X
theorem ls_mk {C D : Nat} {a o u x : Int} {X : World} (h : CB C a o u x X) (k : CB D a o u x X) : LS C D a o u x X :=
  ⟨h.all.1, h.all.2.1, h.all.2.2.1, h.all.2.2.2, k.all.1, k.all.2.1, k.all.2.2.1, k.all.2.2.2, h, k⟩
theorem LS.below {C D : Nat} {a o u x : Int} {X Y : World} (h : LS C D a o u x X) (hb : Below X.heap.size X Y) : LS C D a o u x Y :=
  ls_mk (blk_at hb h.2.2.2.2.2.2.2.2.1) (blk_at hb h.2.2.2.2.2.2.2.2.2)
set_option maxRecDepth 100000 in
set_option maxHeartbeats 8000000 in
theorem alone_walk (a o u x : Int) (hc : CkB a o u x) (t : ByteArray) (ht : t.size ≤ 9223372036854775807) (w : World) :
    Calls Try.prog 9 #[cV a o u x, .string t] w (TrueAt w) := by
  by_cases hlen : 8192 < (t.size : Int)
  · clear hc
    go_enter Try.func9, Try.ntmps9
    go_upto_region 1 with fail
    have c := cb_new w a o u x
    have bw := Lib.hid (bel1 w (.cells (cC a o u x) 96))
    obtain ⟨y, hy⟩ : ∃ y, w.alloc (.cells (cC a o u x) 96) = y := ⟨_, rfl⟩
    obtain ⟨B, hB⟩ : ∃ B, w.heap.size = B := ⟨_, rfl⟩
    rw [hy] at c bw
    rw [hB] at c
    change Code.wp _ _ _ _ (w.alloc (.cells (cC a o u x) 96))
    rw [hy, hB]
    clear hy hB
    obtain ⟨c0, c1, c2, c3⟩ := c.all
    go_wp2_with fail
    refine (awake10_calls _).mono ?_
    rintro e w1 ⟨rfl, hb⟩
    have HB := Lib.hid (bw.out.trans (hb.mono bw.out.size))
    clear hb c c0 c1 c2 c3 bw
    go_wp2_with fail
    go_ret
    exact ⟨rfl, HB.out⟩
  have htl : t.data.toList.length ≤ 8192 := by
    have : t.data.toList.length = t.size := by show t.data.toList.length = t.data.size; exact Array.length_toList
    omega
  have L1 : Hid (lenN 2 = 2) := Lib.hid (by decide)
  have E1 : Hid (commitE (newS 2) 0 2 = 0) := Lib.hid (by decide)
  have S1 : Hid (commitS (newS 2) 0 2 = fullS 2 (fun _ => 0)) := Lib.hid (full_new 2 2 (by decide) (by decide) (by decide))
  have P1 : Hid (thereE (fullS 2 fun _ => 0).L (fullS 2 fun _ => 0).es 0 t.data.toList.length = 0) := Lib.hid (by rw [there2, if_pos (by omega)])
  have P2 : Hid (putS (fullS 2 fun _ => 0) 0 t.data.toList = fullS 2 (putM (fun _ => 0) 0 t.data.toList)) := Lib.hid (by unfold putS; rw [P1.out, if_pos rfl]; rfl)
  obtain ⟨m, hm⟩ : ∃ m, putM (fun _ => 0) 0 t.data.toList = m := ⟨_, rfl⟩
  rw [hm] at P2
  have HBY : Hid (∀ m, byV (fullS 2 m) 0 8192 = strL (getM m 0 8192)) := Lib.hid (fun m => by unfold byV; rw [there2, if_pos (by omega)]; rfl)
  have HCK := Lib.hid hc
  clear hm hc
  go_enter Try.func9, Try.ntmps9
  go_upto_region 1 with fail
  have c := cb_new w a o u x
  have bw := Lib.hid (bel1 w (.cells (cC a o u x) 96))
  obtain ⟨y, hy⟩ : ∃ y, w.alloc (.cells (cC a o u x) 96) = y := ⟨_, rfl⟩
  obtain ⟨B, hB⟩ : ∃ B, w.heap.size = B := ⟨_, rfl⟩
  rw [hy] at c bw
  rw [hB] at c
  change Code.wp _ _ _ _ (w.alloc (.cells (cC a o u x) 96))
  rw [hy, hB]
  clear hy hB
  obtain ⟨c0, c1, c2, c3⟩ := c.all
  go_wp2_with fail
  refine (awake10_calls _).mono ?_
  rintro e w1 ⟨rfl, hb⟩
  have HC1 := Lib.hid (show CB B a o u x w1 from blk_at hb c)
  have HW1 := Lib.hid (bw.out.trans (hb.mono bw.out.size))
  clear hb c c0 c1 c2 c3 bw
  go_wp2_with fail
  refine (on_new 2 _).mono ?_
  rintro e w2 ⟨A, rfl, hA, hx, hb, hmn⟩
  rw [L1.out] at hx
  have HX2 := Lib.hid hx
  have HB2 := Lib.hid (hb.rebase HW1.out)
  have HC2 := Lib.hid (show CB B a o u x w2 from (hb.bel.block _ (Array.getElem?_eq_some_iff.1 HC1.out).1).trans HC1.out)
  clear hx hb hA hmn HC1 HW1 L1
  go_wp2_with fail
  refine (on_commit HX2.out 0 2 (by omega)).mono ?_
  rintro e w3 ⟨rfl, hx, hg⟩
  rw [E1.out]; rw [S1.out] at hx
  have HX3 := Lib.hid hx
  have HB3 := Lib.hid (HB2.out.went hg)
  have HC3 := Lib.hid (show CB B a o u x w3 from hg.keep HX2.out HC2.out (by decide) (by decide) (by decide))
  clear hx hg HX2 HB2 HC2 E1 S1
  go_wp2_with fail
  refine (on_aput HX3.out 0 (by omega) t ht).mono ?_
  rintro e w4 ⟨rfl, hx, hg⟩
  rw [P1.out]; rw [P2.out] at hx
  have HX4 := Lib.hid hx
  have HB4 := Lib.hid (HB3.out.went hg)
  have HC4 := Lib.hid (show CB B a o u x w4 from hg.keep HX3.out HC3.out (by decide) (by decide) (by decide))
  clear hx hg HX3 HB3 HC3 P1 P2 htl
  go_wp2_with fail
  refine (on_abytes HX4.out 0 8192 (by omega)).mono ?_
  rintro e w5 ⟨rfl, hb⟩
  rw [HBY.out, there2, if_pos (by omega)]
  obtain ⟨W, hW⟩ : ∃ W, strL (getM m 0 8192) = W := ⟨_, rfl⟩
  have HW := Lib.hid hW
  have HX5 := Lib.hid (HX4.out.below hb)
  have HB5 := Lib.hid (HB4.out.below HX4.out hb)
  have HC5 := Lib.hid (show CB B a o u x w5 from blk_at hb HC4.out)
  rw [hW]
  clear hb HX4 HB4 HC4 hW
  obtain ⟨c0, c1, c2, c3⟩ := HC5.out.all
  by_cases hgood : mayB a o x = true ∧ a + 32 ≤ 8192
  · obtain ⟨hmay, hin⟩ := hgood
    obtain ⟨ha0, hpg, ho, hx0⟩ := (mayB_iff a o x).1 hmay
    have hrd := rd_wr m a o u x hmay ⟨HCK.out.u0, HCK.out.u1⟩ HCK.out.x1
    obtain ⟨an, rfl⟩ := Int.eq_ofNat_of_zero_le ha0
    have T32 : Hid (∀ m, thereE (fullS 2 m).L (fullS 2 m).es an 32 = 0) := Lib.hid (fun m => by rw [there2, if_pos (by omega)])
    have HMW : Hid ({ fullS 2 m with mm := wrM (fullS 2 m).mm (an : Int).toNat an o u x } = fullS 2 (wrM m an an o u x)) := Lib.hid rfl
    obtain ⟨m2, hm2⟩ : ∃ m2, wrM m an an o u x = m2 := ⟨_, rfl⟩
    rw [Int.toNat_natCast, hm2] at hrd
    rw [hm2] at HMW
    have HRD : Hid (rdV (fullS 2 m2) an = .tuple #[.agg #[.int .i64 an, .int .i64 o, .int .u64 u, .int .i64 x], .int .i64 0]) := Lib.hid (by
      unfold rdV
      rw [T32.out, if_pos rfl]
      show (if stB m2 an = true then _ else _) = _
      rw [if_pos hrd.2.2.2]
      show Value.tuple #[cV an (rdO m2 (an : Int).toNat) (rdU m2 (an : Int).toNat) (rdX m2 (an : Int).toNat), _] = _
      rw [Int.toNat_natCast, hrd.1, hrd.2.1, hrd.2.2.1]; rfl)
    have HFL : Hid (fillS (fullS 2 m2) an 32 0 = fullS 2 (putM m2 an (List.replicate 32 0))) := Lib.hid (by
      unfold fillS; rw [T32.out, if_pos rfl, Int.toNat_natCast]; rfl)
    have hnone : stB (putM m2 an (List.replicate 32 0)) an = false := rd_none _ _ fun j hj => by
      rw [Int.toNat_natCast, putM_in _ _ _ (by rw [List.length_replicate]; exact hj)]
      rw [List.getD_eq_getElem?_getD, List.getElem?_replicate, if_pos hj]; rfl
    have HBZ : Hid (byV (fullS 2 (putM m2 an (List.replicate 32 0))) an 32 = strL (List.replicate 32 0)) := Lib.hid (by
      unfold byV; rw [T32.out, if_pos rfl]
      show strL (getM (putM m2 an (List.replicate 32 0)) (an : Int).toNat 32) = _
      rw [Int.toNat_natCast, getM_fill])
    obtain ⟨m3, hm3⟩ : ∃ m3, putM m2 an (List.replicate 32 0) = m3 := ⟨_, rfl⟩
    rw [hm3] at HFL hnone HBZ
    have HRN : Hid (rdV (fullS 2 m3) an = .tuple #[.agg #[.int .i64 0, .int .i64 0, .int .u64 0, .int .i64 0], .int .i64 7]) := Lib.hid (by
      unfold rdV
      rw [T32.out, if_pos rfl]
      show (if stB m3 an = true then _ else _) = _
      rw [hnone, if_neg (by decide)]; rfl)
    have hout : ∀ i, i < an ∨ an + 32 ≤ i → m2 i = m i := fun i hi => by rw [← hm2]; exact wrM_out m an an o u x i hi
    have HE1 : Hid ((strL (getM m2 0 8192)).extract 0 an = W.extract 0 an) := Lib.hid (by rw [← HW.out]; exact bytes_cut _ _ _ _ _ (by omega) fun k _ h2 => hout k (by omega))
    have HE2 : Hid ((strL (getM m2 0 8192)).extract (an + 32) 8192 = W.extract (an + 32) 8192) := Lib.hid (by rw [← HW.out]; exact bytes_cut _ _ _ _ _ (by omega) fun k h1 _ => hout k (by omega))
    have HZW : Hid (W.size = 8192) := Lib.hid (by rw [← HW.out, strL_size, getM_length])
    obtain ⟨N, hN⟩ : ∃ N, strL (getM m2 0 8192) = N := ⟨_, rfl⟩
    have HZN : Hid (N.size = 8192) := Lib.hid (by rw [← hN, strL_size, getM_length])
    rw [hN] at HE1 HE2
    have HN := Lib.hid hN
    have HAN := Lib.hid (show an ≤ 8160 by omega)
    clear hrd hm2 hm3 hnone hout hN ha0 hpg ho hx0 HW
    have HMAY := Lib.hid hmay
    clear hmay
    go_wp2_with fail
    refine (write_ok HX5.out an o u x HCK.out.a1 ⟨HCK.out.u0, HCK.out.u1⟩ HCK.out.x1 HMAY.out (T32.out m)).mono ?_
    rintro e w6 ⟨rfl, hx, hg⟩
    rw [HMW.out] at hx
    have HX6 := Lib.hid hx
    have HB6 := Lib.hid (HB5.out.went hg)
    have HC6 := Lib.hid (show CB B an o u x w6 from hg.keep HX5.out HC5.out (by decide) (by decide) (by decide))
    clear hx hg HX5 HB5 HC5 c0 c1 c2 c3 HMAY
    obtain ⟨c0, c1, c2, c3⟩ := HC6.out.all
    go_wp2_with fail
    refine (on_abytes HX6.out 0 8192 (by omega)).mono ?_
    rintro e w7 ⟨rfl, hb⟩
    rw [HBY.out, there2, if_pos (by omega), HN.out]
    have HX7 := Lib.hid (HX6.out.below hb)
    have HB7 := Lib.hid (HB6.out.below HX6.out hb)
    have HC7 := Lib.hid (show CB B an o u x w7 from blk_at hb HC6.out)
    clear hb HX6 HB6 HC6 c0 c1 c2 c3
    obtain ⟨c0, c1, c2, c3⟩ := HC7.out.all
    go_wp2_with fail
    refine (read_any HX7.out an HCK.out.a1).mono ?_
    rintro e w8 ⟨rfl, hb⟩
    rw [HRD.out]
    have HX8 := Lib.hid (HX7.out.below hb)
    have HB8 := Lib.hid (HB7.out.below HX7.out hb)
    have HC8 := Lib.hid (show CB B an o u x w8 from blk_at hb HC7.out)
    clear hb HX7 HB7 HC7 c0 c1 c2 c3
    obtain ⟨c0, c1, c2, c3⟩ := HC8.out.all
    go_upto_region 14 with fail
    have hd := cb_new w8 an o u x
    have hb := (bel1 w8 (.cells (cC an o u x) 96))
    have hc := show CB B an o u x (w8.alloc (.cells (cC an o u x) 96)) from blk_at hb HC8.out
    have hX := HX8.out.below hb
    have hB := HB8.out.below HX8.out hb
    obtain ⟨z, hz⟩ : ∃ y, w8.alloc (.cells (cC an o u x) 96) = y := ⟨_, rfl⟩
    obtain ⟨D, hD⟩ : ∃ C, w8.heap.size = C := ⟨_, rfl⟩
    rw [hz] at hd hc hB hX
    rw [hD] at hd
    change Code.wp _ _ _ _ (w8.alloc (.cells (cC an o u x) 96))
    rw [hz, hD]
    have HC := Lib.hid hc; have HD := Lib.hid hd; have HB9 := Lib.hid hB; have HX9 := Lib.hid hX
    clear hz hD hc hd hB hb hX HX8 HB8 HC8 c0 c1 c2 c3
    obtain ⟨c0, c1, c2, c3⟩ := HC.out.all
    go_wp2_with fail
    refine (wipe_any HX9.out an HCK.out.a1).mono ?_
    rintro e w10 ⟨rfl, hx, hg⟩
    rw [T32.out]; rw [HFL.out] at hx
    have HX10 := Lib.hid hx
    have HB10 := Lib.hid (HB9.out.went hg)
    have HC10 := Lib.hid (show CB B an o u x w10 from hg.keep HX9.out HC.out (by decide) (by decide) (by decide))
    have HD10 := Lib.hid (show CB D an o u x w10 from hg.keep HX9.out HD.out (by decide) (by decide) (by decide))
    clear hx hg HX9 HB9 HC HD c0 c1 c2 c3
    obtain ⟨c0, c1, c2, c3⟩ := HC10.out.all
    go_wp2_with fail
    refine (on_abytes HX10.out an 32 HCK.out.a1).mono ?_
    rintro e w11 ⟨rfl, hb⟩
    rw [HBZ.out, T32.out]
    have HX11 := Lib.hid (HX10.out.below hb)
    have HB11 := Lib.hid (HB10.out.below HX10.out hb)
    have HC11 := Lib.hid (show CB B an o u x w11 from blk_at hb HC10.out)
    have HD11 := Lib.hid (show CB D an o u x w11 from blk_at hb HD10.out)
    clear hb HX10 HB10 HC10 HD10 c0 c1 c2 c3
    obtain ⟨c0, c1, c2, c3⟩ := HC11.out.all
    go_wp2_with fail
    refine (read_any HX11.out an HCK.out.a1).mono ?_
    rintro e w12 ⟨rfl, hb⟩
    rw [HRN.out]
    have HB12 := Lib.hid (HB11.out.below HX11.out hb)
    have HC12 := Lib.hid (show CB B an o u x w12 from blk_at hb HC11.out)
    have HD12 := Lib.hid (show CB D an o u x w12 from blk_at hb HD11.out)
    clear hb HX11 HB11 HC11 HD11 c0 c1 c2 c3
    go_upto_region 17 with fail
    have hb := (bel1 w12 (.cells (cC 0 0 0 0) 96))
    have hc := show CB B an o u x (w12.alloc (.cells (cC 0 0 0 0) 96)) from blk_at hb HC12.out
    have hd := show CB D an o u x (w12.alloc (.cells (cC 0 0 0 0) 96)) from blk_at hb HD12.out
    have hB := HB12.out.bel.trans (hb.mono HB12.out.bel.size)
    change Code.wp _ _ _ _ (w12.alloc (.cells (cC 0 0 0 0) 96))
    obtain ⟨z2, hz⟩ : ∃ y, w12.alloc (.cells (cC 0 0 0 0) 96) = y := ⟨_, rfl⟩
    rw [hz] at hc hd hB ⊢
    have hS0 : LS B D an o u x z2.drew := (ls_mk hc hd).below (Below.refl _ _).drew
    have HBY2 := Lib.hid (show Below w.heap.size w z2.drew from hB.drew)
    clear hb hc hd hB hz HB12 HC12 HD12
    refine wp_region_held_drew (S := LS B D an o u x) (by kernel_rfl) hS0 (fun hHeld => ?_)
    clear hS0
    refine wpAnyH_take (i := 0) (v := .int .i64 0) rfl (by kernel_rfl) (by kernel_rfl) (by kernel_rfl) (fun _ _ _ h => h) (Or.inl ⟨by rfl, fun X hS => ?_⟩) hHeld ?_
    · obtain ⟨s0, s1, s2, s3, s4, s5, s6, s7, s8, s9⟩ := hS
      go_simp
    try simp only [Act.put, List.getElem_toArray, List.getElem_cons_zero, List.getElem_cons_succ, List.setIfInBounds_toArray, List.set_cons_zero, List.set_cons_succ]
    refine wpAnyH_take (i := 1) (v := .bool true) rfl (by kernel_rfl) (by kernel_rfl) (by kernel_rfl) (fun _ _ _ h => h) (Or.inl ⟨by rfl, fun X hS => ?_⟩) hHeld ?_
    · obtain ⟨s0, s1, s2, s3, s4, s5, s6, s7, s8, s9⟩ := hS
      go_simp
    try simp only [Act.put, List.getElem_toArray, List.getElem_cons_zero, List.getElem_cons_succ, List.setIfInBounds_toArray, List.set_cons_zero, List.set_cons_succ]
    refine wpAnyH_take (i := 2) (v := .bool true) rfl (by kernel_rfl) (by kernel_rfl) (by kernel_rfl) (fun _ _ _ h => h) (Or.inl ⟨by rfl, fun X hS => ?_⟩) hHeld ?_
    · obtain ⟨s0, s1, s2, s3, s4, s5, s6, s7, s8, s9⟩ := hS
      go_simp
    try simp only [Act.put, List.getElem_toArray, List.getElem_cons_zero, List.getElem_cons_succ, List.setIfInBounds_toArray, List.set_cons_zero, List.set_cons_succ]
    refine wpAnyH_take (i := 3) (v := .int .i64 0) rfl (by kernel_rfl) (by kernel_rfl) (by kernel_rfl) (fun _ _ _ h => h) (Or.inl ⟨by rfl, fun X hS => ?_⟩) hHeld ?_
    · obtain ⟨s0, s1, s2, s3, s4, s5, s6, s7, s8, s9⟩ := hS
      go_simp
    try simp only [Act.put, List.getElem_toArray, List.getElem_cons_zero, List.getElem_cons_succ, List.setIfInBounds_toArray, List.set_cons_zero, List.set_cons_succ]
    refine wpAnyH_take (i := 4) (v := .bool true) rfl (by kernel_rfl) (by kernel_rfl) (by kernel_rfl) (fun _ _ _ h => h) (Or.inl ⟨by rfl, fun X hS => ?_⟩) hHeld ?_
    · obtain ⟨s0, s1, s2, s3, s4, s5, s6, s7, s8, s9⟩ := hS
      go_simp
    try simp only [Act.put, List.getElem_toArray, List.getElem_cons_zero, List.getElem_cons_succ, List.setIfInBounds_toArray, List.set_cons_zero, List.set_cons_succ]
    refine wpAnyH_take (i := 5) (v := .bool true) rfl (by kernel_rfl) (by kernel_rfl) (by kernel_rfl) (fun _ _ _ h => h) (Or.inl ⟨by rfl, fun X hS => ?_⟩) hHeld ?_
    · obtain ⟨s0, s1, s2, s3, s4, s5, s6, s7, s8, s9⟩ := hS
      go_simp
    try simp only [Act.put, List.getElem_toArray, List.getElem_cons_zero, List.getElem_cons_succ, List.setIfInBounds_toArray, List.set_cons_zero, List.set_cons_succ]
    refine wpAnyH_take (i := 6) (v := .bool true) rfl (by kernel_rfl) (by kernel_rfl) (by kernel_rfl) (fun _ _ _ h => h) (Or.inl ⟨by rfl, fun X hS => ?_⟩) hHeld ?_
    · obtain ⟨s0, s1, s2, s3, s4, s5, s6, s7, s8, s9⟩ := hS
      go_simp
    try simp only [Act.put, List.getElem_toArray, List.getElem_cons_zero, List.getElem_cons_succ, List.setIfInBounds_toArray, List.set_cons_zero, List.set_cons_succ]
    refine wpAnyH_take (i := 7) (v := .int .i64 0) rfl (by kernel_rfl) (by kernel_rfl) (by kernel_rfl) (fun _ _ _ h => h) (Or.inl ⟨by rfl, fun X hS => ?_⟩) hHeld ?_
    · obtain ⟨s0, s1, s2, s3, s4, s5, s6, s7, s8, s9⟩ := hS
      go_simp
    try simp only [Act.put, List.getElem_toArray, List.getElem_cons_zero, List.getElem_cons_succ, List.setIfInBounds_toArray, List.set_cons_zero, List.set_cons_succ]
    refine wpAnyH_take (i := 8) (v := .bool true) rfl (by kernel_rfl) (by kernel_rfl) (by kernel_rfl) (fun _ _ _ h => h) (Or.inl ⟨by rfl, fun X hS => ?_⟩) hHeld ?_
    · obtain ⟨s0, s1, s2, s3, s4, s5, s6, s7, s8, s9⟩ := hS
      go_simp
    try simp only [Act.put, List.getElem_toArray, List.getElem_cons_zero, List.getElem_cons_succ, List.setIfInBounds_toArray, List.set_cons_zero, List.set_cons_succ]
    refine wpAnyH_take (i := 9) (v := .bool true) rfl (by kernel_rfl) (by kernel_rfl) (by kernel_rfl) (fun _ _ _ h => h) (Or.inl ⟨by rfl, fun X hS => ?_⟩) hHeld ?_
    · obtain ⟨s0, s1, s2, s3, s4, s5, s6, s7, s8, s9⟩ := hS
      go_simp
    try simp only [Act.put, List.getElem_toArray, List.getElem_cons_zero, List.getElem_cons_succ, List.setIfInBounds_toArray, List.set_cons_zero, List.set_cons_succ]
    refine wpAnyH_take (i := 10) (v := .bool true) rfl (by kernel_rfl) (by kernel_rfl) (by kernel_rfl) (fun _ _ _ h => h) (Or.inl ⟨by rfl, fun X hS => ?_⟩) hHeld ?_
    · obtain ⟨s0, s1, s2, s3, s4, s5, s6, s7, s8, s9⟩ := hS
      go_simp
    try simp only [Act.put, List.getElem_toArray, List.getElem_cons_zero, List.getElem_cons_succ, List.setIfInBounds_toArray, List.set_cons_zero, List.set_cons_succ]
    refine wpAnyH_take (i := 11) (v := .int .i64 0) rfl (by kernel_rfl) (by kernel_rfl) (by kernel_rfl) (fun _ _ _ h => h) (Or.inl ⟨by rfl, fun X hS => ?_⟩) hHeld ?_
    · obtain ⟨s0, s1, s2, s3, s4, s5, s6, s7, s8, s9⟩ := hS
      go_simp
    try simp only [Act.put, List.getElem_toArray, List.getElem_cons_zero, List.getElem_cons_succ, List.setIfInBounds_toArray, List.set_cons_zero, List.set_cons_succ]
    refine wpAnyH_take (i := 12) (v := .bool true) rfl (by kernel_rfl) (by kernel_rfl) (by kernel_rfl) (fun _ _ _ h => h) (Or.inl ⟨by rfl, fun X hS => ?_⟩) hHeld ?_
    · obtain ⟨s0, s1, s2, s3, s4, s5, s6, s7, s8, s9⟩ := hS
      go_simp
    try simp only [Act.put, List.getElem_toArray, List.getElem_cons_zero, List.getElem_cons_succ, List.setIfInBounds_toArray, List.set_cons_zero, List.set_cons_succ]
    refine wpAnyH_take (i := 13) (v := .bool true) rfl (by kernel_rfl) (by kernel_rfl) (by kernel_rfl) (fun _ _ _ h => h) (Or.inl ⟨by rfl, fun X hS => ?_⟩) hHeld ?_
    · obtain ⟨s0, s1, s2, s3, s4, s5, s6, s7, s8, s9⟩ := hS
      go_simp
    try simp only [Act.put, List.getElem_toArray, List.getElem_cons_zero, List.getElem_cons_succ, List.setIfInBounds_toArray, List.set_cons_zero, List.set_cons_succ]
    refine wpAnyH_take (i := 14) (v := .bool true) rfl (by kernel_rfl) (by kernel_rfl) (by kernel_rfl) (fun _ _ _ h => h) (Or.inl ⟨by rfl, fun X hS => ?_⟩) hHeld ?_
    · obtain ⟨s0, s1, s2, s3, s4, s5, s6, s7, s8, s9⟩ := hS
      go_simp
    try simp only [Act.put, List.getElem_toArray, List.getElem_cons_zero, List.getElem_cons_succ, List.setIfInBounds_toArray, List.set_cons_zero, List.set_cons_succ]
    refine wpAnyH_take (i := 15) (v := .agg #[.int .i64 an, .int .i64 o, .int .u64 u, .int .i64 x]) rfl (by kernel_rfl) (by kernel_rfl) (by kernel_rfl) (fun _ _ _ h => h) (Or.inl ⟨by rfl, fun X hS => ?_⟩) hHeld ?_
    · obtain ⟨s0, s1, s2, s3, s4, s5, s6, s7, s8, s9⟩ := hS
      go_simp
    try simp only [Act.put, List.getElem_toArray, List.getElem_cons_zero, List.getElem_cons_succ, List.setIfInBounds_toArray, List.set_cons_zero, List.set_cons_succ]
    refine wpAnyH_take (i := 16) (v := .agg #[.int .i64 an, .int .i64 o, .int .u64 u, .int .i64 x]) rfl (by kernel_rfl) (by kernel_rfl) (by kernel_rfl) (fun _ _ _ h => h) (Or.inl ⟨by rfl, fun X hS => ?_⟩) hHeld ?_
    · obtain ⟨s0, s1, s2, s3, s4, s5, s6, s7, s8, s9⟩ := hS
      go_simp
    try simp only [Act.put, List.getElem_toArray, List.getElem_cons_zero, List.getElem_cons_succ, List.setIfInBounds_toArray, List.set_cons_zero, List.set_cons_succ]
    refine wpAnyH_take (i := 17) (v := .bool true) rfl (by kernel_rfl) (by kernel_rfl) (by kernel_rfl) (fun _ _ _ h => h) (Or.inl ⟨by rfl, fun X hS => ?_⟩) hHeld ?_
    · obtain ⟨s0, s1, s2, s3, s4, s5, s6, s7, s8, s9⟩ := hS
      go_simp
    try simp only [Act.put, List.getElem_toArray, List.getElem_cons_zero, List.getElem_cons_succ, List.setIfInBounds_toArray, List.set_cons_zero, List.set_cons_succ]
    refine wpAnyH_take (i := 18) (v := .bool true) rfl (by kernel_rfl) (by kernel_rfl) (by kernel_rfl) (fun _ _ _ h => h) (Or.inl ⟨by rfl, fun X hS => ?_⟩) hHeld ?_
    · obtain ⟨s0, s1, s2, s3, s4, s5, s6, s7, s8, s9⟩ := hS
      go_simp
    try simp only [Act.put, List.getElem_toArray, List.getElem_cons_zero, List.getElem_cons_succ, List.setIfInBounds_toArray, List.set_cons_zero, List.set_cons_succ]
    refine wpAnyH_take (i := 19) (v := .bool true) rfl (by kernel_rfl) (by kernel_rfl) (by kernel_rfl) (fun _ _ _ h => h) (Or.inl ⟨by rfl, fun X hS => ?_⟩) hHeld ?_
    · obtain ⟨s0, s1, s2, s3, s4, s5, s6, s7, s8, s9⟩ := hS
      go_simp
    try simp only [Act.put, List.getElem_toArray, List.getElem_cons_zero, List.getElem_cons_succ, List.setIfInBounds_toArray, List.set_cons_zero, List.set_cons_succ]
    refine wpAnyH_take (i := 20) (v := .string N) rfl (by kernel_rfl) (by kernel_rfl) (by kernel_rfl) (fun _ _ _ h => h) (Or.inl ⟨by rfl, fun X hS => ?_⟩) hHeld ?_
    · obtain ⟨s0, s1, s2, s3, s4, s5, s6, s7, s8, s9⟩ := hS
      go_simp
    try simp only [Act.put, List.getElem_toArray, List.getElem_cons_zero, List.getElem_cons_succ, List.setIfInBounds_toArray, List.set_cons_zero, List.set_cons_succ]
    refine wpAnyH_take (i := 21) (v := .pointer (some ⟨B, 0, none⟩)) rfl (by kernel_rfl) (by kernel_rfl) (by kernel_rfl) (fun _ _ _ h => h) (Or.inl ⟨by rfl, fun X hS => ?_⟩) hHeld ?_
    · obtain ⟨s0, s1, s2, s3, s4, s5, s6, s7, s8, s9⟩ := hS
      go_simp
    try simp only [Act.put, List.getElem_toArray, List.getElem_cons_zero, List.getElem_cons_succ, List.setIfInBounds_toArray, List.set_cons_zero, List.set_cons_succ]
    refine wpAnyH_take (i := 22) (v := .int .i64 an) rfl (by kernel_rfl) (by kernel_rfl) (by kernel_rfl) (fun _ _ _ h => h) (Or.inl ⟨by rfl, fun X hS => ?_⟩) hHeld ?_
    · obtain ⟨s0, s1, s2, s3, s4, s5, s6, s7, s8, s9⟩ := hS
      go_simp
    try simp only [Act.put, List.getElem_toArray, List.getElem_cons_zero, List.getElem_cons_succ, List.setIfInBounds_toArray, List.set_cons_zero, List.set_cons_succ]
    refine wpAnyH_take (i := 23) (v := .string (N.extract 0 an)) rfl (by kernel_rfl) (by kernel_rfl) (by kernel_rfl) (fun _ _ _ h => h) (Or.inl ⟨by rfl, fun X hS => ?_⟩) hHeld ?_
    · obtain ⟨s0, s1, s2, s3, s4, s5, s6, s7, s8, s9⟩ := hS
      have hzn := HZN.out; have hzw := HZW.out; have han := HAN.out; have hk1 : (0 : Int) ≤ an := (by omega); have hk2 : (an : Int) ≤ 8192 := (by omega); have hk4 : ¬ (8192 < (an : Int)) := (by omega)
      go_simp
    try simp only [Act.put, List.getElem_toArray, List.getElem_cons_zero, List.getElem_cons_succ, List.setIfInBounds_toArray, List.set_cons_zero, List.set_cons_succ]
    refine wpAnyH_take (i := 24) (v := .string W) rfl (by kernel_rfl) (by kernel_rfl) (by kernel_rfl) (fun _ _ _ h => h) (Or.inl ⟨by rfl, fun X hS => ?_⟩) hHeld ?_
    · obtain ⟨s0, s1, s2, s3, s4, s5, s6, s7, s8, s9⟩ := hS
      go_simp
    try simp only [Act.put, List.getElem_toArray, List.getElem_cons_zero, List.getElem_cons_succ, List.setIfInBounds_toArray, List.set_cons_zero, List.set_cons_succ]
    refine wpAnyH_take (i := 25) (v := .pointer (some ⟨B, 0, none⟩)) rfl (by kernel_rfl) (by kernel_rfl) (by kernel_rfl) (fun _ _ _ h => h) (Or.inl ⟨by rfl, fun X hS => ?_⟩) hHeld ?_
    · obtain ⟨s0, s1, s2, s3, s4, s5, s6, s7, s8, s9⟩ := hS
      go_simp
    try simp only [Act.put, List.getElem_toArray, List.getElem_cons_zero, List.getElem_cons_succ, List.setIfInBounds_toArray, List.set_cons_zero, List.set_cons_succ]
    refine wpAnyH_take (i := 26) (v := .int .i64 an) rfl (by kernel_rfl) (by kernel_rfl) (by kernel_rfl) (fun _ _ _ h => h) (Or.inl ⟨by rfl, fun X hS => ?_⟩) hHeld ?_
    · obtain ⟨s0, s1, s2, s3, s4, s5, s6, s7, s8, s9⟩ := hS
      go_simp
    try simp only [Act.put, List.getElem_toArray, List.getElem_cons_zero, List.getElem_cons_succ, List.setIfInBounds_toArray, List.set_cons_zero, List.set_cons_succ]
    refine wpAnyH_take (i := 27) (v := .string (W.extract 0 an)) rfl (by kernel_rfl) (by kernel_rfl) (by kernel_rfl) (fun _ _ _ h => h) (Or.inl ⟨by rfl, fun X hS => ?_⟩) hHeld ?_
    · obtain ⟨s0, s1, s2, s3, s4, s5, s6, s7, s8, s9⟩ := hS
      have hzn := HZN.out; have hzw := HZW.out; have han := HAN.out; have hk1 : (0 : Int) ≤ an := (by omega); have hk2 : (an : Int) ≤ 8192 := (by omega); have hk4 : ¬ (8192 < (an : Int)) := (by omega)
      go_simp
    try simp only [Act.put, List.getElem_toArray, List.getElem_cons_zero, List.getElem_cons_succ, List.setIfInBounds_toArray, List.set_cons_zero, List.set_cons_succ]
    refine wpAnyH_take (i := 28) (v := .bool true) rfl (by kernel_rfl) (by kernel_rfl) (by kernel_rfl) (fun _ _ _ h => h) (Or.inl ⟨by rfl, fun X hS => ?_⟩) hHeld ?_
    · obtain ⟨s0, s1, s2, s3, s4, s5, s6, s7, s8, s9⟩ := hS
      have he := HE1.out
      go_simp
    try simp only [Act.put, List.getElem_toArray, List.getElem_cons_zero, List.getElem_cons_succ, List.setIfInBounds_toArray, List.set_cons_zero, List.set_cons_succ]
    refine wpAnyH_take (i := 29) (v := .bool true) rfl (by kernel_rfl) (by kernel_rfl) (by kernel_rfl) (fun _ _ _ h => h) (Or.inl ⟨by rfl, fun X hS => ?_⟩) hHeld ?_
    · obtain ⟨s0, s1, s2, s3, s4, s5, s6, s7, s8, s9⟩ := hS
      go_simp
    try simp only [Act.put, List.getElem_toArray, List.getElem_cons_zero, List.getElem_cons_succ, List.setIfInBounds_toArray, List.set_cons_zero, List.set_cons_succ]
    refine wpAnyH_take (i := 30) (v := .bool true) rfl (by kernel_rfl) (by kernel_rfl) (by kernel_rfl) (fun _ _ _ h => h) (Or.inl ⟨by rfl, fun X hS => ?_⟩) hHeld ?_
    · obtain ⟨s0, s1, s2, s3, s4, s5, s6, s7, s8, s9⟩ := hS
      go_simp
    try simp only [Act.put, List.getElem_toArray, List.getElem_cons_zero, List.getElem_cons_succ, List.setIfInBounds_toArray, List.set_cons_zero, List.set_cons_succ]
    refine wpAnyH_take (i := 31) (v := .string N) rfl (by kernel_rfl) (by kernel_rfl) (by kernel_rfl) (fun _ _ _ h => h) (Or.inl ⟨by rfl, fun X hS => ?_⟩) hHeld ?_
    · obtain ⟨s0, s1, s2, s3, s4, s5, s6, s7, s8, s9⟩ := hS
      go_simp
    try simp only [Act.put, List.getElem_toArray, List.getElem_cons_zero, List.getElem_cons_succ, List.setIfInBounds_toArray, List.set_cons_zero, List.set_cons_succ]
    refine wpAnyH_take (i := 32) (v := .pointer (some ⟨B, 0, none⟩)) rfl (by kernel_rfl) (by kernel_rfl) (by kernel_rfl) (fun _ _ _ h => h) (Or.inl ⟨by rfl, fun X hS => ?_⟩) hHeld ?_
    · obtain ⟨s0, s1, s2, s3, s4, s5, s6, s7, s8, s9⟩ := hS
      go_simp
    try simp only [Act.put, List.getElem_toArray, List.getElem_cons_zero, List.getElem_cons_succ, List.setIfInBounds_toArray, List.set_cons_zero, List.set_cons_succ]
    refine wpAnyH_take (i := 33) (v := .int .i64 an) rfl (by kernel_rfl) (by kernel_rfl) (by kernel_rfl) (fun _ _ _ h => h) (Or.inl ⟨by rfl, fun X hS => ?_⟩) hHeld ?_
    · obtain ⟨s0, s1, s2, s3, s4, s5, s6, s7, s8, s9⟩ := hS
      go_simp
    try simp only [Act.put, List.getElem_toArray, List.getElem_cons_zero, List.getElem_cons_succ, List.setIfInBounds_toArray, List.set_cons_zero, List.set_cons_succ]
    refine wpAnyH_take (i := 34) (v := .int .i64 ((an : Int) + 32)) rfl (by kernel_rfl) (by kernel_rfl) (by kernel_rfl) (fun _ _ _ h => h) (Or.inl ⟨by rfl, fun X hS => ?_⟩) hHeld ?_
    · obtain ⟨s0, s1, s2, s3, s4, s5, s6, s7, s8, s9⟩ := hS
      have han := HAN.out; have hq : IntKind.i64.wrap ((an : Int) + 32) = (an : Int) + 32 := (IntWalk.i64_in _ (by omega))
      go_simp
    try simp only [Act.put, List.getElem_toArray, List.getElem_cons_zero, List.getElem_cons_succ, List.setIfInBounds_toArray, List.set_cons_zero, List.set_cons_succ]
    refine wpAnyH_take (i := 35) (v := .string (N.extract (an + 32) 8192)) rfl (by kernel_rfl) (by kernel_rfl) (by kernel_rfl) (fun _ _ _ h => h) (Or.inl ⟨by rfl, fun X hS => ?_⟩) hHeld ?_
    · obtain ⟨s0, s1, s2, s3, s4, s5, s6, s7, s8, s9⟩ := hS
      have hzn := HZN.out; have hzw := HZW.out; have han := HAN.out; have hk1 : (0 : Int) ≤ (an : Int) + 32 := (by omega); have hk2 : (an : Int) + 32 ≤ 8192 := (by omega); have hk3 : ((an : Int) + 32).toNat = an + 32 := (by omega); have hk4 : ¬ (8192 < (an : Int) + 32) := (by omega)
      go_simp
    try simp only [Act.put, List.getElem_toArray, List.getElem_cons_zero, List.getElem_cons_succ, List.setIfInBounds_toArray, List.set_cons_zero, List.set_cons_succ]
    refine wpAnyH_take (i := 36) (v := .string W) rfl (by kernel_rfl) (by kernel_rfl) (by kernel_rfl) (fun _ _ _ h => h) (Or.inl ⟨by rfl, fun X hS => ?_⟩) hHeld ?_
    · obtain ⟨s0, s1, s2, s3, s4, s5, s6, s7, s8, s9⟩ := hS
      go_simp
    try simp only [Act.put, List.getElem_toArray, List.getElem_cons_zero, List.getElem_cons_succ, List.setIfInBounds_toArray, List.set_cons_zero, List.set_cons_succ]
    refine wpAnyH_take (i := 37) (v := .pointer (some ⟨B, 0, none⟩)) rfl (by kernel_rfl) (by kernel_rfl) (by kernel_rfl) (fun _ _ _ h => h) (Or.inl ⟨by rfl, fun X hS => ?_⟩) hHeld ?_
    · obtain ⟨s0, s1, s2, s3, s4, s5, s6, s7, s8, s9⟩ := hS
      go_simp
    try simp only [Act.put, List.getElem_toArray, List.getElem_cons_zero, List.getElem_cons_succ, List.setIfInBounds_toArray, List.set_cons_zero, List.set_cons_succ]
    refine wpAnyH_take (i := 38) (v := .int .i64 an) rfl (by kernel_rfl) (by kernel_rfl) (by kernel_rfl) (fun _ _ _ h => h) (Or.inl ⟨by rfl, fun X hS => ?_⟩) hHeld ?_
    · obtain ⟨s0, s1, s2, s3, s4, s5, s6, s7, s8, s9⟩ := hS
      go_simp
    try simp only [Act.put, List.getElem_toArray, List.getElem_cons_zero, List.getElem_cons_succ, List.setIfInBounds_toArray, List.set_cons_zero, List.set_cons_succ]
    refine wpAnyH_take (i := 39) (v := .int .i64 ((an : Int) + 32)) rfl (by kernel_rfl) (by kernel_rfl) (by kernel_rfl) (fun _ _ _ h => h) (Or.inl ⟨by rfl, fun X hS => ?_⟩) hHeld ?_
    · obtain ⟨s0, s1, s2, s3, s4, s5, s6, s7, s8, s9⟩ := hS
      have han := HAN.out; have hq : IntKind.i64.wrap ((an : Int) + 32) = (an : Int) + 32 := (IntWalk.i64_in _ (by omega))
      go_simp
    try simp only [Act.put, List.getElem_toArray, List.getElem_cons_zero, List.getElem_cons_succ, List.setIfInBounds_toArray, List.set_cons_zero, List.set_cons_succ]
    refine wpAnyH_take (i := 40) (v := .string (W.extract (an + 32) 8192)) rfl (by kernel_rfl) (by kernel_rfl) (by kernel_rfl) (fun _ _ _ h => h) (Or.inl ⟨by rfl, fun X hS => ?_⟩) hHeld ?_
    · obtain ⟨s0, s1, s2, s3, s4, s5, s6, s7, s8, s9⟩ := hS
      have hzn := HZN.out; have hzw := HZW.out; have han := HAN.out; have hk1 : (0 : Int) ≤ (an : Int) + 32 := (by omega); have hk2 : (an : Int) + 32 ≤ 8192 := (by omega); have hk3 : ((an : Int) + 32).toNat = an + 32 := (by omega); have hk4 : ¬ (8192 < (an : Int) + 32) := (by omega)
      go_simp
    try simp only [Act.put, List.getElem_toArray, List.getElem_cons_zero, List.getElem_cons_succ, List.setIfInBounds_toArray, List.set_cons_zero, List.set_cons_succ]
    refine wpAnyH_take (i := 41) (v := .bool true) rfl (by kernel_rfl) (by kernel_rfl) (by kernel_rfl) (fun _ _ _ h => h) (Or.inl ⟨by rfl, fun X hS => ?_⟩) hHeld ?_
    · obtain ⟨s0, s1, s2, s3, s4, s5, s6, s7, s8, s9⟩ := hS
      have he := HE2.out
      go_simp
    try simp only [Act.put, List.getElem_toArray, List.getElem_cons_zero, List.getElem_cons_succ, List.setIfInBounds_toArray, List.set_cons_zero, List.set_cons_succ]
    refine wpAnyH_take (i := 42) (v := .bool true) rfl (by kernel_rfl) (by kernel_rfl) (by kernel_rfl) (fun _ _ _ h => h) (Or.inl ⟨by rfl, fun X hS => ?_⟩) hHeld ?_
    · obtain ⟨s0, s1, s2, s3, s4, s5, s6, s7, s8, s9⟩ := hS
      go_simp
    try simp only [Act.put, List.getElem_toArray, List.getElem_cons_zero, List.getElem_cons_succ, List.setIfInBounds_toArray, List.set_cons_zero, List.set_cons_succ]
    refine wpAnyH_take (i := 43) (v := .bool true) rfl (by kernel_rfl) (by kernel_rfl) (by kernel_rfl) (fun _ _ _ h => h) (Or.inl ⟨by rfl, fun X hS => ?_⟩) hHeld ?_
    · obtain ⟨s0, s1, s2, s3, s4, s5, s6, s7, s8, s9⟩ := hS
      go_simp
    try simp only [Act.put, List.getElem_toArray, List.getElem_cons_zero, List.getElem_cons_succ, List.setIfInBounds_toArray, List.set_cons_zero, List.set_cons_succ]
    refine wpAnyH_take (i := 44) (v := .string (strL (List.replicate 32 0))) rfl (by kernel_rfl) (by kernel_rfl) (by kernel_rfl) (fun _ _ _ h => h) (Or.inl ⟨by rfl, fun X hS => ?_⟩) hHeld ?_
    · obtain ⟨s0, s1, s2, s3, s4, s5, s6, s7, s8, s9⟩ := hS
      go_simp
    try simp only [Act.put, List.getElem_toArray, List.getElem_cons_zero, List.getElem_cons_succ, List.setIfInBounds_toArray, List.set_cons_zero, List.set_cons_succ]
    have HMK0 := run_bytes (a := 0) 32 (fun _ => 0) (by omega) z2.drew
    have HMK : (Instr.makeSlice 114 (.int .i64 32) (.int .i64 32)).run Try.prog z2.drew = .ok (.slice (some ⟨z2.drew.heap.size, 0, none⟩) 32 32) (z2.drew.alloc (.cells (outV (a := 0) (n := 32) (fun _ => 0) []) 5)) := HMK0
    have HCV : (convert 114 9 (.slice (some ⟨z2.drew.heap.size, 0, none⟩) 32 32)).run Try.prog (z2.drew.alloc (.cells (outV (a := 0) (n := 32) (fun _ => 0) []) 5)) = .ok (.string (strL (List.replicate 32 0))) (z2.drew.alloc (.cells (outV (a := 0) (n := 32) (fun _ => 0) []) 5)) := by
      have h := run_convert_bytes_arg (P := Try.prog) (z2.drew.alloc (.cells (outV (a := 0) (n := 32) (fun _ => 0) []) 5)) 114 5 Try.underlying114 Try.underlying5 z2.drew.heap.size 0 32 32 ((List.range 32).map fun i => 0) (by simp) (fun i hi => by
        rw [(cell_blk (heap_new z2.drew _) _).1, Nat.zero_add, outV_get _ [] i hi]
        simp [List.getD_eq_getElem?_getD, hi, cov]) 9 Try.underlying9
      have e2 : strOfNums ((List.range 32).map fun i => 0) = strL (List.replicate 32 0) := by
        have e : ∀ l : List Nat, ((l.map fun _ => (0 : Int)).map fun n : Int => UInt8.ofNat n.toNat) = List.replicate l.length 0 := by
          intro l
          induction l with
          | nil => rfl
          | cons a l ih => rw [List.map_cons, List.map_cons, ih, List.length_cons, List.replicate_succ]; rfl
        unfold strOfNums strL
        rw [e, List.length_range]
      rw [e2] at h
      exact h
    have hS1 := hHeld.below (bel1 z2.drew (.cells (outV (a := 0) (n := 32) (fun _ => 0) []) 5))
    have HBF := Lib.hid (HBY2.out.trans ((bel1 z2.drew (.cells (outV (a := 0) (n := 32) (fun _ => 0) []) 5)).mono HBY2.out.size))
    clear HMK0
    generalize (z2.drew.alloc (.cells (outV (a := 0) (n := 32) (fun _ => 0) []) 5)) = z3 at *
    generalize z2.drew = z1 at *
    generalize z1.heap.size = ZB at *
    have HCVH := Lib.hid HCV
    clear HCV
    refine wpAnyH_ready (rs := [45]) (by kernel_rfl) (by simp) (AllReadyH.cons rfl (fun K1 hK1 => ?_) AllReadyH.nil)
    go_simp
    clear hHeld HBY2 HMK
    refine hK1.out _ _ hS1 (fun hHeld => ?_)
    clear hK1 hS1
    try simp only [Act.put, List.getElem_toArray, List.getElem_cons_zero, List.getElem_cons_succ, List.setIfInBounds_toArray, List.set_cons_zero, List.set_cons_succ]
    have HCV := HCVH.out
    refine wpAnyH_ready (rs := [46]) (by kernel_rfl) (by simp) (AllReadyH.cons rfl (fun K1 hK1 => ?_) AllReadyH.nil)
    go_simp
    refine hK1.out _ _ hHeld (fun hHeld => ?_)
    clear hK1 HCV
    try simp only [Act.put, List.getElem_toArray, List.getElem_cons_zero, List.getElem_cons_succ, List.setIfInBounds_toArray, List.set_cons_zero, List.set_cons_succ]
    refine wpAnyH_take (i := 47) (v := .bool true) rfl (by kernel_rfl) (by kernel_rfl) (by kernel_rfl) (fun _ _ _ h => h) (Or.inl ⟨by rfl, fun X hS => ?_⟩) hHeld ?_
    · obtain ⟨s0, s1, s2, s3, s4, s5, s6, s7, s8, s9⟩ := hS
      go_simp
    try simp only [Act.put, List.getElem_toArray, List.getElem_cons_zero, List.getElem_cons_succ, List.setIfInBounds_toArray, List.set_cons_zero, List.set_cons_succ]
    refine wpAnyH_take (i := 48) (v := .bool true) rfl (by kernel_rfl) (by kernel_rfl) (by kernel_rfl) (fun _ _ _ h => h) (Or.inl ⟨by rfl, fun X hS => ?_⟩) hHeld ?_
    · obtain ⟨s0, s1, s2, s3, s4, s5, s6, s7, s8, s9⟩ := hS
      go_simp
    try simp only [Act.put, List.getElem_toArray, List.getElem_cons_zero, List.getElem_cons_succ, List.setIfInBounds_toArray, List.set_cons_zero, List.set_cons_succ]
    refine wpAnyH_take (i := 49) (v := .bool true) rfl (by kernel_rfl) (by kernel_rfl) (by kernel_rfl) (fun _ _ _ h => h) (Or.inl ⟨by rfl, fun X hS => ?_⟩) hHeld ?_
    · obtain ⟨s0, s1, s2, s3, s4, s5, s6, s7, s8, s9⟩ := hS
      go_simp
    try simp only [Act.put, List.getElem_toArray, List.getElem_cons_zero, List.getElem_cons_succ, List.setIfInBounds_toArray, List.set_cons_zero, List.set_cons_succ]
    refine wpAnyH_take (i := 50) (v := .int .i64 7) rfl (by kernel_rfl) (by kernel_rfl) (by kernel_rfl) (fun _ _ _ h => h) (Or.inl ⟨by rfl, fun X hS => ?_⟩) hHeld ?_
    · obtain ⟨s0, s1, s2, s3, s4, s5, s6, s7, s8, s9⟩ := hS
      go_simp
    try simp only [Act.put, List.getElem_toArray, List.getElem_cons_zero, List.getElem_cons_succ, List.setIfInBounds_toArray, List.set_cons_zero, List.set_cons_succ]
    refine wpAnyH_take (i := 51) (v := .bool true) rfl (by kernel_rfl) (by kernel_rfl) (by kernel_rfl) (fun _ _ _ h => h) (Or.inl ⟨by rfl, fun X hS => ?_⟩) hHeld ?_
    · obtain ⟨s0, s1, s2, s3, s4, s5, s6, s7, s8, s9⟩ := hS
      go_simp
    try simp only [Act.put, List.getElem_toArray, List.getElem_cons_zero, List.getElem_cons_succ, List.setIfInBounds_toArray, List.set_cons_zero, List.set_cons_succ]
    refine wpAnyH_take (i := 52) (v := .bool true) rfl (by kernel_rfl) (by kernel_rfl) (by kernel_rfl) (fun _ _ _ h => h) (Or.inl ⟨by rfl, fun X hS => ?_⟩) hHeld ?_
    · obtain ⟨s0, s1, s2, s3, s4, s5, s6, s7, s8, s9⟩ := hS
      go_simp
    try simp only [Act.put, List.getElem_toArray, List.getElem_cons_zero, List.getElem_cons_succ, List.setIfInBounds_toArray, List.set_cons_zero, List.set_cons_succ]
    refine wpAnyH_take (i := 53) (v := .bool true) rfl (by kernel_rfl) (by kernel_rfl) (by kernel_rfl) (fun _ _ _ h => h) (Or.inl ⟨by rfl, fun X hS => ?_⟩) hHeld ?_
    · obtain ⟨s0, s1, s2, s3, s4, s5, s6, s7, s8, s9⟩ := hS
      go_simp
    try simp only [Act.put, List.getElem_toArray, List.getElem_cons_zero, List.getElem_cons_succ, List.setIfInBounds_toArray, List.set_cons_zero, List.set_cons_succ]
    refine wpAnyH_done (by kernel_rfl) ?_ _
    clear hHeld
    go_wp2_with fail
    go_ret
    exact ⟨rfl, HBF.out⟩
  · have hE : (∃ er : Int, (er != 0) = true ∧ Calls Try.prog 45 #[.pointer (some ⟨A, 0, none⟩), cV a o u x] w5 (Gives (.int .i64 er) w5)) := by
      by_cases hmay : mayB a o x = true
      · have hmy := (mayB_iff a o x).1 hmay
        refine ⟨3, rfl, write_range HX5.out a o u x HCK.out.a1 hmay ?_⟩
        rw [there2, if_neg (by intro hh; exact hgood ⟨hmay, hh.2.2⟩)]; decide
      · exact ⟨2, rfl, write_arg HX5.out a o u x HCK.out.a1 (by simpa using hmay)⟩
    obtain ⟨er, her, hcall⟩ := hE
    have HCL := Lib.hid hcall
    clear hcall hgood
    go_wp2_with fail
    refine HCL.out.mono ?_
    rintro e w6 ⟨rfl, hb⟩
    have HX6 := Lib.hid (HX5.out.below hb)
    have HB6 := Lib.hid (HB5.out.below HX5.out hb)
    clear hb HX5 HB5 HC5 c0 c1 c2 c3 HCL
    go_wp2_with fail
    refine (on_abytes HX6.out 0 8192 (by omega)).mono ?_
    rintro e w7 ⟨rfl, hb⟩
    rw [HBY.out, there2, if_pos (by omega), HW.out]
    have HB7 := Lib.hid (HB6.out.below HX6.out hb)
    clear hb HX6 HB6
    go_wp2_with fail
    go_ret
    exact ⟨rfl, HB7.out.bel⟩
end Go.Proofs.Ytglfllnemenhnaa.Bt
