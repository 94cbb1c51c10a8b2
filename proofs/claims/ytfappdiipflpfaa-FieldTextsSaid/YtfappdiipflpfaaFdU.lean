/- The walk of FieldTexts. -/
import Derived.Test.YtfappdiipflpfaaFdT
import Derived.Test.YtfappdiipflpfaaShRep
namespace Go.Proofs.Ytfappdiipflpfaa.Bt
open Go Go.RowKit Go.Shelf
set_option linter.unusedVariables false
set_option linter.unusedSimpArgs false

theorem rep255 : ∀ k : Nat, Lib.repeatL [255] k = List.replicate k (255 : UInt8)
  | 0 => rfl
  | k + 1 => by rw [show Lib.repeatL [255] (k + 1) = [255] ++ Lib.repeatL [255] k from rfl, rep255 k]; rfl
theorem rep255_any (k : Nat) (hk : k ≤ 16384) (w : World) : Calls Try.prog 53 #[.string ⟨#[255]⟩, .int .i64 k] w (Gives (.string (strL (List.replicate k 255))) w) := by
  have h := Try.strings_Repeat ⟨#[255]⟩ k w (by omega) (by show 1 * k ≤ _; omega)
  have e : (Lib.repeatL (⟨#[255]⟩ : ByteArray).data.toList k) = List.replicate k 255 := rep255 k
  rw [e] at h
  exact h
def m255 : Nat → UInt8 := putM (fun _ => 0) 0 (List.replicate 4096 255)
theorem m255_all : getM m255 0 4096 = List.replicate 4096 255 := by
  have h := getM_putM (fun _ => 0) 0 (List.replicate 4096 (255 : UInt8))
  rw [List.length_replicate] at h
  exact h
theorem fill255 : fillS (fullS 1 (fun _ => 0)) 0 4096 255 = fullS 1 m255 := by
  unfold fillS
  rw [if_pos]
  · rfl
  · show thereE 1 [0, 1] 0 4096 = 0
    rw [thereE_full (by omega) (by omega), if_pos (by omega)]
theorem there255 (m : Nat → UInt8) : thereE (fullS 1 m).L (fullS 1 m).es 0 4096 = 0 := by
  show thereE 1 [0, 1] 0 4096 = 0
  rw [thereE_full (by omega) (by omega), if_pos (by omega)]
theorem by255 (m : Nat → UInt8) : byV (fullS 1 m) 0 4096 = strL (getM m 0 4096) := by
  unfold byV; rw [if_pos (there255 m)]; rfl
/-- what the statement holds behind its page -/
structure TxAt (V A sz : Nat) (m : Nat → UInt8) (w x : World) : Prop where
  v : VC V (some ⟨A, 0, none⟩) 10 sz x
  o : OB A (fullS 1 m) w x
theorem TxAt.below {V A sz : Nat} {m : Nat → UInt8} {w x y : World} (h : TxAt V A sz m w x) (hb : Below x.heap.size x y) : TxAt V A sz m w y := ⟨h.v.below hb, h.o.below hb⟩
theorem TxAt.went {V A sz : Nat} {m m' : Nat → UInt8} {w x y : World} (h : TxAt V A sz m w x) (ho : On A (fullS 1 m') y) (hg : Went A x y) : TxAt V A sz m' w y :=
  ⟨hg.keep h.o.o h.v (by decide) (by decide) (by decide), h.o.went ho hg⟩
set_option maxRecDepth 100000 in
set_option maxHeartbeats 4000000 in
theorem texts_no (sz : Nat) (hsz : sz ≤ 400) (a m er : Int) (s : ByteArray) (hs : s.size ≤ 300) (hne : er ≠ 0) (w : World)
    (HPT : ∀ A X, On A (fullS 1 m255) X → Calls Try.prog 65 #[vwV A 10 sz, .int .i64 a, .int .i64 m, .string s] X (Gives (.int .i64 er) X)) :
    Calls Try.prog 12 #[.int .i64 (sz : Int), .int .i64 a, .int .i64 m, .string s] w (TrueAt w) := by
  have HP := Lib.hid HPT
  have d1 : (er != 0) = true := by simpa using hne
  have s0 : ¬ (sz : Int) < 0 := by omega
  have HF := Lib.hid fill255; have HT := Lib.hid (there255 (fun _ => 0)); have HT2 := Lib.hid (there255 m255); have HBY := Lib.hid (by255 m255)
  have HM := Lib.hid m255_all
  clear HPT hne
  go_enter Try.func12, Try.ntmps12
  go_wp2_with fail
  refine (awake5_calls _).mono ?_
  rintro e w1 ⟨rfl, hb1⟩
  have B1 := Lib.hid hb1
  clear hb1
  go_wp2_with fail
  refine (page_any sz (by omega) _).mono ?_
  rintro e w2 ⟨A, b, rfl, ho⟩
  have HO2 : Hid (OB A (fullS 1 (fun _ => 0)) w w2) := Lib.hid ⟨ho.o, ho.b.rebase B1.out⟩
  clear ho B1
  go_upto_region 6 with fail
  obtain ⟨q1, q2, q3⟩ := three_new w2 #[.pointer (some ⟨A, 0, none⟩), .int .i64 10, .int .i64 (sz : Int)] #[.slice (some ⟨b, 0, none⟩) 1 1, .int .i64 (-1)] #[.int .i64 10, .int .i64 (sz : Int)] 53 59 62
  have hb3 := (three_blocks w2 #[.pointer (some ⟨A, 0, none⟩), .int .i64 10, .int .i64 (sz : Int)] #[.slice (some ⟨b, 0, none⟩) 1 1, .int .i64 (-1)] #[.int .i64 10, .int .i64 (sz : Int)] 53 59 62).2
  have hTx : TxAt w2.heap.size A sz (fun _ => 0) w _ := ⟨q1, HO2.out.below hb3⟩
  obtain ⟨x, hx⟩ : ∃ x, (((w2.alloc (.cells #[.pointer (some ⟨A, 0, none⟩), .int .i64 10, .int .i64 (sz : Int)] 53)).alloc (.cells #[.slice (some ⟨b, 0, none⟩) 1 1, .int .i64 (-1)] 59)).alloc (.cells #[.int .i64 10, .int .i64 (sz : Int)] 62)) = x := ⟨_, rfl⟩
  obtain ⟨V, hV⟩ : ∃ V, w2.heap.size = V := ⟨_, rfl⟩
  rw [hx] at hTx ⊢
  rw [hV] at hTx ⊢
  have HX := Lib.hid hTx
  clear hx hV q1 q2 q3 hb3 hTx HO2
  go_wp2_with fail
  have hfl := on_afill HX.out.o.o 0 4096 (by omega) 255
  rw [show (((255 : UInt8).toNat : Nat) : Int) = 255 from rfl] at hfl
  refine hfl.mono ?_
  clear hfl
  rintro e w3 ⟨rfl, hx, hg⟩
  rw [HT.out]
  rw [HF.out] at hx
  have HX3 := Lib.hid (HX.out.went hx hg)
  clear hx hg HX
  have c0 := (cell_blk HX3.out.v 0).1; have c1 := (cell_blk HX3.out.v 1).1; have c2 := (cell_blk HX3.out.v 2).1
  go_wp2_with fail
  refine (HP.out A _ HX3.out.o.o).mono ?_
  rintro e w4 ⟨rfl, hb⟩
  have HX4 := Lib.hid (HX3.out.below hb)
  clear hb c0 c1 c2 HX3
  go_wp2_with fail
  refine (on_abytes HX4.out.o.o 0 4096 (by omega)).mono ?_
  rintro e w5 ⟨rfl, hb⟩
  rw [HT2.out, HBY.out, HM.out]
  have HX5 := Lib.hid (HX4.out.below hb)
  clear hb HX4
  obtain ⟨rp, hrp⟩ : ∃ rp, strL (List.replicate 4096 255) = rp := ⟨_, rfl⟩
  rw [hrp]
  have HR := Lib.hid hrp
  clear hrp
  have hq1 : (rp.toList == rp.toList) = true := beq_self_eq_true _
  go_wp2_with fail
  refine (rep255_any 4096 (by omega) _).mono ?_
  rintro e w6 ⟨rfl, hb⟩
  rw [HR.out]
  have HX6 := Lib.hid (HX5.out.below hb)
  clear hb HX5
  go_wp2_with fail
  go_ret
  exact ⟨rfl, HX6.out.o.b.bel⟩
theorem m2_head (an : Nat) (x : ByteArray) (hx : x.size ≤ 255) : (putM m255 an (UInt8.ofNat x.size :: x.data.toList) an).toNat = x.size := by
  have := putM_in m255 an (UInt8.ofNat x.size :: x.data.toList) (i := 0) (by simp)
  rw [Nat.add_zero] at this
  rw [this]
  show (UInt8.ofNat x.size).toNat = _
  simp; omega
theorem m2_tail (an : Nat) (x : ByteArray) : strL (getM (putM m255 an (UInt8.ofNat x.size :: x.data.toList)) (an + 1) x.size) = x := by
  have h : getM (putM m255 an (UInt8.ofNat x.size :: x.data.toList)) (an + 1) x.size = x.data.toList := by
    apply List.ext_getElem
    · rw [getM_length, bytes_len]
    · intro i h1 h2
      have hi : i < x.size := by rw [getM_length] at h1; exact h1
      have e := getM_get (putM m255 an (UInt8.ofNat x.size :: x.data.toList)) (an + 1) x.size i hi
      rw [List.getD_eq_getElem?_getD, List.getElem?_eq_getElem h1] at e
      have e2 := putM_in m255 an (UInt8.ofNat x.size :: x.data.toList) (i := i + 1) (by rw [List.length_cons, bytes_len]; omega)
      rw [show an + 1 + i = an + (i + 1) by omega, e2] at e
      simp only [Option.getD_some] at e
      rw [e, List.getD_eq_getElem?_getD, List.getElem?_cons_succ, List.getElem?_eq_getElem h2]; rfl
  rw [h]; rfl
theorem m255_in (i : Nat) (h : i < 4096) : m255 i = 255 := by
  unfold m255
  have := putM_in (fun _ => 0) 0 (List.replicate 4096 (255 : UInt8)) (i := i) (by rw [List.length_replicate]; exact h)
  rw [Nat.zero_add] at this
  rw [this, List.getD_eq_getElem?_getD, List.getElem?_replicate, if_pos h]; rfl
/-- what lies ahead of the place, and behind it -/
theorem m2_ahead (an n : Nat) (y : List UInt8) (hn : n ≤ an) (hn2 : an ≤ 4096) : (getM (putM m255 an y) 0 4096).take n = List.replicate n 255 := by
  apply List.ext_getElem
  · rw [List.length_take, getM_length, List.length_replicate]; omega
  · intro i h1 h2
    rw [List.length_replicate] at h2
    rw [List.getElem_replicate, List.getElem_take]
    simp only [getM, List.getElem_map, List.getElem_range, Nat.zero_add]
    rw [putM_out _ _ _ (.inl (by omega)), m255_in i (by omega)]
theorem m2_behind (an n : Nat) (y : List UInt8) (hn : an + y.length ≤ n) (hn2 : n ≤ 4096) : (getM (putM m255 an y) 0 4096).drop n = List.replicate (4096 - n) 255 := by
  apply List.ext_getElem
  · rw [List.length_drop, getM_length, List.length_replicate]
  · intro i h1 h2
    rw [List.length_replicate] at h2
    rw [List.getElem_replicate, List.getElem_drop]
    simp only [getM, List.getElem_map, List.getElem_range, Nat.zero_add]
    rw [putM_out _ _ _ (.inr (by omega)), m255_in _ (by omega)]
theorem strL_ext {l : List UInt8} {b : ByteArray} (h : b.data.toList = l) : strL l = b := by
  subst h; rfl
theorem ex_take (al : ByteArray) (n : Nat) : (al.extract 0 n).data.toList = al.data.toList.take n := by
  simp [ByteArray.data_extract]
theorem ex_drop (al : ByteArray) (n : Nat) : (al.extract n al.size).data.toList = al.data.toList.drop n := by
  rw [ByteArray.data_extract, Array.toList_extract]
  have : al.data.toList.length = al.size := bytes_len al
  rw [List.extract_eq_take_drop, List.take_of_length_le (by rw [List.length_drop]; omega)]
set_option maxRecDepth 100000 in
set_option maxHeartbeats 40000000 in
theorem texts_yes (sz : Nat) (hsz : sz ≤ 400) (at_ mn : Nat) (s : ByteArray) (hs : s.size ≤ mn) (hm : mn ≤ 255) (hfit : at_ + mn + 1 ≤ sz) (w : World) :
    Calls Try.prog 12 #[.int .i64 (sz : Int), .int .i64 (at_ : Int), .int .i64 (mn : Int), .string s] w (TrueAt w) := by
  have s0 : ¬ (sz : Int) < 0 := by omega
  have hs3 : s.size ≤ 300 := by omega
  have hmb : mostB mn = true := decide_eq_true ⟨by omega, by omega⟩
  have hadr : addrV 10 sz at_ ((mn : Int) + 1) = ((10 + at_ : Nat) : Int) := by unfold addrV; rw [if_pos (by omega)]; omega
  have hth : ∀ m : Nat → UInt8, thereE (fullS 1 m).L (fullS 1 m).es (addrV 10 sz at_ ((mn : Int) + 1)) ((mn : Int) + 1) = 0 := fun m => by
    rw [hadr]
    show thereE 1 [0, 1] _ _ = 0
    rw [thereE_full (by omega) (by omega), if_pos (by omega)]
  have HP := Lib.hid fun A X (h : On A (fullS 1 m255) X) => fput_yes h 10 sz (by omega) (by omega) at_ mn (by omega) s hmb (by omega) (10 + at_) hadr (hth m255)
  obtain ⟨m2, hm2⟩ : ∃ m2, putM m255 (10 + at_) (UInt8.ofNat s.size :: s.data.toList) = m2 := ⟨_, rfl⟩
  have htx : txtS (fullS 1 m255) (10 + at_) s = fullS 1 m2 := by rw [← hm2]; rfl
  rw [htx] at HP
  have HTX := Lib.hid fun A X (h : On A (fullS 1 m2) X) => ftext_yes h 10 sz (by omega) (by omega) at_ mn (by omega) hmb (10 + at_) s.size hadr (hth m2) (by show (m2 (10 + at_)).toNat = _; rw [← hm2]; exact m2_head _ s (by omega)) (by omega)
  have htl : strL (getM (fullS 1 m2).mm (10 + at_ + 1) s.size) = s := by show strL (getM m2 (10 + at_ + 1) s.size) = s; rw [← hm2]; exact m2_tail _ s
  rw [htl] at HTX
  have HF := Lib.hid fill255; have HT := Lib.hid (there255 (fun _ => 0)); have HT2 := Lib.hid (there255 m2); have HBY := Lib.hid (by255 m2)
  have HAH : Hid ((getM m2 0 4096).take (10 + at_) = List.replicate (10 + at_) 255) := Lib.hid (by rw [← hm2]; exact m2_ahead _ _ _ (Nat.le_refl _) (by omega))
  have HBH : Hid ((getM m2 0 4096).drop (10 + at_ + mn + 1) = List.replicate (4096 - (10 + at_ + mn + 1)) 255) := Lib.hid (by rw [← hm2]; exact m2_behind _ _ _ (by rw [List.length_cons, bytes_len]; omega) (by omega))
  have HGL := Lib.hid (getM_length m2 0 4096)
  clear hmb hadr hth hm2 htx htl
  go_enter Try.func12, Try.ntmps12
  go_wp2_with fail
  refine (awake5_calls _).mono ?_
  rintro e w1 ⟨rfl, hb1⟩
  have B1 := Lib.hid hb1
  clear hb1
  go_wp2_with fail
  refine (page_any sz (by omega) _).mono ?_
  rintro e w2 ⟨A, b, rfl, ho⟩
  have HO2 : Hid (OB A (fullS 1 (fun _ => 0)) w w2) := Lib.hid ⟨ho.o, ho.b.rebase B1.out⟩
  clear ho B1
  go_upto_region 6 with fail
  obtain ⟨q1, q2, q3⟩ := three_new w2 #[.pointer (some ⟨A, 0, none⟩), .int .i64 10, .int .i64 (sz : Int)] #[.slice (some ⟨b, 0, none⟩) 1 1, .int .i64 (-1)] #[.int .i64 10, .int .i64 (sz : Int)] 53 59 62
  have hb3 := (three_blocks w2 #[.pointer (some ⟨A, 0, none⟩), .int .i64 10, .int .i64 (sz : Int)] #[.slice (some ⟨b, 0, none⟩) 1 1, .int .i64 (-1)] #[.int .i64 10, .int .i64 (sz : Int)] 53 59 62).2
  have hTx : TxAt w2.heap.size A sz (fun _ => 0) w _ := ⟨q1, HO2.out.below hb3⟩
  obtain ⟨x, hx⟩ : ∃ x, (((w2.alloc (.cells #[.pointer (some ⟨A, 0, none⟩), .int .i64 10, .int .i64 (sz : Int)] 53)).alloc (.cells #[.slice (some ⟨b, 0, none⟩) 1 1, .int .i64 (-1)] 59)).alloc (.cells #[.int .i64 10, .int .i64 (sz : Int)] 62)) = x := ⟨_, rfl⟩
  obtain ⟨V, hV⟩ : ∃ V, w2.heap.size = V := ⟨_, rfl⟩
  rw [hx] at hTx ⊢
  rw [hV] at hTx ⊢
  have HX := Lib.hid hTx
  clear hx hV q1 q2 q3 hb3 hTx HO2
  go_wp2_with fail
  have hfl := on_afill HX.out.o.o 0 4096 (by omega) 255
  rw [show (((255 : UInt8).toNat : Nat) : Int) = 255 from rfl] at hfl
  refine hfl.mono ?_
  clear hfl
  rintro e w3 ⟨rfl, hx, hg⟩
  rw [HT.out]
  rw [HF.out] at hx
  have HX3 := Lib.hid (HX.out.went hx hg)
  clear hx hg HX
  have c0 := (cell_blk HX3.out.v 0).1; have c1 := (cell_blk HX3.out.v 1).1; have c2 := (cell_blk HX3.out.v 2).1
  go_wp2_with fail
  refine (HP.out A _ HX3.out.o.o).mono ?_
  rintro e w4 ⟨rfl, hx, hg⟩
  have HX4 := Lib.hid (HX3.out.went hx hg)
  clear hx hg c0 c1 c2 HX3
  go_wp2_with fail
  refine (on_abytes HX4.out.o.o 0 4096 (by omega)).mono ?_
  rintro e w5 ⟨rfl, hb⟩
  rw [HT2.out, HBY.out]
  have HX5 := Lib.hid (HX4.out.below hb)
  clear hb HX4
  obtain ⟨al, hal⟩ : ∃ al, strL (getM m2 0 4096) = al := ⟨_, rfl⟩
  rw [hal]
  have hals : al.size = 4096 := by rw [← hal]; show (getM m2 0 4096).toArray.size = _; rw [List.size_toArray, HGL.out]
  have HAL := Lib.hid hal; have HALS := Lib.hid hals
  clear hal hals
  have c0 := (cell_blk HX5.out.v 0).1; have c1 := (cell_blk HX5.out.v 1).1; have c2 := (cell_blk HX5.out.v 2).1
  go_wp2_with fail
  refine (HTX.out A _ HX5.out.o.o).mono ?_
  rintro e w6 ⟨rfl, hb⟩
  have HX6 := Lib.hid (HX5.out.below hb)
  clear hb HX5 c0 c1 c2
  go_wp2_with fail
  obtain ⟨n1, hn1⟩ : ∃ n, 10 + at_ = n := ⟨_, rfl⟩
  obtain ⟨n2, hn2⟩ : ∃ n, n1 + mn = n := ⟨_, rfl⟩
  obtain ⟨n3, hn3⟩ : ∃ n, n2 + 1 = n := ⟨_, rfl⟩
  obtain ⟨n4, hn4⟩ : ∃ n, 4085 - at_ = n := ⟨_, rfl⟩
  obtain ⟨n5, hn5⟩ : ∃ n, n4 - mn = n := ⟨_, rfl⟩
  have z1 : IntKind.i64.wrap (10 + (at_ : Int)) = (n1 : Int) := by rw [IntWalk.i64_in _ (by omega)]; omega
  have z2 : IntKind.i64.wrap ((n1 : Int) + mn) = (n2 : Int) := by rw [IntWalk.i64_in _ (by omega)]; omega
  have z3 : IntKind.i64.wrap ((n2 : Int) + 1) = (n3 : Int) := by rw [IntWalk.i64_in _ (by omega)]; omega
  have z4 : IntKind.i64.wrap (4085 - (at_ : Int)) = (n4 : Int) := by rw [IntWalk.i64_in _ (by omega)]; omega
  have z5 : IntKind.i64.wrap ((n4 : Int) - mn) = (n5 : Int) := by rw [IntWalk.i64_in _ (by omega)]; omega
  have l1 : n1 ≤ al.size := by rw [HALS.out]; omega
  have l3 : n3 ≤ al.size := by rw [HALS.out]; omega
  have l4 : n1 ≤ 16384 := by omega
  have l5 : n5 ≤ 16384 := by omega
  have hald : al.data.toList = getM m2 0 4096 := by rw [← HAL.out]; rfl
  have e1 : strL (List.replicate n1 255) = al.extract 0 n1 := by
    apply strL_ext; rw [ex_take, hald, ← hn1]; exact HAH.out
  have e3 : strL (List.replicate n5 255) = al.extract n3 al.size := by
    apply strL_ext; rw [ex_drop, hald, show n3 = 10 + at_ + mn + 1 by omega, show n5 = 4096 - (10 + at_ + mn + 1) by omega]; exact HBH.out
  clear hald
  have q0 : (s.toList == s.toList) = true := beq_self_eq_true _
  have q1 : ((al.extract 0 n1).toList == (al.extract 0 n1).toList) = true := beq_self_eq_true _
  have q3 : ((al.extract n3 al.size).toList == (al.extract n3 al.size).toList) = true := beq_self_eq_true _
  have E1 := Lib.hid e1; have E3 := Lib.hid e3
  have hb6 := HX6.out.o.b.bel
  clear e1 e3 hn1 hn2 hn3 hn4 hn5 s0 hs hs3 hm hfit hsz
  have HB6 := Lib.hid hb6
  clear hb6
  go_region_held3 (fun x => Below w.heap.size w x)
    (first | exact HB6.out.drew | assumption)
    (first | (go_at_call 53; (with_reducible refine (rep255_any n1 l4 _).mono ?_); rintro e x1 ⟨rfl, hb1⟩; rw [E1.out]; have k1 := HB6.out.drew.trans (hb1.mono HB6.out.size))
           | (go_at_call 53; (with_reducible refine (rep255_any n5 l5 _).mono ?_); rintro e x2 ⟨rfl, hb2⟩; rw [E3.out]; have k2 := k1.trans (hb2.mono k1.size)))
  go_wp2_with fail
  go_ret
  exact ⟨rfl, k2⟩
set_option maxRecDepth 100000 in
theorem texts_out (a0 a m : Int) (s : ByteArray) (hs : s.size ≤ 9223372036854775807) (ho : a0 < 0 ∨ 400 < a0 ∨ 300 < s.size) (w : World) :
    Calls Try.prog 12 #[.int .i64 a0, .int .i64 a, .int .i64 m, .string s] w (TrueAt w) := by
  have hc : a0 < 0 ∨ (¬ a0 < 0 ∧ 400 < a0) ∨ (¬ a0 < 0 ∧ ¬ 400 < a0 ∧ 300 < s.size) := by omega
  clear ho
  rcases hc with h1 | ⟨h1, h2⟩ | ⟨h1, h2, h3⟩
  all_goals
    go_enter Try.func12, Try.ntmps12
    go_wp2_with fail
    refine (awake5_calls _).mono ?_
    rintro e w1 ⟨rfl, hb1⟩
    go_wp2_with fail
    go_ret
    exact ⟨rfl, hb1⟩
theorem texts_all (a0 a m : Int) (s : ByteArray) (hs : s.size ≤ 9223372036854775807) (ha : a ≤ 9223372036854775807) (w : World) :
    Calls Try.prog 12 #[.int .i64 a0, .int .i64 a, .int .i64 m, .string s] w (TrueAt w) := by
  by_cases ho : a0 < 0 ∨ 400 < a0 ∨ 300 < s.size
  · exact texts_out a0 a m s hs ho w
  obtain ⟨sz, rfl⟩ : ∃ k : Nat, a0 = k := ⟨a0.toNat, by omega⟩
  have hsz : sz ≤ 400 := by omega
  have hs3 : s.size ≤ 300 := by omega
  cases hb : mostB m with
  | false => exact texts_no sz hsz a m 2 s hs3 (by omega) w fun A X h => fput_arg 10 sz a m s hs hb
  | true =>
    have hm : 0 ≤ m ∧ m ≤ 255 := of_decide_eq_true hb
    by_cases hl : m < s.size
    · exact texts_no sz hsz a m 16 s hs3 (by omega) w fun A X h => fput_long 10 sz a m s hs hb hl
    by_cases hf : 0 ≤ a ∧ a + m + 1 ≤ sz
    · obtain ⟨at_, rfl⟩ : ∃ k : Nat, a = k := ⟨a.toNat, by omega⟩
      obtain ⟨mn, rfl⟩ : ∃ k : Nat, m = k := ⟨m.toNat, by omega⟩
      exact texts_yes sz hsz at_ mn s (by omega) (by omega) (by omega) w
    · refine texts_no sz hsz a m 3 s hs3 (by omega) w fun A X h => fput_no h 10 sz (by omega) (by omega) a m ha s hs hb (by omega) ?_
      have : addrV 10 sz a (m + 1) = -1 := by unfold addrV; rw [if_neg (by omega)]
      rw [this]
      show thereE 1 [0, 1] _ _ = 3
      rw [thereE_full (by omega) (by omega), if_neg (by omega)]
end Go.Proofs.Ytfappdiipflpfaa.Bt
