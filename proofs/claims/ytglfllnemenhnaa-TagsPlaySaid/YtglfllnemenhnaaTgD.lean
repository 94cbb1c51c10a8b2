/- The contract of a table's Run. -/
import Derived.Test.YtglfllnemenhnaaTgC
import Derived.RegionTactic
import Derived.ChangeAlike
namespace Go.Proofs.Ytglfllnemenhnaa.Bt
open Go Go.RowKit Go.Shelf
set_option linter.unusedVariables false

/-- the first page from n - 1 on downwards that isn't so -/
def dnN (ins : Int → Bool) : Nat → Int
  | 0 => -1
  | n + 1 => if ins n then dnN ins n else n
def insI (c : Int → Int) (j : Int) : Bool := decide (tagS (c j) = 1)
def runF (c : Int → Int) (i : Int) : Int := dnN (insI c) (i.toNat + 1)
def runOk (c : Int → Int) (i : Int) : Bool := begB (tagS (c (runF c i))) && decide (i - runF c i < ((2 ^ (tagO (c (runF c i))).toNat : Nat) : Int))
def runV (c : Int → Int) (i : Int) : Value := if runOk c i then .tuple #[.int .i64 (runF c i), tagV (tagS (c (runF c i))) (tagO (c (runF c i))), .int .i64 0] else .tuple #[.int .i64 0, tagV 0 0, .int .i64 8]
theorem dnN_b (ins : Int → Bool) (n : Nat) : -1 ≤ dnN ins n ∧ dnN ins n < n := by
  induction n with
  | zero => unfold dnN; omega
  | succ n ih => unfold dnN; split <;> omega
theorem gC_neg (s : ASt) (va vs : Nat) {i : Int} (hi : i < 0) : gC s va vs i = 0 := by
  unfold gC
  have : addrV va vs i 1 = -1 := by unfold addrV; rw [if_neg (by omega)]
  rw [this]
  unfold ldV
  rw [if_neg]
  unfold numE; rw [show wholeB 1 = true from rfl, if_pos rfl]
  unfold thereE thereB
  rw [show decide (0 ≤ (-1 : Int) ∧ (0 : Int) ≤ 1 ∧ (1 : Int) ≤ (s.L : Int) * 4096 - -1) = false from by simp, Bool.false_and, if_neg (by decide)]
  decide
/-- a table's variable, and two tags -/
structure RR (B R T : Nat) (pa : Option Addr) (va vs : Nat) (a b c d : Int) (x : World) : Prop where
  v : VT B pa va vs x
  r : x.heap[R]? = some (.cells #[.int .u8 a, .int .u8 b] 86 (0, 0))
  t : x.heap[T]? = some (.cells #[.int .u8 c, .int .u8 d] 86 (0, 0))
  br : B ≠ R
  bt : B ≠ T
  rt : R ≠ T
theorem RR.below {B R T : Nat} {pa : Option Addr} {va vs : Nat} {a b c d : Int} {x y : World} (h : RR B R T pa va vs a b c d x) (hb : Below x.heap.size x y) : RR B R T pa va vs a b c d y :=
  { h with v := h.v.below hb, r := pair_at hb h.r, t := pair_at hb h.t }
theorem RR.all {B R T : Nat} {pa : Option Addr} {va vs : Nat} {a b c d : Int} {x : World} (h : RR B R T pa va vs a b c d x) :
    x.cell? ⟨B, 0, none⟩ = some (.pointer pa) ∧ x.cell? ⟨B, 1, none⟩ = some (.int .i64 (va : Int)) ∧ x.cell? ⟨B, 2, none⟩ = some (.int .i64 (vs : Int)) ∧
    x.cell? ⟨R, 0, none⟩ = some (.int .u8 a) ∧ x.cell? ⟨R, 1, none⟩ = some (.int .u8 b) ∧ x.cell? ⟨T, 0, none⟩ = some (.int .u8 c) ∧ x.cell? ⟨T, 1, none⟩ = some (.int .u8 d) ∧
    x.frozen? ⟨R, 0, none⟩ = false ∧ x.frozen? ⟨R, 1, none⟩ = false ∧ x.frozen? ⟨T, 0, none⟩ = false ∧ x.frozen? ⟨T, 1, none⟩ = false :=
  ⟨(cell_blk h.v 0).1, (cell_blk h.v 1).1, (cell_blk h.v 2).1, (cell_blk h.r 0).1, (cell_blk h.r 1).1, (cell_blk h.t 0).1, (cell_blk h.t 1).1, (cell_blk h.r 0).2, (cell_blk h.r 1).2, (cell_blk h.t 0).2, (cell_blk h.t 1).2⟩
theorem RR.setT {B R T : Nat} {pa : Option Addr} {va vs : Nat} {a b c d : Int} {x : World} (h : RR B R T pa va vs a b c d x) (u v : Int) :
    RR B R T pa va vs a b u v ((x.setCell ⟨T, 0, none⟩ (.int .u8 u)).setCell ⟨T, 1, none⟩ (.int .u8 v)) :=
  { h with v := (heap_far2 h.bt _ _).trans h.v, r := (heap_far2 h.rt _ _).trans h.r, t := pair_set h.t rfl _ _ }
theorem RR.setR {B R T : Nat} {pa : Option Addr} {va vs : Nat} {a b c d : Int} {x : World} (h : RR B R T pa va vs a b c d x) (u v : Int) :
    RR B R T pa va vs u v c d ((x.setCell ⟨R, 0, none⟩ (.int .u8 u)).setCell ⟨R, 1, none⟩ (.int .u8 v)) :=
  { h with v := (heap_far2 h.br _ _).trans h.v, r := pair_set h.r rfl _ _, t := (heap_far2 (Ne.symm h.rt) _ _).trans h.t }
theorem rr_new (pa : Option Addr) (va vs : Nat) (w w1 : World) (c d : Int) (hb : Below ((w.alloc (.cells #[.pointer pa, .int .i64 (va : Int), .int .i64 (vs : Int)] 72)).alloc (.cells #[.int .u8 0, .int .u8 0] 86)).heap.size ((w.alloc (.cells #[.pointer pa, .int .i64 (va : Int), .int .i64 (vs : Int)] 72)).alloc (.cells #[.int .u8 0, .int .u8 0] 86)) w1) :
    RR w.heap.size (w.heap.size + 1) w1.heap.size pa va vs 0 0 c d (w1.alloc (.cells #[.int .u8 c, .int .u8 d] 86)) ∧ Below w.heap.size w (w1.alloc (.cells #[.int .u8 c, .int .u8 d] 86)) := by
  obtain ⟨q1, q2⟩ := pairs_new w #[.pointer pa, .int .i64 (va : Int), .int .i64 (vs : Int)] #[.int .u8 0, .int .u8 0] 72 86
  have hs := hb.size
  simp at hs
  refine ⟨⟨VT.below (VT.below q1 hb) (bel1 _ _), pair_at (bel1 _ _) (pair_at hb q2), heap_new _ _, by omega, by omega, by omega⟩, ?_⟩
  exact ((below2 w _ _).trans (hb.mono (by simp; omega))).alloc (by omega) _
section
variable {A : Nat} {s : ASt} {w : World}
theorem trun_err (pa : Option Addr) (va vs : Nat) (i c d er : Int) (hne : er ≠ 0)
    (HC : ∀ X, Below w.heap.size w X → Calls Try.prog 37 #[tbP pa va vs, .int .i64 i] X (Gives (.tuple #[tagV c d, .int .i64 er]) X)) :
    Calls Try.prog 38 #[tbP pa va vs, .int .i64 i] w (Gives (.tuple #[.int .i64 0, tagV 0 0, .int .i64 er]) w) := by
  have d1 : (er != 0) = true := by simpa using hne
  have HC' := Lib.hid HC
  clear hne HC
  go_enter Try.func38, Try.ntmps38
  go_wp2_with fail
  refine (HC'.out _ (below2 _ _ _)).mono ?_
  rintro e w1 ⟨rfl, hb⟩
  have HR := Lib.hid (rr_new pa va vs w w1 c d hb)
  obtain ⟨c0, c1, c2, c3, c4, c5, c6, f3, f4, f5, f6⟩ := HR.out.1.all
  clear hb
  go_wp2_with fail
  have h3 := (HR.out.1.setR 0 0).r
  have g0 := (cell_blk h3 0).1; have g1 := (cell_blk h3 1).1
  exact bodyPost_ret (v := .tuple #[.int .i64 0, tagV 0 0, .int .i64 er]) (by simp [results, Try.results38, go_sem, g0, g1]) rfl ⟨rfl, (HR.out.2.setCell (p := ⟨w.heap.size + 1, 0, none⟩) (Nat.le_succ _) _).setCell (p := ⟨w.heap.size + 1, 1, none⟩) (Nat.le_succ _) _⟩
theorem trun_nil (i : Int) (hi : i ≤ 9223372036854775807) : Calls Try.prog 38 #[tbP none 0 0, .int .i64 i] w (Gives (.tuple #[.int .i64 0, tagV 0 0, .int .i64 1]) w) :=
  trun_err none 0 0 i 0 0 1 (by omega) fun X hX => tget_nil i hi
theorem trun_bad (h : On A s w) (va vs : Nat) (h1 : va ≤ 4294967296) (h2 : vs ≤ 4294967296) (i : Int) (hi : i ≤ 9223372036854775807) (he : gE s va vs i ≠ 0) :
    Calls Try.prog 38 #[tbP (some ⟨A, 0, none⟩) va vs, .int .i64 i] w (Gives (.tuple #[.int .i64 0, tagV 0 0, .int .i64 (gE s va vs i)]) w) :=
  trun_err _ va vs i _ _ _ he fun X hX => tget_on (h.below hX) va vs h1 h2 i hi
theorem gE_lt {va vs : Nat} {i : Int} (he : gE s va vs i = 0) : 0 ≤ i ∧ i < vs := by
  by_cases h : 0 ≤ i ∧ (0 : Int) ≤ 1 ∧ 1 ≤ (vs : Int) - i
  · omega
  · exfalso
    have ha : addrV va vs i 1 = -1 := by unfold addrV; rw [if_neg h]
    unfold gE at he
    rw [ha] at he
    unfold numE at he
    rw [show wholeB 1 = true from rfl, if_pos rfl] at he
    unfold thereE thereB at he
    rw [show decide (0 ≤ (-1 : Int) ∧ (0 : Int) ≤ 1 ∧ (1 : Int) ≤ (s.L : Int) * 4096 - -1) = false from by simp, Bool.false_and, if_neg (by decide)] at he
    exact absurd he (by decide)
theorem insI_iff (c : Int → Int) (j : Int) : insI c j = (tagS (c j) == 1) := by
  unfold insI; by_cases h : tagS (c j) = 1 <;> simp [h]
set_option maxRecDepth 100000 in
set_option maxHeartbeats 2000000 in
theorem trun_on (h : On A s w) (va vs : Nat) (h1 : va ≤ 4294967296) (h2 : vs ≤ 4294967296) (i : Int) (hi : i ≤ 9223372036854775807) (h0 : 0 ≤ i) (he : gE s va vs i = 0) :
    Calls Try.prog 38 #[tbP (some ⟨A, 0, none⟩) va vs, .int .i64 i] w (Gives (runV (gC s va vs) i) w) := by
  have hlt := gE_lt he
  have HG := Lib.hid fun X (hX : On A s X) (j : Int) (hj : j ≤ 9223372036854775807) => tget_on hX va vs h1 h2 j hj
  have HO := Lib.hid h
  have HE := Lib.hid he
  have HN := Lib.hid fun (j : Int) (hj : j < 0) => gC_neg s va vs hj
  have HCB := Lib.hid fun j => gC_b s va vs j
  have HF := Lib.hid (show runF (gC s va vs) i = dnN (insI (gC s va vs)) (i.toNat + 1) from rfl)
  generalize gC s va vs = c at *
  clear h he
  obtain ⟨n, rfl⟩ : ∃ n : Nat, i = n := ⟨i.toNat, by omega⟩
  go_enter Try.func38, Try.ntmps38
  go_wp2_with fail
  have HB := Lib.hid (below2 w (.cells #[.pointer (some ⟨A, 0, none⟩), .int .i64 (va : Int), .int .i64 (vs : Int)] 72) (.cells #[.int .u8 0, .int .u8 0] 86))
  refine (HG.out _ (HO.out.below HB.out) n hi).mono ?_
  rintro e w1 ⟨rfl, hb⟩
  rw [HE.out]
  have HR := Lib.hid (rr_new (some ⟨A, 0, none⟩) va vs w w1 (tagS (c n)) (tagO (c n)) hb)
  have HS := Lib.hid (show w.heap.size ≤ w1.heap.size from (HB.out.trans (hb.mono (by simp; omega))).size)
  clear hb HB
  go_wp2_with fail
  obtain ⟨B, hB⟩ : ∃ x, w.heap.size = x := ⟨_, rfl⟩
  obtain ⟨R, hR⟩ : ∃ x, B + 1 = x := ⟨_, rfl⟩
  rw [hB] at HR ⊢
  rw [hR] at HR ⊢
  obtain ⟨T, hT⟩ : ∃ x, w1.heap.size = x := ⟨_, rfl⟩
  obtain ⟨w2, hw2⟩ : ∃ x, w1.alloc (.cells #[.int .u8 (tagS (c n)), .int .u8 (tagO (c n))] 86) = x := ⟨_, rfl⟩
  rw [hw2, hT] at HR ⊢
  have HBR := Lib.hid (And.intro hB hR)
  have HTw : Hid (w.heap.size ≤ T ∧ w.heap.size ≤ R) := Lib.hid ⟨by have := HS.out; omega, by omega⟩
  clear hw2 hT hB hR
  go_loopw [9] (fun v wr => ∃ m : Nat, m ≤ n + 1 ∧ v = .int .i64 ((m : Int) - 1) ∧ dnN (insI c) (n + 1) = dnN (insI c) m ∧ RR B R T (some ⟨A, 0, none⟩) va vs 0 0 (tagS (c ((m : Int) - 1))) (tagO (c ((m : Int) - 1))) wr ∧ Below w.heap.size w wr) (fun v _ => (intOf v + 1).toNat)
  case atStart =>
    refine ⟨n + 1, Nat.le_refl _, ?_, rfl, ?_, by rw [HBR.out.1]; exact HR.out.2⟩
    · rw [show (((n + 1 : Nat) : Int)) - 1 = n from by omega]
    · rw [show (((n + 1 : Nat) : Int)) - 1 = n from by omega]; exact HR.out.1
  case round =>
    obtain ⟨m, hm, rfl, hd, hr, hbw⟩ := hrel
    have HD := Lib.hid hd; have HRR := Lib.hid hr; have HBW := Lib.hid hbw
    clear hd hr hbw HR
    obtain ⟨c0, c1, c2, c3, c4, c5, c6, f3, f4, f5, f6⟩ := HRR.out.all
    have b1 := tagS_b (c ((m : Int) - 1)) (HCB.out _).1
    have b2 := tagO_b (c ((m : Int) - 1)) (HCB.out _).1
    by_cases hin : tagS (c ((m : Int) - 1)) = 1
    · cases m with
      | zero =>
        exfalso
        have := HN.out ((0 : Nat) - 1 : Int) (by omega)
        rw [this] at hin
        exact absurd hin (by decide)
      | succ m =>
        have HI := Lib.hid hin
        have d1 : (tagS (c (((m + 1 : Nat) : Int) - 1)) == 1) = true := by simpa using hin
        clear hin
        have e1 : (((m + 1 : Nat) : Int) - 1) = (m : Int) := by omega
        rw [e1] at d1 c5 c6 b1 b2 ⊢
        have HE1 := Lib.hid e1
        clear e1
        have hm2 : (m : Int) - 1 ≤ 9223372036854775807 := by omega
        go_wp2_with fail
        refine (HG.out _ (HO.out.below HBW.out) ((m : Int) - 1) hm2).mono ?_
        rintro e w3 ⟨rfl, hb3⟩
        generalize gE s va vs ((m : Int) - 1) = er at *
        have HR3 := Lib.hid (HRR.out.below hb3)
        have HB3 := Lib.hid (HBW.out.trans (hb3.mono HBW.out.size))
        clear c0 c1 c2 c3 c4 c5 c6 f3 f4 f5 f6 hb3
        obtain ⟨c0, c1, c2, c3, c4, c5, c6, f3, f4, f5, f6⟩ := HR3.out.all
        go_wp2_with fail
        go_roundw
        case rel =>
          refine ⟨m, by omega, rfl, ?_, HR3.out.setT _ _, (HB3.out.setCell (p := ⟨T, 0, none⟩) HTw.out.1 _).setCell (p := ⟨T, 1, none⟩) HTw.out.1 _⟩
          rw [HD.out]
          show (if insI c m then dnN (insI c) m else (m : Int)) = _
          rw [if_pos]
          have := HI.out; rw [HE1.out] at this
          exact decide_eq_true this
        case measure => simp [intOf]
    · have d1 : (tagS (c ((m : Int) - 1)) == 1) = false := by simpa using hin
      have HRF : Hid (runF c n = (m : Int) - 1) := Lib.hid (by
        rw [HF.out, Int.toNat_natCast, HD.out]
        cases m with
        | zero => rfl
        | succ m =>
          show (if insI c m then dnN (insI c) m else (m : Int)) = _
          have e1 : (((m + 1 : Nat) : Int) - 1) = (m : Int) := by omega
          rw [e1] at hin ⊢
          rw [if_neg]
          unfold insI; simpa using hin)
      have HV : Hid (runV c n = if begB (tagS (c ((m : Int) - 1))) && decide ((n : Int) - ((m : Int) - 1) < ((2 ^ (tagO (c ((m : Int) - 1))).toNat : Nat) : Int)) then .tuple #[.int .i64 ((m : Int) - 1), tagV (tagS (c ((m : Int) - 1))) (tagO (c ((m : Int) - 1))), .int .i64 0] else .tuple #[.int .i64 0, tagV 0 0, .int .i64 8]) := Lib.hid (by unfold runV runOk; rw [HRF.out])
      clear hin HRF HD
      generalize tagS (c ((m : Int) - 1)) = S at *
      generalize tagO (c ((m : Int) - 1)) = O at *
      obtain ⟨j, hj⟩ : ∃ j : Int, (m : Int) - 1 = j := ⟨_, rfl⟩
      have hj1 : -1 ≤ j ∧ j ≤ n := by omega
      obtain ⟨hj1, hj2⟩ := hj1
      rw [hj] at HV ⊢
      clear hj hm HN HG HCB HF HE
      obtain ⟨on, rfl⟩ : ∃ on : Nat, O = on := ⟨O.toNat, by omega⟩
      obtain ⟨hN, hN1, hN2⟩ := pow_n on b2.2
      rw [Int.toNat_natCast] at HV
      generalize hNN : 2 ^ on = N at *
      have hN' : wrap64 ((2 : Int) ^ on) = (N : Int) := by
        rw [show ((2 : Int) ^ on) = (N : Int) from by rw [← hNN]; simp]
        exact IntWalk.wrap64_in _ ⟨by omega, by omega⟩
      clear hN hNN
      have hn32 : (n : Int) < 4294967296 := by omega
      cases hb : begB S with
      | false =>
        have HBS := Lib.hid hb
        rw [hb, Bool.false_and, if_neg (by decide)] at HV
        clear hb
        go_wp2_with (go_at_call 90; refine (tbeg_any _ _).mono ?_; rintro e w' ⟨rfl, rfl⟩; rw [HBS.out])
        have h3 := (HRR.out.setR 0 0).r
        have g0 := (cell_blk h3 0).1; have g1 := (cell_blk h3 1).1
        exact bodyPost_ret (v := .tuple #[.int .i64 0, tagV 0 0, .int .i64 8]) (by simp [results, Try.results38, go_sem, g0, g1]) rfl ⟨by rw [HV.out], (HBW.out.setCell (p := ⟨R, 0, none⟩) HTw.out.2 _).setCell (p := ⟨R, 1, none⟩) HTw.out.2 _⟩
      | true =>
        have HBS := Lib.hid hb
        rw [hb, Bool.true_and] at HV
        clear hb
        by_cases hcmp : (n : Int) - j < N
        · rw [decide_eq_true hcmp, if_pos rfl] at HV
          have d2 : decide ((N : Int) ≤ (n : Int) - j) = false := by simp; omega
          clear hcmp
          go_wp2_with (go_at_call 90; refine (tbeg_any _ _).mono ?_; rintro e w' ⟨rfl, rfl⟩; rw [HBS.out])
          go_region
          have h3 := (HRR.out.setR S on).r
          have g0 := (cell_blk h3 0).1; have g1 := (cell_blk h3 1).1
          have hbf := Lib.hid (((HBW.out.setCell (p := ⟨R, 0, none⟩) HTw.out.2 (.int .u8 S)).setCell (p := ⟨R, 1, none⟩) HTw.out.2 (.int .u8 (on : Int))).drew)
          clear c0 c1 c2 c3 c4 c5 c6 f3 f4 f5 f6
          go_wp2_with fail
          exact bodyPost_ret (v := .tuple #[.int .i64 j, tagV S on, .int .i64 0]) (by simp [results, Try.results38, go_sem, g0, g1]) rfl ⟨by rw [HV.out], hbf.out⟩
        · rw [decide_eq_false hcmp, if_neg (by decide)] at HV
          have d2 : decide ((N : Int) ≤ (n : Int) - j) = true := by simp; omega
          clear hcmp
          go_wp2_with (go_at_call 90; refine (tbeg_any _ _).mono ?_; rintro e w' ⟨rfl, rfl⟩; rw [HBS.out])
          have h3 := (HRR.out.setR 0 0).r
          have g0 := (cell_blk h3 0).1; have g1 := (cell_blk h3 1).1
          exact bodyPost_ret (v := .tuple #[.int .i64 0, tagV 0 0, .int .i64 8]) (by simp [results, Try.results38, go_sem, g0, g1]) rfl ⟨by rw [HV.out], (HBW.out.setCell (p := ⟨R, 0, none⟩) HTw.out.2 _).setCell (p := ⟨R, 1, none⟩) HTw.out.2 _⟩
end
end Go.Proofs.Ytglfllnemenhnaa.Bt
