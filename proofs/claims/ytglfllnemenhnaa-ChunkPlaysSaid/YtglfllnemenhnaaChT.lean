/- Several texts in one: ChG; ChH; ChI; ChJ; ChK; ChN; ChR; ChS. -/
import Derived.Test.YtglfllnemenhnaaChF
import Derived.Laws.AppendOwn
import Derived.WalkSpells
import Derived.WalkLawsBesides
import Derived.Deep.Slices
import Derived.Deep.Strs
import Derived.ChangeSame
import Derived.OpenShut
/- The document's headers: rows of chunks in memory; Without. -/
namespace Go.Proofs.Ytglfllnemenhnaa.Bt
open Go Go.RowKit Go.Shelf
set_option linter.unusedVariables false
set_option linter.unusedSimpArgs false

structure Hd where
  a : Int
  o : Int
  u : Int
  x : Int
def hdL (c : Hd) : List Value := [.int .i64 c.a, .int .i64 c.o, .int .u64 c.u, .int .i64 c.x]
def hsL : List Hd → List Value
  | [] => []
  | c :: l => hdL c ++ hsL l
theorem hsL_append (l l' : List Hd) : hsL (l ++ l') = hsL l ++ hsL l' := by
  induction l with
  | nil => rfl
  | cons c l ih => show hdL c ++ hsL (l ++ l') = (hdL c ++ hsL l) ++ hsL l'; rw [ih, List.append_assoc]
theorem hsL_length (l : List Hd) : (hsL l).length = l.length * 4 := by
  induction l with
  | nil => rfl
  | cons c l ih => show (hdL c ++ hsL l).length = _; rw [List.length_append, ih]; simp [hdL]; omega
def hd0 : Hd := ⟨0, 0, 0, 0⟩
theorem hsL_get (l : List Hd) (j : Nat) (h : j < l.length) (k : Nat) (hk : k < 4) : (hsL l)[j * 4 + k]? = (hdL (l.getD j hd0))[k]? := by
  induction l generalizing j with
  | nil => simp at h
  | cons c l ih =>
    show (hdL c ++ hsL l)[j * 4 + k]? = _
    rcases j with _ | j
    · rw [List.getElem?_append_left (by simp [hdL]; omega)]; simp
    · rw [List.getElem?_append_right (by simp [hdL]; omega)]
      have e : (j + 1) * 4 + k - (hdL c).length = j * 4 + k := by simp [hdL]; omega
      rw [e, ih j (by simpa using h)]; simp
/-- a row of headers in memory -/
def HsAt (w : World) (v : Value) (hs : List Hd) : Prop :=
  (v = .slice none 0 0 ∧ hs = []) ∨ ∃ b cap c fr, v = .slice (some ⟨b, 0, none⟩) hs.length cap ∧ w.heap[b]? = some (.cells c 100 fr) ∧
    ∀ j, j < hs.length → w.cell? ⟨b, j * 4, none⟩ = some (.int .i64 (hs.getD j hd0).a) ∧ w.cell? ⟨b, j * 4 + 1, none⟩ = some (.int .i64 (hs.getD j hd0).o) ∧ w.cell? ⟨b, j * 4 + 2, none⟩ = some (.int .u64 (hs.getD j hd0).u) ∧ w.cell? ⟨b, j * 4 + 3, none⟩ = some (.int .i64 (hs.getD j hd0).x)
theorem HsAt.same {w w' : World} {v : Value} {hs : List Hd} (h : HsAt w v hs) (hk : ∀ (b : Nat) (c : Array Value) (fr : Nat × Nat), w.heap[b]? = some (Obj.cells c 100 fr) → w'.heap[b]? = w.heap[b]?) : HsAt w' v hs := by
  rcases h with h | ⟨b, cap, c, fr, e, hb, hc⟩
  · exact .inl h
  · have h1 := hk b c fr hb
    have h2 : ∀ o, w'.cell? ⟨b, o, none⟩ = w.cell? ⟨b, o, none⟩ := fun o => World.cell?_of_block (w := w) (a := ⟨b, o, none⟩) h1
    exact .inr ⟨b, cap, c, fr, e, h1.trans hb, fun j hj => by obtain ⟨q0, q1, q2, q3⟩ := hc j hj; exact ⟨(h2 _).trans q0, (h2 _).trans q1, (h2 _).trans q2, (h2 _).trans q3⟩⟩
theorem HsAt.below {w w' : World} {v : Value} {hs : List Hd} (h : HsAt w v hs) (hb : Below w.heap.size w w') : HsAt w' v hs := h.same fun b c fr e => hb.block b (Array.getElem?_eq_some_iff.1 e).1
theorem HsAt.went {A : Nat} {s : ASt} {w w' : World} {v : Value} {hs : List Hd} (h : HsAt w v hs) (ho : On A s w) (hg : Went A w w') : HsAt w' v hs := h.same fun b c fr e => by
  rw [e]; exact hg.keep ho e (by decide) (by decide) (by decide)
theorem own_hs {W : World} {base : Nat} {v : Value} {hs : List Hd} (h : W.ownsRow base 100 4 v hs.length (hsL hs)) : HsAt W v hs := by
  rcases h.2 with ⟨rfl, h0⟩ | ⟨g, cap, cur, rfl, _, hg, hnc, _, hcs, htk⟩
  · exact .inl ⟨rfl, List.eq_nil_of_length_eq_zero h0⟩
  · refine .inr ⟨g, cap, cur, _, rfl, hg, fun j hj => ?_⟩
    have key : ∀ k, k < 4 → W.cell? ⟨g, j * 4 + k, none⟩ = (hdL (hs.getD j hd0))[k]? := fun k hk => by
      rw [(cell_blk hg _).1, ← hsL_get hs j hj k hk, ← htk, List.getElem?_take, if_pos (by omega)]; simp
    have k0 := key 0 (by omega); have k1 := key 1 (by omega); have k2 := key 2 (by omega); have k3 := key 3 (by omega)
    exact ⟨by simpa [hdL] using k0, by simpa [hdL] using k1, by simpa [hdL] using k2, by simpa [hdL] using k3⟩
theorem own_grow {W w1 w : World} {base n k : Nat} {e : TypeId} {v : Value} {xs : List Value} (hrow : W.ownsRow base e k v n xs) (hgrow : W.grownBy w1 v.ownBlock) (hs : base ≤ W.heap.size) (hb : Below base w W) : Below base w w1 :=
  hb.grown hgrow (by omega) fun j ej => by
    rcases hrow.2 with ⟨rfl, _⟩ | ⟨g, cap, cur, rfl, h, _⟩
    · simp [Value.ownBlock] at ej
    · obtain rfl : g = j := by simpa [Value.ownBlock] using ej
      exact h
theorem Try.infoRC : (Try.prog.info? 100).map (fun i => (i.zero, i.size, i.bytes)) = some (some (.agg #[.int .i64 0, .int .i64 0, .int .u64 0, .int .i64 0]), 4, 32) := by kernel_rfl
theorem hd_new {w : World} (c : Hd) (T : TypeId) {g : Nat} (hg : w.heap.size = g) : ∀ j u, (hdL c)[j]? = some u → (w.alloc (.cells #[.int .i64 c.a, .int .i64 c.o, .int .u64 c.u, .int .i64 c.x] T)).cell? ((⟨g, 0, none⟩ : Addr).add j) = some u := fun j u h => by
  subst hg
  have e : (⟨w.heap.size, 0, none⟩ : Addr).add j = ⟨w.heap.size, j, none⟩ := by simp only [Addr.add]; split <;> simp_all
  rw [e, (cell_blk (heap_new w _) _).1, ← h]
  unfold hdL
  simp
/-- those that don't stand at a place -/
def wo (hs : List Hd) (a : Int) : List Hd := hs.filter fun c => c.a != a
theorem wo_len (hs : List Hd) (a : Int) : (wo hs a).length ≤ hs.length := List.length_filter_le _ _
theorem htake_next {hs : List Hd} {j : Nat} (h : j < hs.length) : hs.take (j + 1) = hs.take j ++ [hs.getD j hd0] := by
  rw [List.take_succ_eq_append_getElem h, List.getD_eq_getElem?_getD, List.getElem?_eq_getElem h]; rfl
theorem wo_next {hs : List Hd} {a : Int} {j : Nat} (h : j < hs.length) : wo (hs.take (j + 1)) a = if (hs.getD j hd0).a = a then wo (hs.take j) a else wo (hs.take j) a ++ [hs.getD j hd0] := by
  rw [htake_next h]
  generalize hs.getD j hd0 = c
  unfold wo
  rw [List.filter_append]
  by_cases e : c.a = a
  · rw [if_pos e]; simp [e]
  · rw [if_neg e]; simp [e]
def WoP (hs : List Hd) (w : World) (e : Ending) (w' : World) : Prop := ∃ v', e = .returned v' ∧ w'.ownsRow w.heap.size 100 4 v' hs.length (hsL hs) ∧ Below w.heap.size w w'
set_option maxRecDepth 100000 in
set_option maxHeartbeats 4000000 in
theorem wo_any (v : Value) (hs : List Hd) (hl : hs.length ≤ 1000) (a : Int) (w : World) (h : HsAt w v hs) :
    Calls Try.prog 44 #[v, .int .i64 a] w (WoP (wo hs a) w) := by
  rcases h with ⟨rfl, rfl⟩ | ⟨b, cap, cc, fr, rfl, hb, hc⟩
  · go_enter Try.func44, Try.ntmps44
    go_wp2_with fail
    go_loopw [5, 10] (fun s5 s10 wr => s5 = .slice none 0 0 ∧ s10 = .int .i64 0 ∧ wr = w) (fun _ _ _ => 0)
    case atStart => exact ⟨rfl, rfl, rfl⟩
    case round =>
      obtain ⟨rfl, rfl, rfl⟩ := hrel
      go_wp2_with fail
      go_ret
      exact ⟨_, rfl, World.ownsRow_nil _ _ _ _, Below.refl _ _⟩
  · obtain ⟨i0, hi0, hz0, hz1, hz2⟩ := info_parts Try.infoRC
    have HI := Lib.hid hi0; have HZ0 := Lib.hid hz0; have HZ1 := Lib.hid hz1; have HZ2 := Lib.hid hz2
    have HBL := Lib.hid (Array.getElem?_eq_some_iff.1 hb).1
    have HC := Lib.hid hc
    obtain ⟨n, hn⟩ : ∃ n, hs.length = n := ⟨_, rfl⟩
    have HN := Lib.hid hn
    rw [hn] at hl ⊢
    clear hi0 hz0 hz1 hz2 hb hc hn
    go_enter Try.func44, Try.ntmps44
    go_wp2_with fail
    go_loopw [5, 10] (fun s5 s10 wr => ∃ j : Nat, j ≤ n ∧ s10 = .int .i64 (j : Int) ∧ wr.ownsRow w.heap.size 100 4 s5 (wo (hs.take j) a).length (hsL (wo (hs.take j) a)) ∧ Below w.heap.size w wr) (fun _ s10 _ => n - (intOf s10).toNat)
    case atStart => exact ⟨0, Nat.zero_le _, rfl, World.ownsRow_nil _ _ _ _, Below.refl _ _⟩
    case round =>
      obtain ⟨j, hj, rfl, hrow, hbw⟩ := hrel
      have HRW := Lib.hid hrow; have HBW := Lib.hid hbw
      have hs0 := hbw.size
      by_cases hjn : j < n
      · have hjl : j < hs.length := by have := HN.out; omega
        obtain ⟨q0, q1, q2, q3⟩ := HC.out j hjl
        have hcell : ∀ o, wr.cell? ⟨b, o, none⟩ = w.cell? ⟨b, o, none⟩ := fun o => hbw.cell (p := ⟨b, o, none⟩) HBL.out
        rw [← hcell] at q0 q1 q2 q3
        have HWN := Lib.hid (wo_next (a := a) hjl)
        obtain ⟨c, hc⟩ : ∃ c, hs.getD j hd0 = c := ⟨_, rfl⟩
        rw [hc] at q0 q1 q2 q3 HWN
        have HLN : Hid ((wo (hs.take j) a).length ≤ 1000) := Lib.hid (Nat.le_trans (wo_len _ _) (by rw [List.length_take]; omega))
        obtain ⟨ol, hol⟩ : ∃ ol, wo (hs.take j) a = ol := ⟨_, rfl⟩
        rw [hol] at HWN HLN hrow HRW
        clear hcell hjl hc hbw hol
        by_cases hca : c.a = a
        · have hW1 := HWN.out
          rw [if_pos hca] at hW1
          have HW1 := Lib.hid hW1
          have d : (c.a != a) = false := by simpa using hca
          have HB2 := Lib.hid (HBW.out.alloc hs0 (.cells #[.int .i64 c.a, .int .i64 c.o, .int .u64 c.u, .int .i64 c.x] 100))
          have HR2 := Lib.hid (hrow.alloc (.cells #[.int .i64 c.a, .int .i64 c.o, .int .u64 c.u, .int .i64 c.x] 100))
          clear hW1 hca hrow
          go_wp2_with fail
          go_roundw
          case rel => exact ⟨j + 1, by omega, by go_num, by rw [HW1.out]; exact HR2.out, HB2.out⟩
          case measure => simp [intOf]; omega
        · have hW1 := HWN.out
          rw [if_neg hca] at hW1
          have HW1 := Lib.hid hW1
          have d : (c.a != a) = true := by simpa using hca
          have HB2 := Lib.hid ((HBW.out.alloc hs0 (.cells #[.int .i64 c.a, .int .i64 c.o, .int .u64 c.u, .int .i64 c.x] 100)).alloc (by simp; omega) (.cells #[.int .i64 c.a, .int .i64 c.o, .int .u64 c.u, .int .i64 c.x] 100))
          have hrow2 := (hrow.alloc (.cells #[.int .i64 c.a, .int .i64 c.o, .int .u64 c.u, .int .i64 c.x] 100)).alloc (.cells #[.int .i64 c.a, .int .i64 c.o, .int .u64 c.u, .int .i64 c.x] 100)
          have HR2 := Lib.hid hrow2
          have hln := HLN.out
          clear hW1 hca hrow
          go_wp2_with (at_builtin; refine wpList_append_own _ rfl _ _ 94 rfl w.heap.size 100 i0 (.agg #[.int .i64 0, .int .i64 0, .int .u64 0, .int .i64 0]) 4 32 Try.underlying94 HI.out HZ0.out HZ1.out HZ2.out rfl (by decide) _ _ _ rfl hrow2 ⟨_, 0, none⟩ 1 1 (hdL c) rfl rfl (hd_new c _ (by simp)) (by simp [hdL, Value.oneCell']) (by unfold maxLen; omega) (by omega) (by simp; omega) ?_; intro v' w1 hown' hgrow _; have hhgrow := hgrow.size; simp at hhgrow)
          have HBW2 := Lib.hid (own_grow HR2.out hgrow (by simp; omega) HB2.out)
          have HOW : Hid (w1.ownsRow w.heap.size 100 4 v' (ol ++ [c]).length (hsL (ol ++ [c]))) := Lib.hid (by rw [hsL_append]; simpa [hsL] using hown')
          clear hrow2 hown' hgrow hhgrow
          go_wp2_with fail
          go_roundw
          case rel => exact ⟨j + 1, by omega, by go_num, by rw [HW1.out]; exact HOW.out, HBW2.out⟩
          case measure => simp [intOf]; omega
      · have HT : Hid (hs.take j = hs) := Lib.hid (List.take_of_length_le (by have := HN.out; omega))
        rw [HT.out] at HRW
        clear hrow hbw
        go_wp2_with fail
        go_ret
        exact ⟨_, rfl, HRW.out, HBW.out⟩
end Go.Proofs.Ytglfllnemenhnaa.Bt
/- The document's arena of four pages, of which the third isn't there: There; Read. -/
namespace Go.Proofs.Ytglfllnemenhnaa.Bt
open Go Go.RowKit Go.Shelf
set_option linter.unusedVariables false
set_option linter.unusedSimpArgs false

def theB (a : Int) : Bool := decide (0 ≤ a ∧ a ≤ 16352 ∧ a / 4096 ≠ 2 ∧ (a + 31) / 4096 ≠ 2)
theorem good4 : Good 4 [0, 2, 3, 4] := ⟨by simp [Rising], rfl, (fun e h => by simp at h; omega), by omega⟩
theorem mem4 (p : Int) (h0 : 0 ≤ p) (h1 : p ≤ 3) : mem [0, 2, 3, 4] p = true ↔ p ≠ 2 := by
  have : p = 0 ∨ p = 1 ∨ p = 2 ∨ p = 3 := by omega
  rcases this with rfl | rfl | rfl | rfl <;> decide
theorem there4 (a : Int) : thereE 4 [0, 2, 3, 4] a 32 = if theB a then 0 else 3 := by
  have h := there_iff good4 a 32
  have e : thereB 4 [0, 2, 3, 4] a 32 = theB a := by
    rw [Bool.eq_iff_iff, h]
    unfold theB
    rw [decide_eq_true_iff]
    constructor
    · rintro ⟨h0, _, h2, h3⟩
      have k1 := (mem4 (a / 4096) (by omega) (by omega)).1 (h3 a (by omega) (by omega))
      have k2 := (mem4 ((a + 31) / 4096) (by omega) (by omega)).1 (h3 (a + 31) (by omega) (by omega))
      exact ⟨h0, by omega, k1, k2⟩
    · rintro ⟨h0, h1, h2, h3⟩
      refine ⟨h0, by omega, by omega, fun i i0 i1 => (mem4 _ (by omega) (by omega)).2 ?_⟩
      omega
  unfold thereE; rw [e]
/-- the document's pages -/
def pgZ (Z : ByteArray) (k : Nat) : ByteArray := if k = 2 then ⟨#[]⟩ else Z
def P4 (b : Nat) (Z : ByteArray) (X : World) : Prop := X.heap[b]? = some (.cells #[.string Z, .string Z, .string ⟨#[]⟩, .string Z] 9 (0, 0))
theorem P4.cell {b : Nat} {Z : ByteArray} {X : World} (h : P4 b Z X) (k : Nat) (hk : k < 4) : X.cell? ⟨b, k, none⟩ = some (.string (pgZ Z k)) := by
  rw [(cell_blk h k).1]
  have : k = 0 ∨ k = 1 ∨ k = 2 ∨ k = 3 := by omega
  rcases this with rfl | rfl | rfl | rfl <;> rfl
def NotE (Z : ByteArray) : Prop := Z.toList.isEmpty = false
theorem emp_eq : ∀ w, (binOp .eql 9 (.string ⟨#[]⟩) (.string ⟨#[]⟩)).run Try.prog w = .ok (.bool true) w := fun w => by kernel_rfl
set_option maxRecDepth 100000 in
theorem rthere_any (b cap : Nat) (r : Int) (Z : ByteArray) (hZ : NotE Z) (a : Int) (ha : a ≤ 9223372036854775807) (w : World) (hb : P4 b Z w) :
    Calls Try.prog 99 #[docV (some ⟨b, 0, none⟩) 4 cap r, .int .i64 a, .int .i64 32] w (Gives (.bool (theB a)) w) := by
  have HP := Lib.hid (show P4 b Z (w.alloc (.cells #[.slice (some ⟨b, 0, none⟩) 4 cap, .int .i64 r] 39)) from blk_at (bel1 w _) hb)
  have BW := Lib.hid (bel1 w (.cells #[.slice (some ⟨b, 0, none⟩) 4 cap, .int .i64 r] 39))
  have hV := heap_new w (.cells #[.slice (some ⟨b, 0, none⟩) 4 cap, .int .i64 r] 39)
  have HQ := Lib.hid hZ
  clear hZ hb
  go_enter Try.func99, Try.ntmps99
  go_upto_region 1 with fail
  obtain ⟨y, hy⟩ : ∃ y, w.alloc (.cells #[.slice (some ⟨b, 0, none⟩) 4 cap, .int .i64 r] 39) = y := ⟨_, rfl⟩
  obtain ⟨V, hVV⟩ : ∃ V, w.heap.size = V := ⟨_, rfl⟩
  change Code.wp _ _ _ _ (w.alloc (.cells #[.slice (some ⟨b, 0, none⟩) 4 cap, .int .i64 r] 39))
  rw [hy] at hV HP BW ⊢
  rw [hVV] at hV ⊢
  clear hy hVV
  have c0 := (cell_blk hV 0).1; have c1 := (cell_blk hV 1).1
  clear hV
  by_cases h0 : a < 0
  · have HF : Hid (theB a = false) := Lib.hid (decide_eq_false (by omega))
    go_wp2_with fail
    go_ret
    exact ⟨by rw [HF.out]; rfl, BW.out⟩
  by_cases h1 : 16352 < a
  · have HF : Hid (theB a = false) := Lib.hid (decide_eq_false (by omega))
    go_wp2_with fail
    go_ret
    exact ⟨by rw [HF.out]; rfl, BW.out⟩
  obtain ⟨an, rfl⟩ := Int.eq_ofNat_of_zero_le (show 0 ≤ a by omega)
  obtain ⟨k0, hk0⟩ : ∃ k0, an / 4096 = k0 := ⟨_, rfl⟩
  obtain ⟨k1, hk1⟩ : ∃ k1, (an + 31) / 4096 = k1 := ⟨_, rfl⟩
  have q0 : (an : Int).tdiv 4096 = (k0 : Int) := by rw [Int.tdiv_eq_ediv_of_nonneg (by omega)]; omega
  have q1 : ((an : Int) + 32 - 1).tdiv 4096 = (k1 : Int) := by rw [Int.tdiv_eq_ediv_of_nonneg (by omega)]; omega
  have q2 : ((an : Int) + 31).tdiv 4096 = (k1 : Int) := by rw [Int.tdiv_eq_ediv_of_nonneg (by omega)]; omega
  have hk3 : k1 ≤ 3 := by omega
  have hk4 : k0 ≤ k1 := by omega
  have hk5 : k1 ≤ k0 + 1 := by omega
  have HTH : Hid (theB an = decide (k0 ≠ 2 ∧ k1 ≠ 2)) := Lib.hid (by
    unfold theB; rw [decide_eq_decide]; omega)
  go_upto_region 5 with fail
  clear hk0 hk1
  go_loopw [8] (fun s wr => ∃ k : Nat, k0 ≤ k ∧ k ≤ k1 + 1 ∧ s = .int .i64 (k : Int) ∧ (∀ i, k0 ≤ i → i < k → i ≠ 2) ∧ y = wr) (fun s _ => k1 + 1 - (intOf s).toNat)
  case atStart => exact ⟨k0, Nat.le_refl _, by omega, by go_num, fun i h1 h2 => by omega, rfl⟩
  case round =>
    obtain ⟨k, g0, g1, rfl, hno, rfl⟩ := hrel
    have HNO := Lib.hid hno
    clear hno
    by_cases hlt : k ≤ k1
    · have ck := HP.out.cell k (by omega)
      by_cases h2 : k = 2
      · have HF : Hid (theB an = false) := Lib.hid (by rw [HTH.out]; exact decide_eq_false (by omega))
        rw [show pgZ Z k = ⟨#[]⟩ from if_pos h2] at ck
        have hee := emp_eq
        clear h2
        go_wp2_with fail
        go_ret
        exact ⟨by rw [HF.out]; rfl, BW.out⟩
      · rw [show pgZ Z k = Z from if_neg h2] at ck
        have hee : Z.toList.isEmpty = false := HQ.out
        have HN : Hid (∀ i, k0 ≤ i → i < k + 1 → i ≠ 2) := Lib.hid fun i i0 i1 => by
          by_cases e : i = k
          · subst e; exact h2
          · exact HNO.out i i0 (by omega)
        clear h2
        go_wp2_with fail
        go_roundw
        case rel => exact ⟨k + 1, by omega, by omega, by go_num, HN.out, trivial⟩
        case measure => simp [intOf]; omega
    · have HF : Hid (theB an = true) := Lib.hid (by rw [HTH.out]; exact decide_eq_true ⟨HNO.out k0 (Nat.le_refl _) (by omega), HNO.out k1 hk4 (by omega)⟩)
      go_wp2_with fail
      go_ret
      exact ⟨by rw [HF.out]; rfl, BW.out⟩
end Go.Proofs.Ytglfllnemenhnaa.Bt
/- The document's Read and Write of headers. -/
namespace Go.Proofs.Ytglfllnemenhnaa.Bt
open Go Go.RowKit Go.Shelf
set_option linter.unusedVariables false
set_option linter.unusedSimpArgs false

def fdH (hs : List Hd) (a : Int) : Option Hd := hs.find? fun c => c.a == a
def hdV : Option Hd → Value
  | some c => .tuple #[cV c.a c.o c.u c.x, .int .i64 0]
  | none => .tuple #[cV 0 0 0 0, .int .i64 7]
def rrV (hs : List Hd) (a : Int) : Value := if theB a then hdV (fdH hs a) else .tuple #[cV 0 0 0 0, .int .i64 3]
theorem fdH_hit {hs : List Hd} {a : Int} {j : Nat} (hj : j < hs.length) (hno : ∀ i, i < j → (hs.getD i hd0).a ≠ a) (h : (hs.getD j hd0).a = a) : fdH hs a = some (hs.getD j hd0) := by
  induction hs generalizing j with
  | nil => simp at hj
  | cons c l ih =>
    unfold fdH
    rcases j with _ | j
    · have h2 : c.a = a := h
      rw [List.find?_cons_of_pos (by simpa using h2)]; rfl
    · have h2 : c.a ≠ a := hno 0 (by omega)
      rw [List.find?_cons_of_neg (by simpa using h2)]
      exact ih (j := j) (by simpa using hj) (fun i hi => hno (i + 1) (by omega)) h
theorem fdH_none {hs : List Hd} {a : Int} (hno : ∀ i, i < hs.length → (hs.getD i hd0).a ≠ a) : fdH hs a = none := by
  unfold fdH
  rw [List.find?_eq_none]
  intro c hc
  obtain ⟨i, hi, e⟩ := List.mem_iff_getElem.1 hc
  have := hno i hi
  rw [List.getD_eq_getElem?_getD, List.getElem?_eq_getElem hi] at this
  simp only [Option.getD_some, e] at this
  simpa using this
theorem two_new (w : World) (a b : Array Value) (ta tb : TypeId) :
    ((w.alloc (.cells a ta)).alloc (.cells b tb)).heap[w.heap.size]? = some (.cells a ta (0, 0)) ∧ ((w.alloc (.cells a ta)).alloc (.cells b tb)).heap[w.heap.size + 1]? = some (.cells b tb (0, 0)) := by
  refine ⟨?_, ?_⟩
  · exact blk_at (bel1 _ _) (heap_new w (.cells a ta))
  · have := heap_new (w.alloc (.cells a ta)) (.cells b tb)
    rwa [show (w.alloc (.cells a ta)).heap.size = w.heap.size + 1 by simp] at this
/-- what Read's loop keeps -/
structure RdK (R : Nat) (w x : World) : Prop where
  r : RB R 0 0 0 0 x
  b : Below w.heap.size w x
set_option maxRecDepth 100000 in
set_option maxHeartbeats 4000000 in
theorem rread_any (b cap : Nat) (r : Int) (Z : ByteArray) (hZ : NotE Z) (v : Value) (hs : List Hd) (hl : hs.length ≤ 1000) (a : Int) (ha : a ≤ 9223372036854775807) (w : World) (hb : P4 b Z w) (hh : HsAt w v hs) :
    Calls Try.prog 43 #[docV (some ⟨b, 0, none⟩) 4 cap r, v, .int .i64 a] w (Gives (rrV hs a) w) := by
  have HSZ : Hid (∀ a o u x, (Try.prog.info? 100).map (·.size) = some (cC a o u x).size) := Lib.hid (fun a o u x => by
    have h := Try.infoRC
    revert h; cases Try.prog.info? 100 <;> simp; rintro _ h _; exact h)
  have HZ := Lib.hid hZ
  obtain ⟨hV, hR⟩ := two_new w #[.slice (some ⟨b, 0, none⟩) 4 cap, .int .i64 r] (cC 0 0 0 0) 39 100
  have hB := below2 w (.cells #[.slice (some ⟨b, 0, none⟩) 4 cap, .int .i64 r] 39) (.cells (cC 0 0 0 0) 100)
  have hP := show P4 b Z _ from blk_at hB hb
  have hH := hh.below hB
  go_enter Try.func43, Try.ntmps43
  go_upto_region 1 with fail
  change Code.wp _ _ _ _ ((w.alloc (.cells #[.slice (some ⟨b, 0, none⟩) 4 cap, .int .i64 r] 39)).alloc (.cells (cC 0 0 0 0) 100))
  obtain ⟨y, hy⟩ : ∃ y, ((w.alloc (.cells #[.slice (some ⟨b, 0, none⟩) 4 cap, .int .i64 r] 39)).alloc (.cells (cC 0 0 0 0) 100)) = y := ⟨_, rfl⟩
  obtain ⟨R, hRR⟩ : ∃ R, w.heap.size + 1 = R := ⟨_, rfl⟩
  obtain ⟨V, hVV⟩ : ∃ V, w.heap.size = V := ⟨_, rfl⟩
  have hRW : w.heap.size ≤ R := by omega
  rw [hy] at hV hR hB hP hH ⊢
  rw [hRR] at hR ⊢
  rw [hVV] at hV ⊢
  have HR := Lib.hid (show RB R 0 0 0 0 y from hR); have HB := Lib.hid hB; have HP := Lib.hid hP; have HH := Lib.hid hH; have HRW := Lib.hid hRW
  have c0 := (cell_blk hV 0).1; have c1 := (cell_blk hV 1).1
  clear hy hRR hVV hV hR hB hP hH hh hb hZ hRW
  go_wp2_with fail
  refine (rthere_any b cap r Z HZ.out a ha _ HP.out).mono ?_
  rintro e w1 ⟨rfl, hb1⟩
  have HR1 := Lib.hid (show RB R 0 0 0 0 w1 from blk_at hb1 HR.out)
  have HB1 := Lib.hid (HB.out.trans (hb1.mono HB.out.size))
  have HH1 := Lib.hid (HH.out.below hb1)
  clear hb1 c0 c1 HR HB HP HH
  have HRV : Hid (rrV hs a = if theB a then hdV (fdH hs a) else .tuple #[cV 0 0 0 0, .int .i64 3]) := Lib.hid rfl
  cases hth : theB a with
  | false =>
    rw [hth] at HRV
    go_wp2_with (first | (refine wpList_store_row rfl 100 (.tmp 6) (.tmp 14) rfl R (cC 0 0 0 0) rfl rfl 100 (cC 0 0 0 0) HR1.out (HSZ.out _ _ _ _) rfl (cC_one _ _ _ _) ?_))
    have hl := run_loadVar_row (P := Try.prog) (w1.setRow R (cC 0 0 0 0)) R 100 100 (cC 0 0 0 0) (0, 0) _ (setRow_ad HR1.out _) Try.underlying100 rfl (HSZ.out _ _ _ _)
    exact bodyPost_ret (v := .tuple #[.agg (cC 0 0 0 0), .int .i64 3]) (by simp [results, Try.results43, asAddr, hl, Act.put]) rfl ⟨by rw [HRV.out]; rfl, below_setRow HB1.out HRW.out _⟩
  | true =>
    rw [hth] at HRV
    have HF : Hid (rrV hs a = hdV (fdH hs a)) := Lib.hid (by rw [HRV.out]; rfl)
    clear hth HRV
    have hh1 := HH1.out
    rcases hh1 with ⟨rfl, rfl⟩ | ⟨g, cap2, cc, fr, rfl, hg, hc⟩
    · have HN : Hid (rrV [] a = .tuple #[cV 0 0 0 0, .int .i64 7]) := Lib.hid (by rw [HF.out]; rfl)
      clear HF HH1
      go_wp2_with fail
      go_loopw [17] (fun s wr => s = .int .i64 0 ∧ w1 = wr) (fun _ _ => 0)
      case atStart => exact ⟨rfl, rfl⟩
      case round =>
        obtain ⟨rfl, rfl⟩ := hrel
        go_wp2_with (first | (refine wpList_store_row rfl 100 (.tmp 6) (.tmp 27) rfl R (cC 0 0 0 0) rfl rfl 100 (cC 0 0 0 0) HR1.out (HSZ.out _ _ _ _) rfl (cC_one _ _ _ _) ?_))
        have hl := run_loadVar_row (P := Try.prog) (w1.setRow R (cC 0 0 0 0)) R 100 100 (cC 0 0 0 0) (0, 0) _ (setRow_ad HR1.out _) Try.underlying100 rfl (HSZ.out _ _ _ _)
        exact bodyPost_ret (v := .tuple #[.agg (cC 0 0 0 0), .int .i64 7]) (by simp [results, Try.results43, asAddr, hl, Act.put]) rfl ⟨by rw [HN.out]; rfl, below_setRow HB1.out HRW.out _⟩
    · have HC := Lib.hid hc
      have HGL := Lib.hid (Array.getElem?_eq_some_iff.1 hg).1
      obtain ⟨n, hn⟩ : ∃ n, hs.length = n := ⟨_, rfl⟩
      have HN := Lib.hid hn
      rw [hn] at hl
      rw [hn]
      have hK : RdK R w w1 := ⟨HR1.out, HB1.out⟩
      clear hc hg hn HH1
      go_wp2_with fail
      go_loopw [17] (fun s wr => ∃ j : Nat, j ≤ n ∧ s = .int .i64 (j : Int) ∧ (∀ i, i < j → (hs.getD i hd0).a ≠ a) ∧ RdK R w wr ∧ (∀ o, wr.cell? ⟨g, o, none⟩ = w1.cell? ⟨g, o, none⟩) ∧ w1.heap.size ≤ wr.heap.size) (fun s _ => n - (intOf s).toNat)
      case atStart => exact ⟨0, Nat.zero_le _, rfl, fun i hi => by omega, hK, fun o => rfl, Nat.le_refl _⟩
      case round =>
        obtain ⟨j, hj, rfl, hno, hk, hce, hsz⟩ := hrel
        have HNO := Lib.hid hno; have HK := Lib.hid hk; have HCE := Lib.hid hce
        have hs0 := hk.b.size
        have hg1 := HGL.out
        clear hno hk hce hK
        by_cases hjn : j < n
        · have hjl : j < hs.length := by have := HN.out; omega
          obtain ⟨q0, q1, q2, q3⟩ := HC.out j hjl
          rw [← HCE.out] at q0 q1 q2 q3
          obtain ⟨c, hc⟩ : ∃ c, hs.getD j hd0 = c := ⟨_, rfl⟩
          have HCC := Lib.hid hc
          rw [hc] at q0 q1 q2 q3
          have HRx := Lib.hid (show RB R 0 0 0 0 (wr.alloc (.cells (cC c.a c.o c.u c.x) 100)) from blk_at (bel1 wr _) HK.out.r)
          have HBx := Lib.hid (HK.out.b.alloc hs0 (.cells (cC c.a c.o c.u c.x) 100))
          by_cases hca : c.a = a
          · have HFF : Hid (rrV hs a = .tuple #[cV c.a c.o c.u c.x, .int .i64 0]) := Lib.hid (by
              rw [HF.out, fdH_hit hjl HNO.out (by rw [HCC.out]; exact hca), HCC.out]; rfl)
            have d : (c.a == a) = true := by simpa using hca
            clear hc hca hjl HF
            go_upto_region 7 with fail
            change Code.wp _ _ _ _ (wr.alloc (.cells (cC c.a c.o c.u c.x) 100))
            have hcb := rb_new wr c.a c.o c.u c.x
            obtain ⟨z, hz⟩ : ∃ z, wr.alloc (.cells (cC c.a c.o c.u c.x) 100) = z := ⟨_, rfl⟩
            obtain ⟨D, hD⟩ : ∃ D, wr.heap.size = D := ⟨_, rfl⟩
            rw [hz] at hcb HRx HBx ⊢
            rw [hD] at hcb ⊢
            clear hz hD q0 q1 q2 q3
            go_wp2_with (first | (refine wpList_load_row rfl 100 (.tmp 9) rfl D rfl 100 (cC c.a c.o c.u c.x) (0, 0) _ hcb Try.underlying100 rfl (HSZ.out _ _ _ _) ?_) | (refine wpList_store_row rfl 100 (.tmp 6) (.tmp 25) rfl R (cC c.a c.o c.u c.x) rfl rfl 100 (cC 0 0 0 0) HRx.out (HSZ.out _ _ _ _) rfl (cC_one _ _ _ _) ?_))
            have hl := run_loadVar_row (P := Try.prog) (z.setRow R (cC c.a c.o c.u c.x)) R 100 100 (cC c.a c.o c.u c.x) (0, 0) _ (setRow_ad HRx.out _) Try.underlying100 rfl (HSZ.out _ _ _ _)
            exact bodyPost_ret (v := .tuple #[.agg (cC c.a c.o c.u c.x), .int .i64 0]) (by simp [results, Try.results43, asAddr, hl, Act.put]) rfl ⟨by rw [HFF.out]; rfl, below_setRow HBx.out HRW.out _⟩
          · have HN1 : Hid (∀ i, i < j + 1 → (hs.getD i hd0).a ≠ a) := Lib.hid fun i hi => by
              by_cases e : i = j
              · subst e; rw [HCC.out]; exact hca
              · exact HNO.out i (by omega)
            have HC1 : Hid (∀ o, (wr.alloc (.cells (cC c.a c.o c.u c.x) 100)).cell? ⟨g, o, none⟩ = w1.cell? ⟨g, o, none⟩) := Lib.hid fun o => ((bel1 wr (.cells (cC c.a c.o c.u c.x) 100)).cell (p := ⟨g, o, none⟩) (by show g < _; omega)).trans (HCE.out o)
            have d : (c.a == a) = false := by simpa using hca
            clear hc hca hjl HF
            go_wp2_with fail
            go_roundw
            case rel => exact ⟨j + 1, by omega, by go_num, HN1.out, ⟨HRx.out, HBx.out⟩, HC1.out, by simp; omega⟩
            case measure => simp [intOf]; omega
        · have HNN : Hid (rrV hs a = .tuple #[cV 0 0 0 0, .int .i64 7]) := Lib.hid (by
            rw [HF.out, fdH_none fun i hi => HNO.out i (by have := HN.out; omega)]; rfl)
          have HRx := Lib.hid HK.out.r; have HBx := Lib.hid HK.out.b
          clear HF
          go_wp2_with (first | (refine wpList_store_row rfl 100 (.tmp 6) (.tmp 27) rfl R (cC 0 0 0 0) rfl rfl 100 (cC 0 0 0 0) HRx.out (HSZ.out _ _ _ _) rfl (cC_one _ _ _ _) ?_))
          have hl := run_loadVar_row (P := Try.prog) (wr.setRow R (cC 0 0 0 0)) R 100 100 (cC 0 0 0 0) (0, 0) _ (setRow_ad HRx.out _) Try.underlying100 rfl (HSZ.out _ _ _ _)
          exact bodyPost_ret (v := .tuple #[.agg (cC 0 0 0 0), .int .i64 7]) (by simp [results, Try.results43, asAddr, hl, Act.put]) rfl ⟨by rw [HNN.out]; rfl, below_setRow HBx.out HRW.out _⟩
end Go.Proofs.Ytglfllnemenhnaa.Bt
/- The document's Write of headers. -/
namespace Go.Proofs.Ytglfllnemenhnaa.Bt
open Go Go.RowKit Go.Shelf
set_option linter.unusedVariables false
set_option linter.unusedSimpArgs false

def wrE (c : Hd) : Int := if mayB c.a c.o c.x then (if theB c.a then 0 else 3) else 2
def wrH (hs : List Hd) (c : Hd) : List Hd := if mayB c.a c.o c.x && theB c.a then wo hs c.a ++ [c] else hs
def WrP (hs : List Hd) (c : Hd) (w : World) (e : Ending) (w' : World) : Prop := ∃ v', e = .returned (.tuple #[v', .int .i64 (wrE c)]) ∧ HsAt w' v' (wrH hs c) ∧ Below w.heap.size w w'
theorem wr_arg {hs : List Hd} {c : Hd} (h : mayB c.a c.o c.x = false) : wrE c = 2 ∧ wrH hs c = hs := by unfold wrE wrH; rw [h]; exact ⟨rfl, rfl⟩
theorem wr_range {hs : List Hd} {c : Hd} (h : mayB c.a c.o c.x = true) (k : theB c.a = false) : wrE c = 3 ∧ wrH hs c = hs := by unfold wrE wrH; rw [h, k]; exact ⟨rfl, rfl⟩
theorem wr_ok {hs : List Hd} {c : Hd} (h : mayB c.a c.o c.x = true) (k : theB c.a = true) : wrE c = 0 ∧ wrH hs c = wo hs c.a ++ [c] := by unfold wrE wrH; rw [h, k]; exact ⟨rfl, rfl⟩
set_option maxRecDepth 100000 in
set_option maxHeartbeats 4000000 in
theorem rwrite_any (b cap : Nat) (r : Int) (Z : ByteArray) (hZ : NotE Z) (p : Option Addr) (hn hcap : Nat) (hs : List Hd) (hl : hs.length ≤ 1000) (c : Hd) (ha : c.a ≤ 9223372036854775807) (w : World) (hb : P4 b Z w) (hh : HsAt w (.slice p hn hcap) hs) :
    Calls Try.prog 46 #[docV (some ⟨b, 0, none⟩) 4 cap r, .slice p hn hcap, cV c.a c.o c.u c.x] w (WrP hs c w) := by
  have HS := Lib.hid (fun w => refSp_any c.o w)
  have HZ := Lib.hid hZ
  obtain ⟨hV, hC⟩ := two_new w #[.slice (some ⟨b, 0, none⟩) 4 cap, .int .i64 r] (cC c.a c.o c.u c.x) 39 100
  have hB := below2 w (.cells #[.slice (some ⟨b, 0, none⟩) 4 cap, .int .i64 r] 39) (.cells (cC c.a c.o c.u c.x) 100)
  have hP := show P4 b Z _ from blk_at hB hb
  have hH := hh.below hB
  obtain ⟨S, hS⟩ : ∃ S, spV c.o = S := ⟨_, rfl⟩
  rw [hS] at HS
  by_cases g1 : c.a < 0
  · have HW := Lib.hid (wr_arg (hs := hs) (c := c) (by cases h : mayB c.a c.o c.x <;> simp; have := (mayB_iff _ _ _).1 h; omega))
    clear hS
    go_enter Try.func46, Try.ntmps46
    go_upto_region 1 with fail
    change Code.wp _ _ _ _ ((w.alloc (.cells #[.slice (some ⟨b, 0, none⟩) 4 cap, .int .i64 r] 39)).alloc (.cells (cC c.a c.o c.u c.x) 100))
    obtain ⟨y, hy⟩ : ∃ y, ((w.alloc (.cells #[.slice (some ⟨b, 0, none⟩) 4 cap, .int .i64 r] 39)).alloc (.cells (cC c.a c.o c.u c.x) 100)) = y := ⟨_, rfl⟩
    obtain ⟨C, hCC⟩ : ∃ R, w.heap.size + 1 = R := ⟨_, rfl⟩
    obtain ⟨V, hVV⟩ : ∃ V, w.heap.size = V := ⟨_, rfl⟩
    rw [hy] at hV hC hB hP hH ⊢
    rw [hCC] at hC ⊢
    rw [hVV] at hV ⊢
    have HC := Lib.hid (show RB C c.a c.o c.u c.x y from hC); have HB := Lib.hid hB; have HP := Lib.hid hP; have HH := Lib.hid hH
    have v0 := (cell_blk hV 0).1; have v1 := (cell_blk hV 1).1
    obtain ⟨c0, c1, c2, c3⟩ := HC.out.all
    clear hy hCC hVV hV hC hB hP hH hh hb hZ
    go_wp2_with fail
    go_ret2
    exact ⟨_, by rw [HW.out.1]; rfl, by rw [HW.out.2]; exact HH.out, HB.out⟩
  by_cases g2 : c.a % 4096 = 0
  rotate_left
  · have HW := Lib.hid (wr_arg (hs := hs) (c := c) (by cases h : mayB c.a c.o c.x <;> simp; have := (mayB_iff _ _ _).1 h; omega))
    have d2 : (c.a.tmod 4096 != 0) = true := by rw [Int.tmod_eq_emod_of_nonneg (by omega)]; simpa using g2
    have d3 : (c.a % 4096 != 0) = true := by simpa using g2
    clear hS g2
    go_enter Try.func46, Try.ntmps46
    go_upto_region 1 with fail
    change Code.wp _ _ _ _ ((w.alloc (.cells #[.slice (some ⟨b, 0, none⟩) 4 cap, .int .i64 r] 39)).alloc (.cells (cC c.a c.o c.u c.x) 100))
    obtain ⟨y, hy⟩ : ∃ y, ((w.alloc (.cells #[.slice (some ⟨b, 0, none⟩) 4 cap, .int .i64 r] 39)).alloc (.cells (cC c.a c.o c.u c.x) 100)) = y := ⟨_, rfl⟩
    obtain ⟨C, hCC⟩ : ∃ R, w.heap.size + 1 = R := ⟨_, rfl⟩
    obtain ⟨V, hVV⟩ : ∃ V, w.heap.size = V := ⟨_, rfl⟩
    rw [hy] at hV hC hB hP hH ⊢
    rw [hCC] at hC ⊢
    rw [hVV] at hV ⊢
    have HC := Lib.hid (show RB C c.a c.o c.u c.x y from hC); have HB := Lib.hid hB; have HP := Lib.hid hP; have HH := Lib.hid hH
    have v0 := (cell_blk hV 0).1; have v1 := (cell_blk hV 1).1
    obtain ⟨c0, c1, c2, c3⟩ := HC.out.all
    clear hy hCC hVV hV hC hB hP hH hh hb hZ
    go_wp2_with fail
    go_ret2
    exact ⟨_, by rw [HW.out.1]; rfl, by rw [HW.out.2]; exact HH.out, HB.out⟩
  have d2 : (c.a.tmod 4096 != 0) = false := by rw [Int.tmod_eq_emod_of_nonneg (by omega)]; simpa using g2
  have d3 : (c.a % 4096 != 0) = false := by simpa using g2
  by_cases g3 : c.x < 0
  · have HW := Lib.hid (wr_arg (hs := hs) (c := c) (by cases h : mayB c.a c.o c.x <;> simp; have := (mayB_iff _ _ _).1 h; omega))
    clear hS g2
    go_enter Try.func46, Try.ntmps46
    go_upto_region 1 with fail
    change Code.wp _ _ _ _ ((w.alloc (.cells #[.slice (some ⟨b, 0, none⟩) 4 cap, .int .i64 r] 39)).alloc (.cells (cC c.a c.o c.u c.x) 100))
    obtain ⟨y, hy⟩ : ∃ y, ((w.alloc (.cells #[.slice (some ⟨b, 0, none⟩) 4 cap, .int .i64 r] 39)).alloc (.cells (cC c.a c.o c.u c.x) 100)) = y := ⟨_, rfl⟩
    obtain ⟨C, hCC⟩ : ∃ R, w.heap.size + 1 = R := ⟨_, rfl⟩
    obtain ⟨V, hVV⟩ : ∃ V, w.heap.size = V := ⟨_, rfl⟩
    rw [hy] at hV hC hB hP hH ⊢
    rw [hCC] at hC ⊢
    rw [hVV] at hV ⊢
    have HC := Lib.hid (show RB C c.a c.o c.u c.x y from hC); have HB := Lib.hid hB; have HP := Lib.hid hP; have HH := Lib.hid hH
    have v0 := (cell_blk hV 0).1; have v1 := (cell_blk hV 1).1
    obtain ⟨c0, c1, c2, c3⟩ := HC.out.all
    clear hy hCC hVV hV hC hB hP hH hh hb hZ
    go_wp2_with fail
    go_ret2
    exact ⟨_, by rw [HW.out.1]; rfl, by rw [HW.out.2]; exact HH.out, HB.out⟩
  by_cases g4 : S = 0
  · have HW := Lib.hid (wr_arg (hs := hs) (c := c) (by
      cases h : mayB c.a c.o c.x
      · rfl
      · have h2 := (mayB_iff _ _ _).1 h
        have := sp_of h2.2.2.1.1 h2.2.2.1.2
        omega))
    clear hS g2
    subst g4
    go_enter Try.func46, Try.ntmps46
    go_upto_region 1 with fail
    change Code.wp _ _ _ _ ((w.alloc (.cells #[.slice (some ⟨b, 0, none⟩) 4 cap, .int .i64 r] 39)).alloc (.cells (cC c.a c.o c.u c.x) 100))
    obtain ⟨y, hy⟩ : ∃ y, ((w.alloc (.cells #[.slice (some ⟨b, 0, none⟩) 4 cap, .int .i64 r] 39)).alloc (.cells (cC c.a c.o c.u c.x) 100)) = y := ⟨_, rfl⟩
    obtain ⟨C, hCC⟩ : ∃ R, w.heap.size + 1 = R := ⟨_, rfl⟩
    obtain ⟨V, hVV⟩ : ∃ V, w.heap.size = V := ⟨_, rfl⟩
    rw [hy] at hV hC hB hP hH ⊢
    rw [hCC] at hC ⊢
    rw [hVV] at hV ⊢
    have HC := Lib.hid (show RB C c.a c.o c.u c.x y from hC); have HB := Lib.hid hB; have HP := Lib.hid hP; have HH := Lib.hid hH
    have v0 := (cell_blk hV 0).1; have v1 := (cell_blk hV 1).1
    obtain ⟨c0, c1, c2, c3⟩ := HC.out.all
    clear hy hCC hVV hV hC hB hP hH hh hb hZ
    go_wp2_with fail
    refine (HS.out _).mono ?_
    rintro e w1 ⟨rfl, rfl⟩
    go_wp2_with fail
    go_ret2
    exact ⟨_, by rw [HW.out.1]; rfl, by rw [HW.out.2]; exact HH.out, HB.out⟩
  have hmay : mayB c.a c.o c.x = true := (mayB_iff _ _ _).2 ⟨by omega, g2, by
    by_cases ho : c.o < 0 ∨ 10 < c.o
    · rw [sp_zero ho] at hS; omega
    · omega, by omega⟩
  have d4 : (S == 0) = false := by simpa using g4
  have HMAY := Lib.hid hmay
  clear hmay hS g2 g4
  go_enter Try.func46, Try.ntmps46
  go_upto_region 1 with fail
  change Code.wp _ _ _ _ ((w.alloc (.cells #[.slice (some ⟨b, 0, none⟩) 4 cap, .int .i64 r] 39)).alloc (.cells (cC c.a c.o c.u c.x) 100))
  obtain ⟨y, hy⟩ : ∃ y, ((w.alloc (.cells #[.slice (some ⟨b, 0, none⟩) 4 cap, .int .i64 r] 39)).alloc (.cells (cC c.a c.o c.u c.x) 100)) = y := ⟨_, rfl⟩
  obtain ⟨C, hCC⟩ : ∃ R, w.heap.size + 1 = R := ⟨_, rfl⟩
  obtain ⟨V, hVV⟩ : ∃ V, w.heap.size = V := ⟨_, rfl⟩
  rw [hy] at hV hC hB hP hH ⊢
  rw [hCC] at hC ⊢
  rw [hVV] at hV ⊢
  have HC := Lib.hid (show RB C c.a c.o c.u c.x y from hC); have HB := Lib.hid hB; have HP := Lib.hid hP; have HH := Lib.hid hH
  have v0 := (cell_blk hV 0).1; have v1 := (cell_blk hV 1).1
  obtain ⟨c0, c1, c2, c3⟩ := HC.out.all
  clear hy hCC hVV hV hC hB hP hH hh hb hZ
  go_wp2_with fail
  refine (HS.out _).mono ?_
  rintro e w1 ⟨rfl, rfl⟩
  go_wp2_with fail
  refine (rthere_any b cap r Z HZ.out c.a ha _ HP.out).mono ?_
  rintro e w2 ⟨rfl, hb2⟩
  have HC2 := Lib.hid (show RB C c.a c.o c.u c.x w2 from blk_at hb2 HC.out)
  have HB2 := Lib.hid (HB.out.trans (hb2.mono HB.out.size))
  have HH2 := Lib.hid (HH.out.below hb2)
  clear hb2 c0 c1 c2 c3 v0 v1 HC HB HP HH HS
  obtain ⟨c0, c1, c2, c3⟩ := HC2.out.all
  cases hth : theB c.a with
  | false =>
    have HW := Lib.hid (wr_range (hs := hs) HMAY.out hth)
    clear hth
    go_wp2_with fail
    go_ret2
    exact ⟨_, by rw [HW.out.1]; rfl, by rw [HW.out.2]; exact HH2.out, HB2.out⟩
  | true =>
    have HW := Lib.hid (wr_ok (hs := hs) HMAY.out hth)
    clear hth HMAY
    obtain ⟨i0, hi0, hz0, hz1, hz2⟩ := info_parts Try.infoRC
    have HI := Lib.hid hi0; have HZ0 := Lib.hid hz0; have HZ1 := Lib.hid hz1; have HZ2 := Lib.hid hz2
    have HLN := Lib.hid (Nat.le_trans (wo_len hs c.a) hl)
    clear hi0 hz0 hz1 hz2
    go_upto_region 5 with fail
    have hS0 : RBS C c.a c.o c.u c.x w2.drew := (rbs_mk HC2.out).below (Below.refl _ _).drew
    have HBD := Lib.hid (show Below w.heap.size w w2.drew from HB2.out.drew)
    have HHD := Lib.hid (HH2.out.below (Below.refl _ _).drew)
    have HCL := Lib.hid (show C < w2.drew.heap.size from (Array.getElem?_eq_some_iff.1 hS0.2.2.2.2).1)
    clear c0 c1 c2 c3 HC2 HB2 HH2
    obtain ⟨x0, hx0⟩ : ∃ x, w2.drew = x := ⟨_, rfl⟩
    refine wp_region_held_drew (S := RBS C c.a c.o c.u c.x) (by kernel_rfl) hS0 (fun hHeld => ?_)
    clear hS0
    rw [hx0] at hHeld HBD HHD HCL ⊢
    clear hx0
    refine wpAnyH_take (i := 0) (v := .slice p hn hcap) rfl (by kernel_rfl) (by kernel_rfl) (by kernel_rfl) (fun _ _ _ h => h) (Or.inl ⟨by rfl, fun X hS => ?_⟩) hHeld ?_
    · obtain ⟨s0, s1, s2, s3, s4⟩ := hS
      go_simp
    try simp only [Act.put, List.getElem_toArray, List.getElem_cons_zero, List.getElem_cons_succ, List.setIfInBounds_toArray, List.set_cons_zero, List.set_cons_succ]
    refine wpAnyH_take (i := 1) (v := .pointer (some ⟨C, 0, none⟩)) rfl (by kernel_rfl) (by kernel_rfl) (by kernel_rfl) (fun _ _ _ h => h) (Or.inl ⟨by rfl, fun X hS => ?_⟩) hHeld ?_
    · obtain ⟨s0, s1, s2, s3, s4⟩ := hS
      go_simp
    try simp only [Act.put, List.getElem_toArray, List.getElem_cons_zero, List.getElem_cons_succ, List.setIfInBounds_toArray, List.set_cons_zero, List.set_cons_succ]
    refine wpAnyH_take (i := 2) (v := .int .i64 c.a) rfl (by kernel_rfl) (by kernel_rfl) (by kernel_rfl) (fun _ _ _ h => h) (Or.inl ⟨by rfl, fun X hS => ?_⟩) hHeld ?_
    · obtain ⟨s0, s1, s2, s3, s4⟩ := hS
      go_simp
    try simp only [Act.put, List.getElem_toArray, List.getElem_cons_zero, List.getElem_cons_succ, List.setIfInBounds_toArray, List.set_cons_zero, List.set_cons_succ]
    refine wpAnyH_take (i := 4) (v := .agg #[.int .i64 c.a, .int .i64 c.o, .int .u64 c.u, .int .i64 c.x]) rfl (by kernel_rfl) (by kernel_rfl) (by kernel_rfl) (fun _ _ _ h => h) (Or.inl ⟨by rfl, fun X hS => ?_⟩) hHeld ?_
    · obtain ⟨s0, s1, s2, s3, s4⟩ := hS
      go_simp
    try simp only [Act.put, List.getElem_toArray, List.getElem_cons_zero, List.getElem_cons_succ, List.setIfInBounds_toArray, List.set_cons_zero, List.set_cons_succ]
    refine wpAnyH_ready (rs := [3, 5]) (by kernel_rfl) (by simp) ?_
    refine AllReadyH.cons rfl (fun K1 hK1 => ?_) (AllReadyH.cons rfl (fun K1 hK1 => ?_) AllReadyH.nil)
    · have HC0 := Lib.hid hHeld.2.2.2.2
      go_simp
      refine (wo_any (.slice p hn hcap) hs hl c.a x0 HHD.out).mono ?_
      rintro e x1 ⟨v1, rfl, hrow, hb1⟩
      have hS1 := hHeld.below hb1
      clear hHeld
      refine hK1.out _ _ hS1 (fun hHeld => ?_)
      clear hK1 hS1
      try simp only [Act.put, List.getElem_toArray, List.getElem_cons_zero, List.getElem_cons_succ, List.setIfInBounds_toArray, List.set_cons_zero, List.set_cons_succ]
      refine wpAnyH_ready (rs := [5]) (by kernel_rfl) (by simp) (AllReadyH.cons rfl (fun K2 hK2 => ?_) AllReadyH.nil)
      go_simp
      have hS2 := hHeld.below (bel1 x1 (.cells #[.int .i64 c.a, .int .i64 c.o, .int .u64 c.u, .int .i64 c.x] 100))
      clear hHeld
      have hrow2 := hrow.alloc (.cells #[.int .i64 c.a, .int .i64 c.o, .int .u64 c.u, .int .i64 c.x] 100)
      have hb2 := hb1.alloc hb1.size (.cells #[.int .i64 c.a, .int .i64 c.o, .int .u64 c.u, .int .i64 c.x] 100)
      have hsz1 : x0.heap.size ≤ (x1.alloc (.cells #[.int .i64 c.a, .int .i64 c.o, .int .u64 c.u, .int .i64 c.x] 100)).heap.size := hb2.size
      refine hK2.out _ _ hS2 (fun hHeld => ?_)
      clear hK2 hS2
      try simp only [Act.put, List.getElem_toArray, List.getElem_cons_zero, List.getElem_cons_succ, List.setIfInBounds_toArray, List.set_cons_zero, List.set_cons_succ]
      refine wpAnyH_ready (rs := [6]) (by kernel_rfl) (by simp) (AllReadyH.cons rfl (fun K3 hK3 => ?_) AllReadyH.nil)
      rw [if_pos (by rfl)]
      refine wp_append_own _ (.tmp 38) (.tmp 40) 94 rfl x0.heap.size 100 i0 (.agg #[.int .i64 0, .int .i64 0, .int .u64 0, .int .i64 0]) 4 32 Try.underlying94 HI.out HZ0.out HZ1.out HZ2.out rfl (by decide) v1 _ _ rfl hrow2 ⟨_, 0, none⟩ 1 1 (hdL c) rfl rfl (hd_new c _ rfl) (by simp [hdL, Value.oneCell']) (by unfold maxLen; have := HLN.out; omega) (by have := HLN.out; omega) hsz1 ?_
      intro v2 w3 hown' hgrow _
      have hBW := own_grow hrow2 hgrow hsz1 hb2
      have HOW := Lib.hid (own_hs (hs := wo hs c.a ++ [c]) (show w3.ownsRow _ 100 4 v2 (wo hs c.a ++ [c]).length (hsL (wo hs c.a ++ [c])) by rw [hsL_append]; simpa [hsL] using hown'))
      have HBF := Lib.hid (HBD.out.trans (hBW.mono HBD.out.size))
      have hS3 := rbs_mk (show RB C c.a c.o c.u c.x w3 from ((hBW).block C HCL.out).trans HC0.out)
      clear hown' hgrow hBW hrow hrow2 hb1 hb2 hsz1 hHeld
      refine hK3.out _ _ hS3 (fun hHeld => ?_)
      clear hS3 hK3
      try simp only [Act.put, List.getElem_toArray, List.getElem_cons_zero, List.getElem_cons_succ, List.setIfInBounds_toArray, List.set_cons_zero, List.set_cons_succ]
      refine wpAnyH_take (i := 7) (v := v2) rfl (by kernel_rfl) (by kernel_rfl) (by kernel_rfl) (fun _ _ _ h => h) (Or.inl ⟨by rfl, fun X hS => ?_⟩) hHeld ?_
      · obtain ⟨s0, s1, s2, s3, s4⟩ := hS
        go_simp
      try simp only [Act.put, List.getElem_toArray, List.getElem_cons_zero, List.getElem_cons_succ, List.setIfInBounds_toArray, List.set_cons_zero, List.set_cons_succ]
      refine wpAnyH_take (i := 8) (v := .int .i64 0) rfl (by kernel_rfl) (by kernel_rfl) (by kernel_rfl) (fun _ _ _ h => h) (Or.inl ⟨by rfl, fun X hS => ?_⟩) hHeld ?_
      · obtain ⟨s0, s1, s2, s3, s4⟩ := hS
        go_simp
      try simp only [Act.put, List.getElem_toArray, List.getElem_cons_zero, List.getElem_cons_succ, List.setIfInBounds_toArray, List.set_cons_zero, List.set_cons_succ]
      refine wpAnyH_done (by kernel_rfl) ?_ _
      clear hHeld
      go_wp2_with fail
      go_ret2
      exact ⟨_, by rw [HW.out.1]; rfl, by rw [HW.out.2]; exact HOW.out, HBF.out⟩
    · have HC0 := Lib.hid hHeld.2.2.2.2
      go_simp
      have hS1 := hHeld.below (bel1 x0 (.cells #[.int .i64 c.a, .int .i64 c.o, .int .u64 c.u, .int .i64 c.x] 100))
      have hnew := hd_new (w := x0) c 100 rfl
      have hH1 := HHD.out.below (bel1 x0 (.cells #[.int .i64 c.a, .int .i64 c.o, .int .u64 c.u, .int .i64 c.x] 100))
      have hbx := bel1 x0 (.cells #[.int .i64 c.a, .int .i64 c.o, .int .u64 c.u, .int .i64 c.x] 100)
      have hlt0 : x0.heap.size < (x0.alloc (.cells #[.int .i64 c.a, .int .i64 c.o, .int .u64 c.u, .int .i64 c.x] 100)).heap.size := by simp
      clear hHeld
      change K1 _ (x0.alloc (.cells #[.int .i64 c.a, .int .i64 c.o, .int .u64 c.u, .int .i64 c.x] 100))
      obtain ⟨x1, hx1⟩ : ∃ x, x0.alloc (.cells #[.int .i64 c.a, .int .i64 c.o, .int .u64 c.u, .int .i64 c.x] 100) = x := ⟨_, rfl⟩
      obtain ⟨T, hT⟩ : ∃ T, x0.heap.size = T := ⟨_, rfl⟩
      rw [hx1] at hS1 hnew hH1 hbx hlt0 ⊢
      rw [hT] at hnew hlt0 ⊢
      have HTT := Lib.hid hT
      clear hx1 hT
      refine hK1.out _ _ hS1 (fun hHeld => ?_)
      clear hK1 hS1
      try simp only [Act.put, List.getElem_toArray, List.getElem_cons_zero, List.getElem_cons_succ, List.setIfInBounds_toArray, List.set_cons_zero, List.set_cons_succ]
      have HNW := Lib.hid hnew; have HH1 := Lib.hid hH1; have HBX := Lib.hid hbx; have HLT := Lib.hid hlt0
      clear hnew hH1 hbx hlt0
      refine wpAnyH_ready (rs := [3]) (by kernel_rfl) (by simp) (AllReadyH.cons rfl (fun K2 hK2 => ?_) AllReadyH.nil)
      go_simp
      refine (wo_any (.slice p hn hcap) hs hl c.a x1 HH1.out).mono ?_
      rintro e x2 ⟨v1, rfl, hrow, hb2⟩
      have hS2 := hHeld.below hb2
      clear hHeld
      refine hK2.out _ _ hS2 (fun hHeld => ?_)
      clear hK2 hS2
      try simp only [Act.put, List.getElem_toArray, List.getElem_cons_zero, List.getElem_cons_succ, List.setIfInBounds_toArray, List.set_cons_zero, List.set_cons_succ]
      have hnew2 : ∀ j u, (hdL c)[j]? = some u → x2.cell? ((⟨T, 0, none⟩ : Addr).add j) = some u := fun j u h => by
        have e : (⟨T, 0, none⟩ : Addr).add j = ⟨T, j, none⟩ := by simp only [Addr.add]; split <;> simp_all
        have h2 := HNW.out j u h
        rw [e] at h2 ⊢
        exact (hb2.cell (p := ⟨T, j, none⟩) HLT.out).trans h2
      have hsz1 : x1.heap.size ≤ x2.heap.size := hb2.size
      refine wpAnyH_ready (rs := [6]) (by kernel_rfl) (by simp) (AllReadyH.cons rfl (fun K3 hK3 => ?_) AllReadyH.nil)
      rw [if_pos (by rfl)]
      refine wp_append_own _ (.tmp 38) (.tmp 40) 94 rfl x1.heap.size 100 i0 (.agg #[.int .i64 0, .int .i64 0, .int .u64 0, .int .i64 0]) 4 32 Try.underlying94 HI.out HZ0.out HZ1.out HZ2.out rfl (by decide) v1 _ _ rfl hrow ⟨_, 0, none⟩ 1 1 (hdL c) rfl rfl hnew2 (by simp [hdL, Value.oneCell']) (by unfold maxLen; have := HLN.out; omega) (by have := HLN.out; omega) hsz1 ?_
      intro v2 w3 hown' hgrow _
      have hBW := own_grow hrow hgrow hsz1 hb2
      have HOW := Lib.hid (own_hs (hs := wo hs c.a ++ [c]) (show w3.ownsRow _ 100 4 v2 (wo hs c.a ++ [c]).length (hsL (wo hs c.a ++ [c])) by rw [hsL_append]; simpa [hsL] using hown'))
      have HBF := Lib.hid (HBD.out.trans ((HBX.out.trans (hBW.mono HBX.out.size)).mono HBD.out.size))
      have hS3 := rbs_mk (show RB C c.a c.o c.u c.x w3 from ((HBX.out.trans (hBW.mono HBX.out.size)).block C HCL.out).trans HC0.out)
      clear hown' hgrow hBW hrow hb2 hsz1 hHeld hnew2
      refine hK3.out _ _ hS3 (fun hHeld => ?_)
      clear hS3 hK3
      try simp only [Act.put, List.getElem_toArray, List.getElem_cons_zero, List.getElem_cons_succ, List.setIfInBounds_toArray, List.set_cons_zero, List.set_cons_succ]
      refine wpAnyH_take (i := 7) (v := v2) rfl (by kernel_rfl) (by kernel_rfl) (by kernel_rfl) (fun _ _ _ h => h) (Or.inl ⟨by rfl, fun X hS => ?_⟩) hHeld ?_
      · obtain ⟨s0, s1, s2, s3, s4⟩ := hS
        go_simp
      try simp only [Act.put, List.getElem_toArray, List.getElem_cons_zero, List.getElem_cons_succ, List.setIfInBounds_toArray, List.set_cons_zero, List.set_cons_succ]
      refine wpAnyH_take (i := 8) (v := .int .i64 0) rfl (by kernel_rfl) (by kernel_rfl) (by kernel_rfl) (fun _ _ _ h => h) (Or.inl ⟨by rfl, fun X hS => ?_⟩) hHeld ?_
      · obtain ⟨s0, s1, s2, s3, s4⟩ := hS
        go_simp
      try simp only [Act.put, List.getElem_toArray, List.getElem_cons_zero, List.getElem_cons_succ, List.setIfInBounds_toArray, List.set_cons_zero, List.set_cons_succ]
      refine wpAnyH_done (by kernel_rfl) ?_ _
      clear hHeld
      go_wp2_with fail
      go_ret2
      exact ⟨_, by rw [HW.out.1]; rfl, by rw [HW.out.2]; exact HOW.out, HBF.out⟩
end Go.Proofs.Ytglfllnemenhnaa.Bt
/- The document's arena of the chunks' statement. -/
namespace Go.Proofs.Ytglfllnemenhnaa.Bt
open Go Go.RowKit Go.Shelf
set_option linter.unusedVariables false
set_option linter.unusedSimpArgs false

def zPage : ByteArray := strL (List.replicate 4096 0)
theorem zPage_ne : NotE zPage := by
  unfold NotE zPage
  rw [ByteArray.toList_eq]
  show (List.replicate 4096 (0 : UInt8)).isEmpty = false
  simp
def s4 (m : Nat → UInt8) : ASt := { commitS (commitS (newS 4) 0 2) 3 1 with mm := m }
theorem s4_L (m : Nat → UInt8) : (s4 m).L = 4 ∧ (s4 m).es = [0, 2, 3, 4] := by
  show (commitS (commitS (newS 4) 0 2) 3 1).L = 4 ∧ (commitS (commitS (newS 4) 0 2) 3 1).es = [0, 2, 3, 4]
  decide
theorem s4_mk : commitS (commitS (newS 4) 0 2) 3 1 = s4 (fun _ => 0) := rfl
theorem s4_e1 : commitE (newS 4) 0 2 = 0 := by decide
theorem s4_e2 : commitE (commitS (newS 4) 0 2) 3 1 = 0 := by decide
theorem has4 (j : Nat) (hj : j < 4) : hasB 4 [0, 2, 3, 4] j = decide (j ≠ 2) := by
  have : j = 0 ∨ j = 1 ∨ j = 2 ∨ j = 3 := by omega
  rcases this with rfl | rfl | rfl | rfl <;> decide
theorem page4 (j : Nat) (hj : j < 4) (h2 : j ≠ 2) : thereE 4 [0, 2, 3, 4] ((j : Int) * 4096) 4096 = 0 := by
  have h := (there_iff good4 ((j : Int) * 4096) 4096).2 ⟨by omega, by omega, by omega, fun i i0 i1 => (mem4 _ (by omega) (by omega)).2 (by omega)⟩
  unfold thereE; rw [h]; rfl
theorem getM_zero (a n : Nat) : getM (fun _ => 0) a n = List.replicate n 0 := by
  unfold getM
  induction n with
  | zero => rfl
  | succ n ih => rw [List.range_succ, List.map_append, ih, List.replicate_succ']; rfl
section
variable {A : Nat} {s : ASt} {w : World}
theorem on_has (h : On A s w) (i : Int) : Calls Try.prog 97 #[.pointer (some ⟨A, 0, none⟩), .int .i64 i] w (Gives (.bool (hasB s.L s.es i)) w) := by
  obtain ⟨P, ps, p, n, cap, h⟩ := h
  have HX := Lib.hid h
  have g := h.good
  have HN := Lib.hid h.num
  clear h
  go_enter Try.func97, Try.ntmps97
  go_wp2_with fail
  refine (pages_any HX.out).mono ?_
  rintro e w1 ⟨rfl, hb1⟩
  go_wp2_with fail
  refine (has_any s.L p n cap s.es i _ g (HX.out.below hb1).edges HN.out).mono ?_
  rintro e w2 ⟨rfl, hb2⟩
  go_wp2_with fail
  go_ret
  exact ⟨rfl, hb1.trans (hb2.mono hb1.size)⟩
theorem on_cap (h : On A s w) : Calls Try.prog 56 #[.pointer (some ⟨A, 0, none⟩)] w fun e w' => e = .returned (.int .i64 (s.L : Int)) ∧ w = w' := by
  obtain ⟨P, ps, p, n, cap, h⟩ := h
  exact cap_any h
end
theorem mine_fresh {A : Nat} {s : ASt} {w w' : World} (h : On A s w) (hb : Below w.heap.size w w') {b : Nat} (h1 : w.heap.size ≤ b) (h2 : b < w'.heap.size) : Mine A b w' := by
  obtain ⟨P, ps, p, n, cap, h⟩ := h
  have h3 := h.below hb
  refine ⟨h2, fun ho => ?_, fun ho => ?_⟩
  · rcases (ownW_iff h3 _).1 ho with h4 | h4 | ⟨i, h4⟩
    · have := h.ltA; omega
    · have := h.ltP; omega
    · have := h.ltG h4; omega
  · obtain ⟨off, h4⟩ := (edgW_iff h3 _).1 ho
    have := h.ltE h4; omega
theorem heap_ne {X : World} {a b : Nat} {c d : Array Value} {T U : TypeId} {f g : Nat × Nat} (h : X.heap[a]? = some (.cells c T f)) (k : X.heap[b]? = some (.cells d U g)) (hne : T ≠ U) : a ≠ b := fun e => by
  subst e; rw [h] at k; simp only [Option.some.injEq, Obj.cells.injEq] at k; exact hne k.2.1
/-- the pages laid so far -/
def pgI (j k : Nat) : ByteArray := if k < j then pgZ zPage k else ⟨#[]⟩
def pgC (j : Nat) : Array Value := #[.string (pgI j 0), .string (pgI j 1), .string (pgI j 2), .string (pgI j 3)]
theorem pgC_get (j k : Nat) (hk : k < 4) : (pgC j)[k]? = some (.string (pgI j k)) := by
  have : k = 0 ∨ k = 1 ∨ k = 2 ∨ k = 3 := by omega
  rcases this with rfl | rfl | rfl | rfl <;> rfl
theorem pgC_full : pgC 4 = #[.string zPage, .string zPage, .string ⟨#[]⟩, .string zPage] := rfl
theorem pgC_none : pgC 0 = #[.string ⟨#[]⟩, .string ⟨#[]⟩, .string ⟨#[]⟩, .string ⟨#[]⟩] := rfl
theorem pgC_two : pgC 3 = pgC 2 := rfl
theorem pgC_step (j : Nat) (hj : j < 4) (h2 : j ≠ 2) : (pgC j).setIfInBounds j (.string zPage) = pgC (j + 1) := by
  have : j = 0 ∨ j = 1 ∨ j = 3 := by omega
  rcases this with rfl | rfl | rfl <;> rfl
def New4 (w : World) (e : Ending) (w' : World) : Prop := ∃ b, e = .returned (docV (some ⟨b, 0, none⟩) 4 4 (-1)) ∧ w'.heap[b]? = some (.cells (pgC 0) 9 (0, 0)) ∧ w.heap.size ≤ b ∧ Below w.heap.size w w'
theorem rnew_four (w : World) : Calls Try.prog 17 #[.int .i64 4] w (New4 w) := by
  have HMK : ∀ w : World, (Instr.makeSlice 37 (.int .i64 4) (.int .i64 4)).run Try.prog w = .ok (.slice (some ⟨w.heap.size, 0, none⟩) 4 4) (w.alloc (.cells #[.string ⟨#[]⟩, .string ⟨#[]⟩, .string ⟨#[]⟩, .string ⟨#[]⟩] 9)) := fun w => run_strs 4 (by omega) w
  go_enter Try.func17, Try.ntmps17
  go_wp2_with fail
  exact bodyPost_ret (v := docV (some ⟨w.heap.size + 1, 0, none⟩) 4 4 (-1)) (by simp [results, Try.results17, go_sem]) rfl ⟨_, rfl, heap_old2 _ _ _, by omega, below2 _ _ _⟩
/-- the variables of Of -/
def OS (O Q b j A : Nat) (m : Nat → UInt8) (w X : World) : Prop :=
  X.cell? ⟨Q, 0, none⟩ = some (.slice (some ⟨b, 0, none⟩) 4 4) ∧ X.cell? ⟨Q, 1, none⟩ = some (.int .i64 (-1)) ∧ X.heap[Q]? = some (.cells #[.slice (some ⟨b, 0, none⟩) 4 4, .int .i64 (-1)] 39 (0, 0)) ∧
  X.heap[O]? = some (.cells #[.slice none 0 0, .int .i64 0] 39 (0, 0)) ∧ X.heap[b]? = some (.cells (pgC j) 9 (0, 0)) ∧ On A (s4 m) X ∧ Below w.heap.size w X ∧ w.heap.size ≤ b
theorem OS.below {O Q b j A : Nat} {m : Nat → UInt8} {w X Y : World} (h : OS O Q b j A m w X) (hb : Below X.heap.size X Y) : OS O Q b j A m w Y :=
  ⟨(cell_blk (blk_at hb h.2.2.1) 0).1, (cell_blk (blk_at hb h.2.2.1) 1).1, blk_at hb h.2.2.1, blk_at hb h.2.2.2.1, blk_at hb h.2.2.2.2.1, h.2.2.2.2.2.1.below hb, h.2.2.2.2.2.2.1.trans (hb.mono h.2.2.2.2.2.2.1.size), h.2.2.2.2.2.2.2⟩
def OfP (A : Nat) (w : World) (e : Ending) (w' : World) : Prop := ∃ b, e = .returned (docV (some ⟨b, 0, none⟩) 4 4 (-1)) ∧ P4 b zPage w' ∧ Below w.heap.size w w'
set_option maxRecDepth 100000 in
set_option maxHeartbeats 4000000 in
theorem of_any (A : Nat) (w : World) (h : On A (s4 (fun _ => 0)) w) : Calls Try.prog 41 #[.pointer (some ⟨A, 0, none⟩)] w (OfP A w) := by
  have HL := Lib.hid (s4_L (fun _ => 0))
  have HW0 := Lib.hid h
  have hR := heap_new w (.cells #[.slice none 0 0, .int .i64 0] 39)
  have hB := bel1 w (.cells #[.slice none 0 0, .int .i64 0] 39)
  have hX := h.below hB
  go_enter Try.func41, Try.ntmps41
  go_upto_region 1 with fail
  obtain ⟨y, hy⟩ : ∃ y, w.alloc (.cells #[.slice none 0 0, .int .i64 0] 39) = y := ⟨_, rfl⟩
  obtain ⟨O, hO⟩ : ∃ O, w.heap.size = O := ⟨_, rfl⟩
  change Code.wp _ _ _ _ (w.alloc (.cells #[.slice none 0 0, .int .i64 0] 39))
  rw [hy] at hR hB hX ⊢
  have hOw : w.heap.size ≤ O := by omega
  rw [hO] at hR ⊢
  have HR := Lib.hid hR; have HB := Lib.hid hB; have HX := Lib.hid hX; have HOW := Lib.hid hOw
  clear hy hO hR hB hX h hOw
  go_wp2_with fail
  refine (on_cap HX.out).mono ?_
  rintro e w1 ⟨rfl, rfl⟩
  rw [HL.out.1]
  go_wp2_with fail
  refine (rnew_four _).mono ?_
  rintro e w2 ⟨b, rfl, hp, hbl, hb⟩
  have HR2 := Lib.hid (blk_at hb HR.out)
  have HB2 := Lib.hid (HB.out.trans (hb.mono HB.out.size))
  have HX2 := Lib.hid (HX.out.below hb)
  have HP2 := Lib.hid hp
  have HBL := Lib.hid (show w.heap.size ≤ b from Nat.le_trans HB.out.size hbl)
  clear hp hbl hb HR HB HX
  go_upto_region 2 with fail
  have hQ := heap_new w2 (.cells #[.slice (some ⟨b, 0, none⟩) 4 4, .int .i64 (-1)] 39)
  have hb := bel1 w2 (.cells #[.slice (some ⟨b, 0, none⟩) 4 4, .int .i64 (-1)] 39)
  change Code.wp _ _ _ _ (w2.alloc (.cells #[.slice (some ⟨b, 0, none⟩) 4 4, .int .i64 (-1)] 39))
  have hos : OS O w2.heap.size b 0 A (fun _ => 0) w (w2.alloc (.cells #[.slice (some ⟨b, 0, none⟩) 4 4, .int .i64 (-1)] 39)) :=
    ⟨(cell_blk hQ 0).1, (cell_blk hQ 1).1, hQ, blk_at hb HR2.out, blk_at hb HP2.out, HX2.out.below hb, HB2.out.trans (hb.mono HB2.out.size), HBL.out⟩
  obtain ⟨z, hz⟩ : ∃ z, w2.alloc (.cells #[.slice (some ⟨b, 0, none⟩) 4 4, .int .i64 (-1)] 39) = z := ⟨_, rfl⟩
  obtain ⟨Q, hQQ⟩ : ∃ Q, w2.heap.size = Q := ⟨_, rfl⟩
  rw [hz] at hos ⊢
  rw [hQQ] at hos ⊢
  have HOS := Lib.hid hos
  have c0 := hos.1; have c1 := hos.2.1
  clear hQ hb hz hQQ hos HR2 HB2 HX2 HP2
  go_wp2_with fail
  clear c0 c1
  go_loopw [11] (fun s wr => ∃ j : Nat, j ≤ 4 ∧ s = .int .i64 (j : Int) ∧ OS O Q b j A (fun _ => 0) w wr) (fun s _ => 4 - (intOf s).toNat)
  case atStart => exact ⟨0, by omega, rfl, HOS.out⟩
  case round =>
    obtain ⟨j, hj, rfl, hos⟩ := hrel
    have HS := Lib.hid hos
    clear hos HOS
    by_cases hj4 : j < 4
    · have HH := Lib.hid (has4 j hj4)
      go_wp2_with fail
      refine (on_has HS.out.2.2.2.2.2.1 j).mono ?_
      rintro e w3 ⟨rfl, hb3⟩
      rw [HL.out.1, HL.out.2, HH.out]
      have HS3 := Lib.hid (HS.out.below hb3)
      clear hb3 HS HH
      by_cases h2 : j = 2
      · have HN : Hid (OS O Q b (j + 1) A (fun _ => 0) w w3) := Lib.hid (by
          obtain ⟨k0, k1, k2, k3, k4, k5⟩ := HS3.out
          exact ⟨k0, k1, k2, k3, by rw [h2] at k4 ⊢; rw [pgC_two]; exact k4, k5⟩)
        rw [decide_eq_false (show ¬ (j ≠ 2) by simpa using h2)]
        clear h2
        go_wp2_with fail
        go_roundw
        case rel => exact ⟨j + 1, by omega, by go_num, HN.out⟩
        case measure => simp [intOf]; omega
      · have HT : Hid (thereE (s4 (fun _ => 0)).L (s4 (fun _ => 0)).es ((j : Int) * 4096) 4096 = 0) := Lib.hid (by rw [HL.out.1, HL.out.2]; exact page4 j hj4 h2)
        have HY : Hid (byV (s4 (fun _ => 0)) ((j : Int) * 4096) 4096 = zPage) := Lib.hid (by
          unfold byV; rw [HT.out, if_pos rfl]
          show strL (getM (fun _ => 0) _ _) = _
          rw [getM_zero]; rfl)
        have HST := Lib.hid (pgC_step j hj4 h2)
        rw [decide_eq_true (show j ≠ 2 from h2)]
        clear h2
        go_upto_region 6 with fail
        have hS0 : OS O Q b j A (fun _ => 0) w w3.drew := HS3.out.below (Below.refl _ _).drew
        have QM : Hid (IntKind.i64.wrap ((j : Int) * 4096) = (j : Int) * 4096) := Lib.hid (IntWalk.i64_in _ (by omega))
        clear HS3
        refine wp_region_held_drew (S := fun X => ∃ i, OS O Q b i A (fun _ => 0) w X) (by kernel_rfl) ⟨j, hS0⟩ (fun hHeld => ?_)
        refine wpAnyH_take (i := 0) (v := .pointer (some ⟨Q, 0, none⟩)) rfl (by kernel_rfl) (by kernel_rfl) (by kernel_rfl) (fun _ _ _ h => h) (Or.inl ⟨by rfl, fun X hS => ?_⟩) hHeld ?_
        · obtain ⟨s0, s1, s2, s3, s4, s5, s6, s7, s8⟩ := hS
          go_simp
        try simp only [Act.put, List.getElem_toArray, List.getElem_cons_zero, List.getElem_cons_succ, List.setIfInBounds_toArray, List.set_cons_zero, List.set_cons_succ]
        refine wpAnyH_take (i := 1) (v := .slice (some ⟨b, 0, none⟩) 4 4) rfl (by kernel_rfl) (by kernel_rfl) (by kernel_rfl) (fun _ _ _ h => h) (Or.inl ⟨by rfl, fun X hS => ?_⟩) hHeld ?_
        · obtain ⟨s0, s1, s2, s3, s4, s5, s6, s7, s8⟩ := hS
          go_simp
        try simp only [Act.put, List.getElem_toArray, List.getElem_cons_zero, List.getElem_cons_succ, List.setIfInBounds_toArray, List.set_cons_zero, List.set_cons_succ]
        refine wpAnyH_take (i := 2) (v := .int .i64 j) rfl (by kernel_rfl) (by kernel_rfl) (by kernel_rfl) (fun _ _ _ h => h) (Or.inl ⟨by rfl, fun X hS => ?_⟩) hHeld ?_
        · obtain ⟨s0, s1, s2, s3, s4, s5, s6, s7, s8⟩ := hS
          go_simp
        try simp only [Act.put, List.getElem_toArray, List.getElem_cons_zero, List.getElem_cons_succ, List.setIfInBounds_toArray, List.set_cons_zero, List.set_cons_succ]
        refine wpAnyH_take (i := 3) (v := .pointer (some ⟨A, 0, none⟩)) rfl (by kernel_rfl) (by kernel_rfl) (by kernel_rfl) (fun _ _ _ h => h) (Or.inl ⟨by rfl, fun X hS => ?_⟩) hHeld ?_
        · obtain ⟨s0, s1, s2, s3, s4, s5, s6, s7, s8⟩ := hS
          go_simp
        try simp only [Act.put, List.getElem_toArray, List.getElem_cons_zero, List.getElem_cons_succ, List.setIfInBounds_toArray, List.set_cons_zero, List.set_cons_succ]
        refine wpAnyH_take (i := 4) (v := .int .i64 j) rfl (by kernel_rfl) (by kernel_rfl) (by kernel_rfl) (fun _ _ _ h => h) (Or.inl ⟨by rfl, fun X hS => ?_⟩) hHeld ?_
        · obtain ⟨s0, s1, s2, s3, s4, s5, s6, s7, s8⟩ := hS
          go_simp
        try simp only [Act.put, List.getElem_toArray, List.getElem_cons_zero, List.getElem_cons_succ, List.setIfInBounds_toArray, List.set_cons_zero, List.set_cons_succ]
        refine wpAnyH_take (i := 5) (v := .int .i64 ((j : Int) * 4096)) rfl (by kernel_rfl) (by kernel_rfl) (by kernel_rfl) (fun _ _ _ h => h) (Or.inl ⟨by rfl, fun X hS => ?_⟩) hHeld ?_
        · obtain ⟨s0, s1, s2, s3, s4, s5, s6, s7, s8⟩ := hS
          have q := QM.out
          go_simp
        try simp only [Act.put, List.getElem_toArray, List.getElem_cons_zero, List.getElem_cons_succ, List.setIfInBounds_toArray, List.set_cons_zero, List.set_cons_succ]
        have HSD := Lib.hid hS0
        refine wpAnyH_ready (rs := [6]) (by kernel_rfl) (by simp) (AllReadyH.cons rfl (fun K1 hK1 => ?_) AllReadyH.nil)
        go_simp
        refine (on_abytes HSD.out.2.2.2.2.2.1 ((j : Int) * 4096) 4096 (by omega)).mono ?_
        rintro e x1 ⟨rfl, hb1⟩
        rw [HY.out, HT.out]
        have HS4 := Lib.hid (HSD.out.below hb1)
        clear hS0 hHeld hb1 HSD
        refine hK1.out _ _ ⟨j, HS4.out⟩ (fun hHeld => ?_)
        clear hK1
        try simp only [Act.put, List.getElem_toArray, List.getElem_cons_zero, List.getElem_cons_succ, List.setIfInBounds_toArray, List.set_cons_zero, List.set_cons_succ]
        refine wpAnyH_take (i := 7) (v := .tuple #[.string zPage, .int .i64 0]) rfl (by kernel_rfl) (by kernel_rfl) (by kernel_rfl) (fun _ _ _ h => h) (Or.inl ⟨by rfl, fun X hS => ?_⟩) hHeld ?_
        · obtain ⟨s0, s1, s2, s3, s4, s5, s6, s7, s8⟩ := hS
          go_simp
        try simp only [Act.put, List.getElem_toArray, List.getElem_cons_zero, List.getElem_cons_succ, List.setIfInBounds_toArray, List.set_cons_zero, List.set_cons_succ]
        refine wpAnyH_take (i := 8) (v := .string zPage) rfl (by kernel_rfl) (by kernel_rfl) (by kernel_rfl) (fun _ _ _ h => h) (Or.inl ⟨by rfl, fun X hS => ?_⟩) hHeld ?_
        · obtain ⟨s0, s1, s2, s3, s4, s5, s6, s7, s8⟩ := hS
          go_simp
        try simp only [Act.put, List.getElem_toArray, List.getElem_cons_zero, List.getElem_cons_succ, List.setIfInBounds_toArray, List.set_cons_zero, List.set_cons_succ]
        refine wpAnyH_take (i := 9) (v := .int .i64 0) rfl (by kernel_rfl) (by kernel_rfl) (by kernel_rfl) (fun _ _ _ h => h) (Or.inl ⟨by rfl, fun X hS => ?_⟩) hHeld ?_
        · obtain ⟨s0, s1, s2, s3, s4, s5, s6, s7, s8⟩ := hS
          go_simp
        try simp only [Act.put, List.getElem_toArray, List.getElem_cons_zero, List.getElem_cons_succ, List.setIfInBounds_toArray, List.set_cons_zero, List.set_cons_succ]
        refine wpAnyH_take (i := 10) (v := .pointer (some ⟨b, j, none⟩)) rfl (by kernel_rfl) (by kernel_rfl) (by kernel_rfl) (fun _ _ _ h => h) (Or.inl ⟨by rfl, fun X hS => ?_⟩) hHeld ?_
        · obtain ⟨s0, s1, s2, s3, s4, s5, s6, s7, s8⟩ := hS
          go_simp
        try simp only [Act.put, List.getElem_toArray, List.getElem_cons_zero, List.getElem_cons_succ, List.setIfInBounds_toArray, List.set_cons_zero, List.set_cons_succ]
        have e0 := (cell_blk HS4.out.2.2.2.2.1 j).1
        have e1 := (cell_blk HS4.out.2.2.2.2.1 j).2
        rw [pgC_get j j hj4] at e0
        refine wpAnyH_ready (rs := [11]) (by kernel_rfl) (by simp) (AllReadyH.cons rfl (fun K2 hK2 => ?_) AllReadyH.nil)
        go_simp
        have HN : Hid (OS O Q b (j + 1) A (fun _ => 0) w (x1.setCell ⟨b, j, none⟩ (.string zPage))) := Lib.hid (by
          obtain ⟨k0, k1, k2, k3, k4, k5, k6, k7⟩ := HS4.out
          have n1 : Q ≠ b := heap_ne k2 k4 (by decide)
          have n2 : O ≠ b := heap_ne k3 k4 (by decide)
          have hq : (x1.setCell ⟨b, j, none⟩ (.string zPage)).heap[Q]? = _ := (set_other _ n1).trans k2
          have ho : (x1.setCell ⟨b, j, none⟩ (.string zPage)).heap[O]? = _ := (set_other _ n2).trans k3
          have hm := mine_fresh HW0.out k6 k7 (Array.getElem?_eq_some_iff.1 k4).1
          exact ⟨(cell_blk hq 0).1, (cell_blk hq 1).1, hq, ho, by rw [← HST.out]; exact heap_set k4 _, k5.set hm _ _, k6.setCell (p := ⟨b, j, none⟩) k7 _, k7⟩)
        clear hHeld e0 e1 HS4
        refine hK2.out _ _ ⟨j + 1, HN.out⟩ (fun hHeld => ?_)
        clear hK2 hHeld
        try simp only [Act.put, List.getElem_toArray, List.getElem_cons_zero, List.getElem_cons_succ, List.setIfInBounds_toArray, List.set_cons_zero, List.set_cons_succ]
        refine wpAnyH_done (by kernel_rfl) ?_ _
        go_wp2_with fail
        go_roundw
        case rel => exact ⟨j + 1, by omega, by go_num, HN.out⟩
        case measure => simp [intOf]; omega
    · obtain rfl : j = 4 := by omega
      have HSZ : Hid ((Try.prog.info? 39).map (·.size) = some 2) := Lib.hid (by kernel_rfl)
      obtain ⟨k0, k1, k2, k3, k4, k5, k6, k7⟩ := HS.out
      have r0 := (cell_blk k3 0).1; have r1 := (cell_blk k3 1).1; have f0 := (cell_blk k3 0).2; have f1 := (cell_blk k3 1).2
      go_wp2_with fail
      have h3 : ((wr.setCell ⟨O, 0, none⟩ (.slice (some ⟨b, 0, none⟩) 4 4)).setCell ⟨O, 1, none⟩ (.int .i64 (-1))).heap[O]? = some (.cells #[.slice (some ⟨b, 0, none⟩) 4 4, .int .i64 (-1)] 39 (0, 0)) := heap_set (heap_set k3 _) _
      have g0 := (cell_blk h3 0).1; have g1 := (cell_blk h3 1).1
      have n2 : b ≠ O := (heap_ne k3 k4 (by decide)).symm
      have hp : P4 b zPage ((wr.setCell ⟨O, 0, none⟩ (.slice (some ⟨b, 0, none⟩) 4 4)).setCell ⟨O, 1, none⟩ (.int .i64 (-1))) := by
        unfold P4; rw [set_other _ n2, set_other _ n2, k4]; rfl
      exact bodyPost_ret (v := docV (some ⟨b, 0, none⟩) 4 4 (-1)) (by simp [results, Try.results41, go_sem, g0, g1]) rfl ⟨b, rfl, hp, (k6.setCell (p := ⟨O, 0, none⟩) HOW.out _).setCell (p := ⟨O, 1, none⟩) HOW.out _⟩
end Go.Proofs.Ytglfllnemenhnaa.Bt
/- Headers that stand in memory, and the document's: they agree behind each act. -/
namespace Go.Proofs.Ytglfllnemenhnaa.Bt
open Go Go.RowKit Go.Shelf
set_option linter.unusedVariables false
set_option linter.unusedSimpArgs false

def rdM (m : Nat → UInt8) (a : Int) : Value :=
  if stB m a then .tuple #[cV a (rdO m a.toNat) (rdU m a.toNat) (rdX m a.toNat), .int .i64 0] else .tuple #[cV 0 0 0 0, .int .i64 7]
structure Con (m : Nat → UInt8) (hs : List Hd) : Prop where
  rd : ∀ a, theB a = true → rdM m a = hdV (fdH hs a)
  al : ∀ c ∈ hs, c.a % 4096 = 0
theorem there_s4 (m : Nat → UInt8) (a : Int) : thereE (s4 m).L (s4 m).es a 32 = if theB a then 0 else 3 := by
  rw [(s4_L m).1, (s4_L m).2]; exact there4 a
theorem con_read {m : Nat → UInt8} {hs : List Hd} (h : Con m hs) (a : Int) : rdV (s4 m) a = rrV hs a := by
  unfold rdV rrV
  rw [there_s4]
  cases ht : theB a with
  | false => rfl
  | true => exact h.rd a ht
theorem fdH_wo (hs : List Hd) (a b : Int) : fdH (wo hs a) b = if b = a then none else fdH hs b := by
  unfold fdH wo
  induction hs with
  | nil => simp
  | cons c l ih =>
    by_cases hc : c.a = a
    · rw [List.filter_cons_of_neg (by simpa using hc), ih]
      by_cases hb : b = a
      · rw [if_pos hb, if_pos hb]
      · rw [if_neg hb, if_neg hb, List.find?_cons_of_neg (by simp; omega)]
    · rw [List.filter_cons_of_pos (by simpa using hc)]
      by_cases hcb : c.a = b
      · rw [List.find?_cons_of_pos (by simpa using hcb), if_neg (by omega), List.find?_cons_of_pos (by simpa using hcb)]
      · rw [List.find?_cons_of_neg (by simpa using hcb), ih]
        by_cases hb : b = a
        · rw [if_pos hb, if_pos hb]
        · rw [if_neg hb, if_neg hb, List.find?_cons_of_neg (by simpa using hcb)]
theorem fdH_app (l : List Hd) (c : Hd) (b : Int) : fdH (l ++ [c]) b = (fdH l b).or (if c.a = b then some c else none) := by
  unfold fdH
  rw [List.find?_append]
  by_cases h : c.a = b
  · rw [if_pos h, List.find?_cons_of_pos (by simpa using h)]
  · rw [if_neg h, List.find?_cons_of_neg (by simpa using h)]; rfl
theorem fdH_al {hs : List Hd} (h : ∀ c ∈ hs, c.a % 4096 = 0) {a : Int} (ha : a % 4096 ≠ 0) : fdH hs a = none := by
  unfold fdH
  rw [List.find?_eq_none]
  intro c hc
  have := h c hc
  simp
  intro e
  rw [e] at this
  exact ha this
theorem wo_al {hs : List Hd} (h : ∀ c ∈ hs, c.a % 4096 = 0) (a : Int) : ∀ c ∈ wo hs a, c.a % 4096 = 0 := fun c hc => h c (List.mem_filter.1 hc).1
theorem rdM_congr {m m' : Nat → UInt8} {a : Int} (h : ∀ j, j < 32 → m (a.toNat + j) = m' (a.toNat + j)) : rdM m a = rdM m' a := by
  obtain ⟨h1, h2, h3, h4⟩ := rd_congr h
  unfold rdM; rw [h1, h2, h3, h4]
theorem con_zero : Con (fun _ => 0) [] := ⟨fun a _ => by unfold rdM; rw [rd_none _ _ fun j _ => rfl]; rfl, fun c hc => by cases hc⟩
theorem theB_lo {a : Int} (h : theB a = true) : 0 ≤ a := (of_decide_eq_true h).1
/-- what is written, or wiped, at one place is not at another one -/
theorem con_other {m m' : Nat → UInt8} {hs : List Hd} (h : Con m hs) {a0 : Int} (ha0 : 0 ≤ a0 ∧ a0 % 4096 = 0) (hm : ∀ i, i < a0.toNat ∨ a0.toNat + 32 ≤ i → m' i = m i) {a : Int} (ht : theB a = true) (hne : a ≠ a0) : rdM m' a = hdV (fdH hs a) := by
  by_cases hp : a % 4096 = 0
  · rw [← h.rd a ht]
    have := theB_lo ht
    exact rdM_congr fun j hj => hm _ (by omega)
  · rw [fdH_al h.al hp]
    unfold rdM
    rw [rd_not (.inr hp)]; rfl
theorem con_wr {m : Nat → UInt8} {hs : List Hd} (h : Con m hs) (c : Hd) (hm : mayB c.a c.o c.x = true) (hu : 0 ≤ c.u ∧ c.u < 18446744073709551616) (hx : c.x ≤ 9223372036854775807) : Con (wrM m c.a.toNat c.a c.o c.u c.x) (wo hs c.a ++ [c]) := by
  obtain ⟨g1, g2, g3, g4⟩ := (mayB_iff _ _ _).1 hm
  refine ⟨fun a ht => ?_, fun d hd => ?_⟩
  · rw [fdH_app, fdH_wo]
    by_cases e : a = c.a
    · subst e
      rw [if_pos rfl, if_pos rfl]
      obtain ⟨k1, k2, k3, k4⟩ := rd_wr m c.a c.o c.u c.x hm hu hx
      unfold rdM
      rw [k4, k1, k2, k3]; rfl
    · rw [if_neg e, if_neg (by omega), Option.or_none]
      exact con_other h ⟨g1, g2⟩ (fun i hi => wrM_out m _ _ _ _ _ i hi) ht e
  · rcases List.mem_append.1 hd with hd | hd
    · exact wo_al h.al c.a d hd
    · rw [List.mem_singleton.1 hd]; exact g2
theorem con_wipe {m : Nat → UInt8} {hs : List Hd} (h : Con m hs) (a0 : Int) (hp : a0 % 4096 = 0) (h0 : theB a0 = true) : Con (putM m a0.toNat (List.replicate 32 0)) (wo hs a0) := by
  refine ⟨fun a ht => ?_, wo_al h.al a0⟩
  rw [fdH_wo]
  by_cases e : a = a0
  · subst e
    rw [if_pos rfl]
    unfold rdM
    rw [rd_none _ _ fun j hj => by
      rw [putM_in _ _ _ (by rw [List.length_replicate]; exact hj)]
      rw [List.getD_eq_getElem?_getD, List.getElem?_replicate, if_pos hj]; rfl]
    rfl
  · rw [if_neg e]
    exact con_other h ⟨theB_lo h0, hp⟩ (fun i hi => putM_out _ _ _ (by rw [List.length_replicate]; exact hi)) ht e
theorem con_out {m : Nat → UInt8} {hs : List Hd} (h : Con m hs) (a0 : Int) (h0 : theB a0 = false) : Con m (wo hs a0) := by
  refine ⟨fun a ht => ?_, wo_al h.al a0⟩
  rw [fdH_wo, if_neg (fun e => by rw [e, h0] at ht; cases ht)]
  exact h.rd a ht
/-- the program's calls, where memory and the document's headers agree -/
def CwP (A : Nat) (er : Int) (hs' : List Hd) (w : World) (e : Ending) (w' : World) : Prop := ∃ m', e = .returned (.int .i64 er) ∧ On A (s4 m') w' ∧ Went A w w' ∧ Con m' hs'
section
variable {A : Nat} {w : World} {m : Nat → UInt8} {hs : List Hd}
theorem cw_any (h : On A (s4 m) w) (hc : Con m hs) (c : Hd) (hk : CkB c.a c.o c.u c.x) :
    Calls Try.prog 45 #[.pointer (some ⟨A, 0, none⟩), cV c.a c.o c.u c.x] w (CwP A (wrE c) (wrH hs c) w) := by
  cases hm : mayB c.a c.o c.x with
  | false =>
    rw [(wr_arg (hs := hs) hm).1, (wr_arg (hs := hs) hm).2]
    refine (write_arg h c.a c.o c.u c.x hk.a1 hm).mono ?_
    rintro e w' ⟨rfl, hb⟩
    exact ⟨m, rfl, h.below hb, Went.of_below h hb, hc⟩
  | true =>
    cases ht : theB c.a with
    | false =>
      rw [(wr_range (hs := hs) hm ht).1, (wr_range (hs := hs) hm ht).2]
      refine (write_range h c.a c.o c.u c.x hk.a1 hm (by rw [there_s4, ht]; decide)).mono ?_
      rintro e w' ⟨rfl, hb⟩
      exact ⟨m, rfl, h.below hb, Went.of_below h hb, hc⟩
    | true =>
      rw [(wr_ok (hs := hs) hm ht).1, (wr_ok (hs := hs) hm ht).2]
      refine (write_ok h c.a c.o c.u c.x hk.a1 ⟨hk.u0, hk.u1⟩ hk.x1 hm (by rw [there_s4, ht]; rfl)).mono ?_
      rintro e w' ⟨rfl, ho, hg⟩
      exact ⟨_, rfl, ho, hg, con_wr hc c hm ⟨hk.u0, hk.u1⟩ hk.x1⟩
theorem cwipe_any (h : On A (s4 m) w) (hc : Con m hs) (a : Int) (ha : a ≤ 9223372036854775807) (hp : a % 4096 = 0) :
    Calls Try.prog 42 #[.pointer (some ⟨A, 0, none⟩), .int .i64 a] w (CwP A (if theB a then 0 else 3) (wo hs a) w) := by
  refine (wipe_any h a ha).mono ?_
  rintro e w' ⟨rfl, ho, hg⟩
  rw [there_s4]
  cases ht : theB a with
  | false =>
    have e : fillS (s4 m) a 32 0 = s4 m := by unfold fillS; rw [there_s4, ht, if_neg (by decide)]
    rw [e] at ho
    exact ⟨m, rfl, ho, hg, con_out hc a ht⟩
  | true =>
    have e : fillS (s4 m) a 32 0 = s4 (putM m a.toNat (List.replicate 32 0)) := by unfold fillS; rw [there_s4, ht, if_pos (by decide)]; rfl
    rw [e] at ho
    exact ⟨_, rfl, ho, hg, con_wipe hc a hp ht⟩
theorem cr_any (h : On A (s4 m) w) (hc : Con m hs) (a : Int) (ha : a ≤ 9223372036854775807) :
    Calls Try.prog 47 #[.pointer (some ⟨A, 0, none⟩), .int .i64 a] w (Gives (rrV hs a) w) := by
  rw [← con_read hc a]; exact read_any h a ha
end
end Go.Proofs.Ytglfllnemenhnaa.Bt
/- Acts of chunks that came in, opened; chunk's calls of no arena. -/
namespace Go.Proofs.Ytglfllnemenhnaa.Bt
open Go Go.RowKit Go.Shelf Go.ChangeShapes Go.WideShapes Go.Deep
set_option linter.unusedVariables false
set_option linter.unusedSimpArgs false

structure Act10 where
  d : Int
  c : Hd
def Act10.ok (a : Act10) : Prop := 0 ≤ a.d ∧ a.d ≤ 255 ∧ CkB a.c.a a.c.o a.c.u a.c.x
def Act10Cells (w : World) (b off : Nat) (a : Act10) : Prop :=
  w.cell? ⟨b, off, none⟩ = some (.int .u8 a.d) ∧ w.cell? ⟨b, off + 1, none⟩ = some (.int .i64 a.c.a) ∧ w.cell? ⟨b, off + 2, none⟩ = some (.int .i64 a.c.o) ∧ w.cell? ⟨b, off + 3, none⟩ = some (.int .u64 a.c.u) ∧ w.cell? ⟨b, off + 4, none⟩ = some (.int .i64 a.c.x)
def Acts10At (w : World) (p : Option Addr) (acts : List Act10) : Prop :=
  (acts = []) ∨ ∃ b off, p = some ⟨b, off, none⟩ ∧ b < w.heap.size ∧ ∀ i (h : i < acts.length), Act10Cells w b (off + i * 5) acts[i] ∧ acts[i].ok
set_option maxRecDepth 100000 in
theorem acts10_open {H : Type} {enc : TypeId × Value → H} {w : World} {fuel : Nat} {v : Value} {x : DataW H × List MemPlace} {a : Option Addr} {len cap : Nat} (hv : v = .slice a len cap)
    (h : DataW.trod enc Try.prog w 0 (fun _ => true) true fuel 91 v.cells.toList = some x) : ∃ acts : List Act10, acts.length = len ∧ len ≤ 9223372036854775807 ∧ Acts10At w a acts := by
  subst hv
  rcases open_slice Try.underlying91 h with ⟨h1, _⟩ | ⟨ad, len', cap', m, n, D, Pl, h1, _, hl, hm, hmm, _, hi⟩
  · simp [Value.cells] at h1
    exact ⟨[], by simp [h1.2.1], by omega, .inl rfl⟩
  · simp [Value.cells] at h1
    obtain ⟨rfl, rfl, rfl⟩ := h1
    unfold maxLen at hm
    have hlm : len ≤ m := by rw [hmm]; simp; omega
    have key : ∀ i, i < len → ∃ act : Act10, act.ok ∧ w.cell? (ad.add (i * 5)) = some (.int .u8 act.d) ∧ w.cell? (ad.add (i * 5 + 1)) = some (.int .i64 act.c.a) ∧ w.cell? (ad.add (i * 5 + 2)) = some (.int .i64 act.c.o) ∧ w.cell? (ad.add (i * 5 + 3)) = some (.int .u64 act.c.u) ∧ w.cell? (ad.add (i * 5 + 4)) = some (.int .i64 act.c.x) := by
      intro i hilt
      obtain ⟨cs', hc, ht⟩ := hi i (by omega)
      rw [Try.cellsAct10] at hc
      obtain ⟨_, hcl, hat⟩ := World.cells?_some hc
      obtain ⟨y0, y1, k, _, _, e0, e1⟩ := trod_struct2 Try.underlying98 ht
      match cs', hcl with
      | [c0, c1, c2, c3, c4], _ =>
        simp only [Try.cellsU8c, Try.cellsChk, List.drop_zero, List.drop_succ_cons, List.take_succ_cons, List.take_zero] at e0 e1
        obtain ⟨f, hf, _, wf⟩ := DataW.trod_int Try.underlying5 e0
        obtain ⟨ca, co, cu, cx, hcs, hb⟩ := chunk_cells rfl e1
        simp only [List.cons.injEq, and_true] at hf hcs
        obtain ⟨rfl, rfl, rfl, rfl⟩ := hcs
        subst hf
        have b1 := bounds_u8 wf
        have a0 := hat 0 (by omega)
        have a1 := hat 1 (by omega)
        have a2 := hat 2 (by omega)
        have a3 := hat 3 (by omega)
        have a4 := hat 4 (by omega)
        rw [add_add] at a0 a1 a2 a3 a4
        exact ⟨⟨f, ⟨ca, co, cu, cx⟩⟩, ⟨b1.1, b1.2, hb⟩, by simpa using a0, by simpa using a1, by simpa using a2, by simpa using a3, by simpa using a4⟩
    refine ⟨(List.range len).attach.map fun i => Classical.choose (key i.1 (List.mem_range.1 i.2)), by simp, by omega, ?_⟩
    by_cases h0 : len = 0
    · subst h0; exact .inl rfl
    · have k0 := (Classical.choose_spec (key 0 (by omega))).2.1
      obtain ⟨b, off, spot⟩ := ad
      have hspot : spot = none := by simpa [Addr.add] using World.cell?_spot k0
      subst hspot
      refine .inr ⟨b, off, rfl, World.block_lt_of_cell? _ _ (by simpa [Addr.add] using k0), fun i hil => ?_⟩
      have hil' : i < len := by simpa using hil
      have ks := Classical.choose_spec (key i hil')
      have eA : ∀ j, (⟨b, off, none⟩ : Addr).add j = ⟨b, off + j, none⟩ := fun j => by
        simp only [Addr.add]; split <;> simp_all
      simp only [List.getElem_map, List.getElem_attach, List.getElem_range]
      exact ⟨⟨(congrArg w.cell? (eA _).symm).trans ks.2.1, (congrArg w.cell? (eA (i * 5 + 1)).symm).trans ks.2.2.1, (congrArg w.cell? (eA (i * 5 + 2)).symm).trans ks.2.2.2.1, (congrArg w.cell? (eA (i * 5 + 3)).symm).trans ks.2.2.2.2.1, (congrArg w.cell? (eA (i * 5 + 4)).symm).trans ks.2.2.2.2.2⟩, ks.1⟩
theorem wnil_any (w : World) : Calls Try.prog 45 #[.pointer none, .agg #[.int .i64 0, .int .i64 0, .int .u64 0, .int .i64 0]] w (Gives (.int .i64 1) w) := by
  go_enter Try.func45, Try.ntmps45
  go_wp2_with fail
  go_ret
  exact ⟨rfl, bel1 _ _⟩
theorem wipenil_any (w : World) : Calls Try.prog 42 #[.pointer none, .int .i64 0] w (Gives (.int .i64 1) w) := by
  go_enter Try.func42, Try.ntmps42
  go_wp2_with fail
  refine (fill_nil 0 32 0 _).mono ?_
  rintro e w1 ⟨rfl, hb⟩
  go_wp2_with fail
  go_ret
  exact ⟨rfl, hb⟩
theorem rnil_any (w : World) : Calls Try.prog 47 #[.pointer none, .int .i64 0] w (Gives (.tuple #[.agg #[.int .i64 0, .int .i64 0, .int .u64 0, .int .i64 0], .int .i64 1]) w) := by
  have HR := Lib.hid (cb_new w 0 0 0 0)
  have HB := Lib.hid (bel1 w (.cells (cC 0 0 0 0) 96))
  have HSZ : Hid (∀ a o u x, (Try.prog.info? 96).map (·.size) = some (cC a o u x).size) := Lib.hid (fun a o u x => Try.infoChk)
  go_enter Try.func47, Try.ntmps47
  go_upto_region 1 with fail
  obtain ⟨x, hx⟩ : ∃ x, w.alloc (.cells (cC 0 0 0 0) 96) = x := ⟨_, rfl⟩
  obtain ⟨R, hRR⟩ : ∃ R, w.heap.size = R := ⟨_, rfl⟩
  rw [hx] at HR HB
  rw [hRR] at HR
  change Code.wp _ _ _ _ (w.alloc (.cells (cC 0 0 0 0) 96))
  rw [hx, hRR]
  have HRR := Lib.hid (show w.heap.size ≤ R by omega)
  clear hx hRR
  go_wp2_with fail
  refine (vof_nil 0 32 _).mono ?_
  rintro e w2 ⟨rfl, hb⟩
  have HB2 := Lib.hid (HB.out.trans (hb.mono HB.out.size))
  have HR2 := Lib.hid (show CB R 0 0 0 0 w2 from blk_at hb HR.out)
  clear hb HR HB
  go_upto_region 2 with fail
  obtain ⟨y, hy⟩ : ∃ y, (w2.alloc (.cells #[.pointer none, .int .i64 0, .int .i64 0] 31)) = y := ⟨_, rfl⟩
  have hlt := (Array.getElem?_eq_some_iff.1 HR2.out).1
  have hc : CB R 0 0 0 0 y := by
    unfold CB; rw [← hy]; exact (Below.heap_alloc _ _ _ hlt).trans HR2.out
  have hb : Below w.heap.size w y := by rw [← hy]; exact HB2.out.alloc HB2.out.size _
  change Code.wp _ _ _ _ (w2.alloc (.cells #[.pointer none, .int .i64 0, .int .i64 0] 31))
  rw [hy]
  have HC := Lib.hid hc; have HBY := Lib.hid hb
  clear hlt hc hb hy HR2 HB2
  go_wp2_with (first | (refine wpList_store_row rfl 96 (.tmp 4) (.tmp 18) rfl R (cC 0 0 0 0) rfl rfl 96 (cC 0 0 0 0) HC.out (HSZ.out _ _ _ _) rfl (cC_one _ _ _ _) ?_))
  have hl := run_loadVar_row (P := Try.prog) (y.setRow R (cC 0 0 0 0)) R 96 96 (cC 0 0 0 0) (0, 0) _ (setRow_ad HC.out _) Try.underlying96 rfl (HSZ.out _ _ _ _)
  exact bodyPost_ret (v := .tuple #[.agg (cC 0 0 0 0), .int .i64 1]) (by simp [results, Try.results47, asAddr, hl, Act.put]) rfl ⟨rfl, below_setRow HBY.out HRR.out _⟩
end Go.Proofs.Ytglfllnemenhnaa.Bt
/- The walk of ChunkPlays. (Written by gen_chs.py.) -/
namespace Go.Proofs.Ytglfllnemenhnaa.Bt
open Go Go.RowKit Go.Shelf
set_option linter.unusedVariables false
set_option linter.unusedSimpArgs false

/-- what stands between two acts -/
structure PC (A Q b : Nat) (m : Nat → UInt8) (hs : List Hd) (sv : Value) (w x : World) : Prop where
  o : On A (s4 m) x
  q : x.heap[Q]? = some (.cells #[.slice (some ⟨b, 0, none⟩) 4 4, .int .i64 (-1)] 39 (0, 0))
  p : P4 b zPage x
  h : HsAt x sv hs
  b : Base A w x
  c : Con m hs
theorem PC.below {A Q b : Nat} {m : Nat → UInt8} {hs : List Hd} {sv : Value} {w x y : World} (h : PC A Q b m hs sv w x) (hb : Below x.heap.size x y) : PC A Q b m hs sv w y :=
  ⟨h.o.below hb, blk_at hb h.q, blk_at hb h.p, h.h.below hb, h.b.below h.o hb, h.c⟩
theorem PC.went {A Q b : Nat} {m m' : Nat → UInt8} {hs : List Hd} {sv : Value} {w x y : World} (h : PC A Q b m hs sv w x) (ho : On A (s4 m') y) (hg : Went A x y) :
    y.heap[Q]? = some (.cells #[.slice (some ⟨b, 0, none⟩) 4 4, .int .i64 (-1)] 39 (0, 0)) ∧ P4 b zPage y ∧ HsAt y sv hs ∧ Base A w y :=
  ⟨hg.keep h.o h.q (by decide) (by decide) (by decide), hg.keep h.o h.p (by decide) (by decide) (by decide), h.h.went h.o hg, h.b.went hg⟩
theorem HsAt.slice {w : World} {v : Value} {hs : List Hd} (h : HsAt w v hs) : ∃ p cap, v = .slice p hs.length cap := by
  rcases h with ⟨rfl, rfl⟩ | ⟨b, cap, _, _, e, _⟩
  · exact ⟨none, 0, rfl⟩
  · exact ⟨_, cap, e⟩
theorem wrH_len (hs : List Hd) (c : Hd) : (wrH hs c).length ≤ hs.length + 1 := by
  unfold wrH; split
  · rw [List.length_append]; have := wo_len hs c.a; simp; omega
  · omega
theorem rrV_form (hs : List Hd) (a : Int) : ∃ p q r s er, rrV hs a = .tuple #[.agg #[.int .i64 p, .int .i64 q, .int .u64 r, .int .i64 s], .int .i64 er] := by
  unfold rrV
  split
  · cases fdH hs a with
    | some c => exact ⟨c.a, c.o, c.u, c.x, 0, rfl⟩
    | none => exact ⟨0, 0, 0, 0, 7, rfl⟩
  · exact ⟨0, 0, 0, 0, 3, rfl⟩
/-- what Read's error comes to, of a place that is wiped -/
theorem rrV_err (hs : List Hd) (a : Int) : ∃ p q r s er, rrV hs a = .tuple #[.agg #[.int .i64 p, .int .i64 q, .int .u64 r, .int .i64 s], .int .i64 er] ∧ (er = 7 ∧ theB a = true ∨ er ≠ 7 ∧ (if theB a then 0 else 3) = er) := by
  unfold rrV
  cases theB a with
  | true =>
    rw [if_pos rfl]
    cases fdH hs a with
    | some c => exact ⟨c.a, c.o, c.u, c.x, 0, rfl, .inr ⟨by decide, rfl⟩⟩
    | none => exact ⟨0, 0, 0, 0, 7, rfl, .inl ⟨rfl, rfl⟩⟩
  | false => exact ⟨0, 0, 0, 0, 3, rfl, .inr ⟨by decide, rfl⟩⟩
def adL (a : Int) (j : Nat) : Int := if j = 0 then 0 else if j = 1 then 4096 else if j = 2 then 8192 else if j = 3 then 12288 else if j = 4 then 16384 else a
theorem adL_hi {a : Int} (h : a ≤ 9223372036854775807) (j : Nat) : adL a j ≤ 9223372036854775807 := by unfold adL; (repeat' split) <;> omega
theorem adL_at (a : Int) (j : Nat) (h : j < 6) : (#[.int .i64 0, .int .i64 4096, .int .i64 8192, .int .i64 12288, .int .i64 16384, .int .i64 a] : Array Value)[j]? = some (.int .i64 (adL a j)) := by
  have : j = 0 ∨ j = 1 ∨ j = 2 ∨ j = 3 ∨ j = 4 ∨ j = 5 := by omega
  rcases this with rfl | rfl | rfl | rfl | rfl | rfl <;> rfl
def LB (L : Nat) (a : Int) (x : World) : Prop := x.heap[L]? = some (.cells #[.int .i64 0, .int .i64 4096, .int .i64 8192, .int .i64 12288, .int .i64 16384, .int .i64 a] 3 (0, 0))
def TB (T : Nat) (y : Act10) (x : World) : Prop := x.heap[T]? = some (.cells #[.int .u8 y.d, .int .i64 y.c.a, .int .i64 y.c.o, .int .u64 y.c.u, .int .i64 y.c.x] 98 (0, 0))
theorem TB.all {T : Nat} {y : Act10} {x : World} (h : TB T y x) : x.cell? ⟨T, 0, none⟩ = some (.int .u8 y.d) ∧ x.cell? ⟨T, 1, none⟩ = some (.int .i64 y.c.a) ∧ x.cell? ⟨T, 2, none⟩ = some (.int .i64 y.c.o) ∧ x.cell? ⟨T, 3, none⟩ = some (.int .u64 y.c.u) ∧ x.cell? ⟨T, 4, none⟩ = some (.int .i64 y.c.x) :=
  ⟨(cell_blk h 0).1, (cell_blk h 1).1, (cell_blk h 2).1, (cell_blk h 3).1, (cell_blk h 4).1⟩
/-- between two places that are read -/
structure PI (A Q b L : Nat) (a : Int) (m : Nat → UInt8) (hs : List Hd) (sv : Value) (w x : World) : Prop where
  k : PC A Q b m hs sv w x
  l : LB L a x
theorem PI.below {A Q b L : Nat} {a : Int} {m : Nat → UInt8} {hs : List Hd} {sv : Value} {w x y : World} (h : PI A Q b L a m hs sv w x) (hb : Below x.heap.size x y) : PI A Q b L a m hs sv w y := ⟨h.k.below hb, blk_at hb h.l⟩
set_option maxHeartbeats 16000000 in
set_option maxRecDepth 100000 in
theorem plays10_all (p : Option Addr) (len cap : Nat) (acts : List Act10) (hlen : acts.length = len) (hl63 : len ≤ 9223372036854775807) (w : World) (hrow : Acts10At w p acts) :
    Calls Try.prog 7 #[.slice p len cap] w (TrueAt w) := by
  have HR := Lib.hid hrow
  have HLN := Lib.hid hlen
  clear hrow hlen
  go_enter Try.func7, Try.ntmps7
  go_wp2_with fail
  refine (awake10_calls _).mono ?_
  rintro e w0 ⟨rfl, hb0⟩
  have HB0 := Lib.hid hb0
  clear hb0
  by_cases hl40 : 40 < len
  · have h40 : 40 < (len : Int) := by omega
    go_wp2_with fail
    go_ret
    exact ⟨rfl, HB0.out⟩
  have h40 : (len : Int) ≤ 40 := by omega
  have hlen40 : len ≤ 40 := by omega
  have L1 : Hid (lenN 4 = 4) := Lib.hid (by decide)
  go_wp2_with fail
  refine (on_new 4 _).mono ?_
  rintro e w1 ⟨A, rfl, hA, hx, hb, hm⟩
  rw [L1.out] at hx
  have HX1 := Lib.hid hx
  have HB1 := Lib.hid (hb.rebase HB0.out)
  clear hx hb hA hm L1 HB0 hl40 hl63
  go_wp2_with fail
  refine (on_commit HX1.out 0 2 (by omega)).mono ?_
  rintro e w2 ⟨rfl, hx, hg⟩
  rw [s4_e1]
  have HX2 := Lib.hid hx
  have HB2 := Lib.hid (HB1.out.went hg)
  clear hx hg HX1 HB1
  go_wp2_with fail
  refine (on_commit HX2.out 3 1 (by omega)).mono ?_
  rintro e w3 ⟨rfl, hx, hg⟩
  rw [s4_e2]
  rw [s4_mk] at hx
  have HX3 := Lib.hid hx
  have HB3 := Lib.hid (HB2.out.went hg)
  clear hx hg HX2 HB2
  go_wp2_with fail
  refine (of_any A _ HX3.out).mono ?_
  rintro e w4 ⟨b, rfl, hp, hb⟩
  have HX4 := Lib.hid (HX3.out.below hb)
  have HB4 := Lib.hid (HB3.out.below HX3.out hb)
  have HP4 := Lib.hid hp
  clear hp hb HX3 HB3
  go_upto_region 9 with fail
  have hq := heap_new w4 (.cells #[.slice (some ⟨b, 0, none⟩) 4 4, .int .i64 (-1)] 39)
  have hb := bel1 w4 (.cells #[.slice (some ⟨b, 0, none⟩) 4 4, .int .i64 (-1)] 39)
  change Code.wp _ _ _ _ (w4.alloc (.cells #[.slice (some ⟨b, 0, none⟩) 4 4, .int .i64 (-1)] 39))
  have hpc : PC A w4.heap.size b (fun _ => 0) [] (.slice none 0 0) w (w4.alloc (.cells #[.slice (some ⟨b, 0, none⟩) 4 4, .int .i64 (-1)] 39)) :=
    ⟨HX4.out.below hb, hq, blk_at hb HP4.out, .inl ⟨rfl, rfl⟩, HB4.out.below HX4.out hb, con_zero⟩
  obtain ⟨z, hz⟩ : ∃ z, w4.alloc (.cells #[.slice (some ⟨b, 0, none⟩) 4 4, .int .i64 (-1)] 39) = z := ⟨_, rfl⟩
  obtain ⟨Q, hQ⟩ : ∃ Q, w4.heap.size = Q := ⟨_, rfl⟩
  rw [hz] at hpc ⊢
  rw [hQ] at hpc ⊢
  have HPC0 := Lib.hid hpc
  clear hq hb hpc hz hQ HX4 HB4 HP4
  go_wp2_with fail
  go_loopw [5, 36] (fun s5 s36 wr => ∃ (i : Nat) (m : Nat → UInt8) (hs : List Hd), i ≤ len ∧ s36 = .int .i64 (i : Int) ∧ hs.length ≤ i ∧ PC A Q b m hs s5 w wr) (fun _ s36 _ => len - (intOf s36).toNat)
  case atStart => exact ⟨0, _, [], Nat.zero_le _, rfl, Nat.le_refl _, HPC0.out⟩
  case round =>
    clear HPC0
    obtain ⟨i, m, hs, hi, rfl, hhl, hpc⟩ := hrel
    obtain ⟨p5, cap5, hsv⟩ := hpc.h.slice
    obtain ⟨nh, hnh⟩ : ∃ n, hs.length = n := ⟨_, rfl⟩
    have HNH := Lib.hid hnh
    rw [hnh] at hsv hhl
    subst hsv
    have HPC := Lib.hid hpc
    clear hnh hpc
    by_cases hlt : i < len
    · rcases HR.out with he | ⟨pb, off, rfl, hbl, hc⟩
      · have := HLN.out; rw [he] at this; simp at this; omega
      obtain ⟨y, hy⟩ : ∃ y, acts[i]'(by rw [HLN.out]; exact hlt) = y := ⟨_, rfl⟩
      obtain ⟨⟨a0_, a1_, a2_, a3_, a4_⟩, hyd0, hyd1, hyc⟩ := hc i (by rw [HLN.out]; exact hlt)
      rw [hy] at a0_ a1_ a2_ a3_ a4_ hyd0 hyd1 hyc
      have HYC := Lib.hid hyc
      have b0 := (HPC.out.b.bel.cell (p := ⟨pb, off + i * 5, none⟩) hbl).trans a0_
      have b1 := (HPC.out.b.bel.cell (p := ⟨pb, off + i * 5 + 1, none⟩) hbl).trans a1_
      have b2 := (HPC.out.b.bel.cell (p := ⟨pb, off + i * 5 + 2, none⟩) hbl).trans a2_
      have b3 := (HPC.out.b.bel.cell (p := ⟨pb, off + i * 5 + 3, none⟩) hbl).trans a3_
      have b4 := (HPC.out.b.bel.cell (p := ⟨pb, off + i * 5 + 4, none⟩) hbl).trans a4_
      have hT := heap_new wr (.cells #[.int .u8 y.d, .int .i64 y.c.a, .int .i64 y.c.o, .int .u64 y.c.u, .int .i64 y.c.x] 98)
      have hbT := bel1 wr (.cells #[.int .u8 y.d, .int .i64 y.c.a, .int .i64 y.c.o, .int .u64 y.c.u, .int .i64 y.c.x] 98)
      have hpT := HPC.out.below hbT
      clear hc hy a0_ a1_ a2_ a3_ a4_ hyc
      go_upto_region 13 with fail
      change Code.wp _ _ _ _ (wr.alloc (.cells #[.int .u8 y.d, .int .i64 y.c.a, .int .i64 y.c.o, .int .u64 y.c.u, .int .i64 y.c.x] 98))
      obtain ⟨x, hx⟩ : ∃ x, wr.alloc (.cells #[.int .u8 y.d, .int .i64 y.c.a, .int .i64 y.c.o, .int .u64 y.c.u, .int .i64 y.c.x] 98) = x := ⟨_, rfl⟩
      obtain ⟨T, hTT⟩ : ∃ T, wr.heap.size = T := ⟨_, rfl⟩
      rw [hx] at hT hpT ⊢
      rw [hTT] at hT ⊢
      have HT := Lib.hid (show TB T y x from hT); have HP := Lib.hid hpT
      clear hT hbT hpT hx hTT b0 b1 b2 b3 b4 HPC
      obtain ⟨r, hr⟩ : ∃ r, y.d % 4 = r := ⟨_, rfl⟩
      have hr2 : y.d.tmod 4 = r := by rw [Int.tmod_eq_emod_of_nonneg hyd0]; exact hr
      have hr4 : 0 ≤ r ∧ r < 4 := by omega
      obtain ⟨t0, t1, t2, t3, t4⟩ := HT.out.all
      have hnh1 : nh ≤ 1000 := by omega
      have HLE : Hid (hs.length ≤ 1000) := Lib.hid (by rw [HNH.out]; omega)
      have HAH := Lib.hid HYC.out.a1
      have htm : y.c.a.tmod 4096 = 0 ↔ y.c.a % 4096 = 0 := ⟨fun h => Int.emod_eq_zero_of_dvd (Int.dvd_of_tmod_eq_zero h), fun h => Int.tmod_eq_zero_of_dvd (Int.dvd_of_emod_eq_zero h)⟩
      by_cases hr22 : r = 2
      · subst hr22
        clear htm
        go_upto_region 25 with fail
        have HPD := HP; have HTD := HT; have HLD := HLE
        have hi1 : hs.length ≤ i + 1 := by rw [HNH.out]; omega
        clear hr hr2 t0 t1 t2 t3 t4
        have dee : ((0 : Int) != (0 : Int)) = false := by simp
        obtain ⟨t0, t1, t2, t3, t4⟩ := HTD.out.all
        have HI1 := Lib.hid hi1
        clear hi1
        have HPI0 : Hid (PI A Q b x.heap.size y.c.a m (hs) (.slice p5 nh cap5) w (x.alloc (.cells #[.int .i64 0, .int .i64 4096, .int .i64 8192, .int .i64 12288, .int .i64 16384, .int .i64 y.c.a] 3))) := Lib.hid ⟨HPD.out.below (bel1 _ _), heap_new _ _⟩
        go_wp2_with fail
        go_loopw [93] (fun s93 wx => ∃ j : Nat, j ≤ 6 ∧ s93 = .int .i64 (j : Int) ∧ PI A Q b x.heap.size y.c.a m (hs) (.slice p5 nh cap5) w wx) (fun s93 _ => 6 - (intOf s93).toNat)
        case atStart => exact ⟨0, by omega, rfl, HPI0.out⟩
        case round =>
          clear HPI0 t0 t1 t2 t3 t4
          obtain ⟨j, hj, rfl, hpi⟩ := hrel
          have HPI := Lib.hid hpi
          clear hpi
          by_cases hj6 : j < 6
          · have cj := (cell_blk HPI.out.l j).1
            rw [adL_at _ j hj6] at cj
            have HAD := Lib.hid (adL_hi HAH.out j)
            obtain ⟨ad, had⟩ : ∃ ad, adL y.c.a j = ad := ⟨_, rfl⟩
            rw [had] at cj HAD
            clear had
            obtain ⟨p6, q6, r6, s6, e6, hF⟩ := rrV_form (hs) ad
            have HF := Lib.hid hF
            clear hF
            go_wp2_with fail
            refine (cr_any HPI.out.k.o HPI.out.k.c ad HAD.out).mono ?_
            rintro e x6 ⟨rfl, hb6⟩
            rw [HF.out]
            have HPI6 := Lib.hid (HPI.out.below hb6)
            clear hb6 cj HPI
            have h6 := heap_new x6 (.cells (cC p6 q6 r6 s6) 96)
            have hb6 := bel1 x6 (.cells (cC p6 q6 r6 s6) 96)
            have hp6 := HPI6.out.below hb6
            go_upto_region 31 with fail
            change Code.wp _ _ _ _ (x6.alloc (.cells (cC p6 q6 r6 s6) 96))
            obtain ⟨z6, hz6⟩ : ∃ z, x6.alloc (.cells (cC p6 q6 r6 s6) 96) = z := ⟨_, rfl⟩
            obtain ⟨D, hD⟩ : ∃ D, x6.heap.size = D := ⟨_, rfl⟩
            rw [hz6] at h6 hp6 ⊢
            rw [hD] at h6 ⊢
            have HD6 := Lib.hid (show CB D p6 q6 r6 s6 z6 from h6); have HPZ := Lib.hid hp6
            clear h6 hb6 hp6 hz6 hD HPI6
            have q0 := (cell_blk HPZ.out.k.q 0).1; have q1 := (cell_blk HPZ.out.k.q 1).1
            go_wp2_with fail
            refine (rread_any b 4 (-1) zPage zPage_ne (.slice p5 nh cap5) (hs) HLD.out ad HAD.out _ HPZ.out.k.p HPZ.out.k.h).mono ?_
            rintro e x7 ⟨rfl, hb7⟩
            rw [HF.out]
            have HPI7 := Lib.hid (HPZ.out.below hb7)
            have HD7 := Lib.hid (show CB D p6 q6 r6 s6 x7 from blk_at hb7 HD6.out)
            clear hb7 HPZ HD6 q0 q1
            have h7 := heap_new x7 (.cells (cC p6 q6 r6 s6) 100)
            have hb7 := bel1 x7 (.cells (cC p6 q6 r6 s6) 100)
            have hp7 := HPI7.out.below hb7
            have hd7 : CB D p6 q6 r6 s6 (x7.alloc (.cells (cC p6 q6 r6 s6) 100)) := blk_at hb7 HD7.out
            go_upto_region 32 with fail
            change Code.wp _ _ _ _ (x7.alloc (.cells (cC p6 q6 r6 s6) 100))
            obtain ⟨z7, hz7⟩ : ∃ z, x7.alloc (.cells (cC p6 q6 r6 s6) 100) = z := ⟨_, rfl⟩
            obtain ⟨E, hE⟩ : ∃ D, x7.heap.size = D := ⟨_, rfl⟩
            rw [hz7] at h7 hp7 hd7 ⊢
            rw [hE] at h7 ⊢
            have HE7 := Lib.hid (show RB E p6 q6 r6 s6 z7 from h7); have HPF := Lib.hid hp7
            obtain ⟨d0, d1, d2, d3⟩ := hd7.all
            obtain ⟨e0, e1, e2, e3⟩ := HE7.out.all
            have de6 : (e6 != e6) = false := by simp
            clear h7 hb7 hp7 hd7 hz7 hE HPI7 HD7 HE7
            go_wp2_with fail
            go_roundw
            case rel => exact ⟨j + 1, by omega, by go_num, HPF.out⟩
            case measure => simp [intOf]; omega
          · have HPF := Lib.hid HPI.out.k
            clear HPI
            go_wp2_with fail
            go_roundw
            case rel => exact ⟨i + 1, m, hs, by omega, by go_num, HI1.out, HPF.out⟩
            case measure => simp [intOf]; omega
      by_cases hr33 : r = 3
      · subst hr33
        by_cases hal : y.c.a % 4096 = 0
        · have d3 : (y.c.a.tmod 4096 != 0) = false := by rw [htm.2 hal]; rfl
          have HAL := Lib.hid hal
          clear htm hal
          go_wp2_with fail
          refine (cwipe_any HP.out.o HP.out.c y.c.a HAH.out HAL.out).mono ?_
          rintro e x3 ⟨m3, rfl, ho, hg, hcon⟩
          obtain ⟨ee, hee⟩ : ∃ ee : Int, (if theB y.c.a then (0 : Int) else 3) = ee := ⟨_, rfl⟩
          rw [hee]
          have HEE := Lib.hid hee
          clear hee
          obtain ⟨hq, hp, hh, hb⟩ := HP.out.went ho hg
          have HO3 := Lib.hid ho; have HQ3 := Lib.hid hq; have HP3 := Lib.hid hp; have HH3 := Lib.hid hh; have HB3 := Lib.hid hb; have HC3 := Lib.hid hcon
          have HT3 := Lib.hid (show TB T y x3 from hg.keep HP.out.o HT.out (by decide) (by decide) (by decide))
          clear ho hg hcon hq hp hh hb t0 t1 t2 t3 t4 d3
          obtain ⟨t0, t1, t2, t3, t4⟩ := HT3.out.all
          have q0 := (cell_blk HQ3.out 0).1; have q1 := (cell_blk HQ3.out 1).1
          go_wp2_with fail
          refine (rread_any b 4 (-1) zPage zPage_ne (.slice p5 nh cap5) hs HLE.out y.c.a HAH.out _ HP3.out HH3.out).mono ?_
          rintro e x4 ⟨rfl, hb4⟩
          obtain ⟨p_, q_, r_, s_, er, her, hcs⟩ := rrV_err hs y.c.a
          rw [her]
          have HO4 := Lib.hid (HO3.out.below hb4); have HQ4 := Lib.hid (blk_at hb4 HQ3.out); have HP4 := Lib.hid (show P4 b zPage x4 from blk_at hb4 HP3.out); have HH4 := Lib.hid (HH3.out.below hb4); have HB4 := Lib.hid (HB3.out.below HO3.out hb4); have HT4 := Lib.hid (show TB T y x4 from blk_at hb4 HT3.out)
          clear her hb4 HO3 HQ3 HP3 HH3 HB3 HT3 t0 t1 t2 t3 t4 q0 q1
          obtain ⟨t0, t1, t2, t3, t4⟩ := HT4.out.all
          rw [HEE.out] at hcs
          have HWO := fun w h => wo_any (.slice p5 nh cap5) hs HLE.out y.c.a w h
          have HLW : Hid ((wo hs y.c.a).length ≤ i + 1) := Lib.hid (by have := wo_len hs y.c.a; have := HNH.out; omega)
          rcases hcs with ⟨rfl, hth⟩ | ⟨hne, rfl⟩
          · obtain rfl : 0 = ee := by rw [← HEE.out, hth]; rfl
            clear HEE hth
            go_wp2_with fail
            refine (HWO _ HH4.out).mono ?_
            rintro e x5 ⟨v5, rfl, hv5, hb5⟩
            have HPD := Lib.hid (show PC A Q b m3 (wo hs y.c.a) v5 w x5 from ⟨HO4.out.below hb5, blk_at hb5 HQ4.out, blk_at hb5 HP4.out, own_hs hv5, HB4.out.below HO4.out hb5, HC3.out⟩)
            have HTD := Lib.hid (show TB T y x5 from blk_at hb5 HT4.out)
            have HLD : Hid ((wo hs y.c.a).length ≤ 1000) := Lib.hid (Nat.le_trans (wo_len _ _) HLE.out)
            have hi1 := HLW.out
            clear hv5 hb5 HO4 HQ4 HP4 HH4 HB4 HT4 t0 t1 t2 t3 t4 HWO
            go_upto_region 25 with fail
            have dee : ((0 : Int) != (0 : Int)) = false := by simp
            obtain ⟨t0, t1, t2, t3, t4⟩ := HTD.out.all
            have HI1 := Lib.hid hi1
            clear hi1
            have HPI0 : Hid (PI A Q b x5.heap.size y.c.a m3 (wo hs y.c.a) (v5) w (x5.alloc (.cells #[.int .i64 0, .int .i64 4096, .int .i64 8192, .int .i64 12288, .int .i64 16384, .int .i64 y.c.a] 3))) := Lib.hid ⟨HPD.out.below (bel1 _ _), heap_new _ _⟩
            go_wp2_with fail
            go_loopw [93] (fun s93 wx => ∃ j : Nat, j ≤ 6 ∧ s93 = .int .i64 (j : Int) ∧ PI A Q b x5.heap.size y.c.a m3 (wo hs y.c.a) (v5) w wx) (fun s93 _ => 6 - (intOf s93).toNat)
            case atStart => exact ⟨0, by omega, rfl, HPI0.out⟩
            case round =>
              clear HPI0 t0 t1 t2 t3 t4
              obtain ⟨j, hj, rfl, hpi⟩ := hrel
              have HPI := Lib.hid hpi
              clear hpi
              by_cases hj6 : j < 6
              · have cj := (cell_blk HPI.out.l j).1
                rw [adL_at _ j hj6] at cj
                have HAD := Lib.hid (adL_hi HAH.out j)
                obtain ⟨ad, had⟩ : ∃ ad, adL y.c.a j = ad := ⟨_, rfl⟩
                rw [had] at cj HAD
                clear had
                obtain ⟨p6, q6, r6, s6, e6, hF⟩ := rrV_form (wo hs y.c.a) ad
                have HF := Lib.hid hF
                clear hF
                go_wp2_with fail
                refine (cr_any HPI.out.k.o HPI.out.k.c ad HAD.out).mono ?_
                rintro e x6 ⟨rfl, hb6⟩
                rw [HF.out]
                have HPI6 := Lib.hid (HPI.out.below hb6)
                clear hb6 cj HPI
                have h6 := heap_new x6 (.cells (cC p6 q6 r6 s6) 96)
                have hb6 := bel1 x6 (.cells (cC p6 q6 r6 s6) 96)
                have hp6 := HPI6.out.below hb6
                go_upto_region 31 with fail
                change Code.wp _ _ _ _ (x6.alloc (.cells (cC p6 q6 r6 s6) 96))
                obtain ⟨z6, hz6⟩ : ∃ z, x6.alloc (.cells (cC p6 q6 r6 s6) 96) = z := ⟨_, rfl⟩
                obtain ⟨D, hD⟩ : ∃ D, x6.heap.size = D := ⟨_, rfl⟩
                rw [hz6] at h6 hp6 ⊢
                rw [hD] at h6 ⊢
                have HD6 := Lib.hid (show CB D p6 q6 r6 s6 z6 from h6); have HPZ := Lib.hid hp6
                clear h6 hb6 hp6 hz6 hD HPI6
                have q0 := (cell_blk HPZ.out.k.q 0).1; have q1 := (cell_blk HPZ.out.k.q 1).1
                go_wp2_with fail
                refine (rread_any b 4 (-1) zPage zPage_ne (v5) (wo hs y.c.a) HLD.out ad HAD.out _ HPZ.out.k.p HPZ.out.k.h).mono ?_
                rintro e x7 ⟨rfl, hb7⟩
                rw [HF.out]
                have HPI7 := Lib.hid (HPZ.out.below hb7)
                have HD7 := Lib.hid (show CB D p6 q6 r6 s6 x7 from blk_at hb7 HD6.out)
                clear hb7 HPZ HD6 q0 q1
                have h7 := heap_new x7 (.cells (cC p6 q6 r6 s6) 100)
                have hb7 := bel1 x7 (.cells (cC p6 q6 r6 s6) 100)
                have hp7 := HPI7.out.below hb7
                have hd7 : CB D p6 q6 r6 s6 (x7.alloc (.cells (cC p6 q6 r6 s6) 100)) := blk_at hb7 HD7.out
                go_upto_region 32 with fail
                change Code.wp _ _ _ _ (x7.alloc (.cells (cC p6 q6 r6 s6) 100))
                obtain ⟨z7, hz7⟩ : ∃ z, x7.alloc (.cells (cC p6 q6 r6 s6) 100) = z := ⟨_, rfl⟩
                obtain ⟨E, hE⟩ : ∃ D, x7.heap.size = D := ⟨_, rfl⟩
                rw [hz7] at h7 hp7 hd7 ⊢
                rw [hE] at h7 ⊢
                have HE7 := Lib.hid (show RB E p6 q6 r6 s6 z7 from h7); have HPF := Lib.hid hp7
                obtain ⟨d0, d1, d2, d3⟩ := hd7.all
                obtain ⟨e0, e1, e2, e3⟩ := HE7.out.all
                have de6 : (e6 != e6) = false := by simp
                clear h7 hb7 hp7 hd7 hz7 hE HPI7 HD7 HE7
                go_wp2_with fail
                go_roundw
                case rel => exact ⟨j + 1, by omega, by go_num, HPF.out⟩
                case measure => simp [intOf]; omega
              · have HPF := Lib.hid HPI.out.k
                clear HPI
                go_wp2_with fail
                go_roundw
                case rel => exact ⟨i + 1, m3, wo hs y.c.a, by omega, by go_num, HI1.out, HPF.out⟩
                case measure => simp [intOf]; omega
          · have d7 : (ee == 7) = false := by simpa using hne
            clear HEE hne
            go_wp2_with fail
            refine (HWO _ HH4.out).mono ?_
            rintro e x5 ⟨v5, rfl, hv5, hb5⟩
            have HPD := Lib.hid (show PC A Q b m3 (wo hs y.c.a) v5 w x5 from ⟨HO4.out.below hb5, blk_at hb5 HQ4.out, blk_at hb5 HP4.out, own_hs hv5, HB4.out.below HO4.out hb5, HC3.out⟩)
            have HTD := Lib.hid (show TB T y x5 from blk_at hb5 HT4.out)
            have HLD : Hid ((wo hs y.c.a).length ≤ 1000) := Lib.hid (Nat.le_trans (wo_len _ _) HLE.out)
            have hi1 := HLW.out
            clear hv5 hb5 HO4 HQ4 HP4 HH4 HB4 HT4 t0 t1 t2 t3 t4 HWO
            go_upto_region 25 with fail
            have dee : (ee != ee) = false := by simp
            obtain ⟨t0, t1, t2, t3, t4⟩ := HTD.out.all
            have HI1 := Lib.hid hi1
            clear hi1
            have HPI0 : Hid (PI A Q b x5.heap.size y.c.a m3 (wo hs y.c.a) (v5) w (x5.alloc (.cells #[.int .i64 0, .int .i64 4096, .int .i64 8192, .int .i64 12288, .int .i64 16384, .int .i64 y.c.a] 3))) := Lib.hid ⟨HPD.out.below (bel1 _ _), heap_new _ _⟩
            go_wp2_with fail
            go_loopw [93] (fun s93 wx => ∃ j : Nat, j ≤ 6 ∧ s93 = .int .i64 (j : Int) ∧ PI A Q b x5.heap.size y.c.a m3 (wo hs y.c.a) (v5) w wx) (fun s93 _ => 6 - (intOf s93).toNat)
            case atStart => exact ⟨0, by omega, rfl, HPI0.out⟩
            case round =>
              clear HPI0 t0 t1 t2 t3 t4
              obtain ⟨j, hj, rfl, hpi⟩ := hrel
              have HPI := Lib.hid hpi
              clear hpi
              by_cases hj6 : j < 6
              · have cj := (cell_blk HPI.out.l j).1
                rw [adL_at _ j hj6] at cj
                have HAD := Lib.hid (adL_hi HAH.out j)
                obtain ⟨ad, had⟩ : ∃ ad, adL y.c.a j = ad := ⟨_, rfl⟩
                rw [had] at cj HAD
                clear had
                obtain ⟨p6, q6, r6, s6, e6, hF⟩ := rrV_form (wo hs y.c.a) ad
                have HF := Lib.hid hF
                clear hF
                go_wp2_with fail
                refine (cr_any HPI.out.k.o HPI.out.k.c ad HAD.out).mono ?_
                rintro e x6 ⟨rfl, hb6⟩
                rw [HF.out]
                have HPI6 := Lib.hid (HPI.out.below hb6)
                clear hb6 cj HPI
                have h6 := heap_new x6 (.cells (cC p6 q6 r6 s6) 96)
                have hb6 := bel1 x6 (.cells (cC p6 q6 r6 s6) 96)
                have hp6 := HPI6.out.below hb6
                go_upto_region 31 with fail
                change Code.wp _ _ _ _ (x6.alloc (.cells (cC p6 q6 r6 s6) 96))
                obtain ⟨z6, hz6⟩ : ∃ z, x6.alloc (.cells (cC p6 q6 r6 s6) 96) = z := ⟨_, rfl⟩
                obtain ⟨D, hD⟩ : ∃ D, x6.heap.size = D := ⟨_, rfl⟩
                rw [hz6] at h6 hp6 ⊢
                rw [hD] at h6 ⊢
                have HD6 := Lib.hid (show CB D p6 q6 r6 s6 z6 from h6); have HPZ := Lib.hid hp6
                clear h6 hb6 hp6 hz6 hD HPI6
                have q0 := (cell_blk HPZ.out.k.q 0).1; have q1 := (cell_blk HPZ.out.k.q 1).1
                go_wp2_with fail
                refine (rread_any b 4 (-1) zPage zPage_ne (v5) (wo hs y.c.a) HLD.out ad HAD.out _ HPZ.out.k.p HPZ.out.k.h).mono ?_
                rintro e x7 ⟨rfl, hb7⟩
                rw [HF.out]
                have HPI7 := Lib.hid (HPZ.out.below hb7)
                have HD7 := Lib.hid (show CB D p6 q6 r6 s6 x7 from blk_at hb7 HD6.out)
                clear hb7 HPZ HD6 q0 q1
                have h7 := heap_new x7 (.cells (cC p6 q6 r6 s6) 100)
                have hb7 := bel1 x7 (.cells (cC p6 q6 r6 s6) 100)
                have hp7 := HPI7.out.below hb7
                have hd7 : CB D p6 q6 r6 s6 (x7.alloc (.cells (cC p6 q6 r6 s6) 100)) := blk_at hb7 HD7.out
                go_upto_region 32 with fail
                change Code.wp _ _ _ _ (x7.alloc (.cells (cC p6 q6 r6 s6) 100))
                obtain ⟨z7, hz7⟩ : ∃ z, x7.alloc (.cells (cC p6 q6 r6 s6) 100) = z := ⟨_, rfl⟩
                obtain ⟨E, hE⟩ : ∃ D, x7.heap.size = D := ⟨_, rfl⟩
                rw [hz7] at h7 hp7 hd7 ⊢
                rw [hE] at h7 ⊢
                have HE7 := Lib.hid (show RB E p6 q6 r6 s6 z7 from h7); have HPF := Lib.hid hp7
                obtain ⟨d0, d1, d2, d3⟩ := hd7.all
                obtain ⟨e0, e1, e2, e3⟩ := HE7.out.all
                have de6 : (e6 != e6) = false := by simp
                clear h7 hb7 hp7 hd7 hz7 hE HPI7 HD7 HE7
                go_wp2_with fail
                go_roundw
                case rel => exact ⟨j + 1, by omega, by go_num, HPF.out⟩
                case measure => simp [intOf]; omega
              · have HPF := Lib.hid HPI.out.k
                clear HPI
                go_wp2_with fail
                go_roundw
                case rel => exact ⟨i + 1, m3, wo hs y.c.a, by omega, by go_num, HI1.out, HPF.out⟩
                case measure => simp [intOf]; omega
        · have d3 : (y.c.a.tmod 4096 != 0) = true := by
            cases h : (y.c.a.tmod 4096 != 0)
            · exact absurd (htm.1 (by simpa using h)) hal
            · rfl
          have HLI : Hid (hs.length ≤ i + 1) := Lib.hid (by rw [HNH.out]; omega)
          clear htm hal
          go_wp2_with fail
          go_roundw
          case rel => exact ⟨i + 1, m, hs, by omega, by go_num, HLI.out, HP.out⟩
          case measure => simp [intOf]; omega
      · have d22 : (r == 2) = false := by simpa using hr22
        have d33 : (r == 3) = false := by simpa using hr33
        have HYC2 := Lib.hid HYC.out
        clear htm
        go_wp2_with fail
        refine (cw_any HP.out.o HP.out.c y.c HYC.out).mono ?_
        rintro e x3 ⟨m3, rfl, ho, hg, hcon⟩
        obtain ⟨hq, hp, hh, hb⟩ := HP.out.went ho hg
        have HO3 := Lib.hid ho; have HQ3 := Lib.hid hq; have HP3 := Lib.hid hp; have HH3 := Lib.hid hh; have HB3 := Lib.hid hb; have HC3 := Lib.hid hcon
        have HT3 := Lib.hid (show TB T y x3 from hg.keep HP.out.o HT.out (by decide) (by decide) (by decide))
        clear ho hg hcon hq hp hh hb t0 t1 t2 t3 t4
        obtain ⟨t0, t1, t2, t3, t4⟩ := HT3.out.all
        have q0 := (cell_blk HQ3.out 0).1; have q1 := (cell_blk HQ3.out 1).1
        go_wp2_with fail
        refine (rwrite_any b 4 (-1) zPage zPage_ne p5 nh cap5 hs HLE.out y.c HAH.out _ HP3.out HH3.out).mono ?_
        rintro e x5 ⟨v5, rfl, hv5, hb5⟩
        have HPD := Lib.hid (show PC A Q b m3 (wrH hs y.c) v5 w x5 from ⟨HO3.out.below hb5, blk_at hb5 HQ3.out, blk_at hb5 HP3.out, hv5, HB3.out.below HO3.out hb5, HC3.out⟩)
        have HTD := Lib.hid (show TB T y x5 from blk_at hb5 HT3.out)
        have hi1 : (wrH hs y.c).length ≤ i + 1 := by have := wrH_len hs y.c; have := HNH.out; omega
        have HLD : Hid ((wrH hs y.c).length ≤ 1000) := Lib.hid (by omega)
        obtain ⟨ee, hee⟩ : ∃ ee, wrE y.c = ee := ⟨_, rfl⟩
        rw [hee]
        clear hv5 hb5 HO3 HQ3 HP3 HH3 HB3 HT3 HC3 t0 t1 t2 t3 t4 q0 q1 hee
        go_upto_region 25 with fail
        have dee : (ee != ee) = false := by simp
        obtain ⟨t0, t1, t2, t3, t4⟩ := HTD.out.all
        have HI1 := Lib.hid hi1
        clear hi1
        have HPI0 : Hid (PI A Q b x5.heap.size y.c.a m3 (wrH hs y.c) (v5) w (x5.alloc (.cells #[.int .i64 0, .int .i64 4096, .int .i64 8192, .int .i64 12288, .int .i64 16384, .int .i64 y.c.a] 3))) := Lib.hid ⟨HPD.out.below (bel1 _ _), heap_new _ _⟩
        go_wp2_with fail
        go_loopw [93] (fun s93 wx => ∃ j : Nat, j ≤ 6 ∧ s93 = .int .i64 (j : Int) ∧ PI A Q b x5.heap.size y.c.a m3 (wrH hs y.c) (v5) w wx) (fun s93 _ => 6 - (intOf s93).toNat)
        case atStart => exact ⟨0, by omega, rfl, HPI0.out⟩
        case round =>
          clear HPI0 t0 t1 t2 t3 t4
          obtain ⟨j, hj, rfl, hpi⟩ := hrel
          have HPI := Lib.hid hpi
          clear hpi
          by_cases hj6 : j < 6
          · have cj := (cell_blk HPI.out.l j).1
            rw [adL_at _ j hj6] at cj
            have HAD := Lib.hid (adL_hi HAH.out j)
            obtain ⟨ad, had⟩ : ∃ ad, adL y.c.a j = ad := ⟨_, rfl⟩
            rw [had] at cj HAD
            clear had
            obtain ⟨p6, q6, r6, s6, e6, hF⟩ := rrV_form (wrH hs y.c) ad
            have HF := Lib.hid hF
            clear hF
            go_wp2_with fail
            refine (cr_any HPI.out.k.o HPI.out.k.c ad HAD.out).mono ?_
            rintro e x6 ⟨rfl, hb6⟩
            rw [HF.out]
            have HPI6 := Lib.hid (HPI.out.below hb6)
            clear hb6 cj HPI
            have h6 := heap_new x6 (.cells (cC p6 q6 r6 s6) 96)
            have hb6 := bel1 x6 (.cells (cC p6 q6 r6 s6) 96)
            have hp6 := HPI6.out.below hb6
            go_upto_region 31 with fail
            change Code.wp _ _ _ _ (x6.alloc (.cells (cC p6 q6 r6 s6) 96))
            obtain ⟨z6, hz6⟩ : ∃ z, x6.alloc (.cells (cC p6 q6 r6 s6) 96) = z := ⟨_, rfl⟩
            obtain ⟨D, hD⟩ : ∃ D, x6.heap.size = D := ⟨_, rfl⟩
            rw [hz6] at h6 hp6 ⊢
            rw [hD] at h6 ⊢
            have HD6 := Lib.hid (show CB D p6 q6 r6 s6 z6 from h6); have HPZ := Lib.hid hp6
            clear h6 hb6 hp6 hz6 hD HPI6
            have q0 := (cell_blk HPZ.out.k.q 0).1; have q1 := (cell_blk HPZ.out.k.q 1).1
            go_wp2_with fail
            refine (rread_any b 4 (-1) zPage zPage_ne (v5) (wrH hs y.c) HLD.out ad HAD.out _ HPZ.out.k.p HPZ.out.k.h).mono ?_
            rintro e x7 ⟨rfl, hb7⟩
            rw [HF.out]
            have HPI7 := Lib.hid (HPZ.out.below hb7)
            have HD7 := Lib.hid (show CB D p6 q6 r6 s6 x7 from blk_at hb7 HD6.out)
            clear hb7 HPZ HD6 q0 q1
            have h7 := heap_new x7 (.cells (cC p6 q6 r6 s6) 100)
            have hb7 := bel1 x7 (.cells (cC p6 q6 r6 s6) 100)
            have hp7 := HPI7.out.below hb7
            have hd7 : CB D p6 q6 r6 s6 (x7.alloc (.cells (cC p6 q6 r6 s6) 100)) := blk_at hb7 HD7.out
            go_upto_region 32 with fail
            change Code.wp _ _ _ _ (x7.alloc (.cells (cC p6 q6 r6 s6) 100))
            obtain ⟨z7, hz7⟩ : ∃ z, x7.alloc (.cells (cC p6 q6 r6 s6) 100) = z := ⟨_, rfl⟩
            obtain ⟨E, hE⟩ : ∃ D, x7.heap.size = D := ⟨_, rfl⟩
            rw [hz7] at h7 hp7 hd7 ⊢
            rw [hE] at h7 ⊢
            have HE7 := Lib.hid (show RB E p6 q6 r6 s6 z7 from h7); have HPF := Lib.hid hp7
            obtain ⟨d0, d1, d2, d3⟩ := hd7.all
            obtain ⟨e0, e1, e2, e3⟩ := HE7.out.all
            have de6 : (e6 != e6) = false := by simp
            clear h7 hb7 hp7 hd7 hz7 hE HPI7 HD7 HE7
            go_wp2_with fail
            go_roundw
            case rel => exact ⟨j + 1, by omega, by go_num, HPF.out⟩
            case measure => simp [intOf]; omega
          · have HPF := Lib.hid HPI.out.k
            clear HPI
            go_wp2_with fail
            go_roundw
            case rel => exact ⟨i + 1, m3, wrH hs y.c, by omega, by go_num, HI1.out, HPF.out⟩
            case measure => simp [intOf]; omega
    · have hin : i = len := by omega
      subst hin
      clear hlt
      have HBF := Lib.hid HPC.out.b.bel
      clear HPC
      go_wp2_with fail
      refine (rnil_any _).mono ?_
      rintro e w5 ⟨rfl, hb⟩
      have HB5 := Lib.hid (HBF.out.trans (hb.mono HBF.out.size))
      clear hb HBF
      go_wp2_with fail
      refine (wnil_any _).mono ?_
      rintro e w6 ⟨rfl, hb⟩
      have HB6 := Lib.hid ((HB5.out.alloc HB5.out.size _).trans (hb.mono (HB5.out.alloc HB5.out.size _).size))
      clear hb HB5
      go_wp2_with fail
      refine (wipenil_any _).mono ?_
      rintro e w7 ⟨rfl, hb⟩
      have HB7 := Lib.hid (HB6.out.trans (hb.mono HB6.out.size))
      clear hb HB6
      go_wp2_with fail
      go_ret
      exact ⟨rfl, HB7.out⟩
end Go.Proofs.Ytglfllnemenhnaa.Bt
