/- Several texts in one: FdM; FdS; FdW; FdX. -/
import Derived.Test.YtfappdiipflpfaaFbA
import Derived.Test.YtfappdiipflpfaaFdFm
import Derived.Test.YtfappdiipflpfaaArKeepM
import Derived.Laws.AppendOwn
import Derived.WalkSpells
import Derived.WalkLawsBesides
import Derived.Test.YtfappdiipflpfaaFdE
import Derived.Test.YtfappdiipflpfaaFdGm
/- What is put is told. -/
namespace Go.Proofs.Ytfappdiipflpfaa.Bt
open Go Go.RowKit Go.Shelf
set_option linter.unusedVariables false

theorem short_val {x : Int} {W : Nat} (h0 : 0 ≤ x) (h : longB x W = false) : ((x.toNat % 2 ^ (8 * W) : Nat) : Int) = x := by
  unfold longB at h
  have h1 : x / 2 ^ (8 * W) = 0 := by simpa using h
  obtain ⟨n, rfl⟩ : ∃ n : Nat, x = n := ⟨x.toNat, by omega⟩
  rw [Int.toNat_natCast]
  have hp : 0 < 2 ^ (8 * W) := Nat.two_pow_pos _
  have h2 : n / 2 ^ (8 * W) = 0 := by
    have : ((n / 2 ^ (8 * W) : Nat) : Int) = 0 := by rw [← h1]; simp
    omega
  rw [Nat.mod_eq_of_lt ((Nat.div_eq_zero_iff_lt hp).1 h2)]
theorem put_val {n : Nat} {f : Nat → Nat} (hr : Rec n f) (m : Nat → UInt8) (an : Nat) (xs : List Int) : ∀ j, j ≤ n → ∀ k, k < j → numV (putR m an f xs j) (an + f k) (f (k + 1) - f k) = (xs.getD k 0).toNat % 2 ^ (8 * (f (k + 1) - f k)) := by
  intro j
  induction j with
  | zero => intro _ k hk; omega
  | succ j ih =>
    intro hj k hk
    by_cases e : k = j
    · subst e; exact numV_store _ _ _ _
    · rw [← ih (by omega) k (by omega)]
      apply numV_congr
      intro i hi
      show putM (putR m an f xs j) (an + f j) _ _ = _
      have h1 := hr.le (show k + 1 ≤ j by omega) (by omega)
      have h2 := hr.mono k (by omega)
      exact putM_out _ _ _ (.inl (by omega))
theorem rec_fP {ws : List Int} {n : Nat} (hn : n = ws.length) (hl : n ≤ 32) (ha : ws.all wOk = true) : Rec n (fP ws n) := by
  have hf : ∀ k, k ≤ n → fP ws n k = sumW ws k := fun k hk => by unfold fP; rw [if_pos hk]
  have hst : ∀ k, k < n → sumW ws (k + 1) = sumW ws k + (ws.getD k 0).toNat ∧ (ws.getD k 0 = 1 ∨ ws.getD k 0 = 2 ∨ ws.getD k 0 = 4 ∨ ws.getD k 0 = 8) := fun k hk => by
    refine ⟨sumW_succ ws k (by omega), ?_⟩
    rw [List.all_eq_true] at ha
    have h2 := ha (ws.getD k 0) (by rw [List.getD_eq_getElem?_getD, List.getElem?_eq_getElem (by omega)]; exact List.getElem_mem (by omega))
    unfold wOk at h2; simpa using h2
  refine ⟨hl, by rw [hf 0 (by omega)]; rfl, fun k hk => ?_, fun k hk => ?_, fun k hk => ?_⟩
  · rw [hf k (by omega), hf (k + 1) (by omega), (hst k hk).1]; omega
  · rw [hf k (by omega), hf (k + 1) (by omega), (hst k hk).1]; have := (hst k hk).2; omega
  · rw [hf k (by omega), hf (k + 1) (by omega), (hst k hk).1]
    rcases (hst k hk).2 with h | h | h | h <;> rw [h, Nat.add_sub_cancel_left] <;> rfl
end Go.Proofs.Ytfappdiipflpfaa.Bt
/- Clone, Max and Equal of numbers. -/
namespace Go.Proofs.Ytfappdiipflpfaa.Bt
open Go Go.RowKit Go.Shelf
set_option linter.unusedVariables false
set_option linter.unusedSimpArgs false

/-- a block that holds numbers, and may hold more -/
def NumB (g n : Nat) (vf : Nat → Int) (x : World) : Prop := ∃ cur : Array Value, x.heap[g]? = some (.cells cur 30 (0, 0)) ∧ ∀ k, k < n → cur[k]? = some (.int .u64 (vf k))
theorem NumB.below {g n : Nat} {vf : Nat → Int} {x y : World} (h : NumB g n vf x) (hb : Below x.heap.size x y) : NumB g n vf y := by
  obtain ⟨cur, h1, h2⟩ := h; exact ⟨cur, blk_at hb h1, h2⟩
theorem NumB.went {A g n : Nat} {s : ASt} {vf : Nat → Int} {x y : World} (h : NumB g n vf x) (ho : On A s x) (hg : Went A x y) : NumB g n vf y := by
  obtain ⟨cur, h1, h2⟩ := h; exact ⟨cur, hg.keep ho h1 (by decide) (by decide) (by decide), h2⟩
theorem NumB.cell {g n : Nat} {vf : Nat → Int} {x : World} (h : NumB g n vf x) (k : Nat) (hk : k < n) : x.cell? ⟨g, k, none⟩ = some (.int .u64 (vf k)) ∧ x.frozen? ⟨g, k, none⟩ = false := by
  obtain ⟨cur, h1, h2⟩ := h; exact ⟨(cell_blk h1 k).1.trans (h2 k hk), (cell_blk h1 k).2⟩
theorem NumB.lt {g n : Nat} {vf : Nat → Int} {x : World} (h : NumB g n vf x) : g < x.heap.size := by
  obtain ⟨cur, h1, h2⟩ := h; exact (Array.getElem?_eq_some_iff.1 h1).1
theorem NumB.set {g n : Nat} {vf : Nat → Int} {x : World} (h : NumB g n vf x) (i : Nat) (hi : i < n) (v : Int) : NumB g n (fun k => if k = i then v else vf k) (x.setCell ⟨g, i, none⟩ (.int .u64 v)) := by
  obtain ⟨cur, h1, h2⟩ := h
  refine ⟨_, heap_set h1 _, fun k hk => ?_⟩
  rw [Array.getElem?_setIfInBounds]
  have hs := (Array.getElem?_eq_some_iff.1 (h2 i hi)).1
  by_cases e : i = k
  · subst e
    rw [if_pos rfl, if_pos hs]
    show _ = some (Value.int .u64 (if i = i then v else vf i))
    rw [if_pos rfl]
  · rw [if_neg e]
    show _ = some (Value.int .u64 (if k = i then v else vf k))
    rw [if_neg (Ne.symm e)]; exact h2 k hk
theorem NumB.ns {g n : Nat} {xs : List Int} {x : World} (h : NumB g n (fun k => xs.getD k 0) x) (hn : xs.length = n) : NsAt x (some ⟨g, 0, none⟩) xs := by
  subst hn
  exact .inr ⟨g, 0, rfl, h.lt, fun i hi => by rw [Nat.zero_add]; exact (h.cell i hi).1⟩
def CloneP (n : Nat) (vf : Nat → Int) (w : World) (e : Ending) (w' : World) : Prop :=
  ∃ g cap, e = .returned (.slice (some ⟨g, 0, none⟩) n cap) ∧ n ≤ cap ∧ w.heap.size ≤ g ∧ NumB g n vf w' ∧ Below w.heap.size w w'
set_option maxRecDepth 100000 in
theorem nclone_any (b off n c : Nat) (vf : Nat → Int) (h0 : 0 < n) (hn : n ≤ 1000) (w : World) (hc : ∀ i, i < n → w.cell? ⟨b, off + i, none⟩ = some (.int .u64 (vf i))) :
    Calls Try.prog 56 #[.slice (some ⟨b, off, none⟩) n c] w (CloneP n vf w) := by
  obtain ⟨i0, hi, hz0, hz1, hz2⟩ := info_parts Try.infoU64
  have HI := Lib.hid hi; have HZ0 := Lib.hid hz0; have HZ1 := Lib.hid hz1; have HZ2 := Lib.hid hz2; have HC := Lib.hid hc
  clear hi hz0 hz1 hz2 hc
  have hnil : (binOp .eql 73 (.slice (some ⟨b, off, none⟩) n c) (.slice none 0 0)).run Try.prog w = .ok (.bool false) w := Lib.run_eql_slice_nil w 73 30 _ n c 0 0 Try.underlying73
  go_enter Try.func56, Try.ntmps56
  go_upto_region 3 with fail
  have hown : (w.alloc (.cells #[] 30)).ownsRow w.heap.size 30 1 (.slice (some ⟨w.heap.size, 0, none⟩) 0 0) 0 [] :=
    ⟨rfl, .inr ⟨w.heap.size, 0, #[], rfl, Nat.le_refl _, heap_new _ _, Nat.le_refl _, by unfold maxLen; omega, rfl, rfl⟩⟩
  have hcs : ∀ j u, ((List.range n).map fun k => Value.int .u64 (vf k))[j]? = some u → (w.alloc (.cells #[] 30)).cell? ((⟨b, off, none⟩ : Addr).add j) = some u := fun j u hj => by
    have hjn : j < n := by have := (List.getElem?_eq_some_iff.1 hj).1; simpa using this
    rw [addr_add]
    have h1 := HC.out j hjn
    have h2 : b < w.heap.size := World.block_lt_of_cell? _ _ h1
    rw [(bel1 w (.cells #[] 30)).cell (p := ⟨b, off + j, none⟩) h2, h1]
    simp only [List.getElem?_map] at hj
    rw [List.getElem?_range hjn] at hj
    simpa using hj
  go_wp2_with (at_builtin; refine wpList_append_own _ rfl _ _ 73 rfl w.heap.size 30 i0 (.int .u64 0) 1 8 Try.underlying73 HI.out HZ0.out HZ1.out HZ2.out rfl (by decide) _ 0 [] rfl hown ⟨b, off, none⟩ n c ((List.range n).map fun k => Value.int .u64 (vf k)) rfl (by simp) hcs (fun u hu => by simp only [List.mem_map] at hu; obtain ⟨_, _, rfl⟩ := hu; rfl) (by unfold maxLen; omega) (by omega) (by simp) ?_; intro v' w3 hown3 hgrow _)
  obtain ⟨hl, hv⟩ := hown3
  rcases hv with ⟨_, hz⟩ | ⟨g, cap, cur, rfl, hg, hgh, hcap, _, hsz, htk⟩
  · omega
  have hNB : NumB g n vf w3 := ⟨cur, hgh, fun k hk => by
    have h1 : (cur.toList.take ((0 + n) * 1))[k]? = some (.int .u64 (vf k)) := by rw [htk]; simp [hk]
    rw [List.getElem?_take, if_pos (by omega), Array.getElem?_toList] at h1
    exact h1⟩
  have hbel : Below w.heap.size w w3 := (bel1 w (.cells #[] 30)).grown hgrow (by simp) (fun k hk => by cases hk; exact Nat.le_refl _)
  have HF := Lib.hid (And.intro hNB hbel)
  have hcap2 : n ≤ cap := by omega
  rw [Nat.zero_add]
  clear hl htk hgh hNB hbel hcs hown hsz hgrow
  go_wp2_with fail
  go_ret
  exact ⟨g, cap, rfl, hcap2, hg, HF.out.1, HF.out.2⟩
theorem nequal_any (a b n ca cb : Nat) (va vb : Nat → Int) (hn : n ≤ 1000) (w : World) (ha : NumB a n va w) (hb : NumB b n vb w) (he : ∀ k, k < n → va k = vb k) :
    Calls Try.prog 64 #[.slice (some ⟨a, 0, none⟩) n ca, .slice (some ⟨b, 0, none⟩) n cb] w (Gives (.bool true) w) := by
  have d1 : ((n : Int) != (n : Int)) = false := by simp
  have HA := Lib.hid ha; have HB := Lib.hid hb; have HE := Lib.hid he
  clear ha hb he
  go_enter Try.func64, Try.ntmps64
  go_wp2_with fail
  go_loopw [13] (fun i wr => ∃ j : Nat, j ≤ n ∧ i = .int .i64 (j : Int) ∧ Below w.heap.size w wr) (fun i _ => n - (intOf i).toNat)
  case atStart => exact ⟨0, Nat.zero_le _, rfl, Below.refl _ _⟩
  case round =>
    obtain ⟨j, hj, rfl, hbw⟩ := hrel
    have HW := Lib.hid hbw
    clear hbw
    by_cases hlt : j < n
    · have ca_ := ((HA.out.below HW.out).cell j hlt).1
      have cb_ := ((HB.out.below HW.out).cell j hlt).1
      rw [← HE.out j hlt] at cb_
      generalize va j = g at *
      have d2 : (g != g) = false := by simp
      have i0 : 0 ≤ (j : Int) := by omega
      have i1 : (j : Int) < (n : Int) := by omega
      go_wp2_with fail
      go_region
      go_wp2_with fail
      have HD := Lib.hid (HW.out.drew)
      go_roundw
      case rel => exact ⟨j + 1, by omega, by go_num, HD.out⟩
      case measure => simp [intOf]; omega
    · go_wp2_with fail
      go_ret
      exact ⟨rfl, HW.out⟩
set_option maxRecDepth 100000 in
theorem nmax_any (a n ca : Nat) (h0 : 0 < n) (hn : n ≤ 1000) (w : World) (ha : NumB a n (fun _ => 0) w) :
    Calls Try.prog 62 #[.slice (some ⟨a, 0, none⟩) n ca] w fun e w' => e = .returned (.int .u64 0) ∧ w = w' := by
  have d0 : ¬ (n : Int) < 1 := by omega
  have c0 := (ha.cell 0 h0).1
  have HA := Lib.hid ha
  clear ha
  go_enter Try.func62, Try.ntmps62
  go_wp2_with fail
  go_loop [3, 4] (fun v i => ∃ j : Nat, j ≤ n ∧ i = .int .i64 (j : Int) ∧ v = .int .u64 0) (fun _ i => n - (intOf i).toNat)
  case atStart => exact ⟨1, by omega, rfl, rfl⟩
  case round =>
    obtain ⟨j, hj, rfl, rfl⟩ := hrel
    by_cases hlt : j < n
    · have cj := (HA.out.cell j hlt).1
      go_wp2_with fail
      go_round
      case rel => exact ⟨j + 1, by omega, by go_num, rfl⟩
      case measure => simp [intOf]; omega
    · go_wp2_with fail
      go_ret
      exact ⟨rfl, rfl⟩
end Go.Proofs.Ytfappdiipflpfaa.Bt
/- The walk of FieldBack. -/
namespace Go.Proofs.Ytfappdiipflpfaa.Bt
open Go Go.RowKit Go.Shelf
set_option linter.unusedVariables false
set_option linter.unusedSimpArgs false

/-- what the statement holds: the record, the view, the numbers, the arena, what lay ahead -/
structure FB (T V A g n : Nat) (F : Nat → Nat) (S : Nat) (vf : Nat → Int) (m : Nat → UInt8) (w x : World) : Prop where
  t : VR T n F x
  c : VC V (some ⟨A, 0, none⟩) 10 S x
  nb : NumB g n vf x
  o : On A (fullS 1 m) x
  b : Base A w x
theorem FB.below {T V A g n S : Nat} {F : Nat → Nat} {vf : Nat → Int} {m : Nat → UInt8} {w x y : World} (h : FB T V A g n F S vf m w x) (hb : Below x.heap.size x y) : FB T V A g n F S vf m w y :=
  ⟨h.t.below hb, h.c.below hb, h.nb.below hb, h.o.below hb, h.b.below h.o hb⟩
theorem FB.went {T V A g n S : Nat} {F : Nat → Nat} {vf : Nat → Int} {m m' : Nat → UInt8} {w x y : World} (h : FB T V A g n F S vf m w x) (ho : On A (fullS 1 m') y) (hg : Went A x y) : FB T V A g n F S vf m' w y :=
  ⟨hg.keep h.o h.t (by decide) (by decide) (by decide), hg.keep h.o h.c (by decide) (by decide) (by decide), h.nb.went h.o hg, ho, h.b.went hg⟩
theorem FB.rebase {T V A g n S : Nat} {F : Nat → Nat} {vf : Nat → Int} {m : Nat → UInt8} {w0 w x : World} (h : FB T V A g n F S vf m w x) (hb : Below w0.heap.size w0 w) : FB T V A g n F S vf m w0 x := { h with b := h.b.rebase hb }
theorem FB.neT {T V A g n S : Nat} {F : Nat → Nat} {vf : Nat → Int} {m : Nat → UInt8} {w x : World} (h : FB T V A g n F S vf m w x) : T ≠ g := fun e => by
  obtain ⟨cur, h1, _⟩ := h.nb
  have h2 := h.t
  unfold VR at h2
  rw [e, h1] at h2
  simp only [Option.some.injEq, Obj.cells.injEq] at h2
  exact absurd h2.2.1 (by decide)
theorem FB.neV {T V A g n S : Nat} {F : Nat → Nat} {vf : Nat → Int} {m : Nat → UInt8} {w x : World} (h : FB T V A g n F S vf m w x) : V ≠ g := fun e => by
  obtain ⟨cur, h1, _⟩ := h.nb
  have h2 := h.c
  unfold VC at h2
  rw [e, h1] at h2
  simp only [Option.some.injEq, Obj.cells.injEq] at h2
  exact absurd h2.2.1 (by decide)
theorem set_val {n : Nat} {f : Nat → Nat} (hr : Rec n f) (m : Nat → UInt8) (an i : Nat) (hi : i < n) (x : Int) (k : Nat) (hk : k < n) :
    numV (putM m (an + f i) (numB x (f (i + 1) - f i))) (an + f k) (f (k + 1) - f k) = if k = i then x.toNat % 2 ^ (8 * (f (k + 1) - f k)) else numV m (an + f k) (f (k + 1) - f k) := by
  by_cases e : k = i
  · subst e; rw [if_pos rfl]; exact numV_store _ _ _ _
  · rw [if_neg e]
    apply numV_congr
    intro j hj
    have h1 := hr.mono k hk; have h2 := hr.mono i hi
    by_cases hlt : k < i
    · have := hr.le (show k + 1 ≤ i by omega) (by omega)
      exact putM_out _ _ _ (.inl (by omega))
    · have := hr.le (show i + 1 ≤ k by omega) (by omega)
      exact putM_out _ _ _ (.inr (by rw [numB_length]; omega))
theorem numV_zero (a k : Nat) : numV (fun _ => 0) a k = 0 := by
  induction k with
  | zero => rfl
  | succ k ih => unfold numV; rw [ih]; simp
set_option maxRecDepth 100000 in
set_option maxHeartbeats 16000000 in
theorem back_good (p : Option Addr) (n c : Nat) (ws : List Int) (hn : n = ws.length) (h0 : 0 < n) (hl : n ≤ 32) (ha : ws.all wOk = true) (b off len1 c1 : Nat) (hlen : n ≤ len1) (hcap : len1 ≤ c1) (hc64 : c1 ≤ 9223372036854775807) (xs : List Int) (hxl : xs.length = n) (i x : Int) (hx0 : 0 ≤ x) (hx1 : x < 18446744073709551616) (w : World) (hw : WsAt w p ws)
    (hxs : ∀ k, k < n → w.cell? ⟨b, off + k, none⟩ = some (.int .u64 (xs.getD k 0))) (hxb : ∀ k, k < n → 0 ≤ xs.getD k 0 ∧ xs.getD k 0 < 18446744073709551616) :
    Calls Try.prog 11 #[.slice p n c, .slice (some ⟨b, off, none⟩) len1 c1, .int .i64 i, .int .u64 x] w (TrueAt w) := by
  have hrec := rec_fP hn hl ha
  have hS := hrec.small (Nat.le_refl n)
  obtain ⟨F, hF⟩ : ∃ F, fP ws n = F := ⟨_, rfl⟩
  rw [hF] at hrec hS
  have HRC := Lib.hid hrec
  have HCC : Hid (∀ x, WsAt x p ws → Calls Try.prog 55 #[.slice p n c] x fun e w' => e = .returned (.int .i64 0) ∧ x = w') := Lib.hid (fun x hx => by
    have := rchk_any p n c ws hn (by omega) x hx
    have hz : chkV ws = 0 := by unfold chkV; rw [if_neg (by omega), if_neg (by omega), if_pos ha]
    rw [hz] at this
    exact this)
  have HOC : Hid (∀ x, WsAt x p ws → Calls Try.prog 57 #[.slice p n c] x (Gives (.tuple #[.agg (recC n F), .int .i64 0]) x)) := Lib.hid (fun x hx => by
    have := of_in p n c ws hn h0 hl x hx
    unfold okV at this
    rw [if_pos ha, ← hn, hF] at this
    exact this)
  obtain ⟨S, hSS⟩ : ∃ S, F n = S := ⟨_, rfl⟩
  rw [hSS] at hS
  have HSS := Lib.hid hSS
  have HAD : Hid (addrV 10 S 0 (F n : Nat) = ((10 : Nat) : Int)) := Lib.hid (by rw [hSS]; unfold addrV; rw [if_pos (by omega)]; omega)
  have HTE : Hid (∀ m : Nat → UInt8, thereE (fullS 1 m).L (fullS 1 m).es (addrV 10 S 0 (F n : Nat)) (F n : Nat) = 0) := Lib.hid (fun m => by
    rw [HAD.out, hSS]; show thereE 1 [0, 1] _ _ = 0; rw [thereE_full (by omega) (by omega), if_pos (by omega)])
  have HSN : Hid (∀ f, (Try.prog.info? 78).map (·.size) = some (recC n f).size) := Lib.hid (fun f => by rw [recC_size]; exact Try.infoRec)
  have HW := Lib.hid hw; have HXS := Lib.hid hxs; have HXB := Lib.hid hxb; have HXL := Lib.hid hxl
  have z1 : ¬ (len1 : Int) < n := by omega
  have z2 : decide ((len1 : Int) < (n : Int)) = false := by simp; omega
  have z3 : n ≤ c1 := by omega
  clear hrec hF hw hxs hxb hn ha hSS hxl
  go_enter Try.func11, Try.ntmps11
  go_wp2_with fail
  refine (awake5_calls _).mono ?_
  rintro e w1 ⟨rfl, hb1⟩
  have HW1 := Lib.hid (HW.out.below hb1)
  have HX1 : Hid (∀ k, k < n → w1.cell? ⟨b, off + k, none⟩ = some (.int .u64 (xs.getD k 0))) := Lib.hid fun k hk => by
    have h := HXS.out k hk
    rw [hb1.cell (p := ⟨b, off + k, none⟩) (World.block_lt_of_cell? _ _ h)]; exact h
  have HB1 := Lib.hid hb1
  clear hb1 HW HXS
  go_wp2_with fail
  refine (HCC.out _ HW1.out).mono ?_
  rintro e w1b ⟨rfl, rfl⟩
  go_upto_region 5 with fail
  go_wp2_with fail
  refine (nclone_any b off n c1 (fun k => xs.getD k 0) h0 (by omega) _ HX1.out).mono ?_
  rintro e w2 ⟨g, cap, rfl, hcp, hgw, hnb, hb⟩
  have HW2 := Lib.hid (HW1.out.below hb)
  have HB2 := Lib.hid (HB1.out.trans (hb.mono HB1.out.size))
  have HNB2 := Lib.hid hnb
  have HGW : Hid (w.heap.size ≤ g) := Lib.hid (Nat.le_trans HB1.out.size hgw)
  clear hb hnb hgw HW1 HB1 HX1
  go_wp2_with fail
  refine (HOC.out _ HW2.out).mono ?_
  rintro e w3 ⟨rfl, hb⟩
  have HB3 := Lib.hid (HB2.out.trans (hb.mono HB2.out.size))
  have HNB3 := Lib.hid (HNB2.out.below hb)
  clear hb HW2 HB2 HNB2
  go_upto_region 7 with (refine wpList_store_row rfl 78 (.tmp 9) (.tmp 41) rfl w3.heap.size (recC n F) rfl rfl 78 rec0 (heap_new _ _) (HSN.out _) (by rw [rec0_size, recC_size]) (rec_one _ _) ?_; simp only [Act.put, List.setIfInBounds_toArray, List.set_cons_zero, List.set_cons_succ])
  obtain ⟨y, hy⟩ : ∃ y, (w3.alloc (.cells rec0 78)).setRow w3.heap.size (recC n F) = y := ⟨_, rfl⟩
  obtain ⟨T, hT⟩ : ∃ B, w3.heap.size = B := ⟨_, rfl⟩
  have hv : VR T n F y := by unfold VR; rw [← hy, ← hT]; exact setRow_ad (heap_new _ _) _
  have by2 : Below w3.heap.size w3 y := by rw [← hy]; exact below_setRow (bel1 _ _) (Nat.le_refl _) _
  change Code.wp _ _ _ _ ((w3.alloc (.cells rec0 78)).setRow w3.heap.size (recC n F))
  rw [hy, hT]
  have HVR := Lib.hid hv; have HBY := Lib.hid (HB3.out.trans (by2.mono HB3.out.size)); have HNBY := Lib.hid (HNB3.out.below by2)
  clear hv by2 hy hT HB3 HNB3
  go_wp2_with (refine wpList_load_row rfl 78 (.tmp 9) rfl T rfl 78 (recC n F) (0, 0) _ HVR.out Try.underlying78 rfl (HSN.out _) ?_)
  refine (fsize_any n F hl _).mono ?_
  rintro e w4 ⟨rfl, hb⟩
  rw [HSS.out]
  have HV4 := Lib.hid (HVR.out.below hb); have HB4 := Lib.hid (HBY.out.trans (hb.mono HBY.out.size)); have HN4 := Lib.hid (HNBY.out.below hb)
  clear hb HVR HBY HNBY
  go_wp2_with fail
  refine (page_any S (by omega) _).mono ?_
  rintro e w5 ⟨A, bb, rfl, ho⟩
  have HO5 := Lib.hid ho
  have HV5 := Lib.hid (HV4.out.below ho.b.bel); have HN5 := Lib.hid (HN4.out.below ho.b.bel)
  have HGL := Lib.hid HN4.out.lt
  clear ho HV4 HN4
  go_upto_region 8 with fail
  obtain ⟨q1, q2, q3⟩ := three_new w5 #[.pointer (some ⟨A, 0, none⟩), .int .i64 10, .int .i64 (S : Int)] #[.slice (some ⟨bb, 0, none⟩) 1 1, .int .i64 (-1)] #[.int .i64 10, .int .i64 (S : Int)] 53 59 62
  have hb3 := (three_blocks w5 #[.pointer (some ⟨A, 0, none⟩), .int .i64 10, .int .i64 (S : Int)] #[.slice (some ⟨bb, 0, none⟩) 1 1, .int .i64 (-1)] #[.int .i64 10, .int .i64 (S : Int)] 53 59 62).2
  have hFB : FB T w5.heap.size A g n F S (fun k => xs.getD k 0) (fun _ => 0) w4 _ := ⟨HV5.out.below hb3, q1, HN5.out.below hb3, HO5.out.o.below hb3, HO5.out.b.below HO5.out.o hb3⟩
  obtain ⟨x0, hx⟩ : ∃ x, (((w5.alloc (.cells #[.pointer (some ⟨A, 0, none⟩), .int .i64 10, .int .i64 (S : Int)] 53)).alloc (.cells #[.slice (some ⟨bb, 0, none⟩) 1 1, .int .i64 (-1)] 59)).alloc (.cells #[.int .i64 10, .int .i64 (S : Int)] 62)) = x := ⟨_, rfl⟩
  obtain ⟨V, hV⟩ : ∃ V, w5.heap.size = V := ⟨_, rfl⟩
  rw [hx] at hFB ⊢
  rw [hV] at hFB ⊢
  have HX := Lib.hid hFB
  clear hx hV q1 q2 q3 hb3 hFB HO5 HV5 HN5
  have c0 := (cell_blk HX.out.c 0).1; have c1_ := (cell_blk HX.out.c 1).1; have c2 := (cell_blk HX.out.c 2).1
  by_cases hsh : allShort F xs n
  rotate_left
  · have HSH := Lib.hid hsh
    clear hsh
    go_wp2_with (refine wpList_load_row rfl 78 (.tmp 9) rfl T rfl 78 (recC n F) (0, 0) _ HX.out.t Try.underlying78 rfl (HSN.out _) ?_)
    refine (fputn_long n F HRC.out 10 S (some ⟨g, 0, none⟩) cap xs HXL.out (HX.out.nb.ns HXL.out) HXB.out HSH.out).mono ?_
    rintro e w6 ⟨rfl, hb⟩
    have HX6 : Hid (FB T V A g n F S (fun k => xs.getD k 0) (fun _ => 0) w _) := Lib.hid ((HX.out.below hb).rebase HB4.out)
    clear hb HX HSH c0 c1_ c2 HB4
    have c0 := (cell_blk HX6.out.c 0).1; have c1 := (cell_blk HX6.out.c 1).1; have c2 := (cell_blk HX6.out.c 2).1
    go_wp2_with (refine wpList_load_row rfl 78 (.tmp 9) rfl T rfl 78 (recC n F) (0, 0) _ HX6.out.t Try.underlying78 rfl (HSN.out _) ?_)
    refine (fall_on HX6.out.o n F HRC.out 10 S (by omega) (by omega) 10 HAD.out (HTE.out _)).mono ?_
    rintro e wA ⟨N, rfl, hN, hNs, hb⟩
    have HZA := Lib.hid (HX6.out.below hb)
    have HN : Hid (NumB N n (fun _ => 0) wA) := Lib.hid ⟨_, hN, fun k hk => by rw [numC_get _ _ _ _ hk, if_pos hk]; exact congrArg (fun z => some (Value.int .u64 z)) ((fun k hk => by show ((numV (fun _ => 0) _ _ : Nat) : Int) = 0; rw [numV_zero]; rfl) k hk)⟩
    clear hb hN hNs c0 c1 c2 HX6
    have HBL := Lib.hid HZA.out.b.bel
    go_wp2_with fail
    refine (nmax_any N n n h0 (by omega) _ HN.out).mono ?_
    rintro e wE ⟨rfl, rfl⟩
    go_wp2_with fail
    go_ret
    exact ⟨rfl, HBL.out⟩
  · have HSH := Lib.hid hsh
    clear hsh
    have hown : ∀ b off, (some (⟨g, 0, none⟩ : Addr)) = some ⟨b, off, none⟩ → ¬ OwnW A x0 b := fun b off e => by
      cases e; exact (HX.out.b.mine HGL.out).own
    go_wp2_with (refine wpList_load_row rfl 78 (.tmp 9) rfl T rfl 78 (recC n F) (0, 0) _ HX.out.t Try.underlying78 rfl (HSN.out _) ?_)
    refine (fputn_yes HX.out.o n F HRC.out 10 S (by omega) (by omega) (some ⟨g, 0, none⟩) cap xs HXL.out (HX.out.nb.ns HXL.out) HXB.out HSH.out hown 10 HAD.out (HTE.out _)).mono ?_
    rintro e w6 ⟨rfl, hx, hg⟩
    have hx' : On A (fullS 1 (putR (fun _ => 0) 10 F xs n)) w6 := hx
    have HX6 := Lib.hid (HX.out.went hx' hg)
    have HVL : Hid (∀ k, k < n → ((numV (putR (fun _ => 0) 10 F xs n) (10 + F k) (F (k + 1) - F k) : Nat) : Int) = xs.getD k 0) := Lib.hid (fun k hk => by
      rw [put_val HRC.out _ 10 xs n (Nat.le_refl _) k hk]; exact short_val (HXB.out k hk).1 (HSH.out k hk))
    clear hx hx' hg HX HSH hown c0 c1_ c2
    obtain ⟨mm, hmm⟩ : ∃ mm, putR (fun _ => 0) 10 F xs n = mm := ⟨_, rfl⟩
    rw [hmm] at HX6 HVL
    clear hmm
    have c0 := (cell_blk HX6.out.c 0).1; have c1_ := (cell_blk HX6.out.c 1).1; have c2 := (cell_blk HX6.out.c 2).1
    cases hh : hasF n i with
    | false =>
      go_wp2_with (refine wpList_load_row rfl 78 (.tmp 9) rfl T rfl 78 (recC n F) (0, 0) _ HX6.out.t Try.underlying78 rfl (HSN.out _) ?_)
      refine (fset_arg n F 10 S i x hh).mono ?_
      rintro e w7 ⟨rfl, hb⟩
      have HX7 : Hid (FB T V A g n F S (fun k => xs.getD k 0) mm w _) := Lib.hid ((HX6.out.below hb).rebase HB4.out)
      clear hb HX6 c0 c1_ c2 HB4 hh
      have c0 := (cell_blk HX7.out.c 0).1; have c1 := (cell_blk HX7.out.c 1).1; have c2 := (cell_blk HX7.out.c 2).1
      go_wp2_with (refine wpList_load_row rfl 78 (.tmp 9) rfl T rfl 78 (recC n F) (0, 0) _ HX7.out.t Try.underlying78 rfl (HSN.out _) ?_)
      refine (fall_on HX7.out.o n F HRC.out 10 S (by omega) (by omega) 10 HAD.out (HTE.out _)).mono ?_
      rintro e wA ⟨N, rfl, hN, hNs, hb⟩
      have HZA := Lib.hid (HX7.out.below hb)
      have HN : Hid (NumB N n (fun k => xs.getD k 0) wA) := Lib.hid ⟨_, hN, fun k hk => by rw [numC_get _ _ _ _ hk, if_pos hk]; exact congrArg (fun z => some (Value.int .u64 z)) ((fun k hk => HVL.out k hk) k hk)⟩
      clear hb hN hNs c0 c1 c2 HX7
      have HBL := Lib.hid HZA.out.b.bel
      go_wp2_with fail
      refine (nequal_any N g n n cap (fun k => xs.getD k 0) (fun k => xs.getD k 0) (by omega) _ HN.out HZA.out.nb (fun k hk => rfl)).mono ?_
      rintro e wE ⟨rfl, hbE⟩
      have HF := Lib.hid (HBL.out.trans (hbE.mono HBL.out.size))
      clear hbE HZA HN HBL
      go_wp2_with fail
      go_ret
      exact ⟨rfl, HF.out⟩
    | true =>
      have hin : 0 ≤ i ∧ i < n := of_decide_eq_true hh
      obtain ⟨k, rfl⟩ : ∃ k : Nat, i = k := ⟨i.toNat, by omega⟩
      have hk : k < n := by omega
      clear hh hin
      have HMO := Lib.hid (HRC.out.mono k hk); have HSM := Lib.hid (HRC.out.small (k := k + 1) (by omega)); have HWI := Lib.hid (HRC.out.wide k hk)
      cases hlg : longB x (F (k + 1) - F k) with
      | true =>
        go_wp2_with (refine wpList_load_row rfl 78 (.tmp 9) rfl T rfl 78 (recC n F) (0, 0) _ HX6.out.t Try.underlying78 rfl (HSN.out _) ?_)
        refine (fset_long n F 10 S hl k hk HMO.out (by have := HSM.out; omega) HWI.out x hx0 hx1 hlg).mono ?_
        rintro e w7 ⟨rfl, hb⟩
        have HX7 : Hid (FB T V A g n F S (fun k => xs.getD k 0) mm w _) := Lib.hid ((HX6.out.below hb).rebase HB4.out)
        clear hb HX6 c0 c1_ c2 HB4 hlg
        have c0 := (cell_blk HX7.out.c 0).1; have c1 := (cell_blk HX7.out.c 1).1; have c2 := (cell_blk HX7.out.c 2).1
        go_wp2_with (refine wpList_load_row rfl 78 (.tmp 9) rfl T rfl 78 (recC n F) (0, 0) _ HX7.out.t Try.underlying78 rfl (HSN.out _) ?_)
        refine (fall_on HX7.out.o n F HRC.out 10 S (by omega) (by omega) 10 HAD.out (HTE.out _)).mono ?_
        rintro e wA ⟨N, rfl, hN, hNs, hb⟩
        have HZA := Lib.hid (HX7.out.below hb)
        have HN : Hid (NumB N n (fun k => xs.getD k 0) wA) := Lib.hid ⟨_, hN, fun k hk => by rw [numC_get _ _ _ _ hk, if_pos hk]; exact congrArg (fun z => some (Value.int .u64 z)) ((fun k hk => HVL.out k hk) k hk)⟩
        clear hb hN hNs c0 c1 c2 HX7
        have HBL := Lib.hid HZA.out.b.bel
        go_wp2_with fail
        refine (nequal_any N g n n cap (fun k => xs.getD k 0) (fun k => xs.getD k 0) (by omega) _ HN.out HZA.out.nb (fun k hk => rfl)).mono ?_
        rintro e wE ⟨rfl, hbE⟩
        have HF := Lib.hid (HBL.out.trans (hbE.mono HBL.out.size))
        clear hbE HZA HN HBL
        go_wp2_with fail
        go_ret
        exact ⟨rfl, HF.out⟩
      | false =>
        have hle := HRC.out.le (show k + 1 ≤ n by omega) (Nat.le_refl n)
        have hadr : addrV 10 S (F k : Nat) (F (k + 1) - F k : Nat) = ((10 + F k : Nat) : Int) := by
          have := HSS.out; have := HMO.out; unfold addrV; rw [if_pos (by omega)]; omega
        have hnu : numE (fullS 1 mm).L (fullS 1 mm).es (addrV 10 S (F k : Nat) (F (k + 1) - F k : Nat)) (F (k + 1) - F k : Nat) = 0 := by
          rw [hadr]; unfold numE; rw [HRC.out.whole k hk, if_pos rfl]
          show thereE 1 [0, 1] _ _ = 0
          have := HSS.out; have := HMO.out
          rw [thereE_full (by omega) (by omega), if_pos (by omega)]
        have hst : storeS (fullS 1 mm) (addrV 10 S (F k : Nat) (F (k + 1) - F k : Nat)) (F (k + 1) - F k : Nat) x = fullS 1 (putM mm (10 + F k) (numB x (F (k + 1) - F k))) := by
          unfold storeS; rw [hnu, if_pos rfl, hadr, Int.toNat_natCast, Int.toNat_natCast]; rfl
        have HNU := Lib.hid hnu; have HST := Lib.hid hst; have HLG := Lib.hid hlg
        clear hadr hnu hst hle hlg
        go_wp2_with (refine wpList_load_row rfl 78 (.tmp 9) rfl T rfl 78 (recC n F) (0, 0) _ HX6.out.t Try.underlying78 rfl (HSN.out _) ?_)
        refine (fset_on HX6.out.o n F 10 S (by omega) (by omega) hl k hk HMO.out (by have := HSM.out; omega) HWI.out x hx0 hx1 HLG.out).mono ?_
        rintro e w7 ⟨rfl, hx, hg⟩
        rw [HST.out] at hx
        rw [HNU.out]
        have HX7 := Lib.hid (HX6.out.went hx hg)
        clear hx hg HX6 c0 c1_ c2
        have e0 := (HX7.out.nb.cell k hk).1; have e1 := (HX7.out.nb.cell k hk).2
        have HM := Lib.hid (HX7.out.b.mine HGL.out)
        have hx9 : FB T V A g n F S (fun j => if j = k then x else xs.getD j 0) (putM mm (10 + F k) (numB x (F (k + 1) - F k))) w (w7.setCell ⟨g, k, none⟩ (.int .u64 x)) :=
          ⟨(set_other _ HX7.out.neT).trans HX7.out.t, (set_other _ HX7.out.neV).trans HX7.out.c, HX7.out.nb.set k hk x, HX7.out.o.set HM.out _ _, (HX7.out.b.rebase HB4.out).set HX7.out.o HM.out HGW.out _ _⟩
        have HX8 := Lib.hid hx9
        have HVL2 : Hid (∀ j, j < n → ((numV (putM mm (10 + F k) (numB x (F (k + 1) - F k))) (10 + F j) (F (j + 1) - F j) : Nat) : Int) = if j = k then x else xs.getD j 0) := Lib.hid (fun j hj => by
          rw [set_val HRC.out mm 10 k hk x j hj]
          by_cases e : j = k
          · subst e; rw [if_pos rfl, if_pos rfl]; exact short_val hx0 HLG.out
          · rw [if_neg e, if_neg e]; exact HVL.out j hj)
        clear hx9 HVL
        have i0 : 0 ≤ (k : Int) := by omega
        have i1 : (k : Int) < n := by omega
        go_upto_region 16 with fail
        obtain ⟨w9, hw9⟩ : ∃ y, w7.setCell ⟨g, k, none⟩ (.int .u64 x) = y := ⟨_, rfl⟩
        rw [hw9] at HX8 ⊢
        clear hw9 HX7 HM e0 e1 HB4
        have c0 := (cell_blk HX8.out.c 0).1; have c1 := (cell_blk HX8.out.c 1).1; have c2 := (cell_blk HX8.out.c 2).1
        go_wp2_with (refine wpList_load_row rfl 78 (.tmp 9) rfl T rfl 78 (recC n F) (0, 0) _ HX8.out.t Try.underlying78 rfl (HSN.out _) ?_)
        refine (fall_on HX8.out.o n F HRC.out 10 S (by omega) (by omega) 10 HAD.out (HTE.out _)).mono ?_
        rintro e wA ⟨N, rfl, hN, hNs, hb⟩
        have HZA := Lib.hid (HX8.out.below hb)
        have HN : Hid (NumB N n (fun j => if j = k then x else xs.getD j 0) wA) := Lib.hid ⟨_, hN, fun k hk => by rw [numC_get _ _ _ _ hk, if_pos hk]; exact congrArg (fun z => some (Value.int .u64 z)) ((fun k hk => HVL2.out k hk) k hk)⟩
        clear hb hN hNs c0 c1 c2 HX8
        have HBL := Lib.hid HZA.out.b.bel
        go_wp2_with fail
        refine (nequal_any N g n n cap (fun j => if j = k then x else xs.getD j 0) (fun j => if j = k then x else xs.getD j 0) (by omega) _ HN.out HZA.out.nb (fun k hk => rfl)).mono ?_
        rintro e wE ⟨rfl, hbE⟩
        have HF := Lib.hid (HBL.out.trans (hbE.mono HBL.out.size))
        clear hbE HZA HN HBL
        go_wp2_with fail
        go_ret
        exact ⟨rfl, HF.out⟩
end Go.Proofs.Ytfappdiipflpfaa.Bt
/- FieldBack for all inputs. -/
namespace Go.Proofs.Ytfappdiipflpfaa.Bt
open Go Go.RowKit Go.Shelf
set_option linter.unusedVariables false
set_option linter.unusedSimpArgs false
theorem back_bad (p : Option Addr) (n c : Nat) (ws : List Int) (hn : n = ws.length) (hl : n ≤ 9223372036854775807) (q : Option Addr) (len1 c1 : Nat) (i x : Int) (w : World) (hw : WsAt w p ws) (hne : chkV ws ≠ 0) :
    Calls Try.prog 11 #[.slice p n c, .slice q len1 c1, .int .i64 i, .int .u64 x] w (TrueAt w) := by
  have HW := Lib.hid hw
  have HCC := Lib.hid (fun x (hx : WsAt x p ws) => rchk_any p n c ws hn (by omega) x hx)
  obtain ⟨E, hE⟩ : ∃ E, chkV ws = E := ⟨_, rfl⟩
  rw [hE] at HCC hne
  have d1 : (E != 0) = true := by simpa using hne
  clear hw hn hE hne
  go_enter Try.func11, Try.ntmps11
  go_wp2_with fail
  refine (awake5_calls _).mono ?_
  rintro e w1 ⟨rfl, hb1⟩
  have HW1 := Lib.hid (HW.out.below hb1)
  go_wp2_with fail
  refine (HCC.out _ HW1.out).mono ?_
  rintro e w3 ⟨rfl, rfl⟩
  go_wp2_with fail
  go_ret
  exact ⟨rfl, hb1⟩
theorem back_short (p : Option Addr) (n c : Nat) (ws : List Int) (hn : n = ws.length) (hl : n ≤ 9223372036854775807) (q : Option Addr) (len1 c1 : Nat) (hlen : len1 < n) (i x : Int) (w : World) (hw : WsAt w p ws) (hz : chkV ws = 0) :
    Calls Try.prog 11 #[.slice p n c, .slice q len1 c1, .int .i64 i, .int .u64 x] w (TrueAt w) := by
  have HW := Lib.hid hw
  have HCC := Lib.hid (fun x (hx : WsAt x p ws) => rchk_any p n c ws hn (by omega) x hx)
  rw [hz] at HCC
  have d2 : decide ((len1 : Int) < (n : Int)) = true := by simp; omega
  clear hw hn hz
  go_enter Try.func11, Try.ntmps11
  go_wp2_with fail
  refine (awake5_calls _).mono ?_
  rintro e w1 ⟨rfl, hb1⟩
  have HW1 := Lib.hid (HW.out.below hb1)
  go_wp2_with fail
  refine (HCC.out _ HW1.out).mono ?_
  rintro e w3 ⟨rfl, rfl⟩
  go_wp2_with fail
  go_ret
  exact ⟨rfl, hb1⟩
def IsU (w : World) (a : Option Addr) (len cap : Nat) (zs : List Int) : Prop :=
  (a = none ∧ len = 0 ∧ cap = 0 ∧ zs = []) ∨
  ∃ x, a = some x ∧ len ≤ cap ∧ cap ≤ maxLen ∧ zs.length = cap ∧ (∀ i, i < zs.length → w.cell? (x.add i) = some (.int .u64 (zs.getD i 0))) ∧ ∀ n ∈ zs, (Lit.int .u64 n).wf = true
theorem back_all (p : Option Addr) (n c : Nat) (ws : List Int) (hn : n = ws.length) (hl : n ≤ 9223372036854775807) (q : Option Addr) (len1 c1 : Nat) (zs : List Int) (i x : Int) (hx : (Lit.int .u64 x).wf = true) (w : World) (hq : IsU w q len1 c1 zs) (hw : WsAt w p ws) :
    Calls Try.prog 11 #[.slice p n c, .slice q len1 c1, .int .i64 i, .int .u64 x] w (TrueAt w) := by
  by_cases hz : chkV ws = 0
  · by_cases hlen : len1 < n
    · exact back_short p n c ws hn hl q len1 c1 hlen i x w hw hz
    have hall : ws.all wOk = true ∧ 0 < n ∧ n ≤ 32 := by
      unfold chkV at hz
      by_cases h0 : ws.length = 0
      · rw [if_pos h0] at hz; cases hz
      rw [if_neg h0] at hz
      by_cases h1 : 32 < ws.length
      · rw [if_pos h1] at hz; cases hz
      rw [if_neg h1] at hz
      refine ⟨?_, by omega, by omega⟩
      cases h : ws.all wOk with
      | true => rfl
      | false => rw [h] at hz; cases hz
    obtain ⟨ha, h0, h32⟩ := hall
    have hw64 : ∀ z : Int, (Lit.int .u64 z).wf = true → 0 ≤ z ∧ z < 18446744073709551616 := fun z hz => by
      have h1 : IntKind.u64.min ≤ z ∧ z ≤ IntKind.u64.max := by simpa [Lit.wf] using hz
      have h2 : IntKind.u64.min = 0 := by decide
      have h3 : IntKind.u64.max = 18446744073709551615 := by decide
      omega
    rcases hq with ⟨_, rfl, _, _⟩ | ⟨X, rfl, h1, h2, h3, h4, h5⟩
    · omega
    unfold maxLen at h2
    have k0 := h4 0 (by omega)
    obtain ⟨b, off, spot⟩ := X
    have hspot : spot = none := by simpa [Addr.add] using World.cell?_spot k0
    subst hspot
    have eA : ∀ j, (⟨b, off, none⟩ : Addr).add j = ⟨b, off + j, none⟩ := fun j => by
      simp only [Addr.add]; split <;> simp_all
    have et : ∀ k, k < n → (zs.take n).getD k 0 = zs.getD k 0 := fun k hk => by
      rw [List.getD_eq_getElem?_getD, List.getD_eq_getElem?_getD, List.getElem?_take, if_pos hk]
    refine back_good p n c ws hn h0 h32 ha b off len1 c1 (by omega) h1 (by omega) (zs.take n) (by rw [List.length_take]; omega) i x (hw64 x hx).1 (hw64 x hx).2 w hw ?_ ?_
    · intro k hk
      rw [et k hk, ← h4 k (by omega), eA]
    · intro k hk
      rw [et k hk]
      refine hw64 _ (h5 _ ?_)
      rw [List.getD_eq_getElem?_getD, List.getElem?_eq_getElem (by omega)]
      exact List.getElem_mem _
  · exact back_bad p n c ws hn hl q len1 c1 i x w hw hz
end Go.Proofs.Ytfappdiipflpfaa.Bt
