/- The walk of BitsPlay. -/
import Derived.Test.YtoineackmpafdaaPbD
namespace Go.Proofs.Ytoineackmpafdaa.Bt
open Go Go.RowKit Go.Shelf Go.ChangeShapes Go.WideShapes
set_option linter.unusedVariables false
set_option linter.unusedSimpArgs false

/-- a set in a variable -/
def SetW (S L m cap : Nat) (p : Option Addr) (x : World) : Prop := x.heap[S]? = some (.cells #[.int .i64 (L : Int), .slice p m cap] 107 (0, 0))
theorem SetW.below {S L m cap : Nat} {p : Option Addr} {x y : World} (h : SetW S L m cap p x) (hb : Below x.heap.size x y) : SetW S L m cap p y := (hb.block _ (Array.getElem?_eq_some_iff.1 h).1).trans h
theorem SetW.all {S L m cap : Nat} {p : Option Addr} {x : World} (h : SetW S L m cap p x) : (x.cell? ⟨S, 0, none⟩ = some (.int .i64 (L : Int)) ∧ x.cell? ⟨S, 1, none⟩ = some (.slice p m cap)) ∧ x.frozen? ⟨S, 0, none⟩ = false ∧ x.frozen? ⟨S, 1, none⟩ = false :=
  ⟨⟨(cell_blk h 0).1, (cell_blk h 1).1⟩, (cell_blk h 0).2, (cell_blk h 1).2⟩
def ActW (T : Nat) (inn : Bool) (fr n : Int) (x : World) : Prop := x.heap[T]? = some (.cells #[.bool inn, .int .i64 fr, .int .i64 n] 113 (0, 0))
theorem ActW.below {T : Nat} {inn : Bool} {fr n : Int} {x y : World} (h : ActW T inn fr n x) (hb : Below x.heap.size x y) : ActW T inn fr n y := (hb.block _ (Array.getElem?_eq_some_iff.1 h).1).trans h
theorem ActW.all {T : Nat} {inn : Bool} {fr n : Int} {x : World} (h : ActW T inn fr n x) : x.cell? ⟨T, 0, none⟩ = some (.bool inn) ∧ x.cell? ⟨T, 1, none⟩ = some (.int .i64 fr) ∧ x.cell? ⟨T, 2, none⟩ = some (.int .i64 n) :=
  ⟨(cell_blk h 0).1, (cell_blk h 1).1, (cell_blk h 2).1⟩
/-- a set, and its bools -/
structure SetO (L m cap b : Nat) (p : Option Addr) (es : List Nat) (x : World) : Prop where
  gd : Good L es
  rw_ : RowAt x p es
  ml : m = es.length
  mc : m ≤ cap
  pn : p = none → cap = 0
  bo : BolAt b L (mE es) x
theorem SetO.below {L m cap b : Nat} {p : Option Addr} {es : List Nat} {x y : World} (h : SetO L m cap b p es x) (hb : Below x.heap.size x y) : SetO L m cap b p es y := ⟨h.gd, h.rw_.below hb, h.ml, h.mc, h.pn, h.bo.below hb⟩
/-- between two rounds -/
def PlB (S L : Nat) (w : World) (s34 s7 : Value) (wr : World) : Prop :=
  ∃ (i m cap b : Nat) (p : Option Addr) (es : List Nat), s34 = .int .i64 (i : Int) ∧ s7 = .slice (some ⟨b, 0, none⟩) L L ∧ SetW S L m cap p wr ∧ SetO L m cap b p es wr ∧ b ≠ S ∧ (∀ c off, p = some ⟨c, off, none⟩ → c ≠ S) ∧ Below w.heap.size w wr
/-- the variables of a round -/
structure PlR (S T V L m cap m' cap' b b' : Nat) (p p' : Option Addr) (es es' : List Nat) (inn : Bool) (fr n : Int) (w x : World) : Prop where
  vs : SetW S L m cap p x
  vt : ActW T inn fr n x
  vv : SetW V L m' cap' p' x
  ao : SetO L m cap b p es x
  bo : SetO L m' cap' b' p' es' x
  bl : Below w.heap.size w x
theorem PlR.below {S T V L m cap m' cap' b b' : Nat} {p p' : Option Addr} {es es' : List Nat} {inn : Bool} {fr n : Int} {w x y : World} (h : PlR S T V L m cap m' cap' b b' p p' es es' inn fr n w x) (hb : Below x.heap.size x y) : PlR S T V L m cap m' cap' b b' p p' es es' inn fr n w y :=
  ⟨h.vs.below hb, h.vt.below hb, h.vv.below hb, h.ao.below hb, h.bo.below hb, h.bl.trans (hb.mono h.bl.size)⟩
theorem two_put {x : World} {B : Nat} {c : Array Value} {T : TypeId} (h : x.heap[B]? = some (.cells c T (0, 0))) (hc : c.size = 2) (u v : Value) :
    ((x.setCell ⟨B, 0, none⟩ u).setCell ⟨B, 1, none⟩ v).heap[B]? = some (.cells #[u, v] T (0, 0)) := by
  rw [bol_put (bol_put h u) v]
  match c, hc with
  | ⟨[_, _]⟩, _ => rfl
set_option maxHeartbeats 8000000 in
set_option maxRecDepth 100000 in
theorem play_walk (a0 : Int) (p1 : Option Addr) (c1 : Nat) (acts : List ActL) (hacts : acts.length ≤ 9223372036854775807) (w : World) (h1 : ActsAt w p1 acts) (hl : acts.length ≤ 60) :
    Calls Try.prog 10 #[.int .i64 a0, .slice p1 acts.length c1] w (TrueAt w) := by
  have H1 := Lib.hid h1
  have HTL : ∀ (L b m cap : Nat) (_ : L ≤ 300) (p : Option Addr) (es : List Nat) (inn : Bool) (fr n : Int) (x : World), fr ≤ 9223372036854775807 → SetO L m cap b p es x → Calls Try.prog 66 #[.agg #[.int .i64 L, .slice p m cap], .slice (some ⟨b, 0, none⟩) L L, .agg #[.bool inn, .int .i64 fr, .int .i64 n]] x (TrueAt x) :=
    fun L b m cap hL p es inn fr n x hf h => told_any L b m cap hL p es inn fr n x h.gd h.rw_ h.ml hf h.bo
  have HT := Lib.hid HTL
  have hl60 : (acts.length : Int) ≤ 60 := by omega
  obtain ⟨L0, hL0⟩ : ∃ L0, lenN a0 = L0 := ⟨_, rfl⟩
  have hLN := lenN_le a0
  rw [hL0] at hLN
  have HN0 := Lib.hid (fun w => new_any a0 w)
  have HP0 := Lib.hid (fun w => pnew_any a0 w)
  rw [hL0] at HN0 HP0
  obtain ⟨L, hL⟩ : ∃ L : Nat, max 0 (min a0 300) = (L : Int) := ⟨(max 0 (min a0 300)).toNat, by omega⟩
  have hL3 : L ≤ 300 := by omega
  have HLH : Hid ((300 < a0 → (L : Int) = 300) ∧ (¬ 300 < a0 → 0 < a0 → (L : Int) = a0) ∧ (¬ 300 < a0 → ¬ 0 < a0 → (L : Int) = 0)) := Lib.hid ⟨fun _ => by omega, fun _ _ => by omega, fun _ _ => by omega⟩
  have hLL : lenN (L : Int) = L := by unfold lenN; omega
  have HN1 := Lib.hid (fun w => new_any (L : Int) w)
  have HP1 := Lib.hid (fun w => pnew_any (L : Int) w)
  rw [hLL] at HN1 HP1
  clear h1 HTL hL0 hLL hL
  go_enter Try.func10, Try.ntmps10
  go_wp2_with fail
  refine (awake_calls _).mono ?_
  rintro e w1 ⟨rfl, hb1⟩
  have HB1 := Lib.hid hb1
  clear hb1
  go_wp2_with fail
  refine (HN0.out _).mono ?_
  rintro e w2 ⟨rfl, hb⟩
  have HB2 := Lib.hid (HB1.out.trans (hb.mono HB1.out.size))
  clear hb HB1
  go_wp2_with fail
  refine (len_any L0 none 0 0 _).mono ?_
  rintro e w3 ⟨rfl, hb⟩
  have HB3 := Lib.hid (HB2.out.trans (hb.mono HB2.out.size))
  clear hb HB2
  go_wp2_with fail
  refine (HP0.out _).mono ?_
  rintro e w4 ⟨rfl, _, hb⟩
  have HB4 := Lib.hid (HB3.out.trans (hb.mono HB3.out.size))
  clear hb HB3
  go_upto_region 7 with fail
  go_cut [5] (fun s5 wx => s5 = .int .i64 (L : Int) ∧ w4 = wx)
  case first =>
    as_aux_lemma =>
    by_cases h300 : 300 < a0
    · have e := HLH.out.1 h300
      go_wp2_with fail
      all_goals go_meet
      all_goals exact ⟨congrArg (Value.int .i64) (by omega), rfl⟩
    · by_cases h00 : 0 < a0
      · have e := HLH.out.2.1 (by omega) (by omega)
        go_wp2_with fail
        all_goals go_meet
        all_goals exact ⟨congrArg (Value.int .i64) (by omega), rfl⟩
      · have e := HLH.out.2.2 (by omega) (by omega)
        go_wp2_with fail
        all_goals go_meet
        all_goals exact ⟨congrArg (Value.int .i64) (by omega), rfl⟩
  case rest =>
    obtain ⟨rfl, rfl⟩ := hcut
    clear HLH HN0 HP0
    go_wp2_with fail
    refine (HN1.out _).mono ?_
    rintro e w5 ⟨rfl, hb⟩
    have HB5 := Lib.hid (HB4.out.trans (hb.mono HB4.out.size))
    clear hb HB4
    go_wp2_with fail
    refine (HP1.out _).mono ?_
    rintro e w6 ⟨rfl, hbo, hb⟩
    have HB6 := Lib.hid (HB5.out.trans (hb.mono HB5.out.size))
    obtain ⟨b, hbb⟩ : ∃ b, w5.heap.size = b := ⟨_, rfl⟩
    rw [hbb] at hbo ⊢
    clear hb HB5 hbb HN1 HP1
    go_upto_region 9 with fail
    have hb := (Below.refl w6.heap.size w6).alloc (Nat.le_refl _) (.cells #[.int .i64 (L : Int), .slice none 0 0] 107)
    have hs : SetW w6.heap.size L 0 0 none (w6.alloc (.cells #[.int .i64 (L : Int), .slice none 0 0] 107)) := bol_new _ _
    have hx := hbo.below hb
    have hbl := hbo.lt
    have hB := HB6.out.trans (hb.mono HB6.out.size)
    have HSZ := HB6.out.size
    obtain ⟨x, hxx⟩ : ∃ x, w6.alloc (.cells #[.int .i64 (L : Int), .slice none 0 0] 107) = x := ⟨_, rfl⟩
    obtain ⟨S, hS⟩ : ∃ S, w6.heap.size = S := ⟨_, rfl⟩
    rw [hxx] at hs hx hB
    rw [hS] at hs hbl HSZ
    change Code.wp _ _ _ _ (w6.alloc (.cells #[.int .i64 (L : Int), .slice none 0 0] 107))
    rw [hxx, hS]
    have HSW : Hid (w.heap.size ≤ S) := Lib.hid HSZ
    have HST : Hid (PlB S L w (.int .i64 0) (.slice (some ⟨b, 0, none⟩) L L) x) := Lib.hid ⟨0, 0, 0, b, none, [], rfl, rfl, hs, ⟨⟨List.Pairwise.nil, rfl, (fun e h => by cases h), by omega⟩, .inl ⟨rfl, rfl⟩, rfl, Nat.le_refl _, fun _ => rfl, hx.ext fun i _ => by unfold mE; exact (mem_low (fun e he => by cases he)).symm⟩, (by omega), (fun c off e => by cases e), hB⟩
    clear hb hs hx hbl hB HSZ hxx hS hbo HB6
    go_wp2_with fail
    go_loopw [34, 7] (fun s34 s7 wr => PlB S L w s34 s7 wr) (fun s34 _ _ => acts.length - (intOf s34).toNat)
    case atStart => exact HST.out
    case round =>
      clear HST
      obtain ⟨i, m, cap, b, p, es, rfl, rfl, hs, ho, hbS, hpS, hbel⟩ := hrel
      have HO := Lib.hid ho; have HS := Lib.hid hs; have HB := Lib.hid hbel; have HBS := Lib.hid hbS; have HPS := Lib.hid hpS
      clear hs ho hbS hpS
      by_cases hlt : i < acts.length
      · rcases H1.out.below hbel with h | ⟨ab, off, rfl, hbl, hc⟩
        · rw [h] at hlt; simp at hlt
        obtain ⟨⟨e0, e1, e2⟩, hok⟩ := hc i hlt
        obtain ⟨act, hact⟩ : ∃ act, acts[i] = act := ⟨_, rfl⟩
        rw [hact] at e0 e1 e2 hok
        have HFR := Lib.hid hok.2.1
        obtain ⟨inn, fr, n⟩ := act
        simp only at e0 e1 e2
        have hlt2 : (i : Int) < (acts.length : Int) := by omega
        clear hok hact hc hbel
        go_upto_region 12 with fail
        have hb := (Below.refl wr.heap.size wr).alloc (Nat.le_refl _) (.cells #[.bool inn, .int .i64 fr, .int .i64 n] 113)
        have ht : ActW wr.heap.size inn fr n (wr.alloc (.cells #[.bool inn, .int .i64 fr, .int .i64 n] 113)) := bol_new _ _
        have ho := HO.out.below hb
        have hs := HS.out.below hb
        have hB := HB.out.trans (hb.mono HB.out.size)
        have hSl := (Array.getElem?_eq_some_iff.1 HS.out).1
        obtain ⟨x, hxx⟩ : ∃ x, wr.alloc (.cells #[.bool inn, .int .i64 fr, .int .i64 n] 113) = x := ⟨_, rfl⟩
        obtain ⟨T, hT⟩ : ∃ T, wr.heap.size = T := ⟨_, rfl⟩
        rw [hxx] at hb ht ho hs hB
        rw [hT] at ht
        change Code.wp _ _ _ _ (wr.alloc (.cells #[.bool inn, .int .i64 fr, .int .i64 n] 113))
        rw [hxx, hT]
        have HT2 := Lib.hid ht; have HO2 := Lib.hid ho; have HS2 := Lib.hid hs; have HB2 := Lib.hid hB
        have hSx := (Array.getElem?_eq_some_iff.1 hs).1
        have HSX := Lib.hid hSx
        obtain ⟨⟨c0, c1⟩, z0, z1⟩ := hs.all
        obtain ⟨t0, t1, t2⟩ := ht.all
        clear hb ht ho hs hB hxx hT hSl HO HS HB e0 e1 e2 hSx
        go_wp2_with fail
        refine (done_any L b p m cap es ⟨inn, fr, n⟩ x HO2.out.gd HO2.out.rw_ HO2.out.ml HO2.out.mc HO2.out.pn HFR.out HO2.out.bo).mono ?_
        rintro e w7 ⟨p', n', cap', b', rfl, hn', hc', hp', hr', hpp, hb7, hbo', hbb⟩
        obtain ⟨es', hes'⟩ : ∃ es', laidS L es fr n inn = es' := ⟨_, rfl⟩
        have hg' := laidS_good HO2.out.gd fr n inn
        simp only at hn' hr' hbo'
        rw [hes'] at hn' hr' hbo' hg'
        have ho' : SetO L n' cap' b' p' es' w7 := ⟨hg', hr', hn', hc', hp', hbo'⟩
        have HBN : Hid (b' ≠ S) := Lib.hid (by rcases hbb with h | h; exact h ▸ HBS.out; have := HSX.out; omega)
        have HPN : Hid (∀ c off, p' = some ⟨c, off, none⟩ → c ≠ S) := Lib.hid fun c off e => by
          rcases hpp with h | ⟨a, h, h3⟩
          · exact HPS.out c off (h ▸ e)
          · rw [e] at h; cases h; have := HSX.out; have h3' : x.heap.size ≤ c := h3; omega
        have HO7 := Lib.hid (HO2.out.below hb7); have HS7 := Lib.hid (HS2.out.below hb7); have HT7 := Lib.hid (HT2.out.below hb7); have HB7 := Lib.hid (HB2.out.trans (hb7.mono HB2.out.size)); have HO7' := Lib.hid ho'
        clear hn' hc' hp' hr' hpp hb7 hbo' hbb hg' ho' hes' HO2 HS2 HT2 HB2 HSX c0 c1 z0 z1 t0 t1 t2
        go_upto_region 13 with fail
        have hb := (Below.refl w7.heap.size w7).alloc (Nat.le_refl _) (.cells #[.int .i64 (L : Int), .slice p' n' cap'] 107)
        have hv : SetW w7.heap.size L n' cap' p' (w7.alloc (.cells #[.int .i64 (L : Int), .slice p' n' cap'] 107)) := bol_new _ _
        have hpl : PlR S T w7.heap.size L m cap n' cap' b b' p p' es es' inn fr n w (w7.alloc (.cells #[.int .i64 (L : Int), .slice p' n' cap'] 107)) := ⟨HS7.out.below hb, HT7.out.below hb, hv, HO7.out.below hb, HO7'.out.below hb, HB7.out.trans (hb.mono HB7.out.size)⟩
        obtain ⟨y, hy⟩ : ∃ y, w7.alloc (.cells #[.int .i64 (L : Int), .slice p' n' cap'] 107) = y := ⟨_, rfl⟩
        obtain ⟨V, hV⟩ : ∃ V, w7.heap.size = V := ⟨_, rfl⟩
        rw [hy, hV] at hpl
        change Code.wp _ _ _ _ (w7.alloc (.cells #[.int .i64 (L : Int), .slice p' n' cap'] 107))
        rw [hy, hV]
        have HP := Lib.hid hpl
        obtain ⟨⟨c0, c1⟩, z0, z1⟩ := hpl.vs.all
        obtain ⟨t0, t1, t2⟩ := hpl.vt.all
        obtain ⟨⟨v0, v1⟩, -, -⟩ := hpl.vv.all
        clear hb hv hpl hy hV HS7 HT7 HO7 HO7' HB7
        go_wp2_with fail
        refine (HT.out L b' n' cap' hL3 p' es' inn fr n _ HFR.out HP.out.bo).mono ?_
        rintro e w8 ⟨rfl, hb⟩
        have HP8 := Lib.hid (HP.out.below hb)
        clear hb HP c0 c1 z0 z1 t0 t1 t2 v0 v1
        obtain ⟨⟨c0, c1⟩, z0, z1⟩ := HP8.out.vs.all
        obtain ⟨t0, t1, t2⟩ := HP8.out.vt.all
        go_wp2_with fail
        refine (HT.out L b m cap hL3 p es inn fr n _ HFR.out HP8.out.ao).mono ?_
        rintro e w9 ⟨rfl, hb⟩
        have HP9 := Lib.hid (HP8.out.below hb)
        clear hb HP8 c0 c1 z0 z1 t0 t1 t2
        obtain ⟨⟨c0, c1⟩, z0, z1⟩ := HP9.out.vs.all
        obtain ⟨⟨v0, v1⟩, -, -⟩ := HP9.out.vv.all
        go_wp2_with fail
        refine (same_any L L p p' m n' cap cap' es es' _ HP9.out.ao.rw_ HP9.out.bo.rw_ HP9.out.ao.ml HP9.out.bo.ml (by have := good_len HP9.out.ao.gd; have := HP9.out.ao.gd.small; omega)).mono ?_
        rintro e w10 ⟨rfl, hb⟩
        have HP10 := Lib.hid (HP9.out.below hb)
        have HSE := Lib.hid (same_mE HP9.out.ao.gd HP9.out.bo.gd)
        rw [HSE.out]
        clear hb HP9 c0 c1 z0 z1 v0 v1
        go_wp2_with fail
        refine (psame_any b b' L (by omega) (mE es) (mE es') _ HP10.out.ao.bo HP10.out.bo.bo).mono ?_
        rintro e w11 ⟨rfl, d, rfl⟩
        have HP11 := Lib.hid (HP10.out.below (below_drewN (Below.refl _ _) d))
        obtain ⟨q, hq⟩ : ∃ q, sameB L (mE es) (mE es') = q := ⟨_, rfl⟩
        rw [hq]
        have hqq : (q == q) = true := by simp
        clear hq HP10 HSE
        obtain ⟨⟨c0, c1⟩, z0, z1⟩ := HP11.out.vs.all
        obtain ⟨⟨v0, v1⟩, -, -⟩ := HP11.out.vv.all
        go_wp2_with fail
        go_roundw
        case rel =>
          have hs2 : SetW S L n' cap' p' (((w10.drewN d).setCell ⟨S, 0, none⟩ (.int .i64 (L : Int))).setCell ⟨S, 1, none⟩ (.slice p' n' cap')) := two_put HP11.out.vs rfl _ _
          have ho2 := HP11.out.bo
          exact ⟨i + 1, n', cap', b', p', es', by go_num, rfl, hs2, ⟨ho2.gd, ho2.rw_.keep fun c off e => heap_two _ _ _ _ _ (HPN.out c off e), ho2.ml, ho2.mc, ho2.pn, (ho2.bo.keep HBN.out _ _).keep HBN.out _ _⟩, HBN.out, HPN.out,
            (HP11.out.bl.setCell (p := ⟨S, 0, none⟩) HSW.out _).setCell (p := ⟨S, 1, none⟩) HSW.out _⟩
        case measure => simp [intOf]; omega
      · clear hbel
        go_wp2_with fail
        go_ret
        exact ⟨rfl, HB.out⟩
theorem play_all (a0 : Int) (p1 : Option Addr) (c1 len : Nat) (w : World) (h : ∃ acts : List ActL, acts.length = len ∧ len ≤ 9223372036854775807 ∧ ActsAt w p1 acts) :
    Calls Try.prog 10 #[.int .i64 a0, .slice p1 len c1] w (TrueAt w) := by
  obtain ⟨acts, rfl, hlen, ha⟩ := h
  by_cases hc : acts.length ≤ 60
  · exact play_walk a0 p1 c1 acts hlen w ha hc
  · have h60 : 60 < (acts.length : Int) := by omega
    go_enter Try.func10, Try.ntmps10
    go_wp2_with fail
    refine (awake_calls _).mono ?_
    rintro e w1 ⟨rfl, hb1⟩
    go_wp2_with fail
    go_ret
    exact ⟨rfl, hb1⟩
end Go.Proofs.Ytoineackmpafdaa.Bt
