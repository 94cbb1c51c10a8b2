/- calls; every operation. -/
import Derived.Test.YtelfddkfddnenaaGreatEvTm
namespace Ev
open Go Go.RowKit
set_option linter.unusedVariables false
set_option linter.unusedSimpArgs false
section
variable {X : Spx} {P : Program} {nt : Nat} {o : Oper} {d : DS}
theorem calls_in {r : Option Nat} {n : Nat} {f : FuncId} {args : Array Value} {w : World} {R : Ending → World → Prop} (h : Calls P f args w R) : CallsIn (Fr r) n P f args w R := by
  have h' : CallsIn Fence.wide n P f args w R := callsIn_wide.2 h
  exact ⟨trivial, fun cs hr => h'.2 cs (room_wide _)⟩
theorem round_in {r : Option Nat} {n i : Nat} {f : FuncId} {tmps : Array Value} {x y : Code} {w : World} {R : Ending → World → Prop} (h : RoundIn Fence.wide 0 P i f tmps x y w R) : RoundIn (Fr r) n P i f tmps x y w R :=
  ⟨trivial, fun c cs _ => h.2 c cs (room_wide _)⟩
theorem snd_call {g : Operand} {y : OP} {ys : List OP} {cc : Call} (hop : o.op = .call cc) (hcc : cc.callee = .value g) (hd : cDst nt o.dst = .mk d) (h1 : cOpd nt g = .mk y) (h2 : cOpds nt cc.args.toList = .mk ys) : OSnd X P nt (fCall d y ys) o := by
  intro cal hcal t h c df k v' h' c' e
  have e0 : rdL t ys (fun l => cal (y t) l h c fun v h c => d v t fun t => k t h c df) = .fin v' h' c' := e
  rw [rdL_eq] at e0
  obtain ⟨v, h1', c1, e1, hw⟩ := hcal _ _ _ _ _ _ _ _ e0
  obtain ⟨t1, ht1, e2⟩ := dst_eq hd v t fun t => k t h1' c1 df
  rw [e2] at e1
  refine ⟨t1, h1', c1, e1, fun w0 ρ a w r n Q K hR hT hK => ?_⟩
  have hres : execOp a.eval o = (do let d ← Deferred.ofValue (a.eval g) (cc.args.map a.eval); invoke d.target d.args) := by
    simp [execOp, hop, resolve, hcc]
  have hl : (cc.args.toList.map a.eval).toArray = cc.args.map a.eval := by apply Array.ext'; simp
  have fin : ∀ x w', (∃ ρ', Le ρ ρ' ∧ HR X P w0 ρ' h1' c1 w' ∧ den ρ' v = some x ∧ Kp h h1' c ∧ c ≤ c1) → K (a.put o.dst x) w' := by
    rintro x w' ⟨ρ', g1, g2, g3, g4, g5⟩
    obtain ⟨g7, g8⟩ := dst_ok hd ht1 (hT.mono g1) g3
    exact hK ρ' _ w' g1 g2 g7 g4 g5 g8
  refine ⟨fun _ _ => trivial, ?_⟩
  rw [Oper.semAt_eq _ _ _ (by rw [hop]; simp), hres]
  rcases hw w0 ρ w _ _ hR (opd_den h1 hT) (opds_den h2 hT) with ⟨f, args, r1, r2⟩ | ⟨_, i, f, tmps, x, b, r1, r2⟩
  · rw [hl] at r1
    rw [r1]
    refine ⟨fun hh => by simp [Fr, Fence.wide] at hh, calls_in (r2.mono ?_)⟩
    rintro e w' ⟨x, rfl, hx⟩
    exact fin x w' hx
  · rw [hl] at r1
    rw [r1]
    refine ⟨fun hh => by simp [Fr, Fence.wide] at hh, round_in (r2.mono ?_)⟩
    rintro e w' ⟨x, rfl, hx⟩
    exact fin x w' hx
def LSnd (X : Spx) (P : Program) (nt : Nat) (f : OC) (o : Oper) : Prop := ∀ cal t h c df k v' h' c', f cal t h c df k = .fin v' h' c' → ∃ v t1, dT o.dst t v t1 ∧ (∀ n, o.dst = some n → n < nt ∧ n < 256) ∧ k t1 h c df = .fin v' h' c' ∧
  ∀ w0 ρ (a : Act) w, HR X P w0 ρ h c w → TR ρ nt t a.tmps → ∃ x, den ρ v = some x ∧ (execOp a.eval o).run P w = .ok (.value x) w
theorem VSnd.l {f : OC} {o : Oper} {d : DS} (h : VSnd X P nt d f o) : LSnd X P nt f o := by
  intro cal t hh c df k v' h' c' e
  obtain ⟨v, e1, w1⟩ := h.2.2 cal t hh c df k v' h' c' e
  obtain ⟨t1, ht1, e2⟩ := dst_eq h.2.1 v t fun t => k t hh c df
  rw [e2] at e1
  refine ⟨v, t1, ht1, fun n hn => ?_, e1, w1⟩
  have hd := h.2.1
  rw [hn] at hd
  simp only [cDst] at hd
  cases hb : okT nt n with
  | false => rw [hb] at hd; cases hd
  | true => exact okT_iff.1 hb
def OB (X : Spx) (P : Program) (nt : Nat) (f : OC) (o : Oper) : Prop := OSnd X P nt f o ∧ (isLight o.op = true → LSnd X P nt f o)
theorem VSnd.b {f : OC} {o : Oper} {d : DS} (h : VSnd X P nt d f o) : OB X P nt f o := ⟨h.o, fun _ => h.l⟩
theorem OSnd.b {f : OC} {o : Oper} (h : OSnd X P nt f o) (hl : isLight o.op = false) : OB X P nt f o := ⟨h, fun hh => by rw [hl] at hh; cases hh⟩
theorem bad_b {n : Nat} : OB X P nt (badO n) o := ⟨snd_bad, fun _ cal t h c df k v' h' c' e => (by cases e)⟩
theorem bx_cases {α : Type} {z : Nat} {b : Bx α} {g : α → Bx OC} {f : OC} (h : bx z b g = .mk f) : (∃ a, b = .mk a ∧ g a = .mk f) ∨ f = badO z := by
  cases b with
  | mk a => exact .inl ⟨a, rfl, h⟩
  | no => cases h; exact .inr rfl
theorem bif_cases {α : Type} {b : Bool} {x y z : α} (h : (bif b then x else y) = z) : (b = true ∧ x = z) ∨ (b = false ∧ y = z) := by cases b; exact .inr ⟨rfl, h⟩; exact .inl ⟨rfl, h⟩
theorem opds1 {l : List Operand} {y : OP} (h : cOpds nt l = .mk [y]) : ∃ x, l = [x] ∧ cOpd nt x = .mk y := by
  cases l with
  | nil => cases h
  | cons a l =>
    unfold cOpds at h
    split at h
    · rename_i x' y' h1 h2
      cases h
      cases l with
      | nil => exact ⟨a, rfl, h1⟩
      | cons b l =>
        unfold cOpds at h2
        split at h2 <;> cases h2
    · cases h
theorem opds2 {l : List Operand} {y y' : OP} (h : cOpds nt l = .mk [y, y']) : ∃ x x', l = [x, x'] ∧ cOpd nt x = .mk y ∧ cOpd nt x' = .mk y' := by
  cases l with
  | nil => cases h
  | cons a l =>
    unfold cOpds at h
    split at h
    · rename_i x1 y1 h1 h2
      cases h
      obtain ⟨b, rfl, h3⟩ := opds1 h2
      exact ⟨a, b, rfl, h1, h3⟩
    · cases h
theorem cOp_both {f : OC} (h : cOp P (types P) nt o = .mk f) : OB X P nt f o := by
  unfold cOp at h
  rcases bx_cases h with ⟨d, hd, h⟩ | rfl
  case inr => exact bad_b
  cases hop : o.op <;> simp only [hop] at h
  case move x =>
    rcases bx_cases h with ⟨y, hy, h⟩ | rfl
    · cases h; exact (snd_mv (.inl hop) hd hy).b
    · exact bad_b
  case assign x =>
    rcases bx_cases h with ⟨y, hy, h⟩ | rfl
    · cases h; exact (snd_mv (.inr hop) hd hy).b
    · exact bad_b
  case pick c x y =>
    rcases bx_cases h with ⟨y1, h1, h⟩ | rfl
    case inr => exact bad_b
    rcases bx_cases h with ⟨y2, h2, h⟩ | rfl
    case inr => exact bad_b
    rcases bx_cases h with ⟨y3, h3, h⟩ | rfl
    case inr => exact bad_b
    cases h; exact (snd_pick hop hd h1 h2 h3).b
  case alloc t =>
    split at h
    · rename_i l hl
      split at h
      · rename_i z hz
        rcases bif_cases h with ⟨hb, h⟩ | ⟨_, h⟩
        · cases h; exact (snd_alloc hop hd hl hz (Nat.eq_of_beq_eq_true hb)).b (by simp [isLight, hop, *])
        · cases h; exact bad_b
      · cases h; exact bad_b
    · cases h; exact bad_b
  case box t x =>
    rcases bx_cases h with ⟨y, hy, h⟩ | rfl
    · cases h; exact (snd_box hop hd hy).b (by simp [isLight, hop, *])
    · exact bad_b
  case build t ps =>
    split at h
    · rename_i z fs hz hT
      obtain ⟨l, hz1, hz2⟩ := Option.bind_eq_some_iff.1 hz
      rcases bif_cases h with ⟨_, h⟩ | ⟨hb, h⟩
      · cases h; exact bad_b
      · simp only [Bool.or_eq_false_iff, Bool.not_eq_false'] at hb
        rcases bx_cases h with ⟨os, ho, h⟩ | rfl
        · cases h; exact (snd_build hop hd hz1 hz2 hb.2 ho (.inl ⟨_, hT, hb.1, rfl⟩)).b
        · exact bad_b
    · rename_i z n e hz hT
      obtain ⟨l, hz1, hz2⟩ := Option.bind_eq_some_iff.1 hz
      rcases bif_cases h with ⟨_, h⟩ | ⟨hb, h⟩
      · cases h; exact bad_b
      · simp only [Bool.or_eq_false_iff, Bool.not_eq_false'] at hb
        rcases bx_cases h with ⟨os, ho, h⟩ | rfl
        · cases h; exact (snd_build hop hd hz1 hz2 hb.2 ho (.inr ⟨_, _, hT, hb.1, rfl⟩)).b
        · exact bad_b
    · cases h; exact bad_b
  case buildSlice t n ps =>
    split at h
    · rename_i e hT
      split at h
      · rename_i z hz
        obtain ⟨l, hz1, hz2⟩ := Option.bind_eq_some_iff.1 hz
        rcases bif_cases h with ⟨hb, h⟩ | ⟨_, h⟩
        · simp only [Bool.and_eq_true] at hb
          rcases bx_cases h with ⟨os, ho, h⟩ | rfl
          · cases h; exact (snd_bsl hop hd hT hz1 hz2 (Nat.eq_of_beq_eq_true hb.1.1) (by simpa using hb.1.2) (Nat.le_of_ble_eq_true hb.2) ho).b (by simp [isLight, hop, *])
          · exact bad_b
        · cases h; exact bad_b
      · cases h; exact bad_b
    · cases h; exact bad_b
  case load t x =>
    rcases bx_cases h with ⟨y, hy, h⟩ | rfl
    case inr => exact bad_b
    split at h
    · rename_i D hT
      rcases bif_cases h with ⟨hb, h⟩ | ⟨hb, h⟩
      · cases h; exact (snd_lda hop hd hy hT hb).b
      · cases h; exact (snd_ld hop hd hy hT hb).b
    · cases h; exact bad_b
  case store t x y =>
    rcases bx_cases h with ⟨y1, h1, h⟩ | rfl
    case inr => exact bad_b
    rcases bx_cases h with ⟨y2, h2, h⟩ | rfl
    case inr => exact bad_b
    split at h
    · rename_i D hdst hT
      cases h; exact (snd_st hop hdst h1 h2 hT).b (by simp [isLight, hop, *])
    · cases h; exact bad_b
  case nilCheck x =>
    rcases bx_cases h with ⟨y, hy, h⟩ | rfl
    · cases h; exact (snd_nck hop hd hy).b
    · exact bad_b
  case binOp op t x y p =>
    rcases bx_cases h with ⟨y1, h1, h⟩ | rfl
    case inr => exact bad_b
    rcases bx_cases h with ⟨y2, h2, h⟩ | rfl
    case inr => exact bad_b
    split at h
    · rename_i k hT
      rcases bx_cases h with ⟨g, hg, h⟩ | rfl
      · cases h; exact (snd_ar hop hd h1 h2 (cAr_ok hg)).b
      · exact bad_b
    · rename_i hT
      rcases bx_cases h with ⟨g, hg, h⟩ | rfl
      · cases h; exact (snd_ar hop hd h1 h2 (cSr_ok hg)).b
      · exact bad_b
    · rename_i hn1 hn2
      split at h
      · rcases bif_cases h with ⟨_, h⟩ | ⟨hb, h⟩
        · cases h; exact bad_b
        · split at h
          · rename_i q hq
            cases h
            obtain ⟨D, hD, _⟩ := cQ_st hq
            exact (snd_eq hop hd h1 h2 hD (fun k hk => hn1 k (by rw [hD, hk])) (fun hk => hn2 (by rw [hD, hk])) hb hq).b
          · cases h; exact bad_b
      · rcases bif_cases h with ⟨_, h⟩ | ⟨hb, h⟩
        · cases h; exact bad_b
        · split at h
          · rename_i q hq
            cases h
            obtain ⟨D, hD, _⟩ := cQ_st hq
            exact (snd_ne hop hd h1 h2 hD (fun k hk => hn1 k (by rw [hD, hk])) (fun hk => hn2 (by rw [hD, hk])) hb hq).b
          · cases h; exact bad_b
      · cases h; exact bad_b
  case unOp op t x =>
    rcases bx_cases h with ⟨y, hy, h⟩ | rfl
    case inr => exact bad_b
    split at h
    · cases h; exact (snd_no hop hd hy).b
    · cases h; exact (snd_ng hop hd hy).b
    · cases h; exact bad_b
  case convert s t x =>
    rcases bx_cases h with ⟨y, hy, h⟩ | rfl
    case inr => exact bad_b
    split at h
    · rename_i hs hT; cases h; exact (snd_cv hop hd hy hs hT).b
    · rename_i hs hT; cases h; exact (snd_cs hop hd hy hs hT).b
    · rename_i hs hT
      split at h
      · rename_i hE; cases h; exact (snd_bs hop hd hy hs hE hT).b
      · cases h; exact bad_b
    · cases h; exact bad_b
  case makeFunc g fs cs =>
    cases g <;> simp only at h
    case func g =>
      rcases bx_cases h with ⟨y1, h1, h⟩ | rfl
      case inr => exact bad_b
      rcases bx_cases h with ⟨y2, h2, h⟩ | rfl
      case inr => exact bad_b
      cases h; exact (snd_mkf hop hd h1 h2).b
    all_goals (cases h; exact bad_b)
  case makeSlice t x y =>
    rcases bx_cases h with ⟨y1, h1, h⟩ | rfl
    case inr => exact bad_b
    rcases bx_cases h with ⟨y2, h2, h⟩ | rfl
    case inr => exact bad_b
    split at h
    · rename_i e hT
      split at h
      · rename_i zl hz
        split at h
        · rename_i z hzz
          rcases bif_cases h with ⟨hb, h⟩ | ⟨_, h⟩
          · simp only [Bool.and_eq_true] at hb
            cases h; exact (snd_mks hop hd h1 h2 hT hz hzz (Nat.eq_of_beq_eq_true hb.2) (by simpa using hb.1)).b (by simp [isLight, hop, *])
          · cases h; exact bad_b
        · cases h; exact bad_b
      · cases h; exact bad_b
    · cases h; exact bad_b
  case slice t x lo hi mx =>
    rcases bx_cases h with ⟨y, h1, h⟩ | rfl
    case inr => exact bad_b
    rcases bx_cases h with ⟨ol, h2, h⟩ | rfl
    case inr => exact bad_b
    rcases bx_cases h with ⟨oh, h3, h⟩ | rfl
    case inr => exact bad_b
    rcases bx_cases h with ⟨om, h4, h⟩ | rfl
    case inr => exact bad_b
    rcases bif_cases h with ⟨_, h⟩ | ⟨hb, h⟩
    · cases h; exact bad_b
    split at h
    · rename_i hT
      split at h
      · have hm := cOpt_none h4; rw [hm] at hop; cases h; exact (snd_sls hop hd h1 h2 h3 hT).b
      · cases h; exact bad_b
    · rename_i e hT
      rcases bif_cases h with ⟨hk, h⟩ | ⟨_, h⟩
      · cases h; exact (snd_sli hop hd h1 h2 h3 h4 hb hT hk).b
      · cases h; exact bad_b
    · rename_i n e hT
      rcases bif_cases h with ⟨hk, h⟩ | ⟨_, h⟩
      · cases h; exact (snd_slp hop hd h1 h2 h3 h4 hb hT hk).b
      · cases h; exact bad_b
    · cases h; exact bad_b
  case fieldAddr t x g =>
    rcases bx_cases h with ⟨y, h1, h⟩ | rfl
    case inr => exact bad_b
    split at h
    · rename_i fs hT
      split at h
      · rename_i g hg
        rcases bif_cases h with ⟨_, h⟩ | ⟨hb, h⟩
        · cases h; exact bad_b
        · cases h; exact (snd_fa hop hd h1 hT hg hb).b
      · cases h; exact bad_b
    · cases h; exact bad_b
  case field t x g =>
    rcases bx_cases h with ⟨y, h1, h⟩ | rfl
    case inr => exact bad_b
    split at h
    · rename_i fs hT
      split at h
      · rename_i g hg
        rcases bif_cases h with ⟨_, h⟩ | ⟨hb, h⟩
        · cases h; exact bad_b
        · rcases bif_cases h with ⟨ha, h⟩ | ⟨ha, h⟩
          · cases h; exact (snd_fla hop hd h1 hT hg (by simpa using hb) ha).b
          · cases h; exact (snd_fl hop hd h1 hT hg (by simpa using hb) ha).b
      · cases h; exact bad_b
    · cases h; exact bad_b
  case indexAddr t x i =>
    rcases bx_cases h with ⟨y1, h1, h⟩ | rfl
    case inr => exact bad_b
    rcases bx_cases h with ⟨y2, h2, h⟩ | rfl
    case inr => exact bad_b
    split at h
    · rename_i e hT
      rcases bif_cases h with ⟨hb, h⟩ | ⟨_, h⟩
      · cases h; exact (snd_ia hop hd h1 h2 hT hb).b
      · cases h; exact bad_b
    · rename_i n e hT
      rcases bif_cases h with ⟨hb, h⟩ | ⟨_, h⟩
      · cases h; exact (snd_iaa hop hd h1 h2 hT hb).b
      · cases h; exact bad_b
    · cases h; exact bad_b
  case index t x i =>
    rcases bx_cases h with ⟨y1, h1, h⟩ | rfl
    case inr => exact bad_b
    rcases bx_cases h with ⟨y2, h2, h⟩ | rfl
    case inr => exact bad_b
    split at h
    · rename_i hT; cases h; exact (snd_ixs hop hd h1 h2 hT).b
    · rename_i n e hT
      rcases bif_cases h with ⟨_, h⟩ | ⟨hb, h⟩
      · cases h; exact bad_b
      · rcases bif_cases h with ⟨ha, h⟩ | ⟨ha, h⟩
        · cases h; exact (snd_ixa hop hd h1 h2 hT (by simpa using hb) ha).b
        · cases h; exact (snd_ix hop hd h1 h2 hT (by simpa using hb) ha).b
    · cases h; exact bad_b
  case extract x i =>
    rcases bx_cases h with ⟨y, h1, h⟩ | rfl
    · cases h; exact (snd_ex hop hd h1).b
    · exact bad_b
  case call cc =>
    cases hcc : cc.callee <;> simp only [hcc] at h
    case value g =>
      rcases bx_cases h with ⟨y, h1, h⟩ | rfl
      case inr => exact bad_b
      rcases bx_cases h with ⟨ys, h2, h⟩ | rfl
      case inr => exact bad_b
      cases h; exact (snd_call hop hcc hd h1 h2).b (by simp [isLight, hop, *])
    case builtin b =>
      rcases bx_cases h with ⟨ys, h2, h⟩ | rfl
      case inr => exact bad_b
      split at h
      · rename_i y t hat
        obtain ⟨x, ha, h1⟩ := opds1 h2
        cases b <;> simp only at h
        case len =>
          split at h
          · rename_i hT; cases h; exact (snd_lnS hop hcc ha hat hd h1 hT).b
          · rename_i hT; cases h; exact (snd_lnL hop hcc ha hat hd h1 hT).b
          · rename_i hT; cases h; exact (snd_lna (y := y) hop hcc ha hat hd (.inl ⟨_, hT⟩)).b
          · rename_i r hT
            split at h
            · rename_i hr; cases h; exact (snd_lna (y := y) hop hcc ha hat hd (.inr ⟨_, _, hT, hr⟩)).b
            · cases h; exact bad_b
          · cases h; exact bad_b
        case cap =>
          split at h
          · rename_i hT; cases h; exact (snd_cp hop hcc ha hat hd h1 hT).b
          · cases h; exact bad_b
        all_goals (cases h; exact bad_b)
      · rename_i y1 y2 t u hat
        obtain ⟨x, x', ha, h1, h3⟩ := opds2 h2
        cases b <;> simp only at h
        case append =>
          split at h
          · rename_i e e' hT hU
            split at h
            · rename_i l hz
              rcases bif_cases h with ⟨hb, h⟩ | ⟨_, h⟩
              · simp only [Bool.and_eq_true] at hb
                cases h; exact (snd_app hop hcc ha hat hd h1 h3 hT (.inl ⟨_, hU⟩) hz (by simpa using hb.1.1) (by simpa using hb.1.2) (Nat.eq_of_beq_eq_true hb.2)).b (by simp [isLight, hop, *])
              · cases h; exact bad_b
            · cases h; exact bad_b
          · rename_i e hT hU
            split at h
            · rename_i l hz
              rcases bif_cases h with ⟨hb, h⟩ | ⟨_, h⟩
              · simp only [Bool.and_eq_true] at hb
                cases h; exact (snd_app hop hcc ha hat hd h1 h3 hT (.inr hU) hz (by simpa using hb.1.1) (by simpa using hb.1.2) (Nat.eq_of_beq_eq_true hb.2)).b (by simp [isLight, hop, *])
              · cases h; exact bad_b
            · cases h; exact bad_b
          · cases h; exact bad_b
        case copy =>
          split at h
          · rename_i e hT
            rcases bif_cases h with ⟨hk, h⟩ | ⟨_, h⟩
            · cases h; exact (snd_cpy hop hcc ha hat hd h1 h3 hT hk).b (by simp [isLight, hop, *])
            · cases h; exact bad_b
          · cases h; exact bad_b
        case max => cases h; exact (snd_mx hop hcc ha hd h1 h3).b
        case min => cases h; exact (snd_mn hop hcc ha hd h1 h3).b
        all_goals (cases h; exact bad_b)
      · cases h; exact bad_b
    all_goals (cases h; exact bad_b)
  case makeMap t r =>
    cases r with
    | some r => cases h; exact bad_b
    | none =>
      simp only at h
      split at h
      · rename_i kt et hT
        split at h
        · rename_i hk he
          rcases bif_cases h with ⟨_, h⟩ | ⟨_, h⟩
          · cases h; exact (snd_mm hop hd hk he).b (by simp [isLight, hop, *])
          · cases h; exact bad_b
        · cases h; exact bad_b
      · cases h; exact bad_b
  case lookup t x y q =>
    cases q with
    | true => cases h; exact bad_b
    | false =>
      simp only at h
      rcases bx_cases h with ⟨y1, h1, h⟩ | rfl
      case inr => exact bad_b
      rcases bx_cases h with ⟨y2, h2, h⟩ | rfl
      case inr => exact bad_b
      split at h
      · rename_i kt et hT
        split at h
        · rename_i hk he
          rcases bif_cases h with ⟨hb, h⟩ | ⟨_, h⟩
          · cases h; exact (snd_lk hop hd h1 h2 hT hb).b (by simp [isLight, hop, *])
          · cases h; exact bad_b
        · cases h; exact bad_b
      · cases h; exact bad_b
  case mapUpdate t x y z =>
    rcases bx_cases h with ⟨y1, h1, h⟩ | rfl
    case inr => exact bad_b
    rcases bx_cases h with ⟨y2, h2, h⟩ | rfl
    case inr => exact bad_b
    rcases bx_cases h with ⟨y3, h3, h⟩ | rfl
    case inr => exact bad_b
    split at h
    · rename_i kt et hdst hT
      split at h
      · cases h; exact (snd_mu hop hdst h1 h2 h3 hT).b (by simp [isLight, hop, *])
      · cases h; exact bad_b
    · cases h; exact bad_b
  all_goals (cases h; exact bad_b)
theorem cOp_ok {f : OC} (h : cOp P (types P) nt o = .mk f) : OSnd X P nt f o := (cOp_both h).1
end
end Ev
