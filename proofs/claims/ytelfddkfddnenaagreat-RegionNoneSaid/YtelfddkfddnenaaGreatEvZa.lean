/- calls, rounds: the machine keeps its word. -/
import Derived.Test.YtelfddkfddnenaaGreatEvZ
import Derived.Lib.Join
namespace Ev
open Go Go.RowKit
set_option linter.unusedVariables false
set_option linter.unusedSimpArgs false
section
variable (P : Program)
/-- a function whose call is known -/
def KnOK (g : Nat) (v : V) : Prop := ∃ fn bd x, P.funcs[g]? = some fn ∧ (fn.name == "runtime.NumGoroutine") = false ∧ fn.body = some bd ∧ (∀ ρ, den ρ v = some x) ∧ ∀ w, Calls P g #[] w fun e w' => e = .returned x ∧ Below w.heap.size w w'
/-- strings.Join, by its contract -/
def JnOK (g : Nat) : Prop := ∃ fn bd, P.funcs[g]? = some fn ∧ (fn.name == "runtime.NumGoroutine") = false ∧ fn.body = some bd ∧
  (∀ (sep : ByteArray) w, Calls P g #[.slice none 0 0, .string sep] w fun e w' => e = .returned (.string ⟨#[]⟩) ∧ w' = w) ∧
  ∀ (bk o c : Nat) (xs : List ByteArray) (sep : ByteArray) (w : World), (∀ (j : Nat) x, xs[j]? = some x → w.cell? ⟨bk, o + j, none⟩ = some (.string x)) → bk < w.heap.size → xs.length ≤ 140737488355328 → xs.length ≤ c → (Lib.join (xs.map (·.data.toList)) sep.data.toList).length ≤ 140737488355328 →
    Calls P g #[.slice (some ⟨bk, o, none⟩) xs.length c, .string sep] w fun e w' => e = .returned (.string ⟨(Lib.join (xs.map (·.data.toList)) sep.data.toList).toArray⟩) ∧ Below w.heap.size w w'
/-- a table of functions -/
def FTok (ft : T CF) : Prop := ∀ g, (∀ rs b r, T.get CF.no ft g = .fn rs b r → ∃ fn, P.funcs[g]? = some fn ∧ cF P (types P) g fn = .fn rs b r) ∧ (∀ v, T.get CF.no ft g = .kn v → KnOK P g v) ∧ (T.get CF.no ft g = .jn → JnOK P g)
theorem mapF_get : ∀ (l : List Func) (i j : Nat), (mapF P (types P) l i)[j]? = (l[j]?).map (cF P (types P) (i + j))
  | [], i, j => by simp [mapF]
  | f :: l, i, 0 => by simp [mapF]
  | f :: l, i, j + 1 => by
    show (cF P (types P) i f :: mapF P (types P) l (i + 1))[j + 1]? = _
    rw [List.getElem?_cons_succ, mapF_get l (i + 1) j, List.getElem?_cons_succ, show i + 1 + j = i + (j + 1) by omega]
theorem cF_kn {g : Nat} {fn : Func} {v : V} : cF P (types P) g fn ≠ .kn v := by
  unfold cF
  split
  · split
    · cases (fn.name == "runtime.NumGoroutine") <;> simp
    · simp
  · simp
theorem cF_jn {g : Nat} {fn : Func} : cF P (types P) g fn ≠ .jn := by
  unfold cF
  split
  · split
    · cases (fn.name == "runtime.NumGoroutine") <;> simp
    · simp
  · simp
theorem get_table (g : Nat) : T.get CF.no (table P) g = ((P.funcs[g]?).map (cF P (types P) g)).getD .no := by
  unfold table
  rw [get_bld]
  have hg := mapF_get P P.funcs.toList 0 g
  simp only [Array.getElem?_toList, Nat.zero_add] at hg
  split
  · rw [Nat.sub_zero, List.getD_eq_getElem?_getD, hg]
  · rename_i hh
    have hn : (mapF P (types P) P.funcs.toList 0)[g]? = none := List.getElem?_eq_none (by omega)
    rw [hg] at hn
    rw [hn]; rfl
theorem table_ok : FTok P (table P) := by
  intro g
  rw [get_table]
  cases hf : P.funcs[g]? with
  | none => exact ⟨fun rs b r h => (by simp at h), fun v h => (by simp at h), fun h => (by simp at h)⟩
  | some fn => exact ⟨fun rs b r h => ⟨fn, rfl, h⟩, fun v h => absurd h (cF_kn P), fun h => absurd h (cF_jn P)⟩
end
section
variable {X : Spx} {P : Program}
theorem cF_fn {g : Nat} {fn : Func} {rs : RS} {b : CC} {r : RL} (h : cF P (types P) g fn = .fn rs b r) : ∃ bd, fn.body = some bd ∧ cRs (types P) fn.ntmps fn.results.toList = .mk rs ∧ cC P (types P) (Nat.beq (findR bd).length 1) g fn.ntmps bd = .mk b ∧ (fn.name == "runtime.NumGoroutine") = false ∧ r = cRL P (types P) g fn.ntmps bd := by
  unfold cF at h
  split at h
  · rename_i bd hb
    split at h
    · rename_i rs' f' h1 h2
      cases hn : fn.name == "runtime.NumGoroutine" with
      | true => rw [hn] at h; cases h
      | false =>
        rw [hn] at h
        simp only [cond_false, CF.fn.injEq] at h
        obtain ⟨rfl, rfl, rfl⟩ := h
        exact ⟨bd, hb, h1, h2, rfl, rfl⟩
    · cases h
  · cases h
/-- a function's contract -/
theorem body_ok (hD : DrawnOK X P) {cal : CAL} (hcal : CalOK X P cal) {g : Nat} {fn : Func} {rs : RS} {b : CC} {r : RL} (hf : P.funcs[g]? = some fn) (hc : cF P (types P) g fn = .fn rs b r) {l : List V} {h : HP} {c : Nat} {k : KV} {v' : V} {h' : HP} {c' : Nat}
    (e : (argT l slots t0 fun t => bodyE b cal rs t h c k) = .fin v' h' c') : ∃ v h1 c1, k v h1 c1 = .fin v' h' c' ∧
      ∀ w0 ρ w lv, HR X P w0 ρ h c w → denL ρ l = some lv → Calls P g lv.toArray w fun e w' => ∃ x, e = .returned x ∧ ∃ ρ', Le ρ ρ' ∧ HR X P w0 ρ' h1 c1 w' ∧ den ρ' v = some x ∧ Kp h h1 c ∧ c ≤ c1 := by
  obtain ⟨bd, hb, hrs, hcc, hname, _⟩ := cF_fn hc
  obtain ⟨t1, e1, ht⟩ := argT_ok l 0 t0 (k := fun t => bodyE b cal rs t h c k) (by simpa using e)
  have hsnd : CSnd X P fn.ntmps (Nat.beq (findR bd).length 1) b bd := by
    refine cC_ok hD (fun _ => ⟨hf, hb⟩) bd b hcc fun ho x hx => ?_
    obtain ⟨y, hy⟩ := List.length_eq_one_iff.1 (Nat.eq_of_beq_eq_true ho)
    rw [hy] at hx ⊢
    rw [List.mem_singleton.1 hx]
  obtain ⟨ex, t2, h2, c2, df2, e2, w2⟩ := hsnd cal hcal t1 h c [] _ _ v' h' c' e1
  have e3 : retE rs k t2 h2 c2 df2 = .fin v' h' c' ∧ (ex = .nx ∨ ex = .rt) := by
    cases ex with
    | nx => exact ⟨e2, .inl rfl⟩
    | rt => exact ⟨e2, .inr rfl⟩
    | ex i => cases e2
  obtain ⟨e3, hex⟩ := e3
  obtain ⟨h3, e4, w3⟩ := dfK_ok (X := X) (P := P) (show dfK df2 h2 (fun h => rs t2 h fun v => k v h c2) = .fin v' h' c' from e3)
  obtain ⟨v, e5, w4⟩ := cRs_ok (X := X) hrs t2 h3 _ v' h' c' e4
  refine ⟨v, h3, c2, e5, fun w0 ρ w lv hR hl => ?_⟩
  refine (callsIn_wide (n := 1)).1 (callsIn_of_wp_marks (F := Fence.wide) (n := 1) hf hb trivial ?_)
  refine w2 w0 ρ _ w none 1 _ (fun _ => rfl) hR (args_tr hl fun j hj => ?_) ⟨trivial, List.nodup_nil, fun k hk => (by cases hk)⟩ fun ρ' a' w' A => ?_
  · have := ht j hj
    simp only [Nat.zero_le, if_true, Nat.sub_zero, tg_t0 hj] at this
    exact this
  · have hlv : LeavesInM (Fr none) 1 P fn a'.tmps (fun e w' => ∃ x, e = .returned x ∧ ∃ ρ', Le ρ ρ' ∧ HR X P w0 ρ' h3 c2 w' ∧ den ρ' v = some x ∧ Kp h h3 c ∧ c ≤ c2) a'.defers .returning w' := by
      refine w3 w0 ρ' c2 w' a'.defers fn a'.tmps 1 _ A.hr A.dk fun w5 hR5 hk5 => ?_
      obtain ⟨x, d1, r1⟩ := w4 w0 ρ' c2 w5 a'.tmps hR5 A.tr
      refine ⟨x, r1, x, rfl, ρ', A.le, hR5, d1, fun k hk hdf => ?_, A.cl⟩
      rw [hk5 k (Nat.lt_of_lt_of_le hk A.cl) fun hin => ?_]
      · exact A.kp k hk hdf
      · rcases A.nw k hin with hh | hh
        · cases hh
        · omega
    rcases hex with rfl | rfl <;> exact hlv
end
end Ev
