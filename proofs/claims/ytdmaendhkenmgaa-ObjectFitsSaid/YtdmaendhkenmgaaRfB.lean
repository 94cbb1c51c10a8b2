/- The document's arena of one page: Commit; the view of layer 5's statements. -/
import Derived.Test.YtdmaendhkenmgaaRfA
import Derived.Laws.AppendOwn
namespace Go.Proofs.Ytdmaendhkenmgaa.Bt
open Go Go.RowKit Go.Shelf
set_option linter.unusedVariables false

def CmList (k : Nat) (s : ByteArray) (v : Value) (x : World) : Prop := (k = 0 ∧ v = .slice none 0 0) ∨ (k = 1 ∧ ∃ g cap, v = .slice (some ⟨g, 0, none⟩) 1 cap ∧ x.cell? ⟨g, 0, none⟩ = some (.string s))
/-- the call's own blocks: what came in, what goes out, the page's row -/
structure CmAt (V b : Nat) (r : Int) (w x : World) : Prop where
  v : x.heap[V]? = some (.cells #[.slice (some ⟨b, 0, none⟩) 1 1, .int .i64 r] 30 (0, 0))
  o : x.heap[V + 1]? = some (.cells #[.slice none 0 0, .int .i64 0] 30 (0, 0))
  b : x.heap[b]? = some (.cells #[.string ⟨#[]⟩] 9 (0, 0))
  bel : Below w.heap.size w x
theorem CmAt.below {V b : Nat} {r : Int} {w x y : World} (h : CmAt V b r w x) (hb : Below x.heap.size x y) : CmAt V b r w y :=
  ⟨pair_at hb h.v, pair_at hb h.o, (hb.block b (Array.getElem?_eq_some_iff.1 h.b).1).trans h.b, h.bel.trans (hb.mono h.bel.size)⟩
def CommitOne (w : World) (e : Ending) (w' : World) : Prop := ∃ b, e = .returned (.tuple #[docV (some ⟨b, 0, none⟩) 1 1 (-1), .int .i64 0]) ∧ Below w.heap.size w w'
set_option maxRecDepth 100000 in
set_option maxHeartbeats 2000000 in
theorem rcommit_one (b : Nat) (w : World) (hb : w.heap[b]? = some (.cells #[.string ⟨#[]⟩] 9 (0, 0))) :
    Calls Try.prog 23 #[docV (some ⟨b, 0, none⟩) 1 1 (-1), .int .i64 0, .int .i64 1] w (CommitOne w) := by
  obtain ⟨i0, hi, hz0, hz1, hz2⟩ := info_parts Try.infoString
  have HI := Lib.hid hi; have HZ0 := Lib.hid hz0; have HZ1 := Lib.hid hz1; have HZ2 := Lib.hid hz2
  clear hi hz0 hz1 hz2
  have HNS := Lib.hid fun x => noughts_any 4096 (by omega) x
  generalize strL (List.replicate 4096 0) = s at *
  obtain ⟨q1, q2⟩ := pairs_new w #[.slice (some ⟨b, 0, none⟩) 1 1, .int .i64 (-1)] #[.slice none 0 0, .int .i64 0] 30 30
  have HC0 : Hid (CmAt w.heap.size b (-1) w _) := Lib.hid ⟨q1, q2, ((below2 w _ _).block b (Array.getElem?_eq_some_iff.1 hb).1).trans hb, below2 w _ _⟩
  clear hb q1 q2
  go_enter Try.func23, Try.ntmps23
  go_wp2_with fail
  refine (rwrong_one b (-1) _ HC0.out.b).mono ?_
  rintro e w1 ⟨rfl, hb⟩
  have HC1 := Lib.hid (HC0.out.below hb)
  obtain ⟨V, hV⟩ : ∃ V, w.heap.size = V := ⟨_, rfl⟩
  rw [hV] at HC1 ⊢
  have HV := Lib.hid hV
  clear HC0 hb hV
  have c0 := (cell_blk HC1.out.v 0).1; have c1 := (cell_blk HC1.out.v 1).1
  go_wp2_with fail
  go_loopw [9, 10] (fun l v wr => ∃ k : Nat, k ≤ 1 ∧ v = .int .i64 (k : Int) ∧ CmList k s l wr ∧ CmAt V b (-1) w wr) (fun _ v _ => 1 - (intOf v).toNat)
  case atStart => exact ⟨0, by omega, rfl, .inl ⟨rfl, rfl⟩, HC1.out⟩
  case round =>
    obtain ⟨k, hk, rfl, hl, hc⟩ := hrel
    have HL := Lib.hid hl; have HC := Lib.hid hc
    clear hl hc HC1 c0 c1
    by_cases hlt : k < 1
    · obtain rfl : k = 0 := by omega
      obtain rfl : u9 = .slice none 0 0 := by
        rcases HL.out with ⟨_, h⟩ | ⟨h, _⟩
        · exact h
        · cases h
      clear HL
      go_wp2_with fail
      refine (HNS.out _).mono ?_
      rintro e w2 ⟨rfl, hb⟩
      have HC2 := Lib.hid (HC.out.below hb)
      clear HC hb
      go_wp2_with fail
      go_roundw
      case rel =>
        refine ⟨1, by omega, rfl, .inr ⟨rfl, _, _, rfl, ?_⟩, HC2.out.below ((below2 w2 _ _).drew)⟩
        have := (cell_blk (heap_old2 w2 (.cells #[.string s] 9) (.cells (#[.string s] ++ Builtin.zeroCells #[.string ⟨#[]⟩] ((Question.appendCap 1 0 9).cut (w2.tape w2.drawn (Question.appendCap 1 0 9)) - 1)) 9)) 0).1
        refine Eq.trans this ?_
        rw [Array.getElem?_append_left (show 0 < 1 by omega)]
        rfl
      case measure => exact (show (0 : Nat) < 1 by omega)
    · have hk1 : k = 1 := by omega
      obtain ⟨g, cap, rfl, hcell⟩ : ∃ g cap, u9 = .slice (some ⟨g, 0, none⟩) 1 cap ∧ wr.cell? ⟨g, 0, none⟩ = some (.string s) := by
        rcases HL.out with ⟨h, _⟩ | ⟨_, h⟩
        · omega
        · exact h
      have HCL := Lib.hid hcell
      have c0 := (cell_blk HC.out.v 0).1; have c1 := (cell_blk HC.out.v 1).1
      have e0 := (cell_blk HC.out.o 0).1; have e1 := (cell_blk HC.out.o 1).1
      clear HL hcell
      go_wp2_with fail
      refine (rwith_one b g cap (-1) s _ HC.out.b HCL.out).mono ?_
      rintro e w2 ⟨b2, rfl, hb2, hb⟩
      have HC2 := Lib.hid (HC.out.below hb)
      clear hb hb2 HCL HC c0 c1 e0 e1
      have f1 := (cell_blk HC2.out.o 0).2; have f2 := (cell_blk HC2.out.o 1).2
      have e0 := (cell_blk HC2.out.o 0).1; have e1 := (cell_blk HC2.out.o 1).1
      go_wp2_with fail
      have hz := pair_set HC2.out.o rfl (.slice (some ⟨b2, 0, none⟩) 1 1) (.int .i64 (-1))
      have g0 := (cell_blk hz 0).1; have g1 := (cell_blk hz 1).1
      have hV := HV.out
      exact bodyPost_ret (v := .tuple #[docV (some ⟨b2, 0, none⟩) 1 1 (-1), .int .i64 0]) (by simp [results, Try.results23, go_sem, g0, g1]) rfl ⟨b2, rfl, (HC2.out.bel.setCell (p := ⟨V + 1, 0, none⟩) (by show _ ≤ V + 1; omega) _).setCell (p := ⟨V + 1, 1, none⟩) (by show _ ≤ V + 1; omega) _⟩
end Go.Proofs.Ytdmaendhkenmgaa.Bt
