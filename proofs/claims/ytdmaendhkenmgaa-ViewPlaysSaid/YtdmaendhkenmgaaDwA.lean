/- Several texts in one: DvA; DvB; DvC; DvE; DvF; DvG; DvH; DvI; DvJ; DvK; DvL. -/
import Derived.Test.YtdmaendhkenmgaaDaP
import Derived.Test.YtdmaendhkenmgaaVwFill
/- The document's views upon the document's arena of a program's. (Written by gen_dva.py.) -/
namespace Go.Proofs.Ytdmaendhkenmgaa.Bt
open Go Go.RowKit Go.Shelf
set_option linter.unusedVariables false
set_option linter.unusedSimpArgs false

/-- are n bytes at a of a view there? -/
def wiB (s : ASt) (va vs : Nat) (a n : Int) : Bool := thereB s.L s.es (addrV va vs a n) n
theorem wi_out {s : ASt} (g : Good s.L s.es) {va vs : Nat} {a n : Int} (h : ¬ (0 ≤ a ∧ 0 ≤ n ∧ n ≤ (vs : Int) - a)) : wiB s va vs a n = false := by
  unfold wiB addrV
  rw [if_neg h]
  cases e : thereB s.L s.es (-1) n with
  | false => rfl
  | true => have := ((there_iff g (-1) n).1 e).1; omega
theorem wi_in (s : ASt) {va vs : Nat} {a n : Int} (h : 0 ≤ a ∧ 0 ≤ n ∧ n ≤ (vs : Int) - a) : wiB s va vs a n = thereB s.L s.es ((va : Int) + a) n ∧ addrV va vs a n = (va : Int) + a := by
  unfold wiB addrV
  rw [if_pos h]; exact ⟨rfl, rfl⟩
theorem wi_true {s : ASt} (g : Good s.L s.es) {va vs : Nat} {a n : Int} (h : wiB s va vs a n = true) : 0 ≤ a ∧ 0 ≤ n ∧ n ≤ (vs : Int) - a := by
  by_cases k : 0 ≤ a ∧ 0 ≤ n ∧ n ≤ (vs : Int) - a
  · exact k
  · rw [wi_out g k] at h; cases h
theorem wi_thereE (s : ASt) (va vs : Nat) (a n : Int) : thereE s.L s.es (addrV va vs a n) n = if wiB s va vs a n = true then 0 else 3 := rfl
/-- the variables of a function of the document's views -/
structure RvS (V b L cap : Nat) (r : Int) (va vs : Nat) (gs : List ByteArray) (w X : World) : Prop where
  v : DocW V b L cap r X
  u : X.heap[V + 1]? = some (.cells #[.int .i64 (va : Int), .int .i64 (vs : Int)] 61 (0, 0))
  d : DocB b gs X
  bl : Below w.heap.size w X
theorem RvS.below {V b L cap : Nat} {r : Int} {va vs : Nat} {gs : List ByteArray} {w X Y : World} (h : RvS V b L cap r va vs gs w X) (hb : Below X.heap.size X Y) : RvS V b L cap r va vs gs w Y :=
  ⟨h.v.below hb, blk_at hb h.u, h.d.below hb, h.bl.trans (hb.mono h.bl.size)⟩
theorem RvS.all {V b L cap : Nat} {r : Int} {va vs : Nat} {gs : List ByteArray} {w X : World} (h : RvS V b L cap r va vs gs w X) : (X.cell? ⟨V, 0, none⟩ = some (.slice (some ⟨b, 0, none⟩) L cap) ∧ X.cell? ⟨V, 1, none⟩ = some (.int .i64 r)) ∧ X.cell? ⟨V + 1, 0, none⟩ = some (.int .i64 (va : Int)) ∧ X.cell? ⟨V + 1, 1, none⟩ = some (.int .i64 (vs : Int)) :=
  ⟨h.v.all, (cell_blk h.u 0).1, (cell_blk h.u 1).1⟩
theorem RvS.start {b L cap : Nat} {r : Int} {va vs : Nat} {gs : List ByteArray} {w : World} (hb : DocB b gs w) (hL : gs.length = L) :
    RvS w.heap.size b L cap r va vs gs w ((w.alloc (.cells #[.slice (some ⟨b, 0, none⟩) L cap, .int .i64 r] 30)).alloc (.cells #[.int .i64 (va : Int), .int .i64 (vs : Int)] 61)) := by
  obtain ⟨q1, q2⟩ := pairs_new2 w #[.slice (some ⟨b, 0, none⟩) L cap, .int .i64 r] #[.int .i64 (va : Int), .int .i64 (vs : Int)] 30 61
  exact ⟨q1, q2, blk_at (below2 w _ _) hb, below2 w _ _⟩
section
variable {s : ASt} {b cap : Nat} {w : World} {va vs : Nat}
set_option maxRecDepth 100000 in
theorem rv_within (g : Good s.L s.es) (hL8 : s.L ≤ 8) (hva : va ≤ 4294967296) (hvs : vs ≤ 4294967296) (r a n : Int) (ha : -9223372036854775808 ≤ a ∧ a ≤ 9223372036854775807) (hn : -9223372036854775808 ≤ n ∧ n ≤ 9223372036854775807) (hb : DocB b (gS s) w) :
    Calls Try.prog 108 #[.agg #[.slice (some ⟨b, 0, none⟩) s.L cap, .int .i64 r], .agg #[.int .i64 (va : Int), .int .i64 (vs : Int)], .int .i64 a, .int .i64 n] w (Gives (.bool (wiB s va vs a n)) w) := by
  have HW := Lib.hid (fun (h : ¬ (0 ≤ a ∧ 0 ≤ n ∧ n ≤ (vs : Int) - a)) => wi_out (va := va) g h)
  have HT := Lib.hid (fun (y : World) (hy : DocB b (gS s) y) (h : 0 ≤ a ∧ 0 ≤ n ∧ n ≤ (vs : Int) - a) => dthere_any (cap := cap) (by rw [gS_len]; omega) r ((va : Int) + a) n hy (by omega) hn)
  rw [gS_len] at HT
  obtain ⟨L, hLL⟩ : ∃ L, (gS s).length = L := ⟨_, rfl⟩
  have hls : s.L = L := by rw [← hLL, gS_len]
  rw [hls] at HT ⊢
  clear hls hL8
  by_cases h0 : 0 ≤ a
  · by_cases h1 : 0 ≤ n
    · by_cases h2 : n ≤ (vs : Int)
      · have q1 : wrap64 ((vs : Int) - n) = (vs : Int) - n := IntWalk.wrap64_in _ ⟨by omega, by omega⟩
        by_cases h3 : a ≤ (vs : Int) - n
        · have hin : 0 ≤ a ∧ 0 ≤ n ∧ n ≤ (vs : Int) - a := ⟨h0, h1, by omega⟩
          have q2 : wrap64 ((va : Int) + a) = (va : Int) + a := IntWalk.wrap64_in _ ⟨by omega, by omega⟩
          have HF : Hid (thereG (gS s) ((va : Int) + a) n = wiB s va vs a n) := Lib.hid (by rw [gS_there g, (wi_in s hin).1])
          have HT2 := Lib.hid (fun y hy => HT.out y hy hin)
          rw [HF.out] at HT2
          generalize wiB s va vs a n = B at *
          clear HW HT g hin HF ha hn
          have hst := RvS.start hb (cap := cap) (r := r) (va := va) (vs := vs) (w := w) hLL
          go_enter Try.func108, Try.ntmps108
          go_upto_region 1 with fail
          change Code.wp _ _ _ _ ((w.alloc (.cells #[.slice (some ⟨b, 0, none⟩) L cap, .int .i64 r] 30)).alloc (.cells #[.int .i64 (va : Int), .int .i64 (vs : Int)] 61))
          try simp only [World.size_alloc]
          obtain ⟨y, hy⟩ : ∃ y, ((w.alloc (.cells #[.slice (some ⟨b, 0, none⟩) L cap, .int .i64 r] 30)).alloc (.cells #[.int .i64 (va : Int), .int .i64 (vs : Int)] 61)) = y := ⟨_, rfl⟩
          obtain ⟨V, hV⟩ : ∃ V, w.heap.size = V := ⟨_, rfl⟩
          rw [hy, hV] at hst
          rw [hy, hV]
          have HS := Lib.hid hst
          have HVV := Lib.hid hV
          clear hst hy hV
          obtain ⟨⟨c0, c1⟩, c2, c3⟩ := HS.out.all
          go_wp2_with fail
          refine (HT2.out _ HS.out.d).mono ?_
          rintro e w1 ⟨rfl, hb1⟩
          have HB := Lib.hid (HS.out.bl.trans (hb1.mono HS.out.bl.size))
          clear hb1
          go_wp2_with fail
          go_ret
          exact ⟨rfl, HB.out⟩
        · have HF := Lib.hid (HW.out (by omega))
          clear HW HT g
          have hst := RvS.start hb (cap := cap) (r := r) (va := va) (vs := vs) (w := w) hLL
          go_enter Try.func108, Try.ntmps108
          go_upto_region 1 with fail
          change Code.wp _ _ _ _ ((w.alloc (.cells #[.slice (some ⟨b, 0, none⟩) L cap, .int .i64 r] 30)).alloc (.cells #[.int .i64 (va : Int), .int .i64 (vs : Int)] 61))
          try simp only [World.size_alloc]
          obtain ⟨y, hy⟩ : ∃ y, ((w.alloc (.cells #[.slice (some ⟨b, 0, none⟩) L cap, .int .i64 r] 30)).alloc (.cells #[.int .i64 (va : Int), .int .i64 (vs : Int)] 61)) = y := ⟨_, rfl⟩
          obtain ⟨V, hV⟩ : ∃ V, w.heap.size = V := ⟨_, rfl⟩
          rw [hy, hV] at hst
          rw [hy, hV]
          have HS := Lib.hid hst
          have HVV := Lib.hid hV
          clear hst hy hV
          obtain ⟨⟨c0, c1⟩, c2, c3⟩ := HS.out.all
          go_wp2_with fail
          go_ret
          exact ⟨by rw [HF.out]; rfl, HS.out.bl⟩
      · have HF := Lib.hid (HW.out (by omega))
        clear HW HT g
        have hst := RvS.start hb (cap := cap) (r := r) (va := va) (vs := vs) (w := w) hLL
        go_enter Try.func108, Try.ntmps108
        go_upto_region 1 with fail
        change Code.wp _ _ _ _ ((w.alloc (.cells #[.slice (some ⟨b, 0, none⟩) L cap, .int .i64 r] 30)).alloc (.cells #[.int .i64 (va : Int), .int .i64 (vs : Int)] 61))
        try simp only [World.size_alloc]
        obtain ⟨y, hy⟩ : ∃ y, ((w.alloc (.cells #[.slice (some ⟨b, 0, none⟩) L cap, .int .i64 r] 30)).alloc (.cells #[.int .i64 (va : Int), .int .i64 (vs : Int)] 61)) = y := ⟨_, rfl⟩
        obtain ⟨V, hV⟩ : ∃ V, w.heap.size = V := ⟨_, rfl⟩
        rw [hy, hV] at hst
        rw [hy, hV]
        have HS := Lib.hid hst
        have HVV := Lib.hid hV
        clear hst hy hV
        obtain ⟨⟨c0, c1⟩, c2, c3⟩ := HS.out.all
        go_wp2_with fail
        go_ret
        exact ⟨by rw [HF.out]; rfl, HS.out.bl⟩
    · have HF := Lib.hid (HW.out (by omega))
      clear HW HT g
      have hst := RvS.start hb (cap := cap) (r := r) (va := va) (vs := vs) (w := w) hLL
      go_enter Try.func108, Try.ntmps108
      go_upto_region 1 with fail
      change Code.wp _ _ _ _ ((w.alloc (.cells #[.slice (some ⟨b, 0, none⟩) L cap, .int .i64 r] 30)).alloc (.cells #[.int .i64 (va : Int), .int .i64 (vs : Int)] 61))
      try simp only [World.size_alloc]
      obtain ⟨y, hy⟩ : ∃ y, ((w.alloc (.cells #[.slice (some ⟨b, 0, none⟩) L cap, .int .i64 r] 30)).alloc (.cells #[.int .i64 (va : Int), .int .i64 (vs : Int)] 61)) = y := ⟨_, rfl⟩
      obtain ⟨V, hV⟩ : ∃ V, w.heap.size = V := ⟨_, rfl⟩
      rw [hy, hV] at hst
      rw [hy, hV]
      have HS := Lib.hid hst
      have HVV := Lib.hid hV
      clear hst hy hV
      obtain ⟨⟨c0, c1⟩, c2, c3⟩ := HS.out.all
      go_wp2_with fail
      go_ret
      exact ⟨by rw [HF.out]; rfl, HS.out.bl⟩
  · have HF := Lib.hid (HW.out (by omega))
    clear HW HT g
    have hst := RvS.start hb (cap := cap) (r := r) (va := va) (vs := vs) (w := w) hLL
    go_enter Try.func108, Try.ntmps108
    go_upto_region 1 with fail
    change Code.wp _ _ _ _ ((w.alloc (.cells #[.slice (some ⟨b, 0, none⟩) L cap, .int .i64 r] 30)).alloc (.cells #[.int .i64 (va : Int), .int .i64 (vs : Int)] 61))
    try simp only [World.size_alloc]
    obtain ⟨y, hy⟩ : ∃ y, ((w.alloc (.cells #[.slice (some ⟨b, 0, none⟩) L cap, .int .i64 r] 30)).alloc (.cells #[.int .i64 (va : Int), .int .i64 (vs : Int)] 61)) = y := ⟨_, rfl⟩
    obtain ⟨V, hV⟩ : ∃ V, w.heap.size = V := ⟨_, rfl⟩
    rw [hy, hV] at hst
    rw [hy, hV]
    have HS := Lib.hid hst
    have HVV := Lib.hid hV
    clear hst hy hV
    obtain ⟨⟨c0, c1⟩, c2, c3⟩ := HS.out.all
    go_wp2_with fail
    go_ret
    exact ⟨by rw [HF.out]; rfl, HS.out.bl⟩
end
end Go.Proofs.Ytdmaendhkenmgaa.Bt
/- The document's views: Bytes, Load. (Written by gen_dvb.py.) -/
namespace Go.Proofs.Ytdmaendhkenmgaa.Bt
open Go Go.RowKit Go.Shelf
set_option linter.unusedVariables false
set_option linter.unusedSimpArgs false

section
variable {s : ASt} {b cap : Nat} {w : World} {va vs : Nat}

set_option maxRecDepth 100000 in
theorem rv_bytes (g : Good s.L s.es) (hL8 : s.L ≤ 8) (hva : va ≤ 4294967296) (hvs : vs ≤ 4294967296) (r : Int) (a n : Int) (ha : -9223372036854775808 ≤ a ∧ a ≤ 9223372036854775807) (hn : -9223372036854775808 ≤ n ∧ n ≤ 9223372036854775807) (hb : DocB b (gS s) w) :
    Calls Try.prog 77 #[.agg #[.slice (some ⟨b, 0, none⟩) s.L cap, .int .i64 r], .agg #[.int .i64 (va : Int), .int .i64 (vs : Int)], .int .i64 a, .int .i64 n] w (Gives (.tuple #[.string (byV s (addrV va vs a n) n), .int .i64 (thereE s.L s.es (addrV va vs a n) n)]) w) := by
  have HW := Lib.hid (fun (y : World) (hy : DocB b (gS s) y) => rv_within (cap := cap) g hL8 hva hvs r a n ha hn hy)
  have HD := Lib.hid (fun (y : World) (hy : DocB b (gS s) y) (h : 0 ≤ a ∧ 0 ≤ n ∧ n ≤ (vs : Int) - a) => dbytes_any (cap := cap) (by rw [gS_len]; omega) (gS_ok s) r ((va : Int) + a) n hy (by omega) hn)
  rw [dby_is g, gS_len] at HD
  obtain ⟨L, hLL⟩ : ∃ L, (gS s).length = L := ⟨_, rfl⟩
  have hls : s.L = L := by rw [← hLL, gS_len]
  cases hw : wiB s va vs a n with
  | false =>
    have HF : Hid (byV s (addrV va vs a n) n = ⟨#[]⟩ ∧ thereE s.L s.es (addrV va vs a n) n = 3) := Lib.hid (by
      have : thereE s.L s.es (addrV va vs a n) n = 3 := by rw [wi_thereE, hw]; rfl
      exact ⟨by unfold byV; rw [this, if_neg (by decide)], this⟩)
    rw [HF.out.1, HF.out.2]
    rw [hw, hls] at HW
    rw [hls]
    clear HD hw HF hls g hL8
    have hst := RvS.start hb (cap := cap) (r := r) (va := va) (vs := vs) (w := w) hLL
    go_enter Try.func77, Try.ntmps77
    go_upto_region 1 with fail
    change Code.wp _ _ _ _ ((w.alloc (.cells #[.slice (some ⟨b, 0, none⟩) L cap, .int .i64 r] 30)).alloc (.cells #[.int .i64 (va : Int), .int .i64 (vs : Int)] 61))
    try simp only [World.size_alloc]
    obtain ⟨y, hy⟩ : ∃ y, ((w.alloc (.cells #[.slice (some ⟨b, 0, none⟩) L cap, .int .i64 r] 30)).alloc (.cells #[.int .i64 (va : Int), .int .i64 (vs : Int)] 61)) = y := ⟨_, rfl⟩
    obtain ⟨V, hV⟩ : ∃ V, w.heap.size = V := ⟨_, rfl⟩
    rw [hy, hV] at hst
    rw [hy, hV]
    have HS := Lib.hid hst
    have HVV := Lib.hid hV
    clear hst hy hV
    obtain ⟨⟨c0, c1⟩, c2, c3⟩ := HS.out.all
    go_wp2_with fail
    refine (HW.out _ HS.out.d).mono ?_
    rintro e w1 ⟨rfl, hb1⟩
    have HB := Lib.hid (HS.out.bl.trans (hb1.mono HS.out.bl.size))
    clear hb1
    go_wp2_with fail
    go_ret2
    exact ⟨rfl, HB.out⟩
  | true =>
    have hin := wi_true g hw
    have HE := Lib.hid (wi_in s (va := va) hin).2
    rw [HE.out]
    have HD2 := Lib.hid (fun y hy => HD.out y hy hin)
    rw [hw, hls] at HW
    have q2 : wrap64 ((va : Int) + a) = (va : Int) + a := IntWalk.wrap64_in _ ⟨by omega, by omega⟩
    obtain ⟨X, hX⟩ : ∃ X, byV s ((va : Int) + a) n = X := ⟨_, rfl⟩
    obtain ⟨er, her⟩ : ∃ er, thereE s.L s.es ((va : Int) + a) n = er := ⟨_, rfl⟩
    rw [hX, her, hls] at HD2
    rw [hX, her, hls]
    clear HD hw HE hin hX her hls g hL8 ha hn
    have hst := RvS.start hb (cap := cap) (r := r) (va := va) (vs := vs) (w := w) hLL
    go_enter Try.func77, Try.ntmps77
    go_upto_region 1 with fail
    change Code.wp _ _ _ _ ((w.alloc (.cells #[.slice (some ⟨b, 0, none⟩) L cap, .int .i64 r] 30)).alloc (.cells #[.int .i64 (va : Int), .int .i64 (vs : Int)] 61))
    try simp only [World.size_alloc]
    obtain ⟨y, hy⟩ : ∃ y, ((w.alloc (.cells #[.slice (some ⟨b, 0, none⟩) L cap, .int .i64 r] 30)).alloc (.cells #[.int .i64 (va : Int), .int .i64 (vs : Int)] 61)) = y := ⟨_, rfl⟩
    obtain ⟨V, hV⟩ : ∃ V, w.heap.size = V := ⟨_, rfl⟩
    rw [hy, hV] at hst
    rw [hy, hV]
    have HS := Lib.hid hst
    have HVV := Lib.hid hV
    clear hst hy hV
    obtain ⟨⟨c0, c1⟩, c2, c3⟩ := HS.out.all
    go_wp2_with fail
    refine (HW.out _ HS.out.d).mono ?_
    rintro e w1 ⟨rfl, hb1⟩
    have HS1 := Lib.hid (HS.out.below hb1)
    clear hb1 HS c0 c1 c2 c3
    obtain ⟨⟨c0, c1⟩, c2, c3⟩ := HS1.out.all
    go_wp2_with fail
    refine (HD2.out _ HS1.out.d).mono ?_
    rintro e w2 ⟨rfl, hb1⟩
    have HB := Lib.hid (HS1.out.bl.trans (hb1.mono HS1.out.bl.size))
    clear hb1
    go_wp2_with fail
    go_ret2
    exact ⟨rfl, HB.out⟩
set_option maxRecDepth 100000 in
theorem rv_load (g : Good s.L s.es) (hL8 : s.L ≤ 8) (hva : va ≤ 4294967296) (hvs : vs ≤ 4294967296) (r : Int) (a n : Int) (ha : -9223372036854775808 ≤ a ∧ a ≤ 9223372036854775807) (hn : -9223372036854775808 ≤ n ∧ n ≤ 9223372036854775807) (hb : DocB b (gS s) w) :
    Calls Try.prog 74 #[.agg #[.slice (some ⟨b, 0, none⟩) s.L cap, .int .i64 r], .agg #[.int .i64 (va : Int), .int .i64 (vs : Int)], .int .i64 a, .int .i64 n] w (Gives (.tuple #[.int .u64 (ldV s (addrV va vs a n) n), .int .i64 (numE s.L s.es (addrV va vs a n) n)]) w) := by
  have HW := Lib.hid (fun (y : World) (hy : DocB b (gS s) y) => rv_within (cap := cap) g hL8 hva hvs r a n ha hn hy)
  have HD0 := Lib.hid (fun (y : World) (hy : DocB b (gS s) y) => dload_any (cap := cap) (by rw [gS_len]; omega) (gS_ok s) r 0 n hy (by omega) hn)
  have HD := Lib.hid (fun (y : World) (hy : DocB b (gS s) y) (h : 0 ≤ a ∧ 0 ≤ n ∧ n ≤ (vs : Int) - a) => dload_any (cap := cap) (by rw [gS_len]; omega) (gS_ok s) r ((va : Int) + a) n hy (by omega) hn)
  rw [dlo_is g, gS_len] at HD HD0
  obtain ⟨L, hLL⟩ : ∃ L, (gS s).length = L := ⟨_, rfl⟩
  have hls : s.L = L := by rw [← hLL, gS_len]
  obtain ⟨X0, hX0⟩ : ∃ X, ldV s 0 n = X := ⟨_, rfl⟩
  rw [hX0] at HD0
  clear hX0
  cases hwh : wholeB n with
  | false =>
    have hE : ∀ z, numE s.L s.es z n = 2 := fun z => by unfold numE; rw [hwh]; rfl
    have hV : ldV s (addrV va vs a n) n = 0 := by unfold ldV; rw [hE, if_neg (by decide)]
    rw [hE] at HD0 ⊢
    rw [hV]
    rw [hls] at HD0
    rw [hls]
    clear HD HW hE hV hwh hls g hL8
    have hst := RvS.start hb (cap := cap) (r := r) (va := va) (vs := vs) (w := w) hLL
    go_enter Try.func74, Try.ntmps74
    go_upto_region 1 with fail
    change Code.wp _ _ _ _ ((w.alloc (.cells #[.slice (some ⟨b, 0, none⟩) L cap, .int .i64 r] 30)).alloc (.cells #[.int .i64 (va : Int), .int .i64 (vs : Int)] 61))
    try simp only [World.size_alloc]
    obtain ⟨y, hy⟩ : ∃ y, ((w.alloc (.cells #[.slice (some ⟨b, 0, none⟩) L cap, .int .i64 r] 30)).alloc (.cells #[.int .i64 (va : Int), .int .i64 (vs : Int)] 61)) = y := ⟨_, rfl⟩
    obtain ⟨V, hV⟩ : ∃ V, w.heap.size = V := ⟨_, rfl⟩
    rw [hy, hV] at hst
    rw [hy, hV]
    have HS := Lib.hid hst
    have HVV := Lib.hid hV
    clear hst hy hV
    obtain ⟨⟨c0, c1⟩, c2, c3⟩ := HS.out.all
    go_wp2_with fail
    refine (HD0.out _ HS.out.d).mono ?_
    rintro e w1 ⟨rfl, hb1⟩
    have HB := Lib.hid (HS.out.bl.trans (hb1.mono HS.out.bl.size))
    clear hb1
    go_wp2_with fail
    go_ret2
    exact ⟨rfl, HB.out⟩
  | true =>
    have hE : ∀ z, numE s.L s.es z n = thereE s.L s.es z n := fun z => by unfold numE; rw [hwh]; rfl
    obtain ⟨e0, he0⟩ : ∃ e0, numE s.L s.es 0 n = e0 := ⟨_, rfl⟩
    have h2 : (e0 == 2) = false := by
      rw [← he0, hE]
      rcases thereE_or s.L s.es 0 n with h | h <;> rw [h] <;> rfl
    rw [he0] at HD0
    cases hw : wiB s va vs a n with
    | false =>
      have h3 : numE s.L s.es (addrV va vs a n) n = 3 := by rw [hE, wi_thereE, hw]; rfl
      have hV : ldV s (addrV va vs a n) n = 0 := by unfold ldV; rw [h3, if_neg (by decide)]
      rw [h3, hV]
      rw [hw, hls] at HW
      rw [hls] at HD0
      rw [hls]
      clear HD hw hE hwh h3 hV hls g hL8 he0
      have hst := RvS.start hb (cap := cap) (r := r) (va := va) (vs := vs) (w := w) hLL
      go_enter Try.func74, Try.ntmps74
      go_upto_region 1 with fail
      change Code.wp _ _ _ _ ((w.alloc (.cells #[.slice (some ⟨b, 0, none⟩) L cap, .int .i64 r] 30)).alloc (.cells #[.int .i64 (va : Int), .int .i64 (vs : Int)] 61))
      try simp only [World.size_alloc]
      obtain ⟨y, hy⟩ : ∃ y, ((w.alloc (.cells #[.slice (some ⟨b, 0, none⟩) L cap, .int .i64 r] 30)).alloc (.cells #[.int .i64 (va : Int), .int .i64 (vs : Int)] 61)) = y := ⟨_, rfl⟩
      obtain ⟨V, hV⟩ : ∃ V, w.heap.size = V := ⟨_, rfl⟩
      rw [hy, hV] at hst
      rw [hy, hV]
      have HS := Lib.hid hst
      have HVV := Lib.hid hV
      clear hst hy hV
      obtain ⟨⟨c0, c1⟩, c2, c3⟩ := HS.out.all
      go_wp2_with fail
      refine (HD0.out _ HS.out.d).mono ?_
      rintro e w1 ⟨rfl, hb1⟩
      have HS1 := Lib.hid (HS.out.below hb1)
      clear hb1 HS c0 c1 c2 c3
      obtain ⟨⟨c0, c1⟩, c2, c3⟩ := HS1.out.all
      go_wp2_with fail
      refine (HW.out _ HS1.out.d).mono ?_
      rintro e w2 ⟨rfl, hb1⟩
      have HB := Lib.hid (HS1.out.bl.trans (hb1.mono HS1.out.bl.size))
      clear hb1
      go_wp2_with fail
      go_ret2
      exact ⟨rfl, HB.out⟩
    | true =>
      have hin := wi_true g hw
      have HE := Lib.hid (wi_in s (va := va) hin).2
      rw [HE.out]
      have HD2 := Lib.hid (fun y hy => HD.out y hy hin)
      rw [hw, hls] at HW
      have q2 : wrap64 ((va : Int) + a) = (va : Int) + a := IntWalk.wrap64_in _ ⟨by omega, by omega⟩
      obtain ⟨X, hX⟩ : ∃ X, ldV s ((va : Int) + a) n = X := ⟨_, rfl⟩
      obtain ⟨er, her⟩ : ∃ er, numE s.L s.es ((va : Int) + a) n = er := ⟨_, rfl⟩
      rw [hX, her, hls] at HD2
      rw [hX, her, hls]
      rw [hls] at HD0
      clear HD hw HE hin hX her hls g hL8 ha hn hE hwh he0
      have hst := RvS.start hb (cap := cap) (r := r) (va := va) (vs := vs) (w := w) hLL
      go_enter Try.func74, Try.ntmps74
      go_upto_region 1 with fail
      change Code.wp _ _ _ _ ((w.alloc (.cells #[.slice (some ⟨b, 0, none⟩) L cap, .int .i64 r] 30)).alloc (.cells #[.int .i64 (va : Int), .int .i64 (vs : Int)] 61))
      try simp only [World.size_alloc]
      obtain ⟨y, hy⟩ : ∃ y, ((w.alloc (.cells #[.slice (some ⟨b, 0, none⟩) L cap, .int .i64 r] 30)).alloc (.cells #[.int .i64 (va : Int), .int .i64 (vs : Int)] 61)) = y := ⟨_, rfl⟩
      obtain ⟨V, hV⟩ : ∃ V, w.heap.size = V := ⟨_, rfl⟩
      rw [hy, hV] at hst
      rw [hy, hV]
      have HS := Lib.hid hst
      have HVV := Lib.hid hV
      clear hst hy hV
      obtain ⟨⟨c0, c1⟩, c2, c3⟩ := HS.out.all
      go_wp2_with fail
      refine (HD0.out _ HS.out.d).mono ?_
      rintro e w1 ⟨rfl, hb1⟩
      have HS1 := Lib.hid (HS.out.below hb1)
      clear hb1 HS c0 c1 c2 c3
      obtain ⟨⟨c0, c1⟩, c2, c3⟩ := HS1.out.all
      go_wp2_with fail
      refine (HW.out _ HS1.out.d).mono ?_
      rintro e w2 ⟨rfl, hb1⟩
      have HS2 := Lib.hid (HS1.out.below hb1)
      clear hb1 HS1 c0 c1 c2 c3
      obtain ⟨⟨c0, c1⟩, c2, c3⟩ := HS2.out.all
      go_wp2_with fail
      refine (HD2.out _ HS2.out.d).mono ?_
      rintro e w3 ⟨rfl, hb1⟩
      have HB := Lib.hid (HS2.out.bl.trans (hb1.mono HS2.out.bl.size))
      clear hb1
      go_wp2_with fail
      go_ret2
      exact ⟨rfl, HB.out⟩
end
end Go.Proofs.Ytdmaendhkenmgaa.Bt
/- The document's views: Put, Fill, Store, Copy. (Written by gen_dvb.py.) -/
namespace Go.Proofs.Ytdmaendhkenmgaa.Bt
open Go Go.RowKit Go.Shelf
set_option linter.unusedVariables false
set_option linter.unusedSimpArgs false

/-- with the variable of a result that is an arena -/
structure RvO (V b L cap : Nat) (r : Int) (va vs : Nat) (gs : List ByteArray) (w X : World) : Prop where
  s : RvS V b L cap r va vs gs w X
  o : X.heap[V + 2]? = some (.cells #[.slice none 0 0, .int .i64 0] 30 (0, 0))
  hV : w.heap.size ≤ V
theorem RvO.below {V b L cap : Nat} {r : Int} {va vs : Nat} {gs : List ByteArray} {w X Y : World} (h : RvO V b L cap r va vs gs w X) (hb : Below X.heap.size X Y) : RvO V b L cap r va vs gs w Y :=
  ⟨h.s.below hb, blk_at hb h.o, h.hV⟩
theorem RvO.start {b L cap : Nat} {r : Int} {va vs : Nat} {gs : List ByteArray} {w : World} (hb : DocB b gs w) (hL : gs.length = L) :
    RvO w.heap.size b L cap r va vs gs w (((w.alloc (.cells #[.slice (some ⟨b, 0, none⟩) L cap, .int .i64 r] 30)).alloc (.cells #[.int .i64 (va : Int), .int .i64 (vs : Int)] 61)).alloc (.cells #[.slice none 0 0, .int .i64 0] 30)) := by
  have h := RvS.start hb (cap := cap) (r := r) (va := va) (vs := vs) hL
  have hn := heap_new ((w.alloc (.cells #[.slice (some ⟨b, 0, none⟩) L cap, .int .i64 r] 30)).alloc (.cells #[.int .i64 (va : Int), .int .i64 (vs : Int)] 61)) (.cells #[.slice none 0 0, .int .i64 0] 30)
  have hsz : ((w.alloc (.cells #[.slice (some ⟨b, 0, none⟩) L cap, .int .i64 r] 30)).alloc (.cells #[.int .i64 (va : Int), .int .i64 (vs : Int)] 61)).heap.size = w.heap.size + 2 := by simp
  rw [hsz] at hn
  exact ⟨h.below (bel1 _ _), hn, Nat.le_refl _⟩
theorem RvO.all {V b L cap : Nat} {r : Int} {va vs : Nat} {gs : List ByteArray} {w X : World} (h : RvO V b L cap r va vs gs w X) : ((X.cell? ⟨V, 0, none⟩ = some (.slice (some ⟨b, 0, none⟩) L cap) ∧ X.cell? ⟨V, 1, none⟩ = some (.int .i64 r)) ∧ X.cell? ⟨V + 1, 0, none⟩ = some (.int .i64 (va : Int)) ∧ X.cell? ⟨V + 1, 1, none⟩ = some (.int .i64 (vs : Int))) ∧
    X.cell? ⟨V + 2, 0, none⟩ = some (.slice none 0 0) ∧ X.cell? ⟨V + 2, 1, none⟩ = some (.int .i64 0) ∧ X.frozen? ⟨V + 2, 0, none⟩ = false ∧ X.frozen? ⟨V + 2, 1, none⟩ = false :=
  ⟨h.s.all, (cell_blk h.o 0).1, (cell_blk h.o 1).1, (cell_blk h.o 0).2, (cell_blk h.o 1).2⟩
theorem RvO.out {V b L cap : Nat} {r : Int} {va vs : Nat} {gs : List ByteArray} {w X : World} (h : RvO V b L cap r va vs gs w X) {b2 : Nat} {gs2 : List ByteArray} (hd : DocB b2 gs2 X) (u v : Value) :
    ((X.setCell ⟨V + 2, 0, none⟩ u).setCell ⟨V + 2, 1, none⟩ v).cell? ⟨V + 2, 0, none⟩ = some u ∧ ((X.setCell ⟨V + 2, 0, none⟩ u).setCell ⟨V + 2, 1, none⟩ v).cell? ⟨V + 2, 1, none⟩ = some v ∧
    DocB b2 gs2 ((X.setCell ⟨V + 2, 0, none⟩ u).setCell ⟨V + 2, 1, none⟩ v) ∧ Below w.heap.size w ((X.setCell ⟨V + 2, 0, none⟩ u).setCell ⟨V + 2, 1, none⟩ v) := by
  have h2 := heap_set (heap_set h.o u (o := 0)) v (o := 1)
  have hne : b2 ≠ V + 2 := heap_neD hd h.o (by decide)
  refine ⟨(cell_blk h2 0).1, (cell_blk h2 1).1, (heap_far_one hne _).trans ((heap_far_one hne _).trans hd), ?_⟩
  have := h.hV
  exact (h.s.bl.setCell (p := ⟨V + 2, 0, none⟩) (by show w.heap.size ≤ V + 2; omega) u).setCell (p := ⟨V + 2, 1, none⟩) (by show w.heap.size ≤ V + 2; omega) v
section
variable {s : ASt} {b cap : Nat} {w : World} {va vs : Nat}
theorem dk_put (g : Good s.L s.es) (hL : s.L ≤ 1048576) (a : Int) (x : ByteArray) (ha : -9223372036854775808 ≤ a ∧ a ≤ 9223372036854775807) (hx : x.size ≤ 9223372036854775807) (hb : DocB b (gS s) w) :
    Calls Try.prog 54 #[.agg #[.slice (some ⟨b, 0, none⟩) s.L cap, .int .i64 (refR s)], .int .i64 a, .string x] w (DocK (putS s a x.data.toList) (thereE s.L s.es a (x.size : Int)) (refR s) w) := by
  have h := dput_any (cap := cap) (by rw [gS_len]; exact hL) (gS_ok s) (refR s) a x hx hb ha
  rw [gS_len] at h
  have hl : (x.data.toList.length : Int) = (x.size : Int) := rfl
  exact h.mono fun e w' k => DocK.of2 k (fun gs' hp => putE_gS g (by rw [hl]; exact hp)) (there_er g a _)

set_option maxRecDepth 100000 in
theorem rv_fill (g : Good s.L s.es) (hL8 : s.L ≤ 8) (hva : va ≤ 4294967296) (hvs : vs ≤ 4294967296) {r : Int} (hr : refR s = r) (a n : Int) (Y : UInt8) (ha : -9223372036854775808 ≤ a ∧ a ≤ 9223372036854775807) (hn : -9223372036854775808 ≤ n ∧ n ≤ 9223372036854775807) (hb : DocB b (gS s) w) :
    Calls Try.prog 81 #[.agg #[.slice (some ⟨b, 0, none⟩) s.L cap, .int .i64 r], .agg #[.int .i64 (va : Int), .int .i64 (vs : Int)], .int .i64 a, .int .i64 n, .int .u8 (Y.toNat : Int)] w (DocK (fillS s (addrV va vs a n) n Y) (thereE s.L s.es (addrV va vs a n) n) r w) := by
  have HW := Lib.hid (fun (y : World) (hy : DocB b (gS s) y) => rv_within (cap := cap) g hL8 hva hvs r a n ha hn hy)
  cases hw : wiB s va vs a n with
  | false =>
    have h3 : thereE s.L s.es (addrV va vs a n) n = 3 := by rw [wi_thereE, hw]; rfl
    have hst0 : fillS s (addrV va vs a n) n Y = s := by unfold fillS; rw [h3, if_neg (by decide)]
    obtain ⟨er, her⟩ : ∃ er : Int, er = 3 := ⟨_, rfl⟩
    have hE3 : thereE s.L s.es (addrV va vs a n) n = er := by exact h3.trans her.symm
    rw [hE3]
    obtain ⟨L, hLL⟩ : ∃ L, (gS s).length = L := ⟨_, rfl⟩
    have hls : s.L = L := by rw [← hLL, gS_len]
    have HRES : Hid (∀ (b2 cap2 : Nat) (e : Ending) (w' : World), e = .returned (.tuple #[.agg #[.slice (some ⟨b2, 0, none⟩) L cap2, .int .i64 r], .int .i64 er]) → DocB b2 (gS s) w' → Below w.heap.size w w' → DocK (fillS s (addrV va vs a n) n Y) er r w e w') := Lib.hid (fun b2 cap2 e w' h1 h2 h3 => by rw [hst0]; exact ⟨b2, cap2, by rw [hls]; exact h1, h2, h3⟩)
    rw [hw, hls] at HW
    rw [hls]
    clear hw h3 hst0 hE3 hls g hL8 ha hn
    have hst := RvO.start hb (cap := cap) (r := r) (va := va) (vs := vs) (w := w) hLL
    go_enter Try.func81, Try.ntmps81
    go_upto_region 1 with fail
    change Code.wp _ _ _ _ (((w.alloc (.cells #[.slice (some ⟨b, 0, none⟩) L cap, .int .i64 r] 30)).alloc (.cells #[.int .i64 (va : Int), .int .i64 (vs : Int)] 61)).alloc (.cells #[.slice none 0 0, .int .i64 0] 30))
    try simp only [World.size_alloc]
    obtain ⟨y, hy⟩ : ∃ y, (((w.alloc (.cells #[.slice (some ⟨b, 0, none⟩) L cap, .int .i64 r] 30)).alloc (.cells #[.int .i64 (va : Int), .int .i64 (vs : Int)] 61)).alloc (.cells #[.slice none 0 0, .int .i64 0] 30)) = y := ⟨_, rfl⟩
    obtain ⟨V, hV⟩ : ∃ V, w.heap.size = V := ⟨_, rfl⟩
    rw [hy, hV] at hst
    rw [hy, hV]
    have HS := Lib.hid hst
    have HVV := Lib.hid hV
    clear hst hy hV
    obtain ⟨⟨⟨c0, c1⟩, c2, c3⟩, c4, c5, f4, f5⟩ := HS.out.all
    go_wp2_with fail
    refine (HW.out _ HS.out.s.d).mono ?_
    rintro e w1 ⟨rfl, hb1⟩
    have HS1 := Lib.hid (HS.out.below hb1)
    clear hb1 HS c0 c1 c2 c3 c4 c5 f4 f5
    obtain ⟨⟨⟨c0, c1⟩, c2, c3⟩, c4, c5, f4, f5⟩ := HS1.out.all
    subst her
    go_wp2_with fail
    obtain ⟨z0, z1, zd, zb⟩ := HS1.out.out HS1.out.s.d (.slice (some ⟨b, 0, none⟩) L cap) (.int .i64 r)
    exact bodyPost_ret (v := .tuple #[.agg #[.slice (some ⟨b, 0, none⟩) L cap, .int .i64 r], .int .i64 3]) (by simp [results, Try.results81, go_sem, z0, z1]) rfl (HRES.out b cap _ _ rfl zd zb)
  | true =>
    have hin := wi_true g hw
    have HEA := Lib.hid (wi_in s (va := va) hin).2
    rw [HEA.out]
    have HD2 := Lib.hid (fun (y : World) (hy : DocB b (gS s) y) => dk_fill (cap := cap) g (by omega) ((va : Int) + a) n Y (by omega) hn hy)
    have q2 : wrap64 ((va : Int) + a) = (va : Int) + a := IntWalk.wrap64_in _ ⟨by omega, by omega⟩
    obtain ⟨s2, hs2⟩ : ∃ s2, fillS s ((va : Int) + a) n Y = s2 := ⟨_, rfl⟩
    obtain ⟨er, her⟩ : ∃ er, thereE s.L s.es ((va : Int) + a) n = er := ⟨_, rfl⟩
    rw [hs2, her, hr] at HD2
    rw [hs2, her]
    obtain ⟨L, hLL⟩ : ∃ L, (gS s).length = L := ⟨_, rfl⟩
    have hls : s.L = L := by rw [← hLL, gS_len]
    rw [hw, hls] at HW
    rw [hls] at HD2 ⊢
    clear hw hin HEA hs2 her hls g hL8 ha hn
    have hst := RvO.start hb (cap := cap) (r := r) (va := va) (vs := vs) (w := w) hLL
    go_enter Try.func81, Try.ntmps81
    go_upto_region 1 with fail
    change Code.wp _ _ _ _ (((w.alloc (.cells #[.slice (some ⟨b, 0, none⟩) L cap, .int .i64 r] 30)).alloc (.cells #[.int .i64 (va : Int), .int .i64 (vs : Int)] 61)).alloc (.cells #[.slice none 0 0, .int .i64 0] 30))
    try simp only [World.size_alloc]
    obtain ⟨y, hy⟩ : ∃ y, (((w.alloc (.cells #[.slice (some ⟨b, 0, none⟩) L cap, .int .i64 r] 30)).alloc (.cells #[.int .i64 (va : Int), .int .i64 (vs : Int)] 61)).alloc (.cells #[.slice none 0 0, .int .i64 0] 30)) = y := ⟨_, rfl⟩
    obtain ⟨V, hV⟩ : ∃ V, w.heap.size = V := ⟨_, rfl⟩
    rw [hy, hV] at hst
    rw [hy, hV]
    have HS := Lib.hid hst
    have HVV := Lib.hid hV
    clear hst hy hV
    obtain ⟨⟨⟨c0, c1⟩, c2, c3⟩, c4, c5, f4, f5⟩ := HS.out.all
    go_wp2_with fail
    refine (HW.out _ HS.out.s.d).mono ?_
    rintro e w1 ⟨rfl, hb1⟩
    have HS1 := Lib.hid (HS.out.below hb1)
    clear hb1 HS c0 c1 c2 c3 c4 c5 f4 f5
    obtain ⟨⟨⟨c0, c1⟩, c2, c3⟩, c4, c5, f4, f5⟩ := HS1.out.all
    go_wp2_with fail
    refine (HD2.out _ HS1.out.s.d).mono ?_
    rintro e w9 ⟨b2, cap2, rfl, hd2, hb9⟩
    have HS9 := Lib.hid (HS1.out.below hb9)
    have HD9 := Lib.hid hd2
    clear hb9 hd2 c0 c1 c2 c3 c4 c5 f4 f5
    obtain ⟨⟨⟨c0, c1⟩, c2, c3⟩, c4, c5, f4, f5⟩ := HS9.out.all
    go_wp2_with fail
    obtain ⟨z0, z1, zd, zb⟩ := HS9.out.out HD9.out (.slice (some ⟨b2, 0, none⟩) s2.L cap2) (.int .i64 r)
    exact bodyPost_ret (v := .tuple #[.agg #[.slice (some ⟨b2, 0, none⟩) s2.L cap2, .int .i64 r], .int .i64 er]) (by simp [results, Try.results81, go_sem, z0, z1]) rfl ⟨b2, cap2, rfl, zd, zb⟩
set_option maxRecDepth 100000 in
theorem rv_put (g : Good s.L s.es) (hL8 : s.L ≤ 8) (hva : va ≤ 4294967296) (hvs : vs ≤ 4294967296) {r : Int} (hr : refR s = r) (a : Int) (x : ByteArray) (ha : -9223372036854775808 ≤ a ∧ a ≤ 9223372036854775807) (hx : x.size ≤ 9223372036854775807) (hb : DocB b (gS s) w) :
    Calls Try.prog 79 #[.agg #[.slice (some ⟨b, 0, none⟩) s.L cap, .int .i64 r], .agg #[.int .i64 (va : Int), .int .i64 (vs : Int)], .int .i64 a, .string x] w (DocK (putS s (addrV va vs a (x.size : Int)) x.data.toList) (thereE s.L s.es (addrV va vs a (x.size : Int)) (x.size : Int)) r w) := by
  have hxl : (x.data.toList.length : Int) = (x.size : Int) := rfl
  have HW := Lib.hid (fun (y : World) (hy : DocB b (gS s) y) => rv_within (cap := cap) g hL8 hva hvs r a (x.size : Int) ha (by omega) hy)
  cases hw : wiB s va vs a (x.size : Int) with
  | false =>
    have h3 : thereE s.L s.es (addrV va vs a (x.size : Int)) (x.size : Int) = 3 := by rw [wi_thereE, hw]; rfl
    have hst0 : putS s (addrV va vs a (x.size : Int)) x.data.toList = s := by unfold putS; rw [hxl, h3, if_neg (by decide)]
    obtain ⟨er, her⟩ : ∃ er : Int, er = 3 := ⟨_, rfl⟩
    have hE3 : thereE s.L s.es (addrV va vs a (x.size : Int)) (x.size : Int) = er := by exact h3.trans her.symm
    rw [hE3]
    obtain ⟨L, hLL⟩ : ∃ L, (gS s).length = L := ⟨_, rfl⟩
    have hls : s.L = L := by rw [← hLL, gS_len]
    have HRES : Hid (∀ (b2 cap2 : Nat) (e : Ending) (w' : World), e = .returned (.tuple #[.agg #[.slice (some ⟨b2, 0, none⟩) L cap2, .int .i64 r], .int .i64 er]) → DocB b2 (gS s) w' → Below w.heap.size w w' → DocK (putS s (addrV va vs a (x.size : Int)) x.data.toList) er r w e w') := Lib.hid (fun b2 cap2 e w' h1 h2 h3 => by rw [hst0]; exact ⟨b2, cap2, by rw [hls]; exact h1, h2, h3⟩)
    rw [hw, hls] at HW
    rw [hls]
    clear hw h3 hst0 hE3 hls g hL8 ha hxl
    have hst := RvO.start hb (cap := cap) (r := r) (va := va) (vs := vs) (w := w) hLL
    go_enter Try.func79, Try.ntmps79
    go_upto_region 1 with fail
    change Code.wp _ _ _ _ (((w.alloc (.cells #[.slice (some ⟨b, 0, none⟩) L cap, .int .i64 r] 30)).alloc (.cells #[.int .i64 (va : Int), .int .i64 (vs : Int)] 61)).alloc (.cells #[.slice none 0 0, .int .i64 0] 30))
    try simp only [World.size_alloc]
    obtain ⟨y, hy⟩ : ∃ y, (((w.alloc (.cells #[.slice (some ⟨b, 0, none⟩) L cap, .int .i64 r] 30)).alloc (.cells #[.int .i64 (va : Int), .int .i64 (vs : Int)] 61)).alloc (.cells #[.slice none 0 0, .int .i64 0] 30)) = y := ⟨_, rfl⟩
    obtain ⟨V, hV⟩ : ∃ V, w.heap.size = V := ⟨_, rfl⟩
    rw [hy, hV] at hst
    rw [hy, hV]
    have HS := Lib.hid hst
    have HVV := Lib.hid hV
    clear hst hy hV
    obtain ⟨⟨⟨c0, c1⟩, c2, c3⟩, c4, c5, f4, f5⟩ := HS.out.all
    go_wp2_with fail
    refine (HW.out _ HS.out.s.d).mono ?_
    rintro e w1 ⟨rfl, hb1⟩
    have HS1 := Lib.hid (HS.out.below hb1)
    clear hb1 HS c0 c1 c2 c3 c4 c5 f4 f5
    obtain ⟨⟨⟨c0, c1⟩, c2, c3⟩, c4, c5, f4, f5⟩ := HS1.out.all
    subst her
    go_wp2_with fail
    obtain ⟨z0, z1, zd, zb⟩ := HS1.out.out HS1.out.s.d (.slice (some ⟨b, 0, none⟩) L cap) (.int .i64 r)
    exact bodyPost_ret (v := .tuple #[.agg #[.slice (some ⟨b, 0, none⟩) L cap, .int .i64 r], .int .i64 3]) (by simp [results, Try.results79, go_sem, z0, z1]) rfl (HRES.out b cap _ _ rfl zd zb)
  | true =>
    have hin := wi_true g hw
    have HEA := Lib.hid (wi_in s (va := va) hin).2
    rw [HEA.out]
    have HD2 := Lib.hid (fun (y : World) (hy : DocB b (gS s) y) => dk_put (cap := cap) g (by omega) ((va : Int) + a) x (by omega) hx hy)
    have q2 : wrap64 ((va : Int) + a) = (va : Int) + a := IntWalk.wrap64_in _ ⟨by omega, by omega⟩
    obtain ⟨s2, hs2⟩ : ∃ s2, putS s ((va : Int) + a) x.data.toList = s2 := ⟨_, rfl⟩
    obtain ⟨er, her⟩ : ∃ er, thereE s.L s.es ((va : Int) + a) (x.size : Int) = er := ⟨_, rfl⟩
    rw [hs2, her, hr] at HD2
    rw [hs2, her]
    obtain ⟨L, hLL⟩ : ∃ L, (gS s).length = L := ⟨_, rfl⟩
    have hls : s.L = L := by rw [← hLL, gS_len]
    rw [hw, hls] at HW
    rw [hls] at HD2 ⊢
    clear hw hin HEA hs2 her hls g hL8 ha hxl
    have hst := RvO.start hb (cap := cap) (r := r) (va := va) (vs := vs) (w := w) hLL
    go_enter Try.func79, Try.ntmps79
    go_upto_region 1 with fail
    change Code.wp _ _ _ _ (((w.alloc (.cells #[.slice (some ⟨b, 0, none⟩) L cap, .int .i64 r] 30)).alloc (.cells #[.int .i64 (va : Int), .int .i64 (vs : Int)] 61)).alloc (.cells #[.slice none 0 0, .int .i64 0] 30))
    try simp only [World.size_alloc]
    obtain ⟨y, hy⟩ : ∃ y, (((w.alloc (.cells #[.slice (some ⟨b, 0, none⟩) L cap, .int .i64 r] 30)).alloc (.cells #[.int .i64 (va : Int), .int .i64 (vs : Int)] 61)).alloc (.cells #[.slice none 0 0, .int .i64 0] 30)) = y := ⟨_, rfl⟩
    obtain ⟨V, hV⟩ : ∃ V, w.heap.size = V := ⟨_, rfl⟩
    rw [hy, hV] at hst
    rw [hy, hV]
    have HS := Lib.hid hst
    have HVV := Lib.hid hV
    clear hst hy hV
    obtain ⟨⟨⟨c0, c1⟩, c2, c3⟩, c4, c5, f4, f5⟩ := HS.out.all
    go_wp2_with fail
    refine (HW.out _ HS.out.s.d).mono ?_
    rintro e w1 ⟨rfl, hb1⟩
    have HS1 := Lib.hid (HS.out.below hb1)
    clear hb1 HS c0 c1 c2 c3 c4 c5 f4 f5
    obtain ⟨⟨⟨c0, c1⟩, c2, c3⟩, c4, c5, f4, f5⟩ := HS1.out.all
    go_wp2_with fail
    refine (HD2.out _ HS1.out.s.d).mono ?_
    rintro e w9 ⟨b2, cap2, rfl, hd2, hb9⟩
    have HS9 := Lib.hid (HS1.out.below hb9)
    have HD9 := Lib.hid hd2
    clear hb9 hd2 c0 c1 c2 c3 c4 c5 f4 f5
    obtain ⟨⟨⟨c0, c1⟩, c2, c3⟩, c4, c5, f4, f5⟩ := HS9.out.all
    go_wp2_with fail
    obtain ⟨z0, z1, zd, zb⟩ := HS9.out.out HD9.out (.slice (some ⟨b2, 0, none⟩) s2.L cap2) (.int .i64 r)
    exact bodyPost_ret (v := .tuple #[.agg #[.slice (some ⟨b2, 0, none⟩) s2.L cap2, .int .i64 r], .int .i64 er]) (by simp [results, Try.results79, go_sem, z0, z1]) rfl ⟨b2, cap2, rfl, zd, zb⟩
set_option maxRecDepth 100000 in
theorem rv_store (g : Good s.L s.es) (hL8 : s.L ≤ 8) (hva : va ≤ 4294967296) (hvs : vs ≤ 4294967296) {r : Int} (hr : refR s = r) (a n x : Int) (ha : -9223372036854775808 ≤ a ∧ a ≤ 9223372036854775807) (hn : -9223372036854775808 ≤ n ∧ n ≤ 9223372036854775807) (hx : 0 ≤ x ∧ x < 18446744073709551616) (hb : DocB b (gS s) w) :
    Calls Try.prog 75 #[.agg #[.slice (some ⟨b, 0, none⟩) s.L cap, .int .i64 r], .agg #[.int .i64 (va : Int), .int .i64 (vs : Int)], .int .i64 a, .int .i64 n, .int .u64 x] w (DocK (storeS s (addrV va vs a n) n x) (numE s.L s.es (addrV va vs a n) n) r w) := by
  have HW := Lib.hid (fun (y : World) (hy : DocB b (gS s) y) => rv_load (cap := cap) g hL8 hva hvs r a n ha hn hy)
  obtain ⟨X0, hX0⟩ : ∃ X, ldV s (addrV va vs a n) n = X := ⟨_, rfl⟩
  rw [hX0] at HW
  clear hX0
  by_cases hw : numE s.L s.es (addrV va vs a n) n = 0
  · have hin : 0 ≤ a ∧ 0 ≤ n ∧ n ≤ (vs : Int) - a := wi_true g (by
      have : thereE s.L s.es (addrV va vs a n) n = 0 := by
        unfold numE at hw
        split at hw
        · exact hw
        · cases hw
      rw [wi_thereE] at this
      cases e : wiB s va vs a n with
      | true => rfl
      | false => rw [e] at this; cases this)
    have HEA := Lib.hid (wi_in s (va := va) hin).2
    rw [hw] at HW
    rw [HEA.out] at hw ⊢
    have HD2 := Lib.hid (fun (y : World) (hy : DocB b (gS s) y) => dk_store (cap := cap) g (by omega) ((va : Int) + a) n x (by omega) hx hy)
    have q2 : wrap64 ((va : Int) + a) = (va : Int) + a := IntWalk.wrap64_in _ ⟨by omega, by omega⟩
    obtain ⟨s2, hs2⟩ : ∃ s2, storeS s ((va : Int) + a) n x = s2 := ⟨_, rfl⟩
    obtain ⟨er, her⟩ : ∃ er, numE s.L s.es ((va : Int) + a) n = er := ⟨_, rfl⟩
    rw [hs2, her, hr] at HD2
    rw [hs2, her]
    obtain ⟨L, hLL⟩ : ∃ L, (gS s).length = L := ⟨_, rfl⟩
    have hls : s.L = L := by rw [← hLL, gS_len]
    rw [hls] at HW HD2 ⊢
    clear hw hin HEA hs2 her hls g hL8 ha hn hx
    have hst := RvO.start hb (cap := cap) (r := r) (va := va) (vs := vs) (w := w) hLL
    go_enter Try.func75, Try.ntmps75
    go_upto_region 1 with fail
    change Code.wp _ _ _ _ (((w.alloc (.cells #[.slice (some ⟨b, 0, none⟩) L cap, .int .i64 r] 30)).alloc (.cells #[.int .i64 (va : Int), .int .i64 (vs : Int)] 61)).alloc (.cells #[.slice none 0 0, .int .i64 0] 30))
    try simp only [World.size_alloc]
    obtain ⟨y, hy⟩ : ∃ y, (((w.alloc (.cells #[.slice (some ⟨b, 0, none⟩) L cap, .int .i64 r] 30)).alloc (.cells #[.int .i64 (va : Int), .int .i64 (vs : Int)] 61)).alloc (.cells #[.slice none 0 0, .int .i64 0] 30)) = y := ⟨_, rfl⟩
    obtain ⟨V, hV⟩ : ∃ V, w.heap.size = V := ⟨_, rfl⟩
    rw [hy, hV] at hst
    rw [hy, hV]
    have HS := Lib.hid hst
    have HVV := Lib.hid hV
    clear hst hy hV
    obtain ⟨⟨⟨c0, c1⟩, c2, c3⟩, c4, c5, f4, f5⟩ := HS.out.all
    go_wp2_with fail
    refine (HW.out _ HS.out.s.d).mono ?_
    rintro e w1 ⟨rfl, hb1⟩
    have HS1 := Lib.hid (HS.out.below hb1)
    clear hb1 HS c0 c1 c2 c3 c4 c5 f4 f5
    obtain ⟨⟨⟨c0, c1⟩, c2, c3⟩, c4, c5, f4, f5⟩ := HS1.out.all
    go_wp2_with fail
    refine (HD2.out _ HS1.out.s.d).mono ?_
    rintro e w9 ⟨b2, cap2, rfl, hd2, hb9⟩
    have HS9 := Lib.hid (HS1.out.below hb9)
    have HD9 := Lib.hid hd2
    clear hb9 hd2 c0 c1 c2 c3 c4 c5 f4 f5
    obtain ⟨⟨⟨c0, c1⟩, c2, c3⟩, c4, c5, f4, f5⟩ := HS9.out.all
    go_wp2_with fail
    obtain ⟨z0, z1, zd, zb⟩ := HS9.out.out HD9.out (.slice (some ⟨b2, 0, none⟩) s2.L cap2) (.int .i64 r)
    exact bodyPost_ret (v := .tuple #[.agg #[.slice (some ⟨b2, 0, none⟩) s2.L cap2, .int .i64 r], .int .i64 er]) (by simp [results, Try.results75, go_sem, z0, z1]) rfl ⟨b2, cap2, rfl, zd, zb⟩
  · have hst0 : storeS s (addrV va vs a n) n x = s := by unfold storeS; rw [if_neg hw]
    obtain ⟨er, her⟩ : ∃ er, numE s.L s.es (addrV va vs a n) n = er := ⟨_, rfl⟩
    have hne : (er != 0) = true := by rw [← her, bne_iff_ne]; exact hw
    rw [her] at HW
    rw [her]
    obtain ⟨L, hLL⟩ : ∃ L, (gS s).length = L := ⟨_, rfl⟩
    have hls : s.L = L := by rw [← hLL, gS_len]
    have HRES : Hid (∀ (b2 cap2 : Nat) (e : Ending) (w' : World), e = .returned (.tuple #[.agg #[.slice (some ⟨b2, 0, none⟩) L cap2, .int .i64 r], .int .i64 er]) → DocB b2 (gS s) w' → Below w.heap.size w w' → DocK (storeS s (addrV va vs a n) n x) er r w e w') := Lib.hid (fun b2 cap2 e w' h1 h2 h3 => by rw [hst0]; exact ⟨b2, cap2, by rw [hls]; exact h1, h2, h3⟩)
    rw [hls] at HW
    rw [hls]
    clear hw hst0 hls g hL8 ha hn hx her
    have hst := RvO.start hb (cap := cap) (r := r) (va := va) (vs := vs) (w := w) hLL
    go_enter Try.func75, Try.ntmps75
    go_upto_region 1 with fail
    change Code.wp _ _ _ _ (((w.alloc (.cells #[.slice (some ⟨b, 0, none⟩) L cap, .int .i64 r] 30)).alloc (.cells #[.int .i64 (va : Int), .int .i64 (vs : Int)] 61)).alloc (.cells #[.slice none 0 0, .int .i64 0] 30))
    try simp only [World.size_alloc]
    obtain ⟨y, hy⟩ : ∃ y, (((w.alloc (.cells #[.slice (some ⟨b, 0, none⟩) L cap, .int .i64 r] 30)).alloc (.cells #[.int .i64 (va : Int), .int .i64 (vs : Int)] 61)).alloc (.cells #[.slice none 0 0, .int .i64 0] 30)) = y := ⟨_, rfl⟩
    obtain ⟨V, hV⟩ : ∃ V, w.heap.size = V := ⟨_, rfl⟩
    rw [hy, hV] at hst
    rw [hy, hV]
    have HS := Lib.hid hst
    have HVV := Lib.hid hV
    clear hst hy hV
    obtain ⟨⟨⟨c0, c1⟩, c2, c3⟩, c4, c5, f4, f5⟩ := HS.out.all
    go_wp2_with fail
    refine (HW.out _ HS.out.s.d).mono ?_
    rintro e w1 ⟨rfl, hb1⟩
    have HS1 := Lib.hid (HS.out.below hb1)
    clear hb1 HS c0 c1 c2 c3 c4 c5 f4 f5
    obtain ⟨⟨⟨c0, c1⟩, c2, c3⟩, c4, c5, f4, f5⟩ := HS1.out.all
    go_wp2_with fail
    obtain ⟨z0, z1, zd, zb⟩ := HS1.out.out HS1.out.s.d (.slice (some ⟨b, 0, none⟩) L cap) (.int .i64 r)
    exact bodyPost_ret (v := .tuple #[.agg #[.slice (some ⟨b, 0, none⟩) L cap, .int .i64 r], .int .i64 er]) (by simp [results, Try.results75, go_sem, z0, z1]) rfl (HRES.out b cap _ _ rfl zd zb)
set_option maxRecDepth 100000 in
theorem rv_copy (g : Good s.L s.es) (hL8 : s.L ≤ 8) (hva : va ≤ 4294967296) (hvs : vs ≤ 4294967296) {r : Int} (hr : refR s = r) (t a n : Int) (ht : -9223372036854775808 ≤ t ∧ t ≤ 9223372036854775807) (ha : -9223372036854775808 ≤ a ∧ a ≤ 9223372036854775807) (hn : -9223372036854775808 ≤ n ∧ n ≤ 9223372036854775807) (hb : DocB b (gS s) w) :
    Calls Try.prog 83 #[.agg #[.slice (some ⟨b, 0, none⟩) s.L cap, .int .i64 r], .agg #[.int .i64 (va : Int), .int .i64 (vs : Int)], .int .i64 t, .int .i64 a, .int .i64 n] w (DocK (copyS s (addrV va vs t n) (addrV va vs a n) n) (copyE s (addrV va vs t n) (addrV va vs a n) n) r w) := by
  have HW := Lib.hid (fun (y : World) (hy : DocB b (gS s) y) => rv_within (cap := cap) g hL8 hva hvs r a n ha hn hy)
  have HW2 := Lib.hid (fun (y : World) (hy : DocB b (gS s) y) => rv_within (cap := cap) g hL8 hva hvs r t n ht hn hy)
  cases hw : wiB s va vs a n with
  | false =>
    have hE3 : copyE s (addrV va vs t n) (addrV va vs a n) n = 3 := by
      have h3 : thereE s.L s.es (addrV va vs a n) n = 3 := by rw [wi_thereE, hw]; rfl
      unfold copyE
      by_cases k : thereE s.L s.es (addrV va vs t n) n = 0
      · rw [if_neg (by omega)]
        by_cases k2 : addrV va vs t n = addrV va vs a n
        · rw [k2, h3] at k; cases k
        · rw [if_neg k2, h3]
      · rw [if_pos k]
    have hst0 : copyS s (addrV va vs t n) (addrV va vs a n) n = s := by unfold copyS; rw [hE3, if_neg (by decide)]
    obtain ⟨er, her⟩ : ∃ er : Int, er = 3 := ⟨_, rfl⟩
    replace hE3 := hE3.trans her.symm
    rw [hE3]
    obtain ⟨L, hLL⟩ : ∃ L, (gS s).length = L := ⟨_, rfl⟩
    have hls : s.L = L := by rw [← hLL, gS_len]
    have HRES : Hid (∀ (b2 cap2 : Nat) (e : Ending) (w' : World), e = .returned (.tuple #[.agg #[.slice (some ⟨b2, 0, none⟩) L cap2, .int .i64 r], .int .i64 er]) → DocB b2 (gS s) w' → Below w.heap.size w w' → DocK (copyS s (addrV va vs t n) (addrV va vs a n) n) er r w e w') := Lib.hid (fun b2 cap2 e w' h1 h2 h3 => by rw [hst0]; exact ⟨b2, cap2, by rw [hls]; exact h1, h2, h3⟩)
    rw [hw, hls] at HW
    rw [hls]
    clear hw hE3 hst0 hls g hL8 ha hn ht HW2
    have hst := RvO.start hb (cap := cap) (r := r) (va := va) (vs := vs) (w := w) hLL
    go_enter Try.func83, Try.ntmps83
    go_upto_region 1 with fail
    change Code.wp _ _ _ _ (((w.alloc (.cells #[.slice (some ⟨b, 0, none⟩) L cap, .int .i64 r] 30)).alloc (.cells #[.int .i64 (va : Int), .int .i64 (vs : Int)] 61)).alloc (.cells #[.slice none 0 0, .int .i64 0] 30))
    try simp only [World.size_alloc]
    obtain ⟨y, hy⟩ : ∃ y, (((w.alloc (.cells #[.slice (some ⟨b, 0, none⟩) L cap, .int .i64 r] 30)).alloc (.cells #[.int .i64 (va : Int), .int .i64 (vs : Int)] 61)).alloc (.cells #[.slice none 0 0, .int .i64 0] 30)) = y := ⟨_, rfl⟩
    obtain ⟨V, hV⟩ : ∃ V, w.heap.size = V := ⟨_, rfl⟩
    rw [hy, hV] at hst
    rw [hy, hV]
    have HS := Lib.hid hst
    have HVV := Lib.hid hV
    clear hst hy hV
    obtain ⟨⟨⟨c0, c1⟩, c2, c3⟩, c4, c5, f4, f5⟩ := HS.out.all
    go_wp2_with fail
    refine (HW.out _ HS.out.s.d).mono ?_
    rintro e wHS1 ⟨rfl, hb1⟩
    have HS1 := Lib.hid (HS.out.below hb1)
    clear hb1 HS c0 c1 c2 c3 c4 c5 f4 f5
    obtain ⟨⟨⟨c0, c1⟩, c2, c3⟩, c4, c5, f4, f5⟩ := HS1.out.all
    subst her
    go_wp2_with fail
    obtain ⟨z0, z1, zd, zb⟩ := HS1.out.out HS1.out.s.d (.slice (some ⟨b, 0, none⟩) L cap) (.int .i64 r)
    exact bodyPost_ret (v := .tuple #[.agg #[.slice (some ⟨b, 0, none⟩) L cap, .int .i64 r], .int .i64 3]) (by simp [results, Try.results83, go_sem, z0, z1]) rfl (HRES.out b cap _ _ rfl zd zb)
  | true =>
    cases hw2 : wiB s va vs t n with
    | false =>
      have hE3 : copyE s (addrV va vs t n) (addrV va vs a n) n = 3 := by
        have h3 : thereE s.L s.es (addrV va vs t n) n = 3 := by rw [wi_thereE, hw2]; rfl
        unfold copyE
        rw [h3, if_pos (by decide)]
      have hst0 : copyS s (addrV va vs t n) (addrV va vs a n) n = s := by unfold copyS; rw [hE3, if_neg (by decide)]
      obtain ⟨er, her⟩ : ∃ er : Int, er = 3 := ⟨_, rfl⟩
      replace hE3 := hE3.trans her.symm
      rw [hE3]
      obtain ⟨L, hLL⟩ : ∃ L, (gS s).length = L := ⟨_, rfl⟩
      have hls : s.L = L := by rw [← hLL, gS_len]
      have HRES : Hid (∀ (b2 cap2 : Nat) (e : Ending) (w' : World), e = .returned (.tuple #[.agg #[.slice (some ⟨b2, 0, none⟩) L cap2, .int .i64 r], .int .i64 er]) → DocB b2 (gS s) w' → Below w.heap.size w w' → DocK (copyS s (addrV va vs t n) (addrV va vs a n) n) er r w e w') := Lib.hid (fun b2 cap2 e w' h1 h2 h3 => by rw [hst0]; exact ⟨b2, cap2, by rw [hls]; exact h1, h2, h3⟩)
      rw [hw, hls] at HW
      rw [hw2, hls] at HW2
      rw [hls]
      clear hw hw2 hE3 hst0 hls g hL8 ha hn ht
      have hst := RvO.start hb (cap := cap) (r := r) (va := va) (vs := vs) (w := w) hLL
      go_enter Try.func83, Try.ntmps83
      go_upto_region 1 with fail
      change Code.wp _ _ _ _ (((w.alloc (.cells #[.slice (some ⟨b, 0, none⟩) L cap, .int .i64 r] 30)).alloc (.cells #[.int .i64 (va : Int), .int .i64 (vs : Int)] 61)).alloc (.cells #[.slice none 0 0, .int .i64 0] 30))
      try simp only [World.size_alloc]
      obtain ⟨y, hy⟩ : ∃ y, (((w.alloc (.cells #[.slice (some ⟨b, 0, none⟩) L cap, .int .i64 r] 30)).alloc (.cells #[.int .i64 (va : Int), .int .i64 (vs : Int)] 61)).alloc (.cells #[.slice none 0 0, .int .i64 0] 30)) = y := ⟨_, rfl⟩
      obtain ⟨V, hV⟩ : ∃ V, w.heap.size = V := ⟨_, rfl⟩
      rw [hy, hV] at hst
      rw [hy, hV]
      have HS := Lib.hid hst
      have HVV := Lib.hid hV
      clear hst hy hV
      obtain ⟨⟨⟨c0, c1⟩, c2, c3⟩, c4, c5, f4, f5⟩ := HS.out.all
      go_wp2_with fail
      refine (HW.out _ HS.out.s.d).mono ?_
      rintro e wHS1 ⟨rfl, hb1⟩
      have HS1 := Lib.hid (HS.out.below hb1)
      clear hb1 HS c0 c1 c2 c3 c4 c5 f4 f5
      obtain ⟨⟨⟨c0, c1⟩, c2, c3⟩, c4, c5, f4, f5⟩ := HS1.out.all
      go_wp2_with fail
      refine (HW2.out _ HS1.out.s.d).mono ?_
      rintro e wHS2 ⟨rfl, hb1⟩
      have HS2 := Lib.hid (HS1.out.below hb1)
      clear hb1 HS1 c0 c1 c2 c3 c4 c5 f4 f5
      obtain ⟨⟨⟨c0, c1⟩, c2, c3⟩, c4, c5, f4, f5⟩ := HS2.out.all
      subst her
      go_wp2_with fail
      obtain ⟨z0, z1, zd, zb⟩ := HS2.out.out HS2.out.s.d (.slice (some ⟨b, 0, none⟩) L cap) (.int .i64 r)
      exact bodyPost_ret (v := .tuple #[.agg #[.slice (some ⟨b, 0, none⟩) L cap, .int .i64 r], .int .i64 3]) (by simp [results, Try.results83, go_sem, z0, z1]) rfl (HRES.out b cap _ _ rfl zd zb)
    | true =>
      have hin := wi_true g hw
      have hin2 := wi_true g hw2
      have HEA := Lib.hid (wi_in s (va := va) hin).2
      have HEA2 := Lib.hid (wi_in s (va := va) hin2).2
      rw [HEA.out, HEA2.out]
      have HD2 := Lib.hid (fun (y : World) (hy : DocB b (gS s) y) => dk_copy (cap := cap) g (by omega) ((va : Int) + t) ((va : Int) + a) n (by omega) (by omega) hn hy)
      have q2 : wrap64 ((va : Int) + a) = (va : Int) + a := IntWalk.wrap64_in _ ⟨by omega, by omega⟩
      have q3 : wrap64 ((va : Int) + t) = (va : Int) + t := IntWalk.wrap64_in _ ⟨by omega, by omega⟩
      obtain ⟨s2, hs2⟩ : ∃ s2, copyS s ((va : Int) + t) ((va : Int) + a) n = s2 := ⟨_, rfl⟩
      obtain ⟨er, her⟩ : ∃ er, copyE s ((va : Int) + t) ((va : Int) + a) n = er := ⟨_, rfl⟩
      rw [hs2, her, hr] at HD2
      rw [hs2, her]
      obtain ⟨L, hLL⟩ : ∃ L, (gS s).length = L := ⟨_, rfl⟩
      have hls : s.L = L := by rw [← hLL, gS_len]
      rw [hw, hls] at HW
      rw [hw2, hls] at HW2
      rw [hls] at HD2 ⊢
      clear hw hw2 hin hin2 HEA HEA2 hs2 her hls g hL8 ha hn ht
      have hst := RvO.start hb (cap := cap) (r := r) (va := va) (vs := vs) (w := w) hLL
      go_enter Try.func83, Try.ntmps83
      go_upto_region 1 with fail
      change Code.wp _ _ _ _ (((w.alloc (.cells #[.slice (some ⟨b, 0, none⟩) L cap, .int .i64 r] 30)).alloc (.cells #[.int .i64 (va : Int), .int .i64 (vs : Int)] 61)).alloc (.cells #[.slice none 0 0, .int .i64 0] 30))
      try simp only [World.size_alloc]
      obtain ⟨y, hy⟩ : ∃ y, (((w.alloc (.cells #[.slice (some ⟨b, 0, none⟩) L cap, .int .i64 r] 30)).alloc (.cells #[.int .i64 (va : Int), .int .i64 (vs : Int)] 61)).alloc (.cells #[.slice none 0 0, .int .i64 0] 30)) = y := ⟨_, rfl⟩
      obtain ⟨V, hV⟩ : ∃ V, w.heap.size = V := ⟨_, rfl⟩
      rw [hy, hV] at hst
      rw [hy, hV]
      have HS := Lib.hid hst
      have HVV := Lib.hid hV
      clear hst hy hV
      obtain ⟨⟨⟨c0, c1⟩, c2, c3⟩, c4, c5, f4, f5⟩ := HS.out.all
      go_wp2_with fail
      refine (HW.out _ HS.out.s.d).mono ?_
      rintro e wHS1 ⟨rfl, hb1⟩
      have HS1 := Lib.hid (HS.out.below hb1)
      clear hb1 HS c0 c1 c2 c3 c4 c5 f4 f5
      obtain ⟨⟨⟨c0, c1⟩, c2, c3⟩, c4, c5, f4, f5⟩ := HS1.out.all
      go_wp2_with fail
      refine (HW2.out _ HS1.out.s.d).mono ?_
      rintro e wHS2 ⟨rfl, hb1⟩
      have HS2 := Lib.hid (HS1.out.below hb1)
      clear hb1 HS1 c0 c1 c2 c3 c4 c5 f4 f5
      obtain ⟨⟨⟨c0, c1⟩, c2, c3⟩, c4, c5, f4, f5⟩ := HS2.out.all
      go_wp2_with fail
      refine (HD2.out _ HS2.out.s.d).mono ?_
      rintro e w9 ⟨b2, cap2, rfl, hd2, hb9⟩
      have HS9 := Lib.hid (HS2.out.below hb9)
      have HD9 := Lib.hid hd2
      clear hb9 hd2 c0 c1 c2 c3 c4 c5 f4 f5
      obtain ⟨⟨⟨c0, c1⟩, c2, c3⟩, c4, c5, f4, f5⟩ := HS9.out.all
      go_wp2_with fail
      obtain ⟨z0, z1, zd, zb⟩ := HS9.out.out HD9.out (.slice (some ⟨b2, 0, none⟩) s2.L cap2) (.int .i64 r)
      exact bodyPost_ret (v := .tuple #[.agg #[.slice (some ⟨b2, 0, none⟩) s2.L cap2, .int .i64 r], .int .i64 er]) (by simp [results, Try.results83, go_sem, z0, z1]) rfl ⟨b2, cap2, rfl, zd, zb⟩end
end Go.Proofs.Ytdmaendhkenmgaa.Bt
/- law04's do: the statement's world. (Written by gen_dve.py.) -/
namespace Go.Proofs.Ytdmaendhkenmgaa.Bt
open Go Go.RowKit Go.Shelf
set_option linter.unusedVariables false
set_option linter.unusedSimpArgs false

/-- the statement's arena with a view of it, and the document's (the program's in state s, the document's in state t), and the act -/
structure DvS (Wb E A b cap va vs : Nat) (s t : ASt) (d at_ fr n x : Int) (S : ByteArray) (w0 X : World) : Prop where
  w : X.heap[Wb]? = some (.cells #[.pointer (some ⟨A, 0, none⟩), .pointer (some ⟨A, 0, none⟩), .int .i64 (va : Int), .int .i64 (vs : Int), .slice (some ⟨b, 0, none⟩) t.L cap, .int .i64 (refR t), .int .i64 (va : Int), .int .i64 (vs : Int)] 63 (0, 0))
  e : X.heap[E]? = some (.cells #[.int .u8 d, .int .i64 at_, .int .i64 fr, .int .i64 n, .int .u64 x, .string S] 36 (0, 0))
  x : On A s X
  d : DocB b (gS t) X
  m : Mine A Wb X
  bs : Base A w0 X
  ws : w0.heap.size ≤ Wb
  ne : E ≠ Wb
  hva : va ≤ 4294967296
  hvs : vs ≤ 4294967296
section
variable {Wb E A b cap va vs : Nat} {s t : ASt} {d at_ fr n x : Int} {S : ByteArray} {w0 X Y : World}
theorem DvS.below (h : DvS Wb E A b cap va vs s t d at_ fr n x S w0 X) (hb : Below X.heap.size X Y) : DvS Wb E A b cap va vs s t d at_ fr n x S w0 Y :=
  ⟨blk_at hb h.w, blk_at hb h.e, h.x.below hb, h.d.below hb, h.m.went (Went.of_below h.x hb), h.bs.below h.x hb, h.ws, h.ne, h.hva, h.hvs⟩
theorem DvS.went {s' : ASt} (h : DvS Wb E A b cap va vs s t d at_ fr n x S w0 X) (hx : On A s' Y) (hg : Went A X Y) : DvS Wb E A b cap va vs s' t d at_ fr n x S w0 Y :=
  ⟨hg.keep h.x h.w (by decide) (by decide) (by decide), hg.keep h.x h.e (by decide) (by decide) (by decide), hx, hg.keep h.x h.d (by decide) (by decide) (by decide), h.m.went hg, h.bs.went hg, h.ws, h.ne, h.hva, h.hvs⟩
/-- another arena of the document's stored -/
theorem DvS.put {t' : ASt} (h : DvS Wb E A b cap va vs s t d at_ fr n x S w0 X) {b2 cap2 : Nat} (hd : DocB b2 (gS t') X) : DvS Wb E A b2 cap2 va vs s t' d at_ fr n x S w0 ((X.setCell ⟨Wb, 4, none⟩ (.slice (some ⟨b2, 0, none⟩) t'.L cap2)).setCell ⟨Wb, 5, none⟩ (.int .i64 (refR t'))) := by
  have hne : b2 ≠ Wb := heap_neD hd h.w (by decide)
  have h1 := h.x.set h.m 4 (.slice (some ⟨b2, 0, none⟩) t'.L cap2)
  have m1 := Mine.set h.x h.m h.m 4 (.slice (some ⟨b2, 0, none⟩) t'.L cap2)
  have k1 := h.bs.set h.x h.m h.ws 4 (.slice (some ⟨b2, 0, none⟩) t'.L cap2)
  exact ⟨heap_set (heap_set h.w _) _, ((heap_far_one h.ne _).trans (heap_far_one h.ne _)).trans h.e, h1.set m1 5 _, ((heap_far_one hne _).trans (heap_far_one hne _)).trans hd, Mine.set h1 m1 m1 5 _, k1.set h1 m1 h.ws 5 _, h.ws, h.ne, h.hva, h.hvs⟩
theorem DvS.all (h : DvS Wb E A b cap va vs s t d at_ fr n x S w0 X) :
    (X.cell? ⟨Wb, 0, none⟩ = some (.pointer (some ⟨A, 0, none⟩)) ∧ X.cell? ⟨Wb, 1, none⟩ = some (.pointer (some ⟨A, 0, none⟩)) ∧ X.cell? ⟨Wb, 2, none⟩ = some (.int .i64 (va : Int)) ∧ X.cell? ⟨Wb, 3, none⟩ = some (.int .i64 (vs : Int)) ∧ X.cell? ⟨Wb, 4, none⟩ = some (.slice (some ⟨b, 0, none⟩) t.L cap) ∧ X.cell? ⟨Wb, 5, none⟩ = some (.int .i64 (refR t)) ∧ X.cell? ⟨Wb, 6, none⟩ = some (.int .i64 (va : Int)) ∧ X.cell? ⟨Wb, 7, none⟩ = some (.int .i64 (vs : Int))) ∧
    (X.cell? ⟨E, 0, none⟩ = some (.int .u8 d) ∧ X.cell? ⟨E, 1, none⟩ = some (.int .i64 at_) ∧ X.cell? ⟨E, 2, none⟩ = some (.int .i64 fr) ∧ X.cell? ⟨E, 3, none⟩ = some (.int .i64 n) ∧ X.cell? ⟨E, 4, none⟩ = some (.int .u64 x) ∧ X.cell? ⟨E, 5, none⟩ = some (.string S)) ∧
    X.frozen? ⟨Wb, 4, none⟩ = false ∧ X.frozen? ⟨Wb, 5, none⟩ = false :=
  ⟨⟨(cell_blk h.w 0).1, (cell_blk h.w 1).1, (cell_blk h.w 2).1, (cell_blk h.w 3).1, (cell_blk h.w 4).1, (cell_blk h.w 5).1, (cell_blk h.w 6).1, (cell_blk h.w 7).1⟩, ⟨(cell_blk h.e 0).1, (cell_blk h.e 1).1, (cell_blk h.e 2).1, (cell_blk h.e 3).1, (cell_blk h.e 4).1, (cell_blk h.e 5).1⟩, (cell_blk h.w 4).2, (cell_blk h.w 5).2⟩
theorem DvS.dd (h : DvS Wb E A b cap va vs s t d at_ fr n x S w0 X) : (fun X => (X.cell? ⟨E, 0, none⟩ = some (.int .u8 d) ∧ X.cell? ⟨E, 1, none⟩ = some (.int .i64 at_) ∧ X.cell? ⟨E, 2, none⟩ = some (.int .i64 fr) ∧ X.cell? ⟨E, 3, none⟩ = some (.int .i64 n) ∧ X.cell? ⟨E, 4, none⟩ = some (.int .u64 x) ∧ X.cell? ⟨E, 5, none⟩ = some (.string S)) ∧ X.cell? ⟨Wb, 6, none⟩ = some (.int .i64 (va : Int)) ∧ X.cell? ⟨Wb, 7, none⟩ = some (.int .i64 (vs : Int))) X := ⟨h.all.2.1, h.all.1.2.2.2.2.2.2.1, h.all.1.2.2.2.2.2.2.2⟩
structure DvW (Wb A b cap va vs : Nat) (t : ASt) (w0 X : World) : Prop where
  w : X.heap[Wb]? = some (.cells #[.pointer (some ⟨A, 0, none⟩), .pointer (some ⟨A, 0, none⟩), .int .i64 (va : Int), .int .i64 (vs : Int), .slice (some ⟨b, 0, none⟩) t.L cap, .int .i64 (refR t), .int .i64 (va : Int), .int .i64 (vs : Int)] 63 (0, 0))
  x : On A t X
  d : DocB b (gS t) X
  m : Mine A Wb X
  bs : Base A w0 X
  ws : w0.heap.size ≤ Wb
  hva : va ≤ 4294967296
  hvs : vs ≤ 4294967296
theorem DvW.start {o : Obj} (h : DvW Wb A b cap va vs s w0 X) (hE : (X.alloc o).heap[X.heap.size]? = some (.cells #[.int .u8 d, .int .i64 at_, .int .i64 fr, .int .i64 n, .int .u64 x, .string S] 36 (0, 0))) (hb : Below X.heap.size X (X.alloc o)) :
    DvS Wb X.heap.size A b cap va vs s s d at_ fr n x S w0 (X.alloc o) :=
  ⟨blk_at hb h.w, hE, h.x.below hb, h.d.below hb, h.m.went (Went.of_below h.x hb), h.bs.below h.x hb, h.ws, by have := h.m.lt; omega, h.hva, h.hvs⟩
theorem DvS.fin (h : DvS Wb E A b cap va vs s s d at_ fr n x S w0 X) : DvW Wb A b cap va vs s w0 X := ⟨h.w, h.x, h.d, h.m, h.bs, h.ws, h.hva, h.hvs⟩
end
def DvP (Wb A L : Nat) (w0 : World) (e : Ending) (w' : World) : Prop := ∃ b cap va vs s, e = .returned (.bool true) ∧ s.L = L ∧ DvW Wb A b cap va vs s w0 w'
theorem dk_decommit {s : ASt} {b cap : Nat} {w : World} (g : Good s.L s.es) (hL : s.L ≤ 1048576) (a n : Int) (ha : -9223372036854775808 ≤ a ∧ a ≤ 9223372036854775807) (hn : -9223372036854775808 ≤ n ∧ n ≤ 9223372036854775807) (hb : DocB b (gS s) w) :
    Calls Try.prog 49 #[.agg #[.slice (some ⟨b, 0, none⟩) s.L cap, .int .i64 (refR s)], .int .i64 a, .int .i64 n] w (DocK (decS s a n) (decE s a n) (refR s) w) := by
  have h := ddecommit_any (cap := cap) (by rw [gS_len]; exact hL) (refR s) a n hb (by omega) (by omega)
  rw [gS_len, wrong_dec, dec_all g] at h
  refine h.mono ?_
  rintro e w' ⟨b2, cap2, h1, h2, h3⟩
  have hl : (decS s a n).L = s.L := by unfold decS; split <;> rfl
  exact ⟨b2, cap2, by rw [h1, gS_len], h2, h3⟩
end Go.Proofs.Ytdmaendhkenmgaa.Bt
/- law04's do: Decommit. (Written by gen_dve.py.) -/
namespace Go.Proofs.Ytdmaendhkenmgaa.Bt
open Go Go.RowKit Go.Shelf
set_option linter.unusedVariables false
set_option linter.unusedSimpArgs false

set_option maxHeartbeats 8000000 in
set_option maxRecDepth 100000 in
theorem dvo_decommit {Wb A b cap va vs : Nat} {s : ASt} {d at_ fr n x : Int} {S : ByteArray} {w0 w : World} (h : DvW Wb A b cap va vs s w0 w) (hL : s.L ≤ 8) (hd : d.tmod 10 = 1) (hd0 : 0 ≤ d ∧ d ≤ 255) (ha : -9223372036854775808 ≤ at_ ∧ at_ ≤ 9223372036854775807) (hf : -9223372036854775808 ≤ fr ∧ fr ≤ 9223372036854775807) (hn : -9223372036854775808 ≤ n ∧ n ≤ 9223372036854775807) (hx : 0 ≤ x ∧ x < 18446744073709551616) (hS : S.size ≤ 9223372036854775807) :
    Calls Try.prog 28 #[.pointer (some ⟨Wb, 0, none⟩), .agg #[.int .u8 d, .int .i64 at_, .int .i64 fr, .int .i64 n, .int .u64 x, .string S]] w (DvP Wb A s.L w0) := by
  obtain ⟨s', hs'⟩ : ∃ s', decS s at_ n = s' := ⟨_, rfl⟩
  obtain ⟨er, her⟩ : ∃ er, decE s at_ n = er := ⟨_, rfl⟩
  have hv1 := h.hva
  have hv2 := h.hvs
  have HPC := Lib.hid (fun (y : World) (hy : On A s y) => on_decommit hy at_ n (by omega))
  have HDC := Lib.hid (fun (y : World) (hy : DocB b (gS s) y) => dk_decommit (cap := cap) h.x.good (by omega) at_ n ha hn hy)
  rw [hs', her] at HPC HDC
  have HSL : Hid (s'.L = s.L) := Lib.hid (by rw [← hs']; unfold decS; split <;> rfl)
  have HRS : Hid (refR s' = refR s) := Lib.hid (by rw [← hs']; unfold decS; split <;> rfl)
  clear hs' her hf hn hx hS hv1 hv2
  have hE := heap_new w (.cells #[.int .u8 d, .int .i64 at_, .int .i64 fr, .int .i64 n, .int .u64 x, .string S] 36)
  have hb0 := bel1 w (.cells #[.int .u8 d, .int .i64 at_, .int .i64 fr, .int .i64 n, .int .u64 x, .string S] 36)
  have hds := h.start hE hb0
  clear hE hb0
  go_enter Try.func28, Try.ntmps28
  go_upto_region 1 with fail
  change Code.wp _ _ _ _ (w.alloc (.cells #[.int .u8 d, .int .i64 at_, .int .i64 fr, .int .i64 n, .int .u64 x, .string S] 36))
  obtain ⟨y, hy⟩ : ∃ y, w.alloc (.cells #[.int .u8 d, .int .i64 at_, .int .i64 fr, .int .i64 n, .int .u64 x, .string S] 36) = y := ⟨_, rfl⟩
  obtain ⟨E, hEE⟩ : ∃ E, w.heap.size = E := ⟨_, rfl⟩
  rw [hy, hEE] at hds
  rw [hy, hEE]
  have H := Lib.hid hds
  clear hy hEE hds
  obtain ⟨⟨s1, s2, s3, s4, s5, s6, s7, s8⟩, ⟨t1, t2, t3, t4, t5, t6⟩, f4, f5⟩ := H.out.all
  go_upto_region 14 with fail
  have hS0 := H.out.below (Below.refl y.heap.size y).drew
  clear H s1 s2 s3 s4 s5 s6 s7 s8 t1 t2 t3 t4 t5 t6 f4 f5
  refine wp_region_held_drew (S := fun X => ∃ s', DvS Wb E A b cap va vs s' s d at_ fr n x S w0 X) (by kernel_rfl) ⟨_, hS0⟩ (fun hHeld => ?_)
  refine wpAnyH_take (i := 0) (v := (.pointer (some ⟨Wb, 0, none⟩))) rfl (by kernel_rfl) (by kernel_rfl) (by kernel_rfl) (fun _ _ _ h => h) (Or.inl ⟨by rfl, fun X hS => ?_⟩) hHeld ?_
  · obtain ⟨s9x, hs9x⟩ := hS
    obtain ⟨⟨s1, s2, s3, s4, s5, s6, s7, s8⟩, ⟨t1, t2, t3, t4, t5, t6⟩, f4, f5⟩ := hs9x.all
    go_simp
  try simp only [Act.put, List.getElem_toArray, List.getElem_cons_zero, List.getElem_cons_succ, List.setIfInBounds_toArray, List.set_cons_zero, List.set_cons_succ]
  refine wpAnyH_take (i := 1) (v := (.pointer (some ⟨Wb, 0, none⟩))) rfl (by kernel_rfl) (by kernel_rfl) (by kernel_rfl) (fun _ _ _ h => h) (Or.inl ⟨by rfl, fun X hS => ?_⟩) hHeld ?_
  · obtain ⟨s9x, hs9x⟩ := hS
    obtain ⟨⟨s1, s2, s3, s4, s5, s6, s7, s8⟩, ⟨t1, t2, t3, t4, t5, t6⟩, f4, f5⟩ := hs9x.all
    go_simp
  try simp only [Act.put, List.getElem_toArray, List.getElem_cons_zero, List.getElem_cons_succ, List.setIfInBounds_toArray, List.set_cons_zero, List.set_cons_succ]
  refine wpAnyH_take (i := 2) (v := (.pointer (some ⟨Wb, 1, none⟩))) rfl (by kernel_rfl) (by kernel_rfl) (by kernel_rfl) (fun _ _ _ h => h) (Or.inl ⟨by rfl, fun X hS => ?_⟩) hHeld ?_
  · obtain ⟨s9x, hs9x⟩ := hS
    obtain ⟨⟨s1, s2, s3, s4, s5, s6, s7, s8⟩, ⟨t1, t2, t3, t4, t5, t6⟩, f4, f5⟩ := hs9x.all
    go_simp
  try simp only [Act.put, List.getElem_toArray, List.getElem_cons_zero, List.getElem_cons_succ, List.setIfInBounds_toArray, List.set_cons_zero, List.set_cons_succ]
  refine wpAnyH_take (i := 3) (v := (.pointer (some ⟨Wb, 1, none⟩))) rfl (by kernel_rfl) (by kernel_rfl) (by kernel_rfl) (fun _ _ _ h => h) (Or.inl ⟨by rfl, fun X hS => ?_⟩) hHeld ?_
  · obtain ⟨s9x, hs9x⟩ := hS
    obtain ⟨⟨s1, s2, s3, s4, s5, s6, s7, s8⟩, ⟨t1, t2, t3, t4, t5, t6⟩, f4, f5⟩ := hs9x.all
    go_simp
  try simp only [Act.put, List.getElem_toArray, List.getElem_cons_zero, List.getElem_cons_succ, List.setIfInBounds_toArray, List.set_cons_zero, List.set_cons_succ]
  refine wpAnyH_take (i := 4) (v := (.pointer (some ⟨A, 0, none⟩))) rfl (by kernel_rfl) (by kernel_rfl) (by kernel_rfl) (fun _ _ _ h => h) (Or.inl ⟨by rfl, fun X hS => ?_⟩) hHeld ?_
  · obtain ⟨s9x, hs9x⟩ := hS
    obtain ⟨⟨s1, s2, s3, s4, s5, s6, s7, s8⟩, ⟨t1, t2, t3, t4, t5, t6⟩, f4, f5⟩ := hs9x.all
    go_simp
  try simp only [Act.put, List.getElem_toArray, List.getElem_cons_zero, List.getElem_cons_succ, List.setIfInBounds_toArray, List.set_cons_zero, List.set_cons_succ]
  refine wpAnyH_take (i := 5) (v := (.pointer (some ⟨E, 1, none⟩))) rfl (by kernel_rfl) (by kernel_rfl) (by kernel_rfl) (fun _ _ _ h => h) (Or.inl ⟨by rfl, fun X hS => ?_⟩) hHeld ?_
  · obtain ⟨s9x, hs9x⟩ := hS
    obtain ⟨⟨s1, s2, s3, s4, s5, s6, s7, s8⟩, ⟨t1, t2, t3, t4, t5, t6⟩, f4, f5⟩ := hs9x.all
    go_simp
  try simp only [Act.put, List.getElem_toArray, List.getElem_cons_zero, List.getElem_cons_succ, List.setIfInBounds_toArray, List.set_cons_zero, List.set_cons_succ]
  refine wpAnyH_take (i := 6) (v := (.int .i64 at_)) rfl (by kernel_rfl) (by kernel_rfl) (by kernel_rfl) (fun _ _ _ h => h) (Or.inl ⟨by rfl, fun X hS => ?_⟩) hHeld ?_
  · obtain ⟨s9x, hs9x⟩ := hS
    obtain ⟨⟨s1, s2, s3, s4, s5, s6, s7, s8⟩, ⟨t1, t2, t3, t4, t5, t6⟩, f4, f5⟩ := hs9x.all
    go_simp
  try simp only [Act.put, List.getElem_toArray, List.getElem_cons_zero, List.getElem_cons_succ, List.setIfInBounds_toArray, List.set_cons_zero, List.set_cons_succ]
  refine wpAnyH_take (i := 7) (v := (.pointer (some ⟨E, 3, none⟩))) rfl (by kernel_rfl) (by kernel_rfl) (by kernel_rfl) (fun _ _ _ h => h) (Or.inl ⟨by rfl, fun X hS => ?_⟩) hHeld ?_
  · obtain ⟨s9x, hs9x⟩ := hS
    obtain ⟨⟨s1, s2, s3, s4, s5, s6, s7, s8⟩, ⟨t1, t2, t3, t4, t5, t6⟩, f4, f5⟩ := hs9x.all
    go_simp
  try simp only [Act.put, List.getElem_toArray, List.getElem_cons_zero, List.getElem_cons_succ, List.setIfInBounds_toArray, List.set_cons_zero, List.set_cons_succ]
  refine wpAnyH_take (i := 8) (v := (.int .i64 n)) rfl (by kernel_rfl) (by kernel_rfl) (by kernel_rfl) (fun _ _ _ h => h) (Or.inl ⟨by rfl, fun X hS => ?_⟩) hHeld ?_
  · obtain ⟨s9x, hs9x⟩ := hS
    obtain ⟨⟨s1, s2, s3, s4, s5, s6, s7, s8⟩, ⟨t1, t2, t3, t4, t5, t6⟩, f4, f5⟩ := hs9x.all
    go_simp
  try simp only [Act.put, List.getElem_toArray, List.getElem_cons_zero, List.getElem_cons_succ, List.setIfInBounds_toArray, List.set_cons_zero, List.set_cons_succ]
  have HD := Lib.hid hS0
  clear hS0 hHeld
  refine wpAnyH_ready (rs := [9]) (by kernel_rfl) (by simp) (AllReadyH.cons rfl (fun K1 hK1 => ?_) AllReadyH.nil)
  go_simp
  refine (HPC.out _ HD.out.x).mono ?_
  rintro e w2 ⟨rfl, hx, hg⟩
  have HD2 := Lib.hid (HD.out.went hx hg)
  clear hx hg
  refine hK1.out _ _ ⟨_, HD2.out⟩ (fun hHeld => ?_)
  clear hK1
  try simp only [Act.put, List.getElem_toArray, List.getElem_cons_zero, List.getElem_cons_succ, List.setIfInBounds_toArray, List.set_cons_zero, List.set_cons_succ]
  refine wpAnyH_take (i := 10) (v := (.int .i64 er)) rfl (by kernel_rfl) (by kernel_rfl) (by kernel_rfl) (fun _ _ _ h => h) (Or.inl ⟨by rfl, fun X hS => ?_⟩) hHeld ?_
  · obtain ⟨s9x, hs9x⟩ := hS
    obtain ⟨⟨s1, s2, s3, s4, s5, s6, s7, s8⟩, ⟨t1, t2, t3, t4, t5, t6⟩, f4, f5⟩ := hs9x.all
    go_simp
  try simp only [Act.put, List.getElem_toArray, List.getElem_cons_zero, List.getElem_cons_succ, List.setIfInBounds_toArray, List.set_cons_zero, List.set_cons_succ]
  clear hHeld
  refine wpAnyH_done (by kernel_rfl) ?_ _
  go_upto_region 15 with fail
  have hS0 := HD2.out.below (Below.refl w2.heap.size w2).drew
  clear HD2 HD
  refine wp_region_held_drew (S := fun X => (X.cell? ⟨E, 0, none⟩ = some (.int .u8 d) ∧ X.cell? ⟨E, 1, none⟩ = some (.int .i64 at_) ∧ X.cell? ⟨E, 2, none⟩ = some (.int .i64 fr) ∧ X.cell? ⟨E, 3, none⟩ = some (.int .i64 n) ∧ X.cell? ⟨E, 4, none⟩ = some (.int .u64 x) ∧ X.cell? ⟨E, 5, none⟩ = some (.string S)) ∧ X.cell? ⟨Wb, 6, none⟩ = some (.int .i64 (va : Int)) ∧ X.cell? ⟨Wb, 7, none⟩ = some (.int .i64 (vs : Int))) (by kernel_rfl) hS0.dd (fun hHeld => ?_)
  refine wpAnyH_take (i := 0) (v := (.pointer (some ⟨Wb, 0, none⟩))) rfl (by kernel_rfl) (by kernel_rfl) (by kernel_rfl) (fun _ _ _ h => h) (Or.inl ⟨by rfl, fun X hS => ?_⟩) hHeld ?_
  · obtain ⟨⟨t1, t2, t3, t4, t5, t6⟩, s7, s8⟩ := hS
    go_simp
  try simp only [Act.put, List.getElem_toArray, List.getElem_cons_zero, List.getElem_cons_succ, List.setIfInBounds_toArray, List.set_cons_zero, List.set_cons_succ]
  refine wpAnyH_take (i := 1) (v := (.pointer (some ⟨Wb, 0, none⟩))) rfl (by kernel_rfl) (by kernel_rfl) (by kernel_rfl) (fun _ _ _ h => h) (Or.inl ⟨by rfl, fun X hS => ?_⟩) hHeld ?_
  · obtain ⟨⟨t1, t2, t3, t4, t5, t6⟩, s7, s8⟩ := hS
    go_simp
  try simp only [Act.put, List.getElem_toArray, List.getElem_cons_zero, List.getElem_cons_succ, List.setIfInBounds_toArray, List.set_cons_zero, List.set_cons_succ]
  refine wpAnyH_take (i := 2) (v := (.pointer (some ⟨Wb, 0, none⟩))) rfl (by kernel_rfl) (by kernel_rfl) (by kernel_rfl) (fun _ _ _ h => h) (Or.inl ⟨by rfl, fun X hS => ?_⟩) hHeld ?_
  · obtain ⟨⟨t1, t2, t3, t4, t5, t6⟩, s7, s8⟩ := hS
    go_simp
  try simp only [Act.put, List.getElem_toArray, List.getElem_cons_zero, List.getElem_cons_succ, List.setIfInBounds_toArray, List.set_cons_zero, List.set_cons_succ]
  refine wpAnyH_take (i := 3) (v := (.pointer (some ⟨Wb, 4, none⟩))) rfl (by kernel_rfl) (by kernel_rfl) (by kernel_rfl) (fun _ _ _ h => h) (Or.inl ⟨by rfl, fun X hS => ?_⟩) hHeld ?_
  · obtain ⟨⟨t1, t2, t3, t4, t5, t6⟩, s7, s8⟩ := hS
    go_simp
  try simp only [Act.put, List.getElem_toArray, List.getElem_cons_zero, List.getElem_cons_succ, List.setIfInBounds_toArray, List.set_cons_zero, List.set_cons_succ]
  refine wpAnyH_take (i := 5) (v := (.pointer (some ⟨E, 1, none⟩))) rfl (by kernel_rfl) (by kernel_rfl) (by kernel_rfl) (fun _ _ _ h => h) (Or.inl ⟨by rfl, fun X hS => ?_⟩) hHeld ?_
  · obtain ⟨⟨t1, t2, t3, t4, t5, t6⟩, s7, s8⟩ := hS
    go_simp
  try simp only [Act.put, List.getElem_toArray, List.getElem_cons_zero, List.getElem_cons_succ, List.setIfInBounds_toArray, List.set_cons_zero, List.set_cons_succ]
  refine wpAnyH_take (i := 6) (v := (.int .i64 at_)) rfl (by kernel_rfl) (by kernel_rfl) (by kernel_rfl) (fun _ _ _ h => h) (Or.inl ⟨by rfl, fun X hS => ?_⟩) hHeld ?_
  · obtain ⟨⟨t1, t2, t3, t4, t5, t6⟩, s7, s8⟩ := hS
    go_simp
  try simp only [Act.put, List.getElem_toArray, List.getElem_cons_zero, List.getElem_cons_succ, List.setIfInBounds_toArray, List.set_cons_zero, List.set_cons_succ]
  refine wpAnyH_take (i := 7) (v := (.pointer (some ⟨E, 3, none⟩))) rfl (by kernel_rfl) (by kernel_rfl) (by kernel_rfl) (fun _ _ _ h => h) (Or.inl ⟨by rfl, fun X hS => ?_⟩) hHeld ?_
  · obtain ⟨⟨t1, t2, t3, t4, t5, t6⟩, s7, s8⟩ := hS
    go_simp
  try simp only [Act.put, List.getElem_toArray, List.getElem_cons_zero, List.getElem_cons_succ, List.setIfInBounds_toArray, List.set_cons_zero, List.set_cons_succ]
  refine wpAnyH_take (i := 8) (v := (.int .i64 n)) rfl (by kernel_rfl) (by kernel_rfl) (by kernel_rfl) (fun _ _ _ h => h) (Or.inl ⟨by rfl, fun X hS => ?_⟩) hHeld ?_
  · obtain ⟨⟨t1, t2, t3, t4, t5, t6⟩, s7, s8⟩ := hS
    go_simp
  try simp only [Act.put, List.getElem_toArray, List.getElem_cons_zero, List.getElem_cons_succ, List.setIfInBounds_toArray, List.set_cons_zero, List.set_cons_succ]
  have HD := Lib.hid hS0
  clear hS0 hHeld
  refine wpAnyH_ready (rs := [4]) (by kernel_rfl) (by simp) (AllReadyH.cons rfl (fun K1 hK1 => ?_) AllReadyH.nil)
  obtain ⟨⟨s1, s2, s3, s4, s5, s6, s7, s8⟩, ⟨t1, t2, t3, t4, t5, t6⟩, f4, f5⟩ := HD.out.all
  go_simp
  clear s1 s2 s3 s4 s5 s6 s7 s8 t1 t2 t3 t4 t5 t6 f4 f5
  refine hK1.out _ _ HD.out.dd (fun hHeld => ?_)
  clear hK1
  try simp only [Act.put, List.getElem_toArray, List.getElem_cons_zero, List.getElem_cons_succ, List.setIfInBounds_toArray, List.set_cons_zero, List.set_cons_succ]
  clear hHeld
  refine wpAnyH_ready (rs := [9]) (by kernel_rfl) (by simp) (AllReadyH.cons rfl (fun K1 hK1 => ?_) AllReadyH.nil)
  go_simp
  refine (HDC.out _ HD.out.d).mono ?_
  rintro e w3 ⟨b2, cap2, rfl, hd2, hb⟩
  have HD3 := Lib.hid (HD.out.below hb)
  have HD4 := Lib.hid (HD3.out.put (cap2 := cap2) hd2)
  rw [HRS.out] at HD4
  clear hd2 hb
  refine hK1.out _ _ HD3.out.dd (fun hHeld => ?_)
  clear hK1
  try simp only [Act.put, List.getElem_toArray, List.getElem_cons_zero, List.getElem_cons_succ, List.setIfInBounds_toArray, List.set_cons_zero, List.set_cons_succ]
  refine wpAnyH_take (i := 10) (v := (.tuple #[.agg #[.slice (some ⟨b2, 0, none⟩) s'.L cap2, .int .i64 (refR s)], .int .i64 er])) rfl (by kernel_rfl) (by kernel_rfl) (by kernel_rfl) (fun _ _ _ h => h) (Or.inl ⟨by rfl, fun X hS => ?_⟩) hHeld ?_
  · obtain ⟨⟨t1, t2, t3, t4, t5, t6⟩, s7, s8⟩ := hS
    go_simp
  try simp only [Act.put, List.getElem_toArray, List.getElem_cons_zero, List.getElem_cons_succ, List.setIfInBounds_toArray, List.set_cons_zero, List.set_cons_succ]
  refine wpAnyH_take (i := 11) (v := (.agg #[.slice (some ⟨b2, 0, none⟩) s'.L cap2, .int .i64 (refR s)])) rfl (by kernel_rfl) (by kernel_rfl) (by kernel_rfl) (fun _ _ _ h => h) (Or.inl ⟨by rfl, fun X hS => ?_⟩) hHeld ?_
  · obtain ⟨⟨t1, t2, t3, t4, t5, t6⟩, s7, s8⟩ := hS
    go_simp
  try simp only [Act.put, List.getElem_toArray, List.getElem_cons_zero, List.getElem_cons_succ, List.setIfInBounds_toArray, List.set_cons_zero, List.set_cons_succ]
  refine wpAnyH_take (i := 12) (v := (.int .i64 er)) rfl (by kernel_rfl) (by kernel_rfl) (by kernel_rfl) (fun _ _ _ h => h) (Or.inl ⟨by rfl, fun X hS => ?_⟩) hHeld ?_
  · obtain ⟨⟨t1, t2, t3, t4, t5, t6⟩, s7, s8⟩ := hS
    go_simp
  try simp only [Act.put, List.getElem_toArray, List.getElem_cons_zero, List.getElem_cons_succ, List.setIfInBounds_toArray, List.set_cons_zero, List.set_cons_succ]
  refine wpAnyH_take (i := 13) (v := (.pointer (some ⟨Wb, 0, none⟩))) rfl (by kernel_rfl) (by kernel_rfl) (by kernel_rfl) (fun _ _ _ h => h) (Or.inl ⟨by rfl, fun X hS => ?_⟩) hHeld ?_
  · obtain ⟨⟨t1, t2, t3, t4, t5, t6⟩, s7, s8⟩ := hS
    go_simp
  try simp only [Act.put, List.getElem_toArray, List.getElem_cons_zero, List.getElem_cons_succ, List.setIfInBounds_toArray, List.set_cons_zero, List.set_cons_succ]
  refine wpAnyH_take (i := 14) (v := (.pointer (some ⟨Wb, 4, none⟩))) rfl (by kernel_rfl) (by kernel_rfl) (by kernel_rfl) (fun _ _ _ h => h) (Or.inl ⟨by rfl, fun X hS => ?_⟩) hHeld ?_
  · obtain ⟨⟨t1, t2, t3, t4, t5, t6⟩, s7, s8⟩ := hS
    go_simp
  try simp only [Act.put, List.getElem_toArray, List.getElem_cons_zero, List.getElem_cons_succ, List.setIfInBounds_toArray, List.set_cons_zero, List.set_cons_succ]
  clear hHeld
  obtain ⟨⟨s1, s2, s3, s4, s5, s6, s7, s8⟩, ⟨t1, t2, t3, t4, t5, t6⟩, f4, f5⟩ := HD3.out.all
  refine wpAnyH_ready (rs := [15]) (by kernel_rfl) (by simp) (AllReadyH.cons rfl (fun K1 hK1 => ?_) AllReadyH.nil)
  go_simp
  refine hK1.out _ _ HD4.out.dd (fun hHeld => ?_)
  clear hK1
  try simp only [Act.put, List.getElem_toArray, List.getElem_cons_zero, List.getElem_cons_succ, List.setIfInBounds_toArray, List.set_cons_zero, List.set_cons_succ]
  clear s1 s2 s3 s4 s5 s6 s7 s8 t1 t2 t3 t4 t5 t6 f4 f5
  refine wpAnyH_take (i := 16) (v := (.int .i64 er)) rfl (by kernel_rfl) (by kernel_rfl) (by kernel_rfl) (fun _ _ _ h => h) (Or.inl ⟨by rfl, fun X hS => ?_⟩) hHeld ?_
  · obtain ⟨⟨t1, t2, t3, t4, t5, t6⟩, s7, s8⟩ := hS
    go_simp
  try simp only [Act.put, List.getElem_toArray, List.getElem_cons_zero, List.getElem_cons_succ, List.setIfInBounds_toArray, List.set_cons_zero, List.set_cons_succ]
  clear hHeld
  refine wpAnyH_done (by kernel_rfl) ?_ _
  have hee : (er == er) = true := by simp
  go_wp2_with fail
  go_ret
  exact ⟨b2, cap2, va, vs, s', rfl, HSL.out, HD4.out.fin⟩
end Go.Proofs.Ytdmaendhkenmgaa.Bt
/- law04's do: Store. (Written by gen_dve.py.) -/
namespace Go.Proofs.Ytdmaendhkenmgaa.Bt
open Go Go.RowKit Go.Shelf
set_option linter.unusedVariables false
set_option linter.unusedSimpArgs false

set_option maxHeartbeats 8000000 in
set_option maxRecDepth 100000 in
theorem dvo_store {Wb A b cap va vs : Nat} {s : ASt} {d at_ fr n x : Int} {S : ByteArray} {w0 w : World} (h : DvW Wb A b cap va vs s w0 w) (hL : s.L ≤ 8) (hd : d.tmod 10 = 4) (hd0 : 0 ≤ d ∧ d ≤ 255) (ha : -9223372036854775808 ≤ at_ ∧ at_ ≤ 9223372036854775807) (hf : -9223372036854775808 ≤ fr ∧ fr ≤ 9223372036854775807) (hn : -9223372036854775808 ≤ n ∧ n ≤ 9223372036854775807) (hx : 0 ≤ x ∧ x < 18446744073709551616) (hS : S.size ≤ 9223372036854775807) :
    Calls Try.prog 28 #[.pointer (some ⟨Wb, 0, none⟩), .agg #[.int .u8 d, .int .i64 at_, .int .i64 fr, .int .i64 n, .int .u64 x, .string S]] w (DvP Wb A s.L w0) := by
  obtain ⟨s', hs'⟩ : ∃ s', storeS s (addrV va vs at_ n) n x = s' := ⟨_, rfl⟩
  obtain ⟨er, her⟩ : ∃ er, numE s.L s.es (addrV va vs at_ n) n = er := ⟨_, rfl⟩
  have hv1 := h.hva
  have hv2 := h.hvs
  have HPC := Lib.hid (fun (y : World) (hy : On A s y) => on_store hy va vs hv1 hv2 at_ n x (by omega) hx.1)
  have HDC := Lib.hid (fun (y : World) (hy : DocB b (gS s) y) => rv_store (cap := cap) h.x.good hL hv1 hv2 rfl at_ n x ha hn hx hy)
  rw [hs', her] at HPC HDC
  have HSL : Hid (s'.L = s.L) := Lib.hid (by rw [← hs']; unfold storeS; split <;> rfl)
  have HRS : Hid (refR s' = refR s) := Lib.hid (by rw [← hs']; unfold storeS; split <;> rfl)
  clear hs' her hf hn hx hS hv1 hv2
  have hE := heap_new w (.cells #[.int .u8 d, .int .i64 at_, .int .i64 fr, .int .i64 n, .int .u64 x, .string S] 36)
  have hb0 := bel1 w (.cells #[.int .u8 d, .int .i64 at_, .int .i64 fr, .int .i64 n, .int .u64 x, .string S] 36)
  have hds := h.start hE hb0
  clear hE hb0
  go_enter Try.func28, Try.ntmps28
  go_upto_region 1 with fail
  change Code.wp _ _ _ _ (w.alloc (.cells #[.int .u8 d, .int .i64 at_, .int .i64 fr, .int .i64 n, .int .u64 x, .string S] 36))
  obtain ⟨y, hy⟩ : ∃ y, w.alloc (.cells #[.int .u8 d, .int .i64 at_, .int .i64 fr, .int .i64 n, .int .u64 x, .string S] 36) = y := ⟨_, rfl⟩
  obtain ⟨E, hEE⟩ : ∃ E, w.heap.size = E := ⟨_, rfl⟩
  rw [hy, hEE] at hds
  rw [hy, hEE]
  have H := Lib.hid hds
  clear hy hEE hds
  obtain ⟨⟨s1, s2, s3, s4, s5, s6, s7, s8⟩, ⟨t1, t2, t3, t4, t5, t6⟩, f4, f5⟩ := H.out.all
  go_upto_region 21 with fail
  have hS0 := H.out.below (Below.refl y.heap.size y).drew
  clear H s1 s2 s3 s4 s5 s6 s7 s8 t1 t2 t3 t4 t5 t6 f4 f5
  refine wp_region_held_drew (S := fun X => ∃ s', DvS Wb E A b cap va vs s' s d at_ fr n x S w0 X) (by kernel_rfl) ⟨_, hS0⟩ (fun hHeld => ?_)
  refine wpAnyH_take (i := 0) (v := (.pointer (some ⟨Wb, 0, none⟩))) rfl (by kernel_rfl) (by kernel_rfl) (by kernel_rfl) (fun _ _ _ h => h) (Or.inl ⟨by rfl, fun X hS => ?_⟩) hHeld ?_
  · obtain ⟨s9x, hs9x⟩ := hS
    obtain ⟨⟨s1, s2, s3, s4, s5, s6, s7, s8⟩, ⟨t1, t2, t3, t4, t5, t6⟩, f4, f5⟩ := hs9x.all
    go_simp
  try simp only [Act.put, List.getElem_toArray, List.getElem_cons_zero, List.getElem_cons_succ, List.setIfInBounds_toArray, List.set_cons_zero, List.set_cons_succ]
  refine wpAnyH_take (i := 1) (v := (.pointer (some ⟨Wb, 0, none⟩))) rfl (by kernel_rfl) (by kernel_rfl) (by kernel_rfl) (fun _ _ _ h => h) (Or.inl ⟨by rfl, fun X hS => ?_⟩) hHeld ?_
  · obtain ⟨s9x, hs9x⟩ := hS
    obtain ⟨⟨s1, s2, s3, s4, s5, s6, s7, s8⟩, ⟨t1, t2, t3, t4, t5, t6⟩, f4, f5⟩ := hs9x.all
    go_simp
  try simp only [Act.put, List.getElem_toArray, List.getElem_cons_zero, List.getElem_cons_succ, List.setIfInBounds_toArray, List.set_cons_zero, List.set_cons_succ]
  refine wpAnyH_take (i := 2) (v := (.pointer (some ⟨Wb, 1, none⟩))) rfl (by kernel_rfl) (by kernel_rfl) (by kernel_rfl) (fun _ _ _ h => h) (Or.inl ⟨by rfl, fun X hS => ?_⟩) hHeld ?_
  · obtain ⟨s9x, hs9x⟩ := hS
    obtain ⟨⟨s1, s2, s3, s4, s5, s6, s7, s8⟩, ⟨t1, t2, t3, t4, t5, t6⟩, f4, f5⟩ := hs9x.all
    go_simp
  try simp only [Act.put, List.getElem_toArray, List.getElem_cons_zero, List.getElem_cons_succ, List.setIfInBounds_toArray, List.set_cons_zero, List.set_cons_succ]
  refine wpAnyH_take (i := 3) (v := (.agg #[.pointer (some ⟨A, 0, none⟩), .int .i64 (va : Int), .int .i64 (vs : Int)])) rfl (by kernel_rfl) (by kernel_rfl) (by kernel_rfl) (fun _ _ _ h => h) (Or.inl ⟨by rfl, fun X hS => ?_⟩) hHeld ?_
  · obtain ⟨s9x, hs9x⟩ := hS
    obtain ⟨⟨s1, s2, s3, s4, s5, s6, s7, s8⟩, ⟨t1, t2, t3, t4, t5, t6⟩, f4, f5⟩ := hs9x.all
    go_simp
  try simp only [Act.put, List.getElem_toArray, List.getElem_cons_zero, List.getElem_cons_succ, List.setIfInBounds_toArray, List.set_cons_zero, List.set_cons_succ]
  refine wpAnyH_take (i := 4) (v := (.pointer (some ⟨E, 1, none⟩))) rfl (by kernel_rfl) (by kernel_rfl) (by kernel_rfl) (fun _ _ _ h => h) (Or.inl ⟨by rfl, fun X hS => ?_⟩) hHeld ?_
  · obtain ⟨s9x, hs9x⟩ := hS
    obtain ⟨⟨s1, s2, s3, s4, s5, s6, s7, s8⟩, ⟨t1, t2, t3, t4, t5, t6⟩, f4, f5⟩ := hs9x.all
    go_simp
  try simp only [Act.put, List.getElem_toArray, List.getElem_cons_zero, List.getElem_cons_succ, List.setIfInBounds_toArray, List.set_cons_zero, List.set_cons_succ]
  refine wpAnyH_take (i := 5) (v := (.int .i64 at_)) rfl (by kernel_rfl) (by kernel_rfl) (by kernel_rfl) (fun _ _ _ h => h) (Or.inl ⟨by rfl, fun X hS => ?_⟩) hHeld ?_
  · obtain ⟨s9x, hs9x⟩ := hS
    obtain ⟨⟨s1, s2, s3, s4, s5, s6, s7, s8⟩, ⟨t1, t2, t3, t4, t5, t6⟩, f4, f5⟩ := hs9x.all
    go_simp
  try simp only [Act.put, List.getElem_toArray, List.getElem_cons_zero, List.getElem_cons_succ, List.setIfInBounds_toArray, List.set_cons_zero, List.set_cons_succ]
  refine wpAnyH_take (i := 6) (v := (.pointer (some ⟨E, 3, none⟩))) rfl (by kernel_rfl) (by kernel_rfl) (by kernel_rfl) (fun _ _ _ h => h) (Or.inl ⟨by rfl, fun X hS => ?_⟩) hHeld ?_
  · obtain ⟨s9x, hs9x⟩ := hS
    obtain ⟨⟨s1, s2, s3, s4, s5, s6, s7, s8⟩, ⟨t1, t2, t3, t4, t5, t6⟩, f4, f5⟩ := hs9x.all
    go_simp
  try simp only [Act.put, List.getElem_toArray, List.getElem_cons_zero, List.getElem_cons_succ, List.setIfInBounds_toArray, List.set_cons_zero, List.set_cons_succ]
  refine wpAnyH_take (i := 7) (v := (.int .i64 n)) rfl (by kernel_rfl) (by kernel_rfl) (by kernel_rfl) (fun _ _ _ h => h) (Or.inl ⟨by rfl, fun X hS => ?_⟩) hHeld ?_
  · obtain ⟨s9x, hs9x⟩ := hS
    obtain ⟨⟨s1, s2, s3, s4, s5, s6, s7, s8⟩, ⟨t1, t2, t3, t4, t5, t6⟩, f4, f5⟩ := hs9x.all
    go_simp
  try simp only [Act.put, List.getElem_toArray, List.getElem_cons_zero, List.getElem_cons_succ, List.setIfInBounds_toArray, List.set_cons_zero, List.set_cons_succ]
  refine wpAnyH_take (i := 8) (v := (.pointer (some ⟨E, 4, none⟩))) rfl (by kernel_rfl) (by kernel_rfl) (by kernel_rfl) (fun _ _ _ h => h) (Or.inl ⟨by rfl, fun X hS => ?_⟩) hHeld ?_
  · obtain ⟨s9x, hs9x⟩ := hS
    obtain ⟨⟨s1, s2, s3, s4, s5, s6, s7, s8⟩, ⟨t1, t2, t3, t4, t5, t6⟩, f4, f5⟩ := hs9x.all
    go_simp
  try simp only [Act.put, List.getElem_toArray, List.getElem_cons_zero, List.getElem_cons_succ, List.setIfInBounds_toArray, List.set_cons_zero, List.set_cons_succ]
  refine wpAnyH_take (i := 9) (v := (.int .u64 x)) rfl (by kernel_rfl) (by kernel_rfl) (by kernel_rfl) (fun _ _ _ h => h) (Or.inl ⟨by rfl, fun X hS => ?_⟩) hHeld ?_
  · obtain ⟨s9x, hs9x⟩ := hS
    obtain ⟨⟨s1, s2, s3, s4, s5, s6, s7, s8⟩, ⟨t1, t2, t3, t4, t5, t6⟩, f4, f5⟩ := hs9x.all
    go_simp
  try simp only [Act.put, List.getElem_toArray, List.getElem_cons_zero, List.getElem_cons_succ, List.setIfInBounds_toArray, List.set_cons_zero, List.set_cons_succ]
  have HD := Lib.hid hS0
  clear hS0 hHeld
  refine wpAnyH_ready (rs := [10]) (by kernel_rfl) (by simp) (AllReadyH.cons rfl (fun K1 hK1 => ?_) AllReadyH.nil)
  go_simp
  refine (HPC.out _ HD.out.x).mono ?_
  rintro e w2 ⟨rfl, hx, hg⟩
  have HD2 := Lib.hid (HD.out.went hx hg)
  clear hx hg
  refine hK1.out _ _ ⟨_, HD2.out⟩ (fun hHeld => ?_)
  clear hK1
  try simp only [Act.put, List.getElem_toArray, List.getElem_cons_zero, List.getElem_cons_succ, List.setIfInBounds_toArray, List.set_cons_zero, List.set_cons_succ]
  refine wpAnyH_take (i := 11) (v := (.int .i64 er)) rfl (by kernel_rfl) (by kernel_rfl) (by kernel_rfl) (fun _ _ _ h => h) (Or.inl ⟨by rfl, fun X hS => ?_⟩) hHeld ?_
  · obtain ⟨s9x, hs9x⟩ := hS
    obtain ⟨⟨s1, s2, s3, s4, s5, s6, s7, s8⟩, ⟨t1, t2, t3, t4, t5, t6⟩, f4, f5⟩ := hs9x.all
    go_simp
  try simp only [Act.put, List.getElem_toArray, List.getElem_cons_zero, List.getElem_cons_succ, List.setIfInBounds_toArray, List.set_cons_zero, List.set_cons_succ]
  clear hHeld
  refine wpAnyH_done (by kernel_rfl) ?_ _
  go_upto_region 22 with fail
  have hS0 := HD2.out.below (Below.refl w2.heap.size w2).drew
  clear HD2 HD
  refine wp_region_held_drew (S := fun X => (X.cell? ⟨E, 0, none⟩ = some (.int .u8 d) ∧ X.cell? ⟨E, 1, none⟩ = some (.int .i64 at_) ∧ X.cell? ⟨E, 2, none⟩ = some (.int .i64 fr) ∧ X.cell? ⟨E, 3, none⟩ = some (.int .i64 n) ∧ X.cell? ⟨E, 4, none⟩ = some (.int .u64 x) ∧ X.cell? ⟨E, 5, none⟩ = some (.string S)) ∧ X.cell? ⟨Wb, 6, none⟩ = some (.int .i64 (va : Int)) ∧ X.cell? ⟨Wb, 7, none⟩ = some (.int .i64 (vs : Int))) (by kernel_rfl) hS0.dd (fun hHeld => ?_)
  refine wpAnyH_take (i := 0) (v := (.pointer (some ⟨Wb, 0, none⟩))) rfl (by kernel_rfl) (by kernel_rfl) (by kernel_rfl) (fun _ _ _ h => h) (Or.inl ⟨by rfl, fun X hS => ?_⟩) hHeld ?_
  · obtain ⟨⟨t1, t2, t3, t4, t5, t6⟩, s7, s8⟩ := hS
    go_simp
  try simp only [Act.put, List.getElem_toArray, List.getElem_cons_zero, List.getElem_cons_succ, List.setIfInBounds_toArray, List.set_cons_zero, List.set_cons_succ]
  refine wpAnyH_take (i := 1) (v := (.pointer (some ⟨Wb, 0, none⟩))) rfl (by kernel_rfl) (by kernel_rfl) (by kernel_rfl) (fun _ _ _ h => h) (Or.inl ⟨by rfl, fun X hS => ?_⟩) hHeld ?_
  · obtain ⟨⟨t1, t2, t3, t4, t5, t6⟩, s7, s8⟩ := hS
    go_simp
  try simp only [Act.put, List.getElem_toArray, List.getElem_cons_zero, List.getElem_cons_succ, List.setIfInBounds_toArray, List.set_cons_zero, List.set_cons_succ]
  refine wpAnyH_take (i := 2) (v := (.pointer (some ⟨Wb, 0, none⟩))) rfl (by kernel_rfl) (by kernel_rfl) (by kernel_rfl) (fun _ _ _ h => h) (Or.inl ⟨by rfl, fun X hS => ?_⟩) hHeld ?_
  · obtain ⟨⟨t1, t2, t3, t4, t5, t6⟩, s7, s8⟩ := hS
    go_simp
  try simp only [Act.put, List.getElem_toArray, List.getElem_cons_zero, List.getElem_cons_succ, List.setIfInBounds_toArray, List.set_cons_zero, List.set_cons_succ]
  refine wpAnyH_take (i := 3) (v := (.pointer (some ⟨Wb, 4, none⟩))) rfl (by kernel_rfl) (by kernel_rfl) (by kernel_rfl) (fun _ _ _ h => h) (Or.inl ⟨by rfl, fun X hS => ?_⟩) hHeld ?_
  · obtain ⟨⟨t1, t2, t3, t4, t5, t6⟩, s7, s8⟩ := hS
    go_simp
  try simp only [Act.put, List.getElem_toArray, List.getElem_cons_zero, List.getElem_cons_succ, List.setIfInBounds_toArray, List.set_cons_zero, List.set_cons_succ]
  refine wpAnyH_take (i := 5) (v := (.pointer (some ⟨Wb, 0, none⟩))) rfl (by kernel_rfl) (by kernel_rfl) (by kernel_rfl) (fun _ _ _ h => h) (Or.inl ⟨by rfl, fun X hS => ?_⟩) hHeld ?_
  · obtain ⟨⟨t1, t2, t3, t4, t5, t6⟩, s7, s8⟩ := hS
    go_simp
  try simp only [Act.put, List.getElem_toArray, List.getElem_cons_zero, List.getElem_cons_succ, List.setIfInBounds_toArray, List.set_cons_zero, List.set_cons_succ]
  refine wpAnyH_take (i := 6) (v := (.pointer (some ⟨Wb, 0, none⟩))) rfl (by kernel_rfl) (by kernel_rfl) (by kernel_rfl) (fun _ _ _ h => h) (Or.inl ⟨by rfl, fun X hS => ?_⟩) hHeld ?_
  · obtain ⟨⟨t1, t2, t3, t4, t5, t6⟩, s7, s8⟩ := hS
    go_simp
  try simp only [Act.put, List.getElem_toArray, List.getElem_cons_zero, List.getElem_cons_succ, List.setIfInBounds_toArray, List.set_cons_zero, List.set_cons_succ]
  refine wpAnyH_take (i := 7) (v := (.pointer (some ⟨Wb, 6, none⟩))) rfl (by kernel_rfl) (by kernel_rfl) (by kernel_rfl) (fun _ _ _ h => h) (Or.inl ⟨by rfl, fun X hS => ?_⟩) hHeld ?_
  · obtain ⟨⟨t1, t2, t3, t4, t5, t6⟩, s7, s8⟩ := hS
    go_simp
  try simp only [Act.put, List.getElem_toArray, List.getElem_cons_zero, List.getElem_cons_succ, List.setIfInBounds_toArray, List.set_cons_zero, List.set_cons_succ]
  refine wpAnyH_take (i := 8) (v := (.agg #[.int .i64 (va : Int), .int .i64 (vs : Int)])) rfl (by kernel_rfl) (by kernel_rfl) (by kernel_rfl) (fun _ _ _ h => h) (Or.inl ⟨by rfl, fun X hS => ?_⟩) hHeld ?_
  · obtain ⟨⟨t1, t2, t3, t4, t5, t6⟩, s7, s8⟩ := hS
    go_simp
  try simp only [Act.put, List.getElem_toArray, List.getElem_cons_zero, List.getElem_cons_succ, List.setIfInBounds_toArray, List.set_cons_zero, List.set_cons_succ]
  refine wpAnyH_take (i := 9) (v := (.pointer (some ⟨E, 1, none⟩))) rfl (by kernel_rfl) (by kernel_rfl) (by kernel_rfl) (fun _ _ _ h => h) (Or.inl ⟨by rfl, fun X hS => ?_⟩) hHeld ?_
  · obtain ⟨⟨t1, t2, t3, t4, t5, t6⟩, s7, s8⟩ := hS
    go_simp
  try simp only [Act.put, List.getElem_toArray, List.getElem_cons_zero, List.getElem_cons_succ, List.setIfInBounds_toArray, List.set_cons_zero, List.set_cons_succ]
  refine wpAnyH_take (i := 10) (v := (.int .i64 at_)) rfl (by kernel_rfl) (by kernel_rfl) (by kernel_rfl) (fun _ _ _ h => h) (Or.inl ⟨by rfl, fun X hS => ?_⟩) hHeld ?_
  · obtain ⟨⟨t1, t2, t3, t4, t5, t6⟩, s7, s8⟩ := hS
    go_simp
  try simp only [Act.put, List.getElem_toArray, List.getElem_cons_zero, List.getElem_cons_succ, List.setIfInBounds_toArray, List.set_cons_zero, List.set_cons_succ]
  refine wpAnyH_take (i := 11) (v := (.pointer (some ⟨E, 3, none⟩))) rfl (by kernel_rfl) (by kernel_rfl) (by kernel_rfl) (fun _ _ _ h => h) (Or.inl ⟨by rfl, fun X hS => ?_⟩) hHeld ?_
  · obtain ⟨⟨t1, t2, t3, t4, t5, t6⟩, s7, s8⟩ := hS
    go_simp
  try simp only [Act.put, List.getElem_toArray, List.getElem_cons_zero, List.getElem_cons_succ, List.setIfInBounds_toArray, List.set_cons_zero, List.set_cons_succ]
  refine wpAnyH_take (i := 12) (v := (.int .i64 n)) rfl (by kernel_rfl) (by kernel_rfl) (by kernel_rfl) (fun _ _ _ h => h) (Or.inl ⟨by rfl, fun X hS => ?_⟩) hHeld ?_
  · obtain ⟨⟨t1, t2, t3, t4, t5, t6⟩, s7, s8⟩ := hS
    go_simp
  try simp only [Act.put, List.getElem_toArray, List.getElem_cons_zero, List.getElem_cons_succ, List.setIfInBounds_toArray, List.set_cons_zero, List.set_cons_succ]
  refine wpAnyH_take (i := 13) (v := (.pointer (some ⟨E, 4, none⟩))) rfl (by kernel_rfl) (by kernel_rfl) (by kernel_rfl) (fun _ _ _ h => h) (Or.inl ⟨by rfl, fun X hS => ?_⟩) hHeld ?_
  · obtain ⟨⟨t1, t2, t3, t4, t5, t6⟩, s7, s8⟩ := hS
    go_simp
  try simp only [Act.put, List.getElem_toArray, List.getElem_cons_zero, List.getElem_cons_succ, List.setIfInBounds_toArray, List.set_cons_zero, List.set_cons_succ]
  refine wpAnyH_take (i := 14) (v := (.int .u64 x)) rfl (by kernel_rfl) (by kernel_rfl) (by kernel_rfl) (fun _ _ _ h => h) (Or.inl ⟨by rfl, fun X hS => ?_⟩) hHeld ?_
  · obtain ⟨⟨t1, t2, t3, t4, t5, t6⟩, s7, s8⟩ := hS
    go_simp
  try simp only [Act.put, List.getElem_toArray, List.getElem_cons_zero, List.getElem_cons_succ, List.setIfInBounds_toArray, List.set_cons_zero, List.set_cons_succ]
  have HD := Lib.hid hS0
  clear hS0 hHeld
  refine wpAnyH_ready (rs := [4]) (by kernel_rfl) (by simp) (AllReadyH.cons rfl (fun K1 hK1 => ?_) AllReadyH.nil)
  obtain ⟨⟨s1, s2, s3, s4, s5, s6, s7, s8⟩, ⟨t1, t2, t3, t4, t5, t6⟩, f4, f5⟩ := HD.out.all
  go_simp
  clear s1 s2 s3 s4 s5 s6 s7 s8 t1 t2 t3 t4 t5 t6 f4 f5
  refine hK1.out _ _ HD.out.dd (fun hHeld => ?_)
  clear hK1
  try simp only [Act.put, List.getElem_toArray, List.getElem_cons_zero, List.getElem_cons_succ, List.setIfInBounds_toArray, List.set_cons_zero, List.set_cons_succ]
  clear hHeld
  refine wpAnyH_ready (rs := [15]) (by kernel_rfl) (by simp) (AllReadyH.cons rfl (fun K1 hK1 => ?_) AllReadyH.nil)
  go_simp
  refine (HDC.out _ HD.out.d).mono ?_
  rintro e w3 ⟨b2, cap2, rfl, hd2, hb⟩
  have HD3 := Lib.hid (HD.out.below hb)
  have HD4 := Lib.hid (HD3.out.put (cap2 := cap2) hd2)
  rw [HRS.out] at HD4
  clear hd2 hb
  refine hK1.out _ _ HD3.out.dd (fun hHeld => ?_)
  clear hK1
  try simp only [Act.put, List.getElem_toArray, List.getElem_cons_zero, List.getElem_cons_succ, List.setIfInBounds_toArray, List.set_cons_zero, List.set_cons_succ]
  refine wpAnyH_take (i := 16) (v := (.tuple #[.agg #[.slice (some ⟨b2, 0, none⟩) s'.L cap2, .int .i64 (refR s)], .int .i64 er])) rfl (by kernel_rfl) (by kernel_rfl) (by kernel_rfl) (fun _ _ _ h => h) (Or.inl ⟨by rfl, fun X hS => ?_⟩) hHeld ?_
  · obtain ⟨⟨t1, t2, t3, t4, t5, t6⟩, s7, s8⟩ := hS
    go_simp
  try simp only [Act.put, List.getElem_toArray, List.getElem_cons_zero, List.getElem_cons_succ, List.setIfInBounds_toArray, List.set_cons_zero, List.set_cons_succ]
  refine wpAnyH_take (i := 17) (v := (.agg #[.slice (some ⟨b2, 0, none⟩) s'.L cap2, .int .i64 (refR s)])) rfl (by kernel_rfl) (by kernel_rfl) (by kernel_rfl) (fun _ _ _ h => h) (Or.inl ⟨by rfl, fun X hS => ?_⟩) hHeld ?_
  · obtain ⟨⟨t1, t2, t3, t4, t5, t6⟩, s7, s8⟩ := hS
    go_simp
  try simp only [Act.put, List.getElem_toArray, List.getElem_cons_zero, List.getElem_cons_succ, List.setIfInBounds_toArray, List.set_cons_zero, List.set_cons_succ]
  refine wpAnyH_take (i := 18) (v := (.int .i64 er)) rfl (by kernel_rfl) (by kernel_rfl) (by kernel_rfl) (fun _ _ _ h => h) (Or.inl ⟨by rfl, fun X hS => ?_⟩) hHeld ?_
  · obtain ⟨⟨t1, t2, t3, t4, t5, t6⟩, s7, s8⟩ := hS
    go_simp
  try simp only [Act.put, List.getElem_toArray, List.getElem_cons_zero, List.getElem_cons_succ, List.setIfInBounds_toArray, List.set_cons_zero, List.set_cons_succ]
  refine wpAnyH_take (i := 19) (v := (.pointer (some ⟨Wb, 0, none⟩))) rfl (by kernel_rfl) (by kernel_rfl) (by kernel_rfl) (fun _ _ _ h => h) (Or.inl ⟨by rfl, fun X hS => ?_⟩) hHeld ?_
  · obtain ⟨⟨t1, t2, t3, t4, t5, t6⟩, s7, s8⟩ := hS
    go_simp
  try simp only [Act.put, List.getElem_toArray, List.getElem_cons_zero, List.getElem_cons_succ, List.setIfInBounds_toArray, List.set_cons_zero, List.set_cons_succ]
  refine wpAnyH_take (i := 20) (v := (.pointer (some ⟨Wb, 4, none⟩))) rfl (by kernel_rfl) (by kernel_rfl) (by kernel_rfl) (fun _ _ _ h => h) (Or.inl ⟨by rfl, fun X hS => ?_⟩) hHeld ?_
  · obtain ⟨⟨t1, t2, t3, t4, t5, t6⟩, s7, s8⟩ := hS
    go_simp
  try simp only [Act.put, List.getElem_toArray, List.getElem_cons_zero, List.getElem_cons_succ, List.setIfInBounds_toArray, List.set_cons_zero, List.set_cons_succ]
  clear hHeld
  obtain ⟨⟨s1, s2, s3, s4, s5, s6, s7, s8⟩, ⟨t1, t2, t3, t4, t5, t6⟩, f4, f5⟩ := HD3.out.all
  refine wpAnyH_ready (rs := [21]) (by kernel_rfl) (by simp) (AllReadyH.cons rfl (fun K1 hK1 => ?_) AllReadyH.nil)
  go_simp
  refine hK1.out _ _ HD4.out.dd (fun hHeld => ?_)
  clear hK1
  try simp only [Act.put, List.getElem_toArray, List.getElem_cons_zero, List.getElem_cons_succ, List.setIfInBounds_toArray, List.set_cons_zero, List.set_cons_succ]
  clear s1 s2 s3 s4 s5 s6 s7 s8 t1 t2 t3 t4 t5 t6 f4 f5
  refine wpAnyH_take (i := 22) (v := (.int .i64 er)) rfl (by kernel_rfl) (by kernel_rfl) (by kernel_rfl) (fun _ _ _ h => h) (Or.inl ⟨by rfl, fun X hS => ?_⟩) hHeld ?_
  · obtain ⟨⟨t1, t2, t3, t4, t5, t6⟩, s7, s8⟩ := hS
    go_simp
  try simp only [Act.put, List.getElem_toArray, List.getElem_cons_zero, List.getElem_cons_succ, List.setIfInBounds_toArray, List.set_cons_zero, List.set_cons_succ]
  clear hHeld
  refine wpAnyH_done (by kernel_rfl) ?_ _
  have hee : (er == er) = true := by simp
  go_wp2_with fail
  go_ret
  exact ⟨b2, cap2, va, vs, s', rfl, HSL.out, HD4.out.fin⟩
end Go.Proofs.Ytdmaendhkenmgaa.Bt
/- law04's do: Put. (Written by gen_dve.py.) -/
namespace Go.Proofs.Ytdmaendhkenmgaa.Bt
open Go Go.RowKit Go.Shelf
set_option linter.unusedVariables false
set_option linter.unusedSimpArgs false

set_option maxHeartbeats 8000000 in
set_option maxRecDepth 100000 in
theorem dvo_put {Wb A b cap va vs : Nat} {s : ASt} {d at_ fr n x : Int} {S : ByteArray} {w0 w : World} (h : DvW Wb A b cap va vs s w0 w) (hL : s.L ≤ 8) (hd : d.tmod 10 = 6) (hd0 : 0 ≤ d ∧ d ≤ 255) (ha : -9223372036854775808 ≤ at_ ∧ at_ ≤ 9223372036854775807) (hf : -9223372036854775808 ≤ fr ∧ fr ≤ 9223372036854775807) (hn : -9223372036854775808 ≤ n ∧ n ≤ 9223372036854775807) (hx : 0 ≤ x ∧ x < 18446744073709551616) (hS : S.size ≤ 9223372036854775807) :
    Calls Try.prog 28 #[.pointer (some ⟨Wb, 0, none⟩), .agg #[.int .u8 d, .int .i64 at_, .int .i64 fr, .int .i64 n, .int .u64 x, .string S]] w (DvP Wb A s.L w0) := by
  have hsl : (S.data.toList.length : Int) = (S.size : Int) := rfl
  obtain ⟨s', hs'⟩ : ∃ s', putS s (addrV va vs at_ (S.size : Int)) S.data.toList = s' := ⟨_, rfl⟩
  obtain ⟨er, her⟩ : ∃ er, thereE s.L s.es (addrV va vs at_ (S.size : Int)) (S.size : Int) = er := ⟨_, rfl⟩
  have hv1 := h.hva
  have hv2 := h.hvs
  have HPC := Lib.hid (fun (y : World) (hy : On A s y) => on_put hy va vs hv1 hv2 at_ (by omega) S hS)
  have HDC := Lib.hid (fun (y : World) (hy : DocB b (gS s) y) => rv_put (cap := cap) h.x.good hL hv1 hv2 rfl at_ S ha hS hy)
  rw [hsl] at HPC
  rw [hs', her] at HPC HDC
  clear hsl
  have HSL : Hid (s'.L = s.L) := Lib.hid (by rw [← hs']; unfold putS; split <;> rfl)
  have HRS : Hid (refR s' = refR s) := Lib.hid (by rw [← hs']; unfold putS; split <;> rfl)
  clear hs' her hf hn hx hS hv1 hv2
  have hE := heap_new w (.cells #[.int .u8 d, .int .i64 at_, .int .i64 fr, .int .i64 n, .int .u64 x, .string S] 36)
  have hb0 := bel1 w (.cells #[.int .u8 d, .int .i64 at_, .int .i64 fr, .int .i64 n, .int .u64 x, .string S] 36)
  have hds := h.start hE hb0
  clear hE hb0
  go_enter Try.func28, Try.ntmps28
  go_upto_region 1 with fail
  change Code.wp _ _ _ _ (w.alloc (.cells #[.int .u8 d, .int .i64 at_, .int .i64 fr, .int .i64 n, .int .u64 x, .string S] 36))
  obtain ⟨y, hy⟩ : ∃ y, w.alloc (.cells #[.int .u8 d, .int .i64 at_, .int .i64 fr, .int .i64 n, .int .u64 x, .string S] 36) = y := ⟨_, rfl⟩
  obtain ⟨E, hEE⟩ : ∃ E, w.heap.size = E := ⟨_, rfl⟩
  rw [hy, hEE] at hds
  rw [hy, hEE]
  have H := Lib.hid hds
  clear hy hEE hds
  obtain ⟨⟨s1, s2, s3, s4, s5, s6, s7, s8⟩, ⟨t1, t2, t3, t4, t5, t6⟩, f4, f5⟩ := H.out.all
  go_upto_region 28 with fail
  have hS0 := H.out.below (Below.refl y.heap.size y).drew
  clear H s1 s2 s3 s4 s5 s6 s7 s8 t1 t2 t3 t4 t5 t6 f4 f5
  refine wp_region_held_drew (S := fun X => ∃ s', DvS Wb E A b cap va vs s' s d at_ fr n x S w0 X) (by kernel_rfl) ⟨_, hS0⟩ (fun hHeld => ?_)
  refine wpAnyH_take (i := 0) (v := (.pointer (some ⟨Wb, 0, none⟩))) rfl (by kernel_rfl) (by kernel_rfl) (by kernel_rfl) (fun _ _ _ h => h) (Or.inl ⟨by rfl, fun X hS => ?_⟩) hHeld ?_
  · obtain ⟨s9x, hs9x⟩ := hS
    obtain ⟨⟨s1, s2, s3, s4, s5, s6, s7, s8⟩, ⟨t1, t2, t3, t4, t5, t6⟩, f4, f5⟩ := hs9x.all
    go_simp
  try simp only [Act.put, List.getElem_toArray, List.getElem_cons_zero, List.getElem_cons_succ, List.setIfInBounds_toArray, List.set_cons_zero, List.set_cons_succ]
  refine wpAnyH_take (i := 1) (v := (.pointer (some ⟨Wb, 0, none⟩))) rfl (by kernel_rfl) (by kernel_rfl) (by kernel_rfl) (fun _ _ _ h => h) (Or.inl ⟨by rfl, fun X hS => ?_⟩) hHeld ?_
  · obtain ⟨s9x, hs9x⟩ := hS
    obtain ⟨⟨s1, s2, s3, s4, s5, s6, s7, s8⟩, ⟨t1, t2, t3, t4, t5, t6⟩, f4, f5⟩ := hs9x.all
    go_simp
  try simp only [Act.put, List.getElem_toArray, List.getElem_cons_zero, List.getElem_cons_succ, List.setIfInBounds_toArray, List.set_cons_zero, List.set_cons_succ]
  refine wpAnyH_take (i := 2) (v := (.pointer (some ⟨Wb, 1, none⟩))) rfl (by kernel_rfl) (by kernel_rfl) (by kernel_rfl) (fun _ _ _ h => h) (Or.inl ⟨by rfl, fun X hS => ?_⟩) hHeld ?_
  · obtain ⟨s9x, hs9x⟩ := hS
    obtain ⟨⟨s1, s2, s3, s4, s5, s6, s7, s8⟩, ⟨t1, t2, t3, t4, t5, t6⟩, f4, f5⟩ := hs9x.all
    go_simp
  try simp only [Act.put, List.getElem_toArray, List.getElem_cons_zero, List.getElem_cons_succ, List.setIfInBounds_toArray, List.set_cons_zero, List.set_cons_succ]
  refine wpAnyH_take (i := 3) (v := (.agg #[.pointer (some ⟨A, 0, none⟩), .int .i64 (va : Int), .int .i64 (vs : Int)])) rfl (by kernel_rfl) (by kernel_rfl) (by kernel_rfl) (fun _ _ _ h => h) (Or.inl ⟨by rfl, fun X hS => ?_⟩) hHeld ?_
  · obtain ⟨s9x, hs9x⟩ := hS
    obtain ⟨⟨s1, s2, s3, s4, s5, s6, s7, s8⟩, ⟨t1, t2, t3, t4, t5, t6⟩, f4, f5⟩ := hs9x.all
    go_simp
  try simp only [Act.put, List.getElem_toArray, List.getElem_cons_zero, List.getElem_cons_succ, List.setIfInBounds_toArray, List.set_cons_zero, List.set_cons_succ]
  refine wpAnyH_take (i := 4) (v := (.pointer (some ⟨E, 1, none⟩))) rfl (by kernel_rfl) (by kernel_rfl) (by kernel_rfl) (fun _ _ _ h => h) (Or.inl ⟨by rfl, fun X hS => ?_⟩) hHeld ?_
  · obtain ⟨s9x, hs9x⟩ := hS
    obtain ⟨⟨s1, s2, s3, s4, s5, s6, s7, s8⟩, ⟨t1, t2, t3, t4, t5, t6⟩, f4, f5⟩ := hs9x.all
    go_simp
  try simp only [Act.put, List.getElem_toArray, List.getElem_cons_zero, List.getElem_cons_succ, List.setIfInBounds_toArray, List.set_cons_zero, List.set_cons_succ]
  refine wpAnyH_take (i := 5) (v := (.int .i64 at_)) rfl (by kernel_rfl) (by kernel_rfl) (by kernel_rfl) (fun _ _ _ h => h) (Or.inl ⟨by rfl, fun X hS => ?_⟩) hHeld ?_
  · obtain ⟨s9x, hs9x⟩ := hS
    obtain ⟨⟨s1, s2, s3, s4, s5, s6, s7, s8⟩, ⟨t1, t2, t3, t4, t5, t6⟩, f4, f5⟩ := hs9x.all
    go_simp
  try simp only [Act.put, List.getElem_toArray, List.getElem_cons_zero, List.getElem_cons_succ, List.setIfInBounds_toArray, List.set_cons_zero, List.set_cons_succ]
  refine wpAnyH_take (i := 6) (v := (.pointer (some ⟨E, 5, none⟩))) rfl (by kernel_rfl) (by kernel_rfl) (by kernel_rfl) (fun _ _ _ h => h) (Or.inl ⟨by rfl, fun X hS => ?_⟩) hHeld ?_
  · obtain ⟨s9x, hs9x⟩ := hS
    obtain ⟨⟨s1, s2, s3, s4, s5, s6, s7, s8⟩, ⟨t1, t2, t3, t4, t5, t6⟩, f4, f5⟩ := hs9x.all
    go_simp
  try simp only [Act.put, List.getElem_toArray, List.getElem_cons_zero, List.getElem_cons_succ, List.setIfInBounds_toArray, List.set_cons_zero, List.set_cons_succ]
  refine wpAnyH_take (i := 7) (v := (.string S)) rfl (by kernel_rfl) (by kernel_rfl) (by kernel_rfl) (fun _ _ _ h => h) (Or.inl ⟨by rfl, fun X hS => ?_⟩) hHeld ?_
  · obtain ⟨s9x, hs9x⟩ := hS
    obtain ⟨⟨s1, s2, s3, s4, s5, s6, s7, s8⟩, ⟨t1, t2, t3, t4, t5, t6⟩, f4, f5⟩ := hs9x.all
    go_simp
  try simp only [Act.put, List.getElem_toArray, List.getElem_cons_zero, List.getElem_cons_succ, List.setIfInBounds_toArray, List.set_cons_zero, List.set_cons_succ]
  have HD := Lib.hid hS0
  clear hS0 hHeld
  refine wpAnyH_ready (rs := [8]) (by kernel_rfl) (by simp) (AllReadyH.cons rfl (fun K1 hK1 => ?_) AllReadyH.nil)
  go_simp
  refine (HPC.out _ HD.out.x).mono ?_
  rintro e w2 ⟨rfl, hx, hg⟩
  have HD2 := Lib.hid (HD.out.went hx hg)
  clear hx hg
  refine hK1.out _ _ ⟨_, HD2.out⟩ (fun hHeld => ?_)
  clear hK1
  try simp only [Act.put, List.getElem_toArray, List.getElem_cons_zero, List.getElem_cons_succ, List.setIfInBounds_toArray, List.set_cons_zero, List.set_cons_succ]
  refine wpAnyH_take (i := 9) (v := (.int .i64 er)) rfl (by kernel_rfl) (by kernel_rfl) (by kernel_rfl) (fun _ _ _ h => h) (Or.inl ⟨by rfl, fun X hS => ?_⟩) hHeld ?_
  · obtain ⟨s9x, hs9x⟩ := hS
    obtain ⟨⟨s1, s2, s3, s4, s5, s6, s7, s8⟩, ⟨t1, t2, t3, t4, t5, t6⟩, f4, f5⟩ := hs9x.all
    go_simp
  try simp only [Act.put, List.getElem_toArray, List.getElem_cons_zero, List.getElem_cons_succ, List.setIfInBounds_toArray, List.set_cons_zero, List.set_cons_succ]
  clear hHeld
  refine wpAnyH_done (by kernel_rfl) ?_ _
  go_upto_region 29 with fail
  have hS0 := HD2.out.below (Below.refl w2.heap.size w2).drew
  clear HD2 HD
  refine wp_region_held_drew (S := fun X => (X.cell? ⟨E, 0, none⟩ = some (.int .u8 d) ∧ X.cell? ⟨E, 1, none⟩ = some (.int .i64 at_) ∧ X.cell? ⟨E, 2, none⟩ = some (.int .i64 fr) ∧ X.cell? ⟨E, 3, none⟩ = some (.int .i64 n) ∧ X.cell? ⟨E, 4, none⟩ = some (.int .u64 x) ∧ X.cell? ⟨E, 5, none⟩ = some (.string S)) ∧ X.cell? ⟨Wb, 6, none⟩ = some (.int .i64 (va : Int)) ∧ X.cell? ⟨Wb, 7, none⟩ = some (.int .i64 (vs : Int))) (by kernel_rfl) hS0.dd (fun hHeld => ?_)
  refine wpAnyH_take (i := 0) (v := (.pointer (some ⟨Wb, 0, none⟩))) rfl (by kernel_rfl) (by kernel_rfl) (by kernel_rfl) (fun _ _ _ h => h) (Or.inl ⟨by rfl, fun X hS => ?_⟩) hHeld ?_
  · obtain ⟨⟨t1, t2, t3, t4, t5, t6⟩, s7, s8⟩ := hS
    go_simp
  try simp only [Act.put, List.getElem_toArray, List.getElem_cons_zero, List.getElem_cons_succ, List.setIfInBounds_toArray, List.set_cons_zero, List.set_cons_succ]
  refine wpAnyH_take (i := 1) (v := (.pointer (some ⟨Wb, 0, none⟩))) rfl (by kernel_rfl) (by kernel_rfl) (by kernel_rfl) (fun _ _ _ h => h) (Or.inl ⟨by rfl, fun X hS => ?_⟩) hHeld ?_
  · obtain ⟨⟨t1, t2, t3, t4, t5, t6⟩, s7, s8⟩ := hS
    go_simp
  try simp only [Act.put, List.getElem_toArray, List.getElem_cons_zero, List.getElem_cons_succ, List.setIfInBounds_toArray, List.set_cons_zero, List.set_cons_succ]
  refine wpAnyH_take (i := 2) (v := (.pointer (some ⟨Wb, 0, none⟩))) rfl (by kernel_rfl) (by kernel_rfl) (by kernel_rfl) (fun _ _ _ h => h) (Or.inl ⟨by rfl, fun X hS => ?_⟩) hHeld ?_
  · obtain ⟨⟨t1, t2, t3, t4, t5, t6⟩, s7, s8⟩ := hS
    go_simp
  try simp only [Act.put, List.getElem_toArray, List.getElem_cons_zero, List.getElem_cons_succ, List.setIfInBounds_toArray, List.set_cons_zero, List.set_cons_succ]
  refine wpAnyH_take (i := 3) (v := (.pointer (some ⟨Wb, 4, none⟩))) rfl (by kernel_rfl) (by kernel_rfl) (by kernel_rfl) (fun _ _ _ h => h) (Or.inl ⟨by rfl, fun X hS => ?_⟩) hHeld ?_
  · obtain ⟨⟨t1, t2, t3, t4, t5, t6⟩, s7, s8⟩ := hS
    go_simp
  try simp only [Act.put, List.getElem_toArray, List.getElem_cons_zero, List.getElem_cons_succ, List.setIfInBounds_toArray, List.set_cons_zero, List.set_cons_succ]
  refine wpAnyH_take (i := 5) (v := (.pointer (some ⟨Wb, 0, none⟩))) rfl (by kernel_rfl) (by kernel_rfl) (by kernel_rfl) (fun _ _ _ h => h) (Or.inl ⟨by rfl, fun X hS => ?_⟩) hHeld ?_
  · obtain ⟨⟨t1, t2, t3, t4, t5, t6⟩, s7, s8⟩ := hS
    go_simp
  try simp only [Act.put, List.getElem_toArray, List.getElem_cons_zero, List.getElem_cons_succ, List.setIfInBounds_toArray, List.set_cons_zero, List.set_cons_succ]
  refine wpAnyH_take (i := 6) (v := (.pointer (some ⟨Wb, 0, none⟩))) rfl (by kernel_rfl) (by kernel_rfl) (by kernel_rfl) (fun _ _ _ h => h) (Or.inl ⟨by rfl, fun X hS => ?_⟩) hHeld ?_
  · obtain ⟨⟨t1, t2, t3, t4, t5, t6⟩, s7, s8⟩ := hS
    go_simp
  try simp only [Act.put, List.getElem_toArray, List.getElem_cons_zero, List.getElem_cons_succ, List.setIfInBounds_toArray, List.set_cons_zero, List.set_cons_succ]
  refine wpAnyH_take (i := 7) (v := (.pointer (some ⟨Wb, 6, none⟩))) rfl (by kernel_rfl) (by kernel_rfl) (by kernel_rfl) (fun _ _ _ h => h) (Or.inl ⟨by rfl, fun X hS => ?_⟩) hHeld ?_
  · obtain ⟨⟨t1, t2, t3, t4, t5, t6⟩, s7, s8⟩ := hS
    go_simp
  try simp only [Act.put, List.getElem_toArray, List.getElem_cons_zero, List.getElem_cons_succ, List.setIfInBounds_toArray, List.set_cons_zero, List.set_cons_succ]
  refine wpAnyH_take (i := 8) (v := (.agg #[.int .i64 (va : Int), .int .i64 (vs : Int)])) rfl (by kernel_rfl) (by kernel_rfl) (by kernel_rfl) (fun _ _ _ h => h) (Or.inl ⟨by rfl, fun X hS => ?_⟩) hHeld ?_
  · obtain ⟨⟨t1, t2, t3, t4, t5, t6⟩, s7, s8⟩ := hS
    go_simp
  try simp only [Act.put, List.getElem_toArray, List.getElem_cons_zero, List.getElem_cons_succ, List.setIfInBounds_toArray, List.set_cons_zero, List.set_cons_succ]
  refine wpAnyH_take (i := 9) (v := (.pointer (some ⟨E, 1, none⟩))) rfl (by kernel_rfl) (by kernel_rfl) (by kernel_rfl) (fun _ _ _ h => h) (Or.inl ⟨by rfl, fun X hS => ?_⟩) hHeld ?_
  · obtain ⟨⟨t1, t2, t3, t4, t5, t6⟩, s7, s8⟩ := hS
    go_simp
  try simp only [Act.put, List.getElem_toArray, List.getElem_cons_zero, List.getElem_cons_succ, List.setIfInBounds_toArray, List.set_cons_zero, List.set_cons_succ]
  refine wpAnyH_take (i := 10) (v := (.int .i64 at_)) rfl (by kernel_rfl) (by kernel_rfl) (by kernel_rfl) (fun _ _ _ h => h) (Or.inl ⟨by rfl, fun X hS => ?_⟩) hHeld ?_
  · obtain ⟨⟨t1, t2, t3, t4, t5, t6⟩, s7, s8⟩ := hS
    go_simp
  try simp only [Act.put, List.getElem_toArray, List.getElem_cons_zero, List.getElem_cons_succ, List.setIfInBounds_toArray, List.set_cons_zero, List.set_cons_succ]
  refine wpAnyH_take (i := 11) (v := (.pointer (some ⟨E, 5, none⟩))) rfl (by kernel_rfl) (by kernel_rfl) (by kernel_rfl) (fun _ _ _ h => h) (Or.inl ⟨by rfl, fun X hS => ?_⟩) hHeld ?_
  · obtain ⟨⟨t1, t2, t3, t4, t5, t6⟩, s7, s8⟩ := hS
    go_simp
  try simp only [Act.put, List.getElem_toArray, List.getElem_cons_zero, List.getElem_cons_succ, List.setIfInBounds_toArray, List.set_cons_zero, List.set_cons_succ]
  refine wpAnyH_take (i := 12) (v := (.string S)) rfl (by kernel_rfl) (by kernel_rfl) (by kernel_rfl) (fun _ _ _ h => h) (Or.inl ⟨by rfl, fun X hS => ?_⟩) hHeld ?_
  · obtain ⟨⟨t1, t2, t3, t4, t5, t6⟩, s7, s8⟩ := hS
    go_simp
  try simp only [Act.put, List.getElem_toArray, List.getElem_cons_zero, List.getElem_cons_succ, List.setIfInBounds_toArray, List.set_cons_zero, List.set_cons_succ]
  have HD := Lib.hid hS0
  clear hS0 hHeld
  refine wpAnyH_ready (rs := [4]) (by kernel_rfl) (by simp) (AllReadyH.cons rfl (fun K1 hK1 => ?_) AllReadyH.nil)
  obtain ⟨⟨s1, s2, s3, s4, s5, s6, s7, s8⟩, ⟨t1, t2, t3, t4, t5, t6⟩, f4, f5⟩ := HD.out.all
  go_simp
  clear s1 s2 s3 s4 s5 s6 s7 s8 t1 t2 t3 t4 t5 t6 f4 f5
  refine hK1.out _ _ HD.out.dd (fun hHeld => ?_)
  clear hK1
  try simp only [Act.put, List.getElem_toArray, List.getElem_cons_zero, List.getElem_cons_succ, List.setIfInBounds_toArray, List.set_cons_zero, List.set_cons_succ]
  clear hHeld
  refine wpAnyH_ready (rs := [13]) (by kernel_rfl) (by simp) (AllReadyH.cons rfl (fun K1 hK1 => ?_) AllReadyH.nil)
  go_simp
  refine (HDC.out _ HD.out.d).mono ?_
  rintro e w3 ⟨b2, cap2, rfl, hd2, hb⟩
  have HD3 := Lib.hid (HD.out.below hb)
  have HD4 := Lib.hid (HD3.out.put (cap2 := cap2) hd2)
  rw [HRS.out] at HD4
  clear hd2 hb
  refine hK1.out _ _ HD3.out.dd (fun hHeld => ?_)
  clear hK1
  try simp only [Act.put, List.getElem_toArray, List.getElem_cons_zero, List.getElem_cons_succ, List.setIfInBounds_toArray, List.set_cons_zero, List.set_cons_succ]
  refine wpAnyH_take (i := 14) (v := (.tuple #[.agg #[.slice (some ⟨b2, 0, none⟩) s'.L cap2, .int .i64 (refR s)], .int .i64 er])) rfl (by kernel_rfl) (by kernel_rfl) (by kernel_rfl) (fun _ _ _ h => h) (Or.inl ⟨by rfl, fun X hS => ?_⟩) hHeld ?_
  · obtain ⟨⟨t1, t2, t3, t4, t5, t6⟩, s7, s8⟩ := hS
    go_simp
  try simp only [Act.put, List.getElem_toArray, List.getElem_cons_zero, List.getElem_cons_succ, List.setIfInBounds_toArray, List.set_cons_zero, List.set_cons_succ]
  refine wpAnyH_take (i := 15) (v := (.agg #[.slice (some ⟨b2, 0, none⟩) s'.L cap2, .int .i64 (refR s)])) rfl (by kernel_rfl) (by kernel_rfl) (by kernel_rfl) (fun _ _ _ h => h) (Or.inl ⟨by rfl, fun X hS => ?_⟩) hHeld ?_
  · obtain ⟨⟨t1, t2, t3, t4, t5, t6⟩, s7, s8⟩ := hS
    go_simp
  try simp only [Act.put, List.getElem_toArray, List.getElem_cons_zero, List.getElem_cons_succ, List.setIfInBounds_toArray, List.set_cons_zero, List.set_cons_succ]
  refine wpAnyH_take (i := 16) (v := (.int .i64 er)) rfl (by kernel_rfl) (by kernel_rfl) (by kernel_rfl) (fun _ _ _ h => h) (Or.inl ⟨by rfl, fun X hS => ?_⟩) hHeld ?_
  · obtain ⟨⟨t1, t2, t3, t4, t5, t6⟩, s7, s8⟩ := hS
    go_simp
  try simp only [Act.put, List.getElem_toArray, List.getElem_cons_zero, List.getElem_cons_succ, List.setIfInBounds_toArray, List.set_cons_zero, List.set_cons_succ]
  refine wpAnyH_take (i := 17) (v := (.pointer (some ⟨Wb, 0, none⟩))) rfl (by kernel_rfl) (by kernel_rfl) (by kernel_rfl) (fun _ _ _ h => h) (Or.inl ⟨by rfl, fun X hS => ?_⟩) hHeld ?_
  · obtain ⟨⟨t1, t2, t3, t4, t5, t6⟩, s7, s8⟩ := hS
    go_simp
  try simp only [Act.put, List.getElem_toArray, List.getElem_cons_zero, List.getElem_cons_succ, List.setIfInBounds_toArray, List.set_cons_zero, List.set_cons_succ]
  refine wpAnyH_take (i := 18) (v := (.pointer (some ⟨Wb, 4, none⟩))) rfl (by kernel_rfl) (by kernel_rfl) (by kernel_rfl) (fun _ _ _ h => h) (Or.inl ⟨by rfl, fun X hS => ?_⟩) hHeld ?_
  · obtain ⟨⟨t1, t2, t3, t4, t5, t6⟩, s7, s8⟩ := hS
    go_simp
  try simp only [Act.put, List.getElem_toArray, List.getElem_cons_zero, List.getElem_cons_succ, List.setIfInBounds_toArray, List.set_cons_zero, List.set_cons_succ]
  clear hHeld
  obtain ⟨⟨s1, s2, s3, s4, s5, s6, s7, s8⟩, ⟨t1, t2, t3, t4, t5, t6⟩, f4, f5⟩ := HD3.out.all
  refine wpAnyH_ready (rs := [19]) (by kernel_rfl) (by simp) (AllReadyH.cons rfl (fun K1 hK1 => ?_) AllReadyH.nil)
  go_simp
  refine hK1.out _ _ HD4.out.dd (fun hHeld => ?_)
  clear hK1
  try simp only [Act.put, List.getElem_toArray, List.getElem_cons_zero, List.getElem_cons_succ, List.setIfInBounds_toArray, List.set_cons_zero, List.set_cons_succ]
  clear s1 s2 s3 s4 s5 s6 s7 s8 t1 t2 t3 t4 t5 t6 f4 f5
  refine wpAnyH_take (i := 20) (v := (.int .i64 er)) rfl (by kernel_rfl) (by kernel_rfl) (by kernel_rfl) (fun _ _ _ h => h) (Or.inl ⟨by rfl, fun X hS => ?_⟩) hHeld ?_
  · obtain ⟨⟨t1, t2, t3, t4, t5, t6⟩, s7, s8⟩ := hS
    go_simp
  try simp only [Act.put, List.getElem_toArray, List.getElem_cons_zero, List.getElem_cons_succ, List.setIfInBounds_toArray, List.set_cons_zero, List.set_cons_succ]
  clear hHeld
  refine wpAnyH_done (by kernel_rfl) ?_ _
  have hee : (er == er) = true := by simp
  go_wp2_with fail
  go_ret
  exact ⟨b2, cap2, va, vs, s', rfl, HSL.out, HD4.out.fin⟩
end Go.Proofs.Ytdmaendhkenmgaa.Bt
/- law04's do: Fill. (Written by gen_dve.py.) -/
namespace Go.Proofs.Ytdmaendhkenmgaa.Bt
open Go Go.RowKit Go.Shelf
set_option linter.unusedVariables false
set_option linter.unusedSimpArgs false

set_option maxHeartbeats 8000000 in
set_option maxRecDepth 100000 in
theorem dvo_fill {Wb A b cap va vs : Nat} {s : ASt} {d at_ fr n x : Int} {S : ByteArray} {w0 w : World} (h : DvW Wb A b cap va vs s w0 w) (hL : s.L ≤ 8) (hd : d.tmod 10 = 7) (hd0 : 0 ≤ d ∧ d ≤ 255) (ha : -9223372036854775808 ≤ at_ ∧ at_ ≤ 9223372036854775807) (hf : -9223372036854775808 ≤ fr ∧ fr ≤ 9223372036854775807) (hn : -9223372036854775808 ≤ n ∧ n ≤ 9223372036854775807) (hx : 0 ≤ x ∧ x < 18446744073709551616) (hS : S.size ≤ 9223372036854775807) :
    Calls Try.prog 28 #[.pointer (some ⟨Wb, 0, none⟩), .agg #[.int .u8 d, .int .i64 at_, .int .i64 fr, .int .i64 n, .int .u64 x, .string S]] w (DvP Wb A s.L w0) := by
  obtain ⟨Y, hY⟩ : ∃ Y : UInt8, IntKind.u8.wrap x = (Y.toNat : Int) := ⟨UInt8.ofNat (x.toNat % 256), by rw [IntKind.wrap_u8]; simp; omega⟩
  have HQY := Lib.hid hY
  clear hY
  obtain ⟨s', hs'⟩ : ∃ s', fillS s (addrV va vs at_ n) n Y = s' := ⟨_, rfl⟩
  obtain ⟨er, her⟩ : ∃ er, thereE s.L s.es (addrV va vs at_ n) n = er := ⟨_, rfl⟩
  have hv1 := h.hva
  have hv2 := h.hvs
  have HPC := Lib.hid (fun (y : World) (hy : On A s y) => on_fill hy va vs hv1 hv2 at_ n (by omega) Y)
  have HDC := Lib.hid (fun (y : World) (hy : DocB b (gS s) y) => rv_fill (cap := cap) h.x.good hL hv1 hv2 rfl at_ n Y ha hn hy)
  rw [hs', her] at HPC HDC
  have HSL : Hid (s'.L = s.L) := Lib.hid (by rw [← hs']; unfold fillS; split <;> rfl)
  have HRS : Hid (refR s' = refR s) := Lib.hid (by rw [← hs']; unfold fillS; split <;> rfl)
  clear hs' her hf hn hx hS hv1 hv2
  have hE := heap_new w (.cells #[.int .u8 d, .int .i64 at_, .int .i64 fr, .int .i64 n, .int .u64 x, .string S] 36)
  have hb0 := bel1 w (.cells #[.int .u8 d, .int .i64 at_, .int .i64 fr, .int .i64 n, .int .u64 x, .string S] 36)
  have hds := h.start hE hb0
  clear hE hb0
  go_enter Try.func28, Try.ntmps28
  go_upto_region 1 with fail
  change Code.wp _ _ _ _ (w.alloc (.cells #[.int .u8 d, .int .i64 at_, .int .i64 fr, .int .i64 n, .int .u64 x, .string S] 36))
  obtain ⟨y, hy⟩ : ∃ y, w.alloc (.cells #[.int .u8 d, .int .i64 at_, .int .i64 fr, .int .i64 n, .int .u64 x, .string S] 36) = y := ⟨_, rfl⟩
  obtain ⟨E, hEE⟩ : ∃ E, w.heap.size = E := ⟨_, rfl⟩
  rw [hy, hEE] at hds
  rw [hy, hEE]
  have H := Lib.hid hds
  clear hy hEE hds
  obtain ⟨⟨s1, s2, s3, s4, s5, s6, s7, s8⟩, ⟨t1, t2, t3, t4, t5, t6⟩, f4, f5⟩ := H.out.all
  go_upto_region 31 with fail
  have hS0 := H.out.below (Below.refl y.heap.size y).drew
  clear H s1 s2 s3 s4 s5 s6 s7 s8 t1 t2 t3 t4 t5 t6 f4 f5
  refine wp_region_held_drew (S := fun X => ∃ s', DvS Wb E A b cap va vs s' s d at_ fr n x S w0 X) (by kernel_rfl) ⟨_, hS0⟩ (fun hHeld => ?_)
  refine wpAnyH_take (i := 0) (v := (.pointer (some ⟨Wb, 0, none⟩))) rfl (by kernel_rfl) (by kernel_rfl) (by kernel_rfl) (fun _ _ _ h => h) (Or.inl ⟨by rfl, fun X hS => ?_⟩) hHeld ?_
  · obtain ⟨s9x, hs9x⟩ := hS
    obtain ⟨⟨s1, s2, s3, s4, s5, s6, s7, s8⟩, ⟨t1, t2, t3, t4, t5, t6⟩, f4, f5⟩ := hs9x.all
    go_simp
  try simp only [Act.put, List.getElem_toArray, List.getElem_cons_zero, List.getElem_cons_succ, List.setIfInBounds_toArray, List.set_cons_zero, List.set_cons_succ]
  refine wpAnyH_take (i := 1) (v := (.pointer (some ⟨Wb, 0, none⟩))) rfl (by kernel_rfl) (by kernel_rfl) (by kernel_rfl) (fun _ _ _ h => h) (Or.inl ⟨by rfl, fun X hS => ?_⟩) hHeld ?_
  · obtain ⟨s9x, hs9x⟩ := hS
    obtain ⟨⟨s1, s2, s3, s4, s5, s6, s7, s8⟩, ⟨t1, t2, t3, t4, t5, t6⟩, f4, f5⟩ := hs9x.all
    go_simp
  try simp only [Act.put, List.getElem_toArray, List.getElem_cons_zero, List.getElem_cons_succ, List.setIfInBounds_toArray, List.set_cons_zero, List.set_cons_succ]
  refine wpAnyH_take (i := 2) (v := (.pointer (some ⟨Wb, 1, none⟩))) rfl (by kernel_rfl) (by kernel_rfl) (by kernel_rfl) (fun _ _ _ h => h) (Or.inl ⟨by rfl, fun X hS => ?_⟩) hHeld ?_
  · obtain ⟨s9x, hs9x⟩ := hS
    obtain ⟨⟨s1, s2, s3, s4, s5, s6, s7, s8⟩, ⟨t1, t2, t3, t4, t5, t6⟩, f4, f5⟩ := hs9x.all
    go_simp
  try simp only [Act.put, List.getElem_toArray, List.getElem_cons_zero, List.getElem_cons_succ, List.setIfInBounds_toArray, List.set_cons_zero, List.set_cons_succ]
  refine wpAnyH_take (i := 3) (v := (.agg #[.pointer (some ⟨A, 0, none⟩), .int .i64 (va : Int), .int .i64 (vs : Int)])) rfl (by kernel_rfl) (by kernel_rfl) (by kernel_rfl) (fun _ _ _ h => h) (Or.inl ⟨by rfl, fun X hS => ?_⟩) hHeld ?_
  · obtain ⟨s9x, hs9x⟩ := hS
    obtain ⟨⟨s1, s2, s3, s4, s5, s6, s7, s8⟩, ⟨t1, t2, t3, t4, t5, t6⟩, f4, f5⟩ := hs9x.all
    go_simp
  try simp only [Act.put, List.getElem_toArray, List.getElem_cons_zero, List.getElem_cons_succ, List.setIfInBounds_toArray, List.set_cons_zero, List.set_cons_succ]
  refine wpAnyH_take (i := 4) (v := (.pointer (some ⟨E, 1, none⟩))) rfl (by kernel_rfl) (by kernel_rfl) (by kernel_rfl) (fun _ _ _ h => h) (Or.inl ⟨by rfl, fun X hS => ?_⟩) hHeld ?_
  · obtain ⟨s9x, hs9x⟩ := hS
    obtain ⟨⟨s1, s2, s3, s4, s5, s6, s7, s8⟩, ⟨t1, t2, t3, t4, t5, t6⟩, f4, f5⟩ := hs9x.all
    go_simp
  try simp only [Act.put, List.getElem_toArray, List.getElem_cons_zero, List.getElem_cons_succ, List.setIfInBounds_toArray, List.set_cons_zero, List.set_cons_succ]
  refine wpAnyH_take (i := 5) (v := (.int .i64 at_)) rfl (by kernel_rfl) (by kernel_rfl) (by kernel_rfl) (fun _ _ _ h => h) (Or.inl ⟨by rfl, fun X hS => ?_⟩) hHeld ?_
  · obtain ⟨s9x, hs9x⟩ := hS
    obtain ⟨⟨s1, s2, s3, s4, s5, s6, s7, s8⟩, ⟨t1, t2, t3, t4, t5, t6⟩, f4, f5⟩ := hs9x.all
    go_simp
  try simp only [Act.put, List.getElem_toArray, List.getElem_cons_zero, List.getElem_cons_succ, List.setIfInBounds_toArray, List.set_cons_zero, List.set_cons_succ]
  refine wpAnyH_take (i := 6) (v := (.pointer (some ⟨E, 3, none⟩))) rfl (by kernel_rfl) (by kernel_rfl) (by kernel_rfl) (fun _ _ _ h => h) (Or.inl ⟨by rfl, fun X hS => ?_⟩) hHeld ?_
  · obtain ⟨s9x, hs9x⟩ := hS
    obtain ⟨⟨s1, s2, s3, s4, s5, s6, s7, s8⟩, ⟨t1, t2, t3, t4, t5, t6⟩, f4, f5⟩ := hs9x.all
    go_simp
  try simp only [Act.put, List.getElem_toArray, List.getElem_cons_zero, List.getElem_cons_succ, List.setIfInBounds_toArray, List.set_cons_zero, List.set_cons_succ]
  refine wpAnyH_take (i := 7) (v := (.int .i64 n)) rfl (by kernel_rfl) (by kernel_rfl) (by kernel_rfl) (fun _ _ _ h => h) (Or.inl ⟨by rfl, fun X hS => ?_⟩) hHeld ?_
  · obtain ⟨s9x, hs9x⟩ := hS
    obtain ⟨⟨s1, s2, s3, s4, s5, s6, s7, s8⟩, ⟨t1, t2, t3, t4, t5, t6⟩, f4, f5⟩ := hs9x.all
    go_simp
  try simp only [Act.put, List.getElem_toArray, List.getElem_cons_zero, List.getElem_cons_succ, List.setIfInBounds_toArray, List.set_cons_zero, List.set_cons_succ]
  refine wpAnyH_take (i := 8) (v := (.pointer (some ⟨E, 4, none⟩))) rfl (by kernel_rfl) (by kernel_rfl) (by kernel_rfl) (fun _ _ _ h => h) (Or.inl ⟨by rfl, fun X hS => ?_⟩) hHeld ?_
  · obtain ⟨s9x, hs9x⟩ := hS
    obtain ⟨⟨s1, s2, s3, s4, s5, s6, s7, s8⟩, ⟨t1, t2, t3, t4, t5, t6⟩, f4, f5⟩ := hs9x.all
    go_simp
  try simp only [Act.put, List.getElem_toArray, List.getElem_cons_zero, List.getElem_cons_succ, List.setIfInBounds_toArray, List.set_cons_zero, List.set_cons_succ]
  refine wpAnyH_take (i := 9) (v := (.int .u64 x)) rfl (by kernel_rfl) (by kernel_rfl) (by kernel_rfl) (fun _ _ _ h => h) (Or.inl ⟨by rfl, fun X hS => ?_⟩) hHeld ?_
  · obtain ⟨s9x, hs9x⟩ := hS
    obtain ⟨⟨s1, s2, s3, s4, s5, s6, s7, s8⟩, ⟨t1, t2, t3, t4, t5, t6⟩, f4, f5⟩ := hs9x.all
    go_simp
  try simp only [Act.put, List.getElem_toArray, List.getElem_cons_zero, List.getElem_cons_succ, List.setIfInBounds_toArray, List.set_cons_zero, List.set_cons_succ]
  refine wpAnyH_take (i := 10) (v := (.int .u8 (Y.toNat : Int))) rfl (by kernel_rfl) (by kernel_rfl) (by kernel_rfl) (fun _ _ _ h => h) (Or.inl ⟨by rfl, fun X hS => ?_⟩) hHeld ?_
  · obtain ⟨s9x, hs9x⟩ := hS
    obtain ⟨⟨s1, s2, s3, s4, s5, s6, s7, s8⟩, ⟨t1, t2, t3, t4, t5, t6⟩, f4, f5⟩ := hs9x.all
    have hqy := HQY.out
    go_simp
  try simp only [Act.put, List.getElem_toArray, List.getElem_cons_zero, List.getElem_cons_succ, List.setIfInBounds_toArray, List.set_cons_zero, List.set_cons_succ]
  have HD := Lib.hid hS0
  clear hS0 hHeld
  refine wpAnyH_ready (rs := [11]) (by kernel_rfl) (by simp) (AllReadyH.cons rfl (fun K1 hK1 => ?_) AllReadyH.nil)
  go_simp
  refine (HPC.out _ HD.out.x).mono ?_
  rintro e w2 ⟨rfl, hx, hg⟩
  have HD2 := Lib.hid (HD.out.went hx hg)
  clear hx hg
  refine hK1.out _ _ ⟨_, HD2.out⟩ (fun hHeld => ?_)
  clear hK1
  try simp only [Act.put, List.getElem_toArray, List.getElem_cons_zero, List.getElem_cons_succ, List.setIfInBounds_toArray, List.set_cons_zero, List.set_cons_succ]
  refine wpAnyH_take (i := 12) (v := (.int .i64 er)) rfl (by kernel_rfl) (by kernel_rfl) (by kernel_rfl) (fun _ _ _ h => h) (Or.inl ⟨by rfl, fun X hS => ?_⟩) hHeld ?_
  · obtain ⟨s9x, hs9x⟩ := hS
    obtain ⟨⟨s1, s2, s3, s4, s5, s6, s7, s8⟩, ⟨t1, t2, t3, t4, t5, t6⟩, f4, f5⟩ := hs9x.all
    go_simp
  try simp only [Act.put, List.getElem_toArray, List.getElem_cons_zero, List.getElem_cons_succ, List.setIfInBounds_toArray, List.set_cons_zero, List.set_cons_succ]
  clear hHeld
  refine wpAnyH_done (by kernel_rfl) ?_ _
  go_upto_region 32 with fail
  have hS0 := HD2.out.below (Below.refl w2.heap.size w2).drew
  clear HD2 HD
  refine wp_region_held_drew (S := fun X => (X.cell? ⟨E, 0, none⟩ = some (.int .u8 d) ∧ X.cell? ⟨E, 1, none⟩ = some (.int .i64 at_) ∧ X.cell? ⟨E, 2, none⟩ = some (.int .i64 fr) ∧ X.cell? ⟨E, 3, none⟩ = some (.int .i64 n) ∧ X.cell? ⟨E, 4, none⟩ = some (.int .u64 x) ∧ X.cell? ⟨E, 5, none⟩ = some (.string S)) ∧ X.cell? ⟨Wb, 6, none⟩ = some (.int .i64 (va : Int)) ∧ X.cell? ⟨Wb, 7, none⟩ = some (.int .i64 (vs : Int))) (by kernel_rfl) hS0.dd (fun hHeld => ?_)
  refine wpAnyH_take (i := 0) (v := (.pointer (some ⟨Wb, 0, none⟩))) rfl (by kernel_rfl) (by kernel_rfl) (by kernel_rfl) (fun _ _ _ h => h) (Or.inl ⟨by rfl, fun X hS => ?_⟩) hHeld ?_
  · obtain ⟨⟨t1, t2, t3, t4, t5, t6⟩, s7, s8⟩ := hS
    go_simp
  try simp only [Act.put, List.getElem_toArray, List.getElem_cons_zero, List.getElem_cons_succ, List.setIfInBounds_toArray, List.set_cons_zero, List.set_cons_succ]
  refine wpAnyH_take (i := 1) (v := (.pointer (some ⟨Wb, 0, none⟩))) rfl (by kernel_rfl) (by kernel_rfl) (by kernel_rfl) (fun _ _ _ h => h) (Or.inl ⟨by rfl, fun X hS => ?_⟩) hHeld ?_
  · obtain ⟨⟨t1, t2, t3, t4, t5, t6⟩, s7, s8⟩ := hS
    go_simp
  try simp only [Act.put, List.getElem_toArray, List.getElem_cons_zero, List.getElem_cons_succ, List.setIfInBounds_toArray, List.set_cons_zero, List.set_cons_succ]
  refine wpAnyH_take (i := 2) (v := (.pointer (some ⟨Wb, 0, none⟩))) rfl (by kernel_rfl) (by kernel_rfl) (by kernel_rfl) (fun _ _ _ h => h) (Or.inl ⟨by rfl, fun X hS => ?_⟩) hHeld ?_
  · obtain ⟨⟨t1, t2, t3, t4, t5, t6⟩, s7, s8⟩ := hS
    go_simp
  try simp only [Act.put, List.getElem_toArray, List.getElem_cons_zero, List.getElem_cons_succ, List.setIfInBounds_toArray, List.set_cons_zero, List.set_cons_succ]
  refine wpAnyH_take (i := 3) (v := (.pointer (some ⟨Wb, 4, none⟩))) rfl (by kernel_rfl) (by kernel_rfl) (by kernel_rfl) (fun _ _ _ h => h) (Or.inl ⟨by rfl, fun X hS => ?_⟩) hHeld ?_
  · obtain ⟨⟨t1, t2, t3, t4, t5, t6⟩, s7, s8⟩ := hS
    go_simp
  try simp only [Act.put, List.getElem_toArray, List.getElem_cons_zero, List.getElem_cons_succ, List.setIfInBounds_toArray, List.set_cons_zero, List.set_cons_succ]
  refine wpAnyH_take (i := 5) (v := (.pointer (some ⟨Wb, 0, none⟩))) rfl (by kernel_rfl) (by kernel_rfl) (by kernel_rfl) (fun _ _ _ h => h) (Or.inl ⟨by rfl, fun X hS => ?_⟩) hHeld ?_
  · obtain ⟨⟨t1, t2, t3, t4, t5, t6⟩, s7, s8⟩ := hS
    go_simp
  try simp only [Act.put, List.getElem_toArray, List.getElem_cons_zero, List.getElem_cons_succ, List.setIfInBounds_toArray, List.set_cons_zero, List.set_cons_succ]
  refine wpAnyH_take (i := 6) (v := (.pointer (some ⟨Wb, 0, none⟩))) rfl (by kernel_rfl) (by kernel_rfl) (by kernel_rfl) (fun _ _ _ h => h) (Or.inl ⟨by rfl, fun X hS => ?_⟩) hHeld ?_
  · obtain ⟨⟨t1, t2, t3, t4, t5, t6⟩, s7, s8⟩ := hS
    go_simp
  try simp only [Act.put, List.getElem_toArray, List.getElem_cons_zero, List.getElem_cons_succ, List.setIfInBounds_toArray, List.set_cons_zero, List.set_cons_succ]
  refine wpAnyH_take (i := 7) (v := (.pointer (some ⟨Wb, 6, none⟩))) rfl (by kernel_rfl) (by kernel_rfl) (by kernel_rfl) (fun _ _ _ h => h) (Or.inl ⟨by rfl, fun X hS => ?_⟩) hHeld ?_
  · obtain ⟨⟨t1, t2, t3, t4, t5, t6⟩, s7, s8⟩ := hS
    go_simp
  try simp only [Act.put, List.getElem_toArray, List.getElem_cons_zero, List.getElem_cons_succ, List.setIfInBounds_toArray, List.set_cons_zero, List.set_cons_succ]
  refine wpAnyH_take (i := 8) (v := (.agg #[.int .i64 (va : Int), .int .i64 (vs : Int)])) rfl (by kernel_rfl) (by kernel_rfl) (by kernel_rfl) (fun _ _ _ h => h) (Or.inl ⟨by rfl, fun X hS => ?_⟩) hHeld ?_
  · obtain ⟨⟨t1, t2, t3, t4, t5, t6⟩, s7, s8⟩ := hS
    go_simp
  try simp only [Act.put, List.getElem_toArray, List.getElem_cons_zero, List.getElem_cons_succ, List.setIfInBounds_toArray, List.set_cons_zero, List.set_cons_succ]
  refine wpAnyH_take (i := 9) (v := (.pointer (some ⟨E, 1, none⟩))) rfl (by kernel_rfl) (by kernel_rfl) (by kernel_rfl) (fun _ _ _ h => h) (Or.inl ⟨by rfl, fun X hS => ?_⟩) hHeld ?_
  · obtain ⟨⟨t1, t2, t3, t4, t5, t6⟩, s7, s8⟩ := hS
    go_simp
  try simp only [Act.put, List.getElem_toArray, List.getElem_cons_zero, List.getElem_cons_succ, List.setIfInBounds_toArray, List.set_cons_zero, List.set_cons_succ]
  refine wpAnyH_take (i := 10) (v := (.int .i64 at_)) rfl (by kernel_rfl) (by kernel_rfl) (by kernel_rfl) (fun _ _ _ h => h) (Or.inl ⟨by rfl, fun X hS => ?_⟩) hHeld ?_
  · obtain ⟨⟨t1, t2, t3, t4, t5, t6⟩, s7, s8⟩ := hS
    go_simp
  try simp only [Act.put, List.getElem_toArray, List.getElem_cons_zero, List.getElem_cons_succ, List.setIfInBounds_toArray, List.set_cons_zero, List.set_cons_succ]
  refine wpAnyH_take (i := 11) (v := (.pointer (some ⟨E, 3, none⟩))) rfl (by kernel_rfl) (by kernel_rfl) (by kernel_rfl) (fun _ _ _ h => h) (Or.inl ⟨by rfl, fun X hS => ?_⟩) hHeld ?_
  · obtain ⟨⟨t1, t2, t3, t4, t5, t6⟩, s7, s8⟩ := hS
    go_simp
  try simp only [Act.put, List.getElem_toArray, List.getElem_cons_zero, List.getElem_cons_succ, List.setIfInBounds_toArray, List.set_cons_zero, List.set_cons_succ]
  refine wpAnyH_take (i := 12) (v := (.int .i64 n)) rfl (by kernel_rfl) (by kernel_rfl) (by kernel_rfl) (fun _ _ _ h => h) (Or.inl ⟨by rfl, fun X hS => ?_⟩) hHeld ?_
  · obtain ⟨⟨t1, t2, t3, t4, t5, t6⟩, s7, s8⟩ := hS
    go_simp
  try simp only [Act.put, List.getElem_toArray, List.getElem_cons_zero, List.getElem_cons_succ, List.setIfInBounds_toArray, List.set_cons_zero, List.set_cons_succ]
  refine wpAnyH_take (i := 13) (v := (.pointer (some ⟨E, 4, none⟩))) rfl (by kernel_rfl) (by kernel_rfl) (by kernel_rfl) (fun _ _ _ h => h) (Or.inl ⟨by rfl, fun X hS => ?_⟩) hHeld ?_
  · obtain ⟨⟨t1, t2, t3, t4, t5, t6⟩, s7, s8⟩ := hS
    go_simp
  try simp only [Act.put, List.getElem_toArray, List.getElem_cons_zero, List.getElem_cons_succ, List.setIfInBounds_toArray, List.set_cons_zero, List.set_cons_succ]
  refine wpAnyH_take (i := 14) (v := (.int .u64 x)) rfl (by kernel_rfl) (by kernel_rfl) (by kernel_rfl) (fun _ _ _ h => h) (Or.inl ⟨by rfl, fun X hS => ?_⟩) hHeld ?_
  · obtain ⟨⟨t1, t2, t3, t4, t5, t6⟩, s7, s8⟩ := hS
    go_simp
  try simp only [Act.put, List.getElem_toArray, List.getElem_cons_zero, List.getElem_cons_succ, List.setIfInBounds_toArray, List.set_cons_zero, List.set_cons_succ]
  refine wpAnyH_take (i := 15) (v := (.int .u8 (Y.toNat : Int))) rfl (by kernel_rfl) (by kernel_rfl) (by kernel_rfl) (fun _ _ _ h => h) (Or.inl ⟨by rfl, fun X hS => ?_⟩) hHeld ?_
  · obtain ⟨⟨t1, t2, t3, t4, t5, t6⟩, s7, s8⟩ := hS
    have hqy := HQY.out
    go_simp
  try simp only [Act.put, List.getElem_toArray, List.getElem_cons_zero, List.getElem_cons_succ, List.setIfInBounds_toArray, List.set_cons_zero, List.set_cons_succ]
  have HD := Lib.hid hS0
  clear hS0 hHeld
  refine wpAnyH_ready (rs := [4]) (by kernel_rfl) (by simp) (AllReadyH.cons rfl (fun K1 hK1 => ?_) AllReadyH.nil)
  obtain ⟨⟨s1, s2, s3, s4, s5, s6, s7, s8⟩, ⟨t1, t2, t3, t4, t5, t6⟩, f4, f5⟩ := HD.out.all
  go_simp
  clear s1 s2 s3 s4 s5 s6 s7 s8 t1 t2 t3 t4 t5 t6 f4 f5
  refine hK1.out _ _ HD.out.dd (fun hHeld => ?_)
  clear hK1
  try simp only [Act.put, List.getElem_toArray, List.getElem_cons_zero, List.getElem_cons_succ, List.setIfInBounds_toArray, List.set_cons_zero, List.set_cons_succ]
  clear hHeld
  refine wpAnyH_ready (rs := [16]) (by kernel_rfl) (by simp) (AllReadyH.cons rfl (fun K1 hK1 => ?_) AllReadyH.nil)
  go_simp
  refine (HDC.out _ HD.out.d).mono ?_
  rintro e w3 ⟨b2, cap2, rfl, hd2, hb⟩
  have HD3 := Lib.hid (HD.out.below hb)
  have HD4 := Lib.hid (HD3.out.put (cap2 := cap2) hd2)
  rw [HRS.out] at HD4
  clear hd2 hb
  refine hK1.out _ _ HD3.out.dd (fun hHeld => ?_)
  clear hK1
  try simp only [Act.put, List.getElem_toArray, List.getElem_cons_zero, List.getElem_cons_succ, List.setIfInBounds_toArray, List.set_cons_zero, List.set_cons_succ]
  refine wpAnyH_take (i := 17) (v := (.tuple #[.agg #[.slice (some ⟨b2, 0, none⟩) s'.L cap2, .int .i64 (refR s)], .int .i64 er])) rfl (by kernel_rfl) (by kernel_rfl) (by kernel_rfl) (fun _ _ _ h => h) (Or.inl ⟨by rfl, fun X hS => ?_⟩) hHeld ?_
  · obtain ⟨⟨t1, t2, t3, t4, t5, t6⟩, s7, s8⟩ := hS
    go_simp
  try simp only [Act.put, List.getElem_toArray, List.getElem_cons_zero, List.getElem_cons_succ, List.setIfInBounds_toArray, List.set_cons_zero, List.set_cons_succ]
  refine wpAnyH_take (i := 18) (v := (.agg #[.slice (some ⟨b2, 0, none⟩) s'.L cap2, .int .i64 (refR s)])) rfl (by kernel_rfl) (by kernel_rfl) (by kernel_rfl) (fun _ _ _ h => h) (Or.inl ⟨by rfl, fun X hS => ?_⟩) hHeld ?_
  · obtain ⟨⟨t1, t2, t3, t4, t5, t6⟩, s7, s8⟩ := hS
    go_simp
  try simp only [Act.put, List.getElem_toArray, List.getElem_cons_zero, List.getElem_cons_succ, List.setIfInBounds_toArray, List.set_cons_zero, List.set_cons_succ]
  refine wpAnyH_take (i := 19) (v := (.int .i64 er)) rfl (by kernel_rfl) (by kernel_rfl) (by kernel_rfl) (fun _ _ _ h => h) (Or.inl ⟨by rfl, fun X hS => ?_⟩) hHeld ?_
  · obtain ⟨⟨t1, t2, t3, t4, t5, t6⟩, s7, s8⟩ := hS
    go_simp
  try simp only [Act.put, List.getElem_toArray, List.getElem_cons_zero, List.getElem_cons_succ, List.setIfInBounds_toArray, List.set_cons_zero, List.set_cons_succ]
  refine wpAnyH_take (i := 20) (v := (.pointer (some ⟨Wb, 0, none⟩))) rfl (by kernel_rfl) (by kernel_rfl) (by kernel_rfl) (fun _ _ _ h => h) (Or.inl ⟨by rfl, fun X hS => ?_⟩) hHeld ?_
  · obtain ⟨⟨t1, t2, t3, t4, t5, t6⟩, s7, s8⟩ := hS
    go_simp
  try simp only [Act.put, List.getElem_toArray, List.getElem_cons_zero, List.getElem_cons_succ, List.setIfInBounds_toArray, List.set_cons_zero, List.set_cons_succ]
  refine wpAnyH_take (i := 21) (v := (.pointer (some ⟨Wb, 4, none⟩))) rfl (by kernel_rfl) (by kernel_rfl) (by kernel_rfl) (fun _ _ _ h => h) (Or.inl ⟨by rfl, fun X hS => ?_⟩) hHeld ?_
  · obtain ⟨⟨t1, t2, t3, t4, t5, t6⟩, s7, s8⟩ := hS
    go_simp
  try simp only [Act.put, List.getElem_toArray, List.getElem_cons_zero, List.getElem_cons_succ, List.setIfInBounds_toArray, List.set_cons_zero, List.set_cons_succ]
  clear hHeld
  obtain ⟨⟨s1, s2, s3, s4, s5, s6, s7, s8⟩, ⟨t1, t2, t3, t4, t5, t6⟩, f4, f5⟩ := HD3.out.all
  refine wpAnyH_ready (rs := [22]) (by kernel_rfl) (by simp) (AllReadyH.cons rfl (fun K1 hK1 => ?_) AllReadyH.nil)
  go_simp
  refine hK1.out _ _ HD4.out.dd (fun hHeld => ?_)
  clear hK1
  try simp only [Act.put, List.getElem_toArray, List.getElem_cons_zero, List.getElem_cons_succ, List.setIfInBounds_toArray, List.set_cons_zero, List.set_cons_succ]
  clear s1 s2 s3 s4 s5 s6 s7 s8 t1 t2 t3 t4 t5 t6 f4 f5
  refine wpAnyH_take (i := 23) (v := (.int .i64 er)) rfl (by kernel_rfl) (by kernel_rfl) (by kernel_rfl) (fun _ _ _ h => h) (Or.inl ⟨by rfl, fun X hS => ?_⟩) hHeld ?_
  · obtain ⟨⟨t1, t2, t3, t4, t5, t6⟩, s7, s8⟩ := hS
    go_simp
  try simp only [Act.put, List.getElem_toArray, List.getElem_cons_zero, List.getElem_cons_succ, List.setIfInBounds_toArray, List.set_cons_zero, List.set_cons_succ]
  clear hHeld
  refine wpAnyH_done (by kernel_rfl) ?_ _
  have hee : (er == er) = true := by simp
  go_wp2_with fail
  go_ret
  exact ⟨b2, cap2, va, vs, s', rfl, HSL.out, HD4.out.fin⟩
end Go.Proofs.Ytdmaendhkenmgaa.Bt
/- law04's do: Copy. (Written by gen_dve.py.) -/
namespace Go.Proofs.Ytdmaendhkenmgaa.Bt
open Go Go.RowKit Go.Shelf
set_option linter.unusedVariables false
set_option linter.unusedSimpArgs false

set_option maxHeartbeats 8000000 in
set_option maxRecDepth 100000 in
theorem dvo_copy {Wb A b cap va vs : Nat} {s : ASt} {d at_ fr n x : Int} {S : ByteArray} {w0 w : World} (h : DvW Wb A b cap va vs s w0 w) (hL : s.L ≤ 8) (hd : d.tmod 10 = 8) (hd0 : 0 ≤ d ∧ d ≤ 255) (ha : -9223372036854775808 ≤ at_ ∧ at_ ≤ 9223372036854775807) (hf : -9223372036854775808 ≤ fr ∧ fr ≤ 9223372036854775807) (hn : -9223372036854775808 ≤ n ∧ n ≤ 9223372036854775807) (hx : 0 ≤ x ∧ x < 18446744073709551616) (hS : S.size ≤ 9223372036854775807) :
    Calls Try.prog 28 #[.pointer (some ⟨Wb, 0, none⟩), .agg #[.int .u8 d, .int .i64 at_, .int .i64 fr, .int .i64 n, .int .u64 x, .string S]] w (DvP Wb A s.L w0) := by
  obtain ⟨s', hs'⟩ : ∃ s', copyS s (addrV va vs at_ n) (addrV va vs fr n) n = s' := ⟨_, rfl⟩
  obtain ⟨er, her⟩ : ∃ er, copyE s (addrV va vs at_ n) (addrV va vs fr n) n = er := ⟨_, rfl⟩
  have hv1 := h.hva
  have hv2 := h.hvs
  have HPC := Lib.hid (fun (y : World) (hy : On A s y) => on_copy hy va vs hv1 hv2 at_ fr n (by omega) (by omega))
  have HDC := Lib.hid (fun (y : World) (hy : DocB b (gS s) y) => rv_copy (cap := cap) h.x.good hL hv1 hv2 rfl at_ fr n ha hf hn hy)
  rw [hs', her] at HPC HDC
  have HSL : Hid (s'.L = s.L) := Lib.hid (by rw [← hs']; unfold copyS; (repeat' split) <;> rfl)
  have HRS : Hid (refR s' = refR s) := Lib.hid (by rw [← hs']; unfold copyS; (repeat' split) <;> rfl)
  clear hs' her hf hn hx hS hv1 hv2
  have hE := heap_new w (.cells #[.int .u8 d, .int .i64 at_, .int .i64 fr, .int .i64 n, .int .u64 x, .string S] 36)
  have hb0 := bel1 w (.cells #[.int .u8 d, .int .i64 at_, .int .i64 fr, .int .i64 n, .int .u64 x, .string S] 36)
  have hds := h.start hE hb0
  clear hE hb0
  go_enter Try.func28, Try.ntmps28
  go_upto_region 1 with fail
  change Code.wp _ _ _ _ (w.alloc (.cells #[.int .u8 d, .int .i64 at_, .int .i64 fr, .int .i64 n, .int .u64 x, .string S] 36))
  obtain ⟨y, hy⟩ : ∃ y, w.alloc (.cells #[.int .u8 d, .int .i64 at_, .int .i64 fr, .int .i64 n, .int .u64 x, .string S] 36) = y := ⟨_, rfl⟩
  obtain ⟨E, hEE⟩ : ∃ E, w.heap.size = E := ⟨_, rfl⟩
  rw [hy, hEE] at hds
  rw [hy, hEE]
  have H := Lib.hid hds
  clear hy hEE hds
  obtain ⟨⟨s1, s2, s3, s4, s5, s6, s7, s8⟩, ⟨t1, t2, t3, t4, t5, t6⟩, f4, f5⟩ := H.out.all
  go_upto_region 34 with fail
  have hS0 := H.out.below (Below.refl y.heap.size y).drew
  clear H s1 s2 s3 s4 s5 s6 s7 s8 t1 t2 t3 t4 t5 t6 f4 f5
  refine wp_region_held_drew (S := fun X => ∃ s', DvS Wb E A b cap va vs s' s d at_ fr n x S w0 X) (by kernel_rfl) ⟨_, hS0⟩ (fun hHeld => ?_)
  refine wpAnyH_take (i := 0) (v := (.pointer (some ⟨Wb, 0, none⟩))) rfl (by kernel_rfl) (by kernel_rfl) (by kernel_rfl) (fun _ _ _ h => h) (Or.inl ⟨by rfl, fun X hS => ?_⟩) hHeld ?_
  · obtain ⟨s9x, hs9x⟩ := hS
    obtain ⟨⟨s1, s2, s3, s4, s5, s6, s7, s8⟩, ⟨t1, t2, t3, t4, t5, t6⟩, f4, f5⟩ := hs9x.all
    go_simp
  try simp only [Act.put, List.getElem_toArray, List.getElem_cons_zero, List.getElem_cons_succ, List.setIfInBounds_toArray, List.set_cons_zero, List.set_cons_succ]
  refine wpAnyH_take (i := 1) (v := (.pointer (some ⟨Wb, 0, none⟩))) rfl (by kernel_rfl) (by kernel_rfl) (by kernel_rfl) (fun _ _ _ h => h) (Or.inl ⟨by rfl, fun X hS => ?_⟩) hHeld ?_
  · obtain ⟨s9x, hs9x⟩ := hS
    obtain ⟨⟨s1, s2, s3, s4, s5, s6, s7, s8⟩, ⟨t1, t2, t3, t4, t5, t6⟩, f4, f5⟩ := hs9x.all
    go_simp
  try simp only [Act.put, List.getElem_toArray, List.getElem_cons_zero, List.getElem_cons_succ, List.setIfInBounds_toArray, List.set_cons_zero, List.set_cons_succ]
  refine wpAnyH_take (i := 2) (v := (.pointer (some ⟨Wb, 1, none⟩))) rfl (by kernel_rfl) (by kernel_rfl) (by kernel_rfl) (fun _ _ _ h => h) (Or.inl ⟨by rfl, fun X hS => ?_⟩) hHeld ?_
  · obtain ⟨s9x, hs9x⟩ := hS
    obtain ⟨⟨s1, s2, s3, s4, s5, s6, s7, s8⟩, ⟨t1, t2, t3, t4, t5, t6⟩, f4, f5⟩ := hs9x.all
    go_simp
  try simp only [Act.put, List.getElem_toArray, List.getElem_cons_zero, List.getElem_cons_succ, List.setIfInBounds_toArray, List.set_cons_zero, List.set_cons_succ]
  refine wpAnyH_take (i := 3) (v := (.agg #[.pointer (some ⟨A, 0, none⟩), .int .i64 (va : Int), .int .i64 (vs : Int)])) rfl (by kernel_rfl) (by kernel_rfl) (by kernel_rfl) (fun _ _ _ h => h) (Or.inl ⟨by rfl, fun X hS => ?_⟩) hHeld ?_
  · obtain ⟨s9x, hs9x⟩ := hS
    obtain ⟨⟨s1, s2, s3, s4, s5, s6, s7, s8⟩, ⟨t1, t2, t3, t4, t5, t6⟩, f4, f5⟩ := hs9x.all
    go_simp
  try simp only [Act.put, List.getElem_toArray, List.getElem_cons_zero, List.getElem_cons_succ, List.setIfInBounds_toArray, List.set_cons_zero, List.set_cons_succ]
  refine wpAnyH_take (i := 4) (v := (.pointer (some ⟨E, 1, none⟩))) rfl (by kernel_rfl) (by kernel_rfl) (by kernel_rfl) (fun _ _ _ h => h) (Or.inl ⟨by rfl, fun X hS => ?_⟩) hHeld ?_
  · obtain ⟨s9x, hs9x⟩ := hS
    obtain ⟨⟨s1, s2, s3, s4, s5, s6, s7, s8⟩, ⟨t1, t2, t3, t4, t5, t6⟩, f4, f5⟩ := hs9x.all
    go_simp
  try simp only [Act.put, List.getElem_toArray, List.getElem_cons_zero, List.getElem_cons_succ, List.setIfInBounds_toArray, List.set_cons_zero, List.set_cons_succ]
  refine wpAnyH_take (i := 5) (v := (.int .i64 at_)) rfl (by kernel_rfl) (by kernel_rfl) (by kernel_rfl) (fun _ _ _ h => h) (Or.inl ⟨by rfl, fun X hS => ?_⟩) hHeld ?_
  · obtain ⟨s9x, hs9x⟩ := hS
    obtain ⟨⟨s1, s2, s3, s4, s5, s6, s7, s8⟩, ⟨t1, t2, t3, t4, t5, t6⟩, f4, f5⟩ := hs9x.all
    go_simp
  try simp only [Act.put, List.getElem_toArray, List.getElem_cons_zero, List.getElem_cons_succ, List.setIfInBounds_toArray, List.set_cons_zero, List.set_cons_succ]
  refine wpAnyH_take (i := 6) (v := (.pointer (some ⟨E, 2, none⟩))) rfl (by kernel_rfl) (by kernel_rfl) (by kernel_rfl) (fun _ _ _ h => h) (Or.inl ⟨by rfl, fun X hS => ?_⟩) hHeld ?_
  · obtain ⟨s9x, hs9x⟩ := hS
    obtain ⟨⟨s1, s2, s3, s4, s5, s6, s7, s8⟩, ⟨t1, t2, t3, t4, t5, t6⟩, f4, f5⟩ := hs9x.all
    go_simp
  try simp only [Act.put, List.getElem_toArray, List.getElem_cons_zero, List.getElem_cons_succ, List.setIfInBounds_toArray, List.set_cons_zero, List.set_cons_succ]
  refine wpAnyH_take (i := 7) (v := (.int .i64 fr)) rfl (by kernel_rfl) (by kernel_rfl) (by kernel_rfl) (fun _ _ _ h => h) (Or.inl ⟨by rfl, fun X hS => ?_⟩) hHeld ?_
  · obtain ⟨s9x, hs9x⟩ := hS
    obtain ⟨⟨s1, s2, s3, s4, s5, s6, s7, s8⟩, ⟨t1, t2, t3, t4, t5, t6⟩, f4, f5⟩ := hs9x.all
    go_simp
  try simp only [Act.put, List.getElem_toArray, List.getElem_cons_zero, List.getElem_cons_succ, List.setIfInBounds_toArray, List.set_cons_zero, List.set_cons_succ]
  refine wpAnyH_take (i := 8) (v := (.pointer (some ⟨E, 3, none⟩))) rfl (by kernel_rfl) (by kernel_rfl) (by kernel_rfl) (fun _ _ _ h => h) (Or.inl ⟨by rfl, fun X hS => ?_⟩) hHeld ?_
  · obtain ⟨s9x, hs9x⟩ := hS
    obtain ⟨⟨s1, s2, s3, s4, s5, s6, s7, s8⟩, ⟨t1, t2, t3, t4, t5, t6⟩, f4, f5⟩ := hs9x.all
    go_simp
  try simp only [Act.put, List.getElem_toArray, List.getElem_cons_zero, List.getElem_cons_succ, List.setIfInBounds_toArray, List.set_cons_zero, List.set_cons_succ]
  refine wpAnyH_take (i := 9) (v := (.int .i64 n)) rfl (by kernel_rfl) (by kernel_rfl) (by kernel_rfl) (fun _ _ _ h => h) (Or.inl ⟨by rfl, fun X hS => ?_⟩) hHeld ?_
  · obtain ⟨s9x, hs9x⟩ := hS
    obtain ⟨⟨s1, s2, s3, s4, s5, s6, s7, s8⟩, ⟨t1, t2, t3, t4, t5, t6⟩, f4, f5⟩ := hs9x.all
    go_simp
  try simp only [Act.put, List.getElem_toArray, List.getElem_cons_zero, List.getElem_cons_succ, List.setIfInBounds_toArray, List.set_cons_zero, List.set_cons_succ]
  have HD := Lib.hid hS0
  clear hS0 hHeld
  refine wpAnyH_ready (rs := [10]) (by kernel_rfl) (by simp) (AllReadyH.cons rfl (fun K1 hK1 => ?_) AllReadyH.nil)
  go_simp
  refine (HPC.out _ HD.out.x).mono ?_
  rintro e w2 ⟨rfl, hx, hg⟩
  have HD2 := Lib.hid (HD.out.went hx hg)
  clear hx hg
  refine hK1.out _ _ ⟨_, HD2.out⟩ (fun hHeld => ?_)
  clear hK1
  try simp only [Act.put, List.getElem_toArray, List.getElem_cons_zero, List.getElem_cons_succ, List.setIfInBounds_toArray, List.set_cons_zero, List.set_cons_succ]
  refine wpAnyH_take (i := 11) (v := (.int .i64 er)) rfl (by kernel_rfl) (by kernel_rfl) (by kernel_rfl) (fun _ _ _ h => h) (Or.inl ⟨by rfl, fun X hS => ?_⟩) hHeld ?_
  · obtain ⟨s9x, hs9x⟩ := hS
    obtain ⟨⟨s1, s2, s3, s4, s5, s6, s7, s8⟩, ⟨t1, t2, t3, t4, t5, t6⟩, f4, f5⟩ := hs9x.all
    go_simp
  try simp only [Act.put, List.getElem_toArray, List.getElem_cons_zero, List.getElem_cons_succ, List.setIfInBounds_toArray, List.set_cons_zero, List.set_cons_succ]
  clear hHeld
  refine wpAnyH_done (by kernel_rfl) ?_ _
  go_upto_region 35 with fail
  have hS0 := HD2.out.below (Below.refl w2.heap.size w2).drew
  clear HD2 HD
  refine wp_region_held_drew (S := fun X => (X.cell? ⟨E, 0, none⟩ = some (.int .u8 d) ∧ X.cell? ⟨E, 1, none⟩ = some (.int .i64 at_) ∧ X.cell? ⟨E, 2, none⟩ = some (.int .i64 fr) ∧ X.cell? ⟨E, 3, none⟩ = some (.int .i64 n) ∧ X.cell? ⟨E, 4, none⟩ = some (.int .u64 x) ∧ X.cell? ⟨E, 5, none⟩ = some (.string S)) ∧ X.cell? ⟨Wb, 6, none⟩ = some (.int .i64 (va : Int)) ∧ X.cell? ⟨Wb, 7, none⟩ = some (.int .i64 (vs : Int))) (by kernel_rfl) hS0.dd (fun hHeld => ?_)
  refine wpAnyH_take (i := 0) (v := (.pointer (some ⟨Wb, 0, none⟩))) rfl (by kernel_rfl) (by kernel_rfl) (by kernel_rfl) (fun _ _ _ h => h) (Or.inl ⟨by rfl, fun X hS => ?_⟩) hHeld ?_
  · obtain ⟨⟨t1, t2, t3, t4, t5, t6⟩, s7, s8⟩ := hS
    go_simp
  try simp only [Act.put, List.getElem_toArray, List.getElem_cons_zero, List.getElem_cons_succ, List.setIfInBounds_toArray, List.set_cons_zero, List.set_cons_succ]
  refine wpAnyH_take (i := 1) (v := (.pointer (some ⟨Wb, 0, none⟩))) rfl (by kernel_rfl) (by kernel_rfl) (by kernel_rfl) (fun _ _ _ h => h) (Or.inl ⟨by rfl, fun X hS => ?_⟩) hHeld ?_
  · obtain ⟨⟨t1, t2, t3, t4, t5, t6⟩, s7, s8⟩ := hS
    go_simp
  try simp only [Act.put, List.getElem_toArray, List.getElem_cons_zero, List.getElem_cons_succ, List.setIfInBounds_toArray, List.set_cons_zero, List.set_cons_succ]
  refine wpAnyH_take (i := 2) (v := (.pointer (some ⟨Wb, 0, none⟩))) rfl (by kernel_rfl) (by kernel_rfl) (by kernel_rfl) (fun _ _ _ h => h) (Or.inl ⟨by rfl, fun X hS => ?_⟩) hHeld ?_
  · obtain ⟨⟨t1, t2, t3, t4, t5, t6⟩, s7, s8⟩ := hS
    go_simp
  try simp only [Act.put, List.getElem_toArray, List.getElem_cons_zero, List.getElem_cons_succ, List.setIfInBounds_toArray, List.set_cons_zero, List.set_cons_succ]
  refine wpAnyH_take (i := 3) (v := (.pointer (some ⟨Wb, 4, none⟩))) rfl (by kernel_rfl) (by kernel_rfl) (by kernel_rfl) (fun _ _ _ h => h) (Or.inl ⟨by rfl, fun X hS => ?_⟩) hHeld ?_
  · obtain ⟨⟨t1, t2, t3, t4, t5, t6⟩, s7, s8⟩ := hS
    go_simp
  try simp only [Act.put, List.getElem_toArray, List.getElem_cons_zero, List.getElem_cons_succ, List.setIfInBounds_toArray, List.set_cons_zero, List.set_cons_succ]
  refine wpAnyH_take (i := 5) (v := (.pointer (some ⟨Wb, 0, none⟩))) rfl (by kernel_rfl) (by kernel_rfl) (by kernel_rfl) (fun _ _ _ h => h) (Or.inl ⟨by rfl, fun X hS => ?_⟩) hHeld ?_
  · obtain ⟨⟨t1, t2, t3, t4, t5, t6⟩, s7, s8⟩ := hS
    go_simp
  try simp only [Act.put, List.getElem_toArray, List.getElem_cons_zero, List.getElem_cons_succ, List.setIfInBounds_toArray, List.set_cons_zero, List.set_cons_succ]
  refine wpAnyH_take (i := 6) (v := (.pointer (some ⟨Wb, 0, none⟩))) rfl (by kernel_rfl) (by kernel_rfl) (by kernel_rfl) (fun _ _ _ h => h) (Or.inl ⟨by rfl, fun X hS => ?_⟩) hHeld ?_
  · obtain ⟨⟨t1, t2, t3, t4, t5, t6⟩, s7, s8⟩ := hS
    go_simp
  try simp only [Act.put, List.getElem_toArray, List.getElem_cons_zero, List.getElem_cons_succ, List.setIfInBounds_toArray, List.set_cons_zero, List.set_cons_succ]
  refine wpAnyH_take (i := 7) (v := (.pointer (some ⟨Wb, 6, none⟩))) rfl (by kernel_rfl) (by kernel_rfl) (by kernel_rfl) (fun _ _ _ h => h) (Or.inl ⟨by rfl, fun X hS => ?_⟩) hHeld ?_
  · obtain ⟨⟨t1, t2, t3, t4, t5, t6⟩, s7, s8⟩ := hS
    go_simp
  try simp only [Act.put, List.getElem_toArray, List.getElem_cons_zero, List.getElem_cons_succ, List.setIfInBounds_toArray, List.set_cons_zero, List.set_cons_succ]
  refine wpAnyH_take (i := 8) (v := (.agg #[.int .i64 (va : Int), .int .i64 (vs : Int)])) rfl (by kernel_rfl) (by kernel_rfl) (by kernel_rfl) (fun _ _ _ h => h) (Or.inl ⟨by rfl, fun X hS => ?_⟩) hHeld ?_
  · obtain ⟨⟨t1, t2, t3, t4, t5, t6⟩, s7, s8⟩ := hS
    go_simp
  try simp only [Act.put, List.getElem_toArray, List.getElem_cons_zero, List.getElem_cons_succ, List.setIfInBounds_toArray, List.set_cons_zero, List.set_cons_succ]
  refine wpAnyH_take (i := 9) (v := (.pointer (some ⟨E, 1, none⟩))) rfl (by kernel_rfl) (by kernel_rfl) (by kernel_rfl) (fun _ _ _ h => h) (Or.inl ⟨by rfl, fun X hS => ?_⟩) hHeld ?_
  · obtain ⟨⟨t1, t2, t3, t4, t5, t6⟩, s7, s8⟩ := hS
    go_simp
  try simp only [Act.put, List.getElem_toArray, List.getElem_cons_zero, List.getElem_cons_succ, List.setIfInBounds_toArray, List.set_cons_zero, List.set_cons_succ]
  refine wpAnyH_take (i := 10) (v := (.int .i64 at_)) rfl (by kernel_rfl) (by kernel_rfl) (by kernel_rfl) (fun _ _ _ h => h) (Or.inl ⟨by rfl, fun X hS => ?_⟩) hHeld ?_
  · obtain ⟨⟨t1, t2, t3, t4, t5, t6⟩, s7, s8⟩ := hS
    go_simp
  try simp only [Act.put, List.getElem_toArray, List.getElem_cons_zero, List.getElem_cons_succ, List.setIfInBounds_toArray, List.set_cons_zero, List.set_cons_succ]
  refine wpAnyH_take (i := 11) (v := (.pointer (some ⟨E, 2, none⟩))) rfl (by kernel_rfl) (by kernel_rfl) (by kernel_rfl) (fun _ _ _ h => h) (Or.inl ⟨by rfl, fun X hS => ?_⟩) hHeld ?_
  · obtain ⟨⟨t1, t2, t3, t4, t5, t6⟩, s7, s8⟩ := hS
    go_simp
  try simp only [Act.put, List.getElem_toArray, List.getElem_cons_zero, List.getElem_cons_succ, List.setIfInBounds_toArray, List.set_cons_zero, List.set_cons_succ]
  refine wpAnyH_take (i := 12) (v := (.int .i64 fr)) rfl (by kernel_rfl) (by kernel_rfl) (by kernel_rfl) (fun _ _ _ h => h) (Or.inl ⟨by rfl, fun X hS => ?_⟩) hHeld ?_
  · obtain ⟨⟨t1, t2, t3, t4, t5, t6⟩, s7, s8⟩ := hS
    go_simp
  try simp only [Act.put, List.getElem_toArray, List.getElem_cons_zero, List.getElem_cons_succ, List.setIfInBounds_toArray, List.set_cons_zero, List.set_cons_succ]
  refine wpAnyH_take (i := 13) (v := (.pointer (some ⟨E, 3, none⟩))) rfl (by kernel_rfl) (by kernel_rfl) (by kernel_rfl) (fun _ _ _ h => h) (Or.inl ⟨by rfl, fun X hS => ?_⟩) hHeld ?_
  · obtain ⟨⟨t1, t2, t3, t4, t5, t6⟩, s7, s8⟩ := hS
    go_simp
  try simp only [Act.put, List.getElem_toArray, List.getElem_cons_zero, List.getElem_cons_succ, List.setIfInBounds_toArray, List.set_cons_zero, List.set_cons_succ]
  refine wpAnyH_take (i := 14) (v := (.int .i64 n)) rfl (by kernel_rfl) (by kernel_rfl) (by kernel_rfl) (fun _ _ _ h => h) (Or.inl ⟨by rfl, fun X hS => ?_⟩) hHeld ?_
  · obtain ⟨⟨t1, t2, t3, t4, t5, t6⟩, s7, s8⟩ := hS
    go_simp
  try simp only [Act.put, List.getElem_toArray, List.getElem_cons_zero, List.getElem_cons_succ, List.setIfInBounds_toArray, List.set_cons_zero, List.set_cons_succ]
  have HD := Lib.hid hS0
  clear hS0 hHeld
  refine wpAnyH_ready (rs := [4]) (by kernel_rfl) (by simp) (AllReadyH.cons rfl (fun K1 hK1 => ?_) AllReadyH.nil)
  obtain ⟨⟨s1, s2, s3, s4, s5, s6, s7, s8⟩, ⟨t1, t2, t3, t4, t5, t6⟩, f4, f5⟩ := HD.out.all
  go_simp
  clear s1 s2 s3 s4 s5 s6 s7 s8 t1 t2 t3 t4 t5 t6 f4 f5
  refine hK1.out _ _ HD.out.dd (fun hHeld => ?_)
  clear hK1
  try simp only [Act.put, List.getElem_toArray, List.getElem_cons_zero, List.getElem_cons_succ, List.setIfInBounds_toArray, List.set_cons_zero, List.set_cons_succ]
  clear hHeld
  refine wpAnyH_ready (rs := [15]) (by kernel_rfl) (by simp) (AllReadyH.cons rfl (fun K1 hK1 => ?_) AllReadyH.nil)
  go_simp
  refine (HDC.out _ HD.out.d).mono ?_
  rintro e w3 ⟨b2, cap2, rfl, hd2, hb⟩
  have HD3 := Lib.hid (HD.out.below hb)
  have HD4 := Lib.hid (HD3.out.put (cap2 := cap2) hd2)
  rw [HRS.out] at HD4
  clear hd2 hb
  refine hK1.out _ _ HD3.out.dd (fun hHeld => ?_)
  clear hK1
  try simp only [Act.put, List.getElem_toArray, List.getElem_cons_zero, List.getElem_cons_succ, List.setIfInBounds_toArray, List.set_cons_zero, List.set_cons_succ]
  refine wpAnyH_take (i := 16) (v := (.tuple #[.agg #[.slice (some ⟨b2, 0, none⟩) s'.L cap2, .int .i64 (refR s)], .int .i64 er])) rfl (by kernel_rfl) (by kernel_rfl) (by kernel_rfl) (fun _ _ _ h => h) (Or.inl ⟨by rfl, fun X hS => ?_⟩) hHeld ?_
  · obtain ⟨⟨t1, t2, t3, t4, t5, t6⟩, s7, s8⟩ := hS
    go_simp
  try simp only [Act.put, List.getElem_toArray, List.getElem_cons_zero, List.getElem_cons_succ, List.setIfInBounds_toArray, List.set_cons_zero, List.set_cons_succ]
  refine wpAnyH_take (i := 17) (v := (.agg #[.slice (some ⟨b2, 0, none⟩) s'.L cap2, .int .i64 (refR s)])) rfl (by kernel_rfl) (by kernel_rfl) (by kernel_rfl) (fun _ _ _ h => h) (Or.inl ⟨by rfl, fun X hS => ?_⟩) hHeld ?_
  · obtain ⟨⟨t1, t2, t3, t4, t5, t6⟩, s7, s8⟩ := hS
    go_simp
  try simp only [Act.put, List.getElem_toArray, List.getElem_cons_zero, List.getElem_cons_succ, List.setIfInBounds_toArray, List.set_cons_zero, List.set_cons_succ]
  refine wpAnyH_take (i := 18) (v := (.int .i64 er)) rfl (by kernel_rfl) (by kernel_rfl) (by kernel_rfl) (fun _ _ _ h => h) (Or.inl ⟨by rfl, fun X hS => ?_⟩) hHeld ?_
  · obtain ⟨⟨t1, t2, t3, t4, t5, t6⟩, s7, s8⟩ := hS
    go_simp
  try simp only [Act.put, List.getElem_toArray, List.getElem_cons_zero, List.getElem_cons_succ, List.setIfInBounds_toArray, List.set_cons_zero, List.set_cons_succ]
  refine wpAnyH_take (i := 19) (v := (.pointer (some ⟨Wb, 0, none⟩))) rfl (by kernel_rfl) (by kernel_rfl) (by kernel_rfl) (fun _ _ _ h => h) (Or.inl ⟨by rfl, fun X hS => ?_⟩) hHeld ?_
  · obtain ⟨⟨t1, t2, t3, t4, t5, t6⟩, s7, s8⟩ := hS
    go_simp
  try simp only [Act.put, List.getElem_toArray, List.getElem_cons_zero, List.getElem_cons_succ, List.setIfInBounds_toArray, List.set_cons_zero, List.set_cons_succ]
  refine wpAnyH_take (i := 20) (v := (.pointer (some ⟨Wb, 4, none⟩))) rfl (by kernel_rfl) (by kernel_rfl) (by kernel_rfl) (fun _ _ _ h => h) (Or.inl ⟨by rfl, fun X hS => ?_⟩) hHeld ?_
  · obtain ⟨⟨t1, t2, t3, t4, t5, t6⟩, s7, s8⟩ := hS
    go_simp
  try simp only [Act.put, List.getElem_toArray, List.getElem_cons_zero, List.getElem_cons_succ, List.setIfInBounds_toArray, List.set_cons_zero, List.set_cons_succ]
  clear hHeld
  obtain ⟨⟨s1, s2, s3, s4, s5, s6, s7, s8⟩, ⟨t1, t2, t3, t4, t5, t6⟩, f4, f5⟩ := HD3.out.all
  refine wpAnyH_ready (rs := [21]) (by kernel_rfl) (by simp) (AllReadyH.cons rfl (fun K1 hK1 => ?_) AllReadyH.nil)
  go_simp
  refine hK1.out _ _ HD4.out.dd (fun hHeld => ?_)
  clear hK1
  try simp only [Act.put, List.getElem_toArray, List.getElem_cons_zero, List.getElem_cons_succ, List.setIfInBounds_toArray, List.set_cons_zero, List.set_cons_succ]
  clear s1 s2 s3 s4 s5 s6 s7 s8 t1 t2 t3 t4 t5 t6 f4 f5
  refine wpAnyH_take (i := 22) (v := (.int .i64 er)) rfl (by kernel_rfl) (by kernel_rfl) (by kernel_rfl) (fun _ _ _ h => h) (Or.inl ⟨by rfl, fun X hS => ?_⟩) hHeld ?_
  · obtain ⟨⟨t1, t2, t3, t4, t5, t6⟩, s7, s8⟩ := hS
    go_simp
  try simp only [Act.put, List.getElem_toArray, List.getElem_cons_zero, List.getElem_cons_succ, List.setIfInBounds_toArray, List.set_cons_zero, List.set_cons_succ]
  clear hHeld
  refine wpAnyH_done (by kernel_rfl) ?_ _
  have hee : (er == er) = true := by simp
  go_wp2_with fail
  go_ret
  exact ⟨b2, cap2, va, vs, s', rfl, HSL.out, HD4.out.fin⟩
end Go.Proofs.Ytdmaendhkenmgaa.Bt
/- law04's do: Load. (Written by gen_dve.py.) -/
namespace Go.Proofs.Ytdmaendhkenmgaa.Bt
open Go Go.RowKit Go.Shelf
set_option linter.unusedVariables false
set_option linter.unusedSimpArgs false

set_option maxHeartbeats 8000000 in
set_option maxRecDepth 100000 in
theorem dvo_load {Wb A b cap va vs : Nat} {s : ASt} {d at_ fr n x : Int} {S : ByteArray} {w0 w : World} (h : DvW Wb A b cap va vs s w0 w) (hL : s.L ≤ 8) (hd : d.tmod 10 = 3) (hd0 : 0 ≤ d ∧ d ≤ 255) (ha : -9223372036854775808 ≤ at_ ∧ at_ ≤ 9223372036854775807) (hf : -9223372036854775808 ≤ fr ∧ fr ≤ 9223372036854775807) (hn : -9223372036854775808 ≤ n ∧ n ≤ 9223372036854775807) (hx : 0 ≤ x ∧ x < 18446744073709551616) (hS : S.size ≤ 9223372036854775807) :
    Calls Try.prog 28 #[.pointer (some ⟨Wb, 0, none⟩), .agg #[.int .u8 d, .int .i64 at_, .int .i64 fr, .int .i64 n, .int .u64 x, .string S]] w (DvP Wb A s.L w0) := by
  have hv1 := h.hva
  have hv2 := h.hvs
  have HPC := Lib.hid (fun (y : World) (hy : On A s y) => on_load hy va vs hv1 hv2 at_ n (by omega))
  have HDC := Lib.hid (fun (y : World) (hy : DocB b (gS s) y) => rv_load (cap := cap) h.x.good hL hv1 hv2 (refR s) at_ n ha hn hy)
  obtain ⟨V, hV⟩ : ∃ V, ldV s (addrV va vs at_ n) n = V := ⟨_, rfl⟩
  obtain ⟨er, her⟩ : ∃ er, numE s.L s.es (addrV va vs at_ n) n = er := ⟨_, rfl⟩
  rw [hV, her] at HPC HDC
  clear hV her hf hn hx hS hv1 hv2
  have hE := heap_new w (.cells #[.int .u8 d, .int .i64 at_, .int .i64 fr, .int .i64 n, .int .u64 x, .string S] 36)
  have hb0 := bel1 w (.cells #[.int .u8 d, .int .i64 at_, .int .i64 fr, .int .i64 n, .int .u64 x, .string S] 36)
  have hds := h.start hE hb0
  clear hE hb0
  go_enter Try.func28, Try.ntmps28
  go_upto_region 1 with fail
  change Code.wp _ _ _ _ (w.alloc (.cells #[.int .u8 d, .int .i64 at_, .int .i64 fr, .int .i64 n, .int .u64 x, .string S] 36))
  obtain ⟨y, hy⟩ : ∃ y, w.alloc (.cells #[.int .u8 d, .int .i64 at_, .int .i64 fr, .int .i64 n, .int .u64 x, .string S] 36) = y := ⟨_, rfl⟩
  obtain ⟨E, hEE⟩ : ∃ E, w.heap.size = E := ⟨_, rfl⟩
  rw [hy, hEE] at hds
  rw [hy, hEE]
  have H := Lib.hid hds
  clear hy hEE hds
  obtain ⟨⟨s1, s2, s3, s4, s5, s6, s7, s8⟩, ⟨t1, t2, t3, t4, t5, t6⟩, f4, f5⟩ := H.out.all
  go_upto_region 17 with fail
  have hS0 := H.out.below (Below.refl y.heap.size y).drew
  clear H s1 s2 s3 s4 s5 s6 s7 s8 t1 t2 t3 t4 t5 t6 f4 f5
  refine wp_region_held_drew (S := DvS Wb E A b cap va vs s s d at_ fr n x S w0) (by kernel_rfl) hS0 (fun hHeld => ?_)
  clear hS0
  refine wpAnyH_take (i := 0) (v := (.pointer (some ⟨Wb, 0, none⟩))) rfl (by kernel_rfl) (by kernel_rfl) (by kernel_rfl) (fun _ _ _ h => h) (Or.inl ⟨by rfl, fun X hS => ?_⟩) hHeld ?_
  · obtain ⟨⟨s1, s2, s3, s4, s5, s6, s7, s8⟩, ⟨t1, t2, t3, t4, t5, t6⟩, f4, f5⟩ := hS.all
    go_simp
  try simp only [Act.put, List.getElem_toArray, List.getElem_cons_zero, List.getElem_cons_succ, List.setIfInBounds_toArray, List.set_cons_zero, List.set_cons_succ]
  refine wpAnyH_take (i := 1) (v := (.pointer (some ⟨Wb, 0, none⟩))) rfl (by kernel_rfl) (by kernel_rfl) (by kernel_rfl) (fun _ _ _ h => h) (Or.inl ⟨by rfl, fun X hS => ?_⟩) hHeld ?_
  · obtain ⟨⟨s1, s2, s3, s4, s5, s6, s7, s8⟩, ⟨t1, t2, t3, t4, t5, t6⟩, f4, f5⟩ := hS.all
    go_simp
  try simp only [Act.put, List.getElem_toArray, List.getElem_cons_zero, List.getElem_cons_succ, List.setIfInBounds_toArray, List.set_cons_zero, List.set_cons_succ]
  refine wpAnyH_take (i := 2) (v := (.pointer (some ⟨Wb, 1, none⟩))) rfl (by kernel_rfl) (by kernel_rfl) (by kernel_rfl) (fun _ _ _ h => h) (Or.inl ⟨by rfl, fun X hS => ?_⟩) hHeld ?_
  · obtain ⟨⟨s1, s2, s3, s4, s5, s6, s7, s8⟩, ⟨t1, t2, t3, t4, t5, t6⟩, f4, f5⟩ := hS.all
    go_simp
  try simp only [Act.put, List.getElem_toArray, List.getElem_cons_zero, List.getElem_cons_succ, List.setIfInBounds_toArray, List.set_cons_zero, List.set_cons_succ]
  refine wpAnyH_take (i := 3) (v := (.agg #[.pointer (some ⟨A, 0, none⟩), .int .i64 (va : Int), .int .i64 (vs : Int)])) rfl (by kernel_rfl) (by kernel_rfl) (by kernel_rfl) (fun _ _ _ h => h) (Or.inl ⟨by rfl, fun X hS => ?_⟩) hHeld ?_
  · obtain ⟨⟨s1, s2, s3, s4, s5, s6, s7, s8⟩, ⟨t1, t2, t3, t4, t5, t6⟩, f4, f5⟩ := hS.all
    go_simp
  try simp only [Act.put, List.getElem_toArray, List.getElem_cons_zero, List.getElem_cons_succ, List.setIfInBounds_toArray, List.set_cons_zero, List.set_cons_succ]
  refine wpAnyH_take (i := 4) (v := (.pointer (some ⟨E, 1, none⟩))) rfl (by kernel_rfl) (by kernel_rfl) (by kernel_rfl) (fun _ _ _ h => h) (Or.inl ⟨by rfl, fun X hS => ?_⟩) hHeld ?_
  · obtain ⟨⟨s1, s2, s3, s4, s5, s6, s7, s8⟩, ⟨t1, t2, t3, t4, t5, t6⟩, f4, f5⟩ := hS.all
    go_simp
  try simp only [Act.put, List.getElem_toArray, List.getElem_cons_zero, List.getElem_cons_succ, List.setIfInBounds_toArray, List.set_cons_zero, List.set_cons_succ]
  refine wpAnyH_take (i := 5) (v := (.int .i64 at_)) rfl (by kernel_rfl) (by kernel_rfl) (by kernel_rfl) (fun _ _ _ h => h) (Or.inl ⟨by rfl, fun X hS => ?_⟩) hHeld ?_
  · obtain ⟨⟨s1, s2, s3, s4, s5, s6, s7, s8⟩, ⟨t1, t2, t3, t4, t5, t6⟩, f4, f5⟩ := hS.all
    go_simp
  try simp only [Act.put, List.getElem_toArray, List.getElem_cons_zero, List.getElem_cons_succ, List.setIfInBounds_toArray, List.set_cons_zero, List.set_cons_succ]
  refine wpAnyH_take (i := 6) (v := (.pointer (some ⟨E, 3, none⟩))) rfl (by kernel_rfl) (by kernel_rfl) (by kernel_rfl) (fun _ _ _ h => h) (Or.inl ⟨by rfl, fun X hS => ?_⟩) hHeld ?_
  · obtain ⟨⟨s1, s2, s3, s4, s5, s6, s7, s8⟩, ⟨t1, t2, t3, t4, t5, t6⟩, f4, f5⟩ := hS.all
    go_simp
  try simp only [Act.put, List.getElem_toArray, List.getElem_cons_zero, List.getElem_cons_succ, List.setIfInBounds_toArray, List.set_cons_zero, List.set_cons_succ]
  refine wpAnyH_take (i := 7) (v := (.int .i64 n)) rfl (by kernel_rfl) (by kernel_rfl) (by kernel_rfl) (fun _ _ _ h => h) (Or.inl ⟨by rfl, fun X hS => ?_⟩) hHeld ?_
  · obtain ⟨⟨s1, s2, s3, s4, s5, s6, s7, s8⟩, ⟨t1, t2, t3, t4, t5, t6⟩, f4, f5⟩ := hS.all
    go_simp
  try simp only [Act.put, List.getElem_toArray, List.getElem_cons_zero, List.getElem_cons_succ, List.setIfInBounds_toArray, List.set_cons_zero, List.set_cons_succ]
  refine wpAnyH_ready (rs := [8]) (by kernel_rfl) (by simp) (AllReadyH.cons rfl (fun K1 hK1 => ?_) AllReadyH.nil)
  go_simp
  have HD := Lib.hid hHeld
  clear hHeld
  refine (HPC.out _ HD.out.x).mono ?_
  rintro e w2 ⟨rfl, hb⟩
  have HDw2 := Lib.hid (HD.out.below hb)
  clear hb HD
  refine hK1.out _ _ HDw2.out (fun hHeld => ?_)
  clear hK1
  try simp only [Act.put, List.getElem_toArray, List.getElem_cons_zero, List.getElem_cons_succ, List.setIfInBounds_toArray, List.set_cons_zero, List.set_cons_succ]
  refine wpAnyH_take (i := 9) (v := (.tuple #[.int .u64 V, .int .i64 er])) rfl (by kernel_rfl) (by kernel_rfl) (by kernel_rfl) (fun _ _ _ h => h) (Or.inl ⟨by rfl, fun X hS => ?_⟩) hHeld ?_
  · obtain ⟨⟨s1, s2, s3, s4, s5, s6, s7, s8⟩, ⟨t1, t2, t3, t4, t5, t6⟩, f4, f5⟩ := hS.all
    go_simp
  try simp only [Act.put, List.getElem_toArray, List.getElem_cons_zero, List.getElem_cons_succ, List.setIfInBounds_toArray, List.set_cons_zero, List.set_cons_succ]
  refine wpAnyH_take (i := 10) (v := (.int .u64 V)) rfl (by kernel_rfl) (by kernel_rfl) (by kernel_rfl) (fun _ _ _ h => h) (Or.inl ⟨by rfl, fun X hS => ?_⟩) hHeld ?_
  · obtain ⟨⟨s1, s2, s3, s4, s5, s6, s7, s8⟩, ⟨t1, t2, t3, t4, t5, t6⟩, f4, f5⟩ := hS.all
    go_simp
  try simp only [Act.put, List.getElem_toArray, List.getElem_cons_zero, List.getElem_cons_succ, List.setIfInBounds_toArray, List.set_cons_zero, List.set_cons_succ]
  refine wpAnyH_take (i := 11) (v := (.int .i64 er)) rfl (by kernel_rfl) (by kernel_rfl) (by kernel_rfl) (fun _ _ _ h => h) (Or.inl ⟨by rfl, fun X hS => ?_⟩) hHeld ?_
  · obtain ⟨⟨s1, s2, s3, s4, s5, s6, s7, s8⟩, ⟨t1, t2, t3, t4, t5, t6⟩, f4, f5⟩ := hS.all
    go_simp
  try simp only [Act.put, List.getElem_toArray, List.getElem_cons_zero, List.getElem_cons_succ, List.setIfInBounds_toArray, List.set_cons_zero, List.set_cons_succ]
  refine wpAnyH_take (i := 12) (v := (.int .u64 V)) rfl (by kernel_rfl) (by kernel_rfl) (by kernel_rfl) (fun _ _ _ h => h) (Or.inl ⟨by rfl, fun X hS => ?_⟩) hHeld ?_
  · obtain ⟨⟨s1, s2, s3, s4, s5, s6, s7, s8⟩, ⟨t1, t2, t3, t4, t5, t6⟩, f4, f5⟩ := hS.all
    go_simp
  try simp only [Act.put, List.getElem_toArray, List.getElem_cons_zero, List.getElem_cons_succ, List.setIfInBounds_toArray, List.set_cons_zero, List.set_cons_succ]
  refine wpAnyH_take (i := 13) (v := (.int .i64 er)) rfl (by kernel_rfl) (by kernel_rfl) (by kernel_rfl) (fun _ _ _ h => h) (Or.inl ⟨by rfl, fun X hS => ?_⟩) hHeld ?_
  · obtain ⟨⟨s1, s2, s3, s4, s5, s6, s7, s8⟩, ⟨t1, t2, t3, t4, t5, t6⟩, f4, f5⟩ := hS.all
    go_simp
  try simp only [Act.put, List.getElem_toArray, List.getElem_cons_zero, List.getElem_cons_succ, List.setIfInBounds_toArray, List.set_cons_zero, List.set_cons_succ]
  clear hHeld
  refine wpAnyH_done (by kernel_rfl) ?_ _
  go_upto_region 18 with fail
  have hS0 := HDw2.out.below (Below.refl w2.heap.size w2).drew
  clear HDw2
  refine wp_region_held_drew (S := DvS Wb E A b cap va vs s s d at_ fr n x S w0) (by kernel_rfl) hS0 (fun hHeld => ?_)
  clear hS0
  refine wpAnyH_take (i := 0) (v := (.pointer (some ⟨Wb, 0, none⟩))) rfl (by kernel_rfl) (by kernel_rfl) (by kernel_rfl) (fun _ _ _ h => h) (Or.inl ⟨by rfl, fun X hS => ?_⟩) hHeld ?_
  · obtain ⟨⟨s1, s2, s3, s4, s5, s6, s7, s8⟩, ⟨t1, t2, t3, t4, t5, t6⟩, f4, f5⟩ := hS.all
    go_simp
  try simp only [Act.put, List.getElem_toArray, List.getElem_cons_zero, List.getElem_cons_succ, List.setIfInBounds_toArray, List.set_cons_zero, List.set_cons_succ]
  refine wpAnyH_take (i := 1) (v := (.pointer (some ⟨Wb, 0, none⟩))) rfl (by kernel_rfl) (by kernel_rfl) (by kernel_rfl) (fun _ _ _ h => h) (Or.inl ⟨by rfl, fun X hS => ?_⟩) hHeld ?_
  · obtain ⟨⟨s1, s2, s3, s4, s5, s6, s7, s8⟩, ⟨t1, t2, t3, t4, t5, t6⟩, f4, f5⟩ := hS.all
    go_simp
  try simp only [Act.put, List.getElem_toArray, List.getElem_cons_zero, List.getElem_cons_succ, List.setIfInBounds_toArray, List.set_cons_zero, List.set_cons_succ]
  refine wpAnyH_take (i := 2) (v := (.pointer (some ⟨Wb, 4, none⟩))) rfl (by kernel_rfl) (by kernel_rfl) (by kernel_rfl) (fun _ _ _ h => h) (Or.inl ⟨by rfl, fun X hS => ?_⟩) hHeld ?_
  · obtain ⟨⟨s1, s2, s3, s4, s5, s6, s7, s8⟩, ⟨t1, t2, t3, t4, t5, t6⟩, f4, f5⟩ := hS.all
    go_simp
  try simp only [Act.put, List.getElem_toArray, List.getElem_cons_zero, List.getElem_cons_succ, List.setIfInBounds_toArray, List.set_cons_zero, List.set_cons_succ]
  refine wpAnyH_take (i := 3) (v := (.agg #[.slice (some ⟨b, 0, none⟩) s.L cap, .int .i64 (refR s)])) rfl (by kernel_rfl) (by kernel_rfl) (by kernel_rfl) (fun _ _ _ h => h) (Or.inl ⟨by rfl, fun X hS => ?_⟩) hHeld ?_
  · obtain ⟨⟨s1, s2, s3, s4, s5, s6, s7, s8⟩, ⟨t1, t2, t3, t4, t5, t6⟩, f4, f5⟩ := hS.all
    go_simp
  try simp only [Act.put, List.getElem_toArray, List.getElem_cons_zero, List.getElem_cons_succ, List.setIfInBounds_toArray, List.set_cons_zero, List.set_cons_succ]
  refine wpAnyH_take (i := 4) (v := (.pointer (some ⟨Wb, 0, none⟩))) rfl (by kernel_rfl) (by kernel_rfl) (by kernel_rfl) (fun _ _ _ h => h) (Or.inl ⟨by rfl, fun X hS => ?_⟩) hHeld ?_
  · obtain ⟨⟨s1, s2, s3, s4, s5, s6, s7, s8⟩, ⟨t1, t2, t3, t4, t5, t6⟩, f4, f5⟩ := hS.all
    go_simp
  try simp only [Act.put, List.getElem_toArray, List.getElem_cons_zero, List.getElem_cons_succ, List.setIfInBounds_toArray, List.set_cons_zero, List.set_cons_succ]
  refine wpAnyH_take (i := 5) (v := (.pointer (some ⟨Wb, 0, none⟩))) rfl (by kernel_rfl) (by kernel_rfl) (by kernel_rfl) (fun _ _ _ h => h) (Or.inl ⟨by rfl, fun X hS => ?_⟩) hHeld ?_
  · obtain ⟨⟨s1, s2, s3, s4, s5, s6, s7, s8⟩, ⟨t1, t2, t3, t4, t5, t6⟩, f4, f5⟩ := hS.all
    go_simp
  try simp only [Act.put, List.getElem_toArray, List.getElem_cons_zero, List.getElem_cons_succ, List.setIfInBounds_toArray, List.set_cons_zero, List.set_cons_succ]
  refine wpAnyH_take (i := 6) (v := (.pointer (some ⟨Wb, 6, none⟩))) rfl (by kernel_rfl) (by kernel_rfl) (by kernel_rfl) (fun _ _ _ h => h) (Or.inl ⟨by rfl, fun X hS => ?_⟩) hHeld ?_
  · obtain ⟨⟨s1, s2, s3, s4, s5, s6, s7, s8⟩, ⟨t1, t2, t3, t4, t5, t6⟩, f4, f5⟩ := hS.all
    go_simp
  try simp only [Act.put, List.getElem_toArray, List.getElem_cons_zero, List.getElem_cons_succ, List.setIfInBounds_toArray, List.set_cons_zero, List.set_cons_succ]
  refine wpAnyH_take (i := 7) (v := (.agg #[.int .i64 (va : Int), .int .i64 (vs : Int)])) rfl (by kernel_rfl) (by kernel_rfl) (by kernel_rfl) (fun _ _ _ h => h) (Or.inl ⟨by rfl, fun X hS => ?_⟩) hHeld ?_
  · obtain ⟨⟨s1, s2, s3, s4, s5, s6, s7, s8⟩, ⟨t1, t2, t3, t4, t5, t6⟩, f4, f5⟩ := hS.all
    go_simp
  try simp only [Act.put, List.getElem_toArray, List.getElem_cons_zero, List.getElem_cons_succ, List.setIfInBounds_toArray, List.set_cons_zero, List.set_cons_succ]
  refine wpAnyH_take (i := 8) (v := (.pointer (some ⟨E, 1, none⟩))) rfl (by kernel_rfl) (by kernel_rfl) (by kernel_rfl) (fun _ _ _ h => h) (Or.inl ⟨by rfl, fun X hS => ?_⟩) hHeld ?_
  · obtain ⟨⟨s1, s2, s3, s4, s5, s6, s7, s8⟩, ⟨t1, t2, t3, t4, t5, t6⟩, f4, f5⟩ := hS.all
    go_simp
  try simp only [Act.put, List.getElem_toArray, List.getElem_cons_zero, List.getElem_cons_succ, List.setIfInBounds_toArray, List.set_cons_zero, List.set_cons_succ]
  refine wpAnyH_take (i := 9) (v := (.int .i64 at_)) rfl (by kernel_rfl) (by kernel_rfl) (by kernel_rfl) (fun _ _ _ h => h) (Or.inl ⟨by rfl, fun X hS => ?_⟩) hHeld ?_
  · obtain ⟨⟨s1, s2, s3, s4, s5, s6, s7, s8⟩, ⟨t1, t2, t3, t4, t5, t6⟩, f4, f5⟩ := hS.all
    go_simp
  try simp only [Act.put, List.getElem_toArray, List.getElem_cons_zero, List.getElem_cons_succ, List.setIfInBounds_toArray, List.set_cons_zero, List.set_cons_succ]
  refine wpAnyH_take (i := 10) (v := (.pointer (some ⟨E, 3, none⟩))) rfl (by kernel_rfl) (by kernel_rfl) (by kernel_rfl) (fun _ _ _ h => h) (Or.inl ⟨by rfl, fun X hS => ?_⟩) hHeld ?_
  · obtain ⟨⟨s1, s2, s3, s4, s5, s6, s7, s8⟩, ⟨t1, t2, t3, t4, t5, t6⟩, f4, f5⟩ := hS.all
    go_simp
  try simp only [Act.put, List.getElem_toArray, List.getElem_cons_zero, List.getElem_cons_succ, List.setIfInBounds_toArray, List.set_cons_zero, List.set_cons_succ]
  refine wpAnyH_take (i := 11) (v := (.int .i64 n)) rfl (by kernel_rfl) (by kernel_rfl) (by kernel_rfl) (fun _ _ _ h => h) (Or.inl ⟨by rfl, fun X hS => ?_⟩) hHeld ?_
  · obtain ⟨⟨s1, s2, s3, s4, s5, s6, s7, s8⟩, ⟨t1, t2, t3, t4, t5, t6⟩, f4, f5⟩ := hS.all
    go_simp
  try simp only [Act.put, List.getElem_toArray, List.getElem_cons_zero, List.getElem_cons_succ, List.setIfInBounds_toArray, List.set_cons_zero, List.set_cons_succ]
  refine wpAnyH_ready (rs := [12]) (by kernel_rfl) (by simp) (AllReadyH.cons rfl (fun K1 hK1 => ?_) AllReadyH.nil)
  go_simp
  have HD := Lib.hid hHeld
  clear hHeld
  refine (HDC.out _ HD.out.d).mono ?_
  rintro e w3 ⟨rfl, hb⟩
  have HDw3 := Lib.hid (HD.out.below hb)
  clear hb HD
  refine hK1.out _ _ HDw3.out (fun hHeld => ?_)
  clear hK1
  try simp only [Act.put, List.getElem_toArray, List.getElem_cons_zero, List.getElem_cons_succ, List.setIfInBounds_toArray, List.set_cons_zero, List.set_cons_succ]
  refine wpAnyH_take (i := 13) (v := (.tuple #[.int .u64 V, .int .i64 er])) rfl (by kernel_rfl) (by kernel_rfl) (by kernel_rfl) (fun _ _ _ h => h) (Or.inl ⟨by rfl, fun X hS => ?_⟩) hHeld ?_
  · obtain ⟨⟨s1, s2, s3, s4, s5, s6, s7, s8⟩, ⟨t1, t2, t3, t4, t5, t6⟩, f4, f5⟩ := hS.all
    go_simp
  try simp only [Act.put, List.getElem_toArray, List.getElem_cons_zero, List.getElem_cons_succ, List.setIfInBounds_toArray, List.set_cons_zero, List.set_cons_succ]
  refine wpAnyH_take (i := 14) (v := (.int .u64 V)) rfl (by kernel_rfl) (by kernel_rfl) (by kernel_rfl) (fun _ _ _ h => h) (Or.inl ⟨by rfl, fun X hS => ?_⟩) hHeld ?_
  · obtain ⟨⟨s1, s2, s3, s4, s5, s6, s7, s8⟩, ⟨t1, t2, t3, t4, t5, t6⟩, f4, f5⟩ := hS.all
    go_simp
  try simp only [Act.put, List.getElem_toArray, List.getElem_cons_zero, List.getElem_cons_succ, List.setIfInBounds_toArray, List.set_cons_zero, List.set_cons_succ]
  refine wpAnyH_take (i := 15) (v := (.int .i64 er)) rfl (by kernel_rfl) (by kernel_rfl) (by kernel_rfl) (fun _ _ _ h => h) (Or.inl ⟨by rfl, fun X hS => ?_⟩) hHeld ?_
  · obtain ⟨⟨s1, s2, s3, s4, s5, s6, s7, s8⟩, ⟨t1, t2, t3, t4, t5, t6⟩, f4, f5⟩ := hS.all
    go_simp
  try simp only [Act.put, List.getElem_toArray, List.getElem_cons_zero, List.getElem_cons_succ, List.setIfInBounds_toArray, List.set_cons_zero, List.set_cons_succ]
  refine wpAnyH_take (i := 16) (v := (.int .u64 V)) rfl (by kernel_rfl) (by kernel_rfl) (by kernel_rfl) (fun _ _ _ h => h) (Or.inl ⟨by rfl, fun X hS => ?_⟩) hHeld ?_
  · obtain ⟨⟨s1, s2, s3, s4, s5, s6, s7, s8⟩, ⟨t1, t2, t3, t4, t5, t6⟩, f4, f5⟩ := hS.all
    go_simp
  try simp only [Act.put, List.getElem_toArray, List.getElem_cons_zero, List.getElem_cons_succ, List.setIfInBounds_toArray, List.set_cons_zero, List.set_cons_succ]
  refine wpAnyH_take (i := 17) (v := (.int .i64 er)) rfl (by kernel_rfl) (by kernel_rfl) (by kernel_rfl) (fun _ _ _ h => h) (Or.inl ⟨by rfl, fun X hS => ?_⟩) hHeld ?_
  · obtain ⟨⟨s1, s2, s3, s4, s5, s6, s7, s8⟩, ⟨t1, t2, t3, t4, t5, t6⟩, f4, f5⟩ := hS.all
    go_simp
  try simp only [Act.put, List.getElem_toArray, List.getElem_cons_zero, List.getElem_cons_succ, List.setIfInBounds_toArray, List.set_cons_zero, List.set_cons_succ]
  clear hHeld
  refine wpAnyH_done (by kernel_rfl) ?_ _
  have hee : (er == er) = true := by simp
  have hvv : (V == V) = true := by simp
  go_wp2_with fail
  go_ret
  exact ⟨b, cap, va, vs, s, rfl, rfl, HDw3.out.fin⟩
end Go.Proofs.Ytdmaendhkenmgaa.Bt
/- law04's do: Bytes. (Written by gen_dve.py.) -/
namespace Go.Proofs.Ytdmaendhkenmgaa.Bt
open Go Go.RowKit Go.Shelf
set_option linter.unusedVariables false
set_option linter.unusedSimpArgs false

set_option maxHeartbeats 8000000 in
set_option maxRecDepth 100000 in
theorem dvo_bytes {Wb A b cap va vs : Nat} {s : ASt} {d at_ fr n x : Int} {S : ByteArray} {w0 w : World} (h : DvW Wb A b cap va vs s w0 w) (hL : s.L ≤ 8) (hd : d.tmod 10 = 5) (hd0 : 0 ≤ d ∧ d ≤ 255) (ha : -9223372036854775808 ≤ at_ ∧ at_ ≤ 9223372036854775807) (hf : -9223372036854775808 ≤ fr ∧ fr ≤ 9223372036854775807) (hn : -9223372036854775808 ≤ n ∧ n ≤ 9223372036854775807) (hx : 0 ≤ x ∧ x < 18446744073709551616) (hS : S.size ≤ 9223372036854775807) :
    Calls Try.prog 28 #[.pointer (some ⟨Wb, 0, none⟩), .agg #[.int .u8 d, .int .i64 at_, .int .i64 fr, .int .i64 n, .int .u64 x, .string S]] w (DvP Wb A s.L w0) := by
  have hv1 := h.hva
  have hv2 := h.hvs
  have HPC := Lib.hid (fun (y : World) (hy : On A s y) => on_bytes hy va vs hv1 hv2 at_ n (by omega))
  have HDC := Lib.hid (fun (y : World) (hy : DocB b (gS s) y) => rv_bytes (cap := cap) h.x.good hL hv1 hv2 (refR s) at_ n ha hn hy)
  obtain ⟨V, hV⟩ : ∃ V, byV s (addrV va vs at_ n) n = V := ⟨_, rfl⟩
  obtain ⟨er, her⟩ : ∃ er, thereE s.L s.es (addrV va vs at_ n) n = er := ⟨_, rfl⟩
  rw [hV, her] at HPC HDC
  clear hV her hf hn hx hS hv1 hv2
  have hE := heap_new w (.cells #[.int .u8 d, .int .i64 at_, .int .i64 fr, .int .i64 n, .int .u64 x, .string S] 36)
  have hb0 := bel1 w (.cells #[.int .u8 d, .int .i64 at_, .int .i64 fr, .int .i64 n, .int .u64 x, .string S] 36)
  have hds := h.start hE hb0
  clear hE hb0
  go_enter Try.func28, Try.ntmps28
  go_upto_region 1 with fail
  change Code.wp _ _ _ _ (w.alloc (.cells #[.int .u8 d, .int .i64 at_, .int .i64 fr, .int .i64 n, .int .u64 x, .string S] 36))
  obtain ⟨y, hy⟩ : ∃ y, w.alloc (.cells #[.int .u8 d, .int .i64 at_, .int .i64 fr, .int .i64 n, .int .u64 x, .string S] 36) = y := ⟨_, rfl⟩
  obtain ⟨E, hEE⟩ : ∃ E, w.heap.size = E := ⟨_, rfl⟩
  rw [hy, hEE] at hds
  rw [hy, hEE]
  have H := Lib.hid hds
  clear hy hEE hds
  obtain ⟨⟨s1, s2, s3, s4, s5, s6, s7, s8⟩, ⟨t1, t2, t3, t4, t5, t6⟩, f4, f5⟩ := H.out.all
  go_upto_region 24 with fail
  have hS0 := H.out.below (Below.refl y.heap.size y).drew
  clear H s1 s2 s3 s4 s5 s6 s7 s8 t1 t2 t3 t4 t5 t6 f4 f5
  refine wp_region_held_drew (S := DvS Wb E A b cap va vs s s d at_ fr n x S w0) (by kernel_rfl) hS0 (fun hHeld => ?_)
  clear hS0
  refine wpAnyH_take (i := 0) (v := (.pointer (some ⟨Wb, 0, none⟩))) rfl (by kernel_rfl) (by kernel_rfl) (by kernel_rfl) (fun _ _ _ h => h) (Or.inl ⟨by rfl, fun X hS => ?_⟩) hHeld ?_
  · obtain ⟨⟨s1, s2, s3, s4, s5, s6, s7, s8⟩, ⟨t1, t2, t3, t4, t5, t6⟩, f4, f5⟩ := hS.all
    go_simp
  try simp only [Act.put, List.getElem_toArray, List.getElem_cons_zero, List.getElem_cons_succ, List.setIfInBounds_toArray, List.set_cons_zero, List.set_cons_succ]
  refine wpAnyH_take (i := 1) (v := (.pointer (some ⟨Wb, 0, none⟩))) rfl (by kernel_rfl) (by kernel_rfl) (by kernel_rfl) (fun _ _ _ h => h) (Or.inl ⟨by rfl, fun X hS => ?_⟩) hHeld ?_
  · obtain ⟨⟨s1, s2, s3, s4, s5, s6, s7, s8⟩, ⟨t1, t2, t3, t4, t5, t6⟩, f4, f5⟩ := hS.all
    go_simp
  try simp only [Act.put, List.getElem_toArray, List.getElem_cons_zero, List.getElem_cons_succ, List.setIfInBounds_toArray, List.set_cons_zero, List.set_cons_succ]
  refine wpAnyH_take (i := 2) (v := (.pointer (some ⟨Wb, 1, none⟩))) rfl (by kernel_rfl) (by kernel_rfl) (by kernel_rfl) (fun _ _ _ h => h) (Or.inl ⟨by rfl, fun X hS => ?_⟩) hHeld ?_
  · obtain ⟨⟨s1, s2, s3, s4, s5, s6, s7, s8⟩, ⟨t1, t2, t3, t4, t5, t6⟩, f4, f5⟩ := hS.all
    go_simp
  try simp only [Act.put, List.getElem_toArray, List.getElem_cons_zero, List.getElem_cons_succ, List.setIfInBounds_toArray, List.set_cons_zero, List.set_cons_succ]
  refine wpAnyH_take (i := 3) (v := (.agg #[.pointer (some ⟨A, 0, none⟩), .int .i64 (va : Int), .int .i64 (vs : Int)])) rfl (by kernel_rfl) (by kernel_rfl) (by kernel_rfl) (fun _ _ _ h => h) (Or.inl ⟨by rfl, fun X hS => ?_⟩) hHeld ?_
  · obtain ⟨⟨s1, s2, s3, s4, s5, s6, s7, s8⟩, ⟨t1, t2, t3, t4, t5, t6⟩, f4, f5⟩ := hS.all
    go_simp
  try simp only [Act.put, List.getElem_toArray, List.getElem_cons_zero, List.getElem_cons_succ, List.setIfInBounds_toArray, List.set_cons_zero, List.set_cons_succ]
  refine wpAnyH_take (i := 4) (v := (.pointer (some ⟨E, 1, none⟩))) rfl (by kernel_rfl) (by kernel_rfl) (by kernel_rfl) (fun _ _ _ h => h) (Or.inl ⟨by rfl, fun X hS => ?_⟩) hHeld ?_
  · obtain ⟨⟨s1, s2, s3, s4, s5, s6, s7, s8⟩, ⟨t1, t2, t3, t4, t5, t6⟩, f4, f5⟩ := hS.all
    go_simp
  try simp only [Act.put, List.getElem_toArray, List.getElem_cons_zero, List.getElem_cons_succ, List.setIfInBounds_toArray, List.set_cons_zero, List.set_cons_succ]
  refine wpAnyH_take (i := 5) (v := (.int .i64 at_)) rfl (by kernel_rfl) (by kernel_rfl) (by kernel_rfl) (fun _ _ _ h => h) (Or.inl ⟨by rfl, fun X hS => ?_⟩) hHeld ?_
  · obtain ⟨⟨s1, s2, s3, s4, s5, s6, s7, s8⟩, ⟨t1, t2, t3, t4, t5, t6⟩, f4, f5⟩ := hS.all
    go_simp
  try simp only [Act.put, List.getElem_toArray, List.getElem_cons_zero, List.getElem_cons_succ, List.setIfInBounds_toArray, List.set_cons_zero, List.set_cons_succ]
  refine wpAnyH_take (i := 6) (v := (.pointer (some ⟨E, 3, none⟩))) rfl (by kernel_rfl) (by kernel_rfl) (by kernel_rfl) (fun _ _ _ h => h) (Or.inl ⟨by rfl, fun X hS => ?_⟩) hHeld ?_
  · obtain ⟨⟨s1, s2, s3, s4, s5, s6, s7, s8⟩, ⟨t1, t2, t3, t4, t5, t6⟩, f4, f5⟩ := hS.all
    go_simp
  try simp only [Act.put, List.getElem_toArray, List.getElem_cons_zero, List.getElem_cons_succ, List.setIfInBounds_toArray, List.set_cons_zero, List.set_cons_succ]
  refine wpAnyH_take (i := 7) (v := (.int .i64 n)) rfl (by kernel_rfl) (by kernel_rfl) (by kernel_rfl) (fun _ _ _ h => h) (Or.inl ⟨by rfl, fun X hS => ?_⟩) hHeld ?_
  · obtain ⟨⟨s1, s2, s3, s4, s5, s6, s7, s8⟩, ⟨t1, t2, t3, t4, t5, t6⟩, f4, f5⟩ := hS.all
    go_simp
  try simp only [Act.put, List.getElem_toArray, List.getElem_cons_zero, List.getElem_cons_succ, List.setIfInBounds_toArray, List.set_cons_zero, List.set_cons_succ]
  refine wpAnyH_ready (rs := [8]) (by kernel_rfl) (by simp) (AllReadyH.cons rfl (fun K1 hK1 => ?_) AllReadyH.nil)
  go_simp
  have HD := Lib.hid hHeld
  clear hHeld
  refine (HPC.out _ HD.out.x).mono ?_
  rintro e w2 ⟨rfl, hb⟩
  have HDw2 := Lib.hid (HD.out.below hb)
  clear hb HD
  refine hK1.out _ _ HDw2.out (fun hHeld => ?_)
  clear hK1
  try simp only [Act.put, List.getElem_toArray, List.getElem_cons_zero, List.getElem_cons_succ, List.setIfInBounds_toArray, List.set_cons_zero, List.set_cons_succ]
  refine wpAnyH_take (i := 9) (v := (.tuple #[.string V, .int .i64 er])) rfl (by kernel_rfl) (by kernel_rfl) (by kernel_rfl) (fun _ _ _ h => h) (Or.inl ⟨by rfl, fun X hS => ?_⟩) hHeld ?_
  · obtain ⟨⟨s1, s2, s3, s4, s5, s6, s7, s8⟩, ⟨t1, t2, t3, t4, t5, t6⟩, f4, f5⟩ := hS.all
    go_simp
  try simp only [Act.put, List.getElem_toArray, List.getElem_cons_zero, List.getElem_cons_succ, List.setIfInBounds_toArray, List.set_cons_zero, List.set_cons_succ]
  refine wpAnyH_take (i := 10) (v := (.string V)) rfl (by kernel_rfl) (by kernel_rfl) (by kernel_rfl) (fun _ _ _ h => h) (Or.inl ⟨by rfl, fun X hS => ?_⟩) hHeld ?_
  · obtain ⟨⟨s1, s2, s3, s4, s5, s6, s7, s8⟩, ⟨t1, t2, t3, t4, t5, t6⟩, f4, f5⟩ := hS.all
    go_simp
  try simp only [Act.put, List.getElem_toArray, List.getElem_cons_zero, List.getElem_cons_succ, List.setIfInBounds_toArray, List.set_cons_zero, List.set_cons_succ]
  refine wpAnyH_take (i := 11) (v := (.int .i64 er)) rfl (by kernel_rfl) (by kernel_rfl) (by kernel_rfl) (fun _ _ _ h => h) (Or.inl ⟨by rfl, fun X hS => ?_⟩) hHeld ?_
  · obtain ⟨⟨s1, s2, s3, s4, s5, s6, s7, s8⟩, ⟨t1, t2, t3, t4, t5, t6⟩, f4, f5⟩ := hS.all
    go_simp
  try simp only [Act.put, List.getElem_toArray, List.getElem_cons_zero, List.getElem_cons_succ, List.setIfInBounds_toArray, List.set_cons_zero, List.set_cons_succ]
  refine wpAnyH_take (i := 12) (v := (.string V)) rfl (by kernel_rfl) (by kernel_rfl) (by kernel_rfl) (fun _ _ _ h => h) (Or.inl ⟨by rfl, fun X hS => ?_⟩) hHeld ?_
  · obtain ⟨⟨s1, s2, s3, s4, s5, s6, s7, s8⟩, ⟨t1, t2, t3, t4, t5, t6⟩, f4, f5⟩ := hS.all
    go_simp
  try simp only [Act.put, List.getElem_toArray, List.getElem_cons_zero, List.getElem_cons_succ, List.setIfInBounds_toArray, List.set_cons_zero, List.set_cons_succ]
  refine wpAnyH_take (i := 13) (v := (.int .i64 er)) rfl (by kernel_rfl) (by kernel_rfl) (by kernel_rfl) (fun _ _ _ h => h) (Or.inl ⟨by rfl, fun X hS => ?_⟩) hHeld ?_
  · obtain ⟨⟨s1, s2, s3, s4, s5, s6, s7, s8⟩, ⟨t1, t2, t3, t4, t5, t6⟩, f4, f5⟩ := hS.all
    go_simp
  try simp only [Act.put, List.getElem_toArray, List.getElem_cons_zero, List.getElem_cons_succ, List.setIfInBounds_toArray, List.set_cons_zero, List.set_cons_succ]
  clear hHeld
  refine wpAnyH_done (by kernel_rfl) ?_ _
  go_upto_region 25 with fail
  have hS0 := HDw2.out.below (Below.refl w2.heap.size w2).drew
  clear HDw2
  refine wp_region_held_drew (S := DvS Wb E A b cap va vs s s d at_ fr n x S w0) (by kernel_rfl) hS0 (fun hHeld => ?_)
  clear hS0
  refine wpAnyH_take (i := 0) (v := (.pointer (some ⟨Wb, 0, none⟩))) rfl (by kernel_rfl) (by kernel_rfl) (by kernel_rfl) (fun _ _ _ h => h) (Or.inl ⟨by rfl, fun X hS => ?_⟩) hHeld ?_
  · obtain ⟨⟨s1, s2, s3, s4, s5, s6, s7, s8⟩, ⟨t1, t2, t3, t4, t5, t6⟩, f4, f5⟩ := hS.all
    go_simp
  try simp only [Act.put, List.getElem_toArray, List.getElem_cons_zero, List.getElem_cons_succ, List.setIfInBounds_toArray, List.set_cons_zero, List.set_cons_succ]
  refine wpAnyH_take (i := 1) (v := (.pointer (some ⟨Wb, 0, none⟩))) rfl (by kernel_rfl) (by kernel_rfl) (by kernel_rfl) (fun _ _ _ h => h) (Or.inl ⟨by rfl, fun X hS => ?_⟩) hHeld ?_
  · obtain ⟨⟨s1, s2, s3, s4, s5, s6, s7, s8⟩, ⟨t1, t2, t3, t4, t5, t6⟩, f4, f5⟩ := hS.all
    go_simp
  try simp only [Act.put, List.getElem_toArray, List.getElem_cons_zero, List.getElem_cons_succ, List.setIfInBounds_toArray, List.set_cons_zero, List.set_cons_succ]
  refine wpAnyH_take (i := 2) (v := (.pointer (some ⟨Wb, 4, none⟩))) rfl (by kernel_rfl) (by kernel_rfl) (by kernel_rfl) (fun _ _ _ h => h) (Or.inl ⟨by rfl, fun X hS => ?_⟩) hHeld ?_
  · obtain ⟨⟨s1, s2, s3, s4, s5, s6, s7, s8⟩, ⟨t1, t2, t3, t4, t5, t6⟩, f4, f5⟩ := hS.all
    go_simp
  try simp only [Act.put, List.getElem_toArray, List.getElem_cons_zero, List.getElem_cons_succ, List.setIfInBounds_toArray, List.set_cons_zero, List.set_cons_succ]
  refine wpAnyH_take (i := 3) (v := (.agg #[.slice (some ⟨b, 0, none⟩) s.L cap, .int .i64 (refR s)])) rfl (by kernel_rfl) (by kernel_rfl) (by kernel_rfl) (fun _ _ _ h => h) (Or.inl ⟨by rfl, fun X hS => ?_⟩) hHeld ?_
  · obtain ⟨⟨s1, s2, s3, s4, s5, s6, s7, s8⟩, ⟨t1, t2, t3, t4, t5, t6⟩, f4, f5⟩ := hS.all
    go_simp
  try simp only [Act.put, List.getElem_toArray, List.getElem_cons_zero, List.getElem_cons_succ, List.setIfInBounds_toArray, List.set_cons_zero, List.set_cons_succ]
  refine wpAnyH_take (i := 4) (v := (.pointer (some ⟨Wb, 0, none⟩))) rfl (by kernel_rfl) (by kernel_rfl) (by kernel_rfl) (fun _ _ _ h => h) (Or.inl ⟨by rfl, fun X hS => ?_⟩) hHeld ?_
  · obtain ⟨⟨s1, s2, s3, s4, s5, s6, s7, s8⟩, ⟨t1, t2, t3, t4, t5, t6⟩, f4, f5⟩ := hS.all
    go_simp
  try simp only [Act.put, List.getElem_toArray, List.getElem_cons_zero, List.getElem_cons_succ, List.setIfInBounds_toArray, List.set_cons_zero, List.set_cons_succ]
  refine wpAnyH_take (i := 5) (v := (.pointer (some ⟨Wb, 0, none⟩))) rfl (by kernel_rfl) (by kernel_rfl) (by kernel_rfl) (fun _ _ _ h => h) (Or.inl ⟨by rfl, fun X hS => ?_⟩) hHeld ?_
  · obtain ⟨⟨s1, s2, s3, s4, s5, s6, s7, s8⟩, ⟨t1, t2, t3, t4, t5, t6⟩, f4, f5⟩ := hS.all
    go_simp
  try simp only [Act.put, List.getElem_toArray, List.getElem_cons_zero, List.getElem_cons_succ, List.setIfInBounds_toArray, List.set_cons_zero, List.set_cons_succ]
  refine wpAnyH_take (i := 6) (v := (.pointer (some ⟨Wb, 6, none⟩))) rfl (by kernel_rfl) (by kernel_rfl) (by kernel_rfl) (fun _ _ _ h => h) (Or.inl ⟨by rfl, fun X hS => ?_⟩) hHeld ?_
  · obtain ⟨⟨s1, s2, s3, s4, s5, s6, s7, s8⟩, ⟨t1, t2, t3, t4, t5, t6⟩, f4, f5⟩ := hS.all
    go_simp
  try simp only [Act.put, List.getElem_toArray, List.getElem_cons_zero, List.getElem_cons_succ, List.setIfInBounds_toArray, List.set_cons_zero, List.set_cons_succ]
  refine wpAnyH_take (i := 7) (v := (.agg #[.int .i64 (va : Int), .int .i64 (vs : Int)])) rfl (by kernel_rfl) (by kernel_rfl) (by kernel_rfl) (fun _ _ _ h => h) (Or.inl ⟨by rfl, fun X hS => ?_⟩) hHeld ?_
  · obtain ⟨⟨s1, s2, s3, s4, s5, s6, s7, s8⟩, ⟨t1, t2, t3, t4, t5, t6⟩, f4, f5⟩ := hS.all
    go_simp
  try simp only [Act.put, List.getElem_toArray, List.getElem_cons_zero, List.getElem_cons_succ, List.setIfInBounds_toArray, List.set_cons_zero, List.set_cons_succ]
  refine wpAnyH_take (i := 8) (v := (.pointer (some ⟨E, 1, none⟩))) rfl (by kernel_rfl) (by kernel_rfl) (by kernel_rfl) (fun _ _ _ h => h) (Or.inl ⟨by rfl, fun X hS => ?_⟩) hHeld ?_
  · obtain ⟨⟨s1, s2, s3, s4, s5, s6, s7, s8⟩, ⟨t1, t2, t3, t4, t5, t6⟩, f4, f5⟩ := hS.all
    go_simp
  try simp only [Act.put, List.getElem_toArray, List.getElem_cons_zero, List.getElem_cons_succ, List.setIfInBounds_toArray, List.set_cons_zero, List.set_cons_succ]
  refine wpAnyH_take (i := 9) (v := (.int .i64 at_)) rfl (by kernel_rfl) (by kernel_rfl) (by kernel_rfl) (fun _ _ _ h => h) (Or.inl ⟨by rfl, fun X hS => ?_⟩) hHeld ?_
  · obtain ⟨⟨s1, s2, s3, s4, s5, s6, s7, s8⟩, ⟨t1, t2, t3, t4, t5, t6⟩, f4, f5⟩ := hS.all
    go_simp
  try simp only [Act.put, List.getElem_toArray, List.getElem_cons_zero, List.getElem_cons_succ, List.setIfInBounds_toArray, List.set_cons_zero, List.set_cons_succ]
  refine wpAnyH_take (i := 10) (v := (.pointer (some ⟨E, 3, none⟩))) rfl (by kernel_rfl) (by kernel_rfl) (by kernel_rfl) (fun _ _ _ h => h) (Or.inl ⟨by rfl, fun X hS => ?_⟩) hHeld ?_
  · obtain ⟨⟨s1, s2, s3, s4, s5, s6, s7, s8⟩, ⟨t1, t2, t3, t4, t5, t6⟩, f4, f5⟩ := hS.all
    go_simp
  try simp only [Act.put, List.getElem_toArray, List.getElem_cons_zero, List.getElem_cons_succ, List.setIfInBounds_toArray, List.set_cons_zero, List.set_cons_succ]
  refine wpAnyH_take (i := 11) (v := (.int .i64 n)) rfl (by kernel_rfl) (by kernel_rfl) (by kernel_rfl) (fun _ _ _ h => h) (Or.inl ⟨by rfl, fun X hS => ?_⟩) hHeld ?_
  · obtain ⟨⟨s1, s2, s3, s4, s5, s6, s7, s8⟩, ⟨t1, t2, t3, t4, t5, t6⟩, f4, f5⟩ := hS.all
    go_simp
  try simp only [Act.put, List.getElem_toArray, List.getElem_cons_zero, List.getElem_cons_succ, List.setIfInBounds_toArray, List.set_cons_zero, List.set_cons_succ]
  refine wpAnyH_ready (rs := [12]) (by kernel_rfl) (by simp) (AllReadyH.cons rfl (fun K1 hK1 => ?_) AllReadyH.nil)
  go_simp
  have HD := Lib.hid hHeld
  clear hHeld
  refine (HDC.out _ HD.out.d).mono ?_
  rintro e w3 ⟨rfl, hb⟩
  have HDw3 := Lib.hid (HD.out.below hb)
  clear hb HD
  refine hK1.out _ _ HDw3.out (fun hHeld => ?_)
  clear hK1
  try simp only [Act.put, List.getElem_toArray, List.getElem_cons_zero, List.getElem_cons_succ, List.setIfInBounds_toArray, List.set_cons_zero, List.set_cons_succ]
  refine wpAnyH_take (i := 13) (v := (.tuple #[.string V, .int .i64 er])) rfl (by kernel_rfl) (by kernel_rfl) (by kernel_rfl) (fun _ _ _ h => h) (Or.inl ⟨by rfl, fun X hS => ?_⟩) hHeld ?_
  · obtain ⟨⟨s1, s2, s3, s4, s5, s6, s7, s8⟩, ⟨t1, t2, t3, t4, t5, t6⟩, f4, f5⟩ := hS.all
    go_simp
  try simp only [Act.put, List.getElem_toArray, List.getElem_cons_zero, List.getElem_cons_succ, List.setIfInBounds_toArray, List.set_cons_zero, List.set_cons_succ]
  refine wpAnyH_take (i := 14) (v := (.string V)) rfl (by kernel_rfl) (by kernel_rfl) (by kernel_rfl) (fun _ _ _ h => h) (Or.inl ⟨by rfl, fun X hS => ?_⟩) hHeld ?_
  · obtain ⟨⟨s1, s2, s3, s4, s5, s6, s7, s8⟩, ⟨t1, t2, t3, t4, t5, t6⟩, f4, f5⟩ := hS.all
    go_simp
  try simp only [Act.put, List.getElem_toArray, List.getElem_cons_zero, List.getElem_cons_succ, List.setIfInBounds_toArray, List.set_cons_zero, List.set_cons_succ]
  refine wpAnyH_take (i := 15) (v := (.int .i64 er)) rfl (by kernel_rfl) (by kernel_rfl) (by kernel_rfl) (fun _ _ _ h => h) (Or.inl ⟨by rfl, fun X hS => ?_⟩) hHeld ?_
  · obtain ⟨⟨s1, s2, s3, s4, s5, s6, s7, s8⟩, ⟨t1, t2, t3, t4, t5, t6⟩, f4, f5⟩ := hS.all
    go_simp
  try simp only [Act.put, List.getElem_toArray, List.getElem_cons_zero, List.getElem_cons_succ, List.setIfInBounds_toArray, List.set_cons_zero, List.set_cons_succ]
  refine wpAnyH_take (i := 16) (v := (.string V)) rfl (by kernel_rfl) (by kernel_rfl) (by kernel_rfl) (fun _ _ _ h => h) (Or.inl ⟨by rfl, fun X hS => ?_⟩) hHeld ?_
  · obtain ⟨⟨s1, s2, s3, s4, s5, s6, s7, s8⟩, ⟨t1, t2, t3, t4, t5, t6⟩, f4, f5⟩ := hS.all
    go_simp
  try simp only [Act.put, List.getElem_toArray, List.getElem_cons_zero, List.getElem_cons_succ, List.setIfInBounds_toArray, List.set_cons_zero, List.set_cons_succ]
  refine wpAnyH_take (i := 17) (v := (.int .i64 er)) rfl (by kernel_rfl) (by kernel_rfl) (by kernel_rfl) (fun _ _ _ h => h) (Or.inl ⟨by rfl, fun X hS => ?_⟩) hHeld ?_
  · obtain ⟨⟨s1, s2, s3, s4, s5, s6, s7, s8⟩, ⟨t1, t2, t3, t4, t5, t6⟩, f4, f5⟩ := hS.all
    go_simp
  try simp only [Act.put, List.getElem_toArray, List.getElem_cons_zero, List.getElem_cons_succ, List.setIfInBounds_toArray, List.set_cons_zero, List.set_cons_succ]
  clear hHeld
  refine wpAnyH_done (by kernel_rfl) ?_ _
  have hee : (er == er) = true := by simp
  go_wp2_with fail
  go_ret
  exact ⟨b, cap, va, vs, s, rfl, rfl, HDw3.out.fin⟩
end Go.Proofs.Ytdmaendhkenmgaa.Bt
