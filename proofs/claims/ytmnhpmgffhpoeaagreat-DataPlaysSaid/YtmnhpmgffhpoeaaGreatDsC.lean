/- The document's keys: Put. (Written by gen_dsc.py.) -/
import Derived.Test.YtmnhpmgffhpoeaaGreatDsB
namespace Go.Proofs.YtmnhpmgffhpoeaaGreat.Bt
open Go Go.RowKit Go.Shelf
set_option linter.unusedVariables false
set_option linter.unusedSimpArgs false
theorem nd_setL {L : List Itm} {n : Nat} {t : Itm} (h : (L.map Itm.k).Nodup) : ((setL L n t).map Itm.k).Nodup := by
  unfold setL
  by_cases c : setC L n t = 0
  · rw [if_pos c]
    by_cases d : ixK L t.k < L.length
    · rw [if_pos d, keys_set (List.getElem?_eq_getElem d) (ixK_get d)]; exact h
    · rw [if_neg d, List.map_append]
      refine List.nodup_append.2 ⟨h, by simp, fun a ha b hb e => d (ixK_mem.2 ?_)⟩
      have : b = t.k := by simpa using hb
      rw [← this, ← e]; exact ha
  · rw [if_neg c]; exact h
theorem nd_drL {L : List Itm} {k : ByteArray} (h : (L.map Itm.k).Nodup) : ((drL L k).map Itm.k).Nodup := by
  unfold drL
  split
  · exact h.sublist ((List.eraseIdx_sublist _ _).map _)
  · exact h
theorem nd_putsL (n : Nat) (T : List Itm) : ∀ L : List Itm, (L.map Itm.k).Nodup → ((putsL n L T).map Itm.k).Nodup := by
  induction T with
  | nil => intro L h; exact h
  | cons t ts ih =>
    intro L h
    by_cases c : setC L n t = 0
    · rw [putsL_cons c]; exact ih _ (nd_setL h)
    · rw [show putsL n L (t :: ts) = L from by show (if setC L n t = 0 then _ else _) = _; rw [if_neg c]]; exact h
theorem nd_kPutL (n : Nat) (T L : List Itm) (h : (L.map Itm.k).Nodup) : ((kPutL n L T).map Itm.k).Nodup := by
  unfold kPutL
  split
  · exact nd_putsL n T L h
  · exact h
section
variable {w : World} {L : List Itm} {p : Option Addr} {cap n : Nat}
set_option maxRecDepth 100000 in
set_option maxHeartbeats 8000000 in
theorem rput22 (T : List Itm) (pt : Option Addr) (ct : Nat) (hR : RowG 49 iL 2 p L w) (hT : RowG 49 iL 2 pt T w) (hl : L.length ≤ n) (hn : n ≤ 100) (hd : (L.map Itm.k).Nodup) (hTl : T.length ≤ 100) (h9 : ∀ t ∈ T, t.k.size ≤ 9223372036854775807) :
    Calls Tryz.prog 8 #[.slice p L.length cap, .int .i64 (n : Int), .slice pt T.length ct] w (RTwo (kPutL n L T) (putsC n L T) w) := by
  have HR := Lib.hid hR
  have HT := Lib.hid hT
  have H9 := Lib.hid h9
  have HL0 := Lib.hid (And.intro hl hd)
  obtain ⟨N, hN⟩ : ∃ N, T.length = N := ⟨_, rfl⟩
  have HN := Lib.hid hN
  rw [hN] at hTl
  rw [hN]
  obtain ⟨cF, hcF⟩ : ∃ c, putsC n L T = c := ⟨_, rfl⟩
  obtain ⟨lF, hlF⟩ : ∃ c, kPutL n L T = c := ⟨_, rfl⟩
  have HCF := Lib.hid hcF
  have HLF := Lib.hid hlF
  rw [hcF, hlF]
  clear hR hT h9 hN hcF hlF hl hd
  go_enter Tryz.func8, Tryz.ntmps8
  go_wp2_with fail
  go_loopw [8, 16] (fun s8 s16 wr => ∃ (j : Nat) (M : List Itm) (p8 : Option Addr) (c8 : Nat), j ≤ N ∧ s8 = .slice p8 M.length c8 ∧ s16 = .int .i64 (j : Int) ∧ Hid (putsC n L T = putsC n M (T.drop j) ∧ putsL n L T = putsL n M (T.drop j)) ∧ Hid (M.length ≤ n ∧ (M.map Itm.k).Nodup) ∧ Hid (RowG 49 iL 2 p8 M wr) ∧ Hid (Below w.heap.size w wr)) (fun _ s16 _ => N - (intOf s16).toNat)
  case atStart => exact ⟨0, L, p, cap, Nat.zero_le _, rfl, rfl, Lib.hid ⟨rfl, rfl⟩, HL0, HR, Lib.hid (Below.refl _ _)⟩
  case round =>
    obtain ⟨j, M, p8, c8, hj, rfl, rfl, HP, HM, HG, HB⟩ := hrel
    by_cases hjn : j < N
    · have hjn2 : (j : Int) < (N : Int) := by omega
      obtain ⟨t, ht⟩ : ∃ t, T[j]? = some t := ⟨_, List.getElem?_eq_getElem (by have := HN.out; omega)⟩
      obtain ⟨g, rfl, hg, q0, q1⟩ := rowF_cell (HT.out.below HB.out) ht
      have HTE := Lib.hid ht
      have hbx := bel1 wr (.cells #[.string t.k, .int .u64 (t.x : Int)] 49)
      have HB2 := Lib.hid (HB.out.trans (hbx.mono HB.out.size))
      have HSE := Lib.hid (rset22 (w := wr.alloc (.cells #[.string t.k, .int .u64 (t.x : Int)] 49)) (p := p8) (cap := c8) t (HG.out.below hbx) HM.out.1 hn HM.out.2 (H9.out t (List.mem_of_getElem? ht)))
      obtain ⟨cc, hcc⟩ : ∃ c, setC M n t = c := ⟨_, rfl⟩
      rw [hcc] at HSE
      have HCC := Lib.hid hcc
      clear ht hbx hcc hg
      by_cases cz : cc = 0
      · subst cz
        go_wp2_with fail
        refine HSE.out.mono ?_
        rintro e w1 ⟨p9, c9, rfl, hr, hb⟩
        have HR9 := Lib.hid hr
        have HB9 := Lib.hid (HB2.out.trans (hb.mono HB2.out.size))
        clear hr hb HSE q0 q1 HB2
        go_wp2_with fail
        go_roundw
        case rel =>
          have hdr := drop_next HTE.out
          refine ⟨j + 1, setL M n t, p9, c9, by omega, rfl, by go_num, Lib.hid ⟨?_, ?_⟩, Lib.hid ⟨(set_len HM.out.1).2, nd_setL HM.out.2⟩, HR9, HB9⟩
          · rw [HP.out.1, hdr, putsC_cons HCC.out]
          · rw [HP.out.2, hdr, putsL_cons HCC.out]
        case measure => simp [intOf]; omega
      · have hczb : (cc == 0) = false := by simpa using cz
        have hcc2 : putsC n L T = cc := by rw [HP.out.1, drop_next HTE.out, putsC_stop (by rw [HCC.out]; exact cz), HCC.out]
        have h1 : cF = cc := by rw [← HCF.out, hcc2]
        have h2 : lF = L := by rw [← HLF.out]; unfold kPutL; rw [if_neg (by rw [hcc2]; exact cz)]
        subst h1
        subst h2
        go_wp2_with fail
        refine HSE.out.mono ?_
        rintro e w1 ⟨p9, c9, rfl, hr, hb⟩
        have HB9 := Lib.hid (HB2.out.trans (hb.mono HB2.out.size))
        clear hr hb HSE q0 q1 HB2 hcc2
        go_wp2_with fail
        go_ret2
        exact ⟨p, cap, by rfl, HR.out.below HB9.out, HB9.out⟩
    · have hjn2 : ¬ (j : Int) < (N : Int) := by omega
      have e : T.drop j = [] := List.drop_eq_nil_iff.2 (by have := HN.out; omega)
      have h1 : cF = 0 := by rw [← HCF.out, HP.out.1, e]; rfl
      have h2 : lF = M := by
        rw [← HLF.out]; unfold kPutL
        rw [if_pos (by rw [HP.out.1, e]; rfl), HP.out.2, e]; rfl
      subst h1
      subst h2
      clear e
      go_wp2_with fail
      go_ret2
      exact ⟨p8, c8, by rfl, HG.out, HB.out⟩
end
end Go.Proofs.YtmnhpmgffhpoeaaGreat.Bt
