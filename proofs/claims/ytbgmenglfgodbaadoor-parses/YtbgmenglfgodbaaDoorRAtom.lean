/-
  OUR OWN. The document's own truth and word.
-/
import Derived.Test.YtbgmenglfgodbaaDoorRRep
namespace Go.Proofs.YtbgmenglfgodbaaDoor
open Go.RowKit

theorem not_all {s : ByteArray} {q : Nat} (h : ¬ ∀ hlt : q < s.size, Px.endB s[q] = true) : ∃ hlt : q < s.size, Px.endB s[q] = false := by
  rcases Classical.not_forall.1 h with ⟨a, ha⟩
  exact ⟨a, by simpa using ha⟩

set_option maxHeartbeats 1000000 in
theorem truth_ref (b : Nat) (s : ByteArray) (p d : Nat) (w : World) (h : Rr b s p 0 0 w) (hp : p < s.size) (hs : s.size ≤ 1200) (hd30 : d ≤ 30) :
    Calls Tryd.prog 41 #[.pointer (some ⟨b, 0, none⟩)] w fun e w' => ResR b s d (Px.truth (L s (p + 1))) w e w' := by
  have h0 := h.c0
  have h1 := h.c1
  have hf := h.fz 1
  have hb := h.lt
  have HR := Lib.hid h
  clear h
  by_cases hlt : p + 1 < s.size
  · have hge : decide ((p : Int) + 1 ≥ (s.size : Int)) = false := by simp; omega
    cases ct : ((s[p + 1].toNat : Int) == 116)
    · cases cf : ((s[p + 1].toNat : Int) == 102)
      · have HT := Lib.hid (Xt.truth_no s p hlt ct cf)
        have n1 : ((s[p + 1].toNat : Int) != 116) = true := by rw [bne, ct]; rfl
        have n2 : ((s[p + 1].toNat : Int) != 102) = true := by rw [bne, cf]; rfl
        go_enter Tryd.func41, Tryd.ntmps41
        go_wp2_with (go_at_call 38; refine (bad_any b s p 2 p _ HR.out).mono ?_; rintro e w1 ⟨⟨g, rfl, hg⟩, h3, h4⟩; have H3 := Lib.hid h3; have H4 := Lib.hid h4; have HG9 := Lib.hid hg; clear h3 h4 hg)
        go_ret
        rw [HT.out]
        exact ResR.bad HG9.out H4.out H3.out (by omega)
      · have n1 : ((s[p + 1].toNat : Int) != 116) = true := by rw [bne, ct]; rfl
        have n2 : ((s[p + 1].toNat : Int) != 102) = false := by rw [bne, cf]; rfl
        by_cases hcl : ∀ hlt : p + 2 < s.size, Px.endB s[p + 2] = true
        · have HT := Lib.hid ((Xt.truth_f s p hlt ct cf).trans (Xt.closedL_ok s (p + 2) _ hcl))
          have HCl := Lib.hid hcl
          clear hcl
          go_enter Tryd.func41, Tryd.ntmps41
          go_wp2_with (go_at_call 57; refine (ends_ok b s (p + 2) _ (HR.out.set1 (p + 2) _ (by omega)) (by omega) HCl.out).mono ?_; rintro e w1 ⟨rfl, n1, rfl⟩)
          go_ret
          rw [HT.out]
          exact ResR.atom (x := ⟨98, 0, ⟨#[]⟩, none, 0, 0, 0, p⟩) (w1 := (w.setCell ⟨b, 1, none⟩ (.int .i64 ((p : Int) + 2))).drewN n1) hd30 (by simp) (((Only.refl b w).set _ _).drewN _) ((HR.out.set1 (p + 2) _ (by omega)).drewN _) (by rw [L_len]; omega) (.inr (.inl ⟨rfl, rfl⟩))
        · obtain ⟨hl2, he2⟩ := not_all hcl
          have HT := Lib.hid ((Xt.truth_f s p hlt ct cf).trans (Xt.closedL_bad s (p + 2) _ hl2 he2))
          clear hcl
          go_enter Tryd.func41, Tryd.ntmps41
          go_wp2_with (go_at_call 57; refine (ends_bad b s (p + 2) _ (HR.out.set1 (p + 2) _ (by omega)) hl2 he2).mono ?_; rintro e w1 ⟨rfl, h3, h4⟩; refine Hid.out ?_)
          have h0' := h3.c0
          have hb1 := h3.lt
          have H3 := Lib.hid h3
          have H4 := Lib.hid (((Only.refl b w).set 1 (Value.int IntKind.i64 ((p : Int) + 2))).trans h4)
          clear h3 h4
          refine Lib.hid ?_
          go_wp2
          go_ret
          rw [HT.out]
          exact ResR.bad (by have := H4.out.size; omega) (H4.out.alloc _) (H3.out.alloc _) (by omega)
    · have n1 : ((s[p + 1].toNat : Int) != 116) = false := by rw [bne, ct]; rfl
      by_cases hcl : ∀ hlt : p + 2 < s.size, Px.endB s[p + 2] = true
      · have HT := Lib.hid ((Xt.truth_t s p hlt ct).trans (Xt.closedL_ok s (p + 2) _ hcl))
        have HCl := Lib.hid hcl
        clear hcl
        go_enter Tryd.func41, Tryd.ntmps41
        go_wp2_with (go_at_call 57; refine (ends_ok b s (p + 2) _ (HR.out.set1 (p + 2) _ (by omega)) (by omega) HCl.out).mono ?_; rintro e w1 ⟨rfl, n1, rfl⟩)
        go_ret
        rw [HT.out]
        exact ResR.atom (x := ⟨98, 1, ⟨#[]⟩, none, 0, 0, 0, p⟩) (w1 := (w.setCell ⟨b, 1, none⟩ (.int .i64 ((p : Int) + 2))).drewN n1) hd30 (by simp) (((Only.refl b w).set _ _).drewN _) ((HR.out.set1 (p + 2) _ (by omega)).drewN _) (by rw [L_len]; omega) (.inr (.inl ⟨rfl, rfl⟩))
      · obtain ⟨hl2, he2⟩ := not_all hcl
        have HT := Lib.hid ((Xt.truth_t s p hlt ct).trans (Xt.closedL_bad s (p + 2) _ hl2 he2))
        clear hcl
        go_enter Tryd.func41, Tryd.ntmps41
        go_wp2_with (go_at_call 57; refine (ends_bad b s (p + 2) _ (HR.out.set1 (p + 2) _ (by omega)) hl2 he2).mono ?_; rintro e w1 ⟨rfl, h3, h4⟩; refine Hid.out ?_)
        have h0' := h3.c0
        have hb1 := h3.lt
        have H3 := Lib.hid h3
        have H4 := Lib.hid (((Only.refl b w).set 1 (Value.int IntKind.i64 ((p : Int) + 2))).trans h4)
        clear h3 h4
        refine Lib.hid ?_
        go_wp2
        go_ret
        rw [HT.out]
        exact ResR.bad (by have := H4.out.size; omega) (H4.out.alloc _) (H3.out.alloc _) (by omega)
  · have HT := Lib.hid (Xt.truth_end s p (by omega))
    have hge : decide ((p : Int) + 1 ≥ (s.size : Int)) = true := by simp; omega
    go_enter Tryd.func41, Tryd.ntmps41
    go_wp2_with (go_at_call 38; refine (bad_any b s p 2 p _ HR.out).mono ?_; rintro e w1 ⟨⟨g, rfl, hg⟩, h3, h4⟩; have H3 := Lib.hid h3; have H4 := Lib.hid h4; have HG9 := Lib.hid hg; clear h3 h4 hg)
    go_ret
    rw [HT.out]
    exact ResR.bad HG9.out H4.out H3.out (by omega)

set_option maxHeartbeats 1000000 in
theorem word_ref (b : Nat) (s : ByteArray) (p d : Nat) (w : World) (h : Rr b s p 0 0 w) (hp : p < s.size) (hs : s.size ≤ 1200) (hd30 : d ≤ 30) (hw : Px.wordB s[p] = true) :
    Calls Tryd.prog 42 #[.pointer (some ⟨b, 0, none⟩)] w fun e w' => ResR b s d (Px.word (L s p)) w e w' := by
  have h0 := h.c0
  have h1 := h.c1
  have hf := h.fz 1
  have hb := h.lt
  have HR := Lib.hid h
  clear h
  go_enter Tryd.func42, Tryd.ntmps42
  go_wp2
  go_loopw [] (fun wr => ∃ q, Scan Px.wordB s p q ∧ Rr b s q 0 0 wr ∧ Only b w wr) (fun wr => s.size - posOf b wr)
  case atStart => exact ⟨p, Scan.refl _ _ _ (by omega), HR.out, Only.refl _ _⟩
  case round =>
    obtain ⟨q, hS, hR, hO⟩ := hrel
    have h0' := hR.c0
    have h1' := hR.c1
    have hf' := hR.fz 1
    have hq := hS.lim
    have hpq := hS.le
    have HRq := Lib.hid hR
    have HO := Lib.hid hO
    have HS := Lib.hid hS
    have HPos : Hid (posOf b wr = q) := hR.pos
    clear hR hO hS
    by_cases hlt : q < s.size
    · cases hc : Px.wordB s[q]
      · skip
        have hT0 : Px.word (L s p) = Px.wordOf (s.extract p q).data.toList (L s q) := Xt.word_L HS.out (fun _ => hc)
        have hwl := wlen (s := s) hpq hq
        have hne : p < q := by
          rcases Nat.lt_or_ge p q with h' | h'
          · exact h'
          · exfalso
            have e : q = p := by omega
            subst e
            rw [hw] at hc; cases hc
        go_wp2
        go_quiet (fail)
        have hR2 := HRq.out.drewN nq
        have hO2 := HO.out.drewN nq
        clear HRq HO h0' h1' hf'
        generalize wr.drewN nq = w2 at hR2 hO2 ⊢
        have h0' := hR2.c0
        have h1' := hR2.c1
        have hf' := hR2.fz 1
        have HRq := Lib.hid hR2
        have HO := Lib.hid hO2
        clear hR2 hO2
        go_wp2
        go_quiet ((go_at_call 37; exact Calls.quiet_of_same (letter_any _ _)))
        go_wp2
        go_quiet (fail)
        obtain ⟨u, hu⟩ : ∃ u, u = s.extract p q := ⟨_, rfl⟩
        rw [← hu] at hT0 hwl ⊢
        have hule : u.size ≤ 1200 := by rw [hu]; simp; omega
        have hu0 : 0 < u.size := by rw [hu]; simp; omega
        have HU := Lib.hid hu
        have HWL := Lib.hid hwl
        have HT0 := Lib.hid hT0
        clear hu hwl hT0
        cases hn : Px.numB u.data.toList
        · by_cases hlen : 24 < u.size
          · have HT : Hid (Px.word (L s p) = .inl (4, s.size - p)) := by
              show _ = _
              rw [HT0.out]; unfold Px.wordOf; rw [hn, if_neg (by simp), if_pos (by simpa using hlen), HWL.out]
            go_wp2_with (first | (go_at_call 58; refine (numeric_any u _ (by omega) hu0).mono ?_; rintro e w' ⟨rfl, rfl⟩) | (go_at_call 38; refine (bad_any b s q 4 p _ (HRq.out.drewN _)).mono ?_; rintro e w1 ⟨⟨g, rfl, hg⟩, h3, h4⟩; have H3 := Lib.hid h3; have H4 := Lib.hid h4; have HG9 := Lib.hid hg; clear h3 h4 hg))
            go_ret
            rw [HT.out]
            exact ResR.bad (by have := HG9.out; have := HO.out.size; simp at *; omega) ((HO.out.drewN _).trans H4.out) H3.out (by omega)
          · have HT1 : Hid (Px.word (L s p) = Px.closed u.data.toList (L s q)) := by
              show _ = _
              rw [HT0.out]; unfold Px.wordOf; rw [hn, if_neg (by simp), if_neg (by simpa using hlen)]
            by_cases hcl : ∀ hlt : q < s.size, Px.endB s[q] = true
            · have HT := Lib.hid (HT1.out.trans (Xt.closedL_ok s q _ hcl))
              have HCl := Lib.hid hcl
              clear hcl
              go_wp2_with (first | (go_at_call 58; refine (numeric_any u _ (by omega) hu0).mono ?_; rintro e w' ⟨rfl, rfl⟩) | (go_at_call 57; refine (ends_ok b s q _ (HRq.out.drewN _) (by omega) HCl.out).mono ?_; rintro e w1 ⟨rfl, n1, rfl⟩))
              go_ret
              rw [HT.out]
              exact ResR.atom (x := ⟨121, 0, u, none, 0, 0, 0, p⟩) hd30 (by simp) (HO.out.drewN _) (HRq.out.drewN _) (by rw [L_len]; omega) (.inr (.inr (.inr ⟨rfl, rfl⟩)))
            · obtain ⟨hl2, he2⟩ := not_all hcl
              have HT := Lib.hid (HT1.out.trans (Xt.closedL_bad s q _ hl2 he2))
              clear hcl
              go_wp2_with (first | (go_at_call 58; refine (numeric_any u _ (by omega) hu0).mono ?_; rintro e w' ⟨rfl, rfl⟩) | (go_at_call 57; refine (ends_bad b s q _ (HRq.out.drewN _) hl2 he2).mono ?_; rintro e w1 ⟨rfl, h3, h4⟩; have H3 := Lib.hid h3; have H4 := Lib.hid ((HO.out.drewN _).trans h4); clear h3 h4))
              go_ret
              rw [HT.out]
              exact ResR.bad H4.out.size (H4.out.alloc _) (H3.out.alloc _) (by omega)
        · rcases parse_num _ hn with ⟨v, hv⟩ | hv
          · have HT1 : Hid (Px.word (L s p) = Px.closed (Lib.itoa v) (L s q)) := by
              show _ = _
              rw [HT0.out]; unfold Px.wordOf; rw [hn, if_pos rfl, hv]
            have HVB := Lib.hid (Lib.parseIntB_bounds hv)
            have HV := Lib.hid hv
            have HN := Lib.hid hn
            clear hv
            by_cases hcl : ∀ hlt : q < s.size, Px.endB s[q] = true
            · have HT := Lib.hid (HT1.out.trans (Xt.closedL_ok s q _ hcl))
              have HCl := Lib.hid hcl
              clear hcl
              go_wp2_with (first | (go_at_call 58; refine (numeric_any u _ (by omega) hu0).mono ?_; rintro e w' ⟨rfl, rfl⟩) | (go_at_call 59; refine (decimal_ok u _ (by omega) hu0 HN.out v HV.out).mono ?_; rintro e w' ⟨rfl, rfl⟩) | (go_at_call 57; refine (ends_ok b s q _ (HRq.out.drewN _) (by omega) HCl.out).mono ?_; rintro e w1 ⟨rfl, n1, rfl⟩))
              go_ret
              rw [HT.out]
              exact ResR.atom (x := ⟨110, v, ⟨#[]⟩, none, 0, 0, 0, p⟩) hd30 (by simp) (HO.out.drewN _) (HRq.out.drewN _) (by rw [L_len]; omega) (.inl ⟨rfl, rfl, by have := HVB.out.1; show _ ≤ v; simpa using this, by have := HVB.out.2; simp at this; show v ≤ _; omega⟩)
            · obtain ⟨hl2, he2⟩ := not_all hcl
              have HT := Lib.hid (HT1.out.trans (Xt.closedL_bad s q _ hl2 he2))
              clear hcl
              go_wp2_with (first | (go_at_call 58; refine (numeric_any u _ (by omega) hu0).mono ?_; rintro e w' ⟨rfl, rfl⟩) | (go_at_call 59; refine (decimal_ok u _ (by omega) hu0 HN.out v HV.out).mono ?_; rintro e w' ⟨rfl, rfl⟩) | (go_at_call 57; refine (ends_bad b s q _ (HRq.out.drewN _) hl2 he2).mono ?_; rintro e w1 ⟨rfl, h3, h4⟩; have H3 := Lib.hid h3; have H4 := Lib.hid ((HO.out.drewN _).trans h4); clear h3 h4))
              go_ret
              rw [HT.out]
              exact ResR.bad H4.out.size (H4.out.alloc _) (H3.out.alloc _) (by omega)
          · have HT : Hid (Px.word (L s p) = .inl (4, s.size - p)) := by
              show _ = _
              rw [HT0.out]; unfold Px.wordOf; rw [hn, if_pos rfl, hv, HWL.out]
            have HV := Lib.hid hv
            have HN := Lib.hid hn
            clear hv
            go_wp2_with (first | (go_at_call 58; refine (numeric_any u _ (by omega) hu0).mono ?_; rintro e w' ⟨rfl, rfl⟩) | (go_at_call 59; refine (decimal_bad u _ (by omega) hu0 HN.out HV.out).mono ?_; rintro e w' ⟨z, rfl, rfl⟩) | (go_at_call 38; refine (bad_any b s q 4 p _ (HRq.out.drewN _)).mono ?_; rintro e w1 ⟨⟨g, rfl, hg⟩, h3, h4⟩; have H3 := Lib.hid h3; have H4 := Lib.hid h4; have HG9 := Lib.hid hg; clear h3 h4 hg))
            go_ret
            rw [HT.out]
            exact ResR.bad (by have := HG9.out; have := HO.out.size; simp at *; omega) ((HO.out.drewN _).trans H4.out) H3.out (by omega)
      · go_wp2
        go_quiet (fail)
        have hR2 := HRq.out.drewN nq
        have hO2 := HO.out.drewN nq
        clear HRq HO h0' h1' hf'
        generalize wr.drewN nq = w2 at hR2 hO2 ⊢
        have h0' := hR2.c0
        have h1' := hR2.c1
        have hf' := hR2.fz 1
        have HRq := Lib.hid hR2
        have HO := Lib.hid hO2
        clear hR2 hO2
        go_wp2
        go_quiet ((go_at_call 37; exact Calls.quiet_of_same (letter_any _ _)))
        go_wp2
        refine ⟨⟨q + 1, HS.out.next hlt hc, (HRq.out.drewN _).set1 _ _ (by omega), (HO.out.drewN _).set _ _⟩, meas ((HRq.out.drewN _).set1 (q + 1) _ (by omega)) HPos.out (by omega) (by omega)⟩
    · skip
      have hT0 : Px.word (L s p) = Px.wordOf (s.extract p q).data.toList (L s q) := Xt.word_L HS.out (fun h => absurd h hlt)
      have hwl := wlen (s := s) hpq hq
      have hne : p < q := by
        rcases Nat.lt_or_ge p q with h' | h'
        · exact h'
        · exfalso
          have e : q = p := by omega
          subst e
          omega
      go_wp2
      go_quiet (fail)
      go_wp2
      go_quiet (fail)
      obtain ⟨u, hu⟩ : ∃ u, u = s.extract p q := ⟨_, rfl⟩
      rw [← hu] at hT0 hwl ⊢
      have hule : u.size ≤ 1200 := by rw [hu]; simp; omega
      have hu0 : 0 < u.size := by rw [hu]; simp; omega
      have HU := Lib.hid hu
      have HWL := Lib.hid hwl
      have HT0 := Lib.hid hT0
      clear hu hwl hT0
      cases hn : Px.numB u.data.toList
      · by_cases hlen : 24 < u.size
        · have HT : Hid (Px.word (L s p) = .inl (4, s.size - p)) := by
            show _ = _
            rw [HT0.out]; unfold Px.wordOf; rw [hn, if_neg (by simp), if_pos (by simpa using hlen), HWL.out]
          go_wp2_with (first | (go_at_call 58; refine (numeric_any u _ (by omega) hu0).mono ?_; rintro e w' ⟨rfl, rfl⟩) | (go_at_call 38; refine (bad_any b s q 4 p _ (HRq.out.drewN _)).mono ?_; rintro e w1 ⟨⟨g, rfl, hg⟩, h3, h4⟩; have H3 := Lib.hid h3; have H4 := Lib.hid h4; have HG9 := Lib.hid hg; clear h3 h4 hg))
          go_ret
          rw [HT.out]
          exact ResR.bad (by have := HG9.out; have := HO.out.size; simp at *; omega) ((HO.out.drewN _).trans H4.out) H3.out (by omega)
        · have HT1 : Hid (Px.word (L s p) = Px.closed u.data.toList (L s q)) := by
            show _ = _
            rw [HT0.out]; unfold Px.wordOf; rw [hn, if_neg (by simp), if_neg (by simpa using hlen)]
          by_cases hcl : ∀ hlt : q < s.size, Px.endB s[q] = true
          · have HT := Lib.hid (HT1.out.trans (Xt.closedL_ok s q _ hcl))
            have HCl := Lib.hid hcl
            clear hcl
            go_wp2_with (first | (go_at_call 58; refine (numeric_any u _ (by omega) hu0).mono ?_; rintro e w' ⟨rfl, rfl⟩) | (go_at_call 57; refine (ends_ok b s q _ (HRq.out.drewN _) (by omega) HCl.out).mono ?_; rintro e w1 ⟨rfl, n1, rfl⟩))
            go_ret
            rw [HT.out]
            exact ResR.atom (x := ⟨121, 0, u, none, 0, 0, 0, p⟩) hd30 (by simp) (HO.out.drewN _) (HRq.out.drewN _) (by rw [L_len]; omega) (.inr (.inr (.inr ⟨rfl, rfl⟩)))
          · obtain ⟨hl2, he2⟩ := not_all hcl
            exact absurd hl2 hlt
      · rcases parse_num _ hn with ⟨v, hv⟩ | hv
        · have HT1 : Hid (Px.word (L s p) = Px.closed (Lib.itoa v) (L s q)) := by
            show _ = _
            rw [HT0.out]; unfold Px.wordOf; rw [hn, if_pos rfl, hv]
          have HVB := Lib.hid (Lib.parseIntB_bounds hv)
          have HV := Lib.hid hv
          have HN := Lib.hid hn
          clear hv
          by_cases hcl : ∀ hlt : q < s.size, Px.endB s[q] = true
          · have HT := Lib.hid (HT1.out.trans (Xt.closedL_ok s q _ hcl))
            have HCl := Lib.hid hcl
            clear hcl
            go_wp2_with (first | (go_at_call 58; refine (numeric_any u _ (by omega) hu0).mono ?_; rintro e w' ⟨rfl, rfl⟩) | (go_at_call 59; refine (decimal_ok u _ (by omega) hu0 HN.out v HV.out).mono ?_; rintro e w' ⟨rfl, rfl⟩) | (go_at_call 57; refine (ends_ok b s q _ (HRq.out.drewN _) (by omega) HCl.out).mono ?_; rintro e w1 ⟨rfl, n1, rfl⟩))
            go_ret
            rw [HT.out]
            exact ResR.atom (x := ⟨110, v, ⟨#[]⟩, none, 0, 0, 0, p⟩) hd30 (by simp) (HO.out.drewN _) (HRq.out.drewN _) (by rw [L_len]; omega) (.inl ⟨rfl, rfl, by have := HVB.out.1; show _ ≤ v; simpa using this, by have := HVB.out.2; simp at this; show v ≤ _; omega⟩)
          · obtain ⟨hl2, he2⟩ := not_all hcl
            exact absurd hl2 hlt
        · have HT : Hid (Px.word (L s p) = .inl (4, s.size - p)) := by
            show _ = _
            rw [HT0.out]; unfold Px.wordOf; rw [hn, if_pos rfl, hv, HWL.out]
          have HV := Lib.hid hv
          have HN := Lib.hid hn
          clear hv
          go_wp2_with (first | (go_at_call 58; refine (numeric_any u _ (by omega) hu0).mono ?_; rintro e w' ⟨rfl, rfl⟩) | (go_at_call 59; refine (decimal_bad u _ (by omega) hu0 HN.out HV.out).mono ?_; rintro e w' ⟨z, rfl, rfl⟩) | (go_at_call 38; refine (bad_any b s q 4 p _ (HRq.out.drewN _)).mono ?_; rintro e w1 ⟨⟨g, rfl, hg⟩, h3, h4⟩; have H3 := Lib.hid h3; have H4 := Lib.hid h4; have HG9 := Lib.hid hg; clear h3 h4 hg))
          go_ret
          rw [HT.out]
          exact ResR.bad (by have := HG9.out; have := HO.out.size; simp at *; omega) ((HO.out.drewN _).trans H4.out) H3.out (by omega)

end Go.Proofs.YtbgmenglfgodbaaDoor
