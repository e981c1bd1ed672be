/-
  OUR OWN. The walk of reader.truth.
-/
import Derived.Test.YtbgmenglfgodbaaDoorRep
namespace Go.Proofs.YtbgmenglfgodbaaDoor
open Go.RowKit

theorem closedL_ok (s : ByteArray) (q : Nat) (t : Dt) (h : ∀ hlt : q < s.size, Px.endB s[q] = true) : Py.closed t (L s q) = .inr ([t], L s q) := by
  by_cases hlt : q < s.size
  · rw [L_lt s q hlt]; simp [Py.closed, h hlt]
  · rw [L_end s q (by omega)]; rfl
theorem closedL_bad (s : ByteArray) (q : Nat) (t : Dt) (hlt : q < s.size) (h : Px.endB s[q] = false) : Py.closed t (L s q) = .inl (2, s.size - q) := by
  rw [L_lt s q hlt]; simp [Py.closed, h, L_len]; omega

theorem truth_end (s : ByteArray) (p : Nat) (h : p + 1 = s.size) : Py.truth (L s (p + 1)) = .inl (2, s.size - p) := by
  rw [L_end s (p + 1) (by omega)]; simp [Py.truth]; omega
theorem truth_t (s : ByteArray) (p : Nat) (h : p + 1 < s.size) (hc : ((s[p + 1].toNat : Int) == 116) = true) : Py.truth (L s (p + 1)) = Py.closed (.bool true) (L s (p + 2)) := by
  have := beq_iff_eq.1 hc
  rw [L_lt s (p + 1) h, Py.truth, if_pos (by omega)]
theorem truth_f (s : ByteArray) (p : Nat) (h : p + 1 < s.size) (hn : ((s[p + 1].toNat : Int) == 116) = false) (hc : ((s[p + 1].toNat : Int) == 102) = true) : Py.truth (L s (p + 1)) = Py.closed (.bool false) (L s (p + 2)) := by
  have := beq_iff_eq.1 hc
  have := beq_eq_false_iff_ne.1 hn
  rw [L_lt s (p + 1) h, Py.truth, if_neg (by omega), if_pos (by omega)]
theorem truth_no (s : ByteArray) (p : Nat) (h : p + 1 < s.size) (hn : ((s[p + 1].toNat : Int) == 116) = false) (hc : ((s[p + 1].toNat : Int) == 102) = false) : Py.truth (L s (p + 1)) = .inl (2, s.size - p) := by
  have := beq_eq_false_iff_ne.1 hc
  have := beq_eq_false_iff_ne.1 hn
  rw [L_lt s (p + 1) h, Py.truth, if_neg (by omega), if_neg (by omega), L_len]; congr 2; omega

set_option maxHeartbeats 1000000 in
theorem truth_any (b : Nat) (s : ByteArray) (p d : Nat) (w : World) (h : Rd b s p d w) (hp : p < s.size) (hs : s.size ≤ 1200) (hd30 : d ≤ 30) :
    Calls Tryd.prog 30 #[.pointer (some ⟨b, 0, none⟩)] w fun e w' => Res b s d (Py.truth (L s (p + 1))) w e w' := by
  have h1 := h.c1
  have hf := h.fz 1
  have hb := h.lt
  have HR : Hid (Rd b s p d w) := h
  clear h
  by_cases hlt : p + 1 < s.size
  · cases ct : ((s[p + 1].toNat : Int) == 116)
    · cases cf : ((s[p + 1].toNat : Int) == 102)
      · have HT : Hid (Py.truth (L s (p + 1)) = .inl (2, s.size - p)) := truth_no s p hlt ct cf
        go_enter Tryd.func30, Tryd.ntmps30
        go_wp2_with (first | (go_at_call 44; refine (starts_in b s (p + 1) d _ _ (by first | exact (HR.out.set1 (p + 1) _ (by omega)).alloc _ | exact ((HR.out.set1 (p + 1) _ (by omega)).alloc _).drewN _) hlt).mono ?_; rintro e w' ⟨rfl, n1, rfl⟩) | (go_at_call 25; refine (fail_any _ _ _).mono ?_; rintro e w' ⟨N, rfl, hN, hN2, hbl⟩; refine Hid.out ?_))
        have hsz : w.heap.size + 1 ≤ N := by simpa using hN
        have hO : Only b w w' := Only.of (((Only.refl b w).set _ _).alloc _ |>.drewN _) hbl
        have HR9 := Lib.hid ((((HR.out.set1 (p + 1) _ (by omega)).alloc _).drewN _).below hbl (by first | omega | (simp; done) | (simp; omega)))
        have hx : Box w.heap.size w' := ((Box.new1 w _ _ _ _ _ _ _ _).drewN _).below hbl (by simp)
        obtain ⟨⟨y0, k0⟩, ⟨y1, k1⟩, ⟨y2, k2⟩, ⟨y3, k3⟩, ⟨y4, k4⟩, ⟨y5, k5⟩, kf⟩ := hx
        have HN2 := Lib.hid hN2
        have HO := Lib.hid hO
        clear hN hN2 hbl hO
        refine Lib.hid ?_
        go_wp2
        refine bodyPost_ret (v := .tuple #[El.nil.v, .pointer (some ⟨N, 0, none⟩)]) (by simp [results, Tryd.results30, go_sem, *]) rfl ?_
        rw [HT.out]
        exact Res.err HO.out (Nat.le_refl _) (by omega) (by omega) HN2.out rfl (by omega) HR9.out (by omega) _ _ _ _ _ _
      · have HT : Hid (Py.truth (L s (p + 1)) = Py.closed (.bool false) (L s (p + 2))) := truth_f s p hlt ct cf
        go_enter Tryd.func30, Tryd.ntmps30
        go_wp2_with (first | (go_at_call 44; refine (starts_in b s (p + 1) d _ _ (by first | exact (HR.out.set1 (p + 1) _ (by omega)).alloc _ | exact ((HR.out.set1 (p + 1) _ (by omega)).alloc _).drewN _) hlt).mono ?_; rintro e w' ⟨rfl, n1, rfl⟩) | (go_at_call 50; refine (ofTruth_any _ _).mono ?_; rintro e w1 ⟨rfl, hbl⟩; refine Hid.out ?_))
        have hR1 : Rd b s (p + 2) d w1 := ((((HR.out.set1 (p + 1) _ (by omega)).alloc _).drewN _).set1 (p + 2) _ (by omega)).below hbl (by simp; omega)
        have hO1 : Only b w w1 := Only.of ((((Only.refl b w).set _ _).alloc _ |>.drewN _).set _ _) hbl
        have hx1 : Box w.heap.size w1 := (((Box.new1 w _ _ _ _ _ _ _ _).drewN _).set (by omega) _).below hbl (by simp)
        have hz1 : w.heap.size + 1 ≤ w1.heap.size := by have := hbl.size; simp at this; omega
        have HR1 := Lib.hid hR1
        have HO1 := Lib.hid hO1
        have HX1 := Lib.hid hx1
        clear hbl hR1 hO1 hx1
        refine Lib.hid ?_
        by_cases hcl : ∀ hlt : p + 2 < s.size, Px.endB s[p + 2] = true
        · have HC : Hid (Py.closed (.bool false) (L s (p + 2)) = .inr ([.bool false], L s (p + 2))) := closedL_ok s (p + 2) _ hcl
          have HCl := Lib.hid hcl
          clear hcl
          go_wp2_with (go_at_call 49; refine (closed_ok b s (p + 2) d ⟨1, 0, false, ⟨#[]⟩, 0, none, 0, 0⟩ _ HR1.out HCl.out (by omega)).mono ?_; rintro e w2 ⟨rfl, hbl⟩; refine Hid.out ?_)
          have HR2 := Lib.hid (HR1.out.below hbl (by omega))
          have HO2 := Lib.hid (Only.of HO1.out hbl)
          have HR9 := Lib.hid (HR1.out.below hbl (by first | omega | (simp; done) | (simp; omega)))
          obtain ⟨⟨y0, k0⟩, ⟨y1, k1⟩, ⟨y2, k2⟩, ⟨y3, k3⟩, ⟨y4, k4⟩, ⟨y5, k5⟩, kf⟩ := HX1.out.below hbl (by omega)
          clear hbl
          refine Lib.hid ?_
          go_wp2
          refine bodyPost_ret (v := .tuple #[El.v ⟨1, 0, false, ⟨#[]⟩, 0, none, 0, 0⟩, .pointer none]) (by simp [results, Tryd.results30, go_sem, *]) rfl ?_
          rw [HT.out, HC.out]
          exact Res.ok HO2.out (Nat.le_refl _) (Nat.lt_succ_self _) hb (by rw [show 32 - d = (31 - d) + 1 from by omega]; exact .inr (.inl ⟨rfl, rfl⟩)) HR2.out (by rw [L_len]; omega) _ _ _ _ _ _
        · have hcl' : ∃ hlt : p + 2 < s.size, Px.endB s[p + 2] = false := by
            rcases Classical.not_forall.1 hcl with ⟨a, ha⟩
            exact ⟨a, by simpa using ha⟩
          obtain ⟨hl2, he2⟩ := hcl'
          have HC : Hid (Py.closed (.bool false) (L s (p + 2)) = .inl (2, s.size - (p + 2))) := closedL_bad s (p + 2) _ hl2 he2
          clear hcl
          go_wp2_with (go_at_call 49; refine (closed_bad b s (p + 2) d ⟨1, 0, false, ⟨#[]⟩, 0, none, 0, 0⟩ _ HR1.out hl2 he2).mono ?_; rintro e w2 ⟨N, rfl, hN, hN2, hbl⟩; refine Hid.out ?_)
          have HN2 := Lib.hid hN2
          have HO2 := Lib.hid (Only.of HO1.out hbl)
          have HR9 := Lib.hid (HR1.out.below hbl (by first | omega | (simp; done) | (simp; omega)))
          obtain ⟨⟨y0, k0⟩, ⟨y1, k1⟩, ⟨y2, k2⟩, ⟨y3, k3⟩, ⟨y4, k4⟩, ⟨y5, k5⟩, kf⟩ := HX1.out.below hbl (by omega)
          clear hbl hN2
          refine Lib.hid ?_
          go_wp2
          refine bodyPost_ret (v := .tuple #[El.nil.v, .pointer (some ⟨N, 0, none⟩)]) (by simp [results, Tryd.results30, go_sem, *]) rfl ?_
          rw [HT.out, HC.out]
          exact Res.err HO2.out (Nat.le_refl _) (by omega) (by omega) HN2.out rfl (by omega) HR9.out (by omega) _ _ _ _ _ _
    · have HT : Hid (Py.truth (L s (p + 1)) = Py.closed (.bool true) (L s (p + 2))) := truth_t s p hlt ct
      go_enter Tryd.func30, Tryd.ntmps30
      go_wp2_with (first | (go_at_call 44; refine (starts_in b s (p + 1) d _ _ (by first | exact (HR.out.set1 (p + 1) _ (by omega)).alloc _ | exact ((HR.out.set1 (p + 1) _ (by omega)).alloc _).drewN _) hlt).mono ?_; rintro e w' ⟨rfl, n1, rfl⟩) | (go_at_call 50; refine (ofTruth_any _ _).mono ?_; rintro e w1 ⟨rfl, hbl⟩; refine Hid.out ?_))
      have hR1 : Rd b s (p + 2) d w1 := ((((HR.out.set1 (p + 1) _ (by omega)).alloc _).drewN _).set1 (p + 2) _ (by omega)).below hbl (by simp; omega)
      have hO1 : Only b w w1 := Only.of ((((Only.refl b w).set _ _).alloc _ |>.drewN _).set _ _) hbl
      have hx1 : Box w.heap.size w1 := (((Box.new1 w _ _ _ _ _ _ _ _).drewN _).set (by omega) _).below hbl (by simp)
      have hz1 : w.heap.size + 1 ≤ w1.heap.size := by have := hbl.size; simp at this; omega
      have HR1 := Lib.hid hR1
      have HO1 := Lib.hid hO1
      have HX1 := Lib.hid hx1
      clear hbl hR1 hO1 hx1
      refine Lib.hid ?_
      by_cases hcl : ∀ hlt : p + 2 < s.size, Px.endB s[p + 2] = true
      · have HC : Hid (Py.closed (.bool true) (L s (p + 2)) = .inr ([.bool true], L s (p + 2))) := closedL_ok s (p + 2) _ hcl
        have HCl := Lib.hid hcl
        clear hcl
        go_wp2_with (go_at_call 49; refine (closed_ok b s (p + 2) d ⟨1, 0, true, ⟨#[]⟩, 0, none, 0, 0⟩ _ HR1.out HCl.out (by omega)).mono ?_; rintro e w2 ⟨rfl, hbl⟩; refine Hid.out ?_)
        have HR2 := Lib.hid (HR1.out.below hbl (by omega))
        have HO2 := Lib.hid (Only.of HO1.out hbl)
        have HR9 := Lib.hid (HR1.out.below hbl (by first | omega | (simp; done) | (simp; omega)))
        obtain ⟨⟨y0, k0⟩, ⟨y1, k1⟩, ⟨y2, k2⟩, ⟨y3, k3⟩, ⟨y4, k4⟩, ⟨y5, k5⟩, kf⟩ := HX1.out.below hbl (by omega)
        clear hbl
        refine Lib.hid ?_
        go_wp2
        refine bodyPost_ret (v := .tuple #[El.v ⟨1, 0, true, ⟨#[]⟩, 0, none, 0, 0⟩, .pointer none]) (by simp [results, Tryd.results30, go_sem, *]) rfl ?_
        rw [HT.out, HC.out]
        exact Res.ok HO2.out (Nat.le_refl _) (Nat.lt_succ_self _) hb (by rw [show 32 - d = (31 - d) + 1 from by omega]; exact .inr (.inl ⟨rfl, rfl⟩)) HR2.out (by rw [L_len]; omega) _ _ _ _ _ _
      · have hcl' : ∃ hlt : p + 2 < s.size, Px.endB s[p + 2] = false := by
          rcases Classical.not_forall.1 hcl with ⟨a, ha⟩
          exact ⟨a, by simpa using ha⟩
        obtain ⟨hl2, he2⟩ := hcl'
        have HC : Hid (Py.closed (.bool true) (L s (p + 2)) = .inl (2, s.size - (p + 2))) := closedL_bad s (p + 2) _ hl2 he2
        clear hcl
        go_wp2_with (go_at_call 49; refine (closed_bad b s (p + 2) d ⟨1, 0, true, ⟨#[]⟩, 0, none, 0, 0⟩ _ HR1.out hl2 he2).mono ?_; rintro e w2 ⟨N, rfl, hN, hN2, hbl⟩; refine Hid.out ?_)
        have HN2 := Lib.hid hN2
        have HO2 := Lib.hid (Only.of HO1.out hbl)
        have HR9 := Lib.hid (HR1.out.below hbl (by first | omega | (simp; done) | (simp; omega)))
        obtain ⟨⟨y0, k0⟩, ⟨y1, k1⟩, ⟨y2, k2⟩, ⟨y3, k3⟩, ⟨y4, k4⟩, ⟨y5, k5⟩, kf⟩ := HX1.out.below hbl (by omega)
        clear hbl hN2
        refine Lib.hid ?_
        go_wp2
        refine bodyPost_ret (v := .tuple #[El.nil.v, .pointer (some ⟨N, 0, none⟩)]) (by simp [results, Tryd.results30, go_sem, *]) rfl ?_
        rw [HT.out, HC.out]
        exact Res.err HO2.out (Nat.le_refl _) (by omega) (by omega) HN2.out rfl (by omega) HR9.out (by omega) _ _ _ _ _ _
  · have HT : Hid (Py.truth (L s (p + 1)) = .inl (2, s.size - p)) := truth_end s p (by omega)
    go_enter Tryd.func30, Tryd.ntmps30
    go_wp2_with (first | (go_at_call 44; refine (starts_end b s (p + 1) d _ _ (by first | exact (HR.out.set1 (p + 1) _ (by omega)).alloc _ | exact ((HR.out.set1 (p + 1) _ (by omega)).alloc _).drewN _) (by omega)).mono ?_; rintro e w' ⟨rfl, n1, rfl⟩) | (go_at_call 25; refine (fail_any _ _ _).mono ?_; rintro e w' ⟨N, rfl, hN, hN2, hbl⟩; refine Hid.out ?_))
    have hsz : w.heap.size + 1 ≤ N := by simpa using hN
    have hO : Only b w w' := Only.of (((Only.refl b w).set _ _).alloc _ |>.drewN _) hbl
    have HR9 := Lib.hid ((((HR.out.set1 (p + 1) _ (by omega)).alloc _).drewN _).below hbl (by first | omega | (simp; done) | (simp; omega)))
    have hx : Box w.heap.size w' := ((Box.new1 w _ _ _ _ _ _ _ _).drewN _).below hbl (by simp)
    obtain ⟨⟨y0, k0⟩, ⟨y1, k1⟩, ⟨y2, k2⟩, ⟨y3, k3⟩, ⟨y4, k4⟩, ⟨y5, k5⟩, kf⟩ := hx
    have HN2 := Lib.hid hN2
    have HO := Lib.hid hO
    clear hN hN2 hbl hO
    refine Lib.hid ?_
    go_wp2
    refine bodyPost_ret (v := .tuple #[El.nil.v, .pointer (some ⟨N, 0, none⟩)]) (by simp [results, Tryd.results30, go_sem, *]) rfl ?_
    rw [HT.out]
    exact Res.err HO.out (Nat.le_refl _) (by omega) (by omega) HN2.out rfl (by omega) HR9.out (by omega) _ _ _ _ _ _

end Go.Proofs.YtbgmenglfgodbaaDoor
