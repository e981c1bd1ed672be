/-
  OUR OWN. The walk of reader.string.
-/
import Derived.Test.YtbgmenglfgodbaaDoorTruth
namespace Go.Proofs.YtbgmenglfgodbaaDoor
open Go.RowKit

/-- From a to q all bytes are of P. -/
structure Scan (P : UInt8 → Bool) (s : ByteArray) (a q : Nat) : Prop where
  le : a ≤ q
  lim : q ≤ s.size
  all : ∀ i (h : i < s.size), a ≤ i → i < q → P s[i] = true

theorem Scan.refl (P : UInt8 → Bool) (s : ByteArray) (a : Nat) (h : a ≤ s.size) : Scan P s a a := ⟨Nat.le_refl _, h, fun i _ h1 h2 => by omega⟩
theorem Scan.next {P : UInt8 → Bool} {s : ByteArray} {a q : Nat} (h : Scan P s a q) (hq : q < s.size) (hP : P s[q] = true) : Scan P s a (q + 1) :=
  ⟨by have := h.le; omega, by omega, fun i hi h1 h2 => by
    by_cases e : i = q
    · subst e; exact hP
    · exact h.all i hi h1 (by omega)⟩

theorem ext_data (s : ByteArray) (a q : Nat) : (s.extract a q).data.toList = (L s a).take (q - a) := by
  unfold L; rw [ByteArray.data_extract, Array.toList_extract, List.extract_eq_take_drop]

theorem Scan.ends {P : UInt8 → Bool} {s : ByteArray} : ∀ (n a q : Nat), q = a + n → Scan P s a q → (∀ h : q < s.size, P s[q] = false) → (L s a).takeWhile P = (L s a).take (q - a) ∧ (L s a).dropWhile P = L s q
  | 0, a, q, e, h, hq => by
    have e' : q = a := by omega
    subst e'
    by_cases hl : q < s.size
    · rw [L_lt s q hl]; simp [List.takeWhile, List.dropWhile, hq hl]
    · rw [L_end s q (by omega)]; simp
  | n + 1, a, q, e, h, hq => by
    have hl : a < s.size := by have := h.lim; omega
    have hP := h.all a hl (Nat.le_refl _) (by omega)
    have ih := Scan.ends n (a + 1) q (by omega) ⟨by omega, h.lim, fun i hi h1 h2 => h.all i hi (by omega) h2⟩ hq
    rw [L_lt s a hl]
    rw [show q - a = (q - (a + 1)) + 1 from by omega]
    simp [List.takeWhile, List.dropWhile, hP, ih.1, ih.2]

theorem Scan.fin {P : UInt8 → Bool} {s : ByteArray} {a q : Nat} (h : Scan P s a q) (hq : ∀ h : q < s.size, P s[q] = false) : (L s a).takeWhile P = (s.extract a q).data.toList ∧ (L s a).dropWhile P = L s q := by
  have := Scan.ends (q - a) a q (by have := h.le; omega) h hq
  rw [ext_data s a q]; exact this

theorem str_end {s : ByteArray} {a q : Nat} (h : Scan Px.strB s a q) (e : q = s.size) : Py.str (L s a) = .inl (3, 0) := by
  have f := h.fin (fun h' => by omega)
  unfold Py.str; rw [f.2, L_end s q (by omega)]
theorem str_quote {s : ByteArray} {a q : Nat} (h : Scan Px.strB s a q) (hl : q < s.size) (hc : ((s[q].toNat : Int) == 34) = true) : Py.str (L s a) = .inr ([.str (s.extract a q).data.toList], L s (q + 1)) := by
  have e : s[q].toNat = 34 := by have := beq_iff_eq.1 hc; omega
  have f := h.fin (fun h' => by unfold Px.strB; simp [e])
  unfold Py.str; rw [f.1, f.2, L_lt s q hl]; simp [e]
theorem str_bad {s : ByteArray} {a q : Nat} (h : Scan Px.strB s a q) (hl : q < s.size) (hb : Px.strB s[q] = false) (hc : ((s[q].toNat : Int) == 34) = false) : Py.str (L s a) = .inl (2, s.size - q) := by
  have e : s[q].toNat ≠ 34 := by have := beq_eq_false_iff_ne.1 hc; omega
  have f := h.fin (fun h' => hb)
  unfold Py.str; rw [f.2, L_lt s q hl]; simp [e, L_len]; omega

set_option maxHeartbeats 1000000 in
theorem string_any (b : Nat) (s : ByteArray) (p d : Nat) (w : World) (h : Rd b s p d w) (hp : p < s.size) (hs : s.size ≤ 1200) (hd30 : d ≤ 30) :
    Calls Tryd.prog 29 #[.pointer (some ⟨b, 0, none⟩)] w fun e w' => Res b s d (Py.str (L s (p + 1))) w e w' := by
  have h1 := h.c1
  have hf := h.fz 1
  have hb := h.lt
  have HR : Hid (Rd b s p d w) := h
  clear h
  go_enter Tryd.func29, Tryd.ntmps29
  go_wp2
  go_loopw [] (fun wr => ∃ q, Scan Px.strB s (p + 1) q ∧ Rd b s q d wr ∧ Only b w wr ∧ Box w.heap.size wr ∧ w.heap.size < wr.heap.size) (fun wr => s.size - posOf b wr)
  case atStart => exact ⟨p + 1, Scan.refl _ _ _ (by omega), (HR.out.set1 (p + 1) _ (by omega)).alloc _, ((Only.refl b w).set _ _).alloc _, Box.new1 w _ _ _ _ _ _ _ _, by simp⟩
  case round =>
    obtain ⟨q, hS, hR, hO, hX, hz⟩ := hrel
    have h0' := hR.c0
    have h1' := hR.c1
    have hf' := hR.fz 1
    have hq := hS.lim
    have hpq := hS.le
    have HRq := Lib.hid hR
    have HO := Lib.hid hO
    have HX := Lib.hid hX
    have HS := Lib.hid hS
    have HPos : Hid (posOf b wr = q) := hR.pos
    clear hR hO hX hS
    by_cases hlt : q < s.size
    · have hd : ((q : Int) == (s.size : Int)) = false := by simp; omega
      cases hc : Px.strB s[q]
      · cases cq : ((s[q].toNat : Int) == 34)
        · have HT : Hid (Py.str (L s (p + 1)) = .inl (2, s.size - q)) := str_bad HS.out hlt hc cq
          go_wp2
          go_quiet ((first | (go_at_call 15; exact Calls.quiet_of (ended_any b s q d _ (HRq.out.drewN _))) | (go_at_call 47; exact Calls.quiet_of_same (isStringByte_any _ _))))
          go_wp2_with (first | (go_at_call 15; refine (ended_any b s q d _ (HRq.out.drewN _)).mono ?_; rintro e w' ⟨rfl, n1, rfl⟩) | (go_at_call 44; refine (starts_in b s q d _ _ (HRq.out.drewN _) hlt).mono ?_; rintro e w' ⟨rfl, n2, rfl⟩) | (go_at_call 25; refine (fail_any _ _ _).mono ?_; rintro e w' ⟨N, rfl, hN, hN2, hbl⟩; refine Hid.out ?_))
          have hO2 : Only b w w' := Only.of (HO.out.drewN _) hbl
          have HR9 := Lib.hid ((HRq.out.drewN _).below hbl (by first | omega | (simp; done) | (simp; omega)))
          have hx : Box w.heap.size w' := (HX.out.drewN _).below hbl (by simp; try omega)
          have hsz : w.heap.size + 1 ≤ N := by simp at hN; omega
          obtain ⟨⟨y0, k0⟩, ⟨y1, k1⟩, ⟨y2, k2⟩, ⟨y3, k3⟩, ⟨y4, k4⟩, ⟨y5, k5⟩, kf⟩ := hx
          have HN2 := Lib.hid hN2
          have HO2 := Lib.hid hO2
          clear hN hN2 hbl hO2
          refine Lib.hid ?_
          go_wp2
          refine bodyPost_ret (v := .tuple #[El.nil.v, .pointer (some ⟨N, 0, none⟩)]) (by simp [results, Tryd.results29, go_sem, *]) rfl ?_
          rw [HT.out]
          exact Res.err HO2.out (Nat.le_refl _) (by omega) (by omega) HN2.out rfl (by omega) HR9.out (by omega) _ _ _ _ _ _
        · have HT : Hid (Py.str (L s (p + 1)) = .inr ([.str (s.extract (p + 1) q).data.toList], L s (q + 1))) := str_quote HS.out hlt cq
          go_wp2
          go_quiet ((first | (go_at_call 15; exact Calls.quiet_of (ended_any b s q d _ (HRq.out.drewN _))) | (go_at_call 47; exact Calls.quiet_of_same (isStringByte_any _ _))))
          go_wp2_with (first | (go_at_call 15; refine (ended_any b s q d _ (HRq.out.drewN _)).mono ?_; rintro e w' ⟨rfl, n1, rfl⟩) | (go_at_call 44; refine (starts_in b s q d _ _ (HRq.out.drewN _) hlt).mono ?_; rintro e w' ⟨rfl, n2, rfl⟩) | (go_at_call 48; refine (ofString_any _ _).mono ?_; rintro e w1 ⟨rfl, hbl⟩; refine Hid.out ?_))
          go_quiet (fail)
          go_wp2_with (go_at_call 48; refine (ofString_any _ _).mono ?_; rintro e w1 ⟨rfl, hbl⟩; refine Hid.out ?_)
          have HR2 := Lib.hid (((HRq.out.drewN _).set1 (q + 1) _ (by omega)).below hbl (by simp; omega))
          have HO2 := Lib.hid (Only.of ((HO.out.drewN _).set _ _) hbl)
          obtain ⟨⟨y0, k0⟩, ⟨y1, k1⟩, ⟨y2, k2⟩, ⟨y3, k3⟩, ⟨y4, k4⟩, ⟨y5, k5⟩, kf⟩ := ((HX.out.drewN _).set (by omega) _).below hbl (by simp; omega)
          clear hbl
          refine Lib.hid ?_
          go_wp2
          refine bodyPost_ret (v := .tuple #[El.v ⟨2, 0, false, s.extract (p + 1) q, 0, none, 0, 0⟩, .pointer none]) (by simp [results, Tryd.results29, go_sem, *]) rfl ?_
          rw [HT.out]
          exact Res.ok HO2.out (Nat.le_refl _) (Nat.lt_succ_self _) hb (by rw [show 32 - d = (31 - d) + 1 from by omega]; exact .inr (.inr (.inl ⟨rfl, rfl⟩))) HR2.out (by rw [L_len]; omega) _ _ _ _ _ _
      · go_wp2
        go_quiet ((first | (go_at_call 15; exact Calls.quiet_of (ended_any b s q d _ (HRq.out.drewN _))) | (go_at_call 47; exact Calls.quiet_of_same (isStringByte_any _ _))))
        go_wp2
        go_roundw
        case rel => exact ⟨q + 1, HS.out.next hlt hc, (HRq.out.drewN _).set1 _ _ (by omega), (HO.out.drewN _).set _ _, (HX.out.drewN _).set (by omega) _, by simpa using hz⟩
        case measure =>
          have e1 := HPos.out
          have e2 := ((HRq.out.drewN nq).set1 (q + 1) ((q : Int) + 1) (by omega)).pos
          rw [e1, e2]; omega
    · have hd : ((q : Int) == (s.size : Int)) = true := by simp; omega
      have HT : Hid (Py.str (L s (p + 1)) = .inl (3, 0)) := str_end HS.out (by omega)
      go_wp2
      go_quiet ((first | (go_at_call 15; exact Calls.quiet_of (ended_any b s q d _ (HRq.out.drewN _))) | (go_at_call 47; exact Calls.quiet_of_same (isStringByte_any _ _))))
      go_wp2_with (first | (go_at_call 15; refine (ended_any b s q d _ (HRq.out.drewN _)).mono ?_; rintro e w' ⟨rfl, n1, rfl⟩) | (go_at_call 25; refine (fail_any _ _ _).mono ?_; rintro e w' ⟨N, rfl, hN, hN2, hbl⟩; refine Hid.out ?_))
      have hO2 : Only b w w' := Only.of (HO.out.drewN _) hbl
      have HR9 := Lib.hid ((HRq.out.drewN _).below hbl (by first | omega | (simp; done) | (simp; omega)))
      have hx : Box w.heap.size w' := (HX.out.drewN _).below hbl (by simp; try omega)
      have hsz : w.heap.size + 1 ≤ N := by simp at hN; omega
      obtain ⟨⟨y0, k0⟩, ⟨y1, k1⟩, ⟨y2, k2⟩, ⟨y3, k3⟩, ⟨y4, k4⟩, ⟨y5, k5⟩, kf⟩ := hx
      have HN2 := Lib.hid hN2
      have HO2 := Lib.hid hO2
      clear hN hN2 hbl hO2
      refine Lib.hid ?_
      go_wp2
      refine bodyPost_ret (v := .tuple #[El.nil.v, .pointer (some ⟨N, 0, none⟩)]) (by simp [results, Tryd.results29, go_sem, *]) rfl ?_
      rw [HT.out]
      exact Res.err HO2.out (Nat.le_refl _) (by omega) (by omega) HN2.out rfl (by omega) HR9.out (by omega) _ _ _ _ _ _

end Go.Proofs.YtbgmenglfgodbaaDoor
