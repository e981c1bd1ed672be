/-
  OUR OWN. Blanks and comments; the small functions of package read.
-/
import Derived.Test.YtbgmenglfgodbaaDoorBase
import Derived.Test.YtbgmenglfgodbaaDoorShelf
namespace Go.Proofs.YtbgmenglfgodbaaDoor
open Go.RowKit

theorem skipC_step (s : ByteArray) (q : Nat) (h : q < s.size) (hc : ((s[q].toNat : Int) == 10) = false) : Px.skip true (L s q) = Px.skip true (L s (q + 1)) := by
  rw [L_lt s q h, Px.skip, if_neg (by have := beq_eq_false_iff_ne.1 hc; omega)]
theorem skipC_end (s : ByteArray) (q : Nat) (h : s.size ≤ q) : Px.skip true (L s q) = Px.skip false (L s q) := by
  rw [L_end s q h]; rfl
theorem skipC_nl (s : ByteArray) (q : Nat) (h : q < s.size) (hc : ((s[q].toNat : Int) == 10) = true) : Px.skip true (L s q) = Px.skip false (L s q) := by
  have : s[q].toNat = 10 := by have := beq_iff_eq.1 hc; omega
  rw [L_lt s q h, Px.skip, Px.skip, if_pos this, if_pos (.inr this)]

set_option maxHeartbeats 400000 in
theorem skipComment_any (b : Nat) (s : ByteArray) (p d : Nat) (w : World) (h : Rd b s p d w) (hp : p ≤ s.size) (hs : s.size ≤ 1200) :
    Calls Tryd.prog 24 #[.pointer (some ⟨b, 0, none⟩)] w fun e w' => e = .returned (.tuple #[]) ∧ ∃ q, p ≤ q ∧ q ≤ s.size ∧ Px.skip true (L s p) = Px.skip false (L s q) ∧ (∀ h : q < s.size, (s[q].toNat : Int) = 10) ∧ Rd b s q d w' ∧ Only b w w' := by
  go_enter Tryd.func24, Tryd.ntmps24
  go_wp2
  go_loopw [] (fun wr => ∃ q, p ≤ q ∧ q ≤ s.size ∧ Px.skip true (L s p) = Px.skip true (L s q) ∧ Rd b s q d wr ∧ Only b w wr) (fun wr => s.size - posOf b wr)
  case atStart => exact ⟨p, Nat.le_refl _, hp, rfl, h, Only.refl _ _⟩
  case round =>
    obtain ⟨q, hpq, hq, hsk, hR, hO⟩ := hrel
    have HS : Hid (Px.skip true (L s p) = Px.skip true (L s q)) := hsk
    clear hsk
    have h0 := hR.c0
    have h1 := hR.c1
    have hf := hR.fz 1
    have HR : Hid (Rd b s q d wr) := hR
    have HO : Hid (Only b w wr) := hO
    have hpos : posOf b wr = q := hR.pos
    have HPos : Hid (posOf b wr = q) := hpos
    clear hR hO hpos h
    by_cases hlt : q < s.size
    · have hd : ((q : Int) == (s.size : Int)) = false := by simp; omega
      cases hc : ((s[q].toNat : Int) == 10)
      · have Hst := skipC_step s q hlt hc
        have HSt : Hid (Px.skip true (L s q) = Px.skip true (L s (q + 1))) := Hst
        clear Hst
        go_wp2_with (first | (go_at_call 15; refine (ended_any b s q d _ HR.out).mono ?_; rintro e w' ⟨rfl, n1, rfl⟩) | (go_at_call 44; refine (starts_in b s q d _ _ (HR.out.drewN _) hlt).mono ?_; rintro e w' ⟨rfl, n2, rfl⟩))
        go_roundw
        case rel => exact ⟨q + 1, by omega, by omega, HS.out.trans HSt.out, (HR.out.drewN _).set1 _ _ (by omega), (HO.out.drewN _).set _ _⟩
        case measure =>
          have e1 := HPos.out
          have e2 := ((HR.out.drewN (n1 + n2)).set1 (q + 1) ((q : Int) + 1) (by omega)).pos
          rw [e1, e2]; omega
      · have HSt : Hid (Px.skip true (L s q) = Px.skip false (L s q)) := skipC_nl s q hlt hc
        go_wp2_with (first | (go_at_call 15; refine (ended_any b s q d _ HR.out).mono ?_; rintro e w' ⟨rfl, n1, rfl⟩) | (go_at_call 44; refine (starts_in b s q d _ _ (HR.out.drewN _) hlt).mono ?_; rintro e w' ⟨rfl, n2, rfl⟩))
        go_end0
        exact ⟨rfl, q, hpq, hq, HS.out.trans HSt.out, fun _ => beq_iff_eq.1 hc, HR.out.drewN _, HO.out.drewN _⟩
    · have hd : ((q : Int) == (s.size : Int)) = true := by simp; omega
      have HSt : Hid (Px.skip true (L s q) = Px.skip false (L s q)) := skipC_end s q (by omega)
      go_wp2_with (first | (go_at_call 15; refine (ended_any b s q d _ HR.out).mono ?_; rintro e w' ⟨rfl, n1, rfl⟩))
      go_end0
      exact ⟨rfl, q, hpq, hq, HS.out.trans HSt.out, fun h => absurd h hlt, (HR.out.drewN _), (HO.out.drewN _)⟩


theorem skip_blank (s : ByteArray) (q : Nat) (h : q < s.size) (hc : (s[q].toNat : Int) = 32 ∨ (s[q].toNat : Int) = 10) : Px.skip false (L s q) = Px.skip false (L s (q + 1)) := by
  rw [L_lt s q h, Px.skip, if_pos (by omega)]
theorem skip_comment (s : ByteArray) (q : Nat) (h : q < s.size) (hc : (s[q].toNat : Int) = 59) : Px.skip false (L s q) = Px.skip true (L s q) := by
  have e : s[q].toNat = 59 := by omega
  rw [L_lt s q h, Px.skip, Px.skip, if_neg (by omega), if_pos e, if_neg (by omega)]
theorem skip_stay (s : ByteArray) (q : Nat) (h : q < s.size) (h1 : (s[q].toNat : Int) ≠ 32) (h2 : (s[q].toNat : Int) ≠ 10) (h3 : (s[q].toNat : Int) ≠ 59) : Px.skip false (L s q) = L s q := by
  rw [L_lt s q h, Px.skip, if_neg (by omega), if_neg (by omega)]
theorem skip_end (s : ByteArray) (q : Nat) (h : s.size ≤ q) : Px.skip false (L s q) = L s q := by
  rw [L_end s q h]; rfl

set_option maxHeartbeats 800000 in
theorem skip_any (b : Nat) (s : ByteArray) (p d : Nat) (w : World) (h : Rd b s p d w) (hp : p ≤ s.size) (hs : s.size ≤ 1200) :
    Calls Tryd.prog 14 #[.pointer (some ⟨b, 0, none⟩)] w fun e w' => e = .returned (.tuple #[]) ∧ ∃ q, p ≤ q ∧ q ≤ s.size ∧ Px.skip false (L s p) = L s q ∧ Rd b s q d w' ∧ Only b w w' := by
  go_enter Tryd.func14, Tryd.ntmps14
  go_wp2
  go_loopw [] (fun wr => ∃ q, p ≤ q ∧ q ≤ s.size ∧ Px.skip false (L s p) = Px.skip false (L s q) ∧ Rd b s q d wr ∧ Only b w wr) (fun wr => s.size - posOf b wr)
  case atStart => exact ⟨p, Nat.le_refl _, hp, rfl, h, Only.refl _ _⟩
  case round =>
    obtain ⟨q, hpq, hq, hsk, hR, hO⟩ := hrel
    have HS : Hid (Px.skip false (L s p) = Px.skip false (L s q)) := hsk
    clear hsk
    have h0 := hR.c0
    have h1 := hR.c1
    have hf := hR.fz 1
    have HR : Hid (Rd b s q d wr) := hR
    have HO : Hid (Only b w wr) := hO
    have hpos : posOf b wr = q := hR.pos
    have HPos : Hid (posOf b wr = q) := hpos
    clear hR hO hpos h
    by_cases hlt : q < s.size
    · have hd : ((q : Int) == (s.size : Int)) = false := by simp; omega
      cases c32 : ((s[q].toNat : Int) == 32)
      · cases c10 : ((s[q].toNat : Int) == 10)
        · cases c59 : ((s[q].toNat : Int) == 59)
          · have HSt : Hid (Px.skip false (L s q) = L s q) := skip_stay s q hlt (beq_eq_false_iff_ne.1 c32) (beq_eq_false_iff_ne.1 c10) (beq_eq_false_iff_ne.1 c59)
            go_wp2_with (first | (go_at_call 15; refine (ended_any b s q d _ HR.out).mono ?_; rintro e w' ⟨rfl, n1, rfl⟩))
            go_quiet (fail)
            go_wp2_with (first | (go_at_call 15; refine (ended_any b s q d _ HR.out).mono ?_; rintro e w' ⟨rfl, n1, rfl⟩))
            refine bodyPost_ret (results_none rfl _ _ _) rfl ?_
            exact ⟨rfl, q, hpq, hq, HS.out.trans HSt.out, HR.out.drewN _, HO.out.drewN _⟩
          · have HSt : Hid (Px.skip false (L s q) = Px.skip true (L s q)) := skip_comment s q hlt (beq_iff_eq.1 c59)
            go_wp2_with (first | (go_at_call 15; refine (ended_any b s q d _ HR.out).mono ?_; rintro e w' ⟨rfl, n1, rfl⟩))
            go_quiet (fail)
            go_wp2_with (first | (go_at_call 24; refine (skipComment_any b s q d _ (HR.out.drewN _) hq hs).mono ?_; rintro e w' ⟨rfl, q', hq1, hq2, hsk', h10, hR', hO'⟩; refine Hid.out ?_))
            have hne : q < q' := by
              rcases Nat.lt_or_ge q q' with h' | h'
              · exact h'
              · exfalso
                have e : q' = q := by omega
                subst e
                have e1 := h10 hlt
                rw [e1] at c59
                exact absurd c59 (by decide)
            have HSk : Hid (Px.skip true (L s q) = Px.skip false (L s q')) := hsk'
            have HPos' : Hid (posOf b w' = q') := hR'.pos
            have HR' : Hid (Rd b s q' d w') := hR'
            have HO' : Hid (Only b w w') := (HO.out.drewN _).trans hO'
            clear hsk' hR' hO' h10
            refine Lib.hid ?_
            go_wp2
            go_roundw
            case rel => exact ⟨q', by omega, hq2, HS.out.trans (HSt.out.trans HSk.out), HR'.out, HO'.out⟩
            case measure =>
              have e1 := HPos.out
              have e2 := HPos'.out
              rw [e1, e2]; omega
        · have HSt : Hid (Px.skip false (L s q) = Px.skip false (L s (q + 1))) := skip_blank s q hlt (.inr (beq_iff_eq.1 c10))
          go_wp2_with (first | (go_at_call 15; refine (ended_any b s q d _ HR.out).mono ?_; rintro e w' ⟨rfl, n1, rfl⟩))
          go_quiet (fail)
          go_wp2
          go_roundw
          case rel => exact ⟨q + 1, by omega, by omega, HS.out.trans HSt.out, (HR.out.drewN _).set1 _ _ (by omega), (HO.out.drewN _).set _ _⟩
          case measure =>
            have e1 := HPos.out
            have e2 := ((HR.out.drewN (n1 + nq)).set1 (q + 1) ((q : Int) + 1) (by omega)).pos
            rw [e1, e2]; omega
      · have HSt : Hid (Px.skip false (L s q) = Px.skip false (L s (q + 1))) := skip_blank s q hlt (.inl (beq_iff_eq.1 c32))
        go_wp2_with (first | (go_at_call 15; refine (ended_any b s q d _ HR.out).mono ?_; rintro e w' ⟨rfl, n1, rfl⟩))
        go_quiet (fail)
        go_wp2
        go_roundw
        case rel => exact ⟨q + 1, by omega, by omega, HS.out.trans HSt.out, (HR.out.drewN _).set1 _ _ (by omega), (HO.out.drewN _).set _ _⟩
        case measure =>
          have e1 := HPos.out
          have e2 := ((HR.out.drewN (n1 + nq)).set1 (q + 1) ((q : Int) + 1) (by omega)).pos
          rw [e1, e2]; omega
    · have hd : ((q : Int) == (s.size : Int)) = true := by simp; omega
      have HSt : Hid (Px.skip false (L s q) = L s q) := skip_end s q (by omega)
      go_wp2_with (first | (go_at_call 15; refine (ended_any b s q d _ HR.out).mono ?_; rintro e w' ⟨rfl, n1, rfl⟩))
      go_end0
      exact ⟨rfl, q, hpq, hq, HS.out.trans HSt.out, HR.out.drewN _, HO.out.drewN _⟩

end Go.Proofs.YtbgmenglfgodbaaDoor
