/-
  OUR OWN. The document's own small functions: letter, ends, numeric.
-/
import Derived.Test.YtbgmenglfgodbaaDoorRBase
namespace Go.Proofs.YtbgmenglfgodbaaDoor
open Go.RowKit

def marks : ByteArray := ⟨#[43, 45, 42, 47, 60, 62, 61, 63, 33, 95, 46, 58]⟩

theorem wordB_none (c : UInt8) (h : ∀ i (hi : i < marks.size), (marks[i].toNat : Int) ≠ (c.toNat : Int)) : Px.wordB c = (decide ((c.toNat : Int) ≥ 97) && decide ((c.toNat : Int) ≤ 122) || decide ((c.toNat : Int) ≥ 48) && decide ((c.toNat : Int) ≤ 57)) := by
  have h0 : (43 : Int) ≠ c.toNat := h 0 (by decide)
  have h1 : (45 : Int) ≠ c.toNat := h 1 (by decide)
  have h2 : (42 : Int) ≠ c.toNat := h 2 (by decide)
  have h3 : (47 : Int) ≠ c.toNat := h 3 (by decide)
  have h4 : (60 : Int) ≠ c.toNat := h 4 (by decide)
  have h5 : (62 : Int) ≠ c.toNat := h 5 (by decide)
  have h6 : (61 : Int) ≠ c.toNat := h 6 (by decide)
  have h7 : (63 : Int) ≠ c.toNat := h 7 (by decide)
  have h8 : (33 : Int) ≠ c.toNat := h 8 (by decide)
  have h9 : (95 : Int) ≠ c.toNat := h 9 (by decide)
  have h10 : (46 : Int) ≠ c.toNat := h 10 (by decide)
  have h11 : (58 : Int) ≠ c.toNat := h 11 (by decide)
  clear h
  unfold Px.wordB; rw [Bool.eq_iff_iff]; simp; omega

theorem marks_fin : ∀ i : Fin 12, Px.wordB (marks.data.toList.getD i.val 0) = true := by decide +kernel
theorem wordB_mark (c : UInt8) (i : Nat) (hi : i < marks.size) (h : (marks[i].toNat : Int) = (c.toNat : Int)) : Px.wordB c = true := by
  have e : marks[i] = c := UInt8.toNat_inj.1 (by omega)
  have hi' : i < 12 := hi
  have := marks_fin ⟨i, hi'⟩
  have e2 : marks.data.toList.getD i 0 = marks[i] := by
    rw [List.getD_eq_getElem?_getD, List.getElem?_eq_getElem (by simpa using hi)]; rfl
  have h3 : Px.wordB (marks.data.toList.getD i 0) = true := this
  rw [e2] at h3; rw [← e]; exact h3

set_option maxHeartbeats 800000 in
theorem letter_any (c : UInt8) (w : World) :
    Calls Tryd.prog 37 #[.int .u8 (c.toNat : Int)] w fun e w' => e = .returned (.bool (Px.wordB c)) ∧ w' = w := by
  go_enter Tryd.func37, Tryd.ntmps37
  go_wp2
  go_loop [3] (fun i => ∃ k : Nat, k ≤ 12 ∧ i = .int .i64 k ∧ ∀ j (hj : j < marks.size), j < k → (marks[j].toNat : Int) ≠ (c.toNat : Int)) (fun i => 12 - (intOf i).toNat)
  case atStart => exact ⟨0, by omega, rfl, fun j _ h => by omega⟩
  case round =>
    obtain ⟨k, hk, rfl, hall⟩ := hrel
    have HA := Lib.hid hall
    clear hall
    by_cases hlt : k < 12
    · have hm : k < marks.size := hlt
      have hix : ∀ w0, (Instr.index 9 (.string ⟨#[43, 45, 42, 47, 60, 62, 61, 63, 33, 95, 46, 58]⟩) (.int .i64 (k : Int))).run Tryd.prog w0 = .ok (.int .u8 (marks[k].toNat : Int)) w0 := fun w0 => by
        have h := run_index_string (P := Tryd.prog) (w := w0) 9 marks .i64 (k : Int) Tryd.underlying9
        have hk0 : (0 : Int) ≤ (k : Int) := by omega
        have hk1 : (k : Int) < (marks.size : Int) := by omega
        simp [hk0, hk1] at h
        exact h
      cases hc : ((marks[k].toNat : Int) == (c.toNat : Int))
      · go_wp2
        refine ⟨⟨k + 1, by omega, by go_num, fun j hj h => ?_⟩, by simp [intOf]; omega⟩
        by_cases e : j = k
        · subst e; exact beq_eq_false_iff_ne.1 hc
        · exact HA.out j hj (by omega)
      · go_wp2
        go_ret
        exact ⟨by rw [wordB_mark c k hm (beq_iff_eq.1 hc)]; rfl, rfl⟩
    · have HW := Lib.hid (wordB_none c (fun i hi => HA.out i hi (by have : i < 12 := hi; omega)))
      go_wp2
      all_goals go_ret
      all_goals refine ⟨?_, rfl⟩
      all_goals rw [HW.out]
      all_goals simp [*]
      all_goals first | omega | (rw [Bool.eq_iff_iff]; simp; omega)

theorem endB_cases (c : UInt8) (h : Px.endB c = true) : (c.toNat : Int) = 32 ∨ (c.toNat : Int) = 10 ∨ (c.toNat : Int) = 40 ∨ (c.toNat : Int) = 41 ∨ (c.toNat : Int) = 39 ∨ (c.toNat : Int) = 34 ∨ (c.toNat : Int) = 59 := by
  unfold Px.endB at h; rw [decide_eq_true_eq] at h; omega

set_option maxHeartbeats 800000 in
theorem ends_ok (b : Nat) (s : ByteArray) (q : Nat) (w : World) (h : Rr b s q 0 0 w) (hq : q ≤ s.size) (he : ∀ hlt : q < s.size, Px.endB s[q] = true) :
    Calls Tryd.prog 57 #[.pointer (some ⟨b, 0, none⟩)] w fun e w' => e = .returned (.tuple #[]) ∧ ∃ n, w' = w.drewN n := by
  have h0 := h.c0
  have h1 := h.c1
  clear h
  by_cases hlt : q < s.size
  · have hc := endB_cases _ (he hlt)
    clear he
    rcases hc with hc | hc | hc | hc | hc | hc | hc
    all_goals
      go_enter Tryd.func57, Tryd.ntmps57
      go_wp2
      go_quiet (fail)
      go_wp2
      go_quiet (fail)
      go_wp2
      refine bodyPost_ret (results_none rfl _ _ _) rfl ?_
      exact ⟨rfl, _, rfl⟩
  · clear he
    go_enter Tryd.func57, Tryd.ntmps57
    go_wp2
    go_quiet (fail)
    go_wp2
    refine bodyPost_ret (results_none rfl _ _ _) rfl ?_
    exact ⟨rfl, _, rfl⟩

set_option maxHeartbeats 800000 in
theorem ends_bad (b : Nat) (s : ByteArray) (q : Nat) (w : World) (h : Rr b s q 0 0 w) (hlt : q < s.size) (he : Px.endB s[q] = false) :
    Calls Tryd.prog 57 #[.pointer (some ⟨b, 0, none⟩)] w fun e w' => e = .returned (.tuple #[]) ∧ Rr b s q 2 q w' ∧ Only b w w' := by
  have h0 := h.c0
  have h1 := h.c1
  have HR := Lib.hid h
  clear h
  have hn : ¬ (s[q].toNat = 32 ∨ s[q].toNat = 10 ∨ s[q].toNat = 40 ∨ s[q].toNat = 41 ∨ s[q].toNat = 39 ∨ s[q].toNat = 34 ∨ s[q].toNat = 59) := by
    unfold Px.endB at he; rw [decide_eq_false_iff_not] at he; exact he
  have n1 : ((s[q].toNat : Int) == 32) = false := by rw [beq_eq_false_iff_ne]; omega
  have n2 : ((s[q].toNat : Int) == 10) = false := by rw [beq_eq_false_iff_ne]; omega
  have n3 : ((s[q].toNat : Int) == 40) = false := by rw [beq_eq_false_iff_ne]; omega
  have n4 : ((s[q].toNat : Int) == 41) = false := by rw [beq_eq_false_iff_ne]; omega
  have n5 : ((s[q].toNat : Int) == 39) = false := by rw [beq_eq_false_iff_ne]; omega
  have n6 : ((s[q].toNat : Int) == 34) = false := by rw [beq_eq_false_iff_ne]; omega
  have n7 : ((s[q].toNat : Int) == 59) = false := by rw [beq_eq_false_iff_ne]; omega
  clear hn he
  go_enter Tryd.func57, Tryd.ntmps57
  go_wp2
  go_quiet (fail)
  go_wp2
  go_quiet (fail)
  go_wp2_with (go_at_call 38; refine (bad_any b s q 2 q _ (HR.out.drewN _)).mono ?_; rintro e w1 ⟨⟨g, rfl, hg⟩, h3, h4⟩; have H3 := Lib.hid h3; have H4 := Lib.hid h4; clear h3 h4 hg)
  go_end0
  exact ⟨rfl, H3.out, ((Only.refl b w).drewN _).trans H4.out⟩

end Go.Proofs.YtbgmenglfgodbaaDoor
