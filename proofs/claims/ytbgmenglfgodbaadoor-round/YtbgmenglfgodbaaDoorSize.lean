/-
  OUR OWN. How long what is written can be.
-/
import Derived.Test.YtbgmenglfgodbaaDoorPlain
import Derived.Lib.ItoaLen
namespace Go.Proofs.YtbgmenglfgodbaaDoor
namespace Px
open Go

theorem lines_append (a b : List (List UInt8)) : lines (a ++ b) = lines a ++ lines b := by
  induction a with
  | nil => rfl
  | cons t r ih => simp [lines, ih]

theorem join_lines : ∀ ts : List (List UInt8), (join ts).length ≤ (lines ts).length
  | [] => by simp [join, lines]
  | [u] => by simp [join, lines]
  | u :: v :: r => by
    have ih := join_lines (v :: r)
    show (u ++ 32 :: join (v :: r)).length ≤ (u ++ 10 :: lines (v :: r)).length
    simp at ih ⊢; exact ih

/-- What is written keeps to 22 bytes for each that was read. -/
def Fits (l : List UInt8) (r : R) : Prop := ∀ xs rr, r = .inr (xs, rr) → (lines xs).length + 22 * rr.length ≤ 22 * l.length

theorem closed_fits (l t r : List UInt8) (h : t.length + 1 + 22 * r.length ≤ 22 * l.length) : Fits l (closed t r) := by
  intro xs rr he
  unfold closed at he
  cases r with
  | nil => simp at he; obtain ⟨h3, h4⟩ := he; subst h3; subst h4; simpa [lines] using h
  | cons c r' =>
    simp only at he
    split at he
    · simp at he; obtain ⟨h3, h4⟩ := he; subst h3; subst h4; simpa [lines] using h
    · simp at he

theorem word_fits (c : UInt8) (r : List UInt8) (h : wordB c = true) : Fits (c :: r) (word (c :: r)) := by
  have hw : 1 ≤ ((c :: r).takeWhile wordB).length := by simp [List.takeWhile, h]
  have hl : ((c :: r).takeWhile wordB).length + ((c :: r).dropWhile wordB).length = (c :: r).length := by
    rw [← List.length_append, List.takeWhile_append_dropWhile]
  unfold word wordOf
  generalize (c :: r).takeWhile wordB = w at *
  generalize (c :: r).dropWhile wordB = q at *
  split
  · split
    · rename_i v hv
      have hb := Lib.parseIntB_bounds hv
      have h21 := Lib.itoa_length_le v (by have := hb.1; simpa using this) (by have := hb.2; simp at this; omega)
      exact closed_fits _ _ _ (by omega)
    · intro xs rr he; simp at he
  · split
    · intro xs rr he; simp at he
    · exact closed_fits _ _ _ (by omega)

theorem str_fits (c : UInt8) (r : List UInt8) : Fits (c :: r) (str r) := by
  intro xs rr he
  have hl : (r.takeWhile strB).length + (r.dropWhile strB).length = r.length := by
    rw [← List.length_append, List.takeWhile_append_dropWhile]
  unfold str at he
  cases hd : r.dropWhile strB with
  | nil => rw [hd] at he; simp at he
  | cons c' r' =>
    rw [hd] at he hl
    simp only at he
    split at he
    · simp at he; obtain ⟨h3, h4⟩ := he; subst h3; subst h4
      simp [lines] at hl ⊢; omega
    · simp at he

theorem truth_fits (c : UInt8) (r : List UInt8) : Fits (c :: r) (truth r) := by
  cases r with
  | nil => intro xs rr he; simp [truth] at he
  | cons c' r' =>
    unfold truth
    simp only
    split
    · exact closed_fits _ _ _ (by simp; omega)
    · split
      · exact closed_fits _ _ _ (by simp; omega)
      · intro xs rr he; simp at he

theorem rd_fits : ∀ (f : Nat) (b : Bool) (d : Nat) (l : List UInt8), Fits l (rd f b d l)
  | 0, b, d, l => by intro xs rr he; simp [rd] at he
  | f + 1, true, d, l => by
    intro xs rr he
    have hs := (skip_suf l false).length_le
    unfold rd at he
    cases hk : skip false l with
    | nil => rw [hk] at he; simp at he
    | cons c r =>
      rw [hk] at he hs
      simp only at he
      split at he
      · simp at he; obtain ⟨h3, h4⟩ := he; subst h3; subst h4
        simp [lines] at hs ⊢; omega
      · cases h1 : rd f false d (c :: r) with
        | inl e => rw [h1] at he; simp at he
        | inr p =>
          obtain ⟨x, r1⟩ := p
          rw [h1] at he
          simp only at he
          cases h2 : rd f true d r1 with
          | inl e => rw [h2] at he; simp at he
          | inr p2 =>
            obtain ⟨xs2, r2⟩ := p2
            rw [h2] at he
            simp at he
            obtain ⟨h3, h4⟩ := he
            subst h3; subst h4
            have g1 := rd_fits f false d (c :: r) _ _ h1
            have g2 := rd_fits f true d r1 _ _ h2
            rw [lines_append, List.length_append]; omega
  | f + 1, false, d, l => by
    intro xs rr he
    have hs := (skip_suf l false).length_le
    unfold rd at he
    cases hk : skip false l with
    | nil => rw [hk] at he; simp at he
    | cons c r =>
      rw [hk] at he hs
      have hs' : r.length + 1 ≤ l.length := by simpa using hs
      have up : Fits (c :: r) (.inr (xs, rr)) → (lines xs).length + 22 * rr.length ≤ 22 * l.length := by
        intro h
        have g := h xs rr rfl
        omega
      simp only at he
      split at he
      · split at he
        · simp at he
        · cases h1 : rd f true (d + 1) r with
          | inl e => rw [h1] at he; simp at he
          | inr p =>
            obtain ⟨x, r1⟩ := p
            rw [h1] at he
            simp at he
            obtain ⟨h3, h4⟩ := he
            subst h3; subst h4
            have g1 := rd_fits f true (d + 1) r _ _ h1
            have g2 := join_lines x
            simp [lines, paren] at g1 g2 ⊢; omega
      · split at he
        · split at he
          · simp at he
          · cases h1 : rd f false (d + 1) r with
            | inl e => rw [h1] at he; simp at he
            | inr p =>
              obtain ⟨x, r1⟩ := p
              rw [h1] at he
              simp at he
              obtain ⟨h3, h4⟩ := he
              subst h3; subst h4
              have g1 := rd_fits f false (d + 1) r _ _ h1
              have g2 := join_lines (quoteT :: x)
              have g3 : (lines (quoteT :: x)).length = (lines x).length + 6 := by simp [lines, quoteT]
              have g4 : (lines [paren (quoteT :: x)]).length = (join (quoteT :: x)).length + 3 := by simp [lines, paren]
              omega
        · split at he
          · exact up (he ▸ str_fits c r)
          · split at he
            · exact up (he ▸ truth_fits c r)
            · split at he
              · rename_i hw; exact up (he ▸ word_fits c r hw)
              · simp at he

theorem top_fits : ∀ (f : Nat) (l : List UInt8), Fits l (top f l)
  | 0, l => by intro xs rr he; simp [top] at he
  | f + 1, l => by
    intro xs rr he
    have hs := (skip_suf l false).length_le
    unfold top at he
    cases hk : skip false l with
    | nil => rw [hk] at he; simp at he; obtain ⟨h3, h4⟩ := he; subst h3; subst h4; simp [lines]
    | cons c r =>
      rw [hk] at he hs
      simp only at he
      cases h1 : rd f false 0 (c :: r) with
      | inl e => rw [h1] at he; simp at he
      | inr p =>
        obtain ⟨x, r1⟩ := p
        rw [h1] at he
        simp only at he
        cases h2 : top f r1 with
        | inl e => rw [h2] at he; simp at he
        | inr p2 =>
          obtain ⟨xs2, r2⟩ := p2
          rw [h2] at he
          simp at he
          obtain ⟨h3, h4⟩ := he
          subst h3; subst h4
          have g1 := rd_fits f false 0 (c :: r) _ _ h1
          have g2 := top_fits f r1 _ _ h2
          rw [lines_append, List.length_append]; omega

theorem lines_take_le (ts : List (List UInt8)) (k : Nat) : (lines (ts.take k)).length ≤ (lines ts).length := by
  have h := lines_append (ts.take k) (ts.drop k)
  rw [List.take_append_drop] at h
  rw [h]; simp

end Px
end Go.Proofs.YtbgmenglfgodbaaDoor
