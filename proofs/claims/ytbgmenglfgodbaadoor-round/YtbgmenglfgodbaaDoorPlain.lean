/-
  OUR OWN. Laws of the reading, plain.
-/
import Derived.Test.YtbgmenglfgodbaaDoorPure
namespace Go.Proofs.YtbgmenglfgodbaaDoor
namespace Px
open Go

theorem skip_idem : ∀ (l : List UInt8) (b : Bool), skip false (skip b l) = skip b l
  | [], b => by cases b <;> rfl
  | c :: r, true => by
    by_cases h : c.toNat = 10
    · simp only [skip, if_pos h]; exact skip_idem r false
    · simp only [skip, if_neg h]; exact skip_idem r true
  | c :: r, false => by
    by_cases h : c.toNat = 32 ∨ c.toNat = 10
    · simp only [skip, if_pos h]; exact skip_idem r false
    · by_cases h2 : c.toNat = 59
      · simp only [skip, if_neg h, if_pos h2]; exact skip_idem r true
      · simp only [skip, if_neg h, if_neg h2]

theorem skip_suf : ∀ (l : List UInt8) (b : Bool), skip b l <:+ l
  | [], b => by cases b <;> exact List.suffix_refl _
  | c :: r, true => by
    by_cases h : c.toNat = 10
    · simp only [skip, if_pos h]; exact (skip_suf r false).trans (List.suffix_cons c r)
    · simp only [skip, if_neg h]; exact (skip_suf r true).trans (List.suffix_cons c r)
  | c :: r, false => by
    by_cases h : c.toNat = 32 ∨ c.toNat = 10
    · simp only [skip, if_pos h]; exact (skip_suf r false).trans (List.suffix_cons c r)
    · by_cases h2 : c.toNat = 59
      · simp only [skip, if_neg h, if_pos h2]; exact (skip_suf r true).trans (List.suffix_cons c r)
      · simp only [skip, if_neg h, if_neg h2]; exact List.suffix_refl _

/-- What is read leaves a shorter text; of a datum there is one. -/
def Shorter (l : List UInt8) (b : Bool) (r : R) : Prop := ∀ xs rr, r = .inr (xs, rr) → rr <:+ l ∧ rr.length < l.length ∧ (b = false → ∃ t, xs = [t])

theorem closed_short (l t r : List UInt8) (b : Bool) (h : r <:+ l) (h2 : r.length < l.length) : Shorter l b (closed t r) := by
  intro xs rr he
  unfold closed at he
  cases r with
  | nil => simp at he; obtain ⟨h3, h4⟩ := he; subst h3; subst h4; exact ⟨h, h2, fun _ => ⟨t, rfl⟩⟩
  | cons c r' =>
    simp only at he
    split at he
    · simp at he; obtain ⟨h3, h4⟩ := he; subst h3; subst h4; exact ⟨h, h2, fun _ => ⟨t, rfl⟩⟩
    · simp at he

theorem dropWhile_suf (P : UInt8 → Bool) (l : List UInt8) : l.dropWhile P <:+ l := List.dropWhile_suffix P

theorem word_short (c : UInt8) (r : List UInt8) (h : wordB c = true) : Shorter (c :: r) false (word (c :: r)) := by
  have hs : (c :: r).dropWhile wordB <:+ (c :: r) := dropWhile_suf _ _
  have hl : ((c :: r).dropWhile wordB).length < (c :: r).length := by
    have h1 : (c :: r).dropWhile wordB = r.dropWhile wordB := by simp [List.dropWhile, h]
    rw [h1]
    have := (dropWhile_suf wordB r).length_le
    simp; omega
  unfold word wordOf
  split
  · split
    · exact closed_short _ _ _ _ hs hl
    · intro xs rr he; simp at he
  · split
    · intro xs rr he; simp at he
    · exact closed_short _ _ _ _ hs hl

theorem str_short (c : UInt8) (r : List UInt8) : Shorter (c :: r) false (str r) := by
  intro xs rr he
  have hs : r.dropWhile strB <:+ r := dropWhile_suf _ _
  unfold str at he
  cases hd : r.dropWhile strB with
  | nil => rw [hd] at he; simp at he
  | cons c' r' =>
    rw [hd] at he hs
    simp only at he
    split at he
    · simp at he; obtain ⟨h3, h4⟩ := he; subst h3; subst h4
      have h5 : r' <:+ r := (List.suffix_cons c' r').trans hs
      exact ⟨h5.trans (List.suffix_cons c r), by have := h5.length_le; simp; omega, fun _ => ⟨_, rfl⟩⟩
    · simp at he

theorem truth_short (c : UInt8) (r : List UInt8) : Shorter (c :: r) false (truth r) := by
  cases r with
  | nil => intro xs rr he; simp [truth] at he
  | cons c' r' =>
    have h1 : r' <:+ (c :: c' :: r') := (List.suffix_cons c' r').trans (List.suffix_cons c _)
    unfold truth
    simp only
    split
    · exact closed_short _ _ _ _ h1 (by simp; omega)
    · split
      · exact closed_short _ _ _ _ h1 (by simp; omega)
      · intro xs rr he; simp at he

theorem rd_short : ∀ (f : Nat) (b : Bool) (d : Nat) (l : List UInt8), Shorter l b (rd f b d l)
  | 0, b, d, l => by intro xs rr he; simp [rd] at he
  | f + 1, true, d, l => by
    intro xs rr he
    have hs := skip_suf l false
    unfold rd at he
    cases hk : skip false l with
    | nil => rw [hk] at he; simp at he
    | cons c r =>
      rw [hk] at he hs
      simp only at he
      split at he
      · simp at he; obtain ⟨h3, h4⟩ := he; subst h3; subst h4
        have h5 := (List.suffix_cons c r).trans hs
        exact ⟨h5, by have := hs.length_le; simp at this; omega, fun h => by cases h⟩
      · cases h1 : rd f false d (c :: r) with
        | inl e => rw [h1] at he; simp at he
        | inr p =>
          obtain ⟨x, r1⟩ := p
          rw [h1] at he
          simp only at he
          cases h2 : rd f true d r1 with
          | inl e => rw [h2] at he; simp at he
          | inr p2 =>
            obtain ⟨xs2, r2⟩ := p2
            rw [h2] at he
            simp at he
            obtain ⟨h3, h4⟩ := he
            subst h3; subst h4
            have g1 := rd_short f false d (c :: r) _ _ h1
            have g2 := rd_short f true d r1 _ _ h2
            exact ⟨(g2.1.trans g1.1).trans hs, by have := hs.length_le; omega, fun h => by cases h⟩
  | f + 1, false, d, l => by
    intro xs rr he
    have hs := skip_suf l false
    unfold rd at he
    cases hk : skip false l with
    | nil => rw [hk] at he; simp at he
    | cons c r =>
      rw [hk] at he hs
      have up : Shorter (c :: r) false (.inr (xs, rr)) → rr <:+ l ∧ rr.length < l.length ∧ (false = false → ∃ t, xs = [t]) := by
        intro h
        have g := h xs rr rfl
        exact ⟨g.1.trans hs, by have := hs.length_le; omega, g.2.2⟩
      simp only at he
      split at he
      · split at he
        · simp at he
        · cases h1 : rd f true (d + 1) r with
          | inl e => rw [h1] at he; simp at he
          | inr p =>
            obtain ⟨x, r1⟩ := p
            rw [h1] at he
            simp at he
            obtain ⟨h3, h4⟩ := he
            subst h3; subst h4
            have g1 := rd_short f true (d + 1) r _ _ h1
            exact ⟨(g1.1.trans (List.suffix_cons c r)).trans hs, by have := hs.length_le; simp at this; omega, fun _ => ⟨_, rfl⟩⟩
      · split at he
        · split at he
          · simp at he
          · cases h1 : rd f false (d + 1) r with
            | inl e => rw [h1] at he; simp at he
            | inr p =>
              obtain ⟨x, r1⟩ := p
              rw [h1] at he
              simp at he
              obtain ⟨h3, h4⟩ := he
              subst h3; subst h4
              have g1 := rd_short f false (d + 1) r _ _ h1
              exact ⟨(g1.1.trans (List.suffix_cons c r)).trans hs, by have := hs.length_le; simp at this; omega, fun _ => ⟨_, rfl⟩⟩
        · split at he
          · exact up (he ▸ str_short c r)
          · split at he
            · exact up (he ▸ truth_short c r)
            · split at he
              · rename_i hw; exact up (he ▸ word_short c r hw)
              · simp at he

theorem rd_skip (f : Nat) (b : Bool) (d : Nat) (l : List UInt8) : rd f b d (skip false l) = rd f b d l := by
  cases f with
  | zero => cases b <;> rfl
  | succ f => cases b <;> (unfold rd; rw [skip_idem])

/-- More in front. -/
def pre (ts : List (List UInt8)) (r : R) : R := match r with
  | .inl e => .inl e
  | .inr (xs, rr) => .inr (ts ++ xs, rr)

theorem pre_nil (r : R) : pre [] r = r := by rcases r with e | ⟨xs, rr⟩ <;> rfl
theorem pre_pre (a b : List (List UInt8)) (r : R) : pre a (pre b r) = pre (a ++ b) r := by
  rcases r with e | ⟨xs, rr⟩
  · rfl
  · simp [pre]

theorem rd_true_close (f d : Nat) (c : UInt8) (r : List UInt8) (hc : c.toNat = 41) : rd (f + 1) true d (c :: r) = .inr ([], r) := by
  have h : skip false (c :: r) = c :: r := by simp only [skip]; rw [if_neg (by omega), if_neg (by omega)]
  unfold rd; rw [h]; simp [hc]

theorem rd_true_bad (f d : Nat) (l : List UInt8) (hk : skip false l = l) (hc : ∀ c r, l = c :: r → c.toNat ≠ 41) (e : Nat × Nat) (h : rd f false d l = .inl e) (hf : 1 ≤ f) : rd (f + 1) true d l = .inl e := by
  unfold rd; rw [hk]
  cases l with
  | nil =>
    obtain ⟨g, rfl⟩ : ∃ g, f = g + 1 := ⟨f - 1, by omega⟩
    unfold rd at h; rw [hk] at h; simp only at h ⊢; rw [h]
  | cons c r => simp only; rw [if_neg (hc c r rfl), h]

theorem rd_true_more (f d : Nat) (l : List UInt8) (hk : skip false l = l) (hc : ∀ c r, l = c :: r → c.toNat ≠ 41) (x : List (List UInt8)) (r1 : List UInt8) (h : rd f false d l = .inr (x, r1)) : rd (f + 1) true d l = pre x (rd f true d (skip false r1)) := by
  rw [rd_skip]
  cases l with
  | nil =>
    cases f with
    | zero => simp [rd] at h
    | succ f => unfold rd at h; simp [skip] at h
  | cons c r =>
    rw [rd, hk]; simp only; rw [if_neg (hc c r rfl), h]; simp only
    rcases rd f true d r1 with e | ⟨xs, rr⟩ <;> rfl

end Px
end Go.Proofs.YtbgmenglfgodbaaDoor
