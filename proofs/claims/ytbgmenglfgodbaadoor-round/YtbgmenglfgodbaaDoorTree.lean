/-
  OUR OWN. Data as trees; the reading of a text into trees (as Px reads it into what is written), and its laws.
-/
import Derived.Test.YtbgmenglfgodbaaDoorPlain
namespace Go.Proofs.YtbgmenglfgodbaaDoor

/-- A datum: a symbol has a mark. -/
inductive Dt where
  | num (v : Int)
  | bool (b : Bool)
  | str (t : List UInt8)
  | sym (t : List UInt8) (m : Int)
  | list (l : List Dt)

mutual
/-- As it is written. -/
def Dt.wr : Dt → List UInt8
  | .num v => Lib.itoa v
  | .bool b => if b then [35, 116] else [35, 102]
  | .str t => 34 :: (t ++ [34])
  | .sym t _ => t
  | .list l => Px.paren (Dt.wrs l)
def Dt.wrs : List Dt → List (List UInt8)
  | [] => []
  | d :: r => d.wr :: Dt.wrs r
end
theorem Dt.wrs_map : ∀ l : List Dt, Dt.wrs l = l.map Dt.wr
  | [] => rfl
  | d :: r => by rw [Dt.wrs, Dt.wrs_map r]; rfl

theorem Dt.wr_list (l : List Dt) : Dt.wr (.list l) = Px.paren (l.map Dt.wr) := by
  rw [Dt.wr, Dt.wrs_map]

namespace Py
open Go
open Px (digB wordB endB strB skip unsign numB quoteT skip_idem skip_suf dropWhile_suf)

/-- What is wrong (its number, and how many bytes stand from there on), or what was read, written, and what stands behind it. -/
abbrev R := Sum (Nat × Nat) (List Dt × List UInt8)

/-- A word, or a truth value, that is written t, if what stands behind it may stand there. -/
def closed (t : Dt) (r : List UInt8) : R :=
  match r with
  | [] => .inr ([t], [])
  | c :: r' => if endB c then .inr ([t], c :: r') else .inl (2, r'.length + 1)

def wordOf (w r : List UInt8) : R :=
  if numB w then
    match Lib.parseIntB 64 w with
    | .ok v => closed (.num v) r
    | _ => .inl (4, w.length + r.length)
  else if 24 < w.length then .inl (4, w.length + r.length)
  else closed (.sym w 0) r

def word (l : List UInt8) : R := wordOf (l.takeWhile wordB) (l.dropWhile wordB)

/-- Behind the sign that opens a string. -/
def str (l : List UInt8) : R :=
  match l.dropWhile strB with
  | [] => .inl (3, 0)
  | c :: r => if c.toNat = 34 then .inr ([.str (l.takeWhile strB)], r) else .inl (2, r.length + 1)

/-- Behind a number sign. -/
def truth (l : List UInt8) : R :=
  match l with
  | [] => .inl (2, 1)
  | c :: r => if c.toNat = 116 then closed (.bool true) r else if c.toNat = 102 then closed (.bool false) r else .inl (2, r.length + 2)

/-- One datum ('false'), or the members of a list up to its bracket ('true'), in d lists. -/
def rd : Nat → Bool → Nat → List UInt8 → R
  | 0, _, _, _ => .inl (0, 0)
  | f + 1, true, d, l =>
    match skip false l with
    | [] => .inl (3, 0)
    | c :: r =>
      if c.toNat = 41 then .inr ([], r)
      else match rd f false d (c :: r) with
        | .inl e => .inl e
        | .inr (x, r1) => match rd f true d r1 with
          | .inl e => .inl e
          | .inr (xs, r2) => .inr (x ++ xs, r2)
  | f + 1, false, d, l =>
    match skip false l with
    | [] => .inl (3, 0)
    | c :: r =>
      if c.toNat = 40 then
        if d = 30 then .inl (4, r.length + 1)
        else match rd f true (d + 1) r with
          | .inl e => .inl e
          | .inr (xs, r1) => .inr ([.list xs], r1)
      else if c.toNat = 39 then
        if d = 30 then .inl (4, r.length + 1)
        else match rd f false (d + 1) r with
          | .inl e => .inl e
          | .inr (xs, r1) => .inr ([.list (.sym quoteT 0 :: xs)], r1)
      else if c.toNat = 34 then str r
      else if c.toNat = 35 then truth r
      else if wordB c then word (c :: r)
      else .inl (2, r.length + 1)

/-- All data of a text. -/
def top : Nat → List UInt8 → R
  | 0, _ => .inl (0, 0)
  | f + 1, l =>
    match skip false l with
    | [] => .inr ([], [])
    | c :: r => match rd f false 0 (c :: r) with
      | .inl e => .inl e
      | .inr (x, r1) => match top f r1 with
        | .inl e => .inl e
        | .inr (xs, r2) => .inr (x ++ xs, r2)

/-- What is read leaves a shorter text; of a datum there is one. -/
def Shorter (l : List UInt8) (b : Bool) (r : R) : Prop := ∀ xs rr, r = .inr (xs, rr) → rr <:+ l ∧ rr.length < l.length ∧ (b = false → ∃ t, xs = [t])

theorem closed_short (l : List UInt8) (t : Dt) (r : List UInt8) (b : Bool) (h : r <:+ l) (h2 : r.length < l.length) : Shorter l b (closed t r) := by
  intro xs rr he
  unfold closed at he
  cases r with
  | nil => simp at he; obtain ⟨h3, h4⟩ := he; subst h3; subst h4; exact ⟨h, h2, fun _ => ⟨t, rfl⟩⟩
  | cons c r' =>
    simp only at he
    split at he
    · simp at he; obtain ⟨h3, h4⟩ := he; subst h3; subst h4; exact ⟨h, h2, fun _ => ⟨t, rfl⟩⟩
    · simp at he


theorem word_short (c : UInt8) (r : List UInt8) (h : wordB c = true) : Shorter (c :: r) false (word (c :: r)) := by
  have hs : (c :: r).dropWhile wordB <:+ (c :: r) := dropWhile_suf _ _
  have hl : ((c :: r).dropWhile wordB).length < (c :: r).length := by
    have h1 : (c :: r).dropWhile wordB = r.dropWhile wordB := by simp [List.dropWhile, h]
    rw [h1]
    have := (dropWhile_suf wordB r).length_le
    simp; omega
  unfold word wordOf
  split
  · split
    · exact closed_short _ _ _ _ hs hl
    · intro xs rr he; simp at he
  · split
    · intro xs rr he; simp at he
    · exact closed_short _ _ _ _ hs hl

theorem str_short (c : UInt8) (r : List UInt8) : Shorter (c :: r) false (str r) := by
  intro xs rr he
  have hs : r.dropWhile strB <:+ r := dropWhile_suf _ _
  unfold str at he
  cases hd : r.dropWhile strB with
  | nil => rw [hd] at he; simp at he
  | cons c' r' =>
    rw [hd] at he hs
    simp only at he
    split at he
    · simp at he; obtain ⟨h3, h4⟩ := he; subst h3; subst h4
      have h5 : r' <:+ r := (List.suffix_cons c' r').trans hs
      exact ⟨h5.trans (List.suffix_cons c r), by have := h5.length_le; simp; omega, fun _ => ⟨_, rfl⟩⟩
    · simp at he

theorem truth_short (c : UInt8) (r : List UInt8) : Shorter (c :: r) false (truth r) := by
  cases r with
  | nil => intro xs rr he; simp [truth] at he
  | cons c' r' =>
    have h1 : r' <:+ (c :: c' :: r') := (List.suffix_cons c' r').trans (List.suffix_cons c _)
    unfold truth
    simp only
    split
    · exact closed_short _ _ _ _ h1 (by simp; omega)
    · split
      · exact closed_short _ _ _ _ h1 (by simp; omega)
      · intro xs rr he; simp at he

theorem rd_short : ∀ (f : Nat) (b : Bool) (d : Nat) (l : List UInt8), Shorter l b (rd f b d l)
  | 0, b, d, l => by intro xs rr he; simp [rd] at he
  | f + 1, true, d, l => by
    intro xs rr he
    have hs := skip_suf l false
    unfold rd at he
    cases hk : skip false l with
    | nil => rw [hk] at he; simp at he
    | cons c r =>
      rw [hk] at he hs
      simp only at he
      split at he
      · simp at he; obtain ⟨h3, h4⟩ := he; subst h3; subst h4
        have h5 := (List.suffix_cons c r).trans hs
        exact ⟨h5, by have := hs.length_le; simp at this; omega, fun h => by cases h⟩
      · cases h1 : rd f false d (c :: r) with
        | inl e => rw [h1] at he; simp at he
        | inr p =>
          obtain ⟨x, r1⟩ := p
          rw [h1] at he
          simp only at he
          cases h2 : rd f true d r1 with
          | inl e => rw [h2] at he; simp at he
          | inr p2 =>
            obtain ⟨xs2, r2⟩ := p2
            rw [h2] at he
            simp at he
            obtain ⟨h3, h4⟩ := he
            subst h3; subst h4
            have g1 := rd_short f false d (c :: r) _ _ h1
            have g2 := rd_short f true d r1 _ _ h2
            exact ⟨(g2.1.trans g1.1).trans hs, by have := hs.length_le; omega, fun h => by cases h⟩
  | f + 1, false, d, l => by
    intro xs rr he
    have hs := skip_suf l false
    unfold rd at he
    cases hk : skip false l with
    | nil => rw [hk] at he; simp at he
    | cons c r =>
      rw [hk] at he hs
      have up : Shorter (c :: r) false (.inr (xs, rr)) → rr <:+ l ∧ rr.length < l.length ∧ (false = false → ∃ t, xs = [t]) := by
        intro h
        have g := h xs rr rfl
        exact ⟨g.1.trans hs, by have := hs.length_le; omega, g.2.2⟩
      simp only at he
      split at he
      · split at he
        · simp at he
        · cases h1 : rd f true (d + 1) r with
          | inl e => rw [h1] at he; simp at he
          | inr p =>
            obtain ⟨x, r1⟩ := p
            rw [h1] at he
            simp at he
            obtain ⟨h3, h4⟩ := he
            subst h3; subst h4
            have g1 := rd_short f true (d + 1) r _ _ h1
            exact ⟨(g1.1.trans (List.suffix_cons c r)).trans hs, by have := hs.length_le; simp at this; omega, fun _ => ⟨_, rfl⟩⟩
      · split at he
        · split at he
          · simp at he
          · cases h1 : rd f false (d + 1) r with
            | inl e => rw [h1] at he; simp at he
            | inr p =>
              obtain ⟨x, r1⟩ := p
              rw [h1] at he
              simp at he
              obtain ⟨h3, h4⟩ := he
              subst h3; subst h4
              have g1 := rd_short f false (d + 1) r _ _ h1
              exact ⟨(g1.1.trans (List.suffix_cons c r)).trans hs, by have := hs.length_le; simp at this; omega, fun _ => ⟨_, rfl⟩⟩
        · split at he
          · exact up (he ▸ str_short c r)
          · split at he
            · exact up (he ▸ truth_short c r)
            · split at he
              · rename_i hw; exact up (he ▸ word_short c r hw)
              · simp at he

theorem rd_skip (f : Nat) (b : Bool) (d : Nat) (l : List UInt8) : rd f b d (skip false l) = rd f b d l := by
  cases f with
  | zero => cases b <;> rfl
  | succ f => cases b <;> (unfold rd; rw [skip_idem])

/-- More in front. -/
def pre (ts : List Dt) (r : R) : R := match r with
  | .inl e => .inl e
  | .inr (xs, rr) => .inr (ts ++ xs, rr)

theorem pre_nil (r : R) : pre [] r = r := by rcases r with e | ⟨xs, rr⟩ <;> rfl
theorem pre_pre (a b : List Dt) (r : R) : pre a (pre b r) = pre (a ++ b) r := by
  rcases r with e | ⟨xs, rr⟩
  · rfl
  · simp [pre]

theorem rd_true_close (f d : Nat) (c : UInt8) (r : List UInt8) (hc : c.toNat = 41) : rd (f + 1) true d (c :: r) = .inr ([], r) := by
  have h : skip false (c :: r) = c :: r := by simp only [skip]; rw [if_neg (by omega), if_neg (by omega)]
  unfold rd; rw [h]; simp [hc]

theorem rd_true_bad (f d : Nat) (l : List UInt8) (hk : skip false l = l) (hc : ∀ c r, l = c :: r → c.toNat ≠ 41) (e : Nat × Nat) (h : rd f false d l = .inl e) (hf : 1 ≤ f) : rd (f + 1) true d l = .inl e := by
  unfold rd; rw [hk]
  cases l with
  | nil =>
    obtain ⟨g, rfl⟩ : ∃ g, f = g + 1 := ⟨f - 1, by omega⟩
    unfold rd at h; rw [hk] at h; simp only at h ⊢; rw [h]
  | cons c r => simp only; rw [if_neg (hc c r rfl), h]

theorem rd_true_more (f d : Nat) (l : List UInt8) (hk : skip false l = l) (hc : ∀ c r, l = c :: r → c.toNat ≠ 41) (x : List Dt) (r1 : List UInt8) (h : rd f false d l = .inr (x, r1)) : rd (f + 1) true d l = pre x (rd f true d (skip false r1)) := by
  rw [rd_skip]
  cases l with
  | nil =>
    cases f with
    | zero => simp [rd] at h
    | succ f => unfold rd at h; simp [skip] at h
  | cons c r =>
    rw [rd, hk]; simp only; rw [if_neg (hc c r rfl), h]; simp only
    rcases rd f true d r1 with e | ⟨xs, rr⟩ <;> rfl


/-- Written. -/
def mapR (r : R) : Px.R := match r with
  | .inl e => .inl e
  | .inr (xs, rr) => .inr (xs.map Dt.wr, rr)

theorem closed_map (t : Dt) (r : List UInt8) : Px.closed t.wr r = mapR (closed t r) := by
  unfold Px.closed closed
  cases r with
  | nil => rfl
  | cons c r => simp only; split <;> rfl

theorem word_map (l : List UInt8) : Px.word l = mapR (word l) := by
  unfold Px.word word Px.wordOf wordOf
  split
  · cases Lib.parseIntB 64 (l.takeWhile wordB) <;> first | rfl | exact closed_map (.num _) _
  · split
    · rfl
    · exact closed_map (.sym _ 0) _

theorem str_map (l : List UInt8) : Px.str l = mapR (str l) := by
  unfold Px.str str
  cases l.dropWhile strB with
  | nil => rfl
  | cons c r => simp only; split <;> rfl

theorem truth_map (l : List UInt8) : Px.truth l = mapR (truth l) := by
  unfold Px.truth truth
  cases l with
  | nil => rfl
  | cons c r =>
    simp only
    split
    · exact closed_map (.bool true) _
    · split
      · exact closed_map (.bool false) _
      · rfl

theorem rd_map : ∀ (f : Nat) (b : Bool) (d : Nat) (l : List UInt8), Px.rd f b d l = mapR (rd f b d l)
  | 0, _, _, _ => by simp [Px.rd, rd, mapR]
  | f + 1, true, d, l => by
    rw [Px.rd, rd]
    cases skip false l with
    | nil => rfl
    | cons c r =>
      simp only
      split
      · rfl
      · rw [rd_map f false d (c :: r)]
        rcases rd f false d (c :: r) with e | ⟨x, r1⟩
        · rfl
        · simp only [mapR]
          rw [rd_map f true d r1]
          rcases rd f true d r1 with e | ⟨x2, r2⟩
          · rfl
          · simp [mapR]
  | f + 1, false, d, l => by
    rw [Px.rd, rd]
    cases skip false l with
    | nil => rfl
    | cons c r =>
      simp only
      split
      · split
        · rfl
        · rw [rd_map f true (d + 1) r]
          rcases rd f true (d + 1) r with e | ⟨x, r1⟩
          · rfl
          · simp [mapR, Dt.wr_list]
      · split
        · split
          · rfl
          · rw [rd_map f false (d + 1) r]
            rcases rd f false (d + 1) r with e | ⟨x, r1⟩
            · rfl
            · simp [mapR, Dt.wr, Dt.wrs, Dt.wrs_map]
        · split
          · exact str_map r
          · split
            · exact truth_map r
            · split
              · exact word_map _
              · rfl

theorem top_map : ∀ (f : Nat) (l : List UInt8), Px.top f l = mapR (top f l)
  | 0, _ => rfl
  | f + 1, l => by
    rw [Px.top, top]
    cases skip false l with
    | nil => rfl
    | cons c r =>
      simp only
      rw [rd_map f false 0 (c :: r)]
      rcases rd f false 0 (c :: r) with e | ⟨x, r1⟩
      · rfl
      · simp only [mapR]
        rw [top_map f r1]
        rcases top f r1 with e | ⟨x2, r2⟩
        · rfl
        · simp [mapR]

/-- All data of a text, each with how many bytes stand from its first on. -/
def topP : Nat → List UInt8 → Sum (Nat × Nat) (List (Dt × Nat) × List UInt8)
  | 0, _ => .inl (0, 0)
  | f + 1, l =>
    match skip false l with
    | [] => .inr ([], [])
    | c :: r => match rd f false 0 (c :: r) with
      | .inl e => .inl e
      | .inr (x, r1) => match topP f r1 with
        | .inl e => .inl e
        | .inr (xs, r2) => .inr (x.map (fun t => (t, r.length + 1)) ++ xs, r2)

def preP (ts : List (Dt × Nat)) (r : Sum (Nat × Nat) (List (Dt × Nat) × List UInt8)) : Sum (Nat × Nat) (List (Dt × Nat) × List UInt8) := match r with
  | .inl e => .inl e
  | .inr (xs, rr) => .inr (ts ++ xs, rr)
theorem preP_nil (r : Sum (Nat × Nat) (List (Dt × Nat) × List UInt8)) : preP [] r = r := by rcases r with e | ⟨xs, rr⟩ <;> rfl
theorem preP_pre (a b : List (Dt × Nat)) (r : Sum (Nat × Nat) (List (Dt × Nat) × List UInt8)) : preP a (preP b r) = preP (a ++ b) r := by
  rcases r with e | ⟨xs, rr⟩
  · rfl
  · simp [preP]

theorem topP_top : ∀ (f : Nat) (l : List UInt8), top f l = (match topP f l with | .inl e => .inl e | .inr (xs, rr) => .inr (xs.map (·.1), rr))
  | 0, _ => rfl
  | f + 1, l => by
    rw [top, topP]
    cases skip false l with
    | nil => rfl
    | cons c r =>
      simp only
      rcases rd f false 0 (c :: r) with e | ⟨x, r1⟩
      · rfl
      · simp only
        rw [topP_top f r1]
        rcases topP f r1 with e | ⟨x2, r2⟩
        · rfl
        · simp [Function.comp_def]

end Py
end Go.Proofs.YtbgmenglfgodbaaDoor
