/-
  OUR OWN. What is written, read again, gives the same.
-/
import Derived.Test.YtbgmenglfgodbaaDoorSize
namespace Go.Proofs.YtbgmenglfgodbaaDoor
namespace Px
open Go

theorem digit_toNat (n : Nat) (h : n < 10) : (UInt8.ofNat (48 + n)).toNat = 48 + n := by
  rw [UInt8.toNat_ofNat']; omega

theorem dec_all (u : Nat) : (Lib.decDigits u).all digB = true ∧ Lib.decDigits u ≠ [] := by
  induction u using Nat.strongRecOn with
  | ind u ih =>
    rw [Lib.decDigits]
    by_cases h : u < 10
    · rw [dif_pos h]
      simp [digB]; omega
    · rw [dif_neg h]
      have h1 := ih (u / 10) (by omega)
      rw [List.all_append, h1.1]
      simp [digB]; omega

theorem dec_parse (u : Nat) (hu : u ≤ 2 ^ 64 - 1) : ∀ rest, Lib.parseUintM (2 ^ 64 - 1) 0 (Lib.decDigits u ++ rest) = Lib.parseUintM (2 ^ 64 - 1) u rest := by
  induction u using Nat.strongRecOn with
  | ind u ih =>
    intro rest
    rw [Lib.decDigits]
    by_cases h : u < 10
    · rw [dif_pos h]
      have e := digit_toNat u h
      rw [List.singleton_append, Lib.parseUintM, if_pos (by omega), if_neg (by omega), if_neg (by omega), e]
      congr 1; omega
    · rw [dif_neg h]
      have e := digit_toNat (u % 10) (by omega)
      rw [List.append_assoc, ih (u / 10) (by omega) (by omega), List.singleton_append, Lib.parseUintM, if_pos (by omega), if_neg (by omega), if_neg (by omega), e]
      congr 1; omega

theorem dec_head (u : Nat) : ∃ c r, Lib.decDigits u = c :: r ∧ digB c = true := by
  have h := dec_all u
  cases hd : Lib.decDigits u with
  | nil => exact absurd hd h.2
  | cons c r => rw [hd] at h; exact ⟨c, r, rfl, by simpa using (show digB c = true ∧ _ from by simpa using h.1).1⟩

theorem itoa_parse (v : Int) (h0 : -9223372036854775808 ≤ v) (h1 : v ≤ 9223372036854775807) : Lib.parseIntB 64 (Lib.itoa v) = .ok v := by
  unfold Lib.itoa
  by_cases hv : v < 0
  · rw [if_pos hv]
    have hu := dec_parse v.natAbs (by omega) []
    rw [List.append_nil] at hu
    have hne := (dec_all v.natAbs).2
    unfold Lib.parseIntB
    simp only [show (45 : UInt8).toNat = 45 from rfl, or_true, if_true]
    unfold Lib.parseUintB
    rw [if_neg hne, hu, Lib.parseUintM]
    simp only
    rw [if_neg (by simp), if_neg (by simp; omega)]
    congr 1; omega
  · rw [if_neg hv]
    have hu := dec_parse v.toNat (by omega) []
    rw [List.append_nil] at hu
    obtain ⟨c, r, hc, hd⟩ := dec_head v.toNat
    rw [hc] at hu ⊢
    have hd' : 48 ≤ c.toNat ∧ c.toNat ≤ 57 := by simpa [digB] using hd
    unfold Lib.parseIntB
    simp only
    rw [if_neg (by omega)]
    unfold Lib.parseUintB
    rw [if_neg (by simp), hu, Lib.parseUintM]
    simp only
    rw [if_neg (by intro h; have := h.2; omega), if_neg (by intro h; omega), if_neg (by omega)]
    congr 1; omega

theorem itoa_num (v : Int) : numB (Lib.itoa v) = true := by
  unfold Lib.itoa numB
  by_cases hv : v < 0
  · rw [if_pos hv]
    have h := dec_all v.natAbs
    simp [unsign, h.1, h.2]
  · rw [if_neg hv]
    have h := dec_all v.toNat
    obtain ⟨c, r, hc, hd⟩ := dec_head v.toNat
    have hd' : 48 ≤ c.toNat ∧ c.toNat ≤ 57 := by simpa [digB] using hd
    rw [hc] at h ⊢
    have hu : unsign (c :: r) = c :: r := by unfold unsign; simp only; rw [if_neg (by omega)]
    rw [hu, h.1]; rfl

theorem digB_wordB (c : UInt8) (h : digB c = true) : wordB c = true := by
  have : 48 ≤ c.toNat ∧ c.toNat ≤ 57 := by simpa [digB] using h
  unfold wordB; rw [decide_eq_true_eq]; right; left; exact this

theorem itoa_word (v : Int) : (Lib.itoa v).all wordB = true ∧ Lib.itoa v ≠ [] := by
  have hall : ∀ l : List UInt8, l.all digB = true → l.all wordB = true := by
    intro l h
    rw [List.all_eq_true] at h ⊢
    exact fun x hx => digB_wordB x (h x hx)
  unfold Lib.itoa
  by_cases hv : v < 0
  · rw [if_pos hv]
    have h := dec_all v.natAbs
    rw [List.all_cons, hall _ h.1]
    exact ⟨by decide, by simp⟩
  · rw [if_neg hv]
    have h := dec_all v.toNat
    exact ⟨hall _ h.1, h.2⟩


theorem tw_all (P : UInt8 → Bool) : ∀ l : List UInt8, (l.takeWhile P).all P = true
  | [] => rfl
  | c :: r => by
    cases h : P c
    · simp [h]
    · have := tw_all P r
      simp [h] at this ⊢

/-- What may stand behind a word. -/
def Free (rest : List UInt8) : Prop := ∀ c r, rest = c :: r → endB c = true

/-- t, read in d lists, is t. -/
def Reads (d : Nat) (t : List UInt8) : Prop := ∀ F rest, 2 * (t.length + rest.length) + 1 ≤ F → Free rest → rd F false d (t ++ rest) = .inr ([t], rest)

/-- t begins with a byte that is no blank, and opens no comment and shuts no list. -/
def Starts (t : List UInt8) : Prop := ∃ c r, t = c :: r ∧ c.toNat ≠ 32 ∧ c.toNat ≠ 10 ∧ c.toNat ≠ 59 ∧ c.toNat ≠ 41

theorem skip_stays (c : UInt8) (r : List UInt8) (h1 : c.toNat ≠ 32) (h2 : c.toNat ≠ 10) (h3 : c.toNat ≠ 59) : skip false (c :: r) = c :: r := by
  rw [skip, if_neg (by omega), if_neg h3]

theorem wordB_cases (c : UInt8) (h : wordB c = true) : c.toNat ≠ 32 ∧ c.toNat ≠ 10 ∧ c.toNat ≠ 59 ∧ c.toNat ≠ 41 ∧ c.toNat ≠ 40 ∧ c.toNat ≠ 39 ∧ c.toNat ≠ 34 ∧ c.toNat ≠ 35 := by
  unfold wordB at h; rw [decide_eq_true_eq] at h; omega

theorem endB_wordB (c : UInt8) (h : endB c = true) : wordB c = false := by
  unfold endB at h; rw [decide_eq_true_eq] at h
  unfold wordB; rw [decide_eq_false_iff_not]; omega

theorem take_word (w rest : List UInt8) (hw : w.all wordB = true) (hr : Free rest) : (w ++ rest).takeWhile wordB = w ∧ (w ++ rest).dropWhile wordB = rest := by
  induction w with
  | nil =>
    cases rest with
    | nil => simp
    | cons c r => have := endB_wordB c (hr c r rfl); simp [this]
  | cons c r ih =>
    have h1 : wordB c = true ∧ r.all wordB = true := by simpa using hw
    have := ih h1.2
    simp [h1.1, this.1, this.2]

theorem closed_free (t rest : List UInt8) (h : Free rest) : closed t rest = .inr ([t], rest) := by
  cases rest with
  | nil => rfl
  | cons c r => simp [closed, h c r rfl]

theorem word_reads (d : Nat) (w : List UInt8) (hw : w.all wordB = true) (hne : w ≠ []) (h : ∀ rest, Free rest → wordOf w rest = .inr ([w], rest)) : Reads d w ∧ Starts w := by
  cases w with
  | nil => exact absurd rfl hne
  | cons c r =>
    have h1 : wordB c = true ∧ r.all wordB = true := by simpa using hw
    have hc := wordB_cases c h1.1
    refine ⟨?_, c, r, rfl, hc.1, hc.2.1, hc.2.2.1, hc.2.2.2.1⟩
    intro F rest hF hr
    obtain ⟨f, rfl⟩ : ∃ f, F = f + 1 := ⟨F - 1, by omega⟩
    rw [List.cons_append, rd, skip_stays c _ hc.1 hc.2.1 hc.2.2.1]
    simp only
    rw [if_neg hc.2.2.2.2.1, if_neg hc.2.2.2.2.2.1, if_neg hc.2.2.2.2.2.2.1, if_neg hc.2.2.2.2.2.2.2, if_pos h1.1]
    have ht := take_word (c :: r) rest hw hr
    rw [← List.cons_append]
    unfold word
    rw [ht.1, ht.2]; exact h rest hr

theorem num_reads (d : Nat) (v : Int) (h0 : -9223372036854775808 ≤ v) (h1 : v ≤ 9223372036854775807) : Reads d (Lib.itoa v) ∧ Starts (Lib.itoa v) := by
  have hw := itoa_word v
  refine word_reads d _ hw.1 hw.2 (fun rest hr => ?_)
  unfold wordOf
  rw [if_pos (itoa_num v), itoa_parse v h0 h1]; exact closed_free _ _ hr

theorem sym_reads (d : Nat) (w : List UInt8) (hw : w.all wordB = true) (hne : w ≠ []) (hn : numB w = false) (hl : ¬ 24 < w.length) : Reads d w ∧ Starts w := by
  refine word_reads d _ hw hne (fun rest hr => ?_)
  unfold wordOf
  rw [if_neg (by simp [hn]), if_neg hl]; exact closed_free _ _ hr

theorem quoteT_reads (d : Nat) : Reads d quoteT ∧ Starts quoteT := sym_reads d _ (by decide) (by decide) (by decide) (by decide)

theorem truth_reads (d : Nat) (t : List UInt8) (h : t = [35, 116] ∨ t = [35, 102]) : Reads d t ∧ Starts t := by
  rcases h with rfl | rfl
  · refine ⟨?_, 35, [116], rfl, by decide, by decide, by decide, by decide⟩
    intro F rest hF hr
    obtain ⟨f, rfl⟩ : ∃ f, F = f + 1 := ⟨F - 1, by omega⟩
    show rd (f + 1) false d (35 :: 116 :: rest) = _
    rw [rd, skip_stays 35 _ (by decide) (by decide) (by decide)]
    show truth (116 :: rest) = _
    exact closed_free _ _ hr
  · refine ⟨?_, 35, [102], rfl, by decide, by decide, by decide, by decide⟩
    intro F rest hF hr
    obtain ⟨f, rfl⟩ : ∃ f, F = f + 1 := ⟨F - 1, by omega⟩
    show rd (f + 1) false d (35 :: 102 :: rest) = _
    rw [rd, skip_stays 35 _ (by decide) (by decide) (by decide)]
    show truth (102 :: rest) = _
    exact closed_free _ _ hr

theorem take_str (u rest : List UInt8) (hu : u.all strB = true) : (u ++ 34 :: rest).takeWhile strB = u ∧ (u ++ 34 :: rest).dropWhile strB = 34 :: rest := by
  induction u with
  | nil => simp [show strB 34 = false from by decide]
  | cons c r ih =>
    have h1 : strB c = true ∧ r.all strB = true := by simpa using hu
    have := ih h1.2
    simp [h1.1, this.1, this.2]

theorem str_reads (d : Nat) (u : List UInt8) (hu : u.all strB = true) : Reads d (34 :: (u ++ [34])) ∧ Starts (34 :: (u ++ [34])) := by
  refine ⟨?_, 34, _, rfl, by decide, by decide, by decide, by decide⟩
  intro F rest hF hr
  obtain ⟨f, rfl⟩ : ∃ f, F = f + 1 := ⟨F - 1, by omega⟩
  have e : (34 :: (u ++ [34])) ++ rest = 34 :: (u ++ 34 :: rest) := by simp
  rw [e, rd, skip_stays 34 _ (by decide) (by decide) (by decide)]
  show str (u ++ 34 :: rest) = _
  have ht := take_str u rest hu
  unfold str
  rw [ht.2, ht.1]; rfl

theorem free_cons (c : UInt8) (r : List UInt8) (h : endB c = true) : Free (c :: r) := by
  intro c' r' e; cases e; exact h

theorem rd_blank (F : Nat) (b : Bool) (d : Nat) (l : List UInt8) : rd F b d (32 :: l) = rd F b d l := by
  rw [← rd_skip F b d (32 :: l), ← rd_skip F b d l]; rfl

theorem join_reads (d : Nat) : ∀ (ys : List (List UInt8)), (∀ t, t ∈ ys → Reads d t ∧ Starts t) → ∀ F rest, 2 * ((join ys).length + 1 + rest.length) + 2 ≤ F → rd F true d (join ys ++ 41 :: rest) = .inr (ys, rest)
  | [], _, F, rest, hF => by
    obtain ⟨f, rfl⟩ : ∃ f, F = f + 1 := ⟨F - 1, by omega⟩
    exact rd_true_close f d 41 rest rfl
  | [t], hy, F, rest, hF => by
    obtain ⟨hr, c, r, hc, h1, h2, h3, h4⟩ := hy t (by simp)
    obtain ⟨f, rfl⟩ : ∃ f, F = f + 1 := ⟨F - 1, by omega⟩
    have hj : join [t] = t := by simp [join]
    rw [hj] at hF ⊢
    have hk : skip false (t ++ 41 :: rest) = t ++ 41 :: rest := by rw [hc, List.cons_append]; exact skip_stays c _ h1 h2 h3
    have hx := hr f (41 :: rest) (by simp; omega) (free_cons _ _ (by decide))
    rw [rd_true_more f d _ hk (by rw [hc]; intro c' r' e; simp at e; rw [← e.1]; exact h4) _ _ hx, rd_skip]
    obtain ⟨g, rfl⟩ : ∃ g, f = g + 1 := ⟨f - 1, by omega⟩
    rw [rd_true_close g d 41 rest rfl]; rfl
  | t :: u :: v, hy, F, rest, hF => by
    obtain ⟨hr, c, r, hc, h1, h2, h3, h4⟩ := hy t (by simp)
    obtain ⟨f, rfl⟩ : ∃ f, F = f + 1 := ⟨F - 1, by omega⟩
    have hj : join (t :: u :: v) = t ++ 32 :: join (u :: v) := rfl
    rw [hj] at hF ⊢
    have e : (t ++ 32 :: join (u :: v)) ++ 41 :: rest = t ++ (32 :: (join (u :: v) ++ 41 :: rest)) := by simp
    rw [e]
    have hk : skip false (t ++ (32 :: (join (u :: v) ++ 41 :: rest))) = t ++ (32 :: (join (u :: v) ++ 41 :: rest)) := by rw [hc, List.cons_append]; exact skip_stays c _ h1 h2 h3
    have hx := hr f (32 :: (join (u :: v) ++ 41 :: rest)) (by simp at hF ⊢; omega) (free_cons _ _ (by decide))
    have ht : 1 ≤ t.length := by rw [hc]; simp
    rw [rd_true_more f d _ hk (by rw [hc]; intro c' r' e; simp at e; rw [← e.1]; exact h4) _ _ hx, rd_skip, rd_blank, join_reads d (u :: v) (fun t ht => hy t (by simp at ht ⊢; exact .inr ht)) f rest (by simp at hF ⊢; omega)]
    rfl

theorem paren_reads (d : Nat) (hd : d ≠ 30) (ys : List (List UInt8)) (hy : ∀ t, t ∈ ys → Reads (d + 1) t ∧ Starts t) : Reads d (paren ys) ∧ Starts (paren ys) := by
  refine ⟨?_, 40, _, rfl, by decide, by decide, by decide, by decide⟩
  intro F rest hF hr
  obtain ⟨f, rfl⟩ : ∃ f, F = f + 1 := ⟨F - 1, by omega⟩
  have e : paren ys ++ rest = 40 :: (join ys ++ 41 :: rest) := by simp [paren]
  have hl : (paren ys).length = (join ys).length + 2 := by simp [paren]
  rw [e, rd, skip_stays 40 _ (by decide) (by decide) (by decide)]
  simp only
  rw [if_pos (by decide), if_neg hd, join_reads (d + 1) ys hy f rest (by omega)]

theorem rd_again : ∀ (f : Nat) (b : Bool) (d : Nat) (l : List UInt8) (xs : List (List UInt8)) (rr : List UInt8), rd f b d l = .inr (xs, rr) → ∀ t, t ∈ xs → Reads d t ∧ Starts t
  | 0, b, d, l, xs, rr, he => by simp [rd] at he
  | f + 1, true, d, l, xs, rr, he => by
    unfold rd at he
    cases hk : skip false l with
    | nil => rw [hk] at he; simp at he
    | cons c r =>
      rw [hk] at he
      simp only at he
      split at he
      · simp at he; obtain ⟨h3, h4⟩ := he; subst h3; intro t ht; simp at ht
      · cases h1 : rd f false d (c :: r) with
        | inl e => rw [h1] at he; simp at he
        | inr p =>
          obtain ⟨x, r1⟩ := p
          rw [h1] at he
          simp only at he
          cases h2 : rd f true d r1 with
          | inl e => rw [h2] at he; simp at he
          | inr p2 =>
            obtain ⟨xs2, r2⟩ := p2
            rw [h2] at he
            simp at he
            obtain ⟨h3, h4⟩ := he
            subst h3
            intro t ht
            rcases List.mem_append.1 ht with ht | ht
            · exact rd_again f false d (c :: r) _ _ h1 t ht
            · exact rd_again f true d r1 _ _ h2 t ht
  | f + 1, false, d, l, xs, rr, he => by
    unfold rd at he
    cases hk : skip false l with
    | nil => rw [hk] at he; simp at he
    | cons c r =>
      rw [hk] at he
      simp only at he
      split at he
      · split at he
        · simp at he
        · rename_i hd
          cases h1 : rd f true (d + 1) r with
          | inl e => rw [h1] at he; simp at he
          | inr p =>
            obtain ⟨x, r1⟩ := p
            rw [h1] at he
            simp at he
            obtain ⟨h3, h4⟩ := he
            subst h3
            intro t ht
            obtain rfl : t = paren x := by simpa using ht
            exact paren_reads d hd x (rd_again f true (d + 1) r _ _ h1)
      · split at he
        · split at he
          · simp at he
          · rename_i hd
            cases h1 : rd f false (d + 1) r with
            | inl e => rw [h1] at he; simp at he
            | inr p =>
              obtain ⟨x, r1⟩ := p
              rw [h1] at he
              simp at he
              obtain ⟨h3, h4⟩ := he
              subst h3
              intro t ht
              obtain rfl : t = paren (quoteT :: x) := by simpa using ht
              refine paren_reads d hd _ (fun u hu => ?_)
              rcases List.mem_cons.1 hu with rfl | hu
              · exact quoteT_reads (d + 1)
              · exact rd_again f false (d + 1) r _ _ h1 u hu
        · split at he
          · -- a string
            unfold str at he
            cases hd : r.dropWhile strB with
            | nil => rw [hd] at he; simp at he
            | cons c' r' =>
              rw [hd] at he
              simp only at he
              split at he
              · simp at he
                obtain ⟨h3, h4⟩ := he
                subst h3
                intro t ht
                obtain rfl : t = 34 :: (r.takeWhile strB ++ [34]) := by simpa using ht
                exact str_reads d _ (tw_all _ _)
              · simp at he
          · split at he
            · -- #t, #f
              cases r with
              | nil => simp [truth] at he
              | cons c' r' =>
                have key : ∀ u : List UInt8, (u = [35, 116] ∨ u = [35, 102]) → closed u r' = .inr (xs, rr) → ∀ t, t ∈ xs → Reads d t ∧ Starts t := by
                  intro u hu he t ht
                  have hx := closed_short (c :: c' :: r') u r' false ((List.suffix_cons c' r').trans (List.suffix_cons c _)) (by simp; omega) xs rr he
                  have : xs = [u] := by
                    unfold closed at he
                    cases r' with
                    | nil => simp at he; exact he.1.symm
                    | cons a b =>
                      simp only at he
                      split at he
                      · simp at he; exact he.1.symm
                      · simp at he
                  subst this
                  obtain rfl : t = u := by simpa using ht
                  exact truth_reads d t hu
                unfold truth at he
                simp only at he
                split at he
                · exact key _ (.inl rfl) he
                · split at he
                  · exact key _ (.inr rfl) he
                  · simp at he
            · split at he
              · rename_i hw
                -- a word
                have key : ∀ u q : List UInt8, closed u q = .inr (xs, rr) → xs = [u] := by
                  intro u q he
                  unfold closed at he
                  cases q with
                  | nil => simp at he; exact he.1.symm
                  | cons a b =>
                    simp only at he
                    split at he
                    · simp at he; exact he.1.symm
                    · simp at he
                unfold word wordOf at he
                split at he
                · split at he
                  · rename_i v hv
                    have hx := key _ _ he
                    subst hx
                    intro t ht
                    obtain rfl : t = Lib.itoa v := by simpa using ht
                    have hb := Lib.parseIntB_bounds hv
                    exact num_reads d v (by have := hb.1; simpa using this) (by have := hb.2; simp at this; omega)
                  · simp at he
                · rename_i hn
                  split at he
                  · simp at he
                  · rename_i hl
                    have hx := key _ _ he
                    subst hx
                    intro t ht
                    obtain rfl : t = (c :: r).takeWhile wordB := by simpa using ht
                    exact sym_reads d _ (tw_all _ _) (by simp [List.takeWhile, hw]) (by simpa using hn) hl
              · simp at he

theorem top_mem : ∀ (f : Nat) (l : List UInt8) (xs : List (List UInt8)) (rr : List UInt8), top f l = .inr (xs, rr) → ∀ t, t ∈ xs → Reads 0 t ∧ Starts t
  | 0, l, xs, rr, he => by simp [top] at he
  | f + 1, l, xs, rr, he => by
    unfold top at he
    cases hk : skip false l with
    | nil => rw [hk] at he; simp at he; obtain ⟨h3, h4⟩ := he; subst h3; intro t ht; simp at ht
    | cons c r =>
      rw [hk] at he
      simp only at he
      cases h1 : rd f false 0 (c :: r) with
      | inl e => rw [h1] at he; simp at he
      | inr p =>
        obtain ⟨x, r1⟩ := p
        rw [h1] at he
        simp only at he
        cases h2 : top f r1 with
        | inl e => rw [h2] at he; simp at he
        | inr p2 =>
          obtain ⟨xs2, r2⟩ := p2
          rw [h2] at he
          simp at he
          obtain ⟨h3, h4⟩ := he
          subst h3
          intro t ht
          rcases List.mem_append.1 ht with ht | ht
          · exact rd_again f false 0 (c :: r) _ _ h1 t ht
          · exact top_mem f r1 _ _ h2 t ht

theorem top_newline (f : Nat) (l : List UInt8) : top f (10 :: l) = top f l := by
  cases f with
  | zero => rfl
  | succ f => rw [top, top]; rfl

theorem top_lines : ∀ (ts : List (List UInt8)), (∀ t, t ∈ ts → Reads 0 t ∧ Starts t) → ∀ F, 2 * (lines ts).length + 2 ≤ F → top F (lines ts) = .inr (ts, [])
  | [], _, F, hF => by
    obtain ⟨f, rfl⟩ : ∃ f, F = f + 1 := ⟨F - 1, by omega⟩
    rfl
  | t :: r, hy, F, hF => by
    obtain ⟨hr, c, q, hc, h1, h2, h3, h4⟩ := hy t (by simp)
    obtain ⟨f, rfl⟩ : ∃ f, F = f + 1 := ⟨F - 1, by omega⟩
    have hl : lines (t :: r) = t ++ 10 :: lines r := rfl
    rw [hl] at hF ⊢
    have hk : skip false (t ++ 10 :: lines r) = t ++ 10 :: lines r := by rw [hc, List.cons_append]; exact skip_stays c _ h1 h2 h3
    have hx := hr f (10 :: lines r) (by simp at hF ⊢; omega) (free_cons _ _ (by decide))
    have ih := top_lines r (fun t ht => hy t (by simp [ht])) f (by simp at hF ⊢; omega)
    rw [top, hk]
    have e : t ++ 10 :: lines r = c :: (q ++ 10 :: lines r) := by rw [hc, List.cons_append]
    rw [e] at hx ⊢
    simp only
    rw [hx]
    simp only
    rw [top_newline, ih]; rfl

/-- P5. -/
theorem parse_again (l : List UInt8) (hs : (parse l).1.length ≤ 1200) (ht : ∃ ts rr, top (2 * l.length + 2) l = .inr (ts, rr) ∧ (parse l).1 = lines ts) : parse (parse l).1 = ((parse l).1, 0, 0) := by
  obtain ⟨ts, rr, h1, h2⟩ := ht
  rw [h2] at hs ⊢
  unfold parse
  rw [if_neg (by omega), top_lines ts (top_mem _ _ _ _ h1) _ (Nat.le_refl _)]


theorem closed_code (t r : List UInt8) (c k : Nat) (h : closed t r = .inl (c, k)) : c ≠ 0 := by
  unfold closed at h
  cases r with
  | nil => simp at h
  | cons a b =>
    simp only at h
    split at h
    · simp at h
    · simp at h; omega

theorem rd_code : ∀ (f : Nat) (b : Bool) (d : Nat) (l : List UInt8) (c k : Nat), 2 * l.length + (if b then 2 else 1) ≤ f → rd f b d l = .inl (c, k) → c ≠ 0
  | 0, b, d, l, c, k, hf, he => by cases b <;> simp at hf
  | f + 1, true, d, l, c, k, hf, he => by
    have hs := (skip_suf l false).length_le
    unfold rd at he
    cases hk : skip false l with
    | nil => rw [hk] at he; simp at he; omega
    | cons a r =>
      rw [hk] at he hs
      simp only at he
      split at he
      · simp at he
      · cases h1 : rd f false d (a :: r) with
        | inl e =>
          obtain ⟨c', k'⟩ := e
          rw [h1] at he
          simp at he
          have := rd_code f false d (a :: r) c' k' (by simp at hf hs ⊢; omega) h1
          omega
        | inr p =>
          obtain ⟨x, r1⟩ := p
          rw [h1] at he
          simp only at he
          have hsh := (rd_short f false d (a :: r) _ _ h1).2.1
          cases h2 : rd f true d r1 with
          | inl e =>
            obtain ⟨c', k'⟩ := e
            rw [h2] at he
            simp at he
            have := rd_code f true d r1 c' k' (by simp at hf hs hsh ⊢; omega) h2
            omega
          | inr p2 =>
            obtain ⟨xs2, r2⟩ := p2
            rw [h2] at he
            simp at he
  | f + 1, false, d, l, c, k, hf, he => by
    have hs := (skip_suf l false).length_le
    unfold rd at he
    cases hk : skip false l with
    | nil => rw [hk] at he; simp at he; omega
    | cons a r =>
      rw [hk] at he hs
      have hs' : r.length + 1 ≤ l.length := by simpa using hs
      simp only at he
      split at he
      · split at he
        · simp at he; omega
        · cases h1 : rd f true (d + 1) r with
          | inl e =>
            obtain ⟨c', k'⟩ := e
            rw [h1] at he
            simp at he
            have := rd_code f true (d + 1) r c' k' (by simp at hf ⊢; omega) h1
            omega
          | inr p => rw [h1] at he; simp at he
      · split at he
        · split at he
          · simp at he; omega
          · cases h1 : rd f false (d + 1) r with
            | inl e =>
              obtain ⟨c', k'⟩ := e
              rw [h1] at he
              simp at he
              have := rd_code f false (d + 1) r c' k' (by simp at hf ⊢; omega) h1
              omega
            | inr p => rw [h1] at he; simp at he
        · split at he
          · unfold str at he
            cases hd : r.dropWhile strB with
            | nil => rw [hd] at he; simp at he; omega
            | cons c' r' =>
              rw [hd] at he
              simp only at he
              split at he
              · simp at he
              · simp at he; omega
          · split at he
            · cases r with
              | nil => simp [truth] at he; omega
              | cons c' r' =>
                unfold truth at he
                simp only at he
                split at he
                · exact closed_code _ _ _ _ he
                · split at he
                  · exact closed_code _ _ _ _ he
                  · simp at he; omega
            · split at he
              · unfold word wordOf at he
                split at he
                · split at he
                  · exact closed_code _ _ _ _ he
                  · simp at he; omega
                · split at he
                  · simp at he; omega
                  · exact closed_code _ _ _ _ he
              · simp at he; omega

theorem top_code : ∀ (f : Nat) (l : List UInt8) (c k : Nat), 2 * l.length + 2 ≤ f → top f l = .inl (c, k) → c ≠ 0
  | 0, l, c, k, hf, he => by omega
  | f + 1, l, c, k, hf, he => by
    have hs := (skip_suf l false).length_le
    unfold top at he
    cases hk : skip false l with
    | nil => rw [hk] at he; simp at he
    | cons a r =>
      rw [hk] at he hs
      simp only at he
      cases h1 : rd f false 0 (a :: r) with
      | inl e =>
        obtain ⟨c', k'⟩ := e
        rw [h1] at he
        simp at he
        have := rd_code f false 0 (a :: r) c' k' (by simp at hs ⊢; omega) h1
        omega
      | inr p =>
        obtain ⟨x, r1⟩ := p
        rw [h1] at he
        simp only at he
        have hsh := (rd_short f false 0 (a :: r) _ _ h1).2.1
        cases h2 : top f r1 with
        | inl e =>
          obtain ⟨c', k'⟩ := e
          rw [h2] at he
          simp at he
          have := top_code f r1 c' k' (by simp at hs hsh; omega) h2
          omega
        | inr p2 =>
          obtain ⟨xs2, r2⟩ := p2
          rw [h2] at he
          simp at he

/-- The three ends of Parse. -/
theorem parse_cases (l : List UInt8) : ((parse l).1 = [] ∧ (parse l).2.1 ≠ 0 ∧ (parse l).2.2 ≤ l.length) ∨ ((parse l).2 = (0, 0) ∧ ((parse l).1.length ≤ 1200 → parse (parse l).1 = ((parse l).1, 0, 0))) := by
  by_cases h : 1200 < l.length
  · left
    have e : parse l = ([], 1, 0) := by unfold parse; rw [if_pos h]
    rw [e]; exact ⟨rfl, by decide, Nat.zero_le _⟩
  · cases ht : top (2 * l.length + 2) l with
    | inl ck =>
      obtain ⟨c, k⟩ := ck
      left
      have e : parse l = ([], c, l.length - k) := by unfold parse; rw [if_neg h, ht]
      rw [e]; exact ⟨rfl, top_code _ _ _ _ (Nat.le_refl _) ht, Nat.sub_le _ _⟩
    | inr p =>
      obtain ⟨ts, rr⟩ := p
      right
      have e : parse l = (lines ts, 0, 0) := by unfold parse; rw [if_neg h, ht]
      refine ⟨by rw [e], fun hs => parse_again l hs ⟨ts, rr, ht, by rw [e]⟩⟩

theorem parse_fixed : parse [39, 97, 32, 59, 98] = ([40, 113, 117, 111, 116, 101, 32, 97, 41, 10], 0, 0) := by decide +kernel

end Px
end Go.Proofs.YtbgmenglfgodbaaDoor
