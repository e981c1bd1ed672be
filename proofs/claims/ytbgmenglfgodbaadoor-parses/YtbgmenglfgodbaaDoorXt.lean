/-
  OUR OWN. Laws of the reading into what is written, at a text's places (as the trees' own).
-/
import Derived.Test.YtbgmenglfgodbaaDoorPlain
import Derived.Test.YtbgmenglfgodbaaDoorWord
import Derived.Test.YtbgmenglfgodbaaDoorAgain
namespace Go.Proofs.YtbgmenglfgodbaaDoor
namespace Xt
open Go.RowKit

theorem closedL_ok (s : ByteArray) (q : Nat) (t : List UInt8) (h : ∀ hlt : q < s.size, Px.endB s[q] = true) : Px.closed t (L s q) = .inr ([t], L s q) := by
  by_cases hlt : q < s.size
  · rw [L_lt s q hlt]; simp [Px.closed, h hlt]
  · rw [L_end s q (by omega)]; rfl
theorem closedL_bad (s : ByteArray) (q : Nat) (t : List UInt8) (hlt : q < s.size) (h : Px.endB s[q] = false) : Px.closed t (L s q) = .inl (2, s.size - q) := by
  rw [L_lt s q hlt]; simp [Px.closed, h, L_len]; omega
theorem truth_end (s : ByteArray) (p : Nat) (h : p + 1 = s.size) : Px.truth (L s (p + 1)) = .inl (2, s.size - p) := by
  rw [L_end s (p + 1) (by omega)]; simp [Px.truth]; omega
theorem truth_t (s : ByteArray) (p : Nat) (h : p + 1 < s.size) (hc : ((s[p + 1].toNat : Int) == 116) = true) : Px.truth (L s (p + 1)) = Px.closed [35, 116] (L s (p + 2)) := by
  have := beq_iff_eq.1 hc
  rw [L_lt s (p + 1) h, Px.truth, if_pos (by omega)]
theorem truth_f (s : ByteArray) (p : Nat) (h : p + 1 < s.size) (hn : ((s[p + 1].toNat : Int) == 116) = false) (hc : ((s[p + 1].toNat : Int) == 102) = true) : Px.truth (L s (p + 1)) = Px.closed [35, 102] (L s (p + 2)) := by
  have := beq_iff_eq.1 hc
  have := beq_eq_false_iff_ne.1 hn
  rw [L_lt s (p + 1) h, Px.truth, if_neg (by omega), if_pos (by omega)]
theorem truth_no (s : ByteArray) (p : Nat) (h : p + 1 < s.size) (hn : ((s[p + 1].toNat : Int) == 116) = false) (hc : ((s[p + 1].toNat : Int) == 102) = false) : Px.truth (L s (p + 1)) = .inl (2, s.size - p) := by
  have := beq_eq_false_iff_ne.1 hc
  have := beq_eq_false_iff_ne.1 hn
  rw [L_lt s (p + 1) h, Px.truth, if_neg (by omega), if_neg (by omega), L_len]; congr 2; omega
theorem str_end {s : ByteArray} {a q : Nat} (h : Scan Px.strB s a q) (e : q = s.size) : Px.str (L s a) = .inl (3, 0) := by
  have f := h.fin (fun h' => by omega)
  unfold Px.str; rw [f.2, L_end s q (by omega)]
theorem str_quote {s : ByteArray} {a q : Nat} (h : Scan Px.strB s a q) (hl : q < s.size) (hc : ((s[q].toNat : Int) == 34) = true) : Px.str (L s a) = .inr ([34 :: ((s.extract a q).data.toList ++ [34])], L s (q + 1)) := by
  have e : s[q].toNat = 34 := by have := beq_iff_eq.1 hc; omega
  have f := h.fin (fun h' => by unfold Px.strB; simp [e])
  unfold Px.str; rw [f.1, f.2, L_lt s q hl]; simp [e]
theorem str_bad {s : ByteArray} {a q : Nat} (h : Scan Px.strB s a q) (hl : q < s.size) (hb : Px.strB s[q] = false) (hc : ((s[q].toNat : Int) == 34) = false) : Px.str (L s a) = .inl (2, s.size - q) := by
  have e : s[q].toNat ≠ 34 := by have := beq_eq_false_iff_ne.1 hc; omega
  have f := h.fin (fun h' => hb)
  unfold Px.str; rw [f.2, L_lt s q hl]; simp [e, L_len]; omega
theorem word_L {s : ByteArray} {p q : Nat} (h : Scan Px.wordB s p q) (hq : ∀ h : q < s.size, Px.wordB s[q] = false) : Px.word (L s p) = Px.wordOf (s.extract p q).data.toList (L s q) := by
  unfold Px.word; rw [(h.fin hq).1, (h.fin hq).2]
def quoteR (r : Px.R) : Px.R := match r with
  | .inl e => .inl e
  | .inr (xs, rr) => .inr ([Px.paren (Px.quoteT :: xs)], rr)
def listR (r : Px.R) : Px.R := match r with
  | .inl e => .inl e
  | .inr (xs, rr) => .inr ([Px.paren xs], rr)
theorem rdF_end (f d : Nat) (s : ByteArray) (p q : Nat) (hk : Px.skip false (L s p) = L s q) (h : s.size ≤ q) : Px.rd (f + 1) false d (L s p) = .inl (3, 0) := by
  rw [Px.rd, hk, L_end s q h]
theorem rdF_list (f d : Nat) (s : ByteArray) (p q : Nat) (hk : Px.skip false (L s p) = L s q) (h : q < s.size) (hc : s[q].toNat = 40) (hd : d ≠ 30) : Px.rd (f + 1) false d (L s p) = listR (Px.rd f true (d + 1) (L s (q + 1))) := by
  rw [Px.rd, hk, L_lt s q h]; simp only; rw [if_pos hc, if_neg hd]
  rcases Px.rd f true (d + 1) (L s (q + 1)) with e | ⟨xs, rr⟩ <;> rfl
theorem rdF_deep (f d : Nat) (s : ByteArray) (p q : Nat) (hk : Px.skip false (L s p) = L s q) (h : q < s.size) (hc : s[q].toNat = 40 ∨ s[q].toNat = 39) (hd : d = 30) : Px.rd (f + 1) false d (L s p) = .inl (4, s.size - q) := by
  rw [Px.rd, hk, L_lt s q h]; simp only
  have e : (L s (q + 1)).length + 1 = s.size - q := by rw [L_len]; omega
  rcases hc with hc | hc
  · rw [if_pos hc, if_pos hd, e]
  · rw [if_neg (by omega), if_pos hc, if_pos hd, e]
theorem rdF_quote (f d : Nat) (s : ByteArray) (p q : Nat) (hk : Px.skip false (L s p) = L s q) (h : q < s.size) (hc : s[q].toNat = 39) (hd : d ≠ 30) : Px.rd (f + 1) false d (L s p) = quoteR (Px.rd f false (d + 1) (L s (q + 1))) := by
  rw [Px.rd, hk, L_lt s q h]; simp only; rw [if_neg (by omega), if_pos hc, if_neg hd]
  rcases Px.rd f false (d + 1) (L s (q + 1)) with e | ⟨xs, rr⟩ <;> rfl
theorem rdF_str (f d : Nat) (s : ByteArray) (p q : Nat) (hk : Px.skip false (L s p) = L s q) (h : q < s.size) (hc : s[q].toNat = 34) : Px.rd (f + 1) false d (L s p) = Px.str (L s (q + 1)) := by
  rw [Px.rd, hk, L_lt s q h]; simp only; rw [if_neg (by omega), if_neg (by omega), if_pos hc]
theorem rdF_truth (f d : Nat) (s : ByteArray) (p q : Nat) (hk : Px.skip false (L s p) = L s q) (h : q < s.size) (hc : s[q].toNat = 35) : Px.rd (f + 1) false d (L s p) = Px.truth (L s (q + 1)) := by
  rw [Px.rd, hk, L_lt s q h]; simp only; rw [if_neg (by omega), if_neg (by omega), if_neg (by omega), if_pos hc]
theorem rdF_word (f d : Nat) (s : ByteArray) (p q : Nat) (hk : Px.skip false (L s p) = L s q) (h : q < s.size) (h1 : s[q].toNat ≠ 40) (h2 : s[q].toNat ≠ 39) (h3 : s[q].toNat ≠ 34) (h4 : s[q].toNat ≠ 35) (hw : Px.wordB s[q] = true) : Px.rd (f + 1) false d (L s p) = Px.word (L s q) := by
  rw [Px.rd, hk, L_lt s q h]; simp only; rw [if_neg h1, if_neg h2, if_neg h3, if_neg h4, if_pos hw]
theorem rdF_bad (f d : Nat) (s : ByteArray) (p q : Nat) (hk : Px.skip false (L s p) = L s q) (h : q < s.size) (h1 : s[q].toNat ≠ 40) (h2 : s[q].toNat ≠ 39) (h3 : s[q].toNat ≠ 34) (h4 : s[q].toNat ≠ 35) (hw : Px.wordB s[q] = false) : Px.rd (f + 1) false d (L s p) = .inl (2, s.size - q) := by
  rw [Px.rd, hk, L_lt s q h]; simp only; rw [if_neg h1, if_neg h2, if_neg h3, if_neg h4, if_neg (by simp [hw])]
  have e : (L s (q + 1)).length + 1 = s.size - q := by rw [L_len]; omega
  rw [e]
theorem top_end (f : Nat) (l : List UInt8) (h : l = []) : Px.top (f + 1) l = .inr ([], []) := by subst h; rfl
theorem top_bad (f : Nat) (l : List UInt8) (hk : Px.skip false l = l) (hne : l ≠ []) (e : Nat × Nat) (h : Px.rd f false 0 l = .inl e) : Px.top (f + 1) l = .inl e := by
  rw [Px.top, hk]
  cases l with
  | nil => exact absurd rfl hne
  | cons c r => simp only; rw [h]
theorem top_skip (f : Nat) (l : List UInt8) : Px.top f (Px.skip false l) = Px.top f l := by
  cases f with
  | zero => rfl
  | succ f => rw [Px.top, Px.top, Px.skip_idem]
theorem top_more (f : Nat) (l : List UInt8) (hk : Px.skip false l = l) (hne : l ≠ []) (x : List (List UInt8)) (r1 : List UInt8) (h : Px.rd f false 0 l = .inr (x, r1)) : Px.top (f + 1) l = Px.pre x (Px.top f (Px.skip false r1)) := by
  rw [top_skip, Px.top, hk]
  cases l with
  | nil => exact absurd rfl hne
  | cons c r =>
    simp only; rw [h]; simp only
    rcases Px.top f r1 with e | ⟨xs, rr⟩ <;> rfl
theorem parse_err (s : ByteArray) (h : s.size ≤ 1200) (c k : Nat) (ht : Px.top (2 * s.size + 2) (L s 0) = .inl (c, k)) : Px.parse s.data.toList = ([], c, s.size - k) := by
  have e : s.data.toList.length = s.size := by simp
  unfold Px.parse; rw [if_neg (by rw [e]; omega), e]
  have : L s 0 = s.data.toList := rfl
  rw [this] at ht; rw [ht]
theorem parse_ok (s : ByteArray) (h : s.size ≤ 1200) (ts : List (List UInt8)) (rr : List UInt8) (ht : Px.top (2 * s.size + 2) (L s 0) = .inr (ts, rr)) : Px.parse s.data.toList = (Px.lines ts, 0, 0) := by
  have e : s.data.toList.length = s.size := by simp
  unfold Px.parse; rw [if_neg (by rw [e]; omega), e]
  have : L s 0 = s.data.toList := rfl
  rw [this] at ht; rw [ht]

end Xt

theorem join_snoc : ∀ (a : List (List UInt8)) (t : List UInt8), Px.join (a ++ [t]) = Px.join a ++ ((if a = [] then [] else [32]) ++ t)
  | [], t => by simp [Px.join]
  | [u], t => by simp [Px.join]
  | u :: v :: r, t => by
    have ih := join_snoc (v :: r) t
    show u ++ 32 :: Px.join (v :: r ++ [t]) = (u ++ 32 :: Px.join (v :: r)) ++ _
    rw [ih]; simp

theorem join_take (ts : List (List UInt8)) (k : Nat) (h : k < ts.length) : Px.join (ts.take (k + 1)) = Px.join (ts.take k) ++ ((if k = 0 then [] else [32]) ++ ts[k]) := by
  rw [List.take_succ_eq_append_getElem h, join_snoc]
  congr 2
  by_cases hk : k = 0
  · subst hk; simp
  · rw [if_neg hk, if_neg]
    intro e
    have := congrArg List.length e
    rw [List.length_take, List.length_nil] at this; omega

theorem join_take_le' (ts : List (List UInt8)) : ∀ n k : Nat, k + n = ts.length → (Px.join (ts.take k)).length ≤ (Px.join ts).length
  | 0, k, h => by rw [List.take_of_length_le (by omega)]; exact Nat.le_refl _
  | n + 1, k, h => by
    have ih := join_take_le' ts n (k + 1) (by omega)
    rw [join_take ts k (by omega)] at ih
    simp at ih; omega
theorem join_take_le (ts : List (List UInt8)) (k : Nat) (h : k ≤ ts.length) : (Px.join (ts.take k)).length ≤ (Px.join ts).length := join_take_le' ts (ts.length - k) k (by omega)


end Go.Proofs.YtbgmenglfgodbaaDoor
