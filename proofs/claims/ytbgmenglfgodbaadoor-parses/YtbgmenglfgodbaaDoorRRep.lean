/-
  OUR OWN. The document's datum in memory, told by its written text; what its reading functions answer.
-/
import Derived.Test.YtbgmenglfgodbaaDoorRDec
import Derived.Test.YtbgmenglfgodbaaDoorXt
import Derived.Test.YtbgmenglfgodbaaDoorList
namespace Go.Proofs.YtbgmenglfgodbaaDoor
open Go.RowKit

/-- The document's D. -/
structure Dn where
  k : Int
  n : Int
  S : ByteArray
  a : Option Addr
  len : Nat
  cap : Nat
  mrk : Int
  at' : Int

abbrev Dn.arr (x : Dn) : Array Value := #[.int .u8 x.k, .int .i64 x.n, .string x.S, .slice x.a x.len x.cap, .int .i64 x.mrk, .int .i64 x.at']
abbrev ptrV (g : Nat) : Value := .pointer (some ⟨g, 0, none⟩)
abbrev Dn.sl (x : Dn) : Value := .slice x.a x.len x.cap

def RepR (lo : Nat) (own : Nat → Prop) (w : World) : Nat → Nat → List UInt8 → Prop
  | 0, _, _ => False
  | m + 1, g, t => lo ≤ g ∧ ¬ own g ∧ ∃ x : Dn, w.heap[g]? = some (.cells x.arr 79 (0, 0)) ∧
    ((x.k = 110 ∧ t = Lib.itoa x.n ∧ -9223372036854775808 ≤ x.n ∧ x.n ≤ 9223372036854775807) ∨ (x.k = 98 ∧ t = if x.n = 1 then [35, 116] else [35, 102]) ∨ (x.k = 115 ∧ t = 34 :: (x.S.data.toList ++ [34])) ∨ (x.k = 121 ∧ t = x.S.data.toList) ∨
    (x.k = 108 ∧ ∃ (gs : List Nat) (ts : List (List UInt8)), t = Px.paren ts ∧ gs.length = ts.length ∧ gs.length = x.len ∧ w.ownsRow lo 56 1 x.sl x.len (gs.map ptrV) ∧ (∀ k, own k → x.sl.ownBlock ≠ some k) ∧
      ∀ (i : Nat) (h : Nat) (u : List UInt8), gs[i]? = some h → ts[i]? = some u → RepR lo own w m h u))

theorem own1_kept {w w' : World} {lo : Nat} {own : Nat → Prop} {row : Option Nat} {v : Value} {n : Nat} {xs : List Value} (h : w.ownsRow lo 56 1 v n xs) (hg : w.grownBy w' row) (hr : ∀ g, row = some g → g < lo ∨ own g) (hf : ∀ k, own k → v.ownBlock ≠ some k) : w'.ownsRow lo 56 1 v n xs := by
  refine h.kept hg ?_
  cases hv : v.ownBlock with
  | none => exact .inl rfl
  | some k =>
    right
    intro hk
    have h1 := h.lt k hv
    rcases hr k hk.symm with h2 | h2
    · omega
    · exact hf k h2 hv

theorem RepR.kept {lo : Nat} {own : Nat → Prop} {row : Option Nat} {w w' : World} (hg : w.grownBy w' row) (hr : ∀ g, row = some g → g < lo ∨ own g) :
    ∀ {m g : Nat} {t : List UInt8}, RepR lo own w m g t → RepR lo own w' m g t
  | 0, _, _, h => False.elim h
  | m + 1, g, t, h => by
    obtain ⟨h1, h2, x, hx, h⟩ := h
    refine ⟨h1, h2, x, ?_, ?_⟩
    · rw [hg.block g (Array.getElem?_eq_some_iff.1 hx).1 (by intro e; rcases hr g e.symm with h3 | h3 <;> first | omega | exact h2 h3)]; exact hx
    · rcases h with h | h | h | h | ⟨hk, gs, ts, ht, hl, hl2, hown, hf, hall⟩
      · exact .inl h
      · exact .inr (.inl h)
      · exact .inr (.inr (.inl h))
      · exact .inr (.inr (.inr (.inl h)))
      · exact .inr (.inr (.inr (.inr ⟨hk, gs, ts, ht, hl, hl2, own1_kept hown hg hr hf, hf, fun i y u e1 e2 => RepR.kept hg hr (hall i y u e1 e2)⟩)))

theorem RepR.turn {lo lo' : Nat} {own own' : Nat → Prop} {w : World} (hlo : lo' ≤ lo) (ho : ∀ g, own' g → own g ∨ w.heap.size ≤ g ∨ g < lo) :
    ∀ {m g : Nat} {t : List UInt8}, RepR lo own w m g t → RepR lo' own' w m g t
  | 0, _, _, h => False.elim h
  | m + 1, g, t, h => by
    obtain ⟨h1, h2, x, hx, h⟩ := h
    have hlt := (Array.getElem?_eq_some_iff.1 hx).1
    refine ⟨by omega, fun hb => ?_, x, hx, ?_⟩
    · rcases ho g hb with h3 | h3 | h3
      · exact h2 h3
      · omega
      · omega
    · rcases h with h | h | h | h | ⟨hk, gs, ts, ht, hl, hl2, hown, hf, hall⟩
      · exact .inl h
      · exact .inr (.inl h)
      · exact .inr (.inr (.inl h))
      · exact .inr (.inr (.inr (.inl h)))
      · refine .inr (.inr (.inr (.inr ⟨hk, gs, ts, ht, hl, hl2, ownsRow_lo hown hlo, fun k hb hv => ?_, fun i y u e1 e2 => RepR.turn hlo ho (hall i y u e1 e2)⟩)))
        have h4 := hown.lt k hv
        rcases ho k hb with h3 | h3 | h3
        · exact hf k h3 hv
        · omega
        · omega

/-- What the document's reading functions answer. -/
def ResR (b : Nat) (s : ByteArray) (d : Nat) (r : Px.R) (w : World) (e : Ending) (w' : World) : Prop :=
  ∃ g, e = .returned (ptrV g) ∧ w.heap.size ≤ g ∧ Only b w w' ∧
  match r with
  | .inl (c, k) => ∃ p', Rr b s p' c (s.size - k) w'
  | .inr (ts, rr) => ∃ t, ts = [t] ∧ RepR w.heap.size NoB w' (32 - d) g t ∧ Rr b s (s.size - rr.length) 0 0 w'

theorem ResR.bad {b : Nat} {s : ByteArray} {d c k p' g : Nat} {w w1 : World} {pl : Nat} (hg : w.heap.size ≤ g) (hO : Only b w w1) (hR : Rr b s p' c pl w1) (hpl : pl = s.size - k) : ResR b s d (.inl (c, k)) w (.returned (ptrV g)) w1 := by
  subst hpl
  exact ⟨g, rfl, hg, hO, p', hR⟩

/-- An atom in a new block. -/
theorem ResR.atom {b : Nat} {s : ByteArray} {d p g : Nat} {w w1 : World} {x : Dn} {t rr : List UInt8} (hd : d ≤ 30) (hg : g = w1.heap.size) (hO : Only b w w1) (hR : Rr b s p 0 0 w1) (hp : p = s.size - rr.length)
    (hx : (x.k = 110 ∧ t = Lib.itoa x.n ∧ -9223372036854775808 ≤ x.n ∧ x.n ≤ 9223372036854775807) ∨ (x.k = 98 ∧ t = if x.n = 1 then [35, 116] else [35, 102]) ∨ (x.k = 115 ∧ t = 34 :: (x.S.data.toList ++ [34])) ∨ (x.k = 121 ∧ t = x.S.data.toList)) :
    ResR b s d (.inr ([t], rr)) w (.returned (ptrV g)) (w1.alloc (.cells x.arr 79 (0, 0))) := by
  subst hp
  subst hg
  refine ⟨w1.heap.size, rfl, hO.size, hO.alloc _, t, rfl, ?_, hR.alloc _⟩
  rw [show 32 - d = (31 - d) + 1 from by omega]
  refine ⟨hO.size, fun h => h, x, heap_alloc_new _ _, ?_⟩
  rcases hx with h | h | h | h
  · exact .inl h
  · exact .inr (.inl h)
  · exact .inr (.inr (.inl h))
  · exact .inr (.inr (.inr (.inl h)))

set_option maxHeartbeats 1000000 in
theorem str_ref (b : Nat) (s : ByteArray) (p d : Nat) (w : World) (h : Rr b s p 0 0 w) (hp : p < s.size) (hs : s.size ≤ 1200) (hd30 : d ≤ 30) :
    Calls Tryd.prog 40 #[.pointer (some ⟨b, 0, none⟩)] w fun e w' => ResR b s d (Px.str (L s (p + 1))) w e w' := by
  have h0 := h.c0
  have h1 := h.c1
  have hf := h.fz 1
  have hb := h.lt
  have HR := Lib.hid h
  clear h
  go_enter Tryd.func40, Tryd.ntmps40
  go_wp2
  go_loop [4] (fun i => ∃ q, i = .int .i64 (q : Nat) ∧ Scan Px.strB s (p + 1) q) (fun i => s.size - (intOf i).toNat)
  case atStart => exact ⟨p + 1, by go_num, Scan.refl _ _ _ (by omega)⟩
  case round =>
    obtain ⟨q, rfl, hS⟩ := hrel
    have hq := hS.lim
    have hpq := hS.le
    have HS := Lib.hid hS
    clear hS
    by_cases hlt : q < s.size
    · cases cq : ((s[q].toNat : Int) == 34)
      · cases hc : Px.strB s[q]
        · have HT := Lib.hid (Xt.str_bad HS.out hlt hc cq)
          have hbad : s[q].toNat < 32 ∨ 126 < s[q].toNat ∨ s[q].toNat = 92 := by
            unfold Px.strB at hc; rw [decide_eq_false_iff_not] at hc
            have := beq_eq_false_iff_ne.1 cq; omega
          rcases hbad with hb1 | hb1 | hb1
          all_goals
            go_wp2_with (go_at_call 38; refine (bad_any b s p 2 q _ HR.out).mono ?_; rintro e w1 ⟨⟨g, rfl, hg⟩, h3, h4⟩; have H3 := Lib.hid h3; have H4 := Lib.hid h4; clear h3 h4)
            go_ret
            rw [HT.out]
            exact ResR.bad hg H4.out H3.out (by omega)
        · have hr : 32 ≤ s[q].toNat ∧ s[q].toNat ≤ 126 ∧ s[q].toNat ≠ 34 ∧ s[q].toNat ≠ 92 := by simpa [Px.strB] using hc
          obtain ⟨hr1, hr2, hr3, hr4⟩ := hr
          have h92 : ((s[q].toNat : Int) == 92) = false := by rw [beq_eq_false_iff_ne]; omega
          go_wp2
          refine ⟨⟨q + 1, by go_num, HS.out.next hlt hc⟩, by simp [intOf]; omega⟩
      · have HT := Lib.hid (Xt.str_quote HS.out hlt cq)
        go_wp2
        go_ret
        rw [HT.out]
        exact ResR.atom (x := ⟨115, 0, s.extract (p + 1) q, none, 0, 0, 0, p⟩) (w1 := w.setCell ⟨b, 1, none⟩ (.int .i64 ((q : Int) + 1))) hd30 (by simp) ((Only.refl b w).set _ _) (HR.out.set1 (q + 1) _ (by omega)) (by rw [L_len]; omega) (.inr (.inr (.inl ⟨rfl, rfl⟩)))
    · have HT := Lib.hid (Xt.str_end HS.out (by omega))
      go_wp2_with (go_at_call 38; refine (bad_any b s p 3 s.size _ HR.out).mono ?_; rintro e w1 ⟨⟨g, rfl, hg⟩, h3, h4⟩; have H3 := Lib.hid h3; have H4 := Lib.hid h4; clear h3 h4)
      go_ret
      rw [HT.out]
      exact ResR.bad hg H4.out H3.out (by omega)

end Go.Proofs.YtbgmenglfgodbaaDoor
