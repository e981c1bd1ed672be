/-
  OUR OWN. The walk of datum.Write.
-/
import Derived.Test.YtajndbikegongaaDoorWList
namespace Go.Proofs.YtajndbikegongaaDoor
open Go.RowKit

theorem formatInt_any (n : Int) (h0 : -9223372036854775808 ≤ n) (h1 : n ≤ 9223372036854775807) (w : World) (h : GT w) :
    Calls Tryd.prog 17 #[.int .i64 n, .int .i64 10] w fun e w' => e = .returned (.string ⟨(Lib.itoa n).toArray⟩) ∧ Below w.heap.size w w' := by
  refine (Tryd.strconv_FormatInt_10 n h0 h1 w h).mono ?_
  rintro e w' ⟨rfl, k, os, rfl⟩
  exact ⟨rfl, Lib.below_grow _ _ (Nat.le_refl _) _ _⟩

theorem join_len : ∀ ts : List (List UInt8), ts.length ≤ (Px.join ts).length + 1
  | [] => by simp
  | [u] => by simp
  | u :: v :: r => by
    have ih := join_len (v :: r)
    show (u :: v :: r).length ≤ (u ++ 32 :: Px.join (v :: r)).length + 1
    simp at ih ⊢; omega

set_option maxHeartbeats 1000000 in
theorem write_all (lo b : Nat) (w0 : World) : ∀ m, WriteSaid lo b w0 m := by
  intro m
  induction m with
  | zero => intro x t l w h; exact False.elim h
  | succ m ih =>
    intro x t l w h hB hl hb
    obtain ⟨xk, xn, xtr, xtx, xa, xlen, xcap⟩ := x
    have HB := Lib.hid hB
    have hblt := hB.lt
    have IH := Lib.hid ih
    clear hB ih
    rcases h with ⟨hk, ht, hn0, hn1⟩ | ⟨hk, ht⟩ | ⟨hk, ht⟩ | ⟨hk, ht⟩ | ⟨hk, es, ts, ht, hlen, hrow, hall⟩
    · obtain rfl : xk = 0 := hk
      have HT : Hid (t = Lib.itoa xn) := ht
      have hn0' : -9223372036854775808 ≤ xn := hn0
      have hn1' : xn ≤ 9223372036854775807 := hn1
      have HN := Lib.hid (And.intro hn0' hn1')
      have HL := Lib.hid hl
      clear ht hn0 hn1 hn0' hn1' hl
      go_enter Tryd.func8, Tryd.ntmps8
      go_wp2_with (first | (go_at_call 17; refine (formatInt_any xn HN.out.1 HN.out.2 _ (by exact (HB.out.alloc _).tab)).mono ?_; rintro e w1 ⟨rfl, h1⟩; have H1 := Lib.hid h1; have H2 := Lib.hid ((HB.out.alloc _).grown h1); clear h1) | (go_at_call 16; refine (string_w b w0 l _ _ H2.out (by have := HL.out; rw [HT.out] at this; simpa using this)).mono ?_; rintro e w2 ⟨rfl, h1, h2, h3⟩; have H3 := Lib.hid h1; have H4 := Lib.hid h2; clear h1 h2 h3))
      go_end0
      refine ⟨rfl, by rw [HT.out]; simpa using H3.out, ?_⟩
      exact (((Below.refl b w).alloc (Nat.le_of_lt hblt) _).trans (H1.out.mono (by simp; omega))).trans H4.out
    · obtain rfl : xk = 1 := hk
      have HT := Lib.hid ht
      have HL := Lib.hid hl
      clear ht hl
      go_enter Tryd.func8, Tryd.ntmps8
      go_wp2_with (go_at_call 18; refine (writeTruth_any b w0 l xtr _ (by exact HB.out.alloc _) (by have := HL.out; rw [HT.out] at this; cases xtr <;> simpa using this)).mono ?_; rintro e w2 ⟨rfl, h1, h2⟩; have H3 := Lib.hid h1; have H4 := Lib.hid h2; clear h1 h2)
      go_end0
      exact ⟨rfl, by rw [HT.out]; exact H3.out, ((Below.refl b w).alloc (Nat.le_of_lt hblt) _).trans H4.out⟩
    · obtain rfl : xk = 2 := hk
      have HT : Hid (t = 34 :: (xtx.data.toList ++ [34])) := ht
      have hl2 : l.length + xtx.data.toList.length + 2 ≤ 100000 := by rw [ht] at hl; simp at hl ⊢; omega
      clear ht hl
      go_enter Tryd.func8, Tryd.ntmps8
      go_wp2_with (go_at_call 9; refine (byte_any b w0 l 34 _ (by exact HB.out.alloc _) (by omega)).mono ?_; rintro e w2 ⟨rfl, h1, h2, h3⟩; refine Hid.out ?_)
      have H1 := Lib.hid h1
      have H2 := Lib.hid h2
      have hbx : w2.heap[w.heap.size]? = some (.cells #[.int .i64 2, .int .i64 xn, .bool xtr, .string xtx, .slice xa xlen xcap] 38 (0, 0)) := h3 _ _ (heap_alloc_new _ _) (by intro e; cases e; omega) (by intro c fz e; cases e)
      have d3 : w2.cell? ⟨w.heap.size, 3, none⟩ = some (.string xtx) := by simp [World.cell?, hbx]
      clear h1 h2 h3 hbx
      refine Lib.hid ?_
      go_wp2_with (go_at_call 16; refine (string_w b w0 _ _ _ H1.out (by simp at hl2 ⊢; omega)).mono ?_; rintro e w3 ⟨rfl, h1, h2, h3⟩; refine Hid.out ?_)
      have H3 := Lib.hid h1
      have H4 := Lib.hid h2
      clear h1 h2 h3
      refine Lib.hid ?_
      go_wp2_with (go_at_call 9; refine (byte_any b w0 _ 34 _ H3.out (by simp at hl2 ⊢; omega)).mono ?_; rintro e w4 ⟨rfl, h1, h2, h3⟩; have H5 := Lib.hid h1; have H6 := Lib.hid h2; clear h1 h2 h3)
      go_end0
      exact ⟨rfl, by rw [HT.out]; simpa using H5.out, ((((Below.refl b w).alloc (Nat.le_of_lt hblt) _).trans H2.out).trans H4.out).trans H6.out⟩
    · obtain rfl : xk = 3 := hk
      have HT : Hid (t = xtx.data.toList) := ht
      have HL := Lib.hid hl
      clear ht hl
      go_enter Tryd.func8, Tryd.ntmps8
      go_wp2_with (go_at_call 16; refine (string_w b w0 l _ _ (by exact HB.out.alloc _) (by have := HL.out; rw [HT.out] at this; exact this)).mono ?_; rintro e w2 ⟨rfl, h1, h2, h3⟩; have H3 := Lib.hid h1; have H4 := Lib.hid h2; clear h1 h2 h3)
      go_end0
      exact ⟨rfl, by rw [HT.out]; exact H3.out, ((Below.refl b w).alloc (Nat.le_of_lt hblt) _).trans H4.out⟩
    · obtain rfl : xk = 4 := hk
      have HT := Lib.hid ht
      have HRow := Lib.hid hrow
      have HAll := Lib.hid hall
      have HLen := Lib.hid hlen
      have HL := Lib.hid hl
      have hxl : xlen ≤ 100000 := by
        have h1 := hrow.len
        have h2 := join_len ts
        have h3 : (Px.paren ts).length = (Px.join ts).length + 2 := by simp [Px.paren]
        rw [ht] at hl
        simp at h1
        omega
      clear ht hrow hall hlen hl
      go_enter Tryd.func8, Tryd.ntmps8
      go_wp2_with (go_at_call 19; refine (writeList_any lo b w0 m IH.out xa xlen xcap es ts l _ HRow.out.owns HRow.out.len HLen.out HAll.out (by exact HB.out.alloc _) (by have := HL.out; rw [HT.out] at this; exact this) hb hxl).mono ?_; rintro e w2 ⟨rfl, h1, h2⟩; have H3 := Lib.hid h1; have H4 := Lib.hid h2; clear h1 h2)
      go_end0
      exact ⟨rfl, by rw [HT.out]; exact H3.out, ((Below.refl b w).alloc (Nat.le_of_lt hblt) _).trans H4.out⟩

end Go.Proofs.YtajndbikegongaaDoor
