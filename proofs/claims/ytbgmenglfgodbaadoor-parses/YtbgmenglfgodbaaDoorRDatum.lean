/-
  OUR OWN. The walk of the document's own datum; the recursion shut.
-/
import Derived.Test.YtbgmenglfgodbaaDoorRList
import Derived.Test.YtbgmenglfgodbaaDoorDatum
namespace Go.Proofs.YtbgmenglfgodbaaDoor
open Go.RowKit

theorem ResR.trans {b : Nat} {s : ByteArray} {d : Nat} {r : Px.R} {w w1 : World} {e : Ending} {w' : World} (h : ResR b s d r w1 e w') (hO : Only b w w1) : ResR b s d r w e w' := by
  obtain ⟨g, he, hg, hO1, hr⟩ := h
  refine ⟨g, he, Nat.le_trans hO.size hg, hO.trans hO1, ?_⟩
  rcases r with ⟨c, k⟩ | ⟨ts, rr⟩
  · exact hr
  · obtain ⟨t, ht, hrep, hR⟩ := hr
    exact ⟨t, ht, RepR.turn hO.size (fun _ h => False.elim h) hrep, hR⟩

theorem ResR.ptr {b : Nat} {s : ByteArray} {d : Nat} {r : Px.R} {w : World} {e : Ending} {w' : World} (h : ResR b s d r w e w') : ∃ g, e = .returned (ptrV g) := by
  obtain ⟨g, he, _⟩ := h; exact ⟨g, he⟩

/-- The list of quote and x, laid behind x. -/
theorem ResR.quote {b : Nat} {s : ByteArray} {d g1 p : Nat} {fr : Int} {w w1 w2 : World} {t rr : List UInt8} (hd : d < 30) (hO : Only b w w1) (hO2 : Only b w1 w2) (hrep : RepR w1.heap.size NoB w2 (31 - d) g1 t) (hR : Rr b s p 0 0 w2) (hp : p = s.size - rr.length) :
    ResR b s d (.inr ([Px.paren (Px.quoteT :: [t])], rr)) w (.returned (ptrV (w2.heap.size + 1 + 1)))
      (((w2.alloc (.cells #[.int .u8 121, .int .i64 0, .string ⟨#[113, 117, 111, 116, 101]⟩, .slice none 0 0, .int .i64 0, .int .i64 fr] 79 (0, 0))).alloc (.cells #[ptrV w2.heap.size, ptrV g1] 56 (0, 0))).alloc (.cells #[.int .u8 108, .int .i64 0, .string ⟨#[]⟩, .slice (some ⟨w2.heap.size + 1, 0, none⟩) 2 2, .int .i64 0, .int .i64 fr] 79 (0, 0))) := by
  subst hp
  have hz := hO.size
  have hz2 := hO2.size
  obtain ⟨A, hA⟩ : ∃ A, A = Obj.cells #[.int .u8 121, .int .i64 0, .string ⟨#[113, 117, 111, 116, 101]⟩, .slice none 0 0, .int .i64 0, .int .i64 fr] 79 (0, 0) := ⟨_, rfl⟩
  obtain ⟨B, hB⟩ : ∃ B, B = Obj.cells #[ptrV w2.heap.size, ptrV g1] 56 (0, 0) := ⟨_, rfl⟩
  obtain ⟨C, hC⟩ : ∃ C, C = Obj.cells #[.int .u8 108, .int .i64 0, .string ⟨#[]⟩, .slice (some ⟨w2.heap.size + 1, 0, none⟩) 2 2, .int .i64 0, .int .i64 fr] 79 (0, 0) := ⟨_, rfl⟩
  rw [← hA, ← hB, ← hC]
  have gA := World.grownBy_alloc w2 A none
  have gB := World.grownBy_alloc (w2.alloc A) B none
  have gC := World.grownBy_alloc ((w2.alloc A).alloc B) C none
  have eA : (((w2.alloc A).alloc B).alloc C).heap[w2.heap.size]? = some A := by
    rw [Below.heap_alloc _ _ _ (by simp; omega), Below.heap_alloc _ _ _ (by simp)]; exact heap_alloc_new _ _
  have eB : (((w2.alloc A).alloc B).alloc C).heap[w2.heap.size + 1]? = some B := by
    rw [Below.heap_alloc _ _ _ (by simp)]; exact new2 _ _ _
  have eC : (((w2.alloc A).alloc B).alloc C).heap[w2.heap.size + 1 + 1]? = some C := by
    have := heap_alloc_new ((w2.alloc A).alloc B) C
    rwa [show ((w2.alloc A).alloc B).heap.size = w2.heap.size + 1 + 1 from by simp] at this
  refine ⟨_, rfl, by omega, (((hO.trans hO2).alloc _).alloc _).alloc _, _, rfl, ?_, ((hR.alloc _).alloc _).alloc _⟩
  have hx : RepR w.heap.size NoB (((w2.alloc A).alloc B).alloc C) (31 - d) g1 t := RepR.turn (by omega) (fun _ h => False.elim h) (RepR.kept gC (fun g h => by cases h) (RepR.kept gB (fun g h => by cases h) (RepR.kept gA (fun g h => by cases h) hrep)))
  generalize ((w2.alloc A).alloc B).alloc C = W at *
  rw [show 32 - d = (31 - d) + 1 from by omega]
  subst hA hB hC
  refine ⟨by omega, fun h => h, ⟨108, 0, ⟨#[]⟩, some ⟨w2.heap.size + 1, 0, none⟩, 2, 2, 0, fr⟩, eC, .inr (.inr (.inr (.inr ⟨rfl, [w2.heap.size, g1], [Px.quoteT, t], rfl, rfl, rfl, ⟨rfl, .inr ⟨w2.heap.size + 1, 2, _, rfl, by omega, eB, Nat.le_refl _, by decide, rfl, rfl⟩⟩, fun k h => False.elim h, ?_⟩)))⟩
  intro i y u h1 h2
  match i, h1, h2 with
  | 0, h1, h2 =>
    simp at h1 h2; subst h1; subst h2
    rw [show 31 - d = (30 - d) + 1 from by omega]
    exact ⟨by omega, fun h => h, ⟨121, 0, ⟨#[113, 117, 111, 116, 101]⟩, none, 0, 0, 0, fr⟩, eA, .inr (.inr (.inr (.inl ⟨rfl, rfl⟩)))⟩
  | 1, h1, h2 => simp at h1 h2; subst h1; subst h2; exact hx
  | i + 2, h1, h2 => simp at h1

set_option maxHeartbeats 800000 in
theorem rdat_deep40 (b : Nat) (s : ByteArray) (p d : Nat) (w : World) (h : Rr b s p 0 0 w) (hp : p < s.size) (hd : 30 ≤ d) (hdd : d ≤ 30)
    (c40 : ((s[p].toNat : Int) == 40) = true) :
    Calls Tryd.prog 22 #[.pointer (some ⟨b, 0, none⟩), .int .i64 (d : Int)] w fun e w' => ResR b s d (.inl (4, s.size - p)) w e w' := by
  have h0 := h.c0
  have h1 := h.c1
  have hf := h.fz 1
  have hb := h.lt
  have HR := Lib.hid h
  clear h
  have hge : decide ((d : Int) ≥ 30) = true := by simp; omega
  go_enter Tryd.func22, Tryd.ntmps22
  go_wp2_with (first | (go_at_call 37; refine (letter_any _ _).mono ?_; rintro e w' ⟨rfl, hww⟩; obtain rfl := hww.symm) | (go_at_call 38; refine (bad_any b s p 4 p _ HR.out).mono ?_; rintro e w1 ⟨⟨g, rfl, hg⟩, h3, h4⟩; have H3 := Lib.hid h3; have H4 := Lib.hid h4; have HG9 := Lib.hid hg; clear h3 h4 hg))
  go_ret
  exact ResR.bad HG9.out H4.out H3.out (by omega)

set_option maxHeartbeats 800000 in
theorem rdat_deep39 (b : Nat) (s : ByteArray) (p d : Nat) (w : World) (h : Rr b s p 0 0 w) (hp : p < s.size) (hd : 30 ≤ d) (hdd : d ≤ 30)
    (c40 : ((s[p].toNat : Int) == 40) = false) (c39 : ((s[p].toNat : Int) == 39) = true) :
    Calls Tryd.prog 22 #[.pointer (some ⟨b, 0, none⟩), .int .i64 (d : Int)] w fun e w' => ResR b s d (.inl (4, s.size - p)) w e w' := by
  have h0 := h.c0
  have h1 := h.c1
  have hf := h.fz 1
  have hb := h.lt
  have HR := Lib.hid h
  clear h
  have hge : decide ((d : Int) ≥ 30) = true := by simp; omega
  go_enter Tryd.func22, Tryd.ntmps22
  go_wp2_with (first | (go_at_call 37; refine (letter_any _ _).mono ?_; rintro e w' ⟨rfl, hww⟩; obtain rfl := hww.symm) | (go_at_call 38; refine (bad_any b s p 4 p _ HR.out).mono ?_; rintro e w1 ⟨⟨g, rfl, hg⟩, h3, h4⟩; have H3 := Lib.hid h3; have H4 := Lib.hid h4; have HG9 := Lib.hid hg; clear h3 h4 hg))
  go_ret
  exact ResR.bad HG9.out H4.out H3.out (by omega)

set_option maxHeartbeats 800000 in
theorem rdat_bad (b : Nat) (s : ByteArray) (p d : Nat) (w : World) (h : Rr b s p 0 0 w) (hp : p < s.size)
    (c40 : ((s[p].toNat : Int) == 40) = false) (c39 : ((s[p].toNat : Int) == 39) = false) (c34 : ((s[p].toNat : Int) == 34) = false) (c35 : ((s[p].toNat : Int) == 35) = false) (hw : Px.wordB s[p] = false) :
    Calls Tryd.prog 22 #[.pointer (some ⟨b, 0, none⟩), .int .i64 (d : Int)] w fun e w' => ResR b s d (.inl (2, s.size - p)) w e w' := by
  have h0 := h.c0
  have h1 := h.c1
  have hf := h.fz 1
  have hb := h.lt
  have HR := Lib.hid h
  clear h
  go_enter Tryd.func22, Tryd.ntmps22
  go_wp2_with (first | (go_at_call 37; refine (letter_any _ _).mono ?_; rintro e w' ⟨rfl, hww⟩; obtain rfl := hww.symm) | (go_at_call 38; refine (bad_any b s p 2 p _ HR.out).mono ?_; rintro e w1 ⟨⟨g, rfl, hg⟩, h3, h4⟩; have H3 := Lib.hid h3; have H4 := Lib.hid h4; have HG9 := Lib.hid hg; clear h3 h4 hg))
  go_ret
  exact ResR.bad HG9.out H4.out H3.out (by omega)

set_option maxHeartbeats 800000 in
theorem rdat_paren (b : Nat) (s : ByteArray) (p d : Nat) (r : Px.R) (w : World) (h : Rr b s p 0 0 w) (hp : p < s.size) (hs : s.size ≤ 1200) (hd : d < 30)
    (c40 : ((s[p].toNat : Int) == 40) = true)
    (hC : ∀ w, Rr b s (p + 1) 0 0 w → Calls Tryd.prog 39 #[.pointer (some ⟨b, 0, none⟩), .int .i64 (p : Int), .int .i64 (d : Int)] w fun e w' => ResR b s d r w e w') :
    Calls Tryd.prog 22 #[.pointer (some ⟨b, 0, none⟩), .int .i64 (d : Int)] w fun e w' => ResR b s d r w e w' := by
  have h0 := h.c0
  have h1 := h.c1
  have hf := h.fz 1
  have hb := h.lt
  have HR := Lib.hid h
  clear h
  have HC := Lib.hid hC
  clear hC
  have hge : decide ((d : Int) ≥ 30) = false := by simp; omega
  go_enter Tryd.func22, Tryd.ntmps22
  go_wp2_with (first | (go_at_call 37; refine (letter_any _ _).mono ?_; rintro e w' ⟨rfl, hww⟩; obtain rfl := hww.symm) | (go_at_call 39; refine (HC.out _ (HR.out.set1 (p + 1) _ (by omega))).mono ?_; rintro e w1 hres; obtain ⟨g, rfl⟩ := hres.ptr; have H1 := Lib.hid hres; clear hres))
  go_ret
  exact H1.out.trans ((Only.refl b w).set _ _)

set_option maxHeartbeats 800000 in
theorem rdat_str (b : Nat) (s : ByteArray) (p d : Nat) (r : Px.R) (w : World) (h : Rr b s p 0 0 w) (hp : p < s.size)
    (c40 : ((s[p].toNat : Int) == 40) = false) (c39 : ((s[p].toNat : Int) == 39) = false) (c34 : ((s[p].toNat : Int) == 34) = true)
    (hC : ∀ w, Rr b s p 0 0 w → Calls Tryd.prog 40 #[.pointer (some ⟨b, 0, none⟩)] w fun e w' => ResR b s d r w e w') :
    Calls Tryd.prog 22 #[.pointer (some ⟨b, 0, none⟩), .int .i64 (d : Int)] w fun e w' => ResR b s d r w e w' := by
  have h0 := h.c0
  have h1 := h.c1
  have hf := h.fz 1
  have hb := h.lt
  have HR := Lib.hid h
  clear h
  have HC := Lib.hid hC
  clear hC
  skip
  go_enter Tryd.func22, Tryd.ntmps22
  go_wp2_with (first | (go_at_call 37; refine (letter_any _ _).mono ?_; rintro e w' ⟨rfl, hww⟩; obtain rfl := hww.symm) | (go_at_call 40; refine (HC.out _ HR.out).mono ?_; rintro e w1 hres; obtain ⟨g, rfl⟩ := hres.ptr; have H1 := Lib.hid hres; clear hres))
  go_ret
  exact H1.out

set_option maxHeartbeats 800000 in
theorem rdat_truth (b : Nat) (s : ByteArray) (p d : Nat) (r : Px.R) (w : World) (h : Rr b s p 0 0 w) (hp : p < s.size)
    (c40 : ((s[p].toNat : Int) == 40) = false) (c39 : ((s[p].toNat : Int) == 39) = false) (c34 : ((s[p].toNat : Int) == 34) = false) (c35 : ((s[p].toNat : Int) == 35) = true)
    (hC : ∀ w, Rr b s p 0 0 w → Calls Tryd.prog 41 #[.pointer (some ⟨b, 0, none⟩)] w fun e w' => ResR b s d r w e w') :
    Calls Tryd.prog 22 #[.pointer (some ⟨b, 0, none⟩), .int .i64 (d : Int)] w fun e w' => ResR b s d r w e w' := by
  have h0 := h.c0
  have h1 := h.c1
  have hf := h.fz 1
  have hb := h.lt
  have HR := Lib.hid h
  clear h
  have HC := Lib.hid hC
  clear hC
  skip
  go_enter Tryd.func22, Tryd.ntmps22
  go_wp2_with (first | (go_at_call 37; refine (letter_any _ _).mono ?_; rintro e w' ⟨rfl, hww⟩; obtain rfl := hww.symm) | (go_at_call 41; refine (HC.out _ HR.out).mono ?_; rintro e w1 hres; obtain ⟨g, rfl⟩ := hres.ptr; have H1 := Lib.hid hres; clear hres))
  go_ret
  exact H1.out

set_option maxHeartbeats 800000 in
theorem rdat_word (b : Nat) (s : ByteArray) (p d : Nat) (r : Px.R) (w : World) (h : Rr b s p 0 0 w) (hp : p < s.size)
    (c40 : ((s[p].toNat : Int) == 40) = false) (c39 : ((s[p].toNat : Int) == 39) = false) (c34 : ((s[p].toNat : Int) == 34) = false) (c35 : ((s[p].toNat : Int) == 35) = false) (hw : Px.wordB s[p] = true)
    (hC : ∀ w, Rr b s p 0 0 w → Calls Tryd.prog 42 #[.pointer (some ⟨b, 0, none⟩)] w fun e w' => ResR b s d r w e w') :
    Calls Tryd.prog 22 #[.pointer (some ⟨b, 0, none⟩), .int .i64 (d : Int)] w fun e w' => ResR b s d r w e w' := by
  have h0 := h.c0
  have h1 := h.c1
  have hf := h.fz 1
  have hb := h.lt
  have HR := Lib.hid h
  clear h
  have HC := Lib.hid hC
  clear hC
  skip
  go_enter Tryd.func22, Tryd.ntmps22
  go_wp2_with (first | (go_at_call 37; refine (letter_any _ _).mono ?_; rintro e w' ⟨rfl, hww⟩; obtain rfl := hww.symm) | (go_at_call 42; refine (HC.out _ HR.out).mono ?_; rintro e w1 hres; obtain ⟨g, rfl⟩ := hres.ptr; have H1 := Lib.hid hres; clear hres))
  go_ret
  exact H1.out

set_option maxHeartbeats 800000 in
theorem rdat_quote_end (b : Nat) (s : ByteArray) (p q d : Nat) (w : World) (h : Rr b s p 0 0 w) (hp : p < s.size) (hs : s.size ≤ 1200) (hd : d < 30) (hk : Px.skip false (L s (p + 1)) = L s q) (hq : q = s.size)
    (c40 : ((s[p].toNat : Int) == 40) = false) (c39 : ((s[p].toNat : Int) == 39) = true) :
    Calls Tryd.prog 22 #[.pointer (some ⟨b, 0, none⟩), .int .i64 (d : Int)] w fun e w' => ResR b s d (.inl (3, 0)) w e w' := by
  have h0 := h.c0
  have h1 := h.c1
  have hf := h.fz 1
  have hb := h.lt
  have HR := Lib.hid h
  clear h
  have HK := Lib.hid hk
  clear hk
  have hge : decide ((d : Int) ≥ 30) = false := by simp; omega
  go_enter Tryd.func22, Tryd.ntmps22
  go_wp2_with (first | (go_at_call 37; refine (letter_any _ _).mono ?_; rintro e w' ⟨rfl, hww⟩; obtain rfl := hww.symm) | (go_at_call 21; refine (blanks_any b s (p + 1) 0 0 _ (HR.out.set1 (p + 1) _ (by omega)) (by omega) hs).mono ?_; rintro e w1 ⟨rfl, q', hpq', hq', hsk', hR0, hO0⟩; refine Hid.out ?_))
  obtain rfl : q' = q := L_inj s q' q hq' (by omega) (hsk'.symm.trans HK.out)
  have h0' := hR0.c0
  have h1' := hR0.c1
  have HR1 := Lib.hid hR0
  have HO1 := Lib.hid (((Only.refl b w).set 1 (Value.int IntKind.i64 ((p : Int) + 1))).trans hO0)
  clear hsk' hR0 hO0
  refine Lib.hid ?_
  go_wp2
  go_quiet (fail)
  go_wp2_with (go_at_call 38; refine (bad_any b s q' 3 s.size _ (HR1.out.drewN _)).mono ?_; rintro e w2 ⟨⟨g, rfl, hg⟩, h3, h4⟩; have H3 := Lib.hid h3; have H4 := Lib.hid h4; have HG9 := Lib.hid hg; clear h3 h4 hg)
  go_ret
  exact ResR.bad (by have h5 := HG9.out; have h6 := HO1.out.size; simp at h5; omega) ((HO1.out.drewN _).trans H4.out) H3.out (by omega)

set_option maxRecDepth 100000 in
set_option maxHeartbeats 800000 in
theorem rdat_quote (b : Nat) (s : ByteArray) (p q d : Nat) (r : Px.R) (w : World) (h : Rr b s p 0 0 w) (hp : p < s.size) (hs : s.size ≤ 1200) (hd : d < 30) (hk : Px.skip false (L s (p + 1)) = L s q) (hq : q < s.size)
    (c40 : ((s[p].toNat : Int) == 40) = false) (c39 : ((s[p].toNat : Int) == 39) = true)
    (hC : ∀ w, Rr b s q 0 0 w → Calls Tryd.prog 22 #[.pointer (some ⟨b, 0, none⟩), .int .i64 ((d : Int) + 1)] w fun e w' => ResR b s (d + 1) r w e w') :
    Calls Tryd.prog 22 #[.pointer (some ⟨b, 0, none⟩), .int .i64 (d : Int)] w fun e w' => ResR b s d (Xt.quoteR r) w e w' := by
  have h0 := h.c0
  have h1 := h.c1
  have hf := h.fz 1
  have hb := h.lt
  have HR := Lib.hid h
  clear h
  have HK := Lib.hid hk
  have HC := Lib.hid hC
  clear hk hC
  rcases r with ⟨c, k⟩ | ⟨ts, rr⟩
  · show Calls Tryd.prog 22 #[.pointer (some ⟨b, 0, none⟩), .int .i64 (d : Int)] w fun e w' => ResR b s d (.inl (c, k)) w e w'
    have hge : decide ((d : Int) ≥ 30) = false := by simp; omega
    go_enter Tryd.func22, Tryd.ntmps22
    go_wp2_with (first | (go_at_call 37; refine (letter_any _ _).mono ?_; rintro e w' ⟨rfl, hww⟩; obtain rfl := hww.symm) | (go_at_call 21; refine (blanks_any b s (p + 1) 0 0 _ (HR.out.set1 (p + 1) _ (by omega)) (by omega) hs).mono ?_; rintro e w1 ⟨rfl, q', hpq', hq', hsk', hR0, hO0⟩; refine Hid.out ?_))
    obtain rfl : q' = q := L_inj s q' q hq' (by omega) (hsk'.symm.trans HK.out)
    have h0' := hR0.c0
    have h1' := hR0.c1
    have HR1 := Lib.hid hR0
    have HO1 := Lib.hid (((Only.refl b w).set 1 (Value.int IntKind.i64 ((p : Int) + 1))).trans hO0)
    clear hsk' hR0 hO0
    refine Lib.hid ?_
    go_wp2
    go_quiet (fail)
    have hRx := HR1.out.drewN nq
    have hOx := HO1.out.drewN nq
    clear HR1 HO1 h0' h1'
    generalize w1.drewN nq = wA at hRx hOx ⊢
    have HR1 := Lib.hid hRx
    have HO1 := Lib.hid hOx
    clear hRx hOx
    go_wp2_with (go_at_call 22; refine (HC.out _ HR1.out).mono ?_; rintro e w2 ⟨g1, rfl, hg1, hO2, p', hR2⟩; have H3 := Lib.hid hR2; have H4 := Lib.hid hO2; clear hR2 hO2)
    go_ret
    exact ResR.bad (by have h5 := HO1.out.size; have h6 := H4.out.size; omega) ((((HO1.out.trans H4.out).alloc _).alloc _).alloc _) (((H3.out.alloc _).alloc _).alloc _) rfl
  · show Calls Tryd.prog 22 #[.pointer (some ⟨b, 0, none⟩), .int .i64 (d : Int)] w fun e w' => ResR b s d (.inr ([Px.paren (Px.quoteT :: ts)], rr)) w e w'
    have hge : decide ((d : Int) ≥ 30) = false := by simp; omega
    go_enter Tryd.func22, Tryd.ntmps22
    go_wp2_with (first | (go_at_call 37; refine (letter_any _ _).mono ?_; rintro e w' ⟨rfl, hww⟩; obtain rfl := hww.symm) | (go_at_call 21; refine (blanks_any b s (p + 1) 0 0 _ (HR.out.set1 (p + 1) _ (by omega)) (by omega) hs).mono ?_; rintro e w1 ⟨rfl, q', hpq', hq', hsk', hR0, hO0⟩; refine Hid.out ?_))
    obtain rfl : q' = q := L_inj s q' q hq' (by omega) (hsk'.symm.trans HK.out)
    have h0' := hR0.c0
    have h1' := hR0.c1
    have HR1 := Lib.hid hR0
    have HO1 := Lib.hid (((Only.refl b w).set 1 (Value.int IntKind.i64 ((p : Int) + 1))).trans hO0)
    clear hsk' hR0 hO0
    refine Lib.hid ?_
    go_wp2
    go_quiet (fail)
    have hRx := HR1.out.drewN nq
    have hOx := HO1.out.drewN nq
    clear HR1 HO1 h0' h1'
    generalize w1.drewN nq = wA at hRx hOx ⊢
    have HR1 := Lib.hid hRx
    have HO1 := Lib.hid hOx
    clear hRx hOx
    go_wp2_with (go_at_call 22; refine (HC.out _ HR1.out).mono ?_; rintro e w2 ⟨g1, rfl, hg1, hO2, t, rfl, hrep, hR2⟩; have H3 := Lib.hid hR2; have H4 := Lib.hid hO2; have H5 := Lib.hid hrep; clear hR2 hO2 hrep)
    go_ret
    have hrep := H5.out
    rw [show 32 - (d + 1) = 31 - d from by omega] at hrep
    exact ResR.quote hd HO1.out H4.out hrep H3.out rfl

theorem rdatum_all : ∀ F : Nat, RDatumSaid F := by
  intro F
  induction F using Nat.strongRecOn with
  | ind F ih =>
    intro b s p d w h hp hk hs hd30 hF
    obtain ⟨f, rfl⟩ : ∃ f, F = f + 1 := ⟨F - 1, by omega⟩
    cases c40 : ((s[p].toNat : Int) == 40)
    · cases c39 : ((s[p].toNat : Int) == 39)
      · cases c34 : ((s[p].toNat : Int) == 34)
        · cases c35 : ((s[p].toNat : Int) == 35)
          · have n40 := beq_eq_false_iff_ne.1 c40
            have n39 := beq_eq_false_iff_ne.1 c39
            have n34 := beq_eq_false_iff_ne.1 c34
            have n35 := beq_eq_false_iff_ne.1 c35
            cases hw : Px.wordB s[p]
            · rw [Xt.rdF_bad f d s p p hk hp (by omega) (by omega) (by omega) (by omega) hw]
              exact rdat_bad b s p d w h hp c40 c39 c34 c35 hw
            · rw [Xt.rdF_word f d s p p hk hp (by omega) (by omega) (by omega) (by omega) hw]
              exact rdat_word b s p d _ w h hp c40 c39 c34 c35 hw (fun w0 h1 => word_ref b s p d w0 h1 hp hs hd30 hw)
          · rw [Xt.rdF_truth f d s p p hk hp (by have := beq_iff_eq.1 c35; omega)]
            exact rdat_truth b s p d _ w h hp c40 c39 c34 c35 (fun w0 h1 => truth_ref b s p d w0 h1 hp hs hd30)
        · rw [Xt.rdF_str f d s p p hk hp (by have := beq_iff_eq.1 c34; omega)]
          exact rdat_str b s p d _ w h hp c40 c39 c34 (fun w0 h1 => str_ref b s p d w0 h1 hp hs hd30)
      · have e39 : s[p].toNat = 39 := by have := beq_iff_eq.1 c39; omega
        by_cases hd : d = 30
        · rw [Xt.rdF_deep f d s p p hk hp (.inr e39) hd]
          exact rdat_deep39 b s p d w h hp (by omega) hd30 c40 c39
        · rw [Xt.rdF_quote f d s p p hk hp e39 hd]
          obtain ⟨q, hpq, hq, hk1⟩ : ∃ q, p + 1 ≤ q ∧ q ≤ s.size ∧ Px.skip false (L s (p + 1)) = L s q := by
            have hs1 := Px.skip_suf (L s (p + 1)) false
            refine ⟨s.size - (Px.skip false (L s (p + 1))).length, ?_, by omega, (L_suf s (p + 1) _ hs1).symm⟩
            have := hs1.length_le
            rw [L_len] at this; omega
          have hrd : Px.rd f false (d + 1) (L s (p + 1)) = Px.rd f false (d + 1) (L s q) := by rw [← Px.rd_skip, hk1]
          rw [hrd]
          by_cases hqs : q < s.size
          · exact rdat_quote b s p q d _ w h hp hs (by omega) hk1 hqs c40 c39 (fun w0 h1 => ih f (by omega) b s q (d + 1) w0 h1 hqs (by rw [← hk1, Px.skip_idem]) hs (by omega) (by omega))
          · have e : Px.rd f false (d + 1) (L s q) = .inl (3, 0) := by
              obtain ⟨f', rfl⟩ : ∃ f', f = f' + 1 := ⟨f - 1, by omega⟩
              exact Xt.rdF_end f' (d + 1) s q q (by rw [← hk1, Px.skip_idem]) (by omega)
            rw [e]
            exact rdat_quote_end b s p q d w h hp hs (by omega) hk1 (by omega) c40 c39
    · have e40 : s[p].toNat = 40 := by have := beq_iff_eq.1 c40; omega
      by_cases hd : d = 30
      · rw [Xt.rdF_deep f d s p p hk hp (.inl e40) hd]
        exact rdat_deep40 b s p d w h hp (by omega) hd30 c40
      · rw [Xt.rdF_list f d s p p hk hp e40 hd]
        exact rdat_paren b s p d _ w h hp hs (by omega) c40 (fun w0 h1 => list_ref f b s (p + 1) d p w0 h1 (by omega) hs (by omega) (by omega) (fun F' hF' => ih F' (by omega)))

end Go.Proofs.YtbgmenglfgodbaaDoor
