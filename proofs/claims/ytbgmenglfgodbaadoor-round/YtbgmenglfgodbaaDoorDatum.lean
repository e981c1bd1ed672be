/-
  OUR OWN. The walk of reader.datum; the recursion shut.
-/
import Derived.Test.YtbgmenglfgodbaaDoorList
namespace Go.Proofs.YtbgmenglfgodbaaDoor
open Go.RowKit

theorem rdF_end (f d : Nat) (s : ByteArray) (p q : Nat) (hk : Px.skip false (L s p) = L s q) (h : s.size ≤ q) : Py.rd (f + 1) false d (L s p) = .inl (3, 0) := by
  rw [Py.rd, hk, L_end s q h]
theorem rdF_list (f d : Nat) (s : ByteArray) (p q : Nat) (hk : Px.skip false (L s p) = L s q) (h : q < s.size) (hc : s[q].toNat = 40) (hd : d ≠ 30) : Py.rd (f + 1) false d (L s p) = listR (Py.rd f true (d + 1) (L s (q + 1))) := by
  rw [Py.rd, hk, L_lt s q h]; simp only; rw [if_pos hc, if_neg hd]
  rcases Py.rd f true (d + 1) (L s (q + 1)) with e | ⟨xs, rr⟩ <;> rfl
theorem rdF_deep (f d : Nat) (s : ByteArray) (p q : Nat) (hk : Px.skip false (L s p) = L s q) (h : q < s.size) (hc : s[q].toNat = 40 ∨ s[q].toNat = 39) (hd : d = 30) : Py.rd (f + 1) false d (L s p) = .inl (4, s.size - q) := by
  rw [Py.rd, hk, L_lt s q h]; simp only
  have e : (L s (q + 1)).length + 1 = s.size - q := by rw [L_len]; omega
  rcases hc with hc | hc
  · rw [if_pos hc, if_pos hd, e]
  · rw [if_neg (by omega), if_pos hc, if_pos hd, e]
theorem rdF_quote (f d : Nat) (s : ByteArray) (p q : Nat) (hk : Px.skip false (L s p) = L s q) (h : q < s.size) (hc : s[q].toNat = 39) (hd : d ≠ 30) : Py.rd (f + 1) false d (L s p) = quoteR (Py.rd f false (d + 1) (L s (q + 1))) := by
  rw [Py.rd, hk, L_lt s q h]; simp only; rw [if_neg (by omega), if_pos hc, if_neg hd]
  rcases Py.rd f false (d + 1) (L s (q + 1)) with e | ⟨xs, rr⟩ <;> rfl
theorem rdF_str (f d : Nat) (s : ByteArray) (p q : Nat) (hk : Px.skip false (L s p) = L s q) (h : q < s.size) (hc : s[q].toNat = 34) : Py.rd (f + 1) false d (L s p) = Py.str (L s (q + 1)) := by
  rw [Py.rd, hk, L_lt s q h]; simp only; rw [if_neg (by omega), if_neg (by omega), if_pos hc]
theorem rdF_truth (f d : Nat) (s : ByteArray) (p q : Nat) (hk : Px.skip false (L s p) = L s q) (h : q < s.size) (hc : s[q].toNat = 35) : Py.rd (f + 1) false d (L s p) = Py.truth (L s (q + 1)) := by
  rw [Py.rd, hk, L_lt s q h]; simp only; rw [if_neg (by omega), if_neg (by omega), if_neg (by omega), if_pos hc]
theorem rdF_word (f d : Nat) (s : ByteArray) (p q : Nat) (hk : Px.skip false (L s p) = L s q) (h : q < s.size) (h1 : s[q].toNat ≠ 40) (h2 : s[q].toNat ≠ 39) (h3 : s[q].toNat ≠ 34) (h4 : s[q].toNat ≠ 35) (hw : Px.wordB s[q] = true) : Py.rd (f + 1) false d (L s p) = Py.word (L s q) := by
  rw [Py.rd, hk, L_lt s q h]; simp only; rw [if_neg h1, if_neg h2, if_neg h3, if_neg h4, if_pos hw]
theorem rdF_bad (f d : Nat) (s : ByteArray) (p q : Nat) (hk : Px.skip false (L s p) = L s q) (h : q < s.size) (h1 : s[q].toNat ≠ 40) (h2 : s[q].toNat ≠ 39) (h3 : s[q].toNat ≠ 34) (h4 : s[q].toNat ≠ 35) (hw : Px.wordB s[q] = false) : Py.rd (f + 1) false d (L s p) = .inl (2, s.size - q) := by
  rw [Py.rd, hk, L_lt s q h]; simp only; rw [if_neg h1, if_neg h2, if_neg h3, if_neg h4, if_neg (by simp [hw])]
  have e : (L s (q + 1)).length + 1 = s.size - q := by rw [L_len]; omega
  rw [e]

/-- What holds of a world behind skip: the reader, the box, the rest. -/
structure At (b : Nat) (s : ByteArray) (q d : Nat) (w w1 : World) : Prop where
  rd : Rd b s q d w1
  only : Only b w w1
  box : Box w.heap.size w1
  lt : w.heap.size < w1.heap.size

theorem L_inj (s : ByteArray) (p q : Nat) (hp : p ≤ s.size) (hq : q ≤ s.size) (h : L s p = L s q) : p = q := by
  have h1 := congrArg List.length h
  rw [L_len, L_len] at h1; omega

set_option maxHeartbeats 1000000 in
theorem datum_paren (b : Nat) (s : ByteArray) (p q d : Nat) (r : Py.R) (w : World) (h : Rd b s p d w) (hp : p ≤ s.size) (hs : s.size ≤ 1200) (hG : GV w) (hb6 : 6 ≤ b) (hk : Px.skip false (L s p) = L s q) (hlt : q < s.size)
    (c40 : ((s[q].toNat : Int) == 40) = true)
    (hC : ∀ w, Rd b s q d w → GV w → Calls Tryd.prog 26 #[.pointer (some ⟨b, 0, none⟩), .func (.func 27) #[.pointer (some ⟨b, 0, none⟩)] #[]] w fun e w' => Res b s d r w e w') :
    Calls Tryd.prog 16 #[.pointer (some ⟨b, 0, none⟩)] w fun e w' => Res b s d r w e w' := by
  have hb := h.lt
  have HR := Lib.hid h
  have HG := Lib.hid hG
  have HK := Lib.hid hk
  have HC := Lib.hid hC
  clear h hG hk hC
  rcases r with ⟨c, k⟩ | ⟨ts, rr⟩
  ·
    go_enter Tryd.func16, Tryd.ntmps16
    go_wp2_with (go_at_call 14; refine (skip_any b s p d _ (HR.out.alloc _) hp hs).mono ?_; rintro e w1 ⟨rfl, q', hpq', hq', hsk', hR0, hO0⟩; refine Hid.out ?_)
    obtain rfl : q' = q := L_inj s q' q hq' (by omega) (hsk'.symm.trans HK.out)
    have hA : At b s q' d w w1 := ⟨hR0, ((Only.refl b w).alloc _).trans hO0, (Box.new w _ _ _ _ _ _).kept hO0 (by intro e; cases e; omega) (by simp), by have := hO0.size; simp at this; omega⟩
    have HA := Lib.hid hA
    have h0' := hR0.c0
    have h1' := hR0.c1
    have hlt1 := hA.lt
    clear hsk' hR0 hO0 hA
    have hd : ((q' : Int) == (s.size : Int)) = false := by simp; omega
    refine Lib.hid ?_
    go_wp2_with (go_at_call 15; refine (ended_any b s q' d _ HA.out.rd).mono ?_; rintro e w' ⟨rfl, n1, rfl⟩)
    go_quiet (fail)
    go_wp2_with (first | (go_at_call 26; refine (HC.out _ (by exact HA.out.rd.drewN _) (by exact HG.out.only (HA.out.only.drewN _) hb6 (by omega))).mono ?_; rintro e w2 ⟨hO, N, rfl, hN0, hN, p', hR1⟩; refine Hid.out ?_))
    have hz1 : w1.heap.size ≤ w2.heap.size := by have := hO.size; simpa using this
    have HO1 := Lib.hid ((HA.out.only.drewN _).trans hO)
    have HR1 := Lib.hid hR1
    have hN9 : w.heap.size + 1 ≤ N := by simp at hN0; omega
    have HN := Lib.hid hN
    obtain ⟨⟨y0, k0⟩, ⟨y1, k1⟩, ⟨y2, k2⟩, ⟨y3, k3⟩, ⟨y4, k4⟩, ⟨y5, k5⟩, kf⟩ := (HA.out.box.drewN _).kept hO (by intro e; cases e; omega) (by simpa using hlt1)
    clear hO hN hN0 hR1
    refine Lib.hid ?_
    go_wp2
    refine bodyPost_ret (v := .tuple #[El.nil.v, .pointer (some ⟨N, 0, none⟩)]) (by simp [results, Tryd.results16, go_sem, *]) rfl ?_
    exact Res.err HO1.out (Nat.le_refl _) (by omega) (by omega) HN.out rfl rfl HR1.out hb _ _ _ _ _ _
  ·
    go_enter Tryd.func16, Tryd.ntmps16
    go_wp2_with (go_at_call 14; refine (skip_any b s p d _ (HR.out.alloc _) hp hs).mono ?_; rintro e w1 ⟨rfl, q', hpq', hq', hsk', hR0, hO0⟩; refine Hid.out ?_)
    obtain rfl : q' = q := L_inj s q' q hq' (by omega) (hsk'.symm.trans HK.out)
    have hA : At b s q' d w w1 := ⟨hR0, ((Only.refl b w).alloc _).trans hO0, (Box.new w _ _ _ _ _ _).kept hO0 (by intro e; cases e; omega) (by simp), by have := hO0.size; simp at this; omega⟩
    have HA := Lib.hid hA
    have h0' := hR0.c0
    have h1' := hR0.c1
    have hlt1 := hA.lt
    clear hsk' hR0 hO0 hA
    have hd : ((q' : Int) == (s.size : Int)) = false := by simp; omega
    refine Lib.hid ?_
    go_wp2_with (go_at_call 15; refine (ended_any b s q' d _ HA.out.rd).mono ?_; rintro e w' ⟨rfl, n1, rfl⟩)
    go_quiet (fail)
    go_wp2_with (first | (go_at_call 26; refine (HC.out _ (by exact HA.out.rd.drewN _) (by exact HG.out.only (HA.out.only.drewN _) hb6 (by omega))).mono ?_; rintro e w2 ⟨hO, x, t, rfl, rfl, hrep, hrd⟩; refine Hid.out ?_))
    have hz1 : w1.heap.size ≤ w2.heap.size := by have := hO.size; simpa using this
    have HO1 := Lib.hid ((HA.out.only.drewN _).trans hO)
    have HR1 := Lib.hid hrd
    have HRep := Lib.hid hrep
    obtain ⟨⟨y0, k0⟩, ⟨y1, k1⟩, ⟨y2, k2⟩, ⟨y3, k3⟩, ⟨y4, k4⟩, ⟨y5, k5⟩, kf⟩ := (HA.out.box.drewN _).kept hO (by intro e; cases e; omega) (by simpa using hlt1)
    clear hO hrep hrd
    obtain ⟨xk, xn, xtr, xtx, xm, xa, xlen, xcap⟩ := x
    refine Lib.hid ?_
    go_wp2
    refine bodyPost_ret (v := .tuple #[El.v ⟨xk, xn, xtr, xtx, xm, xa, xlen, xcap⟩, .pointer none]) (by simp [results, Tryd.results16, go_sem, *]) rfl ?_
    exact Res.ok HO1.out (Nat.le_refl _) (by simpa using hlt1) hb HRep.out HR1.out rfl _ _ _ _ _ _

set_option maxHeartbeats 1000000 in
theorem datum_quote (b : Nat) (s : ByteArray) (p q d : Nat) (r : Py.R) (w : World) (h : Rd b s p d w) (hp : p ≤ s.size) (hs : s.size ≤ 1200) (hG : GV w) (hb6 : 6 ≤ b) (hk : Px.skip false (L s p) = L s q) (hlt : q < s.size)
    (c40 : ((s[q].toNat : Int) == 40) = false) (c39 : ((s[q].toNat : Int) == 39) = true)
    (hC : ∀ w, Rd b s q d w → GV w → Calls Tryd.prog 26 #[.pointer (some ⟨b, 0, none⟩), .func (.func 28) #[.pointer (some ⟨b, 0, none⟩)] #[]] w fun e w' => Res b s d r w e w') :
    Calls Tryd.prog 16 #[.pointer (some ⟨b, 0, none⟩)] w fun e w' => Res b s d r w e w' := by
  have hb := h.lt
  have HR := Lib.hid h
  have HG := Lib.hid hG
  have HK := Lib.hid hk
  have HC := Lib.hid hC
  clear h hG hk hC
  rcases r with ⟨c, k⟩ | ⟨ts, rr⟩
  ·
    go_enter Tryd.func16, Tryd.ntmps16
    go_wp2_with (go_at_call 14; refine (skip_any b s p d _ (HR.out.alloc _) hp hs).mono ?_; rintro e w1 ⟨rfl, q', hpq', hq', hsk', hR0, hO0⟩; refine Hid.out ?_)
    obtain rfl : q' = q := L_inj s q' q hq' (by omega) (hsk'.symm.trans HK.out)
    have hA : At b s q' d w w1 := ⟨hR0, ((Only.refl b w).alloc _).trans hO0, (Box.new w _ _ _ _ _ _).kept hO0 (by intro e; cases e; omega) (by simp), by have := hO0.size; simp at this; omega⟩
    have HA := Lib.hid hA
    have h0' := hR0.c0
    have h1' := hR0.c1
    have hlt1 := hA.lt
    clear hsk' hR0 hO0 hA
    have hd : ((q' : Int) == (s.size : Int)) = false := by simp; omega
    refine Lib.hid ?_
    go_wp2_with (go_at_call 15; refine (ended_any b s q' d _ HA.out.rd).mono ?_; rintro e w' ⟨rfl, n1, rfl⟩)
    go_quiet (fail)
    go_wp2_with (first | (go_at_call 26; refine (HC.out _ (by exact HA.out.rd.drewN _) (by exact HG.out.only (HA.out.only.drewN _) hb6 (by omega))).mono ?_; rintro e w2 ⟨hO, N, rfl, hN0, hN, p', hR1⟩; refine Hid.out ?_))
    have hz1 : w1.heap.size ≤ w2.heap.size := by have := hO.size; simpa using this
    have HO1 := Lib.hid ((HA.out.only.drewN _).trans hO)
    have HR1 := Lib.hid hR1
    have hN9 : w.heap.size + 1 ≤ N := by simp at hN0; omega
    have HN := Lib.hid hN
    obtain ⟨⟨y0, k0⟩, ⟨y1, k1⟩, ⟨y2, k2⟩, ⟨y3, k3⟩, ⟨y4, k4⟩, ⟨y5, k5⟩, kf⟩ := (HA.out.box.drewN _).kept hO (by intro e; cases e; omega) (by simpa using hlt1)
    clear hO hN hN0 hR1
    refine Lib.hid ?_
    go_wp2
    refine bodyPost_ret (v := .tuple #[El.nil.v, .pointer (some ⟨N, 0, none⟩)]) (by simp [results, Tryd.results16, go_sem, *]) rfl ?_
    exact Res.err HO1.out (Nat.le_refl _) (by omega) (by omega) HN.out rfl rfl HR1.out hb _ _ _ _ _ _
  ·
    go_enter Tryd.func16, Tryd.ntmps16
    go_wp2_with (go_at_call 14; refine (skip_any b s p d _ (HR.out.alloc _) hp hs).mono ?_; rintro e w1 ⟨rfl, q', hpq', hq', hsk', hR0, hO0⟩; refine Hid.out ?_)
    obtain rfl : q' = q := L_inj s q' q hq' (by omega) (hsk'.symm.trans HK.out)
    have hA : At b s q' d w w1 := ⟨hR0, ((Only.refl b w).alloc _).trans hO0, (Box.new w _ _ _ _ _ _).kept hO0 (by intro e; cases e; omega) (by simp), by have := hO0.size; simp at this; omega⟩
    have HA := Lib.hid hA
    have h0' := hR0.c0
    have h1' := hR0.c1
    have hlt1 := hA.lt
    clear hsk' hR0 hO0 hA
    have hd : ((q' : Int) == (s.size : Int)) = false := by simp; omega
    refine Lib.hid ?_
    go_wp2_with (go_at_call 15; refine (ended_any b s q' d _ HA.out.rd).mono ?_; rintro e w' ⟨rfl, n1, rfl⟩)
    go_quiet (fail)
    go_wp2_with (first | (go_at_call 26; refine (HC.out _ (by exact HA.out.rd.drewN _) (by exact HG.out.only (HA.out.only.drewN _) hb6 (by omega))).mono ?_; rintro e w2 ⟨hO, x, t, rfl, rfl, hrep, hrd⟩; refine Hid.out ?_))
    have hz1 : w1.heap.size ≤ w2.heap.size := by have := hO.size; simpa using this
    have HO1 := Lib.hid ((HA.out.only.drewN _).trans hO)
    have HR1 := Lib.hid hrd
    have HRep := Lib.hid hrep
    obtain ⟨⟨y0, k0⟩, ⟨y1, k1⟩, ⟨y2, k2⟩, ⟨y3, k3⟩, ⟨y4, k4⟩, ⟨y5, k5⟩, kf⟩ := (HA.out.box.drewN _).kept hO (by intro e; cases e; omega) (by simpa using hlt1)
    clear hO hrep hrd
    obtain ⟨xk, xn, xtr, xtx, xm, xa, xlen, xcap⟩ := x
    refine Lib.hid ?_
    go_wp2
    refine bodyPost_ret (v := .tuple #[El.v ⟨xk, xn, xtr, xtx, xm, xa, xlen, xcap⟩, .pointer none]) (by simp [results, Tryd.results16, go_sem, *]) rfl ?_
    exact Res.ok HO1.out (Nat.le_refl _) (by simpa using hlt1) hb HRep.out HR1.out rfl _ _ _ _ _ _

set_option maxHeartbeats 1000000 in
theorem datum_str (b : Nat) (s : ByteArray) (p q d : Nat) (r : Py.R) (w : World) (h : Rd b s p d w) (hp : p ≤ s.size) (hs : s.size ≤ 1200) (hG : GV w) (hb6 : 6 ≤ b) (hk : Px.skip false (L s p) = L s q) (hlt : q < s.size)
    (c40 : ((s[q].toNat : Int) == 40) = false) (c39 : ((s[q].toNat : Int) == 39) = false) (c34 : ((s[q].toNat : Int) == 34) = true)
    (hC : ∀ w, Rd b s q d w → GV w → Calls Tryd.prog 29 #[.pointer (some ⟨b, 0, none⟩)] w fun e w' => Res b s d r w e w') :
    Calls Tryd.prog 16 #[.pointer (some ⟨b, 0, none⟩)] w fun e w' => Res b s d r w e w' := by
  have hb := h.lt
  have HR := Lib.hid h
  have HG := Lib.hid hG
  have HK := Lib.hid hk
  have HC := Lib.hid hC
  clear h hG hk hC
  rcases r with ⟨c, k⟩ | ⟨ts, rr⟩
  ·
    go_enter Tryd.func16, Tryd.ntmps16
    go_wp2_with (go_at_call 14; refine (skip_any b s p d _ (HR.out.alloc _) hp hs).mono ?_; rintro e w1 ⟨rfl, q', hpq', hq', hsk', hR0, hO0⟩; refine Hid.out ?_)
    obtain rfl : q' = q := L_inj s q' q hq' (by omega) (hsk'.symm.trans HK.out)
    have hA : At b s q' d w w1 := ⟨hR0, ((Only.refl b w).alloc _).trans hO0, (Box.new w _ _ _ _ _ _).kept hO0 (by intro e; cases e; omega) (by simp), by have := hO0.size; simp at this; omega⟩
    have HA := Lib.hid hA
    have h0' := hR0.c0
    have h1' := hR0.c1
    have hlt1 := hA.lt
    clear hsk' hR0 hO0 hA
    have hd : ((q' : Int) == (s.size : Int)) = false := by simp; omega
    refine Lib.hid ?_
    go_wp2_with (go_at_call 15; refine (ended_any b s q' d _ HA.out.rd).mono ?_; rintro e w' ⟨rfl, n1, rfl⟩)
    go_quiet (fail)
    go_wp2_with (first | (go_at_call 29; refine (HC.out _ (by exact HA.out.rd.drewN _) (by exact HG.out.only (HA.out.only.drewN _) hb6 (by omega))).mono ?_; rintro e w2 ⟨hO, N, rfl, hN0, hN, p', hR1⟩; refine Hid.out ?_))
    have hz1 : w1.heap.size ≤ w2.heap.size := by have := hO.size; simpa using this
    have HO1 := Lib.hid ((HA.out.only.drewN _).trans hO)
    have HR1 := Lib.hid hR1
    have hN9 : w.heap.size + 1 ≤ N := by simp at hN0; omega
    have HN := Lib.hid hN
    obtain ⟨⟨y0, k0⟩, ⟨y1, k1⟩, ⟨y2, k2⟩, ⟨y3, k3⟩, ⟨y4, k4⟩, ⟨y5, k5⟩, kf⟩ := (HA.out.box.drewN _).kept hO (by intro e; cases e; omega) (by simpa using hlt1)
    clear hO hN hN0 hR1
    refine Lib.hid ?_
    go_wp2
    refine bodyPost_ret (v := .tuple #[El.nil.v, .pointer (some ⟨N, 0, none⟩)]) (by simp [results, Tryd.results16, go_sem, *]) rfl ?_
    exact Res.err HO1.out (Nat.le_refl _) (by omega) (by omega) HN.out rfl rfl HR1.out hb _ _ _ _ _ _
  ·
    go_enter Tryd.func16, Tryd.ntmps16
    go_wp2_with (go_at_call 14; refine (skip_any b s p d _ (HR.out.alloc _) hp hs).mono ?_; rintro e w1 ⟨rfl, q', hpq', hq', hsk', hR0, hO0⟩; refine Hid.out ?_)
    obtain rfl : q' = q := L_inj s q' q hq' (by omega) (hsk'.symm.trans HK.out)
    have hA : At b s q' d w w1 := ⟨hR0, ((Only.refl b w).alloc _).trans hO0, (Box.new w _ _ _ _ _ _).kept hO0 (by intro e; cases e; omega) (by simp), by have := hO0.size; simp at this; omega⟩
    have HA := Lib.hid hA
    have h0' := hR0.c0
    have h1' := hR0.c1
    have hlt1 := hA.lt
    clear hsk' hR0 hO0 hA
    have hd : ((q' : Int) == (s.size : Int)) = false := by simp; omega
    refine Lib.hid ?_
    go_wp2_with (go_at_call 15; refine (ended_any b s q' d _ HA.out.rd).mono ?_; rintro e w' ⟨rfl, n1, rfl⟩)
    go_quiet (fail)
    go_wp2_with (first | (go_at_call 29; refine (HC.out _ (by exact HA.out.rd.drewN _) (by exact HG.out.only (HA.out.only.drewN _) hb6 (by omega))).mono ?_; rintro e w2 ⟨hO, x, t, rfl, rfl, hrep, hrd⟩; refine Hid.out ?_))
    have hz1 : w1.heap.size ≤ w2.heap.size := by have := hO.size; simpa using this
    have HO1 := Lib.hid ((HA.out.only.drewN _).trans hO)
    have HR1 := Lib.hid hrd
    have HRep := Lib.hid hrep
    obtain ⟨⟨y0, k0⟩, ⟨y1, k1⟩, ⟨y2, k2⟩, ⟨y3, k3⟩, ⟨y4, k4⟩, ⟨y5, k5⟩, kf⟩ := (HA.out.box.drewN _).kept hO (by intro e; cases e; omega) (by simpa using hlt1)
    clear hO hrep hrd
    obtain ⟨xk, xn, xtr, xtx, xm, xa, xlen, xcap⟩ := x
    refine Lib.hid ?_
    go_wp2
    refine bodyPost_ret (v := .tuple #[El.v ⟨xk, xn, xtr, xtx, xm, xa, xlen, xcap⟩, .pointer none]) (by simp [results, Tryd.results16, go_sem, *]) rfl ?_
    exact Res.ok HO1.out (Nat.le_refl _) (by simpa using hlt1) hb HRep.out HR1.out rfl _ _ _ _ _ _

set_option maxHeartbeats 1000000 in
theorem datum_truth (b : Nat) (s : ByteArray) (p q d : Nat) (r : Py.R) (w : World) (h : Rd b s p d w) (hp : p ≤ s.size) (hs : s.size ≤ 1200) (hG : GV w) (hb6 : 6 ≤ b) (hk : Px.skip false (L s p) = L s q) (hlt : q < s.size)
    (c40 : ((s[q].toNat : Int) == 40) = false) (c39 : ((s[q].toNat : Int) == 39) = false) (c34 : ((s[q].toNat : Int) == 34) = false) (c35 : ((s[q].toNat : Int) == 35) = true)
    (hC : ∀ w, Rd b s q d w → GV w → Calls Tryd.prog 30 #[.pointer (some ⟨b, 0, none⟩)] w fun e w' => Res b s d r w e w') :
    Calls Tryd.prog 16 #[.pointer (some ⟨b, 0, none⟩)] w fun e w' => Res b s d r w e w' := by
  have hb := h.lt
  have HR := Lib.hid h
  have HG := Lib.hid hG
  have HK := Lib.hid hk
  have HC := Lib.hid hC
  clear h hG hk hC
  rcases r with ⟨c, k⟩ | ⟨ts, rr⟩
  ·
    go_enter Tryd.func16, Tryd.ntmps16
    go_wp2_with (go_at_call 14; refine (skip_any b s p d _ (HR.out.alloc _) hp hs).mono ?_; rintro e w1 ⟨rfl, q', hpq', hq', hsk', hR0, hO0⟩; refine Hid.out ?_)
    obtain rfl : q' = q := L_inj s q' q hq' (by omega) (hsk'.symm.trans HK.out)
    have hA : At b s q' d w w1 := ⟨hR0, ((Only.refl b w).alloc _).trans hO0, (Box.new w _ _ _ _ _ _).kept hO0 (by intro e; cases e; omega) (by simp), by have := hO0.size; simp at this; omega⟩
    have HA := Lib.hid hA
    have h0' := hR0.c0
    have h1' := hR0.c1
    have hlt1 := hA.lt
    clear hsk' hR0 hO0 hA
    have hd : ((q' : Int) == (s.size : Int)) = false := by simp; omega
    refine Lib.hid ?_
    go_wp2_with (go_at_call 15; refine (ended_any b s q' d _ HA.out.rd).mono ?_; rintro e w' ⟨rfl, n1, rfl⟩)
    go_quiet (fail)
    go_wp2_with (first | (go_at_call 30; refine (HC.out _ (by exact HA.out.rd.drewN _) (by exact HG.out.only (HA.out.only.drewN _) hb6 (by omega))).mono ?_; rintro e w2 ⟨hO, N, rfl, hN0, hN, p', hR1⟩; refine Hid.out ?_))
    have hz1 : w1.heap.size ≤ w2.heap.size := by have := hO.size; simpa using this
    have HO1 := Lib.hid ((HA.out.only.drewN _).trans hO)
    have HR1 := Lib.hid hR1
    have hN9 : w.heap.size + 1 ≤ N := by simp at hN0; omega
    have HN := Lib.hid hN
    obtain ⟨⟨y0, k0⟩, ⟨y1, k1⟩, ⟨y2, k2⟩, ⟨y3, k3⟩, ⟨y4, k4⟩, ⟨y5, k5⟩, kf⟩ := (HA.out.box.drewN _).kept hO (by intro e; cases e; omega) (by simpa using hlt1)
    clear hO hN hN0 hR1
    refine Lib.hid ?_
    go_wp2
    refine bodyPost_ret (v := .tuple #[El.nil.v, .pointer (some ⟨N, 0, none⟩)]) (by simp [results, Tryd.results16, go_sem, *]) rfl ?_
    exact Res.err HO1.out (Nat.le_refl _) (by omega) (by omega) HN.out rfl rfl HR1.out hb _ _ _ _ _ _
  ·
    go_enter Tryd.func16, Tryd.ntmps16
    go_wp2_with (go_at_call 14; refine (skip_any b s p d _ (HR.out.alloc _) hp hs).mono ?_; rintro e w1 ⟨rfl, q', hpq', hq', hsk', hR0, hO0⟩; refine Hid.out ?_)
    obtain rfl : q' = q := L_inj s q' q hq' (by omega) (hsk'.symm.trans HK.out)
    have hA : At b s q' d w w1 := ⟨hR0, ((Only.refl b w).alloc _).trans hO0, (Box.new w _ _ _ _ _ _).kept hO0 (by intro e; cases e; omega) (by simp), by have := hO0.size; simp at this; omega⟩
    have HA := Lib.hid hA
    have h0' := hR0.c0
    have h1' := hR0.c1
    have hlt1 := hA.lt
    clear hsk' hR0 hO0 hA
    have hd : ((q' : Int) == (s.size : Int)) = false := by simp; omega
    refine Lib.hid ?_
    go_wp2_with (go_at_call 15; refine (ended_any b s q' d _ HA.out.rd).mono ?_; rintro e w' ⟨rfl, n1, rfl⟩)
    go_quiet (fail)
    go_wp2_with (first | (go_at_call 30; refine (HC.out _ (by exact HA.out.rd.drewN _) (by exact HG.out.only (HA.out.only.drewN _) hb6 (by omega))).mono ?_; rintro e w2 ⟨hO, x, t, rfl, rfl, hrep, hrd⟩; refine Hid.out ?_))
    have hz1 : w1.heap.size ≤ w2.heap.size := by have := hO.size; simpa using this
    have HO1 := Lib.hid ((HA.out.only.drewN _).trans hO)
    have HR1 := Lib.hid hrd
    have HRep := Lib.hid hrep
    obtain ⟨⟨y0, k0⟩, ⟨y1, k1⟩, ⟨y2, k2⟩, ⟨y3, k3⟩, ⟨y4, k4⟩, ⟨y5, k5⟩, kf⟩ := (HA.out.box.drewN _).kept hO (by intro e; cases e; omega) (by simpa using hlt1)
    clear hO hrep hrd
    obtain ⟨xk, xn, xtr, xtx, xm, xa, xlen, xcap⟩ := x
    refine Lib.hid ?_
    go_wp2
    refine bodyPost_ret (v := .tuple #[El.v ⟨xk, xn, xtr, xtx, xm, xa, xlen, xcap⟩, .pointer none]) (by simp [results, Tryd.results16, go_sem, *]) rfl ?_
    exact Res.ok HO1.out (Nat.le_refl _) (by simpa using hlt1) hb HRep.out HR1.out rfl _ _ _ _ _ _

set_option maxHeartbeats 1000000 in
theorem datum_word (b : Nat) (s : ByteArray) (p q d : Nat) (r : Py.R) (w : World) (h : Rd b s p d w) (hp : p ≤ s.size) (hs : s.size ≤ 1200) (hG : GV w) (hb6 : 6 ≤ b) (hk : Px.skip false (L s p) = L s q) (hlt : q < s.size)
    (c40 : ((s[q].toNat : Int) == 40) = false) (c39 : ((s[q].toNat : Int) == 39) = false) (c34 : ((s[q].toNat : Int) == 34) = false) (c35 : ((s[q].toNat : Int) == 35) = false) (hw : Px.wordB s[q] = true)
    (hC : ∀ w, Rd b s q d w → GV w → Calls Tryd.prog 32 #[.pointer (some ⟨b, 0, none⟩)] w fun e w' => Res b s d r w e w') :
    Calls Tryd.prog 16 #[.pointer (some ⟨b, 0, none⟩)] w fun e w' => Res b s d r w e w' := by
  have hb := h.lt
  have HR := Lib.hid h
  have HG := Lib.hid hG
  have HK := Lib.hid hk
  have HC := Lib.hid hC
  clear h hG hk hC
  rcases r with ⟨c, k⟩ | ⟨ts, rr⟩
  ·
    go_enter Tryd.func16, Tryd.ntmps16
    go_wp2_with (go_at_call 14; refine (skip_any b s p d _ (HR.out.alloc _) hp hs).mono ?_; rintro e w1 ⟨rfl, q', hpq', hq', hsk', hR0, hO0⟩; refine Hid.out ?_)
    obtain rfl : q' = q := L_inj s q' q hq' (by omega) (hsk'.symm.trans HK.out)
    have hA : At b s q' d w w1 := ⟨hR0, ((Only.refl b w).alloc _).trans hO0, (Box.new w _ _ _ _ _ _).kept hO0 (by intro e; cases e; omega) (by simp), by have := hO0.size; simp at this; omega⟩
    have HA := Lib.hid hA
    have h0' := hR0.c0
    have h1' := hR0.c1
    have hlt1 := hA.lt
    clear hsk' hR0 hO0 hA
    have hd : ((q' : Int) == (s.size : Int)) = false := by simp; omega
    refine Lib.hid ?_
    go_wp2_with (go_at_call 15; refine (ended_any b s q' d _ HA.out.rd).mono ?_; rintro e w' ⟨rfl, n1, rfl⟩)
    go_quiet (fail)
    go_wp2_with (first | (go_at_call 31; refine (isWordByte_any _ _).mono ?_; rintro e w' ⟨rfl, rfl⟩) | (go_at_call 32; refine (HC.out _ (by exact HA.out.rd.drewN _) (by exact HG.out.only (HA.out.only.drewN _) hb6 (by omega))).mono ?_; rintro e w2 ⟨hO, N, rfl, hN0, hN, p', hR1⟩; refine Hid.out ?_))
    have hz1 : w1.heap.size ≤ w2.heap.size := by have := hO.size; simpa using this
    have HO1 := Lib.hid ((HA.out.only.drewN _).trans hO)
    have HR1 := Lib.hid hR1
    have hN9 : w.heap.size + 1 ≤ N := by simp at hN0; omega
    have HN := Lib.hid hN
    obtain ⟨⟨y0, k0⟩, ⟨y1, k1⟩, ⟨y2, k2⟩, ⟨y3, k3⟩, ⟨y4, k4⟩, ⟨y5, k5⟩, kf⟩ := (HA.out.box.drewN _).kept hO (by intro e; cases e; omega) (by simpa using hlt1)
    clear hO hN hN0 hR1
    refine Lib.hid ?_
    go_wp2
    refine bodyPost_ret (v := .tuple #[El.nil.v, .pointer (some ⟨N, 0, none⟩)]) (by simp [results, Tryd.results16, go_sem, *]) rfl ?_
    exact Res.err HO1.out (Nat.le_refl _) (by omega) (by omega) HN.out rfl rfl HR1.out hb _ _ _ _ _ _
  ·
    go_enter Tryd.func16, Tryd.ntmps16
    go_wp2_with (go_at_call 14; refine (skip_any b s p d _ (HR.out.alloc _) hp hs).mono ?_; rintro e w1 ⟨rfl, q', hpq', hq', hsk', hR0, hO0⟩; refine Hid.out ?_)
    obtain rfl : q' = q := L_inj s q' q hq' (by omega) (hsk'.symm.trans HK.out)
    have hA : At b s q' d w w1 := ⟨hR0, ((Only.refl b w).alloc _).trans hO0, (Box.new w _ _ _ _ _ _).kept hO0 (by intro e; cases e; omega) (by simp), by have := hO0.size; simp at this; omega⟩
    have HA := Lib.hid hA
    have h0' := hR0.c0
    have h1' := hR0.c1
    have hlt1 := hA.lt
    clear hsk' hR0 hO0 hA
    have hd : ((q' : Int) == (s.size : Int)) = false := by simp; omega
    refine Lib.hid ?_
    go_wp2_with (go_at_call 15; refine (ended_any b s q' d _ HA.out.rd).mono ?_; rintro e w' ⟨rfl, n1, rfl⟩)
    go_quiet (fail)
    go_wp2_with (first | (go_at_call 31; refine (isWordByte_any _ _).mono ?_; rintro e w' ⟨rfl, rfl⟩) | (go_at_call 32; refine (HC.out _ (by exact HA.out.rd.drewN _) (by exact HG.out.only (HA.out.only.drewN _) hb6 (by omega))).mono ?_; rintro e w2 ⟨hO, x, t, rfl, rfl, hrep, hrd⟩; refine Hid.out ?_))
    have hz1 : w1.heap.size ≤ w2.heap.size := by have := hO.size; simpa using this
    have HO1 := Lib.hid ((HA.out.only.drewN _).trans hO)
    have HR1 := Lib.hid hrd
    have HRep := Lib.hid hrep
    obtain ⟨⟨y0, k0⟩, ⟨y1, k1⟩, ⟨y2, k2⟩, ⟨y3, k3⟩, ⟨y4, k4⟩, ⟨y5, k5⟩, kf⟩ := (HA.out.box.drewN _).kept hO (by intro e; cases e; omega) (by simpa using hlt1)
    clear hO hrep hrd
    obtain ⟨xk, xn, xtr, xtx, xm, xa, xlen, xcap⟩ := x
    refine Lib.hid ?_
    go_wp2
    refine bodyPost_ret (v := .tuple #[El.v ⟨xk, xn, xtr, xtx, xm, xa, xlen, xcap⟩, .pointer none]) (by simp [results, Tryd.results16, go_sem, *]) rfl ?_
    exact Res.ok HO1.out (Nat.le_refl _) (by simpa using hlt1) hb HRep.out HR1.out rfl _ _ _ _ _ _

set_option maxHeartbeats 1000000 in
theorem datum_end (b : Nat) (s : ByteArray) (p q d : Nat) (w : World) (h : Rd b s p d w) (hp : p ≤ s.size) (hs : s.size ≤ 1200) (hk : Px.skip false (L s p) = L s q) (hq : q = s.size) :
    Calls Tryd.prog 16 #[.pointer (some ⟨b, 0, none⟩)] w fun e w' => Res b s d (.inl (3, 0)) w e w' := by
  have hb := h.lt
  have HR := Lib.hid h
  have HK := Lib.hid hk
  clear h hk
  go_enter Tryd.func16, Tryd.ntmps16
  go_wp2_with (go_at_call 14; refine (skip_any b s p d _ (HR.out.alloc _) hp hs).mono ?_; rintro e w1 ⟨rfl, q', hpq', hq', hsk', hR0, hO0⟩; refine Hid.out ?_)
  obtain rfl : q' = q := L_inj s q' q hq' (by omega) (hsk'.symm.trans HK.out)
  have hA : At b s q' d w w1 := ⟨hR0, ((Only.refl b w).alloc _).trans hO0, (Box.new w _ _ _ _ _ _).kept hO0 (by intro e; cases e; omega) (by simp), by have := hO0.size; simp at this; omega⟩
  have HA := Lib.hid hA
  have h0' := hR0.c0
  have h1' := hR0.c1
  have hlt1 := hA.lt
  clear hsk' hR0 hO0 hA
  have hd : ((q' : Int) == (s.size : Int)) = true := by simp; omega
  have HQ := Lib.hid hq
  clear hq
  refine Lib.hid ?_
  go_wp2_with (first | (go_at_call 15; refine (ended_any b s q' d _ HA.out.rd).mono ?_; rintro e w' ⟨rfl, n1, rfl⟩) | (go_at_call 25; refine (fail_any _ _ _).mono ?_; rintro e w' ⟨N, rfl, hN, hN2, hbl⟩; refine Hid.out ?_))
  have hO2 : Only b w w' := Only.of (HA.out.only.drewN _) hbl
  have HR9 := Lib.hid ((HA.out.rd.drewN _).below hbl (by first | omega | (simp; done) | (simp; omega)))
  have hx : Box w.heap.size w' := (HA.out.box.drewN _).below hbl (by first | omega | (simp; done) | (simp; omega))
  have hsz : w.heap.size + 1 ≤ N := by first | omega | (simp at hN; omega)
  obtain ⟨⟨y0, k0⟩, ⟨y1, k1⟩, ⟨y2, k2⟩, ⟨y3, k3⟩, ⟨y4, k4⟩, ⟨y5, k5⟩, kf⟩ := hx
  have HN2 := Lib.hid hN2
  have HO2 := Lib.hid hO2
  clear hN hN2 hbl hO2
  refine Lib.hid ?_
  go_wp2
  refine bodyPost_ret (v := .tuple #[El.nil.v, .pointer (some ⟨N, 0, none⟩)]) (by simp [results, Tryd.results16, go_sem, *]) rfl ?_
  exact Res.err HO2.out (Nat.le_refl _) (by omega) (by omega) HN2.out rfl (by have := HQ.out; simp; omega) HR9.out (by omega) _ _ _ _ _ _

set_option maxHeartbeats 1000000 in
theorem datum_bad (b : Nat) (s : ByteArray) (p q d : Nat) (w : World) (h : Rd b s p d w) (hp : p ≤ s.size) (hs : s.size ≤ 1200) (hk : Px.skip false (L s p) = L s q) (hlt : q < s.size)
    (c40 : ((s[q].toNat : Int) == 40) = false) (c39 : ((s[q].toNat : Int) == 39) = false) (c34 : ((s[q].toNat : Int) == 34) = false) (c35 : ((s[q].toNat : Int) == 35) = false) (hw : Px.wordB s[q] = false) :
    Calls Tryd.prog 16 #[.pointer (some ⟨b, 0, none⟩)] w fun e w' => Res b s d (.inl (2, s.size - q)) w e w' := by
  have hb := h.lt
  have HR := Lib.hid h
  have HK := Lib.hid hk
  clear h hk
  go_enter Tryd.func16, Tryd.ntmps16
  go_wp2_with (go_at_call 14; refine (skip_any b s p d _ (HR.out.alloc _) hp hs).mono ?_; rintro e w1 ⟨rfl, q', hpq', hq', hsk', hR0, hO0⟩; refine Hid.out ?_)
  obtain rfl : q' = q := L_inj s q' q hq' (by omega) (hsk'.symm.trans HK.out)
  have hA : At b s q' d w w1 := ⟨hR0, ((Only.refl b w).alloc _).trans hO0, (Box.new w _ _ _ _ _ _).kept hO0 (by intro e; cases e; omega) (by simp), by have := hO0.size; simp at this; omega⟩
  have HA := Lib.hid hA
  have h0' := hR0.c0
  have h1' := hR0.c1
  have hlt1 := hA.lt
  clear hsk' hR0 hO0 hA
  have hd : ((q' : Int) == (s.size : Int)) = false := by simp; omega
  refine Lib.hid ?_
  go_wp2_with (first | (go_at_call 15; refine (ended_any b s q' d _ HA.out.rd).mono ?_; rintro e w' ⟨rfl, n1, rfl⟩) | (go_at_call 31; refine (isWordByte_any _ _).mono ?_; rintro e w' ⟨rfl, rfl⟩) | (go_at_call 25; refine (fail_any _ _ _).mono ?_; rintro e w' ⟨N, rfl, hN, hN2, hbl⟩; refine Hid.out ?_))
  go_quiet (fail)
  go_wp2_with (first | (go_at_call 31; refine (isWordByte_any _ _).mono ?_; rintro e w' ⟨rfl, rfl⟩) | (go_at_call 25; refine (fail_any _ _ _).mono ?_; rintro e w' ⟨N, rfl, hN, hN2, hbl⟩; refine Hid.out ?_))
  have hO2 : Only b w w' := Only.of (HA.out.only.drewN _) hbl
  have HR9 := Lib.hid ((HA.out.rd.drewN _).below hbl (by first | omega | (simp; done) | (simp; omega)))
  have hx : Box w.heap.size w' := (HA.out.box.drewN _).below hbl (by first | omega | (simp; done) | (simp; omega))
  have hsz : w.heap.size + 1 ≤ N := by first | omega | (simp at hN; omega)
  obtain ⟨⟨y0, k0⟩, ⟨y1, k1⟩, ⟨y2, k2⟩, ⟨y3, k3⟩, ⟨y4, k4⟩, ⟨y5, k5⟩, kf⟩ := hx
  have HN2 := Lib.hid hN2
  have HO2 := Lib.hid hO2
  clear hN hN2 hbl hO2
  refine Lib.hid ?_
  go_wp2
  refine bodyPost_ret (v := .tuple #[El.nil.v, .pointer (some ⟨N, 0, none⟩)]) (by simp [results, Tryd.results16, go_sem, *]) rfl ?_
  exact Res.err HO2.out (Nat.le_refl _) (by omega) (by omega) HN2.out rfl (by omega) HR9.out (by omega) _ _ _ _ _ _

theorem datum_all : ∀ F : Nat, DatumSaid F := by
  intro F
  induction F using Nat.strongRecOn with
  | ind F ih =>
    intro b s p d w h hp hs hd30 hG hb6 hF
    obtain ⟨f, rfl⟩ : ∃ f, F = f + 1 := ⟨F - 1, by omega⟩
    obtain ⟨q, hpq, hq, hk⟩ : ∃ q, p ≤ q ∧ q ≤ s.size ∧ Px.skip false (L s p) = L s q := by
      have hs1 := Px.skip_suf (L s p) false
      refine ⟨s.size - (Px.skip false (L s p)).length, ?_, by omega, (L_suf s p _ hs1).symm⟩
      have := hs1.length_le
      rw [L_len] at this; omega
    by_cases hlt : q < s.size
    · cases c40 : ((s[q].toNat : Int) == 40)
      · cases c39 : ((s[q].toNat : Int) == 39)
        · cases c34 : ((s[q].toNat : Int) == 34)
          · cases c35 : ((s[q].toNat : Int) == 35)
            · have n40 := beq_eq_false_iff_ne.1 c40
              have n39 := beq_eq_false_iff_ne.1 c39
              have n34 := beq_eq_false_iff_ne.1 c34
              have n35 := beq_eq_false_iff_ne.1 c35
              cases hw : Px.wordB s[q]
              · rw [rdF_bad f d s p q hk hlt (by omega) (by omega) (by omega) (by omega) hw]
                exact datum_bad b s p q d w h hp hs hk hlt c40 c39 c34 c35 hw
              · rw [rdF_word f d s p q hk hlt (by omega) (by omega) (by omega) (by omega) hw]
                exact datum_word b s p q d _ w h hp hs hG hb6 hk hlt c40 c39 c34 c35 hw (fun w0 h1 h2 => word_any b s q d w0 h1 hlt hs hd30 h2 hb6)
            · rw [rdF_truth f d s p q hk hlt (by have := beq_iff_eq.1 c35; omega)]
              exact datum_truth b s p q d _ w h hp hs hG hb6 hk hlt c40 c39 c34 c35 (fun w0 h1 _ => truth_any b s q d w0 h1 hlt hs hd30)
          · rw [rdF_str f d s p q hk hlt (by have := beq_iff_eq.1 c34; omega)]
            exact datum_str b s p q d _ w h hp hs hG hb6 hk hlt c40 c39 c34 (fun w0 h1 _ => string_any b s q d w0 h1 hlt hs hd30)
        · have e39 : s[q].toNat = 39 := by have := beq_iff_eq.1 c39; omega
          by_cases hd : d = 30
          · rw [rdF_deep f d s p q hk hlt (.inr e39) hd]
            exact datum_quote b s p q d _ w h hp hs hG hb6 hk hlt c40 c39 (fun w0 h1 _ => nested28_deep b s q d w0 h1 hlt hs hd)
          · rw [rdF_quote f d s p q hk hlt e39 hd]
            exact datum_quote b s p q d _ w h hp hs hG hb6 hk hlt c40 c39 (fun w0 h1 h2 => nested28_in b s q d _ w0 h1 hlt hs (by omega) h2 hb6 (fun w2 h3 h4 => quoted_any b s (q + 1) (d + 1) _ w2 h3 (by omega) h4 hb6 (fun w3 h5 h6 => ih f (by omega) b s (q + 1) (d + 1) w3 h5 (by omega) hs (by omega) h6 hb6 (by omega))))
      · have e40 : s[q].toNat = 40 := by have := beq_iff_eq.1 c40; omega
        by_cases hd : d = 30
        · rw [rdF_deep f d s p q hk hlt (.inl e40) hd]
          exact datum_paren b s p q d _ w h hp hs hG hb6 hk hlt c40 (fun w0 h1 _ => nested27_deep b s q d w0 h1 hlt hs hd)
        · rw [rdF_list f d s p q hk hlt e40 hd]
          exact datum_paren b s p q d _ w h hp hs hG hb6 hk hlt c40 (fun w0 h1 h2 => nested27_in b s q d _ w0 h1 hlt hs (by omega) h2 hb6 (fun w2 h3 h4 => list_any f b s (q + 1) (d + 1) w2 h3 (by omega) hs (by omega) h4 hb6 (by omega) (fun F' hF' => ih F' (by omega))))
    · rw [rdF_end f d s p q hk (by omega)]
      exact datum_end b s p q d w h hp hs hk (by omega)

end Go.Proofs.YtbgmenglfgodbaaDoor
