/-
  OUR OWN. The walk of reader.nested.
-/
import Derived.Test.YtbgmenglfgodbaaDoorWord
namespace Go.Proofs.YtbgmenglfgodbaaDoor
open Go.RowKit

/-- What list and quoted answer, in d lists: a datum that is one list less deep. -/
def ResN (b : Nat) (s : ByteArray) (d : Nat) (r : Py.R) (w : World) (e : Ending) (w' : World) : Prop :=
  Only b w w' ∧
  match r with
  | .inl (c, k) => ∃ N, e = .returned (.tuple #[El.nil.v, .pointer (some ⟨N, 0, none⟩)]) ∧ w.heap.size ≤ N ∧ w'.heap[N]? = some (.cells #[.int .i64 (c : Int), .int .i64 ((s.size - k : Nat) : Int)] 31 (0, 0)) ∧ ∃ p', Rd b s p' d w'
  | .inr (ts, r) => ∃ (x : El) (t : Dt), ts = [t] ∧ e = .returned (.tuple #[x.v, .pointer none]) ∧ Rep w.heap.size NoB w' (33 - d) x t ∧ Rd b s (s.size - r.length) d w'

theorem Rd.grownD {b : Nat} {s : ByteArray} {p d : Nat} {w w' : World} {g : Nat} (h : Rd b s p d w) (hg : w.grownBy w' (some g)) (hne : b ≠ g) : Rd b s p d w' := h.kept hg (by intro e; cases e; exact hne rfl)

set_option maxHeartbeats 1000000 in
theorem nested27_deep (b : Nat) (s : ByteArray) (p d : Nat) (w : World) (h : Rd b s p d w) (hp : p < s.size) (hs : s.size ≤ 1200) (hd : d = 30) :
    Calls Tryd.prog 26 #[.pointer (some ⟨b, 0, none⟩), .func (.func 27) #[.pointer (some ⟨b, 0, none⟩)] #[]] w fun e w' => Res b s d (.inl (4, s.size - p)) w e w' := by
  have hb := h.lt
  have h1 := h.c1
  have h2 := h.c2
  have HR := Lib.hid h
  have hdi : ((d : Int) == 30) = true := by simp; omega
  clear h hd
  go_enter Tryd.func26, Tryd.ntmps26
  go_wp2_with (go_at_call 25; refine (fail_any _ _ _).mono ?_; rintro e w' ⟨N, rfl, hN, hN2, hbl⟩; refine Hid.out ?_)
  have hO2 : Only b w w' := Only.of ((Only.refl b w).alloc _) hbl
  have HR9 := Lib.hid ((HR.out.alloc _).below hbl (by first | omega | (simp; done) | (simp; omega)))
  have hx : Box w.heap.size w' := (Box.new w _ _ _ _ _ _).below hbl (by first | omega | (simp; done) | (simp; omega))
  have hsz : w.heap.size + 1 ≤ N := by first | omega | (simp at hN; omega)
  obtain ⟨⟨y0, k0⟩, ⟨y1, k1⟩, ⟨y2, k2⟩, ⟨y3, k3⟩, ⟨y4, k4⟩, ⟨y5, k5⟩, kf⟩ := hx
  have HN2 := Lib.hid hN2
  have HO2 := Lib.hid hO2
  clear hN hN2 hbl hO2
  refine Lib.hid ?_
  go_wp2
  refine bodyPost_ret (v := .tuple #[El.nil.v, .pointer (some ⟨N, 0, none⟩)]) (by simp [results, Tryd.results26, go_sem, *]) rfl ?_
  exact Res.err HO2.out (Nat.le_refl _) (by omega) (by omega) HN2.out rfl (by omega) HR9.out (by omega) _ _ _ _ _ _

set_option maxHeartbeats 1000000 in
theorem nested27_in (b : Nat) (s : ByteArray) (p d : Nat) (r : Py.R) (w : World) (h : Rd b s p d w) (hp : p < s.size) (hs : s.size ≤ 1200) (hd30 : d < 30) (hG : GV w) (hb6 : 6 ≤ b)
    (hk : ∀ w, Rd b s (p + 1) (d + 1) w → GV w → Calls Tryd.prog 27 #[.pointer (some ⟨b, 0, none⟩)] w fun e w' => ResN b s (d + 1) r w e w') :
    Calls Tryd.prog 26 #[.pointer (some ⟨b, 0, none⟩), .func (.func 27) #[.pointer (some ⟨b, 0, none⟩)] #[]] w fun e w' => Res b s d r w e w' := by
  have hb := h.lt
  have h1 := h.c1
  have h2 := h.c2
  have hf := h.fz 1
  have hf2 := h.fz 2
  have HR := Lib.hid h
  have HG := Lib.hid hG
  have HK := Lib.hid hk
  clear h hG hk
  have hdi : ((d : Int) == 30) = false := by simp; omega
  rcases r with ⟨c, k⟩ | ⟨ts, rr⟩
  · go_enter Tryd.func26, Tryd.ntmps26
    go_wp2_with (go_at_call 27; refine (HK.out _ (by exact ((HR.out.set1 (p + 1) _ (by omega)).set2 (d + 1) _ (by omega)).alloc _) (by exact (HG.out.only ((((Only.refl b w).set _ _).set _ _).alloc _) hb6 (by omega)))).mono ?_; rintro e w1 ⟨hO, N, rfl, hN0, hN, p', hR1⟩; refine Hid.out ?_)
    have hz1 : w.heap.size + 1 ≤ w1.heap.size := by have := hO.size; simp at this; omega
    have hb1 : b < w1.heap.size := by omega
    have hzl : w.heap.size < w1.heap.size := by omega
    have hbn : ¬ b = w.heap.size := by omega
    have hbn' : ¬ w.heap.size = b := by omega
    have HO1 := Lib.hid (((((Only.refl b w).set _ _).set _ _).alloc _).trans hO)
    have g2 := hR1.c2
    have gf := hR1.fz 2
    have HR1 := Lib.hid hR1
    obtain ⟨⟨y0, k0⟩, ⟨y1, k1⟩, ⟨y2, k2⟩, ⟨y3, k3⟩, ⟨y4, k4⟩, ⟨y5, k5⟩, kf⟩ := (Box.new2 w _ _ _ _ _ _ _ _ _ _).kept hO (by intro e; cases e; omega) (by simp)
    have hN9 : w.heap.size + 1 ≤ N := by simpa using hN0
    have HN := Lib.hid hN
    clear hO hN hN0 hR1
    refine Lib.hid ?_
    go_wp2
    refine bodyPost_ret (v := .tuple #[El.nil.v, .pointer (some ⟨N, 0, none⟩)]) (by simp [results, Tryd.results26, go_sem, *]) rfl ?_
    exact (Res.err (HO1.out.set 2 _) (Nat.le_refl _) (by omega) (by omega) (by rw [Below.heap_setCell _ _ _ _ (by show N ≠ b; omega)]; exact HN.out) rfl rfl (HR1.out.set2 d _ rfl) hb _ _ _ _ _ _).alloc _
  · go_enter Tryd.func26, Tryd.ntmps26
    go_wp2_with (go_at_call 27; refine (HK.out _ (by exact ((HR.out.set1 (p + 1) _ (by omega)).set2 (d + 1) _ (by omega)).alloc _) (by exact (HG.out.only ((((Only.refl b w).set _ _).set _ _).alloc _) hb6 (by omega)))).mono ?_; rintro e w1 ⟨hO, x, t, rfl, rfl, hrep, hrd⟩; refine Hid.out ?_)
    have hz1 : w.heap.size + 1 ≤ w1.heap.size := by have := hO.size; simp at this; omega
    have hb1 : b < w1.heap.size := by omega
    have hzl : w.heap.size < w1.heap.size := by omega
    have hbn : ¬ b = w.heap.size := by omega
    have hbn' : ¬ w.heap.size = b := by omega
    have HO1 := Lib.hid (((((Only.refl b w).set _ _).set _ _).alloc _).trans hO)
    have g2 := hrd.c2
    have gf := hrd.fz 2
    have HR1 := Lib.hid hrd
    obtain ⟨⟨y0, k0⟩, ⟨y1, k1⟩, ⟨y2, k2⟩, ⟨y3, k3⟩, ⟨y4, k4⟩, ⟨y5, k5⟩, kf⟩ := (Box.new2 w _ _ _ _ _ _ _ _ _ _).kept hO (by intro e; cases e; omega) (by simp)
    have HRep := Lib.hid hrep
    clear hO hrep hrd
    obtain ⟨xk, xn, xtr, xtx, xm, xa, xlen, xcap⟩ := x
    refine Lib.hid ?_
    go_wp2
    refine bodyPost_ret (v := .tuple #[El.v ⟨xk, xn, xtr, xtx, xm, xa, xlen, xcap⟩, .pointer none]) (by simp [results, Tryd.results26, go_sem, *]) rfl ?_
    have hrep := HRep.out
    rw [show 33 - (d + 1) = 32 - d from by omega] at hrep
    exact (Res.ok (HO1.out.set 2 _) (Nat.le_refl _) (by simp) hb (Rep.kept ((Only.refl b w1).set 2 _) (fun g h => by cases h; left; simp; omega) hrep) (HR1.out.set2 d _ rfl) rfl _ _ _ _ _ _).alloc _

set_option maxHeartbeats 1000000 in
theorem nested28_deep (b : Nat) (s : ByteArray) (p d : Nat) (w : World) (h : Rd b s p d w) (hp : p < s.size) (hs : s.size ≤ 1200) (hd : d = 30) :
    Calls Tryd.prog 26 #[.pointer (some ⟨b, 0, none⟩), .func (.func 28) #[.pointer (some ⟨b, 0, none⟩)] #[]] w fun e w' => Res b s d (.inl (4, s.size - p)) w e w' := by
  have hb := h.lt
  have h1 := h.c1
  have h2 := h.c2
  have HR := Lib.hid h
  have hdi : ((d : Int) == 30) = true := by simp; omega
  clear h hd
  go_enter Tryd.func26, Tryd.ntmps26
  go_wp2_with (go_at_call 25; refine (fail_any _ _ _).mono ?_; rintro e w' ⟨N, rfl, hN, hN2, hbl⟩; refine Hid.out ?_)
  have hO2 : Only b w w' := Only.of ((Only.refl b w).alloc _) hbl
  have HR9 := Lib.hid ((HR.out.alloc _).below hbl (by first | omega | (simp; done) | (simp; omega)))
  have hx : Box w.heap.size w' := (Box.new w _ _ _ _ _ _).below hbl (by first | omega | (simp; done) | (simp; omega))
  have hsz : w.heap.size + 1 ≤ N := by first | omega | (simp at hN; omega)
  obtain ⟨⟨y0, k0⟩, ⟨y1, k1⟩, ⟨y2, k2⟩, ⟨y3, k3⟩, ⟨y4, k4⟩, ⟨y5, k5⟩, kf⟩ := hx
  have HN2 := Lib.hid hN2
  have HO2 := Lib.hid hO2
  clear hN hN2 hbl hO2
  refine Lib.hid ?_
  go_wp2
  refine bodyPost_ret (v := .tuple #[El.nil.v, .pointer (some ⟨N, 0, none⟩)]) (by simp [results, Tryd.results26, go_sem, *]) rfl ?_
  exact Res.err HO2.out (Nat.le_refl _) (by omega) (by omega) HN2.out rfl (by omega) HR9.out (by omega) _ _ _ _ _ _

set_option maxHeartbeats 1000000 in
theorem nested28_in (b : Nat) (s : ByteArray) (p d : Nat) (r : Py.R) (w : World) (h : Rd b s p d w) (hp : p < s.size) (hs : s.size ≤ 1200) (hd30 : d < 30) (hG : GV w) (hb6 : 6 ≤ b)
    (hk : ∀ w, Rd b s (p + 1) (d + 1) w → GV w → Calls Tryd.prog 28 #[.pointer (some ⟨b, 0, none⟩)] w fun e w' => ResN b s (d + 1) r w e w') :
    Calls Tryd.prog 26 #[.pointer (some ⟨b, 0, none⟩), .func (.func 28) #[.pointer (some ⟨b, 0, none⟩)] #[]] w fun e w' => Res b s d r w e w' := by
  have hb := h.lt
  have h1 := h.c1
  have h2 := h.c2
  have hf := h.fz 1
  have hf2 := h.fz 2
  have HR := Lib.hid h
  have HG := Lib.hid hG
  have HK := Lib.hid hk
  clear h hG hk
  have hdi : ((d : Int) == 30) = false := by simp; omega
  rcases r with ⟨c, k⟩ | ⟨ts, rr⟩
  · go_enter Tryd.func26, Tryd.ntmps26
    go_wp2_with (go_at_call 28; refine (HK.out _ (by exact ((HR.out.set1 (p + 1) _ (by omega)).set2 (d + 1) _ (by omega)).alloc _) (by exact (HG.out.only ((((Only.refl b w).set _ _).set _ _).alloc _) hb6 (by omega)))).mono ?_; rintro e w1 ⟨hO, N, rfl, hN0, hN, p', hR1⟩; refine Hid.out ?_)
    have hz1 : w.heap.size + 1 ≤ w1.heap.size := by have := hO.size; simp at this; omega
    have hb1 : b < w1.heap.size := by omega
    have hzl : w.heap.size < w1.heap.size := by omega
    have hbn : ¬ b = w.heap.size := by omega
    have hbn' : ¬ w.heap.size = b := by omega
    have HO1 := Lib.hid (((((Only.refl b w).set _ _).set _ _).alloc _).trans hO)
    have g2 := hR1.c2
    have gf := hR1.fz 2
    have HR1 := Lib.hid hR1
    obtain ⟨⟨y0, k0⟩, ⟨y1, k1⟩, ⟨y2, k2⟩, ⟨y3, k3⟩, ⟨y4, k4⟩, ⟨y5, k5⟩, kf⟩ := (Box.new2 w _ _ _ _ _ _ _ _ _ _).kept hO (by intro e; cases e; omega) (by simp)
    have hN9 : w.heap.size + 1 ≤ N := by simpa using hN0
    have HN := Lib.hid hN
    clear hO hN hN0 hR1
    refine Lib.hid ?_
    go_wp2
    refine bodyPost_ret (v := .tuple #[El.nil.v, .pointer (some ⟨N, 0, none⟩)]) (by simp [results, Tryd.results26, go_sem, *]) rfl ?_
    exact (Res.err (HO1.out.set 2 _) (Nat.le_refl _) (by omega) (by omega) (by rw [Below.heap_setCell _ _ _ _ (by show N ≠ b; omega)]; exact HN.out) rfl rfl (HR1.out.set2 d _ rfl) hb _ _ _ _ _ _).alloc _
  · go_enter Tryd.func26, Tryd.ntmps26
    go_wp2_with (go_at_call 28; refine (HK.out _ (by exact ((HR.out.set1 (p + 1) _ (by omega)).set2 (d + 1) _ (by omega)).alloc _) (by exact (HG.out.only ((((Only.refl b w).set _ _).set _ _).alloc _) hb6 (by omega)))).mono ?_; rintro e w1 ⟨hO, x, t, rfl, rfl, hrep, hrd⟩; refine Hid.out ?_)
    have hz1 : w.heap.size + 1 ≤ w1.heap.size := by have := hO.size; simp at this; omega
    have hb1 : b < w1.heap.size := by omega
    have hzl : w.heap.size < w1.heap.size := by omega
    have hbn : ¬ b = w.heap.size := by omega
    have hbn' : ¬ w.heap.size = b := by omega
    have HO1 := Lib.hid (((((Only.refl b w).set _ _).set _ _).alloc _).trans hO)
    have g2 := hrd.c2
    have gf := hrd.fz 2
    have HR1 := Lib.hid hrd
    obtain ⟨⟨y0, k0⟩, ⟨y1, k1⟩, ⟨y2, k2⟩, ⟨y3, k3⟩, ⟨y4, k4⟩, ⟨y5, k5⟩, kf⟩ := (Box.new2 w _ _ _ _ _ _ _ _ _ _).kept hO (by intro e; cases e; omega) (by simp)
    have HRep := Lib.hid hrep
    clear hO hrep hrd
    obtain ⟨xk, xn, xtr, xtx, xm, xa, xlen, xcap⟩ := x
    refine Lib.hid ?_
    go_wp2
    refine bodyPost_ret (v := .tuple #[El.v ⟨xk, xn, xtr, xtx, xm, xa, xlen, xcap⟩, .pointer none]) (by simp [results, Tryd.results26, go_sem, *]) rfl ?_
    have hrep := HRep.out
    rw [show 33 - (d + 1) = 32 - d from by omega] at hrep
    exact (Res.ok (HO1.out.set 2 _) (Nat.le_refl _) (by simp) hb (Rep.kept ((Only.refl b w1).set 2 _) (fun g h => by cases h; left; simp; omega) hrep) (HR1.out.set2 d _ rfl) rfl _ _ _ _ _ _).alloc _

end Go.Proofs.YtbgmenglfgodbaaDoor
