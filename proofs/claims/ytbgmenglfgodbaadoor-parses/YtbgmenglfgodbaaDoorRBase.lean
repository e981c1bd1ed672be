/-
  OUR OWN. The document's reader in memory, and its small functions.
-/
import Derived.Test.YtbgmenglfgodbaaDoorSkip
import Derived.Test.YtbgmenglfgodbaaDoorRep
namespace Go.Proofs.YtbgmenglfgodbaaDoor
open Go.RowKit

/-- Block b is the document's reader: its text, how far it is, what is wrong, and where. -/
def Rr (b : Nat) (s : ByteArray) (p E A : Nat) (w : World) : Prop :=
  w.heap[b]? = some (.cells #[.string s, .int .i64 (p : Int), .int .i64 (E : Int), .int .i64 (A : Int)] 76 (0, 0))

theorem Rr.c0 {b : Nat} {s : ByteArray} {p E A : Nat} {w : World} (h : Rr b s p E A w) : w.cell? ⟨b, 0, none⟩ = some (.string s) := by
  unfold Rr at h; simp [World.cell?, h]
theorem Rr.c1 {b : Nat} {s : ByteArray} {p E A : Nat} {w : World} (h : Rr b s p E A w) : w.cell? ⟨b, 1, none⟩ = some (.int .i64 (p : Int)) := by
  unfold Rr at h; simp [World.cell?, h]
theorem Rr.c2 {b : Nat} {s : ByteArray} {p E A : Nat} {w : World} (h : Rr b s p E A w) : w.cell? ⟨b, 2, none⟩ = some (.int .i64 (E : Int)) := by
  unfold Rr at h; simp [World.cell?, h]
theorem Rr.c3 {b : Nat} {s : ByteArray} {p E A : Nat} {w : World} (h : Rr b s p E A w) : w.cell? ⟨b, 3, none⟩ = some (.int .i64 (A : Int)) := by
  unfold Rr at h; simp [World.cell?, h]
theorem Rr.fz {b : Nat} {s : ByteArray} {p E A : Nat} {w : World} (h : Rr b s p E A w) (o : Nat) : w.frozen? ⟨b, o, none⟩ = false := by
  unfold Rr at h; simp [World.frozen?, h]
theorem Rr.lt {b : Nat} {s : ByteArray} {p E A : Nat} {w : World} (h : Rr b s p E A w) : b < w.heap.size := (Array.getElem?_eq_some_iff.1 h).1
theorem Rr.drewN {b : Nat} {s : ByteArray} {p E A : Nat} {w : World} (h : Rr b s p E A w) (n : Nat) : Rr b s p E A (w.drewN n) := h
theorem Rr.alloc {b : Nat} {s : ByteArray} {p E A : Nat} {w : World} (h : Rr b s p E A w) (o : Obj) : Rr b s p E A (w.alloc o) := by
  have := h.lt
  unfold Rr at *; rw [Below.heap_alloc w o b this]; exact h
theorem Rr.set1 {b : Nat} {s : ByteArray} {p E A : Nat} {w : World} (h : Rr b s p E A w) (q : Nat) (z : Int) (hz : z = (q : Int)) : Rr b s q E A (w.setCell ⟨b, 1, none⟩ (.int .i64 z)) := by
  subst hz; unfold Rr at *; simp [World.setCell, Array.getElem?_modify, h]
theorem Rr.set2 {b : Nat} {s : ByteArray} {p E A : Nat} {w : World} (h : Rr b s p E A w) (q : Nat) (z : Int) (hz : z = (q : Int)) : Rr b s p q A (w.setCell ⟨b, 2, none⟩ (.int .i64 z)) := by
  subst hz; unfold Rr at *; simp [World.setCell, Array.getElem?_modify, h]
theorem Rr.set3 {b : Nat} {s : ByteArray} {p E A : Nat} {w : World} (h : Rr b s p E A w) (q : Nat) (z : Int) (hz : z = (q : Int)) : Rr b s p E q (w.setCell ⟨b, 3, none⟩ (.int .i64 z)) := by
  subst hz; unfold Rr at *; simp [World.setCell, Array.getElem?_modify, h]
theorem Rr.kept {b : Nat} {s : ByteArray} {p E A : Nat} {w w' : World} {row : Option Nat} (h : Rr b s p E A w) (hg : w.grownBy w' row) (hne : some b ≠ row) : Rr b s p E A w' := by
  have := h.lt
  unfold Rr at *; rw [hg.block b this hne]; exact h
theorem Rr.pos {b : Nat} {s : ByteArray} {p E A : Nat} {w : World} (h : Rr b s p E A w) : posOf b w = p := by
  unfold posOf; rw [h.c1]; simp

set_option maxHeartbeats 400000 in
theorem bad_any (b : Nat) (s : ByteArray) (p : Nat) (e at' : Nat) (w : World) (h : Rr b s p 0 0 w) :
    Calls Tryd.prog 38 #[.pointer (some ⟨b, 0, none⟩), .int .i64 (e : Int), .int .i64 (at' : Int)] w fun r w' => (∃ g, r = .returned (.pointer (some ⟨g, 0, none⟩)) ∧ w.heap.size ≤ g) ∧ Rr b s p e at' w' ∧ Only b w w' := by
  have h2 : w.cell? ⟨b, 2, none⟩ = some (.int .i64 0) := h.c2
  have h3 : w.cell? ⟨b, 3, none⟩ = some (.int .i64 0) := h.c3
  have f2 := h.fz 2
  have f3 := h.fz 3
  have hb := h.lt
  have HR := Lib.hid h
  clear h
  go_enter Tryd.func38, Tryd.ntmps38
  go_wp2
  go_ret
  exact ⟨⟨w.heap.size, rfl, Nat.le_refl _⟩, ((HR.out.set2 e _ rfl).set3 at' _ rfl).alloc _, (((Only.refl b w).set _ _).set _ _).alloc _⟩

theorem sk_true (s : ByteArray) (q : Nat) (h : q < s.size) : Px.skip true (L s q) = Px.skip ((s[q].toNat : Int) != 10) (L s (q + 1)) := by
  rw [L_lt s q h, Px.skip]
  by_cases hc : s[q].toNat = 10
  · rw [if_pos hc]; simp [hc]
  · rw [if_neg hc]
    have : ((s[q].toNat : Int) != 10) = true := by rw [bne_iff_ne]; omega
    rw [this]
theorem sk_nil (s : ByteArray) (q : Nat) (c : Bool) (h : s.size ≤ q) : Px.skip c (L s q) = L s q := by
  rw [L_end s q h]; cases c <;> rfl

theorem meas {b : Nat} {s : ByteArray} {q E A q0 : Nat} {wr W : World} (h : Rr b s q E A W) (h0 : posOf b wr = q0) (hlt : q0 < q) (hq : q ≤ s.size) : s.size - posOf b W < s.size - posOf b wr := by
  rw [h.pos, h0]; omega

set_option maxHeartbeats 800000 in
theorem blanks_any (b : Nat) (s : ByteArray) (p E A : Nat) (w : World) (h : Rr b s p E A w) (hp : p ≤ s.size) (hs : s.size ≤ 1200) :
    Calls Tryd.prog 21 #[.pointer (some ⟨b, 0, none⟩)] w fun e w' => e = .returned (.tuple #[]) ∧ ∃ q, p ≤ q ∧ q ≤ s.size ∧ Px.skip false (L s p) = L s q ∧ Rr b s q E A w' ∧ Only b w w' := by
  go_enter Tryd.func21, Tryd.ntmps21
  go_wp2
  go_loopw [2] (fun cv wr => ∃ (q : Nat) (c : Bool), p ≤ q ∧ q ≤ s.size ∧ cv = .bool c ∧ Px.skip false (L s p) = Px.skip c (L s q) ∧ Rr b s q E A wr ∧ Only b w wr) (fun _ wr => s.size - posOf b wr)
  case atStart => exact ⟨p, false, Nat.le_refl _, hp, rfl, rfl, h, Only.refl _ _⟩
  case round =>
    obtain ⟨q, c, hpq, hq, rfl, hsk, hR, hO⟩ := hrel
    have HS := Lib.hid hsk
    have h0 := hR.c0
    have h1 := hR.c1
    have hf := hR.fz 1
    have HR := Lib.hid hR
    have HO := Lib.hid hO
    have HPos : Hid (posOf b wr = q) := hR.pos
    clear hsk hR hO h
    by_cases hlt : q < s.size
    · cases c
      · cases c59 : ((s[q].toNat : Int) == 59)
        · by_cases hbl : (s[q].toNat : Int) = 32 ∨ (s[q].toNat : Int) = 10
          · have HSt := Lib.hid (skip_blank s q hlt hbl)
            have hg : ((s[q].toNat : Int) != 32 && (s[q].toNat : Int) != 10) = false := by rcases hbl with e | e <;> simp [e]
            go_wp2
            go_quiet (fail)
            go_wp2
            go_quiet (fail)
            go_wp2
            all_goals refine ⟨⟨q + 1, false, by omega, by omega, rfl, HS.out.trans HSt.out, (HR.out.drewN _).set1 _ _ (by omega), (HO.out.drewN _).set _ _⟩, meas ((HR.out.drewN _).set1 (q + 1) _ (by omega)) HPos.out (by omega) (by omega)⟩
          · have n32 : ((s[q].toNat : Int) != 32) = true := by rw [bne_iff_ne]; omega
            have n10 : ((s[q].toNat : Int) != 10) = true := by rw [bne_iff_ne]; omega
            have n59 := beq_eq_false_iff_ne.1 c59
            have HSt := Lib.hid (skip_stay s q hlt (by omega) (by omega) n59)
            clear hbl n59
            go_wp2
            go_quiet (fail)
            go_wp2
            go_quiet (fail)
            go_wp2
            refine bodyPost_ret (results_none rfl _ _ _) rfl ?_
            exact ⟨rfl, q, hpq, hq, HS.out.trans HSt.out, HR.out.drewN _, HO.out.drewN _⟩
        · have HSt := Lib.hid ((skip_comment s q hlt (beq_iff_eq.1 c59)).trans (sk_true s q hlt))
          have h10 : ((s[q].toNat : Int) != 10) = true := by rw [bne_iff_ne]; have := beq_iff_eq.1 c59; omega
          rw [h10] at HSt
          clear h10
          go_wp2
          go_quiet (fail)
          go_wp2
          go_quiet (fail)
          go_wp2
          refine ⟨⟨q + 1, true, by omega, by omega, rfl, HS.out.trans HSt.out, (HR.out.drewN _).set1 _ _ (by omega), (HO.out.drewN _).set _ _⟩, meas ((HR.out.drewN _).set1 (q + 1) _ (by omega)) HPos.out (by omega) (by omega)⟩
      · have HSt := Lib.hid (sk_true s q hlt)
        go_wp2
        go_quiet (fail)
        go_wp2
        go_quiet (fail)
        go_wp2
        refine ⟨⟨q + 1, _, by omega, by omega, rfl, HS.out.trans HSt.out, (HR.out.drewN _).set1 _ _ (by omega), (HO.out.drewN _).set _ _⟩, meas ((HR.out.drewN _).set1 (q + 1) _ (by omega)) HPos.out (by omega) (by omega)⟩
    · have HSt := Lib.hid (sk_nil s q c (by omega))
      go_wp2
      go_quiet (fail)
      go_wp2
      go_end0
      exact ⟨rfl, q, hpq, hq, HS.out.trans HSt.out, HR.out.drewN _, HO.out.drewN _⟩

end Go.Proofs.YtbgmenglfgodbaaDoor
