/-
  OUR OWN. The reader in memory, and the small functions of package read.
-/
import Derived.Test.YtbgmenglfgodbaaDoorRows
import Derived.Test.YtbgmenglfgodbaaDoorTree
import Derived.WalkKit
import Derived.WalkSpells
import Derived.WalkLawsBesides
import Derived.Deep.QuietTactic
import Derived.BigQuiet
namespace Go.Proofs.YtbgmenglfgodbaaDoor
open Go.RowKit

/-- Block b is a reader: its text, how far it is, in how many lists. -/
def Rd (b : Nat) (s : ByteArray) (p d : Nat) (w : World) : Prop :=
  w.heap[b]? = some (.cells #[.string s, .int .i64 (p : Int), .int .i64 (d : Int)] 59 (0, 0))

theorem Rd.c0 {b : Nat} {s : ByteArray} {p d : Nat} {w : World} (h : Rd b s p d w) : w.cell? ⟨b, 0, none⟩ = some (.string s) := by
  unfold Rd at h; simp [World.cell?, h]
theorem Rd.c1 {b : Nat} {s : ByteArray} {p d : Nat} {w : World} (h : Rd b s p d w) : w.cell? ⟨b, 1, none⟩ = some (.int .i64 (p : Int)) := by
  unfold Rd at h; simp [World.cell?, h]
theorem Rd.c2 {b : Nat} {s : ByteArray} {p d : Nat} {w : World} (h : Rd b s p d w) : w.cell? ⟨b, 2, none⟩ = some (.int .i64 (d : Int)) := by
  unfold Rd at h; simp [World.cell?, h]
theorem Rd.fz {b : Nat} {s : ByteArray} {p d : Nat} {w : World} (h : Rd b s p d w) (o : Nat) : w.frozen? ⟨b, o, none⟩ = false := by
  unfold Rd at h; simp [World.frozen?, h]

theorem Rd.drewN {b : Nat} {s : ByteArray} {p d : Nat} {w : World} (h : Rd b s p d w) (n : Nat) : Rd b s p d (w.drewN n) := by
  unfold Rd at *; simpa using h

set_option maxHeartbeats 400000 in
theorem ended_any (b : Nat) (s : ByteArray) (p d : Nat) (w : World) (h : Rd b s p d w) :
    Calls Tryd.prog 15 #[.pointer (some ⟨b, 0, none⟩)] w fun e w' => e = .returned (.bool (((p : Int) == (s.size : Int)))) ∧ ∃ n, w' = w.drewN n := by
  have h0 := h.c0
  have h1 := h.c1
  clear h
  go_enter Tryd.func15, Tryd.ntmps15
  go_wp2
  go_quiet (fail)
  go_wp2
  go_ret
  exact ⟨rfl, _, rfl⟩


set_option maxHeartbeats 400000 in
theorem starts_end (b : Nat) (s : ByteArray) (p d : Nat) (c : Int) (w : World) (h : Rd b s p d w) (hp : p = s.size) :
    Calls Tryd.prog 44 #[.pointer (some ⟨b, 0, none⟩), .int .u8 c] w fun e w' => e = .returned (.bool false) ∧ ∃ n, w' = w.drewN n := by
  have h0 := h.c0
  have h1 := h.c1
  have HR : Hid (Rd b s p d w) := h
  have hd : ((p : Int) == (s.size : Int)) = true := by simp [hp]
  clear h hp
  go_enter Tryd.func44, Tryd.ntmps44
  go_wp2
  go_quiet ((go_at_call 15; exact Calls.quiet_of (ended_any b s p d _ (HR.out.drewN _))))
  go_wp2
  go_ret
  exact ⟨rfl, _, rfl⟩

set_option maxHeartbeats 400000 in
theorem starts_in (b : Nat) (s : ByteArray) (p d : Nat) (c : Int) (w : World) (h : Rd b s p d w) (hp : p < s.size) :
    Calls Tryd.prog 44 #[.pointer (some ⟨b, 0, none⟩), .int .u8 c] w fun e w' => e = .returned (.bool ((s[p].toNat : Int) == c)) ∧ ∃ n, w' = w.drewN n := by
  have h0 := h.c0
  have h1 := h.c1
  have HR : Hid (Rd b s p d w) := h
  have hd : ((p : Int) == (s.size : Int)) = false := by simp; omega
  clear h
  go_enter Tryd.func44, Tryd.ntmps44
  go_wp2
  go_quiet ((go_at_call 15; exact Calls.quiet_of (ended_any b s p d _ (HR.out.drewN _))))
  go_wp2
  go_ret
  exact ⟨rfl, _, rfl⟩

/-- What of the text stands from p on. -/
def L (s : ByteArray) (p : Nat) : List UInt8 := s.data.toList.drop p
theorem L_lt (s : ByteArray) (p : Nat) (h : p < s.size) : L s p = s[p] :: L s (p + 1) := by
  unfold L
  rw [List.drop_eq_getElem_cons (by simpa using h)]; rfl
theorem L_end (s : ByteArray) (p : Nat) (h : s.size ≤ p) : L s p = [] := by
  unfold L; exact List.drop_eq_nil_of_le (by simpa using h)
theorem L_len (s : ByteArray) (p : Nat) : (L s p).length = s.size - p := by
  unfold L; rw [List.length_drop]; rfl

/-- Nothing that was there has turned but block b. -/
abbrev Only (b : Nat) (w w' : World) : Prop := w.grownBy w' (some b)
theorem Only.drewN {b : Nat} {w w' : World} (h : Only b w w') (n : Nat) : Only b w (w'.drewN n) := ⟨h.os, h.tape, h.output, h.size, h.block⟩
theorem Only.refl (b : Nat) (w : World) : Only b w w := ⟨rfl, rfl, rfl, Nat.le_refl _, fun _ _ _ => rfl⟩
theorem Only.trans {b : Nat} {w w1 w2 : World} (h : Only b w w1) (k : Only b w1 w2) : Only b w w2 :=
  ⟨k.os.trans h.os, k.tape.trans h.tape, k.output.trans h.output, Nat.le_trans h.size k.size, fun i hi hn => (k.block i (Nat.lt_of_lt_of_le hi h.size) hn).trans (h.block i hi hn)⟩
theorem Only.set {b : Nat} {w w' : World} (h : Only b w w') (o : Nat) (v : Value) : Only b w (w'.setCell ⟨b, o, none⟩ v) :=
  h.trans ⟨rfl, rfl, rfl, by simp [World.setCell], fun k _ hk => Below.heap_setCell _ _ _ _ (fun e => hk (by rw [e]))⟩
theorem Only.alloc {b : Nat} {w w' : World} (h : Only b w w') (o : Obj) : Only b w (w'.alloc o) := h.trans (World.grownBy_alloc _ _ _)

theorem Rd.set1 {b : Nat} {s : ByteArray} {p d : Nat} {w : World} (h : Rd b s p d w) (q : Nat) (z : Int) (hz : z = (q : Int)) : Rd b s q d (w.setCell ⟨b, 1, none⟩ (.int .i64 z)) := by
  subst hz; unfold Rd at *; simp [World.setCell, Array.getElem?_modify, h]
theorem Rd.set2 {b : Nat} {s : ByteArray} {p d : Nat} {w : World} (h : Rd b s p d w) (q : Nat) (z : Int) (hz : z = (q : Int)) : Rd b s p q (w.setCell ⟨b, 2, none⟩ (.int .i64 z)) := by
  subst hz; unfold Rd at *; simp [World.setCell, Array.getElem?_modify, h]
theorem Rd.lt {b : Nat} {s : ByteArray} {p d : Nat} {w : World} (h : Rd b s p d w) : b < w.heap.size := (Array.getElem?_eq_some_iff.1 h).1
theorem Rd.alloc {b : Nat} {s : ByteArray} {p d : Nat} {w : World} (h : Rd b s p d w) (o : Obj) : Rd b s p d (w.alloc o) := by
  have := h.lt
  unfold Rd at *; rw [Below.heap_alloc w o b this]; exact h

/-- How far the reader in block b is. -/
def posOf (b : Nat) (w : World) : Nat := match w.cell? ⟨b, 1, none⟩ with | some (.int _ q) => q.toNat | _ => 0
theorem Rd.pos {b : Nat} {s : ByteArray} {p d : Nat} {w : World} (h : Rd b s p d w) : posOf b w = p := by
  unfold posOf; rw [h.c1]; simp

end Go.Proofs.YtbgmenglfgodbaaDoor
