/-
  OUR OWN. The builder under way.
-/
import Derived.Test.YtbgmenglfgodbaaDoorSeq
import Derived.Test.YtbgmenglfgodbaaDoorText
namespace Go.Proofs.YtbgmenglfgodbaaDoor
open Go.RowKit

/-- Block b is a builder that holds l; all of w0 but rows of bytes stands; the table too. -/
structure Bd (b : Nat) (w0 : World) (l : List UInt8) (w : World) : Prop where
  bld : Lib.IsBuilderF 35 5 b b (Lib.byteCells l) w
  oth : Lib.OthersKept 5 (some b) w0 w
  tab : GT w
  six : 6 ≤ b

theorem Bd.lt {b : Nat} {w0 : World} {l : List UInt8} {w : World} (h : Bd b w0 l w) : b < w.heap.size := by
  rcases h.bld with h | h <;> exact h.lt

theorem Bd.grown {b : Nat} {w0 : World} {l : List UInt8} {w w' : World} (h : Bd b w0 l w) (hb : Below w.heap.size w w') : Bd b w0 l w' := by
  have hlt := h.lt
  have hg : w.grownBy w' none := ⟨hb.os, hb.tape, hb.output, hb.size, fun k hk _ => hb.block k hk⟩
  have key : ∀ p, Lib.BuilderAtF 35 5 b b p (Lib.byteCells l) w → Lib.BuilderAtF 35 5 b b p (Lib.byteCells l) w' := by
    rintro p ⟨h1, v, h2, h3, h4⟩
    refine ⟨h1, v, by rw [hb.block b hlt]; exact h2, h3.kept hg ?_, h4⟩
    cases v.ownBlock <;> simp
  refine ⟨h.bld.elim (fun x => .inl (key _ x)) (fun x => .inr (key _ x)), ?_, h.tab.below hb (by have := h.six; omega), h.six⟩
  intro k o hk hkb ho
  have h1 := h.oth k o hk hkb ho
  rw [hb.block k (Array.getElem?_eq_some_iff.1 h1).1]; exact h1

theorem Bd.alloc {b : Nat} {w0 : World} {l : List UInt8} {w : World} (h : Bd b w0 l w) (o : Obj) : Bd b w0 l (w.alloc o) := h.grown ((Below.refl _ _).alloc (Nat.le_refl _) o)
theorem Bd.drewN {b : Nat} {w0 : World} {l : List UInt8} {w : World} (h : Bd b w0 l w) (n : Nat) : Bd b w0 l (w.drewN n) := h.grown ((Below.refl _ _).drewN' n)

theorem byte_any (b : Nat) (w0 : World) (l : List UInt8) (c : UInt8) (w : World) (h : Bd b w0 l w) (hl : l.length + 1 ≤ 100000) :
    Calls Tryd.prog 10 #[.pointer (some ⟨b, 0, none⟩), .int .u8 (c.toNat : Int)] w fun e w' => e = .returned .nilIface ∧ Bd b w0 (l ++ [c]) w' ∧ Below b w w' ∧ Lib.OthersKept 5 (some b) w w' := by
  refine (Tryd.Builder_WriteByte_k b b _ _ w h.bld (by simp [Lib.byteCells]; omega) (Nat.le_of_lt h.lt)).mono ?_
  rintro e w' ⟨rfl, h1, h2, h3⟩
  exact ⟨rfl, ⟨.inr (by simpa [Lib.byteCells] using h1), h.oth.trans h3, h.tab.below h2 h.six, h.six⟩, h2, h3⟩

end Go.Proofs.YtbgmenglfgodbaaDoor
