/-
  OUR OWN. The builder under way.
-/
import Derived.Test.YtajndbikegongaaDoorText
import Derived.Lib.AppendIntMem
namespace Go.Proofs.YtajndbikegongaaDoor
open Go.RowKit

def GT (w : World) : Prop := Lib.TabIs Tryd.prog w "internal/strconv.uint64pow10" .u64 Lib.pow10Tab
theorem pow10_no : Tryd.prog.globalNamed "internal/strconv.uint64pow10" = some 0 := by kernel_rfl
theorem GT.below {B : Nat} {w w' : World} (h : GT w) (hb : Below B w w') (hB : 4 ≤ B) : GT w' := by
  exact var?_below hb pow10_no (by omega) h

/-- Block b is a builder that holds l; all of w0 but rows of bytes stands; the table too. -/
structure Bd (b : Nat) (w0 : World) (l : List UInt8) (w : World) : Prop where
  bld : Lib.IsBuilderF 35 5 b b (Lib.byteCells l) w
  oth : Lib.OthersKept 5 (some b) w0 w
  tab : GT w
  six : 4 ≤ b

theorem Bd.lt {b : Nat} {w0 : World} {l : List UInt8} {w : World} (h : Bd b w0 l w) : b < w.heap.size := by
  rcases h.bld with h | h <;> exact h.lt

theorem Bd.grown {b : Nat} {w0 : World} {l : List UInt8} {w w' : World} (h : Bd b w0 l w) (hb : Below w.heap.size w w') : Bd b w0 l w' := by
  have hlt := h.lt
  have hg : w.grownBy w' none := ⟨hb.os, hb.tape, hb.output, hb.size, fun k hk _ => hb.block k hk⟩
  have key : ∀ p, Lib.BuilderAtF 35 5 b b p (Lib.byteCells l) w → Lib.BuilderAtF 35 5 b b p (Lib.byteCells l) w' := by
    rintro p ⟨h1, v, h2, h3, h4⟩
    refine ⟨h1, v, by rw [hb.block b hlt]; exact h2, h3.kept hg ?_, h4⟩
    cases v.ownBlock <;> simp
  refine ⟨h.bld.elim (fun x => .inl (key _ x)) (fun x => .inr (key _ x)), ?_, h.tab.below hb (by have := h.six; omega), h.six⟩
  intro k o hk hkb ho
  have h1 := h.oth k o hk hkb ho
  rw [hb.block k (Array.getElem?_eq_some_iff.1 h1).1]; exact h1

theorem Bd.alloc {b : Nat} {w0 : World} {l : List UInt8} {w : World} (h : Bd b w0 l w) (o : Obj) : Bd b w0 l (w.alloc o) := h.grown ((Below.refl _ _).alloc (Nat.le_refl _) o)
theorem Bd.drewN {b : Nat} {w0 : World} {l : List UInt8} {w : World} (h : Bd b w0 l w) (n : Nat) : Bd b w0 l (w.drewN n) := h.grown ((Below.refl _ _).drewN' n)

theorem byte_any (b : Nat) (w0 : World) (l : List UInt8) (c : UInt8) (w : World) (h : Bd b w0 l w) (hl : l.length + 1 ≤ 100000) :
    Calls Tryd.prog 9 #[.pointer (some ⟨b, 0, none⟩), .int .u8 (c.toNat : Int)] w fun e w' => e = .returned .nilIface ∧ Bd b w0 (l ++ [c]) w' ∧ Below b w w' ∧ Lib.OthersKept 5 (some b) w w' := by
  refine (Tryd.Builder_WriteByte_k b b _ _ w h.bld (by simp [Lib.byteCells]; omega) (Nat.le_of_lt h.lt)).mono ?_
  rintro e w' ⟨rfl, h1, h2, h3⟩
  exact ⟨rfl, ⟨.inr (by simpa [Lib.byteCells] using h1), h.oth.trans h3, h.tab.below h2 h.six, h.six⟩, h2, h3⟩

theorem string_w (b : Nat) (w0 : World) (l : List UInt8) (u : ByteArray) (w : World) (h : Bd b w0 l w) (hl : l.length + u.data.toList.length ≤ 100000) :
    Calls Tryd.prog 16 #[.pointer (some ⟨b, 0, none⟩), .string u] w fun e w' => e = .returned (.tuple #[.int .i64 u.size, .nilIface]) ∧ Bd b w0 (l ++ u.data.toList) w' ∧ Below b w w' ∧ Lib.OthersKept 5 (some b) w w' := by
  refine (Tryd.Builder_WriteString_k b b _ _ w h.bld (by simp [Lib.byteCells] at hl ⊢; omega) (Nat.le_of_lt h.lt)).mono ?_
  rintro e w' ⟨rfl, h1, h2, h3⟩
  refine ⟨rfl, ⟨.inr ?_, h.oth.trans h3, h.tab.below h2 h.six, h.six⟩, h2, h3⟩
  rw [Lib.strCells_eq, ← Lib.byteCells_append] at h1; exact h1

set_option maxHeartbeats 400000 in
theorem writeTruth_any (b : Nat) (w0 : World) (l : List UInt8) (tr : Bool) (w : World) (h : Bd b w0 l w) (hl : l.length + 2 ≤ 100000) :
    Calls Tryd.prog 18 #[.pointer (some ⟨b, 0, none⟩), .bool tr] w fun e w' => e = .returned (.tuple #[]) ∧ Bd b w0 (l ++ if tr then [35, 116] else [35, 102]) w' ∧ Below b w w' := by
  have H := Lib.hid h
  clear h
  cases tr
  · show Calls Tryd.prog 18 _ w fun e w' => e = .returned (.tuple #[]) ∧ Bd b w0 (l ++ [35, 102]) w' ∧ Below b w w'
    go_enter Tryd.func18, Tryd.ntmps18
    go_wp2_with (go_at_call 16; refine (string_w b w0 l _ _ H.out (by simpa using hl)).mono ?_; rintro e w' ⟨rfl, h1, h2, h3⟩; have H1 := Lib.hid h1; have H2 := Lib.hid h2; clear h1 h2 h3)
    go_end0
    exact ⟨rfl, H1.out, H2.out⟩
  · show Calls Tryd.prog 18 _ w fun e w' => e = .returned (.tuple #[]) ∧ Bd b w0 (l ++ [35, 116]) w' ∧ Below b w w'
    go_enter Tryd.func18, Tryd.ntmps18
    go_wp2_with (go_at_call 16; refine (string_w b w0 l _ _ H.out (by simpa using hl)).mono ?_; rintro e w' ⟨rfl, h1, h2, h3⟩; have H1 := Lib.hid h1; have H2 := Lib.hid h2; clear h1 h2 h3)
    refine bodyPost_ret (results_none rfl _ _ _) rfl ?_
    exact ⟨rfl, H1.out, H2.out⟩

end Go.Proofs.YtajndbikegongaaDoor
