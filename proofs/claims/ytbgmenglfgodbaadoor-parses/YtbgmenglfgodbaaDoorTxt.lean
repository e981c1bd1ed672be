/-
  OUR OWN. How a value is written; the walk of textOf.
-/
import Derived.Test.YtbgmenglfgodbaaDoorOf
import Derived.Lib.AppendIntMem
namespace Go.Proofs.YtbgmenglfgodbaaDoor
open Go.RowKit

def GT (w : World) : Prop := Lib.TabIs Tryd.prog w "internal/strconv.uint64pow10" .u64 Lib.pow10Tab
theorem pow10_no : Tryd.prog.globalNamed "internal/strconv.uint64pow10" = some 0 := by kernel_rfl
theorem GT.below {B : Nat} {w w' : World} (h : GT w) (hb : Below B w w') (hB : 6 ≤ B) : GT w' := by
  exact var?_below hb pow10_no (by omega) h

theorem formatInt_any (n : Int) (h0 : -9223372036854775808 ≤ n) (h1 : n ≤ 9223372036854775807) (w : World) (h : GT w) :
    Calls Tryd.prog 56 #[.int .i64 n, .int .i64 10] w fun e w' => e = .returned (.string ⟨(Lib.itoa n).toArray⟩) ∧ Below w.heap.size w w' := by
  refine (Tryd.strconv_FormatInt_10 n h0 h1 w h).mono ?_
  rintro e w' ⟨rfl, k, os, rfl⟩
  exact ⟨rfl, Lib.below_grow _ _ (Nat.le_refl _) _ _⟩

theorem as_65_65 (v : Value) (w : World) : (Instr.typeAssert (.iface 65 v) 46 65 true).run Tryd.prog w = .ok (.tuple #[v, .bool true]) w := by kernel_rfl
theorem as_65_66 (v : Value) (w : World) : (Instr.typeAssert (.iface 65 v) 46 66 true).run Tryd.prog w = .ok (.tuple #[.bool false, .bool false]) w := by kernel_rfl
theorem as_65_67 (v : Value) (w : World) : (Instr.typeAssert (.iface 65 v) 46 67 true).run Tryd.prog w = .ok (.tuple #[.string ⟨#[]⟩, .bool false]) w := by kernel_rfl
theorem as_65_68 (v : Value) (w : World) : (Instr.typeAssert (.iface 65 v) 46 68 true).run Tryd.prog w = .ok (.tuple #[.string ⟨#[]⟩, .bool false]) w := by kernel_rfl
theorem as_65_72 (v : Value) (w : World) : (Instr.typeAssert (.iface 65 v) 46 72 true).run Tryd.prog w = .ok (.tuple #[.agg #[], .bool false]) w := by kernel_rfl
theorem as_65_83 (v : Value) (w : World) : (Instr.typeAssert (.iface 65 v) 46 83 true).run Tryd.prog w = .ok (.tuple #[.pointer none, .bool false]) w := by kernel_rfl
theorem as_66_65 (v : Value) (w : World) : (Instr.typeAssert (.iface 66 v) 46 65 true).run Tryd.prog w = .ok (.tuple #[.int .i64 0, .bool false]) w := by kernel_rfl
theorem as_66_66 (v : Value) (w : World) : (Instr.typeAssert (.iface 66 v) 46 66 true).run Tryd.prog w = .ok (.tuple #[v, .bool true]) w := by kernel_rfl
theorem as_66_67 (v : Value) (w : World) : (Instr.typeAssert (.iface 66 v) 46 67 true).run Tryd.prog w = .ok (.tuple #[.string ⟨#[]⟩, .bool false]) w := by kernel_rfl
theorem as_66_68 (v : Value) (w : World) : (Instr.typeAssert (.iface 66 v) 46 68 true).run Tryd.prog w = .ok (.tuple #[.string ⟨#[]⟩, .bool false]) w := by kernel_rfl
theorem as_66_72 (v : Value) (w : World) : (Instr.typeAssert (.iface 66 v) 46 72 true).run Tryd.prog w = .ok (.tuple #[.agg #[], .bool false]) w := by kernel_rfl
theorem as_66_83 (v : Value) (w : World) : (Instr.typeAssert (.iface 66 v) 46 83 true).run Tryd.prog w = .ok (.tuple #[.pointer none, .bool false]) w := by kernel_rfl
theorem as_67_65 (v : Value) (w : World) : (Instr.typeAssert (.iface 67 v) 46 65 true).run Tryd.prog w = .ok (.tuple #[.int .i64 0, .bool false]) w := by kernel_rfl
theorem as_67_66 (v : Value) (w : World) : (Instr.typeAssert (.iface 67 v) 46 66 true).run Tryd.prog w = .ok (.tuple #[.bool false, .bool false]) w := by kernel_rfl
theorem as_67_67 (v : Value) (w : World) : (Instr.typeAssert (.iface 67 v) 46 67 true).run Tryd.prog w = .ok (.tuple #[v, .bool true]) w := by kernel_rfl
theorem as_67_68 (v : Value) (w : World) : (Instr.typeAssert (.iface 67 v) 46 68 true).run Tryd.prog w = .ok (.tuple #[.string ⟨#[]⟩, .bool false]) w := by kernel_rfl
theorem as_67_72 (v : Value) (w : World) : (Instr.typeAssert (.iface 67 v) 46 72 true).run Tryd.prog w = .ok (.tuple #[.agg #[], .bool false]) w := by kernel_rfl
theorem as_67_83 (v : Value) (w : World) : (Instr.typeAssert (.iface 67 v) 46 83 true).run Tryd.prog w = .ok (.tuple #[.pointer none, .bool false]) w := by kernel_rfl
theorem as_68_65 (v : Value) (w : World) : (Instr.typeAssert (.iface 68 v) 46 65 true).run Tryd.prog w = .ok (.tuple #[.int .i64 0, .bool false]) w := by kernel_rfl
theorem as_68_66 (v : Value) (w : World) : (Instr.typeAssert (.iface 68 v) 46 66 true).run Tryd.prog w = .ok (.tuple #[.bool false, .bool false]) w := by kernel_rfl
theorem as_68_67 (v : Value) (w : World) : (Instr.typeAssert (.iface 68 v) 46 67 true).run Tryd.prog w = .ok (.tuple #[.string ⟨#[]⟩, .bool false]) w := by kernel_rfl
theorem as_68_68 (v : Value) (w : World) : (Instr.typeAssert (.iface 68 v) 46 68 true).run Tryd.prog w = .ok (.tuple #[v, .bool true]) w := by kernel_rfl
theorem as_68_72 (v : Value) (w : World) : (Instr.typeAssert (.iface 68 v) 46 72 true).run Tryd.prog w = .ok (.tuple #[.agg #[], .bool false]) w := by kernel_rfl
theorem as_68_83 (v : Value) (w : World) : (Instr.typeAssert (.iface 68 v) 46 83 true).run Tryd.prog w = .ok (.tuple #[.pointer none, .bool false]) w := by kernel_rfl
theorem as_72_65 (v : Value) (w : World) : (Instr.typeAssert (.iface 72 v) 46 65 true).run Tryd.prog w = .ok (.tuple #[.int .i64 0, .bool false]) w := by kernel_rfl
theorem as_72_66 (v : Value) (w : World) : (Instr.typeAssert (.iface 72 v) 46 66 true).run Tryd.prog w = .ok (.tuple #[.bool false, .bool false]) w := by kernel_rfl
theorem as_72_67 (v : Value) (w : World) : (Instr.typeAssert (.iface 72 v) 46 67 true).run Tryd.prog w = .ok (.tuple #[.string ⟨#[]⟩, .bool false]) w := by kernel_rfl
theorem as_72_68 (v : Value) (w : World) : (Instr.typeAssert (.iface 72 v) 46 68 true).run Tryd.prog w = .ok (.tuple #[.string ⟨#[]⟩, .bool false]) w := by kernel_rfl
theorem as_72_72 (v : Value) (w : World) : (Instr.typeAssert (.iface 72 v) 46 72 true).run Tryd.prog w = .ok (.tuple #[v, .bool true]) w := by kernel_rfl
theorem as_72_83 (v : Value) (w : World) : (Instr.typeAssert (.iface 72 v) 46 83 true).run Tryd.prog w = .ok (.tuple #[.pointer none, .bool false]) w := by kernel_rfl
theorem as_83_65 (v : Value) (w : World) : (Instr.typeAssert (.iface 83 v) 46 65 true).run Tryd.prog w = .ok (.tuple #[.int .i64 0, .bool false]) w := by kernel_rfl
theorem as_83_66 (v : Value) (w : World) : (Instr.typeAssert (.iface 83 v) 46 66 true).run Tryd.prog w = .ok (.tuple #[.bool false, .bool false]) w := by kernel_rfl
theorem as_83_67 (v : Value) (w : World) : (Instr.typeAssert (.iface 83 v) 46 67 true).run Tryd.prog w = .ok (.tuple #[.string ⟨#[]⟩, .bool false]) w := by kernel_rfl
theorem as_83_68 (v : Value) (w : World) : (Instr.typeAssert (.iface 83 v) 46 68 true).run Tryd.prog w = .ok (.tuple #[.string ⟨#[]⟩, .bool false]) w := by kernel_rfl
theorem as_83_72 (v : Value) (w : World) : (Instr.typeAssert (.iface 83 v) 46 72 true).run Tryd.prog w = .ok (.tuple #[.agg #[], .bool false]) w := by kernel_rfl
theorem as_83_83 (v : Value) (w : World) : (Instr.typeAssert (.iface 83 v) 46 83 true).run Tryd.prog w = .ok (.tuple #[v, .bool true]) w := by kernel_rfl
attribute [local go_sem] as_65_65 as_65_66 as_65_67 as_65_68 as_65_72 as_65_83 as_66_65 as_66_66 as_66_67 as_66_68 as_66_72 as_66_83 as_67_65 as_67_66 as_67_67 as_67_68 as_67_72 as_67_83 as_68_65 as_68_66 as_68_67 as_68_68 as_68_72 as_68_83 as_72_65 as_72_66 as_72_67 as_72_68 as_72_72 as_72_83 as_83_65 as_83_66 as_83_67 as_83_68 as_83_72 as_83_83

/-- What is no pair, written. -/
def Vt.atom : Vt → List UInt8
  | .num v => Lib.itoa v
  | .bool b => if b then [35, 116] else [35, 102]
  | .str t => 34 :: (t.data.toList ++ [34])
  | .sym t => t.data.toList
  | .nil => [40, 41]
  | .pair _ _ => []
mutual
/-- A value, written. -/
def Vt.wr : Vt → List UInt8
  | .pair a b => 40 :: (a.wr ++ b.tl)
  | .num v => Vt.atom (.num v)
  | .bool v => Vt.atom (.bool v)
  | .str v => Vt.atom (.str v)
  | .sym v => Vt.atom (.sym v)
  | .nil => Vt.atom .nil
/-- What stands behind a pair's first part. -/
def Vt.tl : Vt → List UInt8
  | .pair a b => 32 :: (a.wr ++ b.tl)
  | .nil => [41]
  | .num v => [32, 46, 32] ++ (Vt.atom (.num v) ++ [41])
  | .bool v => [32, 46, 32] ++ (Vt.atom (.bool v) ++ [41])
  | .str v => [32, 46, 32] ++ (Vt.atom (.str v) ++ [41])
  | .sym v => [32, 46, 32] ++ (Vt.atom (.sym v) ++ [41])
end

mutual
theorem Dt.vt_wr : ∀ d : Dt, d.vt.wr = d.wr
  | .num v => rfl
  | .bool b => rfl
  | .str t => by simp [Dt.vt, Vt.wr, Vt.atom, Dt.wr]
  | .sym t _ => by simp [Dt.vt, Vt.wr, Vt.atom, Dt.wr]
  | .list [] => rfl
  | .list (d :: r) => by
    rw [Dt.vt, Dt.vts, Vt.wr, Dt.vt_wr d, Dt.vts_tl r, Dt.wr, Dt.wrs, Px.paren]
    cases r with
    | nil => simp [Px.join, Dt.wrs]
    | cons e r => simp [Px.join, Dt.wrs]
theorem Dt.vts_tl : ∀ l : List Dt, (Dt.vts l).tl = (match l with | [] => [41] | _ :: _ => 32 :: (Px.join (Dt.wrs l) ++ [41]))
  | [] => rfl
  | [d] => by rw [Dt.vts, Vt.tl, Dt.vt_wr d]; simp [Dt.vts, Vt.tl, Dt.wrs, Px.join]
  | d :: e :: r => by
    rw [Dt.vts, Vt.tl, Dt.vt_wr d, Dt.vts_tl (e :: r)]
    simp [Px.join, Dt.wrs]
end

theorem str_quoted (b : ByteArray) : (⟨#[34]⟩ ++ b ++ ⟨#[34]⟩ : ByteArray) = ⟨(Vt.atom (.str b)).toArray⟩ := by
  apply ByteArray.ext
  simp [Vt.atom, ByteArray.data_append]

set_option maxRecDepth 100000 in
set_option maxHeartbeats 1000000 in
theorem textOf_any (lo : Nat) (t : Vt) (v : Value) (w : World) (hv : VIn lo w t v) (hG : GT w) (hna : ∀ a b, t ≠ .pair a b) (hl : t.atom.length ≤ 100000) :
    Calls Tryd.prog 35 #[v] w fun e w' => e = .returned (.string ⟨t.atom.toArray⟩) ∧ Below w.heap.size w w' := by
  have HG := Lib.hid hG
  clear hG
  cases t with
  | pair a b => exact absurd rfl (hna a b)
  | num n =>
    obtain ⟨rfl, h0, h1⟩ := hv
    clear hna hl
    have HN := Lib.hid (And.intro h0 h1)
    clear h0 h1
    go_enter Tryd.func35, Tryd.ntmps35
    go_wp2_with (go_at_call 56; refine (formatInt_any n HN.out.1 HN.out.2 _ HG.out).mono ?_; rintro e w1 ⟨rfl, h1⟩; have H1 := Lib.hid h1; clear h1)
    go_ret
    exact ⟨rfl, H1.out⟩
  | bool b =>
    obtain rfl := hv
    clear hna hl
    cases b
    · go_enter Tryd.func35, Tryd.ntmps35
      go_wp2
      go_ret
      exact ⟨rfl, Below.refl _ _⟩
    · go_enter Tryd.func35, Tryd.ntmps35
      go_wp2
      go_ret
      exact ⟨rfl, Below.refl _ _⟩
  | str b =>
    obtain rfl := hv
    clear hna
    have hb : b.size ≤ 100000 := by simp [Vt.atom] at hl; omega
    clear hl
    go_enter Tryd.func35, Tryd.ntmps35
    go_wp2
    go_ret
    refine ⟨?_, Below.refl _ _⟩
    simp only [Array.getD]
    exact congrArg (fun x => Ending.returned (Value.string x)) (str_quoted b)
  | sym b =>
    obtain rfl := hv
    clear hna
    go_enter Tryd.func35, Tryd.ntmps35
    go_wp2
    go_ret
    exact ⟨rfl, Below.refl _ _⟩
  | nil =>
    obtain rfl := hv
    clear hna
    go_enter Tryd.func35, Tryd.ntmps35
    go_wp2
    go_ret
    exact ⟨rfl, (Below.refl _ _).alloc (Nat.le_refl _) _⟩

end Go.Proofs.YtbgmenglfgodbaaDoor
