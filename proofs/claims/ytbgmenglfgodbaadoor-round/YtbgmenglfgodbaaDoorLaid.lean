/-
  OUR OWN. What the rows' list of laid variables gives.
-/
import Derived.Test.YtbgmenglfgodbaaDoorRound
import Derived.ProofKit
import Derived.OpenShut
import Derived.SizedLaws
import Derived.Deep.DeepHandedRow
import Derived.Deep.DeepWitnessRowRef
import Derived.Lib.LaidTab
import Derived.Stop.LaidErr
namespace Go.Proofs.YtbgmenglfgodbaaDoor
open Go.ChangeShapes Go.WideShapes Go.ChangeAt Go.RowKit

theorem own : ownKnob Tryd.prog.godebug = none := by kernel_rfl
theorem pow10_type : (Tryd.prog.globals[0]?).map (·.type) = some 126 := by kernel_rfl
theorem errRange_type : (Tryd.prog.globals[3]?).map (·.type) = some 49 := by kernel_rfl
theorem cells96 : Tryd.prog.cellsOf 126 = 20 := by kernel_rfl
theorem cells85 : Tryd.prog.cellsOf 112 = 1 := by kernel_rfl
theorem cells119 : Tryd.prog.cellsOf 140 = 1 := by kernel_rfl
theorem cells9 : Tryd.prog.cellsOf 9 = 1 := by kernel_rfl
theorem star : "*" ++ "errors.errorString" = "*errors.errorString" := by decide
theorem row117 (u : TypeId) (h : Tryd.prog.typeName? 3 u = some "*errors.errorString") : u = 138 :=
  typeName_ptr_named (nm := "errors.errorString") (by rw [star]; kernel_rfl) (by kernel_rfl) (by decide) u (by rw [star]; exact h)

theorem tab64_no : Tryd.prog.globalNamed "math/bits.deBruijn64tab" = some 5 := by kernel_rfl
theorem tab64_type : (Tryd.prog.globals[5]?).map (·.type) = some 142 := by kernel_rfl
theorem cells5 : Tryd.prog.cellsOf 5 = 1 := by kernel_rfl
theorem cells64 : Tryd.prog.cellsOf 142 = 64 := by kernel_rfl
theorem glob {W : World} (h : laidMetH Tryd.prog Rows.roundRow.laid W) : Gl W := by
  have h' : laidMet Tryd.prog Rows.roundRow.laid W := h
  have ht : GT W := Lib.tabIs_of_head (zs := Lib.pow10Tab) (rest := _) pow10_no pow10_type Tryd.underlying126 Tryd.underlying112 cells85 cells96 h'.tail.tail
  obtain ⟨a, s, hv, -, -, -⟩ := laid_sentinel h'.tail.tail.tail errRange_no errRange_type Tryd.underlying49 row117 Tryd.underlying138 Tryd.underlying140 rfl rfl Tryd.underlying9 cells119 cells9
  refine ⟨⟨138, _, hv⟩, ht, ?_⟩
  have h5 : Lib.TabIs Tryd.prog W "math/bits.deBruijn64tab" .u8 [0, 1, 56, 2, 57, 49, 28, 3, 61, 58, 42, 50, 38, 29, 17, 4, 62, 47, 59, 36, 45, 43, 51, 22, 53, 39, 33, 30, 24, 18, 12, 5, 63, 55, 48, 27, 60, 41, 37, 16, 46, 35, 44, 21, 52, 32, 23, 11, 54, 26, 40, 15, 34, 20, 31, 10, 25, 14, 19, 9, 13, 8, 7, 6] := Lib.tabIs_of_head (zs := [0, 1, 56, 2, 57, 49, 28, 3, 61, 58, 42, 50, 38, 29, 17, 4, 62, 47, 59, 36, 45, 43, 51, 22, 53, 39, 33, 30, 24, 18, 12, 5, 63, 55, 48, 27, 60, 41, 37, 16, 46, 35, 44, 21, 52, 32, 23, 11, 54, 26, 40, 15, 34, 20, 31, 10, 25, 14, 19, 9, 13, 8, 7, 6]) (rest := _) tab64_no tab64_type Tryd.underlying142 Tryd.underlying5 cells5 cells64 h'.tail
  have hc := h5.cell tab64_no 0 (by simp)
  exact World.block_lt_of_cell? W ⟨5, 0, none⟩ hc

end Go.Proofs.YtbgmenglfgodbaaDoor
