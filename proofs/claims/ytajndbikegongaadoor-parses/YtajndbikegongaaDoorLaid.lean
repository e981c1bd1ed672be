/-
  OUR OWN. What the rows' list of laid variables gives.
-/
import Derived.Test.YtajndbikegongaaDoorRound
import Derived.ProofKit
import Derived.OpenShut
import Derived.SizedLaws
import Derived.Deep.DeepHandedRow
import Derived.Deep.DeepWitnessRowRef
import Derived.Lib.LaidTab
import Derived.Stop.LaidErr
namespace Go.Proofs.YtajndbikegongaaDoor
open Go.ChangeShapes Go.WideShapes Go.ChangeAt Go.RowKit

theorem own : ownKnob Tryd.prog.godebug = none := by kernel_rfl
theorem pow10_type : (Tryd.prog.globals[0]?).map (·.type) = some 96 := by kernel_rfl
theorem errRange_type : (Tryd.prog.globals[3]?).map (·.type) = some 41 := by kernel_rfl
theorem cells96 : Tryd.prog.cellsOf 96 = 20 := by kernel_rfl
theorem cells85 : Tryd.prog.cellsOf 85 = 1 := by kernel_rfl
theorem cells119 : Tryd.prog.cellsOf 119 = 1 := by kernel_rfl
theorem cells9 : Tryd.prog.cellsOf 9 = 1 := by kernel_rfl
theorem star : "*" ++ "errors.errorString" = "*errors.errorString" := by decide
theorem row117 (u : TypeId) (h : Tryd.prog.typeName? 3 u = some "*errors.errorString") : u = 117 :=
  typeName_ptr_named (nm := "errors.errorString") (by rw [star]; kernel_rfl) (by kernel_rfl) (by decide) u (by rw [star]; exact h)

theorem glob {W : World} (h : laidMetH Tryd.prog Rows.roundRow.laid W) : Gl W := by
  have h' : laidMet Tryd.prog Rows.roundRow.laid W := h
  have ht : GT W := Lib.tabIs_of_head (zs := Lib.pow10Tab) (rest := _) pow10_no pow10_type Tryd.underlying96 Tryd.underlying85 cells85 cells96 h'.tail.tail
  obtain ⟨a, s, hv, -, -, -⟩ := laid_sentinel h'.tail.tail.tail errRange_no errRange_type Tryd.underlying41 row117 Tryd.underlying117 Tryd.underlying119 rfl rfl Tryd.underlying9 cells119 cells9
  refine ⟨⟨117, _, hv⟩, ht, ?_⟩
  have hc := World.var?_cell errRange_no hv 0
  have := World.block_lt_of_cell? W ⟨3, 0, none⟩ (u := .iface 117 (.pointer (some a))) (by simpa using hc)
  exact this

end Go.Proofs.YtajndbikegongaaDoor
