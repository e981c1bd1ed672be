import Derived.Test.YtldaocpojcfljaaGreatDoorM12
import Derived.Test.YtldaocpojcfljaaGreatDoorRows
import Derived.ProofKit
import Derived.OpenShut
import Derived.SizedLaws
import Derived.Deep.DeepHandedRow
import Derived.Deep.DeepWitnessRowRef
import Derived.Lib.LaidTab
import Derived.Stop.LaidErr
set_option maxRecDepth 100000
namespace Go.Proofs.YtldaocpojcfljaaGreatDoor
open Go.ChangeShapes Go.WideShapes Go.ChangeAt Go.RowKit
theorem ownK:ownKnob Tryz.prog.godebug=none:=by kernel_rfl
theorem laidOut:laidOutB Tryz.prog=true:=by kernel_rfl
theorem pow10_type:(Tryz.prog.globals[0]?).map (·.type)=some 190:=by kernel_rfl
theorem errRange_type:(Tryz.prog.globals[5]?).map (·.type)=some 142:=by kernel_rfl
theorem cells190:Tryz.prog.cellsOf 190=20:=by kernel_rfl
theorem cells146:Tryz.prog.cellsOf 146=1:=by kernel_rfl
theorem cells475:Tryz.prog.cellsOf 475=1:=by kernel_rfl
theorem cells9:Tryz.prog.cellsOf 9=1:=by kernel_rfl
theorem cells3:Tryz.prog.cellsOf 3=1:=by kernel_rfl
theorem star: "*" ++ "errors.errorString" = "*errors.errorString" :=by decide
theorem row473(u:TypeId)(h:Tryz.prog.typeName? 3 u=some "*errors.errorString"):u=473:=
 typeName_ptr_named (nm:= "errors.errorString") (by rw[star];kernel_rfl) (by kernel_rfl) (by decide) u (by rw[star];exact h)
set_option maxRecDepth 100000 in
theorem glob{W:World}(h:laidMetH Tryz.prog [("math/bits.deBruijn32tab",Rows.laid_math_bits_deBruijn32tab),("math/bits.deBruijn64tab",Rows.laid_math_bits_deBruijn64tab),("internal/strconv.uint64pow10",Rows.laid_internal_strconv_uint64pow10),("strconv.ErrRange",Rows.laid_strconv_ErrRange),("strconv.ErrSyntax",Rows.laid_strconv_ErrSyntax)] W):GT W/\Rd.GV W/\6<=W.heap.size:=by
 have h':laidMet Tryz.prog [("math/bits.deBruijn32tab",Rows.laid_math_bits_deBruijn32tab),("math/bits.deBruijn64tab",Rows.laid_math_bits_deBruijn64tab),("internal/strconv.uint64pow10",Rows.laid_internal_strconv_uint64pow10),("strconv.ErrRange",Rows.laid_strconv_ErrRange),("strconv.ErrSyntax",Rows.laid_strconv_ErrSyntax)] W:=h
 have ht:GT W:=Lib.tabIs_of_head (zs:=Lib.pow10Tab) (rest:=_) pow10_no pow10_type Tryz.underlying190 Tryz.underlying146 cells146 cells190 h'.tail.tail;obtain⟨a,s,hv,-,-,-⟩:=laid_sentinel h'.tail.tail.tail Rd.errRange_no errRange_type Tryz.underlying142 row473 Tryz.underlying473 Tryz.underlying475 rfl rfl Tryz.underlying9 cells475 cells9;refine⟨ht,⟨473,_,hv⟩,?_⟩;have hv2:=hv;unfold World.var? at hv2;rw[Rd.errRange_no]at hv2;simp only[Option.bind_some]at hv2;cases h5:W.heap[5]? with
 |none=>rw[h5]at hv2;simp at hv2
 |some o=>exact(Array.getElem?_eq_some_iff.1 h5).1
end Go.Proofs.YtldaocpojcfljaaGreatDoor
