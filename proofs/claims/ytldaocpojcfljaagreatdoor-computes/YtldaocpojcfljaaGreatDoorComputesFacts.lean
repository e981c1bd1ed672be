import Derived.Test.YtldaocpojcfljaaGreatDoorRows
import Derived.Test.YtldaocpojcfljaaGreatDoorCards
import Derived.JoinedCond
set_option maxRecDepth 100000
namespace Go.Proofs.YtldaocpojcfljaaGreatDoor
namespace ComputesP
theorem maps3:mapsRowed Tryz.prog=true:=by kernel_rfl
theorem w10:(Rows.computesRow.inPlace==Tryz.prog.inPlace 3)=true:=by kernel_rfl
theorem w11:(Rows.computesRow.unfollowed==Tryz.prog.unfollowed 3)=true:=by kernel_rfl
theorem w12:(Rows.computesRow.recurses==Tryz.prog.recurses 3)=true:=by kernel_rfl
theorem w13:(Rows.computesRow.named==Tryz.prog.varsNamed 3)=true:=by kernel_rfl
theorem goes:false=Rows.computesRow.goesBy Tryz.pinned.checked.prog:=by kernel_rfl
end ComputesP
end Go.Proofs.YtldaocpojcfljaaGreatDoor
