import Derived.Test.YtldaocpojcfljaaGreatDoorRows
import Derived.Test.YtldaocpojcfljaaGreatDoorCards
import Derived.JoinedCond
set_option maxRecDepth 100000
namespace Go.Proofs.YtldaocpojcfljaaGreatDoor
namespace BoundedP
theorem maps3:mapsRowed Tryz.prog=true:=by kernel_rfl
theorem w10:(Rows.boundedRow.inPlace==Tryz.prog.inPlace 11)=true:=by kernel_rfl
theorem w11:(Rows.boundedRow.unfollowed==Tryz.prog.unfollowed 11)=true:=by kernel_rfl
theorem w12:(Rows.boundedRow.recurses==Tryz.prog.recurses 11)=true:=by kernel_rfl
theorem w13:(Rows.boundedRow.named==Tryz.prog.varsNamed 11)=true:=by kernel_rfl
theorem goes:false=Rows.boundedRow.goesBy Tryz.pinned.checked.prog:=by kernel_rfl
end BoundedP
end Go.Proofs.YtldaocpojcfljaaGreatDoor
