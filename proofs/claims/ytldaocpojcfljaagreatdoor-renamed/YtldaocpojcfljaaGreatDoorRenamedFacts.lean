import Derived.Test.YtldaocpojcfljaaGreatDoorRows
import Derived.Test.YtldaocpojcfljaaGreatDoorCards
import Derived.JoinedCond
set_option maxRecDepth 100000
namespace Go.Proofs.YtldaocpojcfljaaGreatDoor
namespace RenamedP
theorem maps3:mapsRowed Tryz.prog=true:=by kernel_rfl
theorem w10:(Rows.renamedRow.inPlace==Tryz.prog.inPlace 5)=true:=by kernel_rfl
theorem w11:(Rows.renamedRow.unfollowed==Tryz.prog.unfollowed 5)=true:=by kernel_rfl
theorem w12:(Rows.renamedRow.recurses==Tryz.prog.recurses 5)=true:=by kernel_rfl
theorem w13:(Rows.renamedRow.named==Tryz.prog.varsNamed 5)=true:=by kernel_rfl
theorem goes:false=Rows.renamedRow.goesBy Tryz.pinned.checked.prog:=by kernel_rfl
end RenamedP
end Go.Proofs.YtldaocpojcfljaaGreatDoor
