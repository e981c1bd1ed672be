import Derived.Test.YtldaocpojcfljaaGreatDoorRows
import Derived.Test.YtldaocpojcfljaaGreatDoorCards
import Derived.JoinedCond
set_option maxRecDepth 100000
namespace Go.Proofs.YtldaocpojcfljaaGreatDoor
namespace EscapesP
theorem maps3:mapsRowed Tryz.prog=true:=by kernel_rfl
theorem w10:(Rows.escapesRow.inPlace==Tryz.prog.inPlace 6)=true:=by kernel_rfl
theorem w11:(Rows.escapesRow.unfollowed==Tryz.prog.unfollowed 6)=true:=by kernel_rfl
theorem w12:(Rows.escapesRow.recurses==Tryz.prog.recurses 6)=true:=by kernel_rfl
theorem w13:(Rows.escapesRow.named==Tryz.prog.varsNamed 6)=true:=by kernel_rfl
theorem goes:false=Rows.escapesRow.goesBy Tryz.pinned.checked.prog:=by kernel_rfl
end EscapesP
end Go.Proofs.YtldaocpojcfljaaGreatDoor
