import Derived.Test.YtldaocpojcfljaaGreatDoorRows
import Derived.Test.YtldaocpojcfljaaGreatDoorCards
import Derived.JoinedCond
set_option maxRecDepth 100000
namespace Go.Proofs.YtldaocpojcfljaaGreatDoor
namespace ListedP
theorem maps3:mapsRowed Tryz.prog=true:=by kernel_rfl
theorem w10:(Rows.listedRow.inPlace==Tryz.prog.inPlace 4)=true:=by kernel_rfl
theorem w11:(Rows.listedRow.unfollowed==Tryz.prog.unfollowed 4)=true:=by kernel_rfl
theorem w12:(Rows.listedRow.recurses==Tryz.prog.recurses 4)=true:=by kernel_rfl
theorem w13:(Rows.listedRow.named==Tryz.prog.varsNamed 4)=true:=by kernel_rfl
theorem goes:false=Rows.listedRow.goesBy Tryz.pinned.checked.prog:=by kernel_rfl
end ListedP
end Go.Proofs.YtldaocpojcfljaaGreatDoor
