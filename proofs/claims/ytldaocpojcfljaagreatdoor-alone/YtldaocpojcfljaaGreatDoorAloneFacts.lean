import Derived.Test.YtldaocpojcfljaaGreatDoorRows
import Derived.Test.YtldaocpojcfljaaGreatDoorCards
import Derived.JoinedCond
set_option maxRecDepth 100000
namespace Go.Proofs.YtldaocpojcfljaaGreatDoor
namespace AloneP
theorem maps3:mapsRowed Tryz.prog=true:=by kernel_rfl
theorem w10:(Rows.aloneRow.inPlace==Tryz.prog.inPlace 10)=true:=by kernel_rfl
theorem w11:(Rows.aloneRow.unfollowed==Tryz.prog.unfollowed 10)=true:=by kernel_rfl
theorem w12:(Rows.aloneRow.recurses==Tryz.prog.recurses 10)=true:=by kernel_rfl
theorem w13:(Rows.aloneRow.named==Tryz.prog.varsNamed 10)=true:=by kernel_rfl
theorem goes:false=Rows.aloneRow.goesBy Tryz.pinned.checked.prog:=by kernel_rfl
end AloneP
end Go.Proofs.YtldaocpojcfljaaGreatDoor
