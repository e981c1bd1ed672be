import Derived.Test.YtfdenibloihbdaaGreatDoorRows
import Derived.Test.YtfdenibloihbdaaGreatDoorCards
import Derived.JoinedCond
set_option maxRecDepth 100000
namespace Go.Proofs.YtfdenibloihbdaaGreatDoor
namespace FurtherP
theorem maps3:mapsRowed Tryz.prog=true:=by kernel_rfl
theorem w10:(Rows.furtherRow.inPlace==Tryz.prog.inPlace 3)=true:=by kernel_rfl
theorem w11:(Rows.furtherRow.unfollowed==Tryz.prog.unfollowed 3)=true:=by kernel_rfl
theorem w12:(Rows.furtherRow.recurses==Tryz.prog.recurses 3)=true:=by kernel_rfl
theorem w13:(Rows.furtherRow.named==Tryz.prog.varsNamed 3)=true:=by kernel_rfl
theorem goes:false=Rows.furtherRow.goesBy Tryz.pinned.checked.prog:=by kernel_rfl
end FurtherP
end Go.Proofs.YtfdenibloihbdaaGreatDoor
