import Derived.Test.YtfdenibloihbdaaGreatDoorRows
import Derived.Test.YtfdenibloihbdaaGreatDoorCards
import Derived.JoinedCond
set_option maxRecDepth 100000
namespace Go.Proofs.YtfdenibloihbdaaGreatDoor
namespace ConfinedP
theorem maps3:mapsRowed Tryz.prog=true:=by kernel_rfl
theorem w10:(Rows.confinedRow.inPlace==Tryz.prog.inPlace 4)=true:=by kernel_rfl
theorem w11:(Rows.confinedRow.unfollowed==Tryz.prog.unfollowed 4)=true:=by kernel_rfl
theorem w12:(Rows.confinedRow.recurses==Tryz.prog.recurses 4)=true:=by kernel_rfl
theorem w13:(Rows.confinedRow.named==Tryz.prog.varsNamed 4)=true:=by kernel_rfl
theorem goes:false=Rows.confinedRow.goesBy Tryz.pinned.checked.prog:=by kernel_rfl
end ConfinedP
end Go.Proofs.YtfdenibloihbdaaGreatDoor
