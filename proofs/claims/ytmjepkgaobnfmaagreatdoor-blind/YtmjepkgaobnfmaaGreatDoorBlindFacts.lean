import Derived.Test.YtmjepkgaobnfmaaGreatDoorRows
import Derived.Test.YtmjepkgaobnfmaaGreatDoorCards
import Derived.JoinedCond
set_option maxRecDepth 100000
namespace Go.Proofs.YtmjepkgaobnfmaaGreatDoor
namespace BlindP
theorem maps3:mapsRowed Tryz.prog=true:=by kernel_rfl
theorem w10:(Rows.blindRow.inPlace==Tryz.prog.inPlace 3)=true:=by kernel_rfl
theorem w11:(Rows.blindRow.unfollowed==Tryz.prog.unfollowed 3)=true:=by kernel_rfl
theorem w12:(Rows.blindRow.recurses==Tryz.prog.recurses 3)=true:=by kernel_rfl
theorem w13:(Rows.blindRow.named==Tryz.prog.varsNamed 3)=true:=by kernel_rfl
theorem goes:false=Rows.blindRow.goesBy Tryz.pinned.checked.prog:=by kernel_rfl
end BlindP
end Go.Proofs.YtmjepkgaobnfmaaGreatDoor
