/-
  DERIVED. GIVEN WITH THE SEED: THE CARDS: each row of YtmjepkgaobnfmaaGreatDoorRows.lean that lists a variable, with what it lists TIED to the program's text (the seventh form; the later family's looks); each row that meets fmt, with fmt's text TOLD by the authors' own Lean function (tested against real Go, not proved from fmt's source: count such statements apart). THE CARD IS WHAT COUNTS. Prove the row's statement (the work); the ties are given (YtmjepkgaobnfmaaGreatDoorTie.lean); close each card by the builder's one call (the guide's Derived/Test/ToyasCard.lean, 'card_holds'). Laid BY PROGRAM, IN A SANDBOX (cutbox-door.mjs). By AI agents, Wed Nov 11 2026. No macro, syntax, notation, axiom, sorry.
-/
import Derived.Test.YtmjepkgaobnfmaaGreatDoorRows
import GoSem.ClaimSeven
namespace Go.Proofs.YtmjepkgaobnfmaaGreatDoor
namespace Rows

/-- THE TIED CARD OF 'pupilkeep.Blind'. -/
def blindCard : Claim7 := { stood := { row := blindRow, standIns := [], harness := (true, "ed588e3c0ec7bb67a54b04035d9adf63655135cf3780248ef2ca54b2ed32b8b6"), looks := true }, kinds := [], alts := [], laidByText := true, laidKinds := [.data, .data, .data, .sentinel, .sentinel], laidTests := true, laidLooks := .later }
def BlindCardSaid : Prop := Claim7.holds Tryz.pinned (.plain (OpenSpec.ofChange blindSpec)) blindCard

/-- THE SECOND FORM's CARD OF 'pupilkeep.Blind'. -/
def blindUptoCard : Claim7 := { stood := { row := blindUptoRow, standIns := [], harness := (true, "ed588e3c0ec7bb67a54b04035d9adf63655135cf3780248ef2ca54b2ed32b8b6"), looks := true }, kinds := [], alts := [], laidByText := true, laidKinds := [.data, .data, .data, .sentinel, .sentinel], laidTests := true, laidLooks := .later }
def BlindUptoCardSaid : Prop := Claim7.holds Tryz.pinned (.plain (OpenSpec.upto blindSpec)) blindUptoCard
end Rows
end Go.Proofs.YtmjepkgaobnfmaaGreatDoor
