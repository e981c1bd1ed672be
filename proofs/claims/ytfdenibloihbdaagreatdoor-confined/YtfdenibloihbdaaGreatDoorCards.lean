/-
  DERIVED. GIVEN WITH THE SEED: THE CARDS: each row of YtfdenibloihbdaaGreatDoorRows.lean that lists a variable, with what it lists TIED to the program's text (the seventh form; the later family's looks); each row that meets fmt, with fmt's text TOLD by the authors' own Lean function (tested against real Go, not proved from fmt's source: count such statements apart). THE CARD IS WHAT COUNTS. Prove the row's statement (the work); the ties are given (YtfdenibloihbdaaGreatDoorTie.lean); close each card by the builder's one call (the guide's Derived/Test/ToyasCard.lean, 'card_holds'). Laid BY PROGRAM, IN A SANDBOX (cutbox-door.mjs). By AI agents, Wed Nov 11 2026. No macro, syntax, notation, axiom, sorry.
-/
import Derived.Test.YtfdenibloihbdaaGreatDoorRows
import GoSem.ClaimSeven
namespace Go.Proofs.YtfdenibloihbdaaGreatDoor
namespace Rows

/-- THE TIED CARD OF 'pupilkeep.Further'. -/
def furtherCard : Claim7 := { stood := { row := furtherRow, standIns := [], harness := (true, "14e371b86448ae9d7fc4a909eddf1f80c4b27bc3660b08789e93caed84f0c995"), looks := true }, kinds := [], alts := [], laidByText := true, laidKinds := [.data, .data, .data, .sentinel, .sentinel], laidTests := true, laidLooks := .later }
def FurtherCardSaid : Prop := Claim7.holds Tryz.pinned (.plain (OpenSpec.ofChange furtherSpec)) furtherCard

/-- THE TIED CARD OF 'pupilkeep.Confined'. -/
def confinedCard : Claim7 := { stood := { row := confinedRow, standIns := [], harness := (true, "14e371b86448ae9d7fc4a909eddf1f80c4b27bc3660b08789e93caed84f0c995"), looks := true }, kinds := [], alts := [], laidByText := true, laidKinds := [.data, .data, .data, .sentinel, .sentinel], laidTests := true, laidLooks := .later }
def ConfinedCardSaid : Prop := Claim7.holds Tryz.pinned (.plain (OpenSpec.ofChange confinedSpec)) confinedCard

/-- THE SECOND FORM's CARD OF 'pupilkeep.Further'. -/
def furtherUptoCard : Claim7 := { stood := { row := furtherUptoRow, standIns := [], harness := (true, "14e371b86448ae9d7fc4a909eddf1f80c4b27bc3660b08789e93caed84f0c995"), looks := true }, kinds := [], alts := [], laidByText := true, laidKinds := [.data, .data, .data, .sentinel, .sentinel], laidTests := true, laidLooks := .later }
def FurtherUptoCardSaid : Prop := Claim7.holds Tryz.pinned (.plain (OpenSpec.upto furtherSpec)) furtherUptoCard

/-- THE SECOND FORM's CARD OF 'pupilkeep.Confined'. -/
def confinedUptoCard : Claim7 := { stood := { row := confinedUptoRow, standIns := [], harness := (true, "14e371b86448ae9d7fc4a909eddf1f80c4b27bc3660b08789e93caed84f0c995"), looks := true }, kinds := [], alts := [], laidByText := true, laidKinds := [.data, .data, .data, .sentinel, .sentinel], laidTests := true, laidLooks := .later }
def ConfinedUptoCardSaid : Prop := Claim7.holds Tryz.pinned (.plain (OpenSpec.upto confinedSpec)) confinedUptoCard
end Rows
end Go.Proofs.YtfdenibloihbdaaGreatDoor
