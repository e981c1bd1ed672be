/-
  DERIVED. GIVEN WITH THE SEED: THE CARDS: each row of YtldaocpojcfljaaGreatDoorRows.lean that lists a variable, with what it lists TIED to the program's text (the seventh form; the later family's looks); each row that meets fmt, with fmt's text TOLD by the authors' own Lean function (tested against real Go, not proved from fmt's source: count such statements apart). THE CARD IS WHAT COUNTS. Prove the row's statement (the work); the ties are given (YtldaocpojcfljaaGreatDoorTie.lean); close each card by the builder's one call (the guide's Derived/Test/ToyasCard.lean, 'card_holds'). Laid BY PROGRAM, IN A SANDBOX (cutbox-door.mjs). By AI agents, Wed Nov 11 2026. No macro, syntax, notation, axiom, sorry.
-/
import Derived.Test.YtldaocpojcfljaaGreatDoorRows
import GoSem.ClaimSeven
namespace Go.Proofs.YtldaocpojcfljaaGreatDoor
namespace Rows

/-- THE TIED CARD OF 'pupilkeep.Computes'. -/
def computesCard : Claim7 := { stood := { row := computesRow, standIns := [], harness := (true, "1cefc60dfa2452ca0add1bd17cfab41e8555a151e3ca105add7e39e472a530e6"), looks := true }, kinds := [], alts := [], laidByText := true, laidKinds := [.data, .data, .data, .sentinel, .sentinel], laidTests := true, laidLooks := .later }
def ComputesCardSaid : Prop := Claim7.holds Tryz.pinned (.plain (OpenSpec.ofChange computesSpec)) computesCard

/-- THE TIED CARD OF 'pupilkeep.Listed'. -/
def listedCard : Claim7 := { stood := { row := listedRow, standIns := [], harness := (true, "1cefc60dfa2452ca0add1bd17cfab41e8555a151e3ca105add7e39e472a530e6"), looks := true }, kinds := [], alts := [], laidByText := true, laidKinds := [.data, .data, .data, .sentinel, .sentinel], laidTests := true, laidLooks := .later }
def ListedCardSaid : Prop := Claim7.holds Tryz.pinned (.plain (OpenSpec.ofChange listedSpec)) listedCard

/-- THE TIED CARD OF 'pupilkeep.Renamed'. -/
def renamedCard : Claim7 := { stood := { row := renamedRow, standIns := [], harness := (true, "1cefc60dfa2452ca0add1bd17cfab41e8555a151e3ca105add7e39e472a530e6"), looks := true }, kinds := [], alts := [], laidByText := true, laidKinds := [.data, .data, .data, .sentinel, .sentinel], laidTests := true, laidLooks := .later }
def RenamedCardSaid : Prop := Claim7.holds Tryz.pinned (.plain (OpenSpec.ofChange renamedSpec)) renamedCard

/-- THE TIED CARD OF 'pupilkeep.Escapes'. -/
def escapesCard : Claim7 := { stood := { row := escapesRow, standIns := [], harness := (true, "1cefc60dfa2452ca0add1bd17cfab41e8555a151e3ca105add7e39e472a530e6"), looks := true }, kinds := [], alts := [], laidByText := true, laidKinds := [.data, .data, .data, .sentinel, .sentinel], laidTests := true, laidLooks := .later }
def EscapesCardSaid : Prop := Claim7.holds Tryz.pinned (.plain (OpenSpec.ofChange escapesSpec)) escapesCard

/-- THE TIED CARD OF 'pupillaw.Runs'. -/
def runsCard : Claim7 := { stood := { row := runsRow, standIns := [], harness := (true, "1cefc60dfa2452ca0add1bd17cfab41e8555a151e3ca105add7e39e472a530e6"), looks := true }, kinds := [], alts := [], laidByText := true, laidKinds := [.data, .data, .data, .sentinel, .sentinel], laidTests := true, laidLooks := .later }
def RunsCardSaid : Prop := Claim7.holds Tryz.pinned (.plain (OpenSpec.ofChange runsSpec)) runsCard

/-- THE TIED CARD OF 'pupillaw.Sessions'. -/
def sessionsCard : Claim7 := { stood := { row := sessionsRow, standIns := [], harness := (true, "1cefc60dfa2452ca0add1bd17cfab41e8555a151e3ca105add7e39e472a530e6"), looks := true }, kinds := [], alts := [], laidByText := true, laidKinds := [.data, .data, .data, .sentinel, .sentinel], laidTests := true, laidLooks := .later }
def SessionsCardSaid : Prop := Claim7.holds Tryz.pinned (.plain (OpenSpec.ofChange sessionsSpec)) sessionsCard

/-- THE TIED CARD OF 'pupilkeep.Blind'. -/
def blindCard : Claim7 := { stood := { row := blindRow, standIns := [], harness := (true, "1cefc60dfa2452ca0add1bd17cfab41e8555a151e3ca105add7e39e472a530e6"), looks := true }, kinds := [], alts := [], laidByText := true, laidKinds := [.data, .data, .data, .sentinel, .sentinel], laidTests := true, laidLooks := .later }
def BlindCardSaid : Prop := Claim7.holds Tryz.pinned (.plain (OpenSpec.ofChange blindSpec)) blindCard

/-- THE TIED CARD OF 'pupilkeep.Alone'. -/
def aloneCard : Claim7 := { stood := { row := aloneRow, standIns := [], harness := (true, "1cefc60dfa2452ca0add1bd17cfab41e8555a151e3ca105add7e39e472a530e6"), looks := true }, kinds := [], alts := [], laidByText := true, laidKinds := [.data, .data, .data, .sentinel, .sentinel], laidTests := true, laidLooks := .later }
def AloneCardSaid : Prop := Claim7.holds Tryz.pinned (.plain (OpenSpec.ofChange aloneSpec)) aloneCard

/-- THE TIED CARD OF 'pupilkeep.Bounded'. -/
def boundedCard : Claim7 := { stood := { row := boundedRow, standIns := [], harness := (true, "1cefc60dfa2452ca0add1bd17cfab41e8555a151e3ca105add7e39e472a530e6"), looks := true }, kinds := [], alts := [], laidByText := true, laidKinds := [.data, .data, .data, .sentinel, .sentinel], laidTests := true, laidLooks := .later }
def BoundedCardSaid : Prop := Claim7.holds Tryz.pinned (.plain (OpenSpec.ofChange boundedSpec)) boundedCard

/-- THE SECOND FORM's CARD OF 'pupilkeep.Computes'. -/
def computesUptoCard : Claim7 := { stood := { row := computesUptoRow, standIns := [], harness := (true, "1cefc60dfa2452ca0add1bd17cfab41e8555a151e3ca105add7e39e472a530e6"), looks := true }, kinds := [], alts := [], laidByText := true, laidKinds := [.data, .data, .data, .sentinel, .sentinel], laidTests := true, laidLooks := .later }
def ComputesUptoCardSaid : Prop := Claim7.holds Tryz.pinned (.plain (OpenSpec.upto computesSpec)) computesUptoCard

/-- THE SECOND FORM's CARD OF 'pupilkeep.Listed'. -/
def listedUptoCard : Claim7 := { stood := { row := listedUptoRow, standIns := [], harness := (true, "1cefc60dfa2452ca0add1bd17cfab41e8555a151e3ca105add7e39e472a530e6"), looks := true }, kinds := [], alts := [], laidByText := true, laidKinds := [.data, .data, .data, .sentinel, .sentinel], laidTests := true, laidLooks := .later }
def ListedUptoCardSaid : Prop := Claim7.holds Tryz.pinned (.plain (OpenSpec.upto listedSpec)) listedUptoCard

/-- THE SECOND FORM's CARD OF 'pupilkeep.Renamed'. -/
def renamedUptoCard : Claim7 := { stood := { row := renamedUptoRow, standIns := [], harness := (true, "1cefc60dfa2452ca0add1bd17cfab41e8555a151e3ca105add7e39e472a530e6"), looks := true }, kinds := [], alts := [], laidByText := true, laidKinds := [.data, .data, .data, .sentinel, .sentinel], laidTests := true, laidLooks := .later }
def RenamedUptoCardSaid : Prop := Claim7.holds Tryz.pinned (.plain (OpenSpec.upto renamedSpec)) renamedUptoCard

/-- THE SECOND FORM's CARD OF 'pupilkeep.Escapes'. -/
def escapesUptoCard : Claim7 := { stood := { row := escapesUptoRow, standIns := [], harness := (true, "1cefc60dfa2452ca0add1bd17cfab41e8555a151e3ca105add7e39e472a530e6"), looks := true }, kinds := [], alts := [], laidByText := true, laidKinds := [.data, .data, .data, .sentinel, .sentinel], laidTests := true, laidLooks := .later }
def EscapesUptoCardSaid : Prop := Claim7.holds Tryz.pinned (.plain (OpenSpec.upto escapesSpec)) escapesUptoCard

/-- THE SECOND FORM's CARD OF 'pupillaw.Runs'. -/
def runsUptoCard : Claim7 := { stood := { row := runsUptoRow, standIns := [], harness := (true, "1cefc60dfa2452ca0add1bd17cfab41e8555a151e3ca105add7e39e472a530e6"), looks := true }, kinds := [], alts := [], laidByText := true, laidKinds := [.data, .data, .data, .sentinel, .sentinel], laidTests := true, laidLooks := .later }
def RunsUptoCardSaid : Prop := Claim7.holds Tryz.pinned (.plain (OpenSpec.upto runsSpec)) runsUptoCard

/-- THE SECOND FORM's CARD OF 'pupillaw.Sessions'. -/
def sessionsUptoCard : Claim7 := { stood := { row := sessionsUptoRow, standIns := [], harness := (true, "1cefc60dfa2452ca0add1bd17cfab41e8555a151e3ca105add7e39e472a530e6"), looks := true }, kinds := [], alts := [], laidByText := true, laidKinds := [.data, .data, .data, .sentinel, .sentinel], laidTests := true, laidLooks := .later }
def SessionsUptoCardSaid : Prop := Claim7.holds Tryz.pinned (.plain (OpenSpec.upto sessionsSpec)) sessionsUptoCard

/-- THE SECOND FORM's CARD OF 'pupilkeep.Blind'. -/
def blindUptoCard : Claim7 := { stood := { row := blindUptoRow, standIns := [], harness := (true, "1cefc60dfa2452ca0add1bd17cfab41e8555a151e3ca105add7e39e472a530e6"), looks := true }, kinds := [], alts := [], laidByText := true, laidKinds := [.data, .data, .data, .sentinel, .sentinel], laidTests := true, laidLooks := .later }
def BlindUptoCardSaid : Prop := Claim7.holds Tryz.pinned (.plain (OpenSpec.upto blindSpec)) blindUptoCard

/-- THE SECOND FORM's CARD OF 'pupilkeep.Alone'. -/
def aloneUptoCard : Claim7 := { stood := { row := aloneUptoRow, standIns := [], harness := (true, "1cefc60dfa2452ca0add1bd17cfab41e8555a151e3ca105add7e39e472a530e6"), looks := true }, kinds := [], alts := [], laidByText := true, laidKinds := [.data, .data, .data, .sentinel, .sentinel], laidTests := true, laidLooks := .later }
def AloneUptoCardSaid : Prop := Claim7.holds Tryz.pinned (.plain (OpenSpec.upto aloneSpec)) aloneUptoCard

/-- THE SECOND FORM's CARD OF 'pupilkeep.Bounded'. -/
def boundedUptoCard : Claim7 := { stood := { row := boundedUptoRow, standIns := [], harness := (true, "1cefc60dfa2452ca0add1bd17cfab41e8555a151e3ca105add7e39e472a530e6"), looks := true }, kinds := [], alts := [], laidByText := true, laidKinds := [.data, .data, .data, .sentinel, .sentinel], laidTests := true, laidLooks := .later }
def BoundedUptoCardSaid : Prop := Claim7.holds Tryz.pinned (.plain (OpenSpec.upto boundedSpec)) boundedUptoCard
end Rows
end Go.Proofs.YtldaocpojcfljaaGreatDoor
