/-
  DERIVED. GIVEN WITH THE SEED: THE CARDS: each row of YtgcedalggnmooabGreatDoorRows.lean that lists a variable, with what it lists TIED to the program's text (the seventh form; the later family's looks); each row that meets fmt, with fmt's text TOLD by the authors' own Lean function (tested against real Go, not proved from fmt's source: count such statements apart). THE CARD IS WHAT COUNTS. Prove the row's statement (the work); the ties are given (YtgcedalggnmooabGreatDoorTie.lean); close each card by the builder's one call (the guide's Derived/Test/ToyasCard.lean, 'card_holds'). Laid BY PROGRAM, IN A SANDBOX (cutbox-door.mjs). By AI agents, Wed Nov 11 2026. No macro, syntax, notation, axiom, sorry.
-/
import Derived.Test.YtgcedalggnmooabGreatDoorRows
import GoSem.ClaimSeven
namespace Go.Proofs.YtgcedalggnmooabGreatDoor
namespace Rows

/-- THE TIED CARD OF 'larderkeep.Refused'. -/
def refusedCard : Claim7 := { stood := { row := refusedRow, standIns := [], harness := (true, "65db26065897f8c3fdd4d0087bf7603fee8fd5072c31a0208efa8acd21a78e63"), looks := true }, kinds := [], alts := [], laidByText := true, laidKinds := [.sentinel, .sentinel], laidTests := true, laidLooks := .later }
def RefusedCardSaid : Prop := Claim7.holds Tryz.pinned (.plain (OpenSpec.ofChange refusedSpec)) refusedCard

/-- THE TIED CARD OF 'larderkeep.Resumed'. -/
def resumedCard : Claim7 := { stood := { row := resumedRow, standIns := [], harness := (true, "65db26065897f8c3fdd4d0087bf7603fee8fd5072c31a0208efa8acd21a78e63"), looks := true }, kinds := [], alts := [], laidByText := true, laidKinds := [.sentinel, .sentinel, .sentinel, .sentinel, .sentinel], laidTests := true, laidLooks := .later }
def ResumedCardSaid : Prop := Claim7.holds Tryz.pinned (.plain (OpenSpec.ofChange resumedSpec)) resumedCard

/-- THE TIED CARD OF 'larderkeep.Compacted'. -/
def compactedCard : Claim7 := { stood := { row := compactedRow, standIns := [], harness := (true, "65db26065897f8c3fdd4d0087bf7603fee8fd5072c31a0208efa8acd21a78e63"), looks := true }, kinds := [], alts := [], laidByText := true, laidKinds := [.sentinel, .sentinel, .sentinel, .sentinel, .sentinel], laidTests := true, laidLooks := .later }
def CompactedCardSaid : Prop := Claim7.holds Tryz.pinned (.plain (OpenSpec.ofChange compactedSpec)) compactedCard

/-- THE TIED CARD OF 'larderkeep.Torn'. -/
def tornCard : Claim7 := { stood := { row := tornRow, standIns := [], harness := (true, "65db26065897f8c3fdd4d0087bf7603fee8fd5072c31a0208efa8acd21a78e63"), looks := true }, kinds := [], alts := [], laidByText := true, laidKinds := [.sentinel, .sentinel, .sentinel, .sentinel, .sentinel], laidTests := true, laidLooks := .later }
def TornCardSaid : Prop := Claim7.holds Tryz.pinned (.plain (OpenSpec.ofChange tornSpec)) tornCard

/-- THE SECOND FORM's CARD OF 'larderkeep.Refused'. -/
def refusedUptoCard : Claim7 := { stood := { row := refusedUptoRow, standIns := [], harness := (true, "65db26065897f8c3fdd4d0087bf7603fee8fd5072c31a0208efa8acd21a78e63"), looks := true }, kinds := [], alts := [], laidByText := true, laidKinds := [.sentinel, .sentinel], laidTests := true, laidLooks := .later }
def RefusedUptoCardSaid : Prop := Claim7.holds Tryz.pinned (.plain (OpenSpec.upto refusedSpec)) refusedUptoCard

/-- THE SECOND FORM's CARD OF 'larderkeep.Resumed'. -/
def resumedUptoCard : Claim7 := { stood := { row := resumedUptoRow, standIns := [], harness := (true, "65db26065897f8c3fdd4d0087bf7603fee8fd5072c31a0208efa8acd21a78e63"), looks := true }, kinds := [], alts := [], laidByText := true, laidKinds := [.sentinel, .sentinel, .sentinel, .sentinel, .sentinel], laidTests := true, laidLooks := .later }
def ResumedUptoCardSaid : Prop := Claim7.holds Tryz.pinned (.plain (OpenSpec.upto resumedSpec)) resumedUptoCard

/-- THE SECOND FORM's CARD OF 'larderkeep.Compacted'. -/
def compactedUptoCard : Claim7 := { stood := { row := compactedUptoRow, standIns := [], harness := (true, "65db26065897f8c3fdd4d0087bf7603fee8fd5072c31a0208efa8acd21a78e63"), looks := true }, kinds := [], alts := [], laidByText := true, laidKinds := [.sentinel, .sentinel, .sentinel, .sentinel, .sentinel], laidTests := true, laidLooks := .later }
def CompactedUptoCardSaid : Prop := Claim7.holds Tryz.pinned (.plain (OpenSpec.upto compactedSpec)) compactedUptoCard

/-- THE SECOND FORM's CARD OF 'larderkeep.Torn'. -/
def tornUptoCard : Claim7 := { stood := { row := tornUptoRow, standIns := [], harness := (true, "65db26065897f8c3fdd4d0087bf7603fee8fd5072c31a0208efa8acd21a78e63"), looks := true }, kinds := [], alts := [], laidByText := true, laidKinds := [.sentinel, .sentinel, .sentinel, .sentinel, .sentinel], laidTests := true, laidLooks := .later }
def TornUptoCardSaid : Prop := Claim7.holds Tryz.pinned (.plain (OpenSpec.upto tornSpec)) tornUptoCard
end Rows
end Go.Proofs.YtgcedalggnmooabGreatDoor
