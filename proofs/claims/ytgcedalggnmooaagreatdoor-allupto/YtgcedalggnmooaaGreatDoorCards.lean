/-
  DERIVED. GIVEN WITH THE SEED: THE CARDS: each row of YtgcedalggnmooaaGreatDoorRows.lean that lists a variable, with what it lists TIED to the program's text (the seventh form; the later family's looks); each row that meets fmt, with fmt's text TOLD by the authors' own Lean function (tested against real Go, not proved from fmt's source: count such statements apart). THE CARD IS WHAT COUNTS. Prove the row's statement (the work); the ties are given (YtgcedalggnmooaaGreatDoorTie.lean); close each card by the builder's one call (the guide's Derived/Test/ToyasCard.lean, 'card_holds'). Laid BY PROGRAM, IN A SANDBOX (cutbox-door.mjs). By AI agents, Wed Nov 11 2026. No macro, syntax, notation, axiom, sorry.
-/
import Derived.Test.YtgcedalggnmooaaGreatDoorRows
import GoSem.ClaimSeven
namespace Go.Proofs.YtgcedalggnmooaaGreatDoor
namespace Rows

/-- THE TIED CARD OF 'larderlaw.Requests'. -/
def requestsCard : Claim7 := { stood := { row := requestsRow, standIns := [], harness := (true, "a696d1ee0e3c1a94707d654d4d4a003123bc297cb6684ce6351bb4661829c4a6"), looks := true }, kinds := [], alts := [], laidByText := true, laidKinds := [.sentinel, .sentinel], laidTests := true, laidLooks := .later }
def RequestsCardSaid : Prop := Claim7.holds Tryz.pinned (.plain (OpenSpec.ofChange requestsSpec)) requestsCard

/-- THE TIED CARD OF 'larderlaw.Stocks'. -/
def stocksCard : Claim7 := { stood := { row := stocksRow, standIns := [], harness := (true, "a696d1ee0e3c1a94707d654d4d4a003123bc297cb6684ce6351bb4661829c4a6"), looks := true }, kinds := [], alts := [], laidByText := true, laidKinds := [.sentinel, .sentinel], laidTests := true, laidLooks := .later }
def StocksCardSaid : Prop := Claim7.holds Tryz.pinned (.plain (OpenSpec.ofChange stocksSpec)) stocksCard

/-- THE TIED CARD OF 'larderlaw.Orders'. -/
def ordersCard : Claim7 := { stood := { row := ordersRow, standIns := [], harness := (true, "a696d1ee0e3c1a94707d654d4d4a003123bc297cb6684ce6351bb4661829c4a6"), looks := true }, kinds := [], alts := [], laidByText := true, laidKinds := [.sentinel, .sentinel], laidTests := true, laidLooks := .later }
def OrdersCardSaid : Prop := Claim7.holds Tryz.pinned (.plain (OpenSpec.ofChange ordersSpec)) ordersCard

/-- THE TIED CARD OF 'larderlaw.Recalls'. -/
def recallsCard : Claim7 := { stood := { row := recallsRow, standIns := [], harness := (true, "a696d1ee0e3c1a94707d654d4d4a003123bc297cb6684ce6351bb4661829c4a6"), looks := true }, kinds := [], alts := [], laidByText := true, laidKinds := [.sentinel, .sentinel], laidTests := true, laidLooks := .later }
def RecallsCardSaid : Prop := Claim7.holds Tryz.pinned (.plain (OpenSpec.ofChange recallsSpec)) recallsCard

/-- THE TIED CARD OF 'larderlaw.Logs'. -/
def logsCard : Claim7 := { stood := { row := logsRow, standIns := [], harness := (true, "a696d1ee0e3c1a94707d654d4d4a003123bc297cb6684ce6351bb4661829c4a6"), looks := true }, kinds := [], alts := [], laidByText := true, laidKinds := [.sentinel, .sentinel], laidTests := true, laidLooks := .later }
def LogsCardSaid : Prop := Claim7.holds Tryz.pinned (.plain (OpenSpec.ofChange logsSpec)) logsCard

/-- THE TIED CARD OF 'larderlaw.States'. -/
def statesCard : Claim7 := { stood := { row := statesRow, standIns := [], harness := (true, "a696d1ee0e3c1a94707d654d4d4a003123bc297cb6684ce6351bb4661829c4a6"), looks := true }, kinds := [], alts := [], laidByText := true, laidKinds := [.sentinel, .sentinel], laidTests := true, laidLooks := .later }
def StatesCardSaid : Prop := Claim7.holds Tryz.pinned (.plain (OpenSpec.ofChange statesSpec)) statesCard

/-- THE TIED CARD OF 'larderlaw.Opens'. -/
def opensCard : Claim7 := { stood := { row := opensRow, standIns := [], harness := (true, "a696d1ee0e3c1a94707d654d4d4a003123bc297cb6684ce6351bb4661829c4a6"), looks := true }, kinds := [], alts := [], laidByText := true, laidKinds := [.sentinel, .sentinel, .sentinel, .sentinel, .sentinel], laidTests := true, laidLooks := .later }
def OpensCardSaid : Prop := Claim7.holds Tryz.pinned (.plain (OpenSpec.ofChange opensSpec)) opensCard

/-- THE TIED CARD OF 'larderlaw.All'. -/
def allCard : Claim7 := { stood := { row := allRow, standIns := [], harness := (true, "a696d1ee0e3c1a94707d654d4d4a003123bc297cb6684ce6351bb4661829c4a6"), looks := true }, kinds := [], alts := [], laidByText := true, laidKinds := [.sentinel, .sentinel, .sentinel, .sentinel, .sentinel], laidTests := true, laidLooks := .later }
def AllCardSaid : Prop := Claim7.holds Tryz.pinned (.plain (OpenSpec.ofChange allSpec)) allCard

/-- THE TIED CARD OF 'larderkeep.Conserved'. -/
def conservedCard : Claim7 := { stood := { row := conservedRow, standIns := [], harness := (true, "a696d1ee0e3c1a94707d654d4d4a003123bc297cb6684ce6351bb4661829c4a6"), looks := true }, kinds := [], alts := [], laidByText := true, laidKinds := [.sentinel, .sentinel], laidTests := true, laidLooks := .later }
def ConservedCardSaid : Prop := Claim7.holds Tryz.pinned (.plain (OpenSpec.ofChange conservedSpec)) conservedCard

/-- THE TIED CARD OF 'larderkeep.Rotated'. -/
def rotatedCard : Claim7 := { stood := { row := rotatedRow, standIns := [], harness := (true, "a696d1ee0e3c1a94707d654d4d4a003123bc297cb6684ce6351bb4661829c4a6"), looks := true }, kinds := [], alts := [], laidByText := true, laidKinds := [.sentinel, .sentinel], laidTests := true, laidLooks := .later }
def RotatedCardSaid : Prop := Claim7.holds Tryz.pinned (.plain (OpenSpec.ofChange rotatedSpec)) rotatedCard

/-- THE TIED CARD OF 'larderkeep.Undone'. -/
def undoneCard : Claim7 := { stood := { row := undoneRow, standIns := [], harness := (true, "a696d1ee0e3c1a94707d654d4d4a003123bc297cb6684ce6351bb4661829c4a6"), looks := true }, kinds := [], alts := [], laidByText := true, laidKinds := [.sentinel, .sentinel], laidTests := true, laidLooks := .later }
def UndoneCardSaid : Prop := Claim7.holds Tryz.pinned (.plain (OpenSpec.ofChange undoneSpec)) undoneCard

/-- THE TIED CARD OF 'larderkeep.Traced'. -/
def tracedCard : Claim7 := { stood := { row := tracedRow, standIns := [], harness := (true, "a696d1ee0e3c1a94707d654d4d4a003123bc297cb6684ce6351bb4661829c4a6"), looks := true }, kinds := [], alts := [], laidByText := true, laidKinds := [.sentinel, .sentinel], laidTests := true, laidLooks := .later }
def TracedCardSaid : Prop := Claim7.holds Tryz.pinned (.plain (OpenSpec.ofChange tracedSpec)) tracedCard

/-- THE SECOND FORM's CARD OF 'larderlaw.Requests'. -/
def requestsUptoCard : Claim7 := { stood := { row := requestsUptoRow, standIns := [], harness := (true, "a696d1ee0e3c1a94707d654d4d4a003123bc297cb6684ce6351bb4661829c4a6"), looks := true }, kinds := [], alts := [], laidByText := true, laidKinds := [.sentinel, .sentinel], laidTests := true, laidLooks := .later }
def RequestsUptoCardSaid : Prop := Claim7.holds Tryz.pinned (.plain (OpenSpec.upto requestsSpec)) requestsUptoCard

/-- THE SECOND FORM's CARD OF 'larderlaw.Stocks'. -/
def stocksUptoCard : Claim7 := { stood := { row := stocksUptoRow, standIns := [], harness := (true, "a696d1ee0e3c1a94707d654d4d4a003123bc297cb6684ce6351bb4661829c4a6"), looks := true }, kinds := [], alts := [], laidByText := true, laidKinds := [.sentinel, .sentinel], laidTests := true, laidLooks := .later }
def StocksUptoCardSaid : Prop := Claim7.holds Tryz.pinned (.plain (OpenSpec.upto stocksSpec)) stocksUptoCard

/-- THE SECOND FORM's CARD OF 'larderlaw.Orders'. -/
def ordersUptoCard : Claim7 := { stood := { row := ordersUptoRow, standIns := [], harness := (true, "a696d1ee0e3c1a94707d654d4d4a003123bc297cb6684ce6351bb4661829c4a6"), looks := true }, kinds := [], alts := [], laidByText := true, laidKinds := [.sentinel, .sentinel], laidTests := true, laidLooks := .later }
def OrdersUptoCardSaid : Prop := Claim7.holds Tryz.pinned (.plain (OpenSpec.upto ordersSpec)) ordersUptoCard

/-- THE SECOND FORM's CARD OF 'larderlaw.Recalls'. -/
def recallsUptoCard : Claim7 := { stood := { row := recallsUptoRow, standIns := [], harness := (true, "a696d1ee0e3c1a94707d654d4d4a003123bc297cb6684ce6351bb4661829c4a6"), looks := true }, kinds := [], alts := [], laidByText := true, laidKinds := [.sentinel, .sentinel], laidTests := true, laidLooks := .later }
def RecallsUptoCardSaid : Prop := Claim7.holds Tryz.pinned (.plain (OpenSpec.upto recallsSpec)) recallsUptoCard

/-- THE SECOND FORM's CARD OF 'larderlaw.Logs'. -/
def logsUptoCard : Claim7 := { stood := { row := logsUptoRow, standIns := [], harness := (true, "a696d1ee0e3c1a94707d654d4d4a003123bc297cb6684ce6351bb4661829c4a6"), looks := true }, kinds := [], alts := [], laidByText := true, laidKinds := [.sentinel, .sentinel], laidTests := true, laidLooks := .later }
def LogsUptoCardSaid : Prop := Claim7.holds Tryz.pinned (.plain (OpenSpec.upto logsSpec)) logsUptoCard

/-- THE SECOND FORM's CARD OF 'larderlaw.States'. -/
def statesUptoCard : Claim7 := { stood := { row := statesUptoRow, standIns := [], harness := (true, "a696d1ee0e3c1a94707d654d4d4a003123bc297cb6684ce6351bb4661829c4a6"), looks := true }, kinds := [], alts := [], laidByText := true, laidKinds := [.sentinel, .sentinel], laidTests := true, laidLooks := .later }
def StatesUptoCardSaid : Prop := Claim7.holds Tryz.pinned (.plain (OpenSpec.upto statesSpec)) statesUptoCard

/-- THE SECOND FORM's CARD OF 'larderlaw.Opens'. -/
def opensUptoCard : Claim7 := { stood := { row := opensUptoRow, standIns := [], harness := (true, "a696d1ee0e3c1a94707d654d4d4a003123bc297cb6684ce6351bb4661829c4a6"), looks := true }, kinds := [], alts := [], laidByText := true, laidKinds := [.sentinel, .sentinel, .sentinel, .sentinel, .sentinel], laidTests := true, laidLooks := .later }
def OpensUptoCardSaid : Prop := Claim7.holds Tryz.pinned (.plain (OpenSpec.upto opensSpec)) opensUptoCard

/-- THE SECOND FORM's CARD OF 'larderlaw.All'. -/
def allUptoCard : Claim7 := { stood := { row := allUptoRow, standIns := [], harness := (true, "a696d1ee0e3c1a94707d654d4d4a003123bc297cb6684ce6351bb4661829c4a6"), looks := true }, kinds := [], alts := [], laidByText := true, laidKinds := [.sentinel, .sentinel, .sentinel, .sentinel, .sentinel], laidTests := true, laidLooks := .later }
def AllUptoCardSaid : Prop := Claim7.holds Tryz.pinned (.plain (OpenSpec.upto allSpec)) allUptoCard

/-- THE SECOND FORM's CARD OF 'larderkeep.Conserved'. -/
def conservedUptoCard : Claim7 := { stood := { row := conservedUptoRow, standIns := [], harness := (true, "a696d1ee0e3c1a94707d654d4d4a003123bc297cb6684ce6351bb4661829c4a6"), looks := true }, kinds := [], alts := [], laidByText := true, laidKinds := [.sentinel, .sentinel], laidTests := true, laidLooks := .later }
def ConservedUptoCardSaid : Prop := Claim7.holds Tryz.pinned (.plain (OpenSpec.upto conservedSpec)) conservedUptoCard

/-- THE SECOND FORM's CARD OF 'larderkeep.Rotated'. -/
def rotatedUptoCard : Claim7 := { stood := { row := rotatedUptoRow, standIns := [], harness := (true, "a696d1ee0e3c1a94707d654d4d4a003123bc297cb6684ce6351bb4661829c4a6"), looks := true }, kinds := [], alts := [], laidByText := true, laidKinds := [.sentinel, .sentinel], laidTests := true, laidLooks := .later }
def RotatedUptoCardSaid : Prop := Claim7.holds Tryz.pinned (.plain (OpenSpec.upto rotatedSpec)) rotatedUptoCard

/-- THE SECOND FORM's CARD OF 'larderkeep.Undone'. -/
def undoneUptoCard : Claim7 := { stood := { row := undoneUptoRow, standIns := [], harness := (true, "a696d1ee0e3c1a94707d654d4d4a003123bc297cb6684ce6351bb4661829c4a6"), looks := true }, kinds := [], alts := [], laidByText := true, laidKinds := [.sentinel, .sentinel], laidTests := true, laidLooks := .later }
def UndoneUptoCardSaid : Prop := Claim7.holds Tryz.pinned (.plain (OpenSpec.upto undoneSpec)) undoneUptoCard

/-- THE SECOND FORM's CARD OF 'larderkeep.Traced'. -/
def tracedUptoCard : Claim7 := { stood := { row := tracedUptoRow, standIns := [], harness := (true, "a696d1ee0e3c1a94707d654d4d4a003123bc297cb6684ce6351bb4661829c4a6"), looks := true }, kinds := [], alts := [], laidByText := true, laidKinds := [.sentinel, .sentinel], laidTests := true, laidLooks := .later }
def TracedUptoCardSaid : Prop := Claim7.holds Tryz.pinned (.plain (OpenSpec.upto tracedSpec)) tracedUptoCard
end Rows
end Go.Proofs.YtgcedalggnmooaaGreatDoor
