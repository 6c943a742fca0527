/-
  DERIVED. GIVEN WITH THE SEED: THE CARDS: each row of YtlmafelclgeccaaGreatDoorRows.lean that lists a variable, with what it lists TIED to the program's text (the seventh form; the later family's looks); each row that meets fmt, with fmt's text TOLD by the authors' own Lean function (tested against real Go, not proved from fmt's source: count such statements apart). THE CARD IS WHAT COUNTS. Prove the row's statement (the work); the ties are given (YtlmafelclgeccaaGreatDoorTie.lean); close each card by the builder's one call (the guide's Derived/Test/ToyasCard.lean, 'card_holds'). Laid BY PROGRAM, IN A SANDBOX (cutbox-door.mjs). By AI agents, Wed Nov 11 2026. No macro, syntax, notation, axiom, sorry.
-/
import Derived.Test.YtlmafelclgeccaaGreatDoorRows
import GoSem.ClaimSeven
namespace Go.Proofs.YtlmafelclgeccaaGreatDoor
namespace Rows

/-- THE TIED CARD OF 'larderlaw.Requests'. -/
def requestsCard : Claim7 := { stood := { row := requestsRow, standIns := [], harness := (true, "4e2fdbf86829d71a0e284f1283f383f9390ff92f5cf6816226c3564023045df6"), looks := true }, kinds := [], alts := [], laidByText := true, laidKinds := [.sentinel, .sentinel], laidTests := true, laidLooks := .later }
def RequestsCardSaid : Prop := Claim7.holds Tryz.pinned (.plain (OpenSpec.ofChange requestsSpec)) requestsCard

/-- THE TIED CARD OF 'larderlaw.Stocks'. -/
def stocksCard : Claim7 := { stood := { row := stocksRow, standIns := [], harness := (true, "4e2fdbf86829d71a0e284f1283f383f9390ff92f5cf6816226c3564023045df6"), looks := true }, kinds := [], alts := [], laidByText := true, laidKinds := [.sentinel, .sentinel], laidTests := true, laidLooks := .later }
def StocksCardSaid : Prop := Claim7.holds Tryz.pinned (.plain (OpenSpec.ofChange stocksSpec)) stocksCard

/-- THE TIED CARD OF 'larderlaw.Orders'. -/
def ordersCard : Claim7 := { stood := { row := ordersRow, standIns := [], harness := (true, "4e2fdbf86829d71a0e284f1283f383f9390ff92f5cf6816226c3564023045df6"), looks := true }, kinds := [], alts := [], laidByText := true, laidKinds := [.sentinel, .sentinel], laidTests := true, laidLooks := .later }
def OrdersCardSaid : Prop := Claim7.holds Tryz.pinned (.plain (OpenSpec.ofChange ordersSpec)) ordersCard

/-- THE TIED CARD OF 'larderlaw.Recalls'. -/
def recallsCard : Claim7 := { stood := { row := recallsRow, standIns := [], harness := (true, "4e2fdbf86829d71a0e284f1283f383f9390ff92f5cf6816226c3564023045df6"), looks := true }, kinds := [], alts := [], laidByText := true, laidKinds := [.sentinel, .sentinel], laidTests := true, laidLooks := .later }
def RecallsCardSaid : Prop := Claim7.holds Tryz.pinned (.plain (OpenSpec.ofChange recallsSpec)) recallsCard

/-- THE TIED CARD OF 'larderlaw.Logs'. -/
def logsCard : Claim7 := { stood := { row := logsRow, standIns := [], harness := (true, "4e2fdbf86829d71a0e284f1283f383f9390ff92f5cf6816226c3564023045df6"), looks := true }, kinds := [], alts := [], laidByText := true, laidKinds := [.sentinel, .sentinel], laidTests := true, laidLooks := .later }
def LogsCardSaid : Prop := Claim7.holds Tryz.pinned (.plain (OpenSpec.ofChange logsSpec)) logsCard

/-- THE TIED CARD OF 'larderlaw.Opens'. -/
def opensCard : Claim7 := { stood := { row := opensRow, standIns := [], harness := (true, "4e2fdbf86829d71a0e284f1283f383f9390ff92f5cf6816226c3564023045df6"), looks := true }, kinds := [], alts := [], laidByText := true, laidKinds := [.sentinel, .sentinel], laidTests := true, laidLooks := .later }
def OpensCardSaid : Prop := Claim7.holds Tryz.pinned (.plain (OpenSpec.ofChange opensSpec)) opensCard

/-- THE TIED CARD OF 'larderkeep.Conserved'. -/
def conservedCard : Claim7 := { stood := { row := conservedRow, standIns := [], harness := (true, "4e2fdbf86829d71a0e284f1283f383f9390ff92f5cf6816226c3564023045df6"), looks := true }, kinds := [], alts := [], laidByText := true, laidKinds := [.sentinel, .sentinel], laidTests := true, laidLooks := .later }
def ConservedCardSaid : Prop := Claim7.holds Tryz.pinned (.plain (OpenSpec.ofChange conservedSpec)) conservedCard

/-- THE TIED CARD OF 'larderkeep.Rotated'. -/
def rotatedCard : Claim7 := { stood := { row := rotatedRow, standIns := [], harness := (true, "4e2fdbf86829d71a0e284f1283f383f9390ff92f5cf6816226c3564023045df6"), looks := true }, kinds := [], alts := [], laidByText := true, laidKinds := [.sentinel, .sentinel], laidTests := true, laidLooks := .later }
def RotatedCardSaid : Prop := Claim7.holds Tryz.pinned (.plain (OpenSpec.ofChange rotatedSpec)) rotatedCard

/-- THE TIED CARD OF 'larderkeep.Undone'. -/
def undoneCard : Claim7 := { stood := { row := undoneRow, standIns := [], harness := (true, "4e2fdbf86829d71a0e284f1283f383f9390ff92f5cf6816226c3564023045df6"), looks := true }, kinds := [], alts := [], laidByText := true, laidKinds := [.sentinel, .sentinel], laidTests := true, laidLooks := .later }
def UndoneCardSaid : Prop := Claim7.holds Tryz.pinned (.plain (OpenSpec.ofChange undoneSpec)) undoneCard

/-- THE TIED CARD OF 'larderkeep.Traced'. -/
def tracedCard : Claim7 := { stood := { row := tracedRow, standIns := [], harness := (true, "4e2fdbf86829d71a0e284f1283f383f9390ff92f5cf6816226c3564023045df6"), looks := true }, kinds := [], alts := [], laidByText := true, laidKinds := [.sentinel, .sentinel], laidTests := true, laidLooks := .later }
def TracedCardSaid : Prop := Claim7.holds Tryz.pinned (.plain (OpenSpec.ofChange tracedSpec)) tracedCard

/-- THE SECOND FORM's CARD OF 'larderlaw.Requests'. -/
def requestsUptoCard : Claim7 := { stood := { row := requestsUptoRow, standIns := [], harness := (true, "4e2fdbf86829d71a0e284f1283f383f9390ff92f5cf6816226c3564023045df6"), looks := true }, kinds := [], alts := [], laidByText := true, laidKinds := [.sentinel, .sentinel], laidTests := true, laidLooks := .later }
def RequestsUptoCardSaid : Prop := Claim7.holds Tryz.pinned (.plain (OpenSpec.upto requestsSpec)) requestsUptoCard

/-- THE SECOND FORM's CARD OF 'larderlaw.Stocks'. -/
def stocksUptoCard : Claim7 := { stood := { row := stocksUptoRow, standIns := [], harness := (true, "4e2fdbf86829d71a0e284f1283f383f9390ff92f5cf6816226c3564023045df6"), looks := true }, kinds := [], alts := [], laidByText := true, laidKinds := [.sentinel, .sentinel], laidTests := true, laidLooks := .later }
def StocksUptoCardSaid : Prop := Claim7.holds Tryz.pinned (.plain (OpenSpec.upto stocksSpec)) stocksUptoCard

/-- THE SECOND FORM's CARD OF 'larderlaw.Orders'. -/
def ordersUptoCard : Claim7 := { stood := { row := ordersUptoRow, standIns := [], harness := (true, "4e2fdbf86829d71a0e284f1283f383f9390ff92f5cf6816226c3564023045df6"), looks := true }, kinds := [], alts := [], laidByText := true, laidKinds := [.sentinel, .sentinel], laidTests := true, laidLooks := .later }
def OrdersUptoCardSaid : Prop := Claim7.holds Tryz.pinned (.plain (OpenSpec.upto ordersSpec)) ordersUptoCard

/-- THE SECOND FORM's CARD OF 'larderlaw.Recalls'. -/
def recallsUptoCard : Claim7 := { stood := { row := recallsUptoRow, standIns := [], harness := (true, "4e2fdbf86829d71a0e284f1283f383f9390ff92f5cf6816226c3564023045df6"), looks := true }, kinds := [], alts := [], laidByText := true, laidKinds := [.sentinel, .sentinel], laidTests := true, laidLooks := .later }
def RecallsUptoCardSaid : Prop := Claim7.holds Tryz.pinned (.plain (OpenSpec.upto recallsSpec)) recallsUptoCard

/-- THE SECOND FORM's CARD OF 'larderlaw.Logs'. -/
def logsUptoCard : Claim7 := { stood := { row := logsUptoRow, standIns := [], harness := (true, "4e2fdbf86829d71a0e284f1283f383f9390ff92f5cf6816226c3564023045df6"), looks := true }, kinds := [], alts := [], laidByText := true, laidKinds := [.sentinel, .sentinel], laidTests := true, laidLooks := .later }
def LogsUptoCardSaid : Prop := Claim7.holds Tryz.pinned (.plain (OpenSpec.upto logsSpec)) logsUptoCard

/-- THE SECOND FORM's CARD OF 'larderlaw.Opens'. -/
def opensUptoCard : Claim7 := { stood := { row := opensUptoRow, standIns := [], harness := (true, "4e2fdbf86829d71a0e284f1283f383f9390ff92f5cf6816226c3564023045df6"), looks := true }, kinds := [], alts := [], laidByText := true, laidKinds := [.sentinel, .sentinel], laidTests := true, laidLooks := .later }
def OpensUptoCardSaid : Prop := Claim7.holds Tryz.pinned (.plain (OpenSpec.upto opensSpec)) opensUptoCard

/-- THE SECOND FORM's CARD OF 'larderkeep.Conserved'. -/
def conservedUptoCard : Claim7 := { stood := { row := conservedUptoRow, standIns := [], harness := (true, "4e2fdbf86829d71a0e284f1283f383f9390ff92f5cf6816226c3564023045df6"), looks := true }, kinds := [], alts := [], laidByText := true, laidKinds := [.sentinel, .sentinel], laidTests := true, laidLooks := .later }
def ConservedUptoCardSaid : Prop := Claim7.holds Tryz.pinned (.plain (OpenSpec.upto conservedSpec)) conservedUptoCard

/-- THE SECOND FORM's CARD OF 'larderkeep.Rotated'. -/
def rotatedUptoCard : Claim7 := { stood := { row := rotatedUptoRow, standIns := [], harness := (true, "4e2fdbf86829d71a0e284f1283f383f9390ff92f5cf6816226c3564023045df6"), looks := true }, kinds := [], alts := [], laidByText := true, laidKinds := [.sentinel, .sentinel], laidTests := true, laidLooks := .later }
def RotatedUptoCardSaid : Prop := Claim7.holds Tryz.pinned (.plain (OpenSpec.upto rotatedSpec)) rotatedUptoCard

/-- THE SECOND FORM's CARD OF 'larderkeep.Undone'. -/
def undoneUptoCard : Claim7 := { stood := { row := undoneUptoRow, standIns := [], harness := (true, "4e2fdbf86829d71a0e284f1283f383f9390ff92f5cf6816226c3564023045df6"), looks := true }, kinds := [], alts := [], laidByText := true, laidKinds := [.sentinel, .sentinel], laidTests := true, laidLooks := .later }
def UndoneUptoCardSaid : Prop := Claim7.holds Tryz.pinned (.plain (OpenSpec.upto undoneSpec)) undoneUptoCard

/-- THE SECOND FORM's CARD OF 'larderkeep.Traced'. -/
def tracedUptoCard : Claim7 := { stood := { row := tracedUptoRow, standIns := [], harness := (true, "4e2fdbf86829d71a0e284f1283f383f9390ff92f5cf6816226c3564023045df6"), looks := true }, kinds := [], alts := [], laidByText := true, laidKinds := [.sentinel, .sentinel], laidTests := true, laidLooks := .later }
def TracedUptoCardSaid : Prop := Claim7.holds Tryz.pinned (.plain (OpenSpec.upto tracedSpec)) tracedUptoCard
end Rows
end Go.Proofs.YtlmafelclgeccaaGreatDoor
