/-
  DERIVED. GIVEN WITH THE SEED: THE CARDS: each row of YtcomohmadfnmgaaDoorRows.lean that lists a variable, with what it lists TIED to the program's text (the seventh form; the later family's looks); each row that meets fmt, with fmt's text TOLD by the authors' own Lean function (tested against real Go, not proved from fmt's source: count such statements apart). THE CARD IS WHAT COUNTS. Prove the row's statement (the work); the ties are given (YtcomohmadfnmgaaDoorTie.lean); close each card by the builder's one call (the guide's Derived/Test/ToyasCard.lean, 'card_holds'). Laid BY PROGRAM, IN A SANDBOX (cutbox-door.mjs). By AI agents, Wed Nov 11 2026. No macro, syntax, notation, axiom, sorry.
-/
import Derived.Test.YtcomohmadfnmgaaDoorRows
import GoSem.ClaimSeven
namespace Go.Proofs.YtcomohmadfnmgaaDoor
namespace Rows

/-- THE TIED CARD OF 'larderlaw.Requests'. -/
def requestsCard : Claim7 := { stood := { row := requestsRow, standIns := [], harness := (true, "a4adc8700e7028c0882cac3f889bca069924d9cc2a96d074c875a79aebd4fee9"), looks := true }, kinds := [], alts := [], laidByText := true, laidKinds := [.sentinel, .sentinel], laidTests := true, laidLooks := .later }
def RequestsCardSaid : Prop := Claim7.holds Tryd.pinned (.plain (OpenSpec.ofChange requestsSpec)) requestsCard

/-- THE TIED CARD OF 'larderlaw.Stocks'. -/
def stocksCard : Claim7 := { stood := { row := stocksRow, standIns := [], harness := (true, "a4adc8700e7028c0882cac3f889bca069924d9cc2a96d074c875a79aebd4fee9"), looks := true }, kinds := [], alts := [], laidByText := true, laidKinds := [.sentinel, .sentinel], laidTests := true, laidLooks := .later }
def StocksCardSaid : Prop := Claim7.holds Tryd.pinned (.plain (OpenSpec.ofChange stocksSpec)) stocksCard

/-- THE SECOND FORM's CARD OF 'larderlaw.Requests'. -/
def requestsUptoCard : Claim7 := { stood := { row := requestsUptoRow, standIns := [], harness := (true, "a4adc8700e7028c0882cac3f889bca069924d9cc2a96d074c875a79aebd4fee9"), looks := true }, kinds := [], alts := [], laidByText := true, laidKinds := [.sentinel, .sentinel], laidTests := true, laidLooks := .later }
def RequestsUptoCardSaid : Prop := Claim7.holds Tryd.pinned (.plain (OpenSpec.upto requestsSpec)) requestsUptoCard

/-- THE SECOND FORM's CARD OF 'larderlaw.Stocks'. -/
def stocksUptoCard : Claim7 := { stood := { row := stocksUptoRow, standIns := [], harness := (true, "a4adc8700e7028c0882cac3f889bca069924d9cc2a96d074c875a79aebd4fee9"), looks := true }, kinds := [], alts := [], laidByText := true, laidKinds := [.sentinel, .sentinel], laidTests := true, laidLooks := .later }
def StocksUptoCardSaid : Prop := Claim7.holds Tryd.pinned (.plain (OpenSpec.upto stocksSpec)) stocksUptoCard
end Rows
end Go.Proofs.YtcomohmadfnmgaaDoor
