/-
  NARROWER THAN 'FOR EVERY INPUT', by the rows' own cells (each row's printed sentence says how): Requests: laid · Stocks: laid · Orders: laid · Recalls: laid · Logs: laid · States: laid · Opens: laid · All: laid · Conserved: laid · Rotated: laid · Undone: laid · Traced: laid.
  DERIVED. THE GIVEN ROWS OF THIS SEAT. 12 by the template 'for every input the law returns true; each argument reads behind the call as it read before'; 0 by the template 'total and deterministic' (their statements: YtgcedalggnmooaaGreatDoorTotals.lean).
  GIVEN WITH THE SEED: the statements are not yours to turn. If you find one false, say at which input.
  Laid BY PROGRAM, IN A SANDBOX (cutbox-rows.mjs): the forced cells as the released guide's own fill.sh prints them over the translation 14d3e64235d14c25… (all of the seat's roots in one cut). By AI agents, Wed Nov 11 2026. No macro, syntax, notation, axiom, sorry.
-/
import Derived.Test.YtgcedalggnmooaaGreatDoorChecked
import GoSem.Claim
import GoSem.ClaimJoined
import GoSem.ClaimMapViews
import Derived.JoinedTies
import Derived.KernelRfl
namespace Go.Proofs.YtgcedalggnmooaaGreatDoor
/- THE CELL 'sum', in the pinned program and in every row, IS THE sha256 OF THE DUMP (.gsa) THAT YtgcedalggnmooaaGreatDoorProg.lean LOADS. Nothing in Lean hashes anything: it is a label: what it is worth is what the hold of that sum in a sandbox is worth. -/
noncomputable def Tryz.pinned : Pinned := { name := "ytgcedalggnmooaagreatdoor", sum := "14d3e64235d14c25fcad1915df05a0aec954d7592c667b1cae1a56a42bceb6ac", checked := Tryz.checked }
namespace Rows
def none {H : Type} : Left H := { results := [], args := [] }

/- WHAT THE LISTED PACKAGE-LEVEL VARIABLES READ AS WHEN THE CALL BEGINS. Each datum BY PROGRAM (the guide's laid-datum.mjs) off the statement by which the dump's own 'gosem.cut.vars' lays the variable. In a bare row this is a premise. The card (YtgcedalggnmooaaGreatDoorCards.lean) ties it to the program's text. -/
def laid_larder_wire_errBroken {H : Type} : DataW H := .iface "*errors.errorString" (.ptr (.agg [.lit (.string [119, 105, 114, 101, 58, 32, 98, 121, 116, 101, 115, 32, 116, 104, 97, 116, 32, 116, 101, 108, 108, 32, 110, 111, 32, 110, 117, 109, 98, 101, 114, 44, 32, 111, 114, 32, 116, 111, 111, 32, 102, 101, 119, 32, 111, 114, 32, 116, 111, 111, 32, 109, 97, 110, 121, 32, 111, 102, 32, 116, 104, 101, 109])]))
def laid_larder_command_errCode {H : Type} : DataW H := .iface "*errors.errorString" (.ptr (.agg [.lit (.string [99, 111, 109, 109, 97, 110, 100, 58, 32, 97, 32, 99, 111, 100, 101, 32, 111, 102, 32, 110, 111, 32, 99, 111, 109, 109, 97, 110, 100])]))
def laid_larder_frame_errCheck {H : Type} : DataW H := .iface "*errors.errorString" (.ptr (.agg [.lit (.string [102, 114, 97, 109, 101, 58, 32, 97, 32, 99, 104, 101, 99, 107, 32, 111, 102, 32, 111, 116, 104, 101, 114, 32, 98, 121, 116, 101, 115])]))
def laid_larder_store_errUnsound {H : Type} : DataW H := .iface "*errors.errorString" (.ptr (.agg [.lit (.string [115, 116, 111, 114, 101, 58, 32, 97, 32, 115, 116, 97, 116, 101, 32, 111, 102, 32, 110, 111, 32, 115, 111, 117, 110, 100, 32, 115, 116, 111, 114, 101])]))
def laid_larder_larder_errNoGo {H : Type} : DataW H := .iface "*errors.errorString" (.ptr (.agg [.lit (.string [108, 97, 114, 100, 101, 114, 58, 32, 97, 32, 102, 114, 97, 109, 101, 32, 116, 104, 97, 116, 32, 100, 111, 101, 115, 32, 110, 111, 116, 32, 103, 111])]))

/-- 'larderlaw.Requests': WHATEVER THE INPUT: true; the input reads as it did. -/
def requestsSpec : ChangeSpec := { name := "requests", fn := fun _ => fun
  | [d] => { results := [.lit (.bool true)], args := [d] }
  | _ => none }
def requestsRow : OpenClaim := { program := "ytgcedalggnmooaagreatdoor", sum := "14d3e64235d14c25fcad1915df05a0aec954d7592c667b1cae1a56a42bceb6ac", func := "larder/larderlaw.Requests", spec := "requests", unfollowed := true, recurses := true, named := ["larder/command.errCode", "larder/wire.errBroken"], plainKeys := false, apart := false, laid := [("larder/wire.errBroken", laid_larder_wire_errBroken), ("larder/command.errCode", laid_larder_command_errCode)] }
def RequestsSaid : Prop := requestsRow.holds Tryz.pinned (OpenSpec.ofChange requestsSpec)

/-- ITS FALSE NEIGHBOUR: 'it returns false'. Refute it at one input. -/
def requestsWrong : ChangeSpec := { name := "requests", fn := fun _ => fun
  | [d] => { results := [.lit (.bool false)], args := [d] }
  | _ => none }
def RequestsWrongFalsely : Prop := requestsRow.holds Tryz.pinned (OpenSpec.ofChange requestsWrong)

/-- 'larderlaw.Stocks': WHATEVER THE INPUT: true; the input reads as it did. -/
def stocksSpec : ChangeSpec := { name := "stocks", fn := fun _ => fun
  | [d] => { results := [.lit (.bool true)], args := [d] }
  | _ => none }
def stocksRow : OpenClaim := { program := "ytgcedalggnmooaagreatdoor", sum := "14d3e64235d14c25fcad1915df05a0aec954d7592c667b1cae1a56a42bceb6ac", func := "larder/larderlaw.Stocks", spec := "stocks", unfollowed := true, recurses := true, named := ["larder/command.errCode", "larder/wire.errBroken"], plainKeys := false, apart := false, laid := [("larder/wire.errBroken", laid_larder_wire_errBroken), ("larder/command.errCode", laid_larder_command_errCode)] }
def StocksSaid : Prop := stocksRow.holds Tryz.pinned (OpenSpec.ofChange stocksSpec)

/-- ITS FALSE NEIGHBOUR: 'it returns false'. Refute it at one input. -/
def stocksWrong : ChangeSpec := { name := "stocks", fn := fun _ => fun
  | [d] => { results := [.lit (.bool false)], args := [d] }
  | _ => none }
def StocksWrongFalsely : Prop := stocksRow.holds Tryz.pinned (OpenSpec.ofChange stocksWrong)

/-- 'larderlaw.Orders': WHATEVER THE INPUT: true; the input reads as it did. -/
def ordersSpec : ChangeSpec := { name := "orders", fn := fun _ => fun
  | [d] => { results := [.lit (.bool true)], args := [d] }
  | _ => none }
def ordersRow : OpenClaim := { program := "ytgcedalggnmooaagreatdoor", sum := "14d3e64235d14c25fcad1915df05a0aec954d7592c667b1cae1a56a42bceb6ac", func := "larder/larderlaw.Orders", spec := "orders", unfollowed := true, recurses := true, named := ["larder/command.errCode", "larder/wire.errBroken"], plainKeys := false, apart := false, laid := [("larder/wire.errBroken", laid_larder_wire_errBroken), ("larder/command.errCode", laid_larder_command_errCode)] }
def OrdersSaid : Prop := ordersRow.holds Tryz.pinned (OpenSpec.ofChange ordersSpec)

/-- ITS FALSE NEIGHBOUR: 'it returns false'. Refute it at one input. -/
def ordersWrong : ChangeSpec := { name := "orders", fn := fun _ => fun
  | [d] => { results := [.lit (.bool false)], args := [d] }
  | _ => none }
def OrdersWrongFalsely : Prop := ordersRow.holds Tryz.pinned (OpenSpec.ofChange ordersWrong)

/-- 'larderlaw.Recalls': WHATEVER THE INPUT: true; the input reads as it did. -/
def recallsSpec : ChangeSpec := { name := "recalls", fn := fun _ => fun
  | [d] => { results := [.lit (.bool true)], args := [d] }
  | _ => none }
def recallsRow : OpenClaim := { program := "ytgcedalggnmooaagreatdoor", sum := "14d3e64235d14c25fcad1915df05a0aec954d7592c667b1cae1a56a42bceb6ac", func := "larder/larderlaw.Recalls", spec := "recalls", unfollowed := true, recurses := true, named := ["larder/command.errCode", "larder/wire.errBroken"], plainKeys := false, apart := false, laid := [("larder/wire.errBroken", laid_larder_wire_errBroken), ("larder/command.errCode", laid_larder_command_errCode)] }
def RecallsSaid : Prop := recallsRow.holds Tryz.pinned (OpenSpec.ofChange recallsSpec)

/-- ITS FALSE NEIGHBOUR: 'it returns false'. Refute it at one input. -/
def recallsWrong : ChangeSpec := { name := "recalls", fn := fun _ => fun
  | [d] => { results := [.lit (.bool false)], args := [d] }
  | _ => none }
def RecallsWrongFalsely : Prop := recallsRow.holds Tryz.pinned (OpenSpec.ofChange recallsWrong)

/-- 'larderlaw.Logs': WHATEVER THE INPUT: true; the input reads as it did. -/
def logsSpec : ChangeSpec := { name := "logs", fn := fun _ => fun
  | [d] => { results := [.lit (.bool true)], args := [d] }
  | _ => none }
def logsRow : OpenClaim := { program := "ytgcedalggnmooaagreatdoor", sum := "14d3e64235d14c25fcad1915df05a0aec954d7592c667b1cae1a56a42bceb6ac", func := "larder/larderlaw.Logs", spec := "logs", unfollowed := true, recurses := true, named := ["larder/command.errCode", "larder/wire.errBroken"], plainKeys := false, apart := false, laid := [("larder/wire.errBroken", laid_larder_wire_errBroken), ("larder/command.errCode", laid_larder_command_errCode)] }
def LogsSaid : Prop := logsRow.holds Tryz.pinned (OpenSpec.ofChange logsSpec)

/-- ITS FALSE NEIGHBOUR: 'it returns false'. Refute it at one input. -/
def logsWrong : ChangeSpec := { name := "logs", fn := fun _ => fun
  | [d] => { results := [.lit (.bool false)], args := [d] }
  | _ => none }
def LogsWrongFalsely : Prop := logsRow.holds Tryz.pinned (OpenSpec.ofChange logsWrong)

/-- 'larderlaw.States': WHATEVER THE INPUT: true; the input reads as it did. -/
def statesSpec : ChangeSpec := { name := "states", fn := fun _ => fun
  | [d1, d2] => { results := [.lit (.bool true)], args := [d1, d2] }
  | _ => none }
def statesRow : OpenClaim := { program := "ytgcedalggnmooaagreatdoor", sum := "14d3e64235d14c25fcad1915df05a0aec954d7592c667b1cae1a56a42bceb6ac", func := "larder/larderlaw.States", spec := "states", unfollowed := true, recurses := true, named := ["larder/command.errCode", "larder/wire.errBroken"], plainKeys := false, apart := false, laid := [("larder/wire.errBroken", laid_larder_wire_errBroken), ("larder/command.errCode", laid_larder_command_errCode)] }
def StatesSaid : Prop := statesRow.holds Tryz.pinned (OpenSpec.ofChange statesSpec)

/-- ITS FALSE NEIGHBOUR: 'it returns false'. Refute it at one input. -/
def statesWrong : ChangeSpec := { name := "states", fn := fun _ => fun
  | [d1, d2] => { results := [.lit (.bool false)], args := [d1, d2] }
  | _ => none }
def StatesWrongFalsely : Prop := statesRow.holds Tryz.pinned (OpenSpec.ofChange statesWrong)

/-- 'larderlaw.Opens': WHATEVER THE INPUT: true; the input reads as it did. -/
def opensSpec : ChangeSpec := { name := "opens", fn := fun _ => fun
  | [d1, d2] => { results := [.lit (.bool true)], args := [d1, d2] }
  | _ => none }
def opensRow : OpenClaim := { program := "ytgcedalggnmooaagreatdoor", sum := "14d3e64235d14c25fcad1915df05a0aec954d7592c667b1cae1a56a42bceb6ac", func := "larder/larderlaw.Opens", spec := "opens", unfollowed := true, recurses := true, named := ["larder/frame.errCheck", "larder/wire.errBroken", "larder/larder.errNoGo", "larder/store.errUnsound", "larder/command.errCode"], plainKeys := false, apart := false, laid := [("larder/wire.errBroken", laid_larder_wire_errBroken), ("larder/command.errCode", laid_larder_command_errCode), ("larder/frame.errCheck", laid_larder_frame_errCheck), ("larder/store.errUnsound", laid_larder_store_errUnsound), ("larder/larder.errNoGo", laid_larder_larder_errNoGo)] }
def OpensSaid : Prop := opensRow.holds Tryz.pinned (OpenSpec.ofChange opensSpec)

/-- ITS FALSE NEIGHBOUR: 'it returns false'. Refute it at one input. -/
def opensWrong : ChangeSpec := { name := "opens", fn := fun _ => fun
  | [d1, d2] => { results := [.lit (.bool false)], args := [d1, d2] }
  | _ => none }
def OpensWrongFalsely : Prop := opensRow.holds Tryz.pinned (OpenSpec.ofChange opensWrong)

/-- 'larderlaw.All': WHATEVER THE INPUT: true; the input reads as it did. -/
def allSpec : ChangeSpec := { name := "all", fn := fun _ => fun
  | [d] => { results := [.lit (.bool true)], args := [d] }
  | _ => none }
def allRow : OpenClaim := { program := "ytgcedalggnmooaagreatdoor", sum := "14d3e64235d14c25fcad1915df05a0aec954d7592c667b1cae1a56a42bceb6ac", func := "larder/larderlaw.All", spec := "all", unfollowed := true, recurses := true, named := ["larder/frame.errCheck", "larder/wire.errBroken", "larder/larder.errNoGo", "larder/store.errUnsound", "larder/command.errCode"], plainKeys := false, apart := false, laid := [("larder/wire.errBroken", laid_larder_wire_errBroken), ("larder/command.errCode", laid_larder_command_errCode), ("larder/frame.errCheck", laid_larder_frame_errCheck), ("larder/store.errUnsound", laid_larder_store_errUnsound), ("larder/larder.errNoGo", laid_larder_larder_errNoGo)] }
def AllSaid : Prop := allRow.holds Tryz.pinned (OpenSpec.ofChange allSpec)

/-- ITS FALSE NEIGHBOUR: 'it returns false'. Refute it at one input. -/
def allWrong : ChangeSpec := { name := "all", fn := fun _ => fun
  | [d] => { results := [.lit (.bool false)], args := [d] }
  | _ => none }
def AllWrongFalsely : Prop := allRow.holds Tryz.pinned (OpenSpec.ofChange allWrong)

/-- 'larderkeep.Conserved': WHATEVER THE INPUT: true; the input reads as it did. -/
def conservedSpec : ChangeSpec := { name := "conserved", fn := fun _ => fun
  | [d] => { results := [.lit (.bool true)], args := [d] }
  | _ => none }
def conservedRow : OpenClaim := { program := "ytgcedalggnmooaagreatdoor", sum := "14d3e64235d14c25fcad1915df05a0aec954d7592c667b1cae1a56a42bceb6ac", func := "larder/larderkeep.Conserved", spec := "conserved", unfollowed := true, recurses := true, named := ["larder/command.errCode", "larder/wire.errBroken"], plainKeys := false, apart := false, laid := [("larder/wire.errBroken", laid_larder_wire_errBroken), ("larder/command.errCode", laid_larder_command_errCode)] }
def ConservedSaid : Prop := conservedRow.holds Tryz.pinned (OpenSpec.ofChange conservedSpec)

/-- ITS FALSE NEIGHBOUR: 'it returns false'. Refute it at one input. -/
def conservedWrong : ChangeSpec := { name := "conserved", fn := fun _ => fun
  | [d] => { results := [.lit (.bool false)], args := [d] }
  | _ => none }
def ConservedWrongFalsely : Prop := conservedRow.holds Tryz.pinned (OpenSpec.ofChange conservedWrong)

/-- 'larderkeep.Rotated': WHATEVER THE INPUT: true; the input reads as it did. -/
def rotatedSpec : ChangeSpec := { name := "rotated", fn := fun _ => fun
  | [d1, d2, d3, d4, d5] => { results := [.lit (.bool true)], args := [d1, d2, d3, d4, d5] }
  | _ => none }
def rotatedRow : OpenClaim := { program := "ytgcedalggnmooaagreatdoor", sum := "14d3e64235d14c25fcad1915df05a0aec954d7592c667b1cae1a56a42bceb6ac", func := "larder/larderkeep.Rotated", spec := "rotated", unfollowed := true, recurses := true, named := ["larder/command.errCode", "larder/wire.errBroken"], plainKeys := false, apart := false, laid := [("larder/wire.errBroken", laid_larder_wire_errBroken), ("larder/command.errCode", laid_larder_command_errCode)] }
def RotatedSaid : Prop := rotatedRow.holds Tryz.pinned (OpenSpec.ofChange rotatedSpec)

/-- ITS FALSE NEIGHBOUR: 'it returns false'. Refute it at one input. -/
def rotatedWrong : ChangeSpec := { name := "rotated", fn := fun _ => fun
  | [d1, d2, d3, d4, d5] => { results := [.lit (.bool false)], args := [d1, d2, d3, d4, d5] }
  | _ => none }
def RotatedWrongFalsely : Prop := rotatedRow.holds Tryz.pinned (OpenSpec.ofChange rotatedWrong)

/-- 'larderkeep.Undone': WHATEVER THE INPUT: true; the input reads as it did. -/
def undoneSpec : ChangeSpec := { name := "undone", fn := fun _ => fun
  | [d1, d2, d3, d4] => { results := [.lit (.bool true)], args := [d1, d2, d3, d4] }
  | _ => none }
def undoneRow : OpenClaim := { program := "ytgcedalggnmooaagreatdoor", sum := "14d3e64235d14c25fcad1915df05a0aec954d7592c667b1cae1a56a42bceb6ac", func := "larder/larderkeep.Undone", spec := "undone", unfollowed := true, recurses := true, named := ["larder/command.errCode", "larder/wire.errBroken"], plainKeys := false, apart := false, laid := [("larder/wire.errBroken", laid_larder_wire_errBroken), ("larder/command.errCode", laid_larder_command_errCode)] }
def UndoneSaid : Prop := undoneRow.holds Tryz.pinned (OpenSpec.ofChange undoneSpec)

/-- ITS FALSE NEIGHBOUR: 'it returns false'. Refute it at one input. -/
def undoneWrong : ChangeSpec := { name := "undone", fn := fun _ => fun
  | [d1, d2, d3, d4] => { results := [.lit (.bool false)], args := [d1, d2, d3, d4] }
  | _ => none }
def UndoneWrongFalsely : Prop := undoneRow.holds Tryz.pinned (OpenSpec.ofChange undoneWrong)

/-- 'larderkeep.Traced': WHATEVER THE INPUT: true; the input reads as it did. -/
def tracedSpec : ChangeSpec := { name := "traced", fn := fun _ => fun
  | [d1, d2] => { results := [.lit (.bool true)], args := [d1, d2] }
  | _ => none }
def tracedRow : OpenClaim := { program := "ytgcedalggnmooaagreatdoor", sum := "14d3e64235d14c25fcad1915df05a0aec954d7592c667b1cae1a56a42bceb6ac", func := "larder/larderkeep.Traced", spec := "traced", unfollowed := true, recurses := true, named := ["larder/command.errCode", "larder/wire.errBroken"], plainKeys := false, apart := false, laid := [("larder/wire.errBroken", laid_larder_wire_errBroken), ("larder/command.errCode", laid_larder_command_errCode)] }
def TracedSaid : Prop := tracedRow.holds Tryz.pinned (OpenSpec.ofChange tracedSpec)

/-- ITS FALSE NEIGHBOUR: 'it returns false'. Refute it at one input. -/
def tracedWrong : ChangeSpec := { name := "traced", fn := fun _ => fun
  | [d1, d2] => { results := [.lit (.bool false)], args := [d1, d2] }
  | _ => none }
def TracedWrongFalsely : Prop := tracedRow.holds Tryz.pinned (OpenSpec.ofChange tracedWrong)

/- THE SECOND FORM. 'bulk': how many values and letters a reading holds, each counted each time it is reached (what is shared counts as often as it is met; a slice's spare places count too). A statement '..UptoSaid' is the law's where the arguments, and the package variables that the reading takes, are together of bulk at most 1048576: NARROWER than '..Said'. Prove '..Said' where nothing that the law and all that it calls make is longer than what came in: it says more and counts as full. Else prove '..UptoSaid'. A law counts once. -/
mutual
def uptoBulk {H : Type} : DataW H → Nat
  | .lit (.string bytes) => bytes.length + 1
  | .lit _ => 1
  | .nil => 1
  | .ptr d => uptoBulk d + 1
  | .slice elems spare => uptoBulkAll elems + uptoBulkAll spare + 1
  | .agg parts => uptoBulkAll parts + 1
  | .iface _ d => uptoBulk d + 1
  | .map entries => uptoBulkEntries entries + 1
  | .held _ => 1
def uptoBulkAll {H : Type} : List (DataW H) → Nat
  | [] => 0
  | d :: r => uptoBulk d + uptoBulkAll r
def uptoBulkEntries {H : Type} : List (Lit × DataW H) → Nat
  | [] => 0
  | x :: r => uptoBulkEntry x + uptoBulkEntries r
def uptoBulkEntry {H : Type} : Lit × DataW H → Nat
  | (.string bytes, d) => bytes.length + uptoBulk d + 1
  | (_, d) => uptoBulk d + 1
 end
def uptoSmall : (H : Type) → List (DataW H) → Bool := fun _ ds => decide (uptoBulkAll ds ≤ 1048576)
def OpenSpec.upto (s : _root_.Go.ChangeSpec) : _root_.Go.OpenSpec := { _root_.Go.OpenSpec.ofChange s with cond := some uptoSmall }

/-- 'larderlaw.Requests', WHERE WHAT IT READS IS OF BULK AT MOST 1048576: true; the input reads as it did. -/
def requestsUptoRow : OpenClaim := { program := "ytgcedalggnmooaagreatdoor", sum := "14d3e64235d14c25fcad1915df05a0aec954d7592c667b1cae1a56a42bceb6ac", func := "larder/larderlaw.Requests", spec := "requests", unfollowed := true, recurses := true, named := ["larder/command.errCode", "larder/wire.errBroken"], plainKeys := false, apart := false, laid := [("larder/wire.errBroken", laid_larder_wire_errBroken), ("larder/command.errCode", laid_larder_command_errCode)], narrowed := true }
def RequestsUptoSaid : Prop := requestsUptoRow.holds Tryz.pinned (OpenSpec.upto requestsSpec)

/-- 'larderlaw.Stocks', WHERE WHAT IT READS IS OF BULK AT MOST 1048576: true; the input reads as it did. -/
def stocksUptoRow : OpenClaim := { program := "ytgcedalggnmooaagreatdoor", sum := "14d3e64235d14c25fcad1915df05a0aec954d7592c667b1cae1a56a42bceb6ac", func := "larder/larderlaw.Stocks", spec := "stocks", unfollowed := true, recurses := true, named := ["larder/command.errCode", "larder/wire.errBroken"], plainKeys := false, apart := false, laid := [("larder/wire.errBroken", laid_larder_wire_errBroken), ("larder/command.errCode", laid_larder_command_errCode)], narrowed := true }
def StocksUptoSaid : Prop := stocksUptoRow.holds Tryz.pinned (OpenSpec.upto stocksSpec)

/-- 'larderlaw.Orders', WHERE WHAT IT READS IS OF BULK AT MOST 1048576: true; the input reads as it did. -/
def ordersUptoRow : OpenClaim := { program := "ytgcedalggnmooaagreatdoor", sum := "14d3e64235d14c25fcad1915df05a0aec954d7592c667b1cae1a56a42bceb6ac", func := "larder/larderlaw.Orders", spec := "orders", unfollowed := true, recurses := true, named := ["larder/command.errCode", "larder/wire.errBroken"], plainKeys := false, apart := false, laid := [("larder/wire.errBroken", laid_larder_wire_errBroken), ("larder/command.errCode", laid_larder_command_errCode)], narrowed := true }
def OrdersUptoSaid : Prop := ordersUptoRow.holds Tryz.pinned (OpenSpec.upto ordersSpec)

/-- 'larderlaw.Recalls', WHERE WHAT IT READS IS OF BULK AT MOST 1048576: true; the input reads as it did. -/
def recallsUptoRow : OpenClaim := { program := "ytgcedalggnmooaagreatdoor", sum := "14d3e64235d14c25fcad1915df05a0aec954d7592c667b1cae1a56a42bceb6ac", func := "larder/larderlaw.Recalls", spec := "recalls", unfollowed := true, recurses := true, named := ["larder/command.errCode", "larder/wire.errBroken"], plainKeys := false, apart := false, laid := [("larder/wire.errBroken", laid_larder_wire_errBroken), ("larder/command.errCode", laid_larder_command_errCode)], narrowed := true }
def RecallsUptoSaid : Prop := recallsUptoRow.holds Tryz.pinned (OpenSpec.upto recallsSpec)

/-- 'larderlaw.Logs', WHERE WHAT IT READS IS OF BULK AT MOST 1048576: true; the input reads as it did. -/
def logsUptoRow : OpenClaim := { program := "ytgcedalggnmooaagreatdoor", sum := "14d3e64235d14c25fcad1915df05a0aec954d7592c667b1cae1a56a42bceb6ac", func := "larder/larderlaw.Logs", spec := "logs", unfollowed := true, recurses := true, named := ["larder/command.errCode", "larder/wire.errBroken"], plainKeys := false, apart := false, laid := [("larder/wire.errBroken", laid_larder_wire_errBroken), ("larder/command.errCode", laid_larder_command_errCode)], narrowed := true }
def LogsUptoSaid : Prop := logsUptoRow.holds Tryz.pinned (OpenSpec.upto logsSpec)

/-- 'larderlaw.States', WHERE WHAT IT READS IS OF BULK AT MOST 1048576: true; the input reads as it did. -/
def statesUptoRow : OpenClaim := { program := "ytgcedalggnmooaagreatdoor", sum := "14d3e64235d14c25fcad1915df05a0aec954d7592c667b1cae1a56a42bceb6ac", func := "larder/larderlaw.States", spec := "states", unfollowed := true, recurses := true, named := ["larder/command.errCode", "larder/wire.errBroken"], plainKeys := false, apart := false, laid := [("larder/wire.errBroken", laid_larder_wire_errBroken), ("larder/command.errCode", laid_larder_command_errCode)], narrowed := true }
def StatesUptoSaid : Prop := statesUptoRow.holds Tryz.pinned (OpenSpec.upto statesSpec)

/-- 'larderlaw.Opens', WHERE WHAT IT READS IS OF BULK AT MOST 1048576: true; the input reads as it did. -/
def opensUptoRow : OpenClaim := { program := "ytgcedalggnmooaagreatdoor", sum := "14d3e64235d14c25fcad1915df05a0aec954d7592c667b1cae1a56a42bceb6ac", func := "larder/larderlaw.Opens", spec := "opens", unfollowed := true, recurses := true, named := ["larder/frame.errCheck", "larder/wire.errBroken", "larder/larder.errNoGo", "larder/store.errUnsound", "larder/command.errCode"], plainKeys := false, apart := false, laid := [("larder/wire.errBroken", laid_larder_wire_errBroken), ("larder/command.errCode", laid_larder_command_errCode), ("larder/frame.errCheck", laid_larder_frame_errCheck), ("larder/store.errUnsound", laid_larder_store_errUnsound), ("larder/larder.errNoGo", laid_larder_larder_errNoGo)], narrowed := true }
def OpensUptoSaid : Prop := opensUptoRow.holds Tryz.pinned (OpenSpec.upto opensSpec)

/-- 'larderlaw.All', WHERE WHAT IT READS IS OF BULK AT MOST 1048576: true; the input reads as it did. -/
def allUptoRow : OpenClaim := { program := "ytgcedalggnmooaagreatdoor", sum := "14d3e64235d14c25fcad1915df05a0aec954d7592c667b1cae1a56a42bceb6ac", func := "larder/larderlaw.All", spec := "all", unfollowed := true, recurses := true, named := ["larder/frame.errCheck", "larder/wire.errBroken", "larder/larder.errNoGo", "larder/store.errUnsound", "larder/command.errCode"], plainKeys := false, apart := false, laid := [("larder/wire.errBroken", laid_larder_wire_errBroken), ("larder/command.errCode", laid_larder_command_errCode), ("larder/frame.errCheck", laid_larder_frame_errCheck), ("larder/store.errUnsound", laid_larder_store_errUnsound), ("larder/larder.errNoGo", laid_larder_larder_errNoGo)], narrowed := true }
def AllUptoSaid : Prop := allUptoRow.holds Tryz.pinned (OpenSpec.upto allSpec)

/-- 'larderkeep.Conserved', WHERE WHAT IT READS IS OF BULK AT MOST 1048576: true; the input reads as it did. -/
def conservedUptoRow : OpenClaim := { program := "ytgcedalggnmooaagreatdoor", sum := "14d3e64235d14c25fcad1915df05a0aec954d7592c667b1cae1a56a42bceb6ac", func := "larder/larderkeep.Conserved", spec := "conserved", unfollowed := true, recurses := true, named := ["larder/command.errCode", "larder/wire.errBroken"], plainKeys := false, apart := false, laid := [("larder/wire.errBroken", laid_larder_wire_errBroken), ("larder/command.errCode", laid_larder_command_errCode)], narrowed := true }
def ConservedUptoSaid : Prop := conservedUptoRow.holds Tryz.pinned (OpenSpec.upto conservedSpec)

/-- 'larderkeep.Rotated', WHERE WHAT IT READS IS OF BULK AT MOST 1048576: true; the input reads as it did. -/
def rotatedUptoRow : OpenClaim := { program := "ytgcedalggnmooaagreatdoor", sum := "14d3e64235d14c25fcad1915df05a0aec954d7592c667b1cae1a56a42bceb6ac", func := "larder/larderkeep.Rotated", spec := "rotated", unfollowed := true, recurses := true, named := ["larder/command.errCode", "larder/wire.errBroken"], plainKeys := false, apart := false, laid := [("larder/wire.errBroken", laid_larder_wire_errBroken), ("larder/command.errCode", laid_larder_command_errCode)], narrowed := true }
def RotatedUptoSaid : Prop := rotatedUptoRow.holds Tryz.pinned (OpenSpec.upto rotatedSpec)

/-- 'larderkeep.Undone', WHERE WHAT IT READS IS OF BULK AT MOST 1048576: true; the input reads as it did. -/
def undoneUptoRow : OpenClaim := { program := "ytgcedalggnmooaagreatdoor", sum := "14d3e64235d14c25fcad1915df05a0aec954d7592c667b1cae1a56a42bceb6ac", func := "larder/larderkeep.Undone", spec := "undone", unfollowed := true, recurses := true, named := ["larder/command.errCode", "larder/wire.errBroken"], plainKeys := false, apart := false, laid := [("larder/wire.errBroken", laid_larder_wire_errBroken), ("larder/command.errCode", laid_larder_command_errCode)], narrowed := true }
def UndoneUptoSaid : Prop := undoneUptoRow.holds Tryz.pinned (OpenSpec.upto undoneSpec)

/-- 'larderkeep.Traced', WHERE WHAT IT READS IS OF BULK AT MOST 1048576: true; the input reads as it did. -/
def tracedUptoRow : OpenClaim := { program := "ytgcedalggnmooaagreatdoor", sum := "14d3e64235d14c25fcad1915df05a0aec954d7592c667b1cae1a56a42bceb6ac", func := "larder/larderkeep.Traced", spec := "traced", unfollowed := true, recurses := true, named := ["larder/command.errCode", "larder/wire.errBroken"], plainKeys := false, apart := false, laid := [("larder/wire.errBroken", laid_larder_wire_errBroken), ("larder/command.errCode", laid_larder_command_errCode)], narrowed := true }
def TracedUptoSaid : Prop := tracedUptoRow.holds Tryz.pinned (OpenSpec.upto tracedSpec)

end Rows
end Go.Proofs.YtgcedalggnmooaaGreatDoor
