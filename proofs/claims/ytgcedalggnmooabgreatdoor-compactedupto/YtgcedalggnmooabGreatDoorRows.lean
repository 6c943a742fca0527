/-
  NARROWER THAN 'FOR EVERY INPUT', by the rows' own cells (each row's printed sentence says how): Refused: laid · Resumed: laid · Compacted: laid · Torn: laid.
  DERIVED. THE GIVEN ROWS OF THIS SEAT. 4 by the template 'for every input the law returns true; each argument reads behind the call as it read before'; 0 by the template 'total and deterministic' (their statements: YtgcedalggnmooabGreatDoorTotals.lean).
  GIVEN WITH THE SEED: the statements are not yours to turn. If you find one false, say at which input.
  Laid BY PROGRAM, IN A SANDBOX (cutbox-rows.mjs): the forced cells as the released guide's own fill.sh prints them over the translation 35b37b1014c07c1d… (all of the seat's roots in one cut). By AI agents, Wed Nov 11 2026. No macro, syntax, notation, axiom, sorry.
-/
import Derived.Test.YtgcedalggnmooabGreatDoorChecked
import GoSem.Claim
import GoSem.ClaimJoined
import GoSem.ClaimMapViews
import Derived.JoinedTies
import Derived.KernelRfl
namespace Go.Proofs.YtgcedalggnmooabGreatDoor
/- THE CELL 'sum', in the pinned program and in every row, IS THE sha256 OF THE DUMP (.gsa) THAT YtgcedalggnmooabGreatDoorProg.lean LOADS. Nothing in Lean hashes anything: it is a label: what it is worth is what the hold of that sum in a sandbox is worth. -/
noncomputable def Tryz.pinned : Pinned := { name := "ytgcedalggnmooabgreatdoor", sum := "35b37b1014c07c1de8ff50a8b4fe38723340f1242f0a897d13d9d33fb12fd744", checked := Tryz.checked }
namespace Rows
def none {H : Type} : Left H := { results := [], args := [] }

/- WHAT THE LISTED PACKAGE-LEVEL VARIABLES READ AS WHEN THE CALL BEGINS. Each datum BY PROGRAM (the guide's laid-datum.mjs) off the statement by which the dump's own 'gosem.cut.vars' lays the variable. In a bare row this is a premise. The card (YtgcedalggnmooabGreatDoorCards.lean) ties it to the program's text. -/
def laid_larder_wire_errBroken {H : Type} : DataW H := .iface "*errors.errorString" (.ptr (.agg [.lit (.string [119, 105, 114, 101, 58, 32, 98, 121, 116, 101, 115, 32, 116, 104, 97, 116, 32, 116, 101, 108, 108, 32, 110, 111, 32, 110, 117, 109, 98, 101, 114, 44, 32, 111, 114, 32, 116, 111, 111, 32, 102, 101, 119, 32, 111, 114, 32, 116, 111, 111, 32, 109, 97, 110, 121, 32, 111, 102, 32, 116, 104, 101, 109])]))
def laid_larder_command_errCode {H : Type} : DataW H := .iface "*errors.errorString" (.ptr (.agg [.lit (.string [99, 111, 109, 109, 97, 110, 100, 58, 32, 97, 32, 99, 111, 100, 101, 32, 111, 102, 32, 110, 111, 32, 99, 111, 109, 109, 97, 110, 100])]))
def laid_larder_frame_errCheck {H : Type} : DataW H := .iface "*errors.errorString" (.ptr (.agg [.lit (.string [102, 114, 97, 109, 101, 58, 32, 97, 32, 99, 104, 101, 99, 107, 32, 111, 102, 32, 111, 116, 104, 101, 114, 32, 98, 121, 116, 101, 115])]))
def laid_larder_store_errUnsound {H : Type} : DataW H := .iface "*errors.errorString" (.ptr (.agg [.lit (.string [115, 116, 111, 114, 101, 58, 32, 97, 32, 115, 116, 97, 116, 101, 32, 111, 102, 32, 110, 111, 32, 115, 111, 117, 110, 100, 32, 115, 116, 111, 114, 101])]))
def laid_larder_larder_errNoGo {H : Type} : DataW H := .iface "*errors.errorString" (.ptr (.agg [.lit (.string [108, 97, 114, 100, 101, 114, 58, 32, 97, 32, 102, 114, 97, 109, 101, 32, 116, 104, 97, 116, 32, 100, 111, 101, 115, 32, 110, 111, 116, 32, 103, 111])]))

/-- 'larderkeep.Refused': WHATEVER THE INPUT: true; the input reads as it did. -/
def refusedSpec : ChangeSpec := { name := "refused", fn := fun _ => fun
  | [d1, d2] => { results := [.lit (.bool true)], args := [d1, d2] }
  | _ => none }
def refusedRow : OpenClaim := { program := "ytgcedalggnmooabgreatdoor", sum := "35b37b1014c07c1de8ff50a8b4fe38723340f1242f0a897d13d9d33fb12fd744", func := "larder/larderkeep.Refused", spec := "refused", unfollowed := true, recurses := true, named := ["larder/command.errCode", "larder/wire.errBroken"], plainKeys := false, apart := false, laid := [("larder/wire.errBroken", laid_larder_wire_errBroken), ("larder/command.errCode", laid_larder_command_errCode)] }
def RefusedSaid : Prop := refusedRow.holds Tryz.pinned (OpenSpec.ofChange refusedSpec)

/-- ITS FALSE NEIGHBOUR: 'it returns false'. Refute it at one input. -/
def refusedWrong : ChangeSpec := { name := "refused", fn := fun _ => fun
  | [d1, d2] => { results := [.lit (.bool false)], args := [d1, d2] }
  | _ => none }
def RefusedWrongFalsely : Prop := refusedRow.holds Tryz.pinned (OpenSpec.ofChange refusedWrong)

/-- 'larderkeep.Resumed': WHATEVER THE INPUT: true; the input reads as it did. -/
def resumedSpec : ChangeSpec := { name := "resumed", fn := fun _ => fun
  | [d1, d2, d3] => { results := [.lit (.bool true)], args := [d1, d2, d3] }
  | _ => none }
def resumedRow : OpenClaim := { program := "ytgcedalggnmooabgreatdoor", sum := "35b37b1014c07c1de8ff50a8b4fe38723340f1242f0a897d13d9d33fb12fd744", func := "larder/larderkeep.Resumed", spec := "resumed", unfollowed := true, recurses := true, named := ["larder/command.errCode", "larder/wire.errBroken", "larder/frame.errCheck", "larder/larder.errNoGo", "larder/store.errUnsound"], plainKeys := false, apart := false, laid := [("larder/wire.errBroken", laid_larder_wire_errBroken), ("larder/command.errCode", laid_larder_command_errCode), ("larder/frame.errCheck", laid_larder_frame_errCheck), ("larder/store.errUnsound", laid_larder_store_errUnsound), ("larder/larder.errNoGo", laid_larder_larder_errNoGo)] }
def ResumedSaid : Prop := resumedRow.holds Tryz.pinned (OpenSpec.ofChange resumedSpec)

/-- ITS FALSE NEIGHBOUR: 'it returns false'. Refute it at one input. -/
def resumedWrong : ChangeSpec := { name := "resumed", fn := fun _ => fun
  | [d1, d2, d3] => { results := [.lit (.bool false)], args := [d1, d2, d3] }
  | _ => none }
def ResumedWrongFalsely : Prop := resumedRow.holds Tryz.pinned (OpenSpec.ofChange resumedWrong)

/-- 'larderkeep.Compacted': WHATEVER THE INPUT: true; the input reads as it did. -/
def compactedSpec : ChangeSpec := { name := "compacted", fn := fun _ => fun
  | [d1, d2] => { results := [.lit (.bool true)], args := [d1, d2] }
  | _ => none }
def compactedRow : OpenClaim := { program := "ytgcedalggnmooabgreatdoor", sum := "35b37b1014c07c1de8ff50a8b4fe38723340f1242f0a897d13d9d33fb12fd744", func := "larder/larderkeep.Compacted", spec := "compacted", unfollowed := true, recurses := true, named := ["larder/command.errCode", "larder/wire.errBroken", "larder/frame.errCheck", "larder/larder.errNoGo", "larder/store.errUnsound"], plainKeys := false, apart := false, laid := [("larder/wire.errBroken", laid_larder_wire_errBroken), ("larder/command.errCode", laid_larder_command_errCode), ("larder/frame.errCheck", laid_larder_frame_errCheck), ("larder/store.errUnsound", laid_larder_store_errUnsound), ("larder/larder.errNoGo", laid_larder_larder_errNoGo)] }
def CompactedSaid : Prop := compactedRow.holds Tryz.pinned (OpenSpec.ofChange compactedSpec)

/-- ITS FALSE NEIGHBOUR: 'it returns false'. Refute it at one input. -/
def compactedWrong : ChangeSpec := { name := "compacted", fn := fun _ => fun
  | [d1, d2] => { results := [.lit (.bool false)], args := [d1, d2] }
  | _ => none }
def CompactedWrongFalsely : Prop := compactedRow.holds Tryz.pinned (OpenSpec.ofChange compactedWrong)

/-- 'larderkeep.Torn': WHATEVER THE INPUT: true; the input reads as it did. -/
def tornSpec : ChangeSpec := { name := "torn", fn := fun _ => fun
  | [d1, d2, d3] => { results := [.lit (.bool true)], args := [d1, d2, d3] }
  | _ => none }
def tornRow : OpenClaim := { program := "ytgcedalggnmooabgreatdoor", sum := "35b37b1014c07c1de8ff50a8b4fe38723340f1242f0a897d13d9d33fb12fd744", func := "larder/larderkeep.Torn", spec := "torn", unfollowed := true, recurses := true, named := ["larder/command.errCode", "larder/wire.errBroken", "larder/frame.errCheck", "larder/larder.errNoGo", "larder/store.errUnsound"], plainKeys := false, apart := false, laid := [("larder/wire.errBroken", laid_larder_wire_errBroken), ("larder/command.errCode", laid_larder_command_errCode), ("larder/frame.errCheck", laid_larder_frame_errCheck), ("larder/store.errUnsound", laid_larder_store_errUnsound), ("larder/larder.errNoGo", laid_larder_larder_errNoGo)] }
def TornSaid : Prop := tornRow.holds Tryz.pinned (OpenSpec.ofChange tornSpec)

/-- ITS FALSE NEIGHBOUR: 'it returns false'. Refute it at one input. -/
def tornWrong : ChangeSpec := { name := "torn", fn := fun _ => fun
  | [d1, d2, d3] => { results := [.lit (.bool false)], args := [d1, d2, d3] }
  | _ => none }
def TornWrongFalsely : Prop := tornRow.holds Tryz.pinned (OpenSpec.ofChange tornWrong)

/- THE SECOND FORM. 'bulk': how many values and letters a reading holds, each counted each time it is reached (what is shared counts as often as it is met; a slice's spare places count too). A statement '..UptoSaid' is the law's where the arguments, and the package variables that the reading takes, are together of bulk at most 1048576: NARROWER than '..Said'. Prove '..Said' where nothing that the law and all that it calls make is longer than what came in: it says more and counts as full. Else prove '..UptoSaid'. A law counts once. -/
mutual
def uptoBulk {H : Type} : DataW H → Nat
  | .lit (.string bytes) => bytes.length + 1
  | .lit _ => 1
  | .nil => 1
  | .ptr d => uptoBulk d + 1
  | .slice elems spare => uptoBulkAll elems + uptoBulkAll spare + 1
  | .agg parts => uptoBulkAll parts + 1
  | .iface _ d => uptoBulk d + 1
  | .map entries => uptoBulkEntries entries + 1
  | .held _ => 1
def uptoBulkAll {H : Type} : List (DataW H) → Nat
  | [] => 0
  | d :: r => uptoBulk d + uptoBulkAll r
def uptoBulkEntries {H : Type} : List (Lit × DataW H) → Nat
  | [] => 0
  | x :: r => uptoBulkEntry x + uptoBulkEntries r
def uptoBulkEntry {H : Type} : Lit × DataW H → Nat
  | (.string bytes, d) => bytes.length + uptoBulk d + 1
  | (_, d) => uptoBulk d + 1
 end
def uptoSmall : (H : Type) → List (DataW H) → Bool := fun _ ds => decide (uptoBulkAll ds ≤ 1048576)
def OpenSpec.upto (s : _root_.Go.ChangeSpec) : _root_.Go.OpenSpec := { _root_.Go.OpenSpec.ofChange s with cond := some uptoSmall }

/-- 'larderkeep.Refused', WHERE WHAT IT READS IS OF BULK AT MOST 1048576: true; the input reads as it did. -/
def refusedUptoRow : OpenClaim := { program := "ytgcedalggnmooabgreatdoor", sum := "35b37b1014c07c1de8ff50a8b4fe38723340f1242f0a897d13d9d33fb12fd744", func := "larder/larderkeep.Refused", spec := "refused", unfollowed := true, recurses := true, named := ["larder/command.errCode", "larder/wire.errBroken"], plainKeys := false, apart := false, laid := [("larder/wire.errBroken", laid_larder_wire_errBroken), ("larder/command.errCode", laid_larder_command_errCode)], narrowed := true }
def RefusedUptoSaid : Prop := refusedUptoRow.holds Tryz.pinned (OpenSpec.upto refusedSpec)

/-- 'larderkeep.Resumed', WHERE WHAT IT READS IS OF BULK AT MOST 1048576: true; the input reads as it did. -/
def resumedUptoRow : OpenClaim := { program := "ytgcedalggnmooabgreatdoor", sum := "35b37b1014c07c1de8ff50a8b4fe38723340f1242f0a897d13d9d33fb12fd744", func := "larder/larderkeep.Resumed", spec := "resumed", unfollowed := true, recurses := true, named := ["larder/command.errCode", "larder/wire.errBroken", "larder/frame.errCheck", "larder/larder.errNoGo", "larder/store.errUnsound"], plainKeys := false, apart := false, laid := [("larder/wire.errBroken", laid_larder_wire_errBroken), ("larder/command.errCode", laid_larder_command_errCode), ("larder/frame.errCheck", laid_larder_frame_errCheck), ("larder/store.errUnsound", laid_larder_store_errUnsound), ("larder/larder.errNoGo", laid_larder_larder_errNoGo)], narrowed := true }
def ResumedUptoSaid : Prop := resumedUptoRow.holds Tryz.pinned (OpenSpec.upto resumedSpec)

/-- 'larderkeep.Compacted', WHERE WHAT IT READS IS OF BULK AT MOST 1048576: true; the input reads as it did. -/
def compactedUptoRow : OpenClaim := { program := "ytgcedalggnmooabgreatdoor", sum := "35b37b1014c07c1de8ff50a8b4fe38723340f1242f0a897d13d9d33fb12fd744", func := "larder/larderkeep.Compacted", spec := "compacted", unfollowed := true, recurses := true, named := ["larder/command.errCode", "larder/wire.errBroken", "larder/frame.errCheck", "larder/larder.errNoGo", "larder/store.errUnsound"], plainKeys := false, apart := false, laid := [("larder/wire.errBroken", laid_larder_wire_errBroken), ("larder/command.errCode", laid_larder_command_errCode), ("larder/frame.errCheck", laid_larder_frame_errCheck), ("larder/store.errUnsound", laid_larder_store_errUnsound), ("larder/larder.errNoGo", laid_larder_larder_errNoGo)], narrowed := true }
def CompactedUptoSaid : Prop := compactedUptoRow.holds Tryz.pinned (OpenSpec.upto compactedSpec)

/-- 'larderkeep.Torn', WHERE WHAT IT READS IS OF BULK AT MOST 1048576: true; the input reads as it did. -/
def tornUptoRow : OpenClaim := { program := "ytgcedalggnmooabgreatdoor", sum := "35b37b1014c07c1de8ff50a8b4fe38723340f1242f0a897d13d9d33fb12fd744", func := "larder/larderkeep.Torn", spec := "torn", unfollowed := true, recurses := true, named := ["larder/command.errCode", "larder/wire.errBroken", "larder/frame.errCheck", "larder/larder.errNoGo", "larder/store.errUnsound"], plainKeys := false, apart := false, laid := [("larder/wire.errBroken", laid_larder_wire_errBroken), ("larder/command.errCode", laid_larder_command_errCode), ("larder/frame.errCheck", laid_larder_frame_errCheck), ("larder/store.errUnsound", laid_larder_store_errUnsound), ("larder/larder.errNoGo", laid_larder_larder_errNoGo)], narrowed := true }
def TornUptoSaid : Prop := tornUptoRow.holds Tryz.pinned (OpenSpec.upto tornSpec)

end Rows
end Go.Proofs.YtgcedalggnmooabGreatDoor
