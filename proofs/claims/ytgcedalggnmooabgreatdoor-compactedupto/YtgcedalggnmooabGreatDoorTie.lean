/-
  DERIVED. GIVEN WITH THE SEED: THE PROGRAM's TIES (one call each: nine closed facts by the kernel) AND EACH ROW's TIE, after the 31st guide's Derived/Test/Toyas{Tie, Card}.lean. No idea stands in it: it is a product of the set-up. Laid BY PROGRAM, IN A SANDBOX (cutbox-door.mjs). By AI agents, Wed Nov 11 2026. No macro, syntax, notation, axiom, sorry.
-/
import Derived.Test.YtgcedalggnmooabGreatDoorRows
import Derived.LaidByTextLater
import Derived.SevenTiedAt
import Derived.LaidSub
import Derived.LaidOnce
namespace Go.Proofs.YtgcedalggnmooabGreatDoor
open Go
set_option maxRecDepth 100000
theorem seatTie1 : Tryz.prog.laidByTextLater [("larder/wire.errBroken", Rows.laid_larder_wire_errBroken), ("larder/command.errCode", Rows.laid_larder_command_errCode), ("larder/frame.errCheck", Rows.laid_larder_frame_errCheck), ("larder/store.errUnsound", Rows.laid_larder_store_errUnsound), ("larder/larder.errNoGo", Rows.laid_larder_larder_errNoGo)] [.sentinel, .sentinel, .sentinel, .sentinel, .sentinel] true :=
  Program.laidByTextLater_by_one 104 8 2 (by kernel_rfl) (by kernel_rfl) (by kernel_rfl) (by kernel_rfl) (by kernel_rfl) (by kernel_rfl) (fun _ _ => by kernel_rfl)
theorem noOwnUnsafe : Tryz.pinned.checked.prog.headLifts.contains "ownunsafe" = false := by kernel_rfl
theorem tie : Tryz.prog.laidByTextLater [("larder/wire.errBroken", Rows.laid_larder_wire_errBroken), ("larder/command.errCode", Rows.laid_larder_command_errCode)] [.sentinel, .sentinel] true :=
  Program.laidByTextLater.sub seatTie1 ["larder/wire.errBroken", "larder/command.errCode"] (by kernel_rfl) (by kernel_rfl)
theorem refused_row_tie : Rows.refusedRow.laidByTextAt .later Tryz.pinned [.sentinel, .sentinel] true :=
  OpenClaim.laidByTextAt_later rfl rfl tie noOwnUnsafe
theorem tie2 : Tryz.prog.laidByTextLater [("larder/wire.errBroken", Rows.laid_larder_wire_errBroken), ("larder/command.errCode", Rows.laid_larder_command_errCode), ("larder/frame.errCheck", Rows.laid_larder_frame_errCheck), ("larder/store.errUnsound", Rows.laid_larder_store_errUnsound), ("larder/larder.errNoGo", Rows.laid_larder_larder_errNoGo)] [.sentinel, .sentinel, .sentinel, .sentinel, .sentinel] true :=
  Program.laidByTextLater.sub seatTie1 ["larder/wire.errBroken", "larder/command.errCode", "larder/frame.errCheck", "larder/store.errUnsound", "larder/larder.errNoGo"] (by kernel_rfl) (by kernel_rfl)
theorem resumed_row_tie : Rows.resumedRow.laidByTextAt .later Tryz.pinned [.sentinel, .sentinel, .sentinel, .sentinel, .sentinel] true :=
  OpenClaim.laidByTextAt_later rfl rfl tie2 noOwnUnsafe
theorem compacted_row_tie : Rows.compactedRow.laidByTextAt .later Tryz.pinned [.sentinel, .sentinel, .sentinel, .sentinel, .sentinel] true :=
  OpenClaim.laidByTextAt_later rfl rfl tie2 noOwnUnsafe
theorem torn_row_tie : Rows.tornRow.laidByTextAt .later Tryz.pinned [.sentinel, .sentinel, .sentinel, .sentinel, .sentinel] true :=
  OpenClaim.laidByTextAt_later rfl rfl tie2 noOwnUnsafe
theorem refusedUpto_row_tie : Rows.refusedUptoRow.laidByTextAt .later Tryz.pinned [.sentinel, .sentinel] true :=
  OpenClaim.laidByTextAt_later rfl rfl tie noOwnUnsafe
theorem resumedUpto_row_tie : Rows.resumedUptoRow.laidByTextAt .later Tryz.pinned [.sentinel, .sentinel, .sentinel, .sentinel, .sentinel] true :=
  OpenClaim.laidByTextAt_later rfl rfl tie2 noOwnUnsafe
theorem compactedUpto_row_tie : Rows.compactedUptoRow.laidByTextAt .later Tryz.pinned [.sentinel, .sentinel, .sentinel, .sentinel, .sentinel] true :=
  OpenClaim.laidByTextAt_later rfl rfl tie2 noOwnUnsafe
theorem tornUpto_row_tie : Rows.tornUptoRow.laidByTextAt .later Tryz.pinned [.sentinel, .sentinel, .sentinel, .sentinel, .sentinel] true :=
  OpenClaim.laidByTextAt_later rfl rfl tie2 noOwnUnsafe
end Go.Proofs.YtgcedalggnmooabGreatDoor
