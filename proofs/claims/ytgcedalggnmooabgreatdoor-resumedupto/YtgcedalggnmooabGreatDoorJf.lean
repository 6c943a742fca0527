import Derived.Test.YtgcedalggnmooabGreatDoorCards
import Derived.JoinedCond
import Derived.OpenShut
namespace Go.Proofs.YtgcedalggnmooabGreatDoor
open Go.RowKit

/-! The program's own facts, one by one: together they are too great for one run of the kernel. -/
theorem laidOutJ : laidOutB Tryz.prog = true := by kernel_rfl
theorem mapsRowedJ : mapsRowed Tryz.prog = true := by kernel_rfl
theorem mayJ : Tryz.prog.mayEnter = true := by kernel_rfl
theorem heardJ : Tryz.prog.stopsHeard = true := by kernel_rfl
theorem liftsJ : (Rows.refusedUptoRow.lifted == Tryz.prog.liftsFinal) = true := by kernel_rfl
theorem makeJ : (Tryz.prog.make == some Rows.refusedUptoRow.make) = true := by kernel_rfl

end Go.Proofs.YtgcedalggnmooabGreatDoor
