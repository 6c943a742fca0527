import Derived.Test.YtgcedalggnmooaaGreatDoorCards
import Derived.JoinedCond
import Derived.OpenShut
namespace Go.Proofs.YtgcedalggnmooaaGreatDoor
open Go.RowKit

/-! The program's own facts, one by one: together they are too great for one run of the kernel. -/
theorem laidOutJ : laidOutB Tryz.prog = true := by kernel_rfl
theorem mapsRowedJ : mapsRowed Tryz.prog = true := by kernel_rfl
theorem mayJ : Tryz.prog.mayEnter = true := by kernel_rfl
theorem heardJ : Tryz.prog.stopsHeard = true := by kernel_rfl
theorem liftsJ : (Rows.requestsUptoRow.lifted == Tryz.prog.liftsFinal) = true := by kernel_rfl
theorem makeJ : (Tryz.prog.make == some Rows.requestsUptoRow.make) = true := by kernel_rfl

end Go.Proofs.YtgcedalggnmooaaGreatDoor
