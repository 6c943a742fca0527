import Derived.Test.YtgcedalggnmooabGreatDoorRows
import Derived.Deep.Slices
import Derived.Test.YtgcedalggnmooabGreatDoorCards
import Derived.JoinedCond
import Derived.OpenShut
namespace Go.Proofs.YtgcedalggnmooabGreatDoor.bulks
open Go.ChangeShapes
end Go.Proofs.YtgcedalggnmooabGreatDoor.bulks
namespace Go.Proofs.YtgcedalggnmooabGreatDoor
open Go.RowKit
theorem laidOutJ:laidOutB Tryz.prog=true:=by kernel_rfl
theorem mapsRowedJ:mapsRowed Tryz.prog=true:=by kernel_rfl
theorem mayJ:Tryz.prog.mayEnter=true:=by kernel_rfl
theorem heardJ:Tryz.prog.stopsHeard=true:=by kernel_rfl
theorem liftsJ:(Rows.refusedUptoRow.lifted == Tryz.prog.liftsFinal)=true:=by kernel_rfl
theorem makeJ:(Tryz.prog.make == some Rows.refusedUptoRow.make)=true:=by kernel_rfl
end Go.Proofs.YtgcedalggnmooabGreatDoor
