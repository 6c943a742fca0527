import Derived.Test.YtgcedalggnmooabGreatDoorRefAX
import Derived.KernelRfl
namespace Go.Proofs.YtgcedalggnmooabGreatDoor
set_option linter.unusedSimpArgs false
set_option linter.unusedVariables false
open Go.RowKit
set_option maxRecDepth 100000

theorem meth_Day (v : Value) (w : World) : (method 380 86 v "InRange").run Tryz.prog w = .ok (205, v) w := by kernel_rfl
theorem meth_Receive (v : Value) (w : World) : (method 380 89 v "InRange").run Tryz.prog w = .ok (207, v) w := by kernel_rfl
theorem meth_Split (v : Value) (w : World) : (method 380 92 v "InRange").run Tryz.prog w = .ok (210, v) w := by kernel_rfl
theorem meth_Merge (v : Value) (w : World) : (method 380 95 v "InRange").run Tryz.prog w = .ok (211, v) w := by kernel_rfl
theorem meth_Order (v : Value) (w : World) : (method 380 98 v "InRange").run Tryz.prog w = .ok (212, v) w := by kernel_rfl
theorem meth_Cancel (v : Value) (w : World) : (method 380 101 v "InRange").run Tryz.prog w = .ok (213, v) w := by kernel_rfl
theorem meth_Ship (v : Value) (w : World) : (method 380 103 v "InRange").run Tryz.prog w = .ok (214, v) w := by kernel_rfl
theorem meth_Recall (v : Value) (w : World) : (method 380 106 v "InRange").run Tryz.prog w = .ok (215, v) w := by kernel_rfl
theorem meth_Release (v : Value) (w : World) : (method 380 108 v "InRange").run Tryz.prog w = .ok (216, v) w := by kernel_rfl
theorem meth_Scrap (v : Value) (w : World) : (method 380 111 v "InRange").run Tryz.prog w = .ok (217, v) w := by kernel_rfl
theorem meth_Look (v : Value) (w : World) : (method 380 114 v "InRange").run Tryz.prog w = .ok (218, v) w := by kernel_rfl
theorem meth_Supply (v : Value) (w : World) : (method 380 117 v "InRange").run Tryz.prog w = .ok (219, v) w := by kernel_rfl

end Go.Proofs.YtgcedalggnmooabGreatDoor
