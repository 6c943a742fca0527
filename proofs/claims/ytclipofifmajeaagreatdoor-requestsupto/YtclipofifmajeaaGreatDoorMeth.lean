import Derived.Test.YtclipofifmajeaaGreatDoorRefA
import Derived.KernelRfl
namespace Go.Proofs.YtclipofifmajeaaGreatDoor
set_option linter.unusedSimpArgs false
set_option linter.unusedVariables false
open Go.RowKit
set_option maxRecDepth 100000

theorem meth_Day (v : Value) (w : World) : (method 339 111 v "InRange").run Tryz.prog w = .ok (145, v) w := by kernel_rfl
theorem meth_Receive (v : Value) (w : World) : (method 339 114 v "InRange").run Tryz.prog w = .ok (147, v) w := by kernel_rfl
theorem meth_Split (v : Value) (w : World) : (method 339 117 v "InRange").run Tryz.prog w = .ok (149, v) w := by kernel_rfl
theorem meth_Merge (v : Value) (w : World) : (method 339 120 v "InRange").run Tryz.prog w = .ok (150, v) w := by kernel_rfl
theorem meth_Order (v : Value) (w : World) : (method 339 123 v "InRange").run Tryz.prog w = .ok (151, v) w := by kernel_rfl
theorem meth_Cancel (v : Value) (w : World) : (method 339 126 v "InRange").run Tryz.prog w = .ok (152, v) w := by kernel_rfl
theorem meth_Ship (v : Value) (w : World) : (method 339 128 v "InRange").run Tryz.prog w = .ok (153, v) w := by kernel_rfl
theorem meth_Recall (v : Value) (w : World) : (method 339 108 v "InRange").run Tryz.prog w = .ok (142, v) w := by kernel_rfl
theorem meth_Release (v : Value) (w : World) : (method 339 109 v "InRange").run Tryz.prog w = .ok (144, v) w := by kernel_rfl
theorem meth_Scrap (v : Value) (w : World) : (method 339 131 v "InRange").run Tryz.prog w = .ok (154, v) w := by kernel_rfl
theorem meth_Look (v : Value) (w : World) : (method 339 134 v "InRange").run Tryz.prog w = .ok (155, v) w := by kernel_rfl
theorem meth_Supply (v : Value) (w : World) : (method 339 137 v "InRange").run Tryz.prog w = .ok (156, v) w := by kernel_rfl

end Go.Proofs.YtclipofifmajeaaGreatDoor
