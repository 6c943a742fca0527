import Derived.Test.YtcomohmadfnmgaaDoorRefAX
import Derived.KernelRfl
namespace Go.Proofs.YtcomohmadfnmgaaDoor
set_option linter.unusedSimpArgs false
set_option linter.unusedVariables false
open Go.RowKit
set_option maxRecDepth 100000

theorem meth_Day (v : Value) (w : World) : (method 289 100 v "InRange").run Tryd.prog w = .ok (106, v) w := by kernel_rfl
theorem meth_Receive (v : Value) (w : World) : (method 289 103 v "InRange").run Tryd.prog w = .ok (107, v) w := by kernel_rfl
theorem meth_Split (v : Value) (w : World) : (method 289 106 v "InRange").run Tryd.prog w = .ok (108, v) w := by kernel_rfl
theorem meth_Merge (v : Value) (w : World) : (method 289 109 v "InRange").run Tryd.prog w = .ok (109, v) w := by kernel_rfl
theorem meth_Order (v : Value) (w : World) : (method 289 92 v "InRange").run Tryd.prog w = .ok (98, v) w := by kernel_rfl
theorem meth_Cancel (v : Value) (w : World) : (method 289 94 v "InRange").run Tryd.prog w = .ok (102, v) w := by kernel_rfl
theorem meth_Ship (v : Value) (w : World) : (method 289 95 v "InRange").run Tryd.prog w = .ok (103, v) w := by kernel_rfl
theorem meth_Recall (v : Value) (w : World) : (method 289 97 v "InRange").run Tryd.prog w = .ok (104, v) w := by kernel_rfl
theorem meth_Release (v : Value) (w : World) : (method 289 98 v "InRange").run Tryd.prog w = .ok (105, v) w := by kernel_rfl
theorem meth_Scrap (v : Value) (w : World) : (method 289 112 v "InRange").run Tryd.prog w = .ok (110, v) w := by kernel_rfl
theorem meth_Look (v : Value) (w : World) : (method 289 115 v "InRange").run Tryd.prog w = .ok (111, v) w := by kernel_rfl
theorem meth_Supply (v : Value) (w : World) : (method 289 118 v "InRange").run Tryd.prog w = .ok (112, v) w := by kernel_rfl

end Go.Proofs.YtcomohmadfnmgaaDoor
