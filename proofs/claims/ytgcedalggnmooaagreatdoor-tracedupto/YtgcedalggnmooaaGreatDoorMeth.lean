import Derived.Test.YtgcedalggnmooaaGreatDoorRefAX
import Derived.KernelRfl
namespace Go.Proofs.YtgcedalggnmooaaGreatDoor
set_option linter.unusedSimpArgs false
set_option linter.unusedVariables false
open Go.RowKit
set_option maxRecDepth 100000

theorem meth_Day (v : Value) (w : World) : (method 459 143 v "InRange").run Tryz.prog w = .ok (279, v) w := by kernel_rfl
theorem meth_Receive (v : Value) (w : World) : (method 459 146 v "InRange").run Tryz.prog w = .ok (281, v) w := by kernel_rfl
theorem meth_Split (v : Value) (w : World) : (method 459 149 v "InRange").run Tryz.prog w = .ok (284, v) w := by kernel_rfl
theorem meth_Merge (v : Value) (w : World) : (method 459 152 v "InRange").run Tryz.prog w = .ok (285, v) w := by kernel_rfl
theorem meth_Order (v : Value) (w : World) : (method 459 155 v "InRange").run Tryz.prog w = .ok (286, v) w := by kernel_rfl
theorem meth_Cancel (v : Value) (w : World) : (method 459 158 v "InRange").run Tryz.prog w = .ok (287, v) w := by kernel_rfl
theorem meth_Ship (v : Value) (w : World) : (method 459 160 v "InRange").run Tryz.prog w = .ok (288, v) w := by kernel_rfl
theorem meth_Recall (v : Value) (w : World) : (method 459 163 v "InRange").run Tryz.prog w = .ok (289, v) w := by kernel_rfl
theorem meth_Release (v : Value) (w : World) : (method 459 165 v "InRange").run Tryz.prog w = .ok (290, v) w := by kernel_rfl
theorem meth_Scrap (v : Value) (w : World) : (method 459 168 v "InRange").run Tryz.prog w = .ok (291, v) w := by kernel_rfl
theorem meth_Look (v : Value) (w : World) : (method 459 171 v "InRange").run Tryz.prog w = .ok (292, v) w := by kernel_rfl
theorem meth_Supply (v : Value) (w : World) : (method 459 174 v "InRange").run Tryz.prog w = .ok (293, v) w := by kernel_rfl

end Go.Proofs.YtgcedalggnmooaaGreatDoor
