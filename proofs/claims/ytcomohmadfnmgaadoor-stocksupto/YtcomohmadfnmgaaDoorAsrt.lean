import Derived.Test.YtcomohmadfnmgaaDoorRefAX
import Derived.KernelRfl
namespace Go.Proofs.YtcomohmadfnmgaaDoor
set_option linter.unusedSimpArgs false
set_option linter.unusedVariables false
open Go.RowKit
set_option maxRecDepth 100000

theorem as_Day_Day (v : Value) (w : World) : (Instr.typeAssert (.iface 100 v) 61 100 true).run Tryd.prog w = .ok (.tuple #[v, .bool true]) w := by kernel_rfl
theorem as_Day_Order (v : Value) (w : World) : (Instr.typeAssert (.iface 100 v) 61 92 true).run Tryd.prog w = .ok (.tuple #[.agg #[.int .i64 0, .int .i64 0, .int .i64 0, .int .i64 0, .int .i64 0], .bool false]) w := by kernel_rfl
theorem as_Day_Cancel (v : Value) (w : World) : (Instr.typeAssert (.iface 100 v) 61 94 true).run Tryd.prog w = .ok (.tuple #[.agg #[.int .i64 0], .bool false]) w := by kernel_rfl
theorem as_Day_Ship (v : Value) (w : World) : (Instr.typeAssert (.iface 100 v) 61 95 true).run Tryd.prog w = .ok (.tuple #[.agg #[.int .i64 0], .bool false]) w := by kernel_rfl
theorem as_Day_Recall (v : Value) (w : World) : (Instr.typeAssert (.iface 100 v) 61 97 true).run Tryd.prog w = .ok (.tuple #[.agg #[.int .i64 0, .int .i64 0], .bool false]) w := by kernel_rfl
theorem as_Day_Release (v : Value) (w : World) : (Instr.typeAssert (.iface 100 v) 61 98 true).run Tryd.prog w = .ok (.tuple #[.agg #[.int .i64 0, .int .i64 0], .bool false]) w := by kernel_rfl
theorem as_Receive_Day (v : Value) (w : World) : (Instr.typeAssert (.iface 103 v) 61 100 true).run Tryd.prog w = .ok (.tuple #[.agg #[.int .i64 0], .bool false]) w := by kernel_rfl
theorem as_Receive_Receive (v : Value) (w : World) : (Instr.typeAssert (.iface 103 v) 61 103 true).run Tryd.prog w = .ok (.tuple #[v, .bool true]) w := by kernel_rfl
theorem as_Receive_Order (v : Value) (w : World) : (Instr.typeAssert (.iface 103 v) 61 92 true).run Tryd.prog w = .ok (.tuple #[.agg #[.int .i64 0, .int .i64 0, .int .i64 0, .int .i64 0, .int .i64 0], .bool false]) w := by kernel_rfl
theorem as_Receive_Cancel (v : Value) (w : World) : (Instr.typeAssert (.iface 103 v) 61 94 true).run Tryd.prog w = .ok (.tuple #[.agg #[.int .i64 0], .bool false]) w := by kernel_rfl
theorem as_Receive_Ship (v : Value) (w : World) : (Instr.typeAssert (.iface 103 v) 61 95 true).run Tryd.prog w = .ok (.tuple #[.agg #[.int .i64 0], .bool false]) w := by kernel_rfl
theorem as_Receive_Recall (v : Value) (w : World) : (Instr.typeAssert (.iface 103 v) 61 97 true).run Tryd.prog w = .ok (.tuple #[.agg #[.int .i64 0, .int .i64 0], .bool false]) w := by kernel_rfl
theorem as_Receive_Release (v : Value) (w : World) : (Instr.typeAssert (.iface 103 v) 61 98 true).run Tryd.prog w = .ok (.tuple #[.agg #[.int .i64 0, .int .i64 0], .bool false]) w := by kernel_rfl
theorem as_Split_Day (v : Value) (w : World) : (Instr.typeAssert (.iface 106 v) 61 100 true).run Tryd.prog w = .ok (.tuple #[.agg #[.int .i64 0], .bool false]) w := by kernel_rfl
theorem as_Split_Receive (v : Value) (w : World) : (Instr.typeAssert (.iface 106 v) 61 103 true).run Tryd.prog w = .ok (.tuple #[.agg #[.int .i64 0, .int .i64 0, .int .i64 0, .int .i64 0], .bool false]) w := by kernel_rfl
theorem as_Split_Split (v : Value) (w : World) : (Instr.typeAssert (.iface 106 v) 61 106 true).run Tryd.prog w = .ok (.tuple #[v, .bool true]) w := by kernel_rfl
theorem as_Split_Order (v : Value) (w : World) : (Instr.typeAssert (.iface 106 v) 61 92 true).run Tryd.prog w = .ok (.tuple #[.agg #[.int .i64 0, .int .i64 0, .int .i64 0, .int .i64 0, .int .i64 0], .bool false]) w := by kernel_rfl
theorem as_Split_Cancel (v : Value) (w : World) : (Instr.typeAssert (.iface 106 v) 61 94 true).run Tryd.prog w = .ok (.tuple #[.agg #[.int .i64 0], .bool false]) w := by kernel_rfl
theorem as_Split_Ship (v : Value) (w : World) : (Instr.typeAssert (.iface 106 v) 61 95 true).run Tryd.prog w = .ok (.tuple #[.agg #[.int .i64 0], .bool false]) w := by kernel_rfl
theorem as_Split_Recall (v : Value) (w : World) : (Instr.typeAssert (.iface 106 v) 61 97 true).run Tryd.prog w = .ok (.tuple #[.agg #[.int .i64 0, .int .i64 0], .bool false]) w := by kernel_rfl
theorem as_Split_Release (v : Value) (w : World) : (Instr.typeAssert (.iface 106 v) 61 98 true).run Tryd.prog w = .ok (.tuple #[.agg #[.int .i64 0, .int .i64 0], .bool false]) w := by kernel_rfl
theorem as_Merge_Day (v : Value) (w : World) : (Instr.typeAssert (.iface 109 v) 61 100 true).run Tryd.prog w = .ok (.tuple #[.agg #[.int .i64 0], .bool false]) w := by kernel_rfl
theorem as_Merge_Receive (v : Value) (w : World) : (Instr.typeAssert (.iface 109 v) 61 103 true).run Tryd.prog w = .ok (.tuple #[.agg #[.int .i64 0, .int .i64 0, .int .i64 0, .int .i64 0], .bool false]) w := by kernel_rfl
theorem as_Merge_Split (v : Value) (w : World) : (Instr.typeAssert (.iface 109 v) 61 106 true).run Tryd.prog w = .ok (.tuple #[.agg #[.int .i64 0, .int .i64 0, .int .i64 0], .bool false]) w := by kernel_rfl
theorem as_Merge_Merge (v : Value) (w : World) : (Instr.typeAssert (.iface 109 v) 61 109 true).run Tryd.prog w = .ok (.tuple #[v, .bool true]) w := by kernel_rfl
theorem as_Merge_Order (v : Value) (w : World) : (Instr.typeAssert (.iface 109 v) 61 92 true).run Tryd.prog w = .ok (.tuple #[.agg #[.int .i64 0, .int .i64 0, .int .i64 0, .int .i64 0, .int .i64 0], .bool false]) w := by kernel_rfl
theorem as_Merge_Cancel (v : Value) (w : World) : (Instr.typeAssert (.iface 109 v) 61 94 true).run Tryd.prog w = .ok (.tuple #[.agg #[.int .i64 0], .bool false]) w := by kernel_rfl
theorem as_Merge_Ship (v : Value) (w : World) : (Instr.typeAssert (.iface 109 v) 61 95 true).run Tryd.prog w = .ok (.tuple #[.agg #[.int .i64 0], .bool false]) w := by kernel_rfl
theorem as_Merge_Recall (v : Value) (w : World) : (Instr.typeAssert (.iface 109 v) 61 97 true).run Tryd.prog w = .ok (.tuple #[.agg #[.int .i64 0, .int .i64 0], .bool false]) w := by kernel_rfl
theorem as_Merge_Release (v : Value) (w : World) : (Instr.typeAssert (.iface 109 v) 61 98 true).run Tryd.prog w = .ok (.tuple #[.agg #[.int .i64 0, .int .i64 0], .bool false]) w := by kernel_rfl
theorem as_Order_Order (v : Value) (w : World) : (Instr.typeAssert (.iface 92 v) 61 92 true).run Tryd.prog w = .ok (.tuple #[v, .bool true]) w := by kernel_rfl
theorem as_Order_Cancel (v : Value) (w : World) : (Instr.typeAssert (.iface 92 v) 61 94 true).run Tryd.prog w = .ok (.tuple #[.agg #[.int .i64 0], .bool false]) w := by kernel_rfl
theorem as_Order_Ship (v : Value) (w : World) : (Instr.typeAssert (.iface 92 v) 61 95 true).run Tryd.prog w = .ok (.tuple #[.agg #[.int .i64 0], .bool false]) w := by kernel_rfl
theorem as_Order_Recall (v : Value) (w : World) : (Instr.typeAssert (.iface 92 v) 61 97 true).run Tryd.prog w = .ok (.tuple #[.agg #[.int .i64 0, .int .i64 0], .bool false]) w := by kernel_rfl
theorem as_Order_Release (v : Value) (w : World) : (Instr.typeAssert (.iface 92 v) 61 98 true).run Tryd.prog w = .ok (.tuple #[.agg #[.int .i64 0, .int .i64 0], .bool false]) w := by kernel_rfl
theorem as_Cancel_Order (v : Value) (w : World) : (Instr.typeAssert (.iface 94 v) 61 92 true).run Tryd.prog w = .ok (.tuple #[.agg #[.int .i64 0, .int .i64 0, .int .i64 0, .int .i64 0, .int .i64 0], .bool false]) w := by kernel_rfl
theorem as_Cancel_Cancel (v : Value) (w : World) : (Instr.typeAssert (.iface 94 v) 61 94 true).run Tryd.prog w = .ok (.tuple #[v, .bool true]) w := by kernel_rfl
theorem as_Cancel_Ship (v : Value) (w : World) : (Instr.typeAssert (.iface 94 v) 61 95 true).run Tryd.prog w = .ok (.tuple #[.agg #[.int .i64 0], .bool false]) w := by kernel_rfl
theorem as_Cancel_Recall (v : Value) (w : World) : (Instr.typeAssert (.iface 94 v) 61 97 true).run Tryd.prog w = .ok (.tuple #[.agg #[.int .i64 0, .int .i64 0], .bool false]) w := by kernel_rfl
theorem as_Cancel_Release (v : Value) (w : World) : (Instr.typeAssert (.iface 94 v) 61 98 true).run Tryd.prog w = .ok (.tuple #[.agg #[.int .i64 0, .int .i64 0], .bool false]) w := by kernel_rfl
theorem as_Ship_Order (v : Value) (w : World) : (Instr.typeAssert (.iface 95 v) 61 92 true).run Tryd.prog w = .ok (.tuple #[.agg #[.int .i64 0, .int .i64 0, .int .i64 0, .int .i64 0, .int .i64 0], .bool false]) w := by kernel_rfl
theorem as_Ship_Cancel (v : Value) (w : World) : (Instr.typeAssert (.iface 95 v) 61 94 true).run Tryd.prog w = .ok (.tuple #[.agg #[.int .i64 0], .bool false]) w := by kernel_rfl
theorem as_Ship_Ship (v : Value) (w : World) : (Instr.typeAssert (.iface 95 v) 61 95 true).run Tryd.prog w = .ok (.tuple #[v, .bool true]) w := by kernel_rfl
theorem as_Ship_Recall (v : Value) (w : World) : (Instr.typeAssert (.iface 95 v) 61 97 true).run Tryd.prog w = .ok (.tuple #[.agg #[.int .i64 0, .int .i64 0], .bool false]) w := by kernel_rfl
theorem as_Ship_Release (v : Value) (w : World) : (Instr.typeAssert (.iface 95 v) 61 98 true).run Tryd.prog w = .ok (.tuple #[.agg #[.int .i64 0, .int .i64 0], .bool false]) w := by kernel_rfl
theorem as_Recall_Order (v : Value) (w : World) : (Instr.typeAssert (.iface 97 v) 61 92 true).run Tryd.prog w = .ok (.tuple #[.agg #[.int .i64 0, .int .i64 0, .int .i64 0, .int .i64 0, .int .i64 0], .bool false]) w := by kernel_rfl
theorem as_Recall_Cancel (v : Value) (w : World) : (Instr.typeAssert (.iface 97 v) 61 94 true).run Tryd.prog w = .ok (.tuple #[.agg #[.int .i64 0], .bool false]) w := by kernel_rfl
theorem as_Recall_Ship (v : Value) (w : World) : (Instr.typeAssert (.iface 97 v) 61 95 true).run Tryd.prog w = .ok (.tuple #[.agg #[.int .i64 0], .bool false]) w := by kernel_rfl
theorem as_Recall_Recall (v : Value) (w : World) : (Instr.typeAssert (.iface 97 v) 61 97 true).run Tryd.prog w = .ok (.tuple #[v, .bool true]) w := by kernel_rfl
theorem as_Recall_Release (v : Value) (w : World) : (Instr.typeAssert (.iface 97 v) 61 98 true).run Tryd.prog w = .ok (.tuple #[.agg #[.int .i64 0, .int .i64 0], .bool false]) w := by kernel_rfl
theorem as_Release_Order (v : Value) (w : World) : (Instr.typeAssert (.iface 98 v) 61 92 true).run Tryd.prog w = .ok (.tuple #[.agg #[.int .i64 0, .int .i64 0, .int .i64 0, .int .i64 0, .int .i64 0], .bool false]) w := by kernel_rfl
theorem as_Release_Cancel (v : Value) (w : World) : (Instr.typeAssert (.iface 98 v) 61 94 true).run Tryd.prog w = .ok (.tuple #[.agg #[.int .i64 0], .bool false]) w := by kernel_rfl
theorem as_Release_Ship (v : Value) (w : World) : (Instr.typeAssert (.iface 98 v) 61 95 true).run Tryd.prog w = .ok (.tuple #[.agg #[.int .i64 0], .bool false]) w := by kernel_rfl
theorem as_Release_Recall (v : Value) (w : World) : (Instr.typeAssert (.iface 98 v) 61 97 true).run Tryd.prog w = .ok (.tuple #[.agg #[.int .i64 0, .int .i64 0], .bool false]) w := by kernel_rfl
theorem as_Release_Release (v : Value) (w : World) : (Instr.typeAssert (.iface 98 v) 61 98 true).run Tryd.prog w = .ok (.tuple #[v, .bool true]) w := by kernel_rfl
theorem as_Scrap_Day (v : Value) (w : World) : (Instr.typeAssert (.iface 112 v) 61 100 true).run Tryd.prog w = .ok (.tuple #[.agg #[.int .i64 0], .bool false]) w := by kernel_rfl
theorem as_Scrap_Receive (v : Value) (w : World) : (Instr.typeAssert (.iface 112 v) 61 103 true).run Tryd.prog w = .ok (.tuple #[.agg #[.int .i64 0, .int .i64 0, .int .i64 0, .int .i64 0], .bool false]) w := by kernel_rfl
theorem as_Scrap_Split (v : Value) (w : World) : (Instr.typeAssert (.iface 112 v) 61 106 true).run Tryd.prog w = .ok (.tuple #[.agg #[.int .i64 0, .int .i64 0, .int .i64 0], .bool false]) w := by kernel_rfl
theorem as_Scrap_Merge (v : Value) (w : World) : (Instr.typeAssert (.iface 112 v) 61 109 true).run Tryd.prog w = .ok (.tuple #[.agg #[.int .i64 0, .int .i64 0, .int .i64 0], .bool false]) w := by kernel_rfl
theorem as_Scrap_Order (v : Value) (w : World) : (Instr.typeAssert (.iface 112 v) 61 92 true).run Tryd.prog w = .ok (.tuple #[.agg #[.int .i64 0, .int .i64 0, .int .i64 0, .int .i64 0, .int .i64 0], .bool false]) w := by kernel_rfl
theorem as_Scrap_Cancel (v : Value) (w : World) : (Instr.typeAssert (.iface 112 v) 61 94 true).run Tryd.prog w = .ok (.tuple #[.agg #[.int .i64 0], .bool false]) w := by kernel_rfl
theorem as_Scrap_Ship (v : Value) (w : World) : (Instr.typeAssert (.iface 112 v) 61 95 true).run Tryd.prog w = .ok (.tuple #[.agg #[.int .i64 0], .bool false]) w := by kernel_rfl
theorem as_Scrap_Recall (v : Value) (w : World) : (Instr.typeAssert (.iface 112 v) 61 97 true).run Tryd.prog w = .ok (.tuple #[.agg #[.int .i64 0, .int .i64 0], .bool false]) w := by kernel_rfl
theorem as_Scrap_Release (v : Value) (w : World) : (Instr.typeAssert (.iface 112 v) 61 98 true).run Tryd.prog w = .ok (.tuple #[.agg #[.int .i64 0, .int .i64 0], .bool false]) w := by kernel_rfl
theorem as_Scrap_Scrap (v : Value) (w : World) : (Instr.typeAssert (.iface 112 v) 61 112 true).run Tryd.prog w = .ok (.tuple #[v, .bool true]) w := by kernel_rfl
theorem as_Look_Day (v : Value) (w : World) : (Instr.typeAssert (.iface 115 v) 61 100 true).run Tryd.prog w = .ok (.tuple #[.agg #[.int .i64 0], .bool false]) w := by kernel_rfl
theorem as_Look_Receive (v : Value) (w : World) : (Instr.typeAssert (.iface 115 v) 61 103 true).run Tryd.prog w = .ok (.tuple #[.agg #[.int .i64 0, .int .i64 0, .int .i64 0, .int .i64 0], .bool false]) w := by kernel_rfl
theorem as_Look_Split (v : Value) (w : World) : (Instr.typeAssert (.iface 115 v) 61 106 true).run Tryd.prog w = .ok (.tuple #[.agg #[.int .i64 0, .int .i64 0, .int .i64 0], .bool false]) w := by kernel_rfl
theorem as_Look_Merge (v : Value) (w : World) : (Instr.typeAssert (.iface 115 v) 61 109 true).run Tryd.prog w = .ok (.tuple #[.agg #[.int .i64 0, .int .i64 0, .int .i64 0], .bool false]) w := by kernel_rfl
theorem as_Look_Order (v : Value) (w : World) : (Instr.typeAssert (.iface 115 v) 61 92 true).run Tryd.prog w = .ok (.tuple #[.agg #[.int .i64 0, .int .i64 0, .int .i64 0, .int .i64 0, .int .i64 0], .bool false]) w := by kernel_rfl
theorem as_Look_Cancel (v : Value) (w : World) : (Instr.typeAssert (.iface 115 v) 61 94 true).run Tryd.prog w = .ok (.tuple #[.agg #[.int .i64 0], .bool false]) w := by kernel_rfl
theorem as_Look_Ship (v : Value) (w : World) : (Instr.typeAssert (.iface 115 v) 61 95 true).run Tryd.prog w = .ok (.tuple #[.agg #[.int .i64 0], .bool false]) w := by kernel_rfl
theorem as_Look_Recall (v : Value) (w : World) : (Instr.typeAssert (.iface 115 v) 61 97 true).run Tryd.prog w = .ok (.tuple #[.agg #[.int .i64 0, .int .i64 0], .bool false]) w := by kernel_rfl
theorem as_Look_Release (v : Value) (w : World) : (Instr.typeAssert (.iface 115 v) 61 98 true).run Tryd.prog w = .ok (.tuple #[.agg #[.int .i64 0, .int .i64 0], .bool false]) w := by kernel_rfl
theorem as_Look_Scrap (v : Value) (w : World) : (Instr.typeAssert (.iface 115 v) 61 112 true).run Tryd.prog w = .ok (.tuple #[.agg #[.int .i64 0, .int .i64 0], .bool false]) w := by kernel_rfl
theorem as_Look_Look (v : Value) (w : World) : (Instr.typeAssert (.iface 115 v) 61 115 true).run Tryd.prog w = .ok (.tuple #[v, .bool true]) w := by kernel_rfl
theorem as_Supply_Day (v : Value) (w : World) : (Instr.typeAssert (.iface 118 v) 61 100 true).run Tryd.prog w = .ok (.tuple #[.agg #[.int .i64 0], .bool false]) w := by kernel_rfl
theorem as_Supply_Receive (v : Value) (w : World) : (Instr.typeAssert (.iface 118 v) 61 103 true).run Tryd.prog w = .ok (.tuple #[.agg #[.int .i64 0, .int .i64 0, .int .i64 0, .int .i64 0], .bool false]) w := by kernel_rfl
theorem as_Supply_Split (v : Value) (w : World) : (Instr.typeAssert (.iface 118 v) 61 106 true).run Tryd.prog w = .ok (.tuple #[.agg #[.int .i64 0, .int .i64 0, .int .i64 0], .bool false]) w := by kernel_rfl
theorem as_Supply_Merge (v : Value) (w : World) : (Instr.typeAssert (.iface 118 v) 61 109 true).run Tryd.prog w = .ok (.tuple #[.agg #[.int .i64 0, .int .i64 0, .int .i64 0], .bool false]) w := by kernel_rfl
theorem as_Supply_Order (v : Value) (w : World) : (Instr.typeAssert (.iface 118 v) 61 92 true).run Tryd.prog w = .ok (.tuple #[.agg #[.int .i64 0, .int .i64 0, .int .i64 0, .int .i64 0, .int .i64 0], .bool false]) w := by kernel_rfl
theorem as_Supply_Cancel (v : Value) (w : World) : (Instr.typeAssert (.iface 118 v) 61 94 true).run Tryd.prog w = .ok (.tuple #[.agg #[.int .i64 0], .bool false]) w := by kernel_rfl
theorem as_Supply_Ship (v : Value) (w : World) : (Instr.typeAssert (.iface 118 v) 61 95 true).run Tryd.prog w = .ok (.tuple #[.agg #[.int .i64 0], .bool false]) w := by kernel_rfl
theorem as_Supply_Recall (v : Value) (w : World) : (Instr.typeAssert (.iface 118 v) 61 97 true).run Tryd.prog w = .ok (.tuple #[.agg #[.int .i64 0, .int .i64 0], .bool false]) w := by kernel_rfl
theorem as_Supply_Release (v : Value) (w : World) : (Instr.typeAssert (.iface 118 v) 61 98 true).run Tryd.prog w = .ok (.tuple #[.agg #[.int .i64 0, .int .i64 0], .bool false]) w := by kernel_rfl
theorem as_Supply_Scrap (v : Value) (w : World) : (Instr.typeAssert (.iface 118 v) 61 112 true).run Tryd.prog w = .ok (.tuple #[.agg #[.int .i64 0, .int .i64 0], .bool false]) w := by kernel_rfl
theorem as_Supply_Look (v : Value) (w : World) : (Instr.typeAssert (.iface 118 v) 61 115 true).run Tryd.prog w = .ok (.tuple #[.agg #[.int .i64 0], .bool false]) w := by kernel_rfl
theorem as_Supply_Supply (v : Value) (w : World) : (Instr.typeAssert (.iface 118 v) 61 118 true).run Tryd.prog w = .ok (.tuple #[v, .bool true]) w := by kernel_rfl

end Go.Proofs.YtcomohmadfnmgaaDoor
