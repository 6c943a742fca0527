import Derived.Test.YtgcedalggnmooabGreatDoorRefAX
import Derived.KernelRfl
set_option linter.unusedSimpArgs false
set_option linter.unusedVariables false
set_option maxRecDepth 100000
namespace Go.Proofs.YtgcedalggnmooabGreatDoor
open Go.RowKit
theorem as_Day_Day (v:Value) (w:World):(Instr.typeAssert (.iface 86 v) 67 86 true).run Tryz.prog w=.ok (.tuple #[v,.bool true]) w:=by kernel_rfl
theorem as_Day_Look (v:Value) (w:World):(Instr.typeAssert (.iface 86 v) 67 114 true).run Tryz.prog w=.ok (.tuple #[.agg #[.int .i64 0],.bool false]) w:=by kernel_rfl
theorem as_Day_Supply (v:Value) (w:World):(Instr.typeAssert (.iface 86 v) 67 117 true).run Tryz.prog w=.ok (.tuple #[.agg #[.int .i64 0,.int .i64 0],.bool false]) w:=by kernel_rfl
theorem as_Receive_Day (v:Value) (w:World):(Instr.typeAssert (.iface 89 v) 67 86 true).run Tryz.prog w=.ok (.tuple #[.agg #[.int .i64 0],.bool false]) w:=by kernel_rfl
theorem as_Receive_Receive (v:Value) (w:World):(Instr.typeAssert (.iface 89 v) 67 89 true).run Tryz.prog w=.ok (.tuple #[v,.bool true]) w:=by kernel_rfl
theorem as_Receive_Look (v:Value) (w:World):(Instr.typeAssert (.iface 89 v) 67 114 true).run Tryz.prog w=.ok (.tuple #[.agg #[.int .i64 0],.bool false]) w:=by kernel_rfl
theorem as_Receive_Supply (v:Value) (w:World):(Instr.typeAssert (.iface 89 v) 67 117 true).run Tryz.prog w=.ok (.tuple #[.agg #[.int .i64 0,.int .i64 0],.bool false]) w:=by kernel_rfl
theorem as_Split_Day (v:Value) (w:World):(Instr.typeAssert (.iface 92 v) 67 86 true).run Tryz.prog w=.ok (.tuple #[.agg #[.int .i64 0],.bool false]) w:=by kernel_rfl
theorem as_Split_Receive (v:Value) (w:World):(Instr.typeAssert (.iface 92 v) 67 89 true).run Tryz.prog w=.ok (.tuple #[.agg #[.int .i64 0,.int .i64 0,.int .i64 0,.int .i64 0],.bool false]) w:=by kernel_rfl
theorem as_Split_Split (v:Value) (w:World):(Instr.typeAssert (.iface 92 v) 67 92 true).run Tryz.prog w=.ok (.tuple #[v,.bool true]) w:=by kernel_rfl
theorem as_Split_Look (v:Value) (w:World):(Instr.typeAssert (.iface 92 v) 67 114 true).run Tryz.prog w=.ok (.tuple #[.agg #[.int .i64 0],.bool false]) w:=by kernel_rfl
theorem as_Split_Supply (v:Value) (w:World):(Instr.typeAssert (.iface 92 v) 67 117 true).run Tryz.prog w=.ok (.tuple #[.agg #[.int .i64 0,.int .i64 0],.bool false]) w:=by kernel_rfl
theorem as_Merge_Day (v:Value) (w:World):(Instr.typeAssert (.iface 95 v) 67 86 true).run Tryz.prog w=.ok (.tuple #[.agg #[.int .i64 0],.bool false]) w:=by kernel_rfl
theorem as_Merge_Receive (v:Value) (w:World):(Instr.typeAssert (.iface 95 v) 67 89 true).run Tryz.prog w=.ok (.tuple #[.agg #[.int .i64 0,.int .i64 0,.int .i64 0,.int .i64 0],.bool false]) w:=by kernel_rfl
theorem as_Merge_Split (v:Value) (w:World):(Instr.typeAssert (.iface 95 v) 67 92 true).run Tryz.prog w=.ok (.tuple #[.agg #[.int .i64 0,.int .i64 0,.int .i64 0],.bool false]) w:=by kernel_rfl
theorem as_Merge_Merge (v:Value) (w:World):(Instr.typeAssert (.iface 95 v) 67 95 true).run Tryz.prog w=.ok (.tuple #[v,.bool true]) w:=by kernel_rfl
theorem as_Merge_Look (v:Value) (w:World):(Instr.typeAssert (.iface 95 v) 67 114 true).run Tryz.prog w=.ok (.tuple #[.agg #[.int .i64 0],.bool false]) w:=by kernel_rfl
theorem as_Merge_Supply (v:Value) (w:World):(Instr.typeAssert (.iface 95 v) 67 117 true).run Tryz.prog w=.ok (.tuple #[.agg #[.int .i64 0,.int .i64 0],.bool false]) w:=by kernel_rfl
theorem as_Order_Day (v:Value) (w:World):(Instr.typeAssert (.iface 98 v) 67 86 true).run Tryz.prog w=.ok (.tuple #[.agg #[.int .i64 0],.bool false]) w:=by kernel_rfl
theorem as_Order_Receive (v:Value) (w:World):(Instr.typeAssert (.iface 98 v) 67 89 true).run Tryz.prog w=.ok (.tuple #[.agg #[.int .i64 0,.int .i64 0,.int .i64 0,.int .i64 0],.bool false]) w:=by kernel_rfl
theorem as_Order_Split (v:Value) (w:World):(Instr.typeAssert (.iface 98 v) 67 92 true).run Tryz.prog w=.ok (.tuple #[.agg #[.int .i64 0,.int .i64 0,.int .i64 0],.bool false]) w:=by kernel_rfl
theorem as_Order_Merge (v:Value) (w:World):(Instr.typeAssert (.iface 98 v) 67 95 true).run Tryz.prog w=.ok (.tuple #[.agg #[.int .i64 0,.int .i64 0,.int .i64 0],.bool false]) w:=by kernel_rfl
theorem as_Order_Order (v:Value) (w:World):(Instr.typeAssert (.iface 98 v) 67 98 true).run Tryz.prog w=.ok (.tuple #[v,.bool true]) w:=by kernel_rfl
theorem as_Order_Look (v:Value) (w:World):(Instr.typeAssert (.iface 98 v) 67 114 true).run Tryz.prog w=.ok (.tuple #[.agg #[.int .i64 0],.bool false]) w:=by kernel_rfl
theorem as_Order_Supply (v:Value) (w:World):(Instr.typeAssert (.iface 98 v) 67 117 true).run Tryz.prog w=.ok (.tuple #[.agg #[.int .i64 0,.int .i64 0],.bool false]) w:=by kernel_rfl
theorem as_Cancel_Day (v:Value) (w:World):(Instr.typeAssert (.iface 101 v) 67 86 true).run Tryz.prog w=.ok (.tuple #[.agg #[.int .i64 0],.bool false]) w:=by kernel_rfl
theorem as_Cancel_Receive (v:Value) (w:World):(Instr.typeAssert (.iface 101 v) 67 89 true).run Tryz.prog w=.ok (.tuple #[.agg #[.int .i64 0,.int .i64 0,.int .i64 0,.int .i64 0],.bool false]) w:=by kernel_rfl
theorem as_Cancel_Split (v:Value) (w:World):(Instr.typeAssert (.iface 101 v) 67 92 true).run Tryz.prog w=.ok (.tuple #[.agg #[.int .i64 0,.int .i64 0,.int .i64 0],.bool false]) w:=by kernel_rfl
theorem as_Cancel_Merge (v:Value) (w:World):(Instr.typeAssert (.iface 101 v) 67 95 true).run Tryz.prog w=.ok (.tuple #[.agg #[.int .i64 0,.int .i64 0,.int .i64 0],.bool false]) w:=by kernel_rfl
theorem as_Cancel_Order (v:Value) (w:World):(Instr.typeAssert (.iface 101 v) 67 98 true).run Tryz.prog w=.ok (.tuple #[.agg #[.int .i64 0,.int .i64 0,.int .i64 0,.int .i64 0,.int .i64 0],.bool false]) w:=by kernel_rfl
theorem as_Cancel_Cancel (v:Value) (w:World):(Instr.typeAssert (.iface 101 v) 67 101 true).run Tryz.prog w=.ok (.tuple #[v,.bool true]) w:=by kernel_rfl
theorem as_Cancel_Ship (v:Value) (w:World):(Instr.typeAssert (.iface 101 v) 67 103 true).run Tryz.prog w=.ok (.tuple #[.agg #[.int .i64 0],.bool false]) w:=by kernel_rfl
theorem as_Cancel_Look (v:Value) (w:World):(Instr.typeAssert (.iface 101 v) 67 114 true).run Tryz.prog w=.ok (.tuple #[.agg #[.int .i64 0],.bool false]) w:=by kernel_rfl
theorem as_Cancel_Supply (v:Value) (w:World):(Instr.typeAssert (.iface 101 v) 67 117 true).run Tryz.prog w=.ok (.tuple #[.agg #[.int .i64 0,.int .i64 0],.bool false]) w:=by kernel_rfl
theorem as_Ship_Day (v:Value) (w:World):(Instr.typeAssert (.iface 103 v) 67 86 true).run Tryz.prog w=.ok (.tuple #[.agg #[.int .i64 0],.bool false]) w:=by kernel_rfl
theorem as_Ship_Receive (v:Value) (w:World):(Instr.typeAssert (.iface 103 v) 67 89 true).run Tryz.prog w=.ok (.tuple #[.agg #[.int .i64 0,.int .i64 0,.int .i64 0,.int .i64 0],.bool false]) w:=by kernel_rfl
theorem as_Ship_Split (v:Value) (w:World):(Instr.typeAssert (.iface 103 v) 67 92 true).run Tryz.prog w=.ok (.tuple #[.agg #[.int .i64 0,.int .i64 0,.int .i64 0],.bool false]) w:=by kernel_rfl
theorem as_Ship_Merge (v:Value) (w:World):(Instr.typeAssert (.iface 103 v) 67 95 true).run Tryz.prog w=.ok (.tuple #[.agg #[.int .i64 0,.int .i64 0,.int .i64 0],.bool false]) w:=by kernel_rfl
theorem as_Ship_Order (v:Value) (w:World):(Instr.typeAssert (.iface 103 v) 67 98 true).run Tryz.prog w=.ok (.tuple #[.agg #[.int .i64 0,.int .i64 0,.int .i64 0,.int .i64 0,.int .i64 0],.bool false]) w:=by kernel_rfl
theorem as_Ship_Cancel (v:Value) (w:World):(Instr.typeAssert (.iface 103 v) 67 101 true).run Tryz.prog w=.ok (.tuple #[.agg #[.int .i64 0],.bool false]) w:=by kernel_rfl
theorem as_Ship_Ship (v:Value) (w:World):(Instr.typeAssert (.iface 103 v) 67 103 true).run Tryz.prog w=.ok (.tuple #[v,.bool true]) w:=by kernel_rfl
theorem as_Ship_Look (v:Value) (w:World):(Instr.typeAssert (.iface 103 v) 67 114 true).run Tryz.prog w=.ok (.tuple #[.agg #[.int .i64 0],.bool false]) w:=by kernel_rfl
theorem as_Ship_Supply (v:Value) (w:World):(Instr.typeAssert (.iface 103 v) 67 117 true).run Tryz.prog w=.ok (.tuple #[.agg #[.int .i64 0,.int .i64 0],.bool false]) w:=by kernel_rfl
theorem as_Recall_Day (v:Value) (w:World):(Instr.typeAssert (.iface 106 v) 67 86 true).run Tryz.prog w=.ok (.tuple #[.agg #[.int .i64 0],.bool false]) w:=by kernel_rfl
theorem as_Recall_Receive (v:Value) (w:World):(Instr.typeAssert (.iface 106 v) 67 89 true).run Tryz.prog w=.ok (.tuple #[.agg #[.int .i64 0,.int .i64 0,.int .i64 0,.int .i64 0],.bool false]) w:=by kernel_rfl
theorem as_Recall_Split (v:Value) (w:World):(Instr.typeAssert (.iface 106 v) 67 92 true).run Tryz.prog w=.ok (.tuple #[.agg #[.int .i64 0,.int .i64 0,.int .i64 0],.bool false]) w:=by kernel_rfl
theorem as_Recall_Merge (v:Value) (w:World):(Instr.typeAssert (.iface 106 v) 67 95 true).run Tryz.prog w=.ok (.tuple #[.agg #[.int .i64 0,.int .i64 0,.int .i64 0],.bool false]) w:=by kernel_rfl
theorem as_Recall_Order (v:Value) (w:World):(Instr.typeAssert (.iface 106 v) 67 98 true).run Tryz.prog w=.ok (.tuple #[.agg #[.int .i64 0,.int .i64 0,.int .i64 0,.int .i64 0,.int .i64 0],.bool false]) w:=by kernel_rfl
theorem as_Recall_Cancel (v:Value) (w:World):(Instr.typeAssert (.iface 106 v) 67 101 true).run Tryz.prog w=.ok (.tuple #[.agg #[.int .i64 0],.bool false]) w:=by kernel_rfl
theorem as_Recall_Ship (v:Value) (w:World):(Instr.typeAssert (.iface 106 v) 67 103 true).run Tryz.prog w=.ok (.tuple #[.agg #[.int .i64 0],.bool false]) w:=by kernel_rfl
theorem as_Recall_Recall (v:Value) (w:World):(Instr.typeAssert (.iface 106 v) 67 106 true).run Tryz.prog w=.ok (.tuple #[v,.bool true]) w:=by kernel_rfl
theorem as_Recall_Look (v:Value) (w:World):(Instr.typeAssert (.iface 106 v) 67 114 true).run Tryz.prog w=.ok (.tuple #[.agg #[.int .i64 0],.bool false]) w:=by kernel_rfl
theorem as_Recall_Supply (v:Value) (w:World):(Instr.typeAssert (.iface 106 v) 67 117 true).run Tryz.prog w=.ok (.tuple #[.agg #[.int .i64 0,.int .i64 0],.bool false]) w:=by kernel_rfl
theorem as_Release_Day (v:Value) (w:World):(Instr.typeAssert (.iface 108 v) 67 86 true).run Tryz.prog w=.ok (.tuple #[.agg #[.int .i64 0],.bool false]) w:=by kernel_rfl
theorem as_Release_Receive (v:Value) (w:World):(Instr.typeAssert (.iface 108 v) 67 89 true).run Tryz.prog w=.ok (.tuple #[.agg #[.int .i64 0,.int .i64 0,.int .i64 0,.int .i64 0],.bool false]) w:=by kernel_rfl
theorem as_Release_Split (v:Value) (w:World):(Instr.typeAssert (.iface 108 v) 67 92 true).run Tryz.prog w=.ok (.tuple #[.agg #[.int .i64 0,.int .i64 0,.int .i64 0],.bool false]) w:=by kernel_rfl
theorem as_Release_Merge (v:Value) (w:World):(Instr.typeAssert (.iface 108 v) 67 95 true).run Tryz.prog w=.ok (.tuple #[.agg #[.int .i64 0,.int .i64 0,.int .i64 0],.bool false]) w:=by kernel_rfl
theorem as_Release_Order (v:Value) (w:World):(Instr.typeAssert (.iface 108 v) 67 98 true).run Tryz.prog w=.ok (.tuple #[.agg #[.int .i64 0,.int .i64 0,.int .i64 0,.int .i64 0,.int .i64 0],.bool false]) w:=by kernel_rfl
theorem as_Release_Cancel (v:Value) (w:World):(Instr.typeAssert (.iface 108 v) 67 101 true).run Tryz.prog w=.ok (.tuple #[.agg #[.int .i64 0],.bool false]) w:=by kernel_rfl
theorem as_Release_Ship (v:Value) (w:World):(Instr.typeAssert (.iface 108 v) 67 103 true).run Tryz.prog w=.ok (.tuple #[.agg #[.int .i64 0],.bool false]) w:=by kernel_rfl
theorem as_Release_Recall (v:Value) (w:World):(Instr.typeAssert (.iface 108 v) 67 106 true).run Tryz.prog w=.ok (.tuple #[.agg #[.int .i64 0,.int .i64 0],.bool false]) w:=by kernel_rfl
theorem as_Release_Release (v:Value) (w:World):(Instr.typeAssert (.iface 108 v) 67 108 true).run Tryz.prog w=.ok (.tuple #[v,.bool true]) w:=by kernel_rfl
theorem as_Release_Look (v:Value) (w:World):(Instr.typeAssert (.iface 108 v) 67 114 true).run Tryz.prog w=.ok (.tuple #[.agg #[.int .i64 0],.bool false]) w:=by kernel_rfl
theorem as_Release_Supply (v:Value) (w:World):(Instr.typeAssert (.iface 108 v) 67 117 true).run Tryz.prog w=.ok (.tuple #[.agg #[.int .i64 0,.int .i64 0],.bool false]) w:=by kernel_rfl
theorem as_Scrap_Day (v:Value) (w:World):(Instr.typeAssert (.iface 111 v) 67 86 true).run Tryz.prog w=.ok (.tuple #[.agg #[.int .i64 0],.bool false]) w:=by kernel_rfl
theorem as_Scrap_Receive (v:Value) (w:World):(Instr.typeAssert (.iface 111 v) 67 89 true).run Tryz.prog w=.ok (.tuple #[.agg #[.int .i64 0,.int .i64 0,.int .i64 0,.int .i64 0],.bool false]) w:=by kernel_rfl
theorem as_Scrap_Split (v:Value) (w:World):(Instr.typeAssert (.iface 111 v) 67 92 true).run Tryz.prog w=.ok (.tuple #[.agg #[.int .i64 0,.int .i64 0,.int .i64 0],.bool false]) w:=by kernel_rfl
theorem as_Scrap_Merge (v:Value) (w:World):(Instr.typeAssert (.iface 111 v) 67 95 true).run Tryz.prog w=.ok (.tuple #[.agg #[.int .i64 0,.int .i64 0,.int .i64 0],.bool false]) w:=by kernel_rfl
theorem as_Scrap_Order (v:Value) (w:World):(Instr.typeAssert (.iface 111 v) 67 98 true).run Tryz.prog w=.ok (.tuple #[.agg #[.int .i64 0,.int .i64 0,.int .i64 0,.int .i64 0,.int .i64 0],.bool false]) w:=by kernel_rfl
theorem as_Scrap_Cancel (v:Value) (w:World):(Instr.typeAssert (.iface 111 v) 67 101 true).run Tryz.prog w=.ok (.tuple #[.agg #[.int .i64 0],.bool false]) w:=by kernel_rfl
theorem as_Scrap_Ship (v:Value) (w:World):(Instr.typeAssert (.iface 111 v) 67 103 true).run Tryz.prog w=.ok (.tuple #[.agg #[.int .i64 0],.bool false]) w:=by kernel_rfl
theorem as_Scrap_Recall (v:Value) (w:World):(Instr.typeAssert (.iface 111 v) 67 106 true).run Tryz.prog w=.ok (.tuple #[.agg #[.int .i64 0,.int .i64 0],.bool false]) w:=by kernel_rfl
theorem as_Scrap_Release (v:Value) (w:World):(Instr.typeAssert (.iface 111 v) 67 108 true).run Tryz.prog w=.ok (.tuple #[.agg #[.int .i64 0,.int .i64 0],.bool false]) w:=by kernel_rfl
theorem as_Scrap_Scrap (v:Value) (w:World):(Instr.typeAssert (.iface 111 v) 67 111 true).run Tryz.prog w=.ok (.tuple #[v,.bool true]) w:=by kernel_rfl
theorem as_Scrap_Look (v:Value) (w:World):(Instr.typeAssert (.iface 111 v) 67 114 true).run Tryz.prog w=.ok (.tuple #[.agg #[.int .i64 0],.bool false]) w:=by kernel_rfl
theorem as_Scrap_Supply (v:Value) (w:World):(Instr.typeAssert (.iface 111 v) 67 117 true).run Tryz.prog w=.ok (.tuple #[.agg #[.int .i64 0,.int .i64 0],.bool false]) w:=by kernel_rfl
theorem as_Look_Day (v:Value) (w:World):(Instr.typeAssert (.iface 114 v) 67 86 true).run Tryz.prog w=.ok (.tuple #[.agg #[.int .i64 0],.bool false]) w:=by kernel_rfl
theorem as_Look_Receive (v:Value) (w:World):(Instr.typeAssert (.iface 114 v) 67 89 true).run Tryz.prog w=.ok (.tuple #[.agg #[.int .i64 0,.int .i64 0,.int .i64 0,.int .i64 0],.bool false]) w:=by kernel_rfl
theorem as_Look_Split (v:Value) (w:World):(Instr.typeAssert (.iface 114 v) 67 92 true).run Tryz.prog w=.ok (.tuple #[.agg #[.int .i64 0,.int .i64 0,.int .i64 0],.bool false]) w:=by kernel_rfl
theorem as_Look_Merge (v:Value) (w:World):(Instr.typeAssert (.iface 114 v) 67 95 true).run Tryz.prog w=.ok (.tuple #[.agg #[.int .i64 0,.int .i64 0,.int .i64 0],.bool false]) w:=by kernel_rfl
theorem as_Look_Order (v:Value) (w:World):(Instr.typeAssert (.iface 114 v) 67 98 true).run Tryz.prog w=.ok (.tuple #[.agg #[.int .i64 0,.int .i64 0,.int .i64 0,.int .i64 0,.int .i64 0],.bool false]) w:=by kernel_rfl
theorem as_Look_Cancel (v:Value) (w:World):(Instr.typeAssert (.iface 114 v) 67 101 true).run Tryz.prog w=.ok (.tuple #[.agg #[.int .i64 0],.bool false]) w:=by kernel_rfl
theorem as_Look_Ship (v:Value) (w:World):(Instr.typeAssert (.iface 114 v) 67 103 true).run Tryz.prog w=.ok (.tuple #[.agg #[.int .i64 0],.bool false]) w:=by kernel_rfl
theorem as_Look_Recall (v:Value) (w:World):(Instr.typeAssert (.iface 114 v) 67 106 true).run Tryz.prog w=.ok (.tuple #[.agg #[.int .i64 0,.int .i64 0],.bool false]) w:=by kernel_rfl
theorem as_Look_Release (v:Value) (w:World):(Instr.typeAssert (.iface 114 v) 67 108 true).run Tryz.prog w=.ok (.tuple #[.agg #[.int .i64 0,.int .i64 0],.bool false]) w:=by kernel_rfl
theorem as_Look_Scrap (v:Value) (w:World):(Instr.typeAssert (.iface 114 v) 67 111 true).run Tryz.prog w=.ok (.tuple #[.agg #[.int .i64 0,.int .i64 0],.bool false]) w:=by kernel_rfl
theorem as_Look_Look (v:Value) (w:World):(Instr.typeAssert (.iface 114 v) 67 114 true).run Tryz.prog w=.ok (.tuple #[v,.bool true]) w:=by kernel_rfl
theorem as_Look_Supply (v:Value) (w:World):(Instr.typeAssert (.iface 114 v) 67 117 true).run Tryz.prog w=.ok (.tuple #[.agg #[.int .i64 0,.int .i64 0],.bool false]) w:=by kernel_rfl
theorem as_Supply_Day (v:Value) (w:World):(Instr.typeAssert (.iface 117 v) 67 86 true).run Tryz.prog w=.ok (.tuple #[.agg #[.int .i64 0],.bool false]) w:=by kernel_rfl
theorem as_Supply_Receive (v:Value) (w:World):(Instr.typeAssert (.iface 117 v) 67 89 true).run Tryz.prog w=.ok (.tuple #[.agg #[.int .i64 0,.int .i64 0,.int .i64 0,.int .i64 0],.bool false]) w:=by kernel_rfl
theorem as_Supply_Split (v:Value) (w:World):(Instr.typeAssert (.iface 117 v) 67 92 true).run Tryz.prog w=.ok (.tuple #[.agg #[.int .i64 0,.int .i64 0,.int .i64 0],.bool false]) w:=by kernel_rfl
theorem as_Supply_Merge (v:Value) (w:World):(Instr.typeAssert (.iface 117 v) 67 95 true).run Tryz.prog w=.ok (.tuple #[.agg #[.int .i64 0,.int .i64 0,.int .i64 0],.bool false]) w:=by kernel_rfl
theorem as_Supply_Order (v:Value) (w:World):(Instr.typeAssert (.iface 117 v) 67 98 true).run Tryz.prog w=.ok (.tuple #[.agg #[.int .i64 0,.int .i64 0,.int .i64 0,.int .i64 0,.int .i64 0],.bool false]) w:=by kernel_rfl
theorem as_Supply_Cancel (v:Value) (w:World):(Instr.typeAssert (.iface 117 v) 67 101 true).run Tryz.prog w=.ok (.tuple #[.agg #[.int .i64 0],.bool false]) w:=by kernel_rfl
theorem as_Supply_Ship (v:Value) (w:World):(Instr.typeAssert (.iface 117 v) 67 103 true).run Tryz.prog w=.ok (.tuple #[.agg #[.int .i64 0],.bool false]) w:=by kernel_rfl
theorem as_Supply_Recall (v:Value) (w:World):(Instr.typeAssert (.iface 117 v) 67 106 true).run Tryz.prog w=.ok (.tuple #[.agg #[.int .i64 0,.int .i64 0],.bool false]) w:=by kernel_rfl
theorem as_Supply_Release (v:Value) (w:World):(Instr.typeAssert (.iface 117 v) 67 108 true).run Tryz.prog w=.ok (.tuple #[.agg #[.int .i64 0,.int .i64 0],.bool false]) w:=by kernel_rfl
theorem as_Supply_Scrap (v:Value) (w:World):(Instr.typeAssert (.iface 117 v) 67 111 true).run Tryz.prog w=.ok (.tuple #[.agg #[.int .i64 0,.int .i64 0],.bool false]) w:=by kernel_rfl
theorem as_Supply_Look (v:Value) (w:World):(Instr.typeAssert (.iface 117 v) 67 114 true).run Tryz.prog w=.ok (.tuple #[.agg #[.int .i64 0],.bool false]) w:=by kernel_rfl
theorem as_Supply_Supply (v:Value) (w:World):(Instr.typeAssert (.iface 117 v) 67 117 true).run Tryz.prog w=.ok (.tuple #[v,.bool true]) w:=by kernel_rfl
end Go.Proofs.YtgcedalggnmooabGreatDoor
namespace Go.Proofs.YtgcedalggnmooabGreatDoor
open Go.RowKit
theorem meth_Day (v : Value) (w : World) : (method 380 86 v "InRange").run Tryz.prog w = .ok (205, v) w := by kernel_rfl
theorem meth_Receive (v : Value) (w : World) : (method 380 89 v "InRange").run Tryz.prog w = .ok (207, v) w := by kernel_rfl
theorem meth_Split (v : Value) (w : World) : (method 380 92 v "InRange").run Tryz.prog w = .ok (210, v) w := by kernel_rfl
theorem meth_Merge (v : Value) (w : World) : (method 380 95 v "InRange").run Tryz.prog w = .ok (211, v) w := by kernel_rfl
theorem meth_Order (v : Value) (w : World) : (method 380 98 v "InRange").run Tryz.prog w = .ok (212, v) w := by kernel_rfl
theorem meth_Cancel (v : Value) (w : World) : (method 380 101 v "InRange").run Tryz.prog w = .ok (213, v) w := by kernel_rfl
theorem meth_Ship (v : Value) (w : World) : (method 380 103 v "InRange").run Tryz.prog w = .ok (214, v) w := by kernel_rfl
theorem meth_Recall (v : Value) (w : World) : (method 380 106 v "InRange").run Tryz.prog w = .ok (215, v) w := by kernel_rfl
theorem meth_Release (v : Value) (w : World) : (method 380 108 v "InRange").run Tryz.prog w = .ok (216, v) w := by kernel_rfl
theorem meth_Scrap (v : Value) (w : World) : (method 380 111 v "InRange").run Tryz.prog w = .ok (217, v) w := by kernel_rfl
theorem meth_Look (v : Value) (w : World) : (method 380 114 v "InRange").run Tryz.prog w = .ok (218, v) w := by kernel_rfl
theorem meth_Supply (v : Value) (w : World) : (method 380 117 v "InRange").run Tryz.prog w = .ok (219, v) w := by kernel_rfl
end Go.Proofs.YtgcedalggnmooabGreatDoor
