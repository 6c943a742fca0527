import Derived.Test.YtgcedalggnmooaaGreatDoorRefAX
import Derived.KernelRfl
set_option linter.unusedSimpArgs false
set_option linter.unusedVariables false
set_option maxRecDepth 100000
namespace Go.Proofs.YtgcedalggnmooaaGreatDoor
open Go.RowKit
theorem as_Day_Day (v:Value) (w:World):(Instr.typeAssert (.iface 143 v) 105 143 true).run Tryz.prog w=.ok (.tuple #[v,.bool true]) w:=by kernel_rfl
theorem as_Day_Look (v:Value) (w:World):(Instr.typeAssert (.iface 143 v) 105 171 true).run Tryz.prog w=.ok (.tuple #[.agg #[.int .i64 0],.bool false]) w:=by kernel_rfl
theorem as_Day_Supply (v:Value) (w:World):(Instr.typeAssert (.iface 143 v) 105 174 true).run Tryz.prog w=.ok (.tuple #[.agg #[.int .i64 0,.int .i64 0],.bool false]) w:=by kernel_rfl
theorem as_Receive_Day (v:Value) (w:World):(Instr.typeAssert (.iface 146 v) 105 143 true).run Tryz.prog w=.ok (.tuple #[.agg #[.int .i64 0],.bool false]) w:=by kernel_rfl
theorem as_Receive_Receive (v:Value) (w:World):(Instr.typeAssert (.iface 146 v) 105 146 true).run Tryz.prog w=.ok (.tuple #[v,.bool true]) w:=by kernel_rfl
theorem as_Receive_Look (v:Value) (w:World):(Instr.typeAssert (.iface 146 v) 105 171 true).run Tryz.prog w=.ok (.tuple #[.agg #[.int .i64 0],.bool false]) w:=by kernel_rfl
theorem as_Receive_Supply (v:Value) (w:World):(Instr.typeAssert (.iface 146 v) 105 174 true).run Tryz.prog w=.ok (.tuple #[.agg #[.int .i64 0,.int .i64 0],.bool false]) w:=by kernel_rfl
theorem as_Split_Day (v:Value) (w:World):(Instr.typeAssert (.iface 149 v) 105 143 true).run Tryz.prog w=.ok (.tuple #[.agg #[.int .i64 0],.bool false]) w:=by kernel_rfl
theorem as_Split_Receive (v:Value) (w:World):(Instr.typeAssert (.iface 149 v) 105 146 true).run Tryz.prog w=.ok (.tuple #[.agg #[.int .i64 0,.int .i64 0,.int .i64 0,.int .i64 0],.bool false]) w:=by kernel_rfl
theorem as_Split_Split (v:Value) (w:World):(Instr.typeAssert (.iface 149 v) 105 149 true).run Tryz.prog w=.ok (.tuple #[v,.bool true]) w:=by kernel_rfl
theorem as_Split_Look (v:Value) (w:World):(Instr.typeAssert (.iface 149 v) 105 171 true).run Tryz.prog w=.ok (.tuple #[.agg #[.int .i64 0],.bool false]) w:=by kernel_rfl
theorem as_Split_Supply (v:Value) (w:World):(Instr.typeAssert (.iface 149 v) 105 174 true).run Tryz.prog w=.ok (.tuple #[.agg #[.int .i64 0,.int .i64 0],.bool false]) w:=by kernel_rfl
theorem as_Merge_Day (v:Value) (w:World):(Instr.typeAssert (.iface 152 v) 105 143 true).run Tryz.prog w=.ok (.tuple #[.agg #[.int .i64 0],.bool false]) w:=by kernel_rfl
theorem as_Merge_Receive (v:Value) (w:World):(Instr.typeAssert (.iface 152 v) 105 146 true).run Tryz.prog w=.ok (.tuple #[.agg #[.int .i64 0,.int .i64 0,.int .i64 0,.int .i64 0],.bool false]) w:=by kernel_rfl
theorem as_Merge_Split (v:Value) (w:World):(Instr.typeAssert (.iface 152 v) 105 149 true).run Tryz.prog w=.ok (.tuple #[.agg #[.int .i64 0,.int .i64 0,.int .i64 0],.bool false]) w:=by kernel_rfl
theorem as_Merge_Merge (v:Value) (w:World):(Instr.typeAssert (.iface 152 v) 105 152 true).run Tryz.prog w=.ok (.tuple #[v,.bool true]) w:=by kernel_rfl
theorem as_Merge_Look (v:Value) (w:World):(Instr.typeAssert (.iface 152 v) 105 171 true).run Tryz.prog w=.ok (.tuple #[.agg #[.int .i64 0],.bool false]) w:=by kernel_rfl
theorem as_Merge_Supply (v:Value) (w:World):(Instr.typeAssert (.iface 152 v) 105 174 true).run Tryz.prog w=.ok (.tuple #[.agg #[.int .i64 0,.int .i64 0],.bool false]) w:=by kernel_rfl
theorem as_Order_Day (v:Value) (w:World):(Instr.typeAssert (.iface 155 v) 105 143 true).run Tryz.prog w=.ok (.tuple #[.agg #[.int .i64 0],.bool false]) w:=by kernel_rfl
theorem as_Order_Receive (v:Value) (w:World):(Instr.typeAssert (.iface 155 v) 105 146 true).run Tryz.prog w=.ok (.tuple #[.agg #[.int .i64 0,.int .i64 0,.int .i64 0,.int .i64 0],.bool false]) w:=by kernel_rfl
theorem as_Order_Split (v:Value) (w:World):(Instr.typeAssert (.iface 155 v) 105 149 true).run Tryz.prog w=.ok (.tuple #[.agg #[.int .i64 0,.int .i64 0,.int .i64 0],.bool false]) w:=by kernel_rfl
theorem as_Order_Merge (v:Value) (w:World):(Instr.typeAssert (.iface 155 v) 105 152 true).run Tryz.prog w=.ok (.tuple #[.agg #[.int .i64 0,.int .i64 0,.int .i64 0],.bool false]) w:=by kernel_rfl
theorem as_Order_Order (v:Value) (w:World):(Instr.typeAssert (.iface 155 v) 105 155 true).run Tryz.prog w=.ok (.tuple #[v,.bool true]) w:=by kernel_rfl
theorem as_Order_Look (v:Value) (w:World):(Instr.typeAssert (.iface 155 v) 105 171 true).run Tryz.prog w=.ok (.tuple #[.agg #[.int .i64 0],.bool false]) w:=by kernel_rfl
theorem as_Order_Supply (v:Value) (w:World):(Instr.typeAssert (.iface 155 v) 105 174 true).run Tryz.prog w=.ok (.tuple #[.agg #[.int .i64 0,.int .i64 0],.bool false]) w:=by kernel_rfl
theorem as_Cancel_Day (v:Value) (w:World):(Instr.typeAssert (.iface 158 v) 105 143 true).run Tryz.prog w=.ok (.tuple #[.agg #[.int .i64 0],.bool false]) w:=by kernel_rfl
theorem as_Cancel_Receive (v:Value) (w:World):(Instr.typeAssert (.iface 158 v) 105 146 true).run Tryz.prog w=.ok (.tuple #[.agg #[.int .i64 0,.int .i64 0,.int .i64 0,.int .i64 0],.bool false]) w:=by kernel_rfl
theorem as_Cancel_Split (v:Value) (w:World):(Instr.typeAssert (.iface 158 v) 105 149 true).run Tryz.prog w=.ok (.tuple #[.agg #[.int .i64 0,.int .i64 0,.int .i64 0],.bool false]) w:=by kernel_rfl
theorem as_Cancel_Merge (v:Value) (w:World):(Instr.typeAssert (.iface 158 v) 105 152 true).run Tryz.prog w=.ok (.tuple #[.agg #[.int .i64 0,.int .i64 0,.int .i64 0],.bool false]) w:=by kernel_rfl
theorem as_Cancel_Order (v:Value) (w:World):(Instr.typeAssert (.iface 158 v) 105 155 true).run Tryz.prog w=.ok (.tuple #[.agg #[.int .i64 0,.int .i64 0,.int .i64 0,.int .i64 0,.int .i64 0],.bool false]) w:=by kernel_rfl
theorem as_Cancel_Cancel (v:Value) (w:World):(Instr.typeAssert (.iface 158 v) 105 158 true).run Tryz.prog w=.ok (.tuple #[v,.bool true]) w:=by kernel_rfl
theorem as_Cancel_Ship (v:Value) (w:World):(Instr.typeAssert (.iface 158 v) 105 160 true).run Tryz.prog w=.ok (.tuple #[.agg #[.int .i64 0],.bool false]) w:=by kernel_rfl
theorem as_Cancel_Look (v:Value) (w:World):(Instr.typeAssert (.iface 158 v) 105 171 true).run Tryz.prog w=.ok (.tuple #[.agg #[.int .i64 0],.bool false]) w:=by kernel_rfl
theorem as_Cancel_Supply (v:Value) (w:World):(Instr.typeAssert (.iface 158 v) 105 174 true).run Tryz.prog w=.ok (.tuple #[.agg #[.int .i64 0,.int .i64 0],.bool false]) w:=by kernel_rfl
theorem as_Ship_Day (v:Value) (w:World):(Instr.typeAssert (.iface 160 v) 105 143 true).run Tryz.prog w=.ok (.tuple #[.agg #[.int .i64 0],.bool false]) w:=by kernel_rfl
theorem as_Ship_Receive (v:Value) (w:World):(Instr.typeAssert (.iface 160 v) 105 146 true).run Tryz.prog w=.ok (.tuple #[.agg #[.int .i64 0,.int .i64 0,.int .i64 0,.int .i64 0],.bool false]) w:=by kernel_rfl
theorem as_Ship_Split (v:Value) (w:World):(Instr.typeAssert (.iface 160 v) 105 149 true).run Tryz.prog w=.ok (.tuple #[.agg #[.int .i64 0,.int .i64 0,.int .i64 0],.bool false]) w:=by kernel_rfl
theorem as_Ship_Merge (v:Value) (w:World):(Instr.typeAssert (.iface 160 v) 105 152 true).run Tryz.prog w=.ok (.tuple #[.agg #[.int .i64 0,.int .i64 0,.int .i64 0],.bool false]) w:=by kernel_rfl
theorem as_Ship_Order (v:Value) (w:World):(Instr.typeAssert (.iface 160 v) 105 155 true).run Tryz.prog w=.ok (.tuple #[.agg #[.int .i64 0,.int .i64 0,.int .i64 0,.int .i64 0,.int .i64 0],.bool false]) w:=by kernel_rfl
theorem as_Ship_Cancel (v:Value) (w:World):(Instr.typeAssert (.iface 160 v) 105 158 true).run Tryz.prog w=.ok (.tuple #[.agg #[.int .i64 0],.bool false]) w:=by kernel_rfl
theorem as_Ship_Ship (v:Value) (w:World):(Instr.typeAssert (.iface 160 v) 105 160 true).run Tryz.prog w=.ok (.tuple #[v,.bool true]) w:=by kernel_rfl
theorem as_Ship_Look (v:Value) (w:World):(Instr.typeAssert (.iface 160 v) 105 171 true).run Tryz.prog w=.ok (.tuple #[.agg #[.int .i64 0],.bool false]) w:=by kernel_rfl
theorem as_Ship_Supply (v:Value) (w:World):(Instr.typeAssert (.iface 160 v) 105 174 true).run Tryz.prog w=.ok (.tuple #[.agg #[.int .i64 0,.int .i64 0],.bool false]) w:=by kernel_rfl
theorem as_Recall_Day (v:Value) (w:World):(Instr.typeAssert (.iface 163 v) 105 143 true).run Tryz.prog w=.ok (.tuple #[.agg #[.int .i64 0],.bool false]) w:=by kernel_rfl
theorem as_Recall_Receive (v:Value) (w:World):(Instr.typeAssert (.iface 163 v) 105 146 true).run Tryz.prog w=.ok (.tuple #[.agg #[.int .i64 0,.int .i64 0,.int .i64 0,.int .i64 0],.bool false]) w:=by kernel_rfl
theorem as_Recall_Split (v:Value) (w:World):(Instr.typeAssert (.iface 163 v) 105 149 true).run Tryz.prog w=.ok (.tuple #[.agg #[.int .i64 0,.int .i64 0,.int .i64 0],.bool false]) w:=by kernel_rfl
theorem as_Recall_Merge (v:Value) (w:World):(Instr.typeAssert (.iface 163 v) 105 152 true).run Tryz.prog w=.ok (.tuple #[.agg #[.int .i64 0,.int .i64 0,.int .i64 0],.bool false]) w:=by kernel_rfl
theorem as_Recall_Order (v:Value) (w:World):(Instr.typeAssert (.iface 163 v) 105 155 true).run Tryz.prog w=.ok (.tuple #[.agg #[.int .i64 0,.int .i64 0,.int .i64 0,.int .i64 0,.int .i64 0],.bool false]) w:=by kernel_rfl
theorem as_Recall_Cancel (v:Value) (w:World):(Instr.typeAssert (.iface 163 v) 105 158 true).run Tryz.prog w=.ok (.tuple #[.agg #[.int .i64 0],.bool false]) w:=by kernel_rfl
theorem as_Recall_Ship (v:Value) (w:World):(Instr.typeAssert (.iface 163 v) 105 160 true).run Tryz.prog w=.ok (.tuple #[.agg #[.int .i64 0],.bool false]) w:=by kernel_rfl
theorem as_Recall_Recall (v:Value) (w:World):(Instr.typeAssert (.iface 163 v) 105 163 true).run Tryz.prog w=.ok (.tuple #[v,.bool true]) w:=by kernel_rfl
theorem as_Recall_Look (v:Value) (w:World):(Instr.typeAssert (.iface 163 v) 105 171 true).run Tryz.prog w=.ok (.tuple #[.agg #[.int .i64 0],.bool false]) w:=by kernel_rfl
theorem as_Recall_Supply (v:Value) (w:World):(Instr.typeAssert (.iface 163 v) 105 174 true).run Tryz.prog w=.ok (.tuple #[.agg #[.int .i64 0,.int .i64 0],.bool false]) w:=by kernel_rfl
theorem as_Release_Day (v:Value) (w:World):(Instr.typeAssert (.iface 165 v) 105 143 true).run Tryz.prog w=.ok (.tuple #[.agg #[.int .i64 0],.bool false]) w:=by kernel_rfl
theorem as_Release_Receive (v:Value) (w:World):(Instr.typeAssert (.iface 165 v) 105 146 true).run Tryz.prog w=.ok (.tuple #[.agg #[.int .i64 0,.int .i64 0,.int .i64 0,.int .i64 0],.bool false]) w:=by kernel_rfl
theorem as_Release_Split (v:Value) (w:World):(Instr.typeAssert (.iface 165 v) 105 149 true).run Tryz.prog w=.ok (.tuple #[.agg #[.int .i64 0,.int .i64 0,.int .i64 0],.bool false]) w:=by kernel_rfl
theorem as_Release_Merge (v:Value) (w:World):(Instr.typeAssert (.iface 165 v) 105 152 true).run Tryz.prog w=.ok (.tuple #[.agg #[.int .i64 0,.int .i64 0,.int .i64 0],.bool false]) w:=by kernel_rfl
theorem as_Release_Order (v:Value) (w:World):(Instr.typeAssert (.iface 165 v) 105 155 true).run Tryz.prog w=.ok (.tuple #[.agg #[.int .i64 0,.int .i64 0,.int .i64 0,.int .i64 0,.int .i64 0],.bool false]) w:=by kernel_rfl
theorem as_Release_Cancel (v:Value) (w:World):(Instr.typeAssert (.iface 165 v) 105 158 true).run Tryz.prog w=.ok (.tuple #[.agg #[.int .i64 0],.bool false]) w:=by kernel_rfl
theorem as_Release_Ship (v:Value) (w:World):(Instr.typeAssert (.iface 165 v) 105 160 true).run Tryz.prog w=.ok (.tuple #[.agg #[.int .i64 0],.bool false]) w:=by kernel_rfl
theorem as_Release_Recall (v:Value) (w:World):(Instr.typeAssert (.iface 165 v) 105 163 true).run Tryz.prog w=.ok (.tuple #[.agg #[.int .i64 0,.int .i64 0],.bool false]) w:=by kernel_rfl
theorem as_Release_Release (v:Value) (w:World):(Instr.typeAssert (.iface 165 v) 105 165 true).run Tryz.prog w=.ok (.tuple #[v,.bool true]) w:=by kernel_rfl
theorem as_Release_Look (v:Value) (w:World):(Instr.typeAssert (.iface 165 v) 105 171 true).run Tryz.prog w=.ok (.tuple #[.agg #[.int .i64 0],.bool false]) w:=by kernel_rfl
theorem as_Release_Supply (v:Value) (w:World):(Instr.typeAssert (.iface 165 v) 105 174 true).run Tryz.prog w=.ok (.tuple #[.agg #[.int .i64 0,.int .i64 0],.bool false]) w:=by kernel_rfl
theorem as_Scrap_Day (v:Value) (w:World):(Instr.typeAssert (.iface 168 v) 105 143 true).run Tryz.prog w=.ok (.tuple #[.agg #[.int .i64 0],.bool false]) w:=by kernel_rfl
theorem as_Scrap_Receive (v:Value) (w:World):(Instr.typeAssert (.iface 168 v) 105 146 true).run Tryz.prog w=.ok (.tuple #[.agg #[.int .i64 0,.int .i64 0,.int .i64 0,.int .i64 0],.bool false]) w:=by kernel_rfl
theorem as_Scrap_Split (v:Value) (w:World):(Instr.typeAssert (.iface 168 v) 105 149 true).run Tryz.prog w=.ok (.tuple #[.agg #[.int .i64 0,.int .i64 0,.int .i64 0],.bool false]) w:=by kernel_rfl
theorem as_Scrap_Merge (v:Value) (w:World):(Instr.typeAssert (.iface 168 v) 105 152 true).run Tryz.prog w=.ok (.tuple #[.agg #[.int .i64 0,.int .i64 0,.int .i64 0],.bool false]) w:=by kernel_rfl
theorem as_Scrap_Order (v:Value) (w:World):(Instr.typeAssert (.iface 168 v) 105 155 true).run Tryz.prog w=.ok (.tuple #[.agg #[.int .i64 0,.int .i64 0,.int .i64 0,.int .i64 0,.int .i64 0],.bool false]) w:=by kernel_rfl
theorem as_Scrap_Cancel (v:Value) (w:World):(Instr.typeAssert (.iface 168 v) 105 158 true).run Tryz.prog w=.ok (.tuple #[.agg #[.int .i64 0],.bool false]) w:=by kernel_rfl
theorem as_Scrap_Ship (v:Value) (w:World):(Instr.typeAssert (.iface 168 v) 105 160 true).run Tryz.prog w=.ok (.tuple #[.agg #[.int .i64 0],.bool false]) w:=by kernel_rfl
theorem as_Scrap_Recall (v:Value) (w:World):(Instr.typeAssert (.iface 168 v) 105 163 true).run Tryz.prog w=.ok (.tuple #[.agg #[.int .i64 0,.int .i64 0],.bool false]) w:=by kernel_rfl
theorem as_Scrap_Release (v:Value) (w:World):(Instr.typeAssert (.iface 168 v) 105 165 true).run Tryz.prog w=.ok (.tuple #[.agg #[.int .i64 0,.int .i64 0],.bool false]) w:=by kernel_rfl
theorem as_Scrap_Scrap (v:Value) (w:World):(Instr.typeAssert (.iface 168 v) 105 168 true).run Tryz.prog w=.ok (.tuple #[v,.bool true]) w:=by kernel_rfl
theorem as_Scrap_Look (v:Value) (w:World):(Instr.typeAssert (.iface 168 v) 105 171 true).run Tryz.prog w=.ok (.tuple #[.agg #[.int .i64 0],.bool false]) w:=by kernel_rfl
theorem as_Scrap_Supply (v:Value) (w:World):(Instr.typeAssert (.iface 168 v) 105 174 true).run Tryz.prog w=.ok (.tuple #[.agg #[.int .i64 0,.int .i64 0],.bool false]) w:=by kernel_rfl
theorem as_Look_Day (v:Value) (w:World):(Instr.typeAssert (.iface 171 v) 105 143 true).run Tryz.prog w=.ok (.tuple #[.agg #[.int .i64 0],.bool false]) w:=by kernel_rfl
theorem as_Look_Receive (v:Value) (w:World):(Instr.typeAssert (.iface 171 v) 105 146 true).run Tryz.prog w=.ok (.tuple #[.agg #[.int .i64 0,.int .i64 0,.int .i64 0,.int .i64 0],.bool false]) w:=by kernel_rfl
theorem as_Look_Split (v:Value) (w:World):(Instr.typeAssert (.iface 171 v) 105 149 true).run Tryz.prog w=.ok (.tuple #[.agg #[.int .i64 0,.int .i64 0,.int .i64 0],.bool false]) w:=by kernel_rfl
theorem as_Look_Merge (v:Value) (w:World):(Instr.typeAssert (.iface 171 v) 105 152 true).run Tryz.prog w=.ok (.tuple #[.agg #[.int .i64 0,.int .i64 0,.int .i64 0],.bool false]) w:=by kernel_rfl
theorem as_Look_Order (v:Value) (w:World):(Instr.typeAssert (.iface 171 v) 105 155 true).run Tryz.prog w=.ok (.tuple #[.agg #[.int .i64 0,.int .i64 0,.int .i64 0,.int .i64 0,.int .i64 0],.bool false]) w:=by kernel_rfl
theorem as_Look_Cancel (v:Value) (w:World):(Instr.typeAssert (.iface 171 v) 105 158 true).run Tryz.prog w=.ok (.tuple #[.agg #[.int .i64 0],.bool false]) w:=by kernel_rfl
theorem as_Look_Ship (v:Value) (w:World):(Instr.typeAssert (.iface 171 v) 105 160 true).run Tryz.prog w=.ok (.tuple #[.agg #[.int .i64 0],.bool false]) w:=by kernel_rfl
theorem as_Look_Recall (v:Value) (w:World):(Instr.typeAssert (.iface 171 v) 105 163 true).run Tryz.prog w=.ok (.tuple #[.agg #[.int .i64 0,.int .i64 0],.bool false]) w:=by kernel_rfl
theorem as_Look_Release (v:Value) (w:World):(Instr.typeAssert (.iface 171 v) 105 165 true).run Tryz.prog w=.ok (.tuple #[.agg #[.int .i64 0,.int .i64 0],.bool false]) w:=by kernel_rfl
theorem as_Look_Scrap (v:Value) (w:World):(Instr.typeAssert (.iface 171 v) 105 168 true).run Tryz.prog w=.ok (.tuple #[.agg #[.int .i64 0,.int .i64 0],.bool false]) w:=by kernel_rfl
theorem as_Look_Look (v:Value) (w:World):(Instr.typeAssert (.iface 171 v) 105 171 true).run Tryz.prog w=.ok (.tuple #[v,.bool true]) w:=by kernel_rfl
theorem as_Look_Supply (v:Value) (w:World):(Instr.typeAssert (.iface 171 v) 105 174 true).run Tryz.prog w=.ok (.tuple #[.agg #[.int .i64 0,.int .i64 0],.bool false]) w:=by kernel_rfl
theorem as_Supply_Day (v:Value) (w:World):(Instr.typeAssert (.iface 174 v) 105 143 true).run Tryz.prog w=.ok (.tuple #[.agg #[.int .i64 0],.bool false]) w:=by kernel_rfl
theorem as_Supply_Receive (v:Value) (w:World):(Instr.typeAssert (.iface 174 v) 105 146 true).run Tryz.prog w=.ok (.tuple #[.agg #[.int .i64 0,.int .i64 0,.int .i64 0,.int .i64 0],.bool false]) w:=by kernel_rfl
theorem as_Supply_Split (v:Value) (w:World):(Instr.typeAssert (.iface 174 v) 105 149 true).run Tryz.prog w=.ok (.tuple #[.agg #[.int .i64 0,.int .i64 0,.int .i64 0],.bool false]) w:=by kernel_rfl
theorem as_Supply_Merge (v:Value) (w:World):(Instr.typeAssert (.iface 174 v) 105 152 true).run Tryz.prog w=.ok (.tuple #[.agg #[.int .i64 0,.int .i64 0,.int .i64 0],.bool false]) w:=by kernel_rfl
theorem as_Supply_Order (v:Value) (w:World):(Instr.typeAssert (.iface 174 v) 105 155 true).run Tryz.prog w=.ok (.tuple #[.agg #[.int .i64 0,.int .i64 0,.int .i64 0,.int .i64 0,.int .i64 0],.bool false]) w:=by kernel_rfl
theorem as_Supply_Cancel (v:Value) (w:World):(Instr.typeAssert (.iface 174 v) 105 158 true).run Tryz.prog w=.ok (.tuple #[.agg #[.int .i64 0],.bool false]) w:=by kernel_rfl
theorem as_Supply_Ship (v:Value) (w:World):(Instr.typeAssert (.iface 174 v) 105 160 true).run Tryz.prog w=.ok (.tuple #[.agg #[.int .i64 0],.bool false]) w:=by kernel_rfl
theorem as_Supply_Recall (v:Value) (w:World):(Instr.typeAssert (.iface 174 v) 105 163 true).run Tryz.prog w=.ok (.tuple #[.agg #[.int .i64 0,.int .i64 0],.bool false]) w:=by kernel_rfl
theorem as_Supply_Release (v:Value) (w:World):(Instr.typeAssert (.iface 174 v) 105 165 true).run Tryz.prog w=.ok (.tuple #[.agg #[.int .i64 0,.int .i64 0],.bool false]) w:=by kernel_rfl
theorem as_Supply_Scrap (v:Value) (w:World):(Instr.typeAssert (.iface 174 v) 105 168 true).run Tryz.prog w=.ok (.tuple #[.agg #[.int .i64 0,.int .i64 0],.bool false]) w:=by kernel_rfl
theorem as_Supply_Look (v:Value) (w:World):(Instr.typeAssert (.iface 174 v) 105 171 true).run Tryz.prog w=.ok (.tuple #[.agg #[.int .i64 0],.bool false]) w:=by kernel_rfl
theorem as_Supply_Supply (v:Value) (w:World):(Instr.typeAssert (.iface 174 v) 105 174 true).run Tryz.prog w=.ok (.tuple #[v,.bool true]) w:=by kernel_rfl
end Go.Proofs.YtgcedalggnmooaaGreatDoor
namespace Go.Proofs.YtgcedalggnmooaaGreatDoor
open Go.RowKit
theorem meth_Day (v : Value) (w : World) : (method 459 143 v "InRange").run Tryz.prog w = .ok (279, v) w := by kernel_rfl
theorem meth_Receive (v : Value) (w : World) : (method 459 146 v "InRange").run Tryz.prog w = .ok (281, v) w := by kernel_rfl
theorem meth_Split (v : Value) (w : World) : (method 459 149 v "InRange").run Tryz.prog w = .ok (284, v) w := by kernel_rfl
theorem meth_Merge (v : Value) (w : World) : (method 459 152 v "InRange").run Tryz.prog w = .ok (285, v) w := by kernel_rfl
theorem meth_Order (v : Value) (w : World) : (method 459 155 v "InRange").run Tryz.prog w = .ok (286, v) w := by kernel_rfl
theorem meth_Cancel (v : Value) (w : World) : (method 459 158 v "InRange").run Tryz.prog w = .ok (287, v) w := by kernel_rfl
theorem meth_Ship (v : Value) (w : World) : (method 459 160 v "InRange").run Tryz.prog w = .ok (288, v) w := by kernel_rfl
theorem meth_Recall (v : Value) (w : World) : (method 459 163 v "InRange").run Tryz.prog w = .ok (289, v) w := by kernel_rfl
theorem meth_Release (v : Value) (w : World) : (method 459 165 v "InRange").run Tryz.prog w = .ok (290, v) w := by kernel_rfl
theorem meth_Scrap (v : Value) (w : World) : (method 459 168 v "InRange").run Tryz.prog w = .ok (291, v) w := by kernel_rfl
theorem meth_Look (v : Value) (w : World) : (method 459 171 v "InRange").run Tryz.prog w = .ok (292, v) w := by kernel_rfl
theorem meth_Supply (v : Value) (w : World) : (method 459 174 v "InRange").run Tryz.prog w = .ok (293, v) w := by kernel_rfl
end Go.Proofs.YtgcedalggnmooaaGreatDoor
