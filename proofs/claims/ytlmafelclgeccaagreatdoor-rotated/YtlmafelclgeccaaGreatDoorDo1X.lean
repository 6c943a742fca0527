import Derived.Test.YtlmafelclgeccaaGreatDoorSt8
import Derived.Test.YtlmafelclgeccaaGreatDoorAsrt
import Derived.Test.YtlmafelclgeccaaGreatDoorRepX
import Derived.Test.YtlmafelclgeccaaGreatDoorWireAX
import Derived.Test.YtlmafelclgeccaaGreatDoorRefAX
import Derived.KernelRfl
namespace Go.Proofs.YtlmafelclgeccaaGreatDoor
set_option linter.unusedSimpArgs false
set_option linter.unusedVariables false
open Go.RowKit
set_option maxRecDepth 100000

theorem zn_alloc {Z : Nat → Prop} (w : World) (o : Obj) : ∀ k, Zn Z (w.alloc o) k → Zn Z w k := fun k h => h.elim Or.inl (fun h => Or.inr (by simp at h; omega))

set_option maxHeartbeats 800000 in
theorem do_day {rcs : List (Nat × Nat)} {Z : Nat → Prop} {w : World} {S td : Nat} {ls : List L} {os : List O} (h : PI os rcs Z w S td ls) (d : Nat) (hd : d ≤ 2147483647) :
    Calls Tryz.prog 56 #[.pointer (some ⟨S, 0, none⟩), .iface 133 (.agg #[.int .i64 (d : Int)])] w fun e w' => Kp Z w w' ∧
      ((d < td ∧ e = .returned (.tuple #[.slice none 0 0, .int .i64 3]) ∧ PI os rcs (Zn Z w) w' S td ls) ∨ (td ≤ d ∧ e = .returned (.tuple #[.slice none 0 0, .int .i64 0]) ∧ PI os rcs (Zn Z w) w' S d ls)) := by
  have ha := al1 w (Obj.cells #[.int .i64 (d : Int)] 133)
  obtain ⟨M, v, bs, pvs, hP, hin⟩ := h
  have HD := hide (day_any (Z := Z) ⟨M, v, bs, pvs, hP.below ha, hin⟩ d hd)
  clear hP
  have t100 := as_Day_Day
  go_enter Tryz.func56, Tryz.ntmps56
  go_wp2_with fail
  refine (HD.out).mono ?_
  rintro e w1 ⟨hk, ⟨hlt, rfl, hpi⟩ | ⟨hge, rfl, hpi⟩⟩
  all_goals
    go_wp2_with fail
    go_ret2
  · exact ⟨Kp.before ha (hk.mono (fun k h => Or.inl h)), Or.inl ⟨hlt, rfl, hpi.mono (zn_alloc w _)⟩⟩
  · exact ⟨Kp.before ha (hk.mono (fun k h => Or.inl h)), Or.inr ⟨hge, rfl, hpi.mono (zn_alloc w _)⟩⟩

set_option maxHeartbeats 800000 in
theorem do_receive {rcs : List (Nat × Nat)} {Z : Nat → Prop} {w : World} {S td : Nat} {ls : List L} {os : List O} (h : PI os rcs Z w S td ls) (lot goods count expiry : Nat) (h1 : lot ≤ 2147483647) (h2 : goods ≤ 2147483647) (h3 : count ≤ 2147483647) (h4 : expiry ≤ 2147483647) :
    Calls Tryz.prog 56 #[.pointer (some ⟨S, 0, none⟩), .iface 136 (.agg #[.int .i64 (lot : Int), .int .i64 (goods : Int), .int .i64 (count : Int), .int .i64 (expiry : Int)])] w fun e w' => Kp Z w w' ∧ e = .returned (.tuple #[.slice none 0 0, .int .i64 (roomC ls lot : Int)]) ∧
      PI os rcs (Zn Z w) w' S td (if roomC ls lot = 0 then ls ++ [{ id := lot, goods := goods, expiry := expiry, place := ls.length + 1, got := count, free := count, held := 0, shipped := 0, scrapped := 0, given := 0 }] else ls) := by
  have ha := al1 w (Obj.cells #[.int .i64 (lot : Int), .int .i64 (goods : Int), .int .i64 (count : Int), .int .i64 (expiry : Int)] 136)
  obtain ⟨M, v, bs, pvs, hP, hin⟩ := h
  have HD := hide (receive_any (Z := Z) ⟨M, v, bs, pvs, hP.below ha, hin⟩ lot goods count expiry h1 h2 h3 h4)
  generalize (if roomC ls lot = 0 then ls ++ [{ id := lot, goods := goods, expiry := expiry, place := ls.length + 1, got := count, free := count, held := 0, shipped := 0, scrapped := 0, given := 0 }] else ls) = ls' at HD ⊢
  clear hP
  have t100 := as_Receive_Day
  have t103 := as_Receive_Receive
  go_enter Tryz.func56, Tryz.ntmps56
  go_wp2_with fail
  refine (HD.out).mono ?_
  rintro e w1 ⟨hk, rfl, hpi⟩
  go_wp2_with fail
  go_ret2
  exact ⟨Kp.before ha (hk.mono (fun k h => Or.inl h)), rfl, hpi.mono (zn_alloc w _)⟩

set_option maxHeartbeats 800000 in
theorem do_look {rcs : List (Nat × Nat)} {w : World} {S : Nat} {M : Mx} {v : Value} {td : Nat} {bs : List Nat} {pvs : List Value} {ls : List L} {os : List O} (h : PV os rcs w S M v td bs pvs ls) (n : Nat) (hn : n ≤ 2147483647) :
    Calls Tryz.prog 56 #[.pointer (some ⟨S, 0, none⟩), .iface 161 (.agg #[.int .i64 (n : Int)])] w fun e w' => Below w.heap.size w w' ∧
      ((idx n ls < ls.length ∧ ∃ g, e = .returned (.tuple #[.slice (some ⟨g, 0, none⟩) 10 10, .int .i64 0]) ∧ w'.heap[g]? = some (.cells (I (lookL (recB rcs ls) (ls.getD (idx n ls) L0))).toArray 2 (0, 0))) ∨ (¬ idx n ls < ls.length ∧ e = .returned (.tuple #[.slice none 0 0, .int .i64 4]))) := by
  have ha := al1 w (Obj.cells #[.int .i64 (n : Int)] 161)
  have hP := h.below ha
  clear h
  by_cases hi : idx n ls < ls.length
  · have HD := hide (look_hit hP n hn hi)
    clear hP
    have t100 := as_Look_Day
    have t103 := as_Look_Receive
    have t106 := as_Look_Split
    have t109 := as_Look_Merge
    have t_Order := as_Look_Order
    have t_Cancel := as_Look_Cancel
    have t_Ship := as_Look_Ship
    have t_Recall := as_Look_Recall
    have t_Release := as_Look_Release
    have t112 := as_Look_Scrap
    have t115 := as_Look_Look
    go_enter Tryz.func56, Tryz.ntmps56
    go_wp2_with fail
    refine (HD.out).mono ?_
    rintro e w1 ⟨hb, g, rfl, hg⟩
    go_wp2_with fail
    go_ret2
    exact ⟨ha.trans (hb.mono ha.size), Or.inl ⟨hi, g, rfl, hg⟩⟩
  · have HD := hide (look_miss hP n hn hi)
    clear hP
    have t100 := as_Look_Day
    have t103 := as_Look_Receive
    have t106 := as_Look_Split
    have t109 := as_Look_Merge
    have t_Order := as_Look_Order
    have t_Cancel := as_Look_Cancel
    have t_Ship := as_Look_Ship
    have t_Recall := as_Look_Recall
    have t_Release := as_Look_Release
    have t112 := as_Look_Scrap
    have t115 := as_Look_Look
    go_enter Tryz.func56, Tryz.ntmps56
    go_wp2_with fail
    refine (HD.out).mono ?_
    rintro e w1 ⟨hb, rfl⟩
    go_wp2_with fail
    go_ret2
    exact ⟨ha.trans (hb.mono ha.size), Or.inr ⟨hi, rfl⟩⟩

set_option maxHeartbeats 800000 in
theorem do_supply {rcs : List (Nat × Nat)} {w : World} {S : Nat} {M : Mx} {v : Value} {td : Nat} {bs : List Nat} {pvs : List Value} {ls : List L} {os : List O} (h : PV os rcs w S M v td bs pvs ls) (goods gate : Nat) (h1 : goods ≤ 2147483647) (h2 : gate ≤ 2147483647) :
    Calls Tryz.prog 56 #[.pointer (some ⟨S, 0, none⟩), .iface 164 (.agg #[.int .i64 (goods : Int), .int .i64 (gate : Int)])] w fun e w' => Below w.heap.size w w' ∧ ∃ g, e = .returned (.tuple #[.slice (some ⟨g, 0, none⟩) 2 2, .int .i64 0]) ∧ w'.heap[g]? = some (.cells (I (supL rcs td goods gate ls)).toArray 2 (0, 0)) := by
  have ha := al1 w (Obj.cells #[.int .i64 (goods : Int), .int .i64 (gate : Int)] 164)
  have hP := h.below ha
  clear h
  have HD := hide (supply_any hP goods gate h1 h2)
  clear hP
  have t100 := as_Supply_Day
  have t103 := as_Supply_Receive
  have t106 := as_Supply_Split
  have t109 := as_Supply_Merge
  have t_Order := as_Supply_Order
  have t_Cancel := as_Supply_Cancel
  have t_Ship := as_Supply_Ship
  have t_Recall := as_Supply_Recall
  have t_Release := as_Supply_Release
  have t112 := as_Supply_Scrap
  have t115 := as_Supply_Look
  have t118 := as_Supply_Supply
  go_enter Tryz.func56, Tryz.ntmps56
  go_wp2_with fail
  refine (HD.out).mono ?_
  rintro e w1 ⟨hb, g, rfl, hg⟩
  go_wp2_with fail
  go_ret2
  exact ⟨ha.trans (hb.mono ha.size), g, rfl, hg⟩

end Go.Proofs.YtlmafelclgeccaaGreatDoor

namespace Go.Proofs.YtlmafelclgeccaaGreatDoor
set_option linter.unusedSimpArgs false
set_option linter.unusedVariables false
open Go.RowKit
set_option maxRecDepth 100000

theorem meth_Day (v : Value) (w : World) : (method 389 133 v "InRange").run Tryz.prog w = .ok (190, v) w := by kernel_rfl
theorem meth_Receive (v : Value) (w : World) : (method 389 136 v "InRange").run Tryz.prog w = .ok (192, v) w := by kernel_rfl
theorem meth_Split (v : Value) (w : World) : (method 389 139 v "InRange").run Tryz.prog w = .ok (195, v) w := by kernel_rfl
theorem meth_Merge (v : Value) (w : World) : (method 389 142 v "InRange").run Tryz.prog w = .ok (196, v) w := by kernel_rfl
theorem meth_Order (v : Value) (w : World) : (method 389 145 v "InRange").run Tryz.prog w = .ok (197, v) w := by kernel_rfl
theorem meth_Cancel (v : Value) (w : World) : (method 389 148 v "InRange").run Tryz.prog w = .ok (198, v) w := by kernel_rfl
theorem meth_Ship (v : Value) (w : World) : (method 389 150 v "InRange").run Tryz.prog w = .ok (199, v) w := by kernel_rfl
theorem meth_Recall (v : Value) (w : World) : (method 389 153 v "InRange").run Tryz.prog w = .ok (200, v) w := by kernel_rfl
theorem meth_Release (v : Value) (w : World) : (method 389 155 v "InRange").run Tryz.prog w = .ok (201, v) w := by kernel_rfl
theorem meth_Scrap (v : Value) (w : World) : (method 389 158 v "InRange").run Tryz.prog w = .ok (202, v) w := by kernel_rfl
theorem meth_Look (v : Value) (w : World) : (method 389 161 v "InRange").run Tryz.prog w = .ok (203, v) w := by kernel_rfl
theorem meth_Supply (v : Value) (w : World) : (method 389 164 v "InRange").run Tryz.prog w = .ok (204, v) w := by kernel_rfl

end Go.Proofs.YtlmafelclgeccaaGreatDoor
