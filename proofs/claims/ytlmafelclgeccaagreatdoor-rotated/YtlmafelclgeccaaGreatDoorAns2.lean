import Derived.Test.YtlmafelclgeccaaGreatDoorAns1
namespace Go.Proofs.YtlmafelclgeccaaGreatDoor
set_option linter.unusedSimpArgs false
set_option linter.unusedVariables false
open Go.RowKit
set_option maxRecDepth 100000

set_option maxHeartbeats 800000 in
theorem ans_Day {rcs : List (Nat × Nat)} {Z : Nat → Prop} {w : World} {Lb td : Nat} {ls : List L} {os : List O} (h : PL os rcs Z w Lb td ls) (hg : Gl w) (s : ByteArray) (hs : s.size ≤ 2097152) (a : Nat) (ha : a < 9223372036854775808) (hform : formOf s.data.toList = some (1, [a])) (hm : Pl.mays (Pl.kindsL 1) [a] = true) :
    Calls Tryz.prog 43 #[.pointer (some ⟨Lb, 0, none⟩), .string s] w fun e w' => Kp Z w w' ∧ ((a < td ∧ e = .returned (.string ⟨[3].toArray⟩) ∧ PL os rcs (Zn Z w) w' Lb td ls) ∨ (td ≤ a ∧ e = .returned (.string ⟨[0].toArray⟩) ∧ PL os rcs (Zn Z w) w' Lb a ls)) := by
  have HR : Hid (Calls Tryz.prog 54 #[.string s] w fun e w' => e = .returned (.tuple #[.iface 133 (.agg #[.int .i64 (a : Int)]), .bool true]) ∧ Below w.heap.size w w') :=
    (read_any s hs w hg).mono fun e w' ⟨h1, h2⟩ => by rw [hform] at h2; exact ⟨h2, h1⟩
  have HI := hide (inRange_Day a ha)
  rw [hm] at HI
  have hmt := meth_Day
  have a1 := as_Day_Order
  have a2 := as_Day_Cancel
  have a3 := as_Day_Ship
  have a4 := as_Day_Recall
  have a5 := as_Day_Release
  have HM := hide hm
  clear hm hform
  go_enter Tryz.func43, Tryz.ntmps43
  go_wp2_with (go_at_call 54; refine (HR.out).mono ?_; rintro e w1 ⟨rfl, hb1⟩)
  refine (HI.out _).mono ?_
  rintro e w2 ⟨rfl, hb2⟩
  obtain ⟨S, Zs, hL, hZ, hnz, hsub, hpi⟩ := h
  have hb12 := hb1.trans (hb2.mono hb1.size)
  have hL2 := (hb12.block Lb (blk_lt hL)).trans hL
  have hc2 : w2.cell? ⟨Lb, 0, none⟩ = some (.pointer (some ⟨S, 0, none⟩)) := by rw [blk_cell hL2]; rfl
  have HD := hide (do_day (hpi.below hb12) a (by have := HM.out; simp [Pl.mays, Pl.kindsL, Pl.mayB] at this; omega))
  go_wp2_with fail
  refine (HD.out).mono ?_
  rintro e w3 ⟨hk, ⟨hlt, rfl, hq⟩ | ⟨hlt, rfl, hq⟩⟩
  · go_wp2_with fail
    refine (reply_nil 3 (by omega) _).mono ?_
    rintro e w4 ⟨rfl, hb4⟩
    go_wp2_with fail
    go_ret
    have := PL.step hL hZ hnz hsub hb12 hk hq hb4
    exact ⟨this.1, Or.inl ⟨hlt, rfl, this.2⟩⟩
  · go_wp2_with fail
    refine (reply_nil 0 (by omega) _).mono ?_
    rintro e w4 ⟨rfl, hb4⟩
    go_wp2_with fail
    go_ret
    have := PL.step hL hZ hnz hsub hb12 hk hq hb4
    exact ⟨this.1, Or.inr ⟨hlt, rfl, this.2⟩⟩

def newL (ls : List L) (id goods count expiry : Nat) : L := { id := id, goods := goods, expiry := expiry, place := ls.length + 1, got := count, free := count, held := 0, shipped := 0, scrapped := 0, given := 0 }

set_option maxHeartbeats 800000 in
theorem ans_Receive {rcs : List (Nat × Nat)} {Z : Nat → Prop} {w : World} {Lb td : Nat} {ls : List L} {os : List O} (h : PL os rcs Z w Lb td ls) (hg : Gl w) (s : ByteArray) (hs : s.size ≤ 2097152) (a b c d : Nat) (ha : a < 9223372036854775808) (hb : b < 9223372036854775808) (hc : c < 9223372036854775808) (hd : d < 9223372036854775808) (hform : formOf s.data.toList = some (2, [a, b, c, d])) (hm : Pl.mays (Pl.kindsL 2) [a, b, c, d] = true) :
    Calls Tryz.prog 43 #[.pointer (some ⟨Lb, 0, none⟩), .string s] w fun e w' => Kp Z w w' ∧ e = .returned (.string ⟨[UInt8.ofNat (roomC ls a)].toArray⟩) ∧ PL os rcs (Zn Z w) w' Lb td (if roomC ls a = 0 then ls ++ [newL ls a b c d] else ls) := by
  have hrc : roomC ls a ≤ 6 := by unfold roomC; split <;> (try split) <;> omega
  generalize hgl : (if roomC ls a = 0 then ls ++ [newL ls a b c d] else ls) = ls'
  generalize hgr : roomC ls a = rc
  have HGL := hide hgl
  have HGR := hide hgr
  clear hgl hgr
  have HR : Hid (Calls Tryz.prog 54 #[.string s] w fun e w' => e = .returned (.tuple #[.iface 136 (.agg #[.int .i64 (a : Int), .int .i64 (b : Int), .int .i64 (c : Int), .int .i64 (d : Int)]), .bool true]) ∧ Below w.heap.size w w') :=
    (read_any s hs w hg).mono fun e w' ⟨h1, h2⟩ => by rw [hform] at h2; exact ⟨h2, h1⟩
  have HI := hide (inRange_Receive a b c d ha hb hc hd)
  rw [hm] at HI
  have hmt := meth_Receive
  have a1 := as_Receive_Order
  have a2 := as_Receive_Cancel
  have a3 := as_Receive_Ship
  have a4 := as_Receive_Recall
  have a5 := as_Receive_Release
  have HM := hide hm
  clear hm hform
  go_enter Tryz.func43, Tryz.ntmps43
  go_wp2_with (go_at_call 54; refine (HR.out).mono ?_; rintro e w1 ⟨rfl, hb1⟩)
  refine (HI.out _).mono ?_
  rintro e w2 ⟨rfl, hb2⟩
  obtain ⟨S, Zs, hL, hZ, hnz, hsub, hpi⟩ := h
  have hb12 := hb1.trans (hb2.mono hb1.size)
  have hL2 := (hb12.block Lb (blk_lt hL)).trans hL
  have hc2 : w2.cell? ⟨Lb, 0, none⟩ = some (.pointer (some ⟨S, 0, none⟩)) := by rw [blk_cell hL2]; rfl
  have hbd : a ≤ 2147483647 ∧ b ≤ 2147483647 ∧ c ≤ 2147483647 ∧ d ≤ 2147483647 := by have := HM.out; simp [Pl.mays, Pl.kindsL, Pl.mayB] at this; omega
  have HD := hide (do_receive (hpi.below hb12) a b c d hbd.1 hbd.2.1 hbd.2.2.1 hbd.2.2.2)
  have e1 : (if roomC ls a = 0 then ls ++ [{ id := a, goods := b, expiry := d, place := ls.length + 1, got := c, free := c, held := 0, shipped := 0, scrapped := 0, given := 0 }] else ls) = ls' := HGL.out
  rw [e1, HGR.out] at HD
  rw [HGR.out] at hrc
  clear e1 HGL HGR
  go_wp2_with fail
  refine (HD.out).mono ?_
  rintro e w3 ⟨hk, rfl, hq⟩
  go_wp2_with fail
  refine (reply_nil rc (by omega) _).mono ?_
  rintro e w4 ⟨rfl, hb4⟩
  go_wp2_with fail
  go_ret
  have := PL.step hL hZ hnz hsub hb12 hk hq hb4
  exact ⟨this.1, rfl, this.2⟩

set_option maxHeartbeats 800000 in
theorem look_hit' {rcs : List (Nat × Nat)} {Z : Nat → Prop} {w : World} {Lb td : Nat} {ls : List L} {os : List O} (h : PL os rcs Z w Lb td ls) (hg : Gl w) (s : ByteArray) (hs : s.size ≤ 2097152) (a : Nat) (ha : a < 9223372036854775808) (hform : formOf s.data.toList = some (11, [a])) (hm : Pl.mays (Pl.kindsL 11) [a] = true) (hi : idx a ls < ls.length) :
    Calls Tryz.prog 43 #[.pointer (some ⟨Lb, 0, none⟩), .string s] w fun e w' => Below w.heap.size w w' ∧ e = .returned (.string ⟨(0 :: Pl.toldB (lookL (recB rcs ls) (ls.getD (idx a ls) L0))).toArray⟩) := by
  generalize hgl : ls.getD (idx a ls) L0 = l
  have HGL := hide hgl
  clear hgl
  have HR : Hid (Calls Tryz.prog 54 #[.string s] w fun e w' => e = .returned (.tuple #[.iface 161 (.agg #[.int .i64 (a : Int)]), .bool true]) ∧ Below w.heap.size w w') :=
    (read_any s hs w hg).mono fun e w' ⟨h1, h2⟩ => by rw [hform] at h2; exact ⟨h2, h1⟩
  have HI := hide (inRange_Look a ha)
  rw [hm] at HI
  have hmt := meth_Look
  have a1 := as_Look_Order
  have a2 := as_Look_Cancel
  have a3 := as_Look_Ship
  have a4 := as_Look_Recall
  have a5 := as_Look_Release
  have HM := hide hm
  clear hm hform
  go_enter Tryz.func43, Tryz.ntmps43
  go_wp2_with (go_at_call 54; refine (HR.out).mono ?_; rintro e w1 ⟨rfl, hb1⟩)
  refine (HI.out _).mono ?_
  rintro e w2 ⟨rfl, hb2⟩
  obtain ⟨S, Zs, hL, hZ, hnz, hsub, hpi⟩ := h
  have hb12 := hb1.trans (hb2.mono hb1.size)
  have hL2 := (hb12.block Lb (blk_lt hL)).trans hL
  have hc2 : w2.cell? ⟨Lb, 0, none⟩ = some (.pointer (some ⟨S, 0, none⟩)) := by rw [blk_cell hL2]; rfl
  obtain ⟨M, v, bs, pvs, hP, hin⟩ := hpi
  have hP2 := hP.below hb12
  have hok := hP2.ok
  have hpl := hP2.room
  have HD0 := (do_look hP2 a (by have := HM.out; simp [Pl.mays, Pl.kindsL, Pl.mayB] at this; omega))
  have HD : Hid (Calls Tryz.prog 56 #[.pointer (some ⟨S, 0, none⟩), .iface 161 (.agg #[.int .i64 (a : Int)])] w2 fun e w' => Below w2.heap.size w2 w' ∧ ∃ g, e = .returned (.tuple #[.slice (some ⟨g, 0, none⟩) 10 10, .int .i64 0]) ∧ w'.heap[g]? = some (.cells (I (lookL (recB rcs ls) l)).toArray 2 (0, 0))) :=
    HD0.mono fun e w' ⟨q1, q2⟩ => ⟨q1, by
      rcases q2 with ⟨_, q3⟩ | ⟨q3, _⟩
      · rw [HGL.out] at q3; exact q3
      · exact absurd hi q3⟩
  have hl := hok _ (mem_getD hi)
  rw [HGL.out] at hl
  clear hP hP2 hin HD0 hok HGL hi
  go_wp2_with fail
  refine (HD.out).mono ?_
  rintro e w3 ⟨hb3, g, rfl, hgc⟩
  have HR2 := hide (reply_some g 10 (lookL (recB rcs ls) l) (by
    obtain ⟨q1, q2, q3, q4, q5, q6, _⟩ := hl
    simp only [lookL, List.mem_cons, List.not_mem_nil, or_false]
    rintro n (rfl | rfl | rfl | rfl | rfl | rfl | rfl | rfl | rfl | rfl) <;> (try split) <;> omega) (by simp [lookL]) (by simp [lookL]) w3 (blk_lt hgc) (fun j hj => by
      rw [blk_cell hgc]
      simp [I, List.getD_eq_getElem?_getD, hj]))
  go_wp2_with fail
  refine (HR2.out).mono ?_
  rintro e w4 ⟨rfl, hb4⟩
  go_wp2_with fail
  go_ret
  have hb123 := hb12.trans (hb3.mono hb12.size)
  exact ⟨hb123.trans (hb4.mono hb123.size), rfl⟩
set_option maxHeartbeats 800000 in
theorem look_miss' {rcs : List (Nat × Nat)} {Z : Nat → Prop} {w : World} {Lb td : Nat} {ls : List L} {os : List O} (h : PL os rcs Z w Lb td ls) (hg : Gl w) (s : ByteArray) (hs : s.size ≤ 2097152) (a : Nat) (ha : a < 9223372036854775808) (hform : formOf s.data.toList = some (11, [a])) (hm : Pl.mays (Pl.kindsL 11) [a] = true) (hi : ¬ idx a ls < ls.length) :
    Calls Tryz.prog 43 #[.pointer (some ⟨Lb, 0, none⟩), .string s] w fun e w' => Below w.heap.size w w' ∧ e = .returned (.string ⟨[4].toArray⟩) := by
  have HR : Hid (Calls Tryz.prog 54 #[.string s] w fun e w' => e = .returned (.tuple #[.iface 161 (.agg #[.int .i64 (a : Int)]), .bool true]) ∧ Below w.heap.size w w') :=
    (read_any s hs w hg).mono fun e w' ⟨h1, h2⟩ => by rw [hform] at h2; exact ⟨h2, h1⟩
  have HI := hide (inRange_Look a ha)
  rw [hm] at HI
  have hmt := meth_Look
  have a1 := as_Look_Order
  have a2 := as_Look_Cancel
  have a3 := as_Look_Ship
  have a4 := as_Look_Recall
  have a5 := as_Look_Release
  have HM := hide hm
  clear hm hform
  go_enter Tryz.func43, Tryz.ntmps43
  go_wp2_with (go_at_call 54; refine (HR.out).mono ?_; rintro e w1 ⟨rfl, hb1⟩)
  refine (HI.out _).mono ?_
  rintro e w2 ⟨rfl, hb2⟩
  obtain ⟨S, Zs, hL, hZ, hnz, hsub, hpi⟩ := h
  have hb12 := hb1.trans (hb2.mono hb1.size)
  have hL2 := (hb12.block Lb (blk_lt hL)).trans hL
  have hc2 : w2.cell? ⟨Lb, 0, none⟩ = some (.pointer (some ⟨S, 0, none⟩)) := by rw [blk_cell hL2]; rfl
  obtain ⟨M, v, bs, pvs, hP, hin⟩ := hpi
  have hP2 := hP.below hb12
  have hok := hP2.ok
  have hpl := hP2.room
  have HD0 := (do_look hP2 a (by have := HM.out; simp [Pl.mays, Pl.kindsL, Pl.mayB] at this; omega))
  have HD : Hid (Calls Tryz.prog 56 #[.pointer (some ⟨S, 0, none⟩), .iface 161 (.agg #[.int .i64 (a : Int)])] w2 fun e w' => Below w2.heap.size w2 w' ∧ e = .returned (.tuple #[.slice none 0 0, .int .i64 4])) :=
    HD0.mono fun e w' ⟨q1, q2⟩ => ⟨q1, by
      rcases q2 with ⟨q3, _⟩ | ⟨_, q3⟩
      · exact absurd q3 hi
      · exact q3⟩
  clear hP hP2 hin HD0 hok hi
  go_wp2_with fail
  refine (HD.out).mono ?_
  rintro e w3 ⟨hb3, rfl⟩
  go_wp2_with fail
  refine (reply_nil 4 (by omega) _).mono ?_
  rintro e w4 ⟨rfl, hb4⟩
  go_wp2_with fail
  go_ret
  have hb123 := hb12.trans (hb3.mono hb12.size)
  exact ⟨hb123.trans (hb4.mono hb123.size), rfl⟩

set_option maxHeartbeats 800000 in
theorem ans_Supply {rcs : List (Nat × Nat)} {Z : Nat → Prop} {w : World} {Lb td : Nat} {ls : List L} {os : List O} (h : PL os rcs Z w Lb td ls) (hg : Gl w) (s : ByteArray) (hs : s.size ≤ 2097152) (a b : Nat) (ha : a < 9223372036854775808) (hb : b < 9223372036854775808) (hform : formOf s.data.toList = some (12, [a, b])) (hm : Pl.mays (Pl.kindsL 12) [a, b] = true) :
    Calls Tryz.prog 43 #[.pointer (some ⟨Lb, 0, none⟩), .string s] w fun e w' => Below w.heap.size w w' ∧ e = .returned (.string ⟨(0 :: Pl.toldB (supL rcs td a b ls)).toArray⟩) := by
  have HR : Hid (Calls Tryz.prog 54 #[.string s] w fun e w' => e = .returned (.tuple #[.iface 164 (.agg #[.int .i64 (a : Int), .int .i64 (b : Int)]), .bool true]) ∧ Below w.heap.size w w') :=
    (read_any s hs w hg).mono fun e w' ⟨h1, h2⟩ => by rw [hform] at h2; exact ⟨h2, h1⟩
  have HI := hide (inRange_Supply a b ha hb)
  rw [hm] at HI
  have hmt := meth_Supply
  have a1 := as_Supply_Order
  have a2 := as_Supply_Cancel
  have a3 := as_Supply_Ship
  have a4 := as_Supply_Recall
  have a5 := as_Supply_Release
  have HM := hide hm
  clear hm hform
  go_enter Tryz.func43, Tryz.ntmps43
  go_wp2_with (go_at_call 54; refine (HR.out).mono ?_; rintro e w1 ⟨rfl, hb1⟩)
  refine (HI.out _).mono ?_
  rintro e w2 ⟨rfl, hb2⟩
  obtain ⟨S, Zs, hL, hZ, hnz, hsub, hpi⟩ := h
  have hb12 := hb1.trans (hb2.mono hb1.size)
  have hL2 := (hb12.block Lb (blk_lt hL)).trans hL
  have hc2 : w2.cell? ⟨Lb, 0, none⟩ = some (.pointer (some ⟨S, 0, none⟩)) := by rw [blk_cell hL2]; rfl
  obtain ⟨M, v, bs, pvs, hP, hin⟩ := hpi
  have hP2 := hP.below hb12
  have hok := hP2.ok
  have hpl := hP2.room
  have hbd : a ≤ 2147483647 ∧ b ≤ 2147483647 := by have := HM.out; simp [Pl.mays, Pl.kindsL, Pl.mayB] at this; omega
  have HD := hide (do_supply hP2 a b hbd.1 hbd.2)
  clear hP hP2 hin
  go_wp2_with fail
  refine (HD.out).mono ?_
  rintro e w3 ⟨hb3, g, rfl, hgc⟩
  have HR2 := hide (reply_some g 2 (supL rcs td a b ls) (by
    have h1 := srvI_len (rcs := rcs) td a b ls ls.length
    have h2 := freeOf_le ls hok (srvI rcs td a b ls ls.length) (fun i hi => srvI_lt hi)
    simp only [supL, List.mem_cons, List.not_mem_nil, or_false]
    rintro n (rfl | rfl)
    · omega
    · have : 2147483647 * (srvI rcs td a b ls ls.length).length ≤ 2147483647 * 30 := Nat.mul_le_mul_left _ (by omega)
      omega) (by simp [supL]) (by simp [supL]) w3 (blk_lt hgc) (fun j hj => by
        rw [blk_cell hgc]
        simp [I, List.getD_eq_getElem?_getD, hj]))
  clear hok
  go_wp2_with fail
  refine (HR2.out).mono ?_
  rintro e w4 ⟨rfl, hb4⟩
  go_wp2_with fail
  go_ret
  have hb123 := hb12.trans (hb3.mono hb12.size)
  exact ⟨hb123.trans (hb4.mono hb123.size), rfl⟩

end Go.Proofs.YtlmafelclgeccaaGreatDoor
