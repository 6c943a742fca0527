import Derived.Test.YtlmafelclgeccaaGreatDoorSt13
import Derived.Test.YtlmafelclgeccaaGreatDoorSt14
import Derived.Test.YtlmafelclgeccaaGreatDoorAns2
namespace Go.Proofs.YtlmafelclgeccaaGreatDoor
set_option linter.unusedSimpArgs false
set_option linter.unusedVariables false
open Go.RowKit
set_option maxRecDepth 100000

theorem merge_any {rcs : List (Nat × Nat)} {Z : Nat → Prop} {w : World} {S td : Nat} {ls : List L} {os : List O} (h : PI os rcs Z w S td ls) (a b m : Nat) (h1 : a ≤ 2147483647) (h2 : b ≤ 2147483647) (h3 : m ≤ 2147483647) :
    Calls Tryz.prog 88 #[.pointer (some ⟨S, 0, none⟩), .agg #[.int .i64 (a : Int), .int .i64 (b : Int), .int .i64 (m : Int)]] w fun e w' => Kp Z w w' ∧ e = .returned (.int .i64 (mergeC ls a b m : Int)) ∧ PI os rcs (Zn Z w) w' S td (mergeS ls a b m) := by
  obtain ⟨M, v, bs, pvs, hP, hin⟩ := h
  have fin : ∀ rc : Nat, 0 < rc → mergeC ls a b m = rc → (Calls Tryz.prog 88 #[.pointer (some ⟨S, 0, none⟩), .agg #[.int .i64 (a : Int), .int .i64 (b : Int), .int .i64 (m : Int)]] w fun e w' => e = .returned (.int .i64 (rc : Int)) ∧ Below w.heap.size w w') →
      Calls Tryz.prog 88 #[.pointer (some ⟨S, 0, none⟩), .agg #[.int .i64 (a : Int), .int .i64 (b : Int), .int .i64 (m : Int)]] w fun e w' => Kp Z w w' ∧ e = .returned (.int .i64 (mergeC ls a b m : Int)) ∧ PI os rcs (Zn Z w) w' S td (mergeS ls a b m) := by
    intro rc hrc hm hw
    have hS : mergeS ls a b m = ls := if_neg (by omega)
    rw [hm, hS]
    exact hw.mono fun e w' ⟨he, hb⟩ => ⟨kpB hb, he, M, v, bs, pvs, hP.below hb, hin.mono (fun k hk => Or.inl hk)⟩
  by_cases hx : idx a ls < ls.length ∧ idx b ls < ls.length
  · by_cases hy : idx a ls = idx b ls ∨ (lotAt ls a).goods ≠ (lotAt ls b).goods
    · exact fin 8 (by omega) (by unfold mergeC; rw [if_pos hx, if_pos hy]) (merge_goods hP a b m h1 h2 h3 hx.1 hx.2 hy)
    · have he : idx a ls ≠ idx b ls := fun h => hy (Or.inl h)
      have hg : (lotAt ls a).goods = (lotAt ls b).goods := Classical.byContradiction fun h => hy (Or.inr h)
      by_cases hr : roomC ls m = 0
      · by_cases hz : (lotAt ls a).free + (lotAt ls b).free = 0
        · exact fin 7 (by omega) (by unfold mergeC; rw [if_pos hx, if_neg hy, if_pos hr, if_pos hz]) (merge_late hP a b m h1 h2 h3 hx.1 hx.2 he hg 7 (by omega) (Or.inr (Or.inl ⟨hr, hz, rfl⟩)))
        · by_cases hz2 : 2147483647 < (lotAt ls a).free + (lotAt ls b).free
          · exact fin 2 (by omega) (by unfold mergeC; rw [if_pos hx, if_neg hy, if_pos hr, if_neg hz, if_pos hz2]) (merge_late hP a b m h1 h2 h3 hx.1 hx.2 he hg 2 (by omega) (Or.inr (Or.inr ⟨hr, hz2, rfl⟩)))
          · have hm : mergeC ls a b m = 0 := by unfold mergeC; rw [if_pos hx, if_neg hy, if_pos hr, if_neg hz, if_neg hz2]
            have hS : mergeS ls a b m = _ := if_pos hm
            rw [hm, hS]
            by_cases hmm : (lotAt ls b).expiry < (lotAt ls a).expiry
            · exact merge_yes1 hP hin a b m h1 h2 h3 hx.1 hx.2 he hg hr hz (by omega) hmm
            · exact merge_yes2 hP hin a b m h1 h2 h3 hx.1 hx.2 he hg hr hz (by omega) hmm
      · exact fin (roomC ls m) (by omega) (by unfold mergeC; rw [if_pos hx, if_neg hy, if_neg hr]) (merge_late hP a b m h1 h2 h3 hx.1 hx.2 he hg _ (by omega) (Or.inl ⟨hr, rfl⟩))
  · exact fin 4 (by omega) (by unfold mergeC; rw [if_neg hx]) (merge_none hP a b m h1 h2 h3 hx)

end Go.Proofs.YtlmafelclgeccaaGreatDoor

namespace Go.Proofs.YtlmafelclgeccaaGreatDoor
set_option linter.unusedSimpArgs false
set_option linter.unusedVariables false
open Go.RowKit
set_option maxRecDepth 100000

theorem scrapC_le (ls : List L) (n c : Nat) : scrapC ls n c ≤ 9 := by unfold scrapC; split <;> (try split) <;> omega
theorem splitC_le (ls : List L) (n m c : Nat) : splitC ls n m c ≤ 9 := by have := roomC_le ls m; unfold splitC; split <;> (try split) <;> (try split) <;> omega
theorem mergeC_le (ls : List L) (a b m : Nat) : mergeC ls a b m ≤ 9 := by
  have := roomC_le ls m
  unfold mergeC
  split
  · split
    · omega
    · split
      · split
        · omega
        · split <;> omega
      · omega
  · omega

set_option maxHeartbeats 800000 in
theorem do_split {rcs : List (Nat × Nat)} {Z : Nat → Prop} {w : World} {S td : Nat} {ls : List L} {os : List O} (h : PI os rcs Z w S td ls) (a b c : Nat) (h1 : a ≤ 2147483647) (h2 : b ≤ 2147483647) (h3 : c ≤ 2147483647) :
    Calls Tryz.prog 56 #[.pointer (some ⟨S, 0, none⟩), .iface 139 (.agg #[.int .i64 (a : Int), .int .i64 (b : Int), .int .i64 (c : Int)])] w fun e w' => Kp Z w w' ∧ e = .returned (.tuple #[.slice none 0 0, .int .i64 (splitC ls a b c : Int)]) ∧ PI os rcs (Zn Z w) w' S td (splitS ls a b c) := by
  have hal := al1 w (Obj.cells #[.int .i64 (a : Int), .int .i64 (b : Int), .int .i64 (c : Int)] 139)
  obtain ⟨M, v, bs, pvs, hP, hin⟩ := h
  have HD := hide (split_any (Z := Z) ⟨M, v, bs, pvs, hP.below hal, hin⟩ a b c h1 h2 h3)
  generalize splitS ls a b c = ls' at HD ⊢
  generalize splitC ls a b c = rc at HD ⊢
  clear hP
  have t100 := as_Split_Day
  have t103 := as_Split_Receive
  have t106 := as_Split_Split
  go_enter Tryz.func56, Tryz.ntmps56
  go_wp2_with fail
  refine (HD.out).mono ?_
  rintro e w1 ⟨hk, rfl, hpi⟩
  go_wp2_with fail
  go_ret2
  exact ⟨Kp.before hal (hk.mono (fun k h => Or.inl h)), rfl, hpi.mono (zn_alloc w _)⟩

set_option maxHeartbeats 800000 in
theorem ans_Split {rcs : List (Nat × Nat)} {Z : Nat → Prop} {w : World} {Lb td : Nat} {ls : List L} {os : List O} (h : PL os rcs Z w Lb td ls) (hg : Gl w) (s : ByteArray) (hs : s.size ≤ 2097152) (a b c : Nat) (ha : a < 9223372036854775808) (hb : b < 9223372036854775808) (hc : c < 9223372036854775808) (hform : formOf s.data.toList = some (3, [a, b, c])) (hm : Pl.mays (Pl.kindsL 3) [a, b, c] = true) :
    Calls Tryz.prog 43 #[.pointer (some ⟨Lb, 0, none⟩), .string s] w fun e w' => Kp Z w w' ∧ e = .returned (.string ⟨[UInt8.ofNat (splitC ls a b c)].toArray⟩) ∧ PL os rcs (Zn Z w) w' Lb td (splitS ls a b c) := by
  have hrc := splitC_le ls a b c
  generalize hgl : splitS ls a b c = ls'
  generalize hgr : splitC ls a b c = rc
  have HGL := hide hgl
  have HGR := hide hgr
  clear hgl hgr
  have HR : Hid (Calls Tryz.prog 54 #[.string s] w fun e w' => e = .returned (.tuple #[.iface 139 (.agg #[.int .i64 (a : Int), .int .i64 (b : Int), .int .i64 (c : Int)]), .bool true]) ∧ Below w.heap.size w w') :=
    (read_any s hs w hg).mono fun e w' ⟨h1, h2⟩ => by rw [hform] at h2; exact ⟨h2, h1⟩
  have HI := hide (inRange_Split a b c ha hb hc)
  rw [hm] at HI
  have hmt := meth_Split
  have a1 := as_Split_Order
  have a2 := as_Split_Cancel
  have a3 := as_Split_Ship
  have a4 := as_Split_Recall
  have a5 := as_Split_Release
  have HM := hide hm
  clear hm hform
  go_enter Tryz.func43, Tryz.ntmps43
  go_wp2_with (go_at_call 54; refine (HR.out).mono ?_; rintro e w1 ⟨rfl, hb1⟩)
  refine (HI.out _).mono ?_
  rintro e w2 ⟨rfl, hb2⟩
  obtain ⟨S, Zs, hL, hZ, hnz, hsub, hpi⟩ := h
  have hb12 := hb1.trans (hb2.mono hb1.size)
  have hL2 := (hb12.block Lb (blk_lt hL)).trans hL
  have hc2 : w2.cell? ⟨Lb, 0, none⟩ = some (.pointer (some ⟨S, 0, none⟩)) := by rw [blk_cell hL2]; rfl
  have hbd : a ≤ 2147483647 ∧ b ≤ 2147483647 ∧ c ≤ 2147483647 := by have := HM.out; simp [Pl.mays, Pl.kindsL, Pl.mayB] at this; omega
  have HD := hide (do_split (hpi.below hb12) a b c hbd.1 hbd.2.1 hbd.2.2)
  rw [HGL.out, HGR.out] at HD
  rw [HGR.out] at hrc
  clear HGL HGR
  go_wp2_with fail
  refine (HD.out).mono ?_
  rintro e w3 ⟨hk, rfl, hq⟩
  go_wp2_with fail
  refine (reply_nil rc (by omega) _).mono ?_
  rintro e w4 ⟨rfl, hb4⟩
  go_wp2_with fail
  go_ret
  have := PL.step hL hZ hnz hsub hb12 hk hq hb4
  exact ⟨this.1, rfl, this.2⟩

set_option maxHeartbeats 800000 in
theorem do_merge {rcs : List (Nat × Nat)} {Z : Nat → Prop} {w : World} {S td : Nat} {ls : List L} {os : List O} (h : PI os rcs Z w S td ls) (a b c : Nat) (h1 : a ≤ 2147483647) (h2 : b ≤ 2147483647) (h3 : c ≤ 2147483647) :
    Calls Tryz.prog 56 #[.pointer (some ⟨S, 0, none⟩), .iface 142 (.agg #[.int .i64 (a : Int), .int .i64 (b : Int), .int .i64 (c : Int)])] w fun e w' => Kp Z w w' ∧ e = .returned (.tuple #[.slice none 0 0, .int .i64 (mergeC ls a b c : Int)]) ∧ PI os rcs (Zn Z w) w' S td (mergeS ls a b c) := by
  have hal := al1 w (Obj.cells #[.int .i64 (a : Int), .int .i64 (b : Int), .int .i64 (c : Int)] 142)
  obtain ⟨M, v, bs, pvs, hP, hin⟩ := h
  have HD := hide (merge_any (Z := Z) ⟨M, v, bs, pvs, hP.below hal, hin⟩ a b c h1 h2 h3)
  generalize mergeS ls a b c = ls' at HD ⊢
  generalize mergeC ls a b c = rc at HD ⊢
  clear hP
  have t100 := as_Merge_Day
  have t103 := as_Merge_Receive
  have t106 := as_Merge_Split
  have t109 := as_Merge_Merge
  go_enter Tryz.func56, Tryz.ntmps56
  go_wp2_with fail
  refine (HD.out).mono ?_
  rintro e w1 ⟨hk, rfl, hpi⟩
  go_wp2_with fail
  go_ret2
  exact ⟨Kp.before hal (hk.mono (fun k h => Or.inl h)), rfl, hpi.mono (zn_alloc w _)⟩

set_option maxHeartbeats 800000 in
theorem ans_Merge {rcs : List (Nat × Nat)} {Z : Nat → Prop} {w : World} {Lb td : Nat} {ls : List L} {os : List O} (h : PL os rcs Z w Lb td ls) (hg : Gl w) (s : ByteArray) (hs : s.size ≤ 2097152) (a b c : Nat) (ha : a < 9223372036854775808) (hb : b < 9223372036854775808) (hc : c < 9223372036854775808) (hform : formOf s.data.toList = some (4, [a, b, c])) (hm : Pl.mays (Pl.kindsL 4) [a, b, c] = true) :
    Calls Tryz.prog 43 #[.pointer (some ⟨Lb, 0, none⟩), .string s] w fun e w' => Kp Z w w' ∧ e = .returned (.string ⟨[UInt8.ofNat (mergeC ls a b c)].toArray⟩) ∧ PL os rcs (Zn Z w) w' Lb td (mergeS ls a b c) := by
  have hrc := mergeC_le ls a b c
  generalize hgl : mergeS ls a b c = ls'
  generalize hgr : mergeC ls a b c = rc
  have HGL := hide hgl
  have HGR := hide hgr
  clear hgl hgr
  have HR : Hid (Calls Tryz.prog 54 #[.string s] w fun e w' => e = .returned (.tuple #[.iface 142 (.agg #[.int .i64 (a : Int), .int .i64 (b : Int), .int .i64 (c : Int)]), .bool true]) ∧ Below w.heap.size w w') :=
    (read_any s hs w hg).mono fun e w' ⟨h1, h2⟩ => by rw [hform] at h2; exact ⟨h2, h1⟩
  have HI := hide (inRange_Merge a b c ha hb hc)
  rw [hm] at HI
  have hmt := meth_Merge
  have a1 := as_Merge_Order
  have a2 := as_Merge_Cancel
  have a3 := as_Merge_Ship
  have a4 := as_Merge_Recall
  have a5 := as_Merge_Release
  have HM := hide hm
  clear hm hform
  go_enter Tryz.func43, Tryz.ntmps43
  go_wp2_with (go_at_call 54; refine (HR.out).mono ?_; rintro e w1 ⟨rfl, hb1⟩)
  refine (HI.out _).mono ?_
  rintro e w2 ⟨rfl, hb2⟩
  obtain ⟨S, Zs, hL, hZ, hnz, hsub, hpi⟩ := h
  have hb12 := hb1.trans (hb2.mono hb1.size)
  have hL2 := (hb12.block Lb (blk_lt hL)).trans hL
  have hc2 : w2.cell? ⟨Lb, 0, none⟩ = some (.pointer (some ⟨S, 0, none⟩)) := by rw [blk_cell hL2]; rfl
  have hbd : a ≤ 2147483647 ∧ b ≤ 2147483647 ∧ c ≤ 2147483647 := by have := HM.out; simp [Pl.mays, Pl.kindsL, Pl.mayB] at this; omega
  have HD := hide (do_merge (hpi.below hb12) a b c hbd.1 hbd.2.1 hbd.2.2)
  rw [HGL.out, HGR.out] at HD
  rw [HGR.out] at hrc
  clear HGL HGR
  go_wp2_with fail
  refine (HD.out).mono ?_
  rintro e w3 ⟨hk, rfl, hq⟩
  go_wp2_with fail
  refine (reply_nil rc (by omega) _).mono ?_
  rintro e w4 ⟨rfl, hb4⟩
  go_wp2_with fail
  go_ret
  have := PL.step hL hZ hnz hsub hb12 hk hq hb4
  exact ⟨this.1, rfl, this.2⟩

set_option maxHeartbeats 800000 in
theorem do_scrap {rcs : List (Nat × Nat)} {Z : Nat → Prop} {w : World} {S td : Nat} {ls : List L} {os : List O} (h : PI os rcs Z w S td ls) (a b : Nat) (h1 : a ≤ 2147483647) (h2 : b ≤ 2147483647) :
    Calls Tryz.prog 56 #[.pointer (some ⟨S, 0, none⟩), .iface 158 (.agg #[.int .i64 (a : Int), .int .i64 (b : Int)])] w fun e w' => Kp Z w w' ∧ e = .returned (.tuple #[.slice none 0 0, .int .i64 (scrapC ls a b : Int)]) ∧ PI os rcs (Zn Z w) w' S td (scrapS ls a b) := by
  have hal := al1 w (Obj.cells #[.int .i64 (a : Int), .int .i64 (b : Int)] 158)
  obtain ⟨M, v, bs, pvs, hP, hin⟩ := h
  have HD := hide (scrap_any (Z := Z) ⟨M, v, bs, pvs, hP.below hal, hin⟩ a b h1 h2)
  generalize scrapS ls a b = ls' at HD ⊢
  generalize scrapC ls a b = rc at HD ⊢
  clear hP
  have t100 := as_Scrap_Day
  have t103 := as_Scrap_Receive
  have t106 := as_Scrap_Split
  have t109 := as_Scrap_Merge
  have t_Order := as_Scrap_Order
  have t_Cancel := as_Scrap_Cancel
  have t_Ship := as_Scrap_Ship
  have t_Recall := as_Scrap_Recall
  have t_Release := as_Scrap_Release
  have t112 := as_Scrap_Scrap
  go_enter Tryz.func56, Tryz.ntmps56
  go_wp2_with fail
  refine (HD.out).mono ?_
  rintro e w1 ⟨hk, rfl, hpi⟩
  go_wp2_with fail
  go_ret2
  exact ⟨Kp.before hal (hk.mono (fun k h => Or.inl h)), rfl, hpi.mono (zn_alloc w _)⟩

set_option maxHeartbeats 800000 in
theorem ans_Scrap {rcs : List (Nat × Nat)} {Z : Nat → Prop} {w : World} {Lb td : Nat} {ls : List L} {os : List O} (h : PL os rcs Z w Lb td ls) (hg : Gl w) (s : ByteArray) (hs : s.size ≤ 2097152) (a b : Nat) (ha : a < 9223372036854775808) (hb : b < 9223372036854775808) (hform : formOf s.data.toList = some (10, [a, b])) (hm : Pl.mays (Pl.kindsL 10) [a, b] = true) :
    Calls Tryz.prog 43 #[.pointer (some ⟨Lb, 0, none⟩), .string s] w fun e w' => Kp Z w w' ∧ e = .returned (.string ⟨[UInt8.ofNat (scrapC ls a b)].toArray⟩) ∧ PL os rcs (Zn Z w) w' Lb td (scrapS ls a b) := by
  have hrc := scrapC_le ls a b
  generalize hgl : scrapS ls a b = ls'
  generalize hgr : scrapC ls a b = rc
  have HGL := hide hgl
  have HGR := hide hgr
  clear hgl hgr
  have HR : Hid (Calls Tryz.prog 54 #[.string s] w fun e w' => e = .returned (.tuple #[.iface 158 (.agg #[.int .i64 (a : Int), .int .i64 (b : Int)]), .bool true]) ∧ Below w.heap.size w w') :=
    (read_any s hs w hg).mono fun e w' ⟨h1, h2⟩ => by rw [hform] at h2; exact ⟨h2, h1⟩
  have HI := hide (inRange_Scrap a b ha hb)
  rw [hm] at HI
  have hmt := meth_Scrap
  have a1 := as_Scrap_Order
  have a2 := as_Scrap_Cancel
  have a3 := as_Scrap_Ship
  have a4 := as_Scrap_Recall
  have a5 := as_Scrap_Release
  have HM := hide hm
  clear hm hform
  go_enter Tryz.func43, Tryz.ntmps43
  go_wp2_with (go_at_call 54; refine (HR.out).mono ?_; rintro e w1 ⟨rfl, hb1⟩)
  refine (HI.out _).mono ?_
  rintro e w2 ⟨rfl, hb2⟩
  obtain ⟨S, Zs, hL, hZ, hnz, hsub, hpi⟩ := h
  have hb12 := hb1.trans (hb2.mono hb1.size)
  have hL2 := (hb12.block Lb (blk_lt hL)).trans hL
  have hc2 : w2.cell? ⟨Lb, 0, none⟩ = some (.pointer (some ⟨S, 0, none⟩)) := by rw [blk_cell hL2]; rfl
  have hbd : a ≤ 2147483647 ∧ b ≤ 2147483647 := by have := HM.out; simp [Pl.mays, Pl.kindsL, Pl.mayB] at this; omega
  have HD := hide (do_scrap (hpi.below hb12) a b hbd.1 hbd.2)
  rw [HGL.out, HGR.out] at HD
  rw [HGR.out] at hrc
  clear HGL HGR
  go_wp2_with fail
  refine (HD.out).mono ?_
  rintro e w3 ⟨hk, rfl, hq⟩
  go_wp2_with fail
  refine (reply_nil rc (by omega) _).mono ?_
  rintro e w4 ⟨rfl, hb4⟩
  go_wp2_with fail
  go_ret
  have := PL.step hL hZ hnz hsub hb12 hk hq hb4
  exact ⟨this.1, rfl, this.2⟩

end Go.Proofs.YtlmafelclgeccaaGreatDoor
