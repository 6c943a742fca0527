import Derived.Test.YtlmafelclgeccaaGreatDoorRp3X
import Derived.Test.YtlmafelclgeccaaGreatDoorAn2X
namespace Go.Proofs.YtlmafelclgeccaaGreatDoor
set_option linter.unusedSimpArgs false
set_option linter.unusedVariables false
open Go.RowKit
set_option maxRecDepth 100000

/-- What Recall answers. -/
def recallR (rcs : List (Nat × Nat)) (ls : List L) (a m : Nat) : List UInt8 := if recallC rcs ls a m = 0 then 0 :: Pl.toldB (toldQ ls (heldQ ls a)) else [UInt8.ofNat (recallC rcs ls a m)]
theorem recallC_le (rcs : List (Nat × Nat)) (ls : List L) (a m : Nat) : recallC rcs ls a m ≤ 6 := by unfold recallC; split <;> (try split) <;> (try split) <;> omega
theorem releaseC_le (rcs : List (Nat × Nat)) (a m : Nat) : releaseC rcs a m ≤ 10 := by unfold releaseC; split <;> omega
theorem recallC_zero {rcs : List (Nat × Nat)} {ls : List L} {a m : Nat} (h : recallC rcs ls a m = 0) : idx a ls < ls.length ∧ rcs.contains (a, m) = false ∧ ¬ 10 ≤ rcs.length := by
  unfold recallC at h
  by_cases hi : idx a ls < ls.length
  · rw [if_pos hi] at h
    cases hc : rcs.contains (a, m) with
    | true => rw [hc] at h; simp at h
    | false =>
      rw [hc] at h
      by_cases h10 : 10 ≤ rcs.length
      · rw [if_pos h10] at h; simp at h
      · exact ⟨hi, rfl, h10⟩
  · rw [if_neg hi] at h; omega

theorem heldT_small {ls : List L} (hok : ∀ x ∈ ls, L.Ok x) (hl : ls.length ≤ 30) (a : Nat) : (∀ n ∈ toldQ ls (heldQ ls a), n < 9223372036854775808) ∧ (toldQ ls (heldQ ls a)).length ≤ 61 := by
  obtain ⟨h1, h2, h3⟩ := heldQ_facts hl hok a
  refine ⟨fun n hn => ?_, ?_⟩
  · simp only [toldQ, List.mem_cons] at hn
    rcases hn with rfl | hn
    · omega
    · exact toldL_small hok _ h2 n hn
  · simp only [toldQ, List.length_cons, toldL_len]; omega

theorem recall_pi {rcs : List (Nat × Nat)} {Z : Nat → Prop} {w : World} {S td : Nat} {ls : List L} {os : List O} (h : PI os rcs Z w S td ls) (hgo : Good os ls) (a m : Nat) (h1 : a ≤ 2147483647) (h2 : m ≤ 2147483647) :
    Calls Tryz.prog 92 #[.pointer (some ⟨S, 0, none⟩), .agg #[.int .i64 (a : Int), .int .i64 (m : Int)]] w fun e w' => Kp Z w w' ∧ PI os (recallS rcs ls a m) (Zn Z w) w' S td ls ∧
      ((recallC rcs ls a m ≠ 0 ∧ e = .returned (.tuple #[.slice none 0 0, .int .i64 (recallC rcs ls a m : Int)])) ∨ (recallC rcs ls a m = 0 ∧ ∃ g c, e = .returned (.tuple #[.slice (some ⟨g, 0, none⟩) (toldQ ls (heldQ ls a)).length c, .int .i64 0]) ∧ Rw w' g (toldQ ls (heldQ ls a)))) := by
  obtain ⟨M, v, bs, pvs, hP, hin⟩ := h
  by_cases hc : recallC rcs ls a m = 0
  · obtain ⟨q1, q2, q3⟩ := recallC_zero hc
    unfold recallS
    rw [if_pos hc]
    refine (recall_ok hP hgo.ids a m h1 h2 q1 q2 q3).mono ?_
    rintro e w' ⟨hk, hpv, g, c, he, ho⟩
    exact ⟨hk.mono (fun k hk => by rw [hk]; exact hin.m), ⟨M, v, bs, pvs, hpv, hin.mono (fun k hk => Or.inl hk)⟩, Or.inr ⟨hc, g, c, he, Rw.of ho (by simp [toldQ])⟩⟩
  · unfold recallS
    rw [if_neg hc]
    refine (recall_no hP a m h1 h2 hc).mono ?_
    rintro e w' ⟨hb, he⟩
    exact ⟨kpB hb, ⟨M, v, bs, pvs, hP.below hb, hin.mono (fun k hk => Or.inl hk)⟩, Or.inl ⟨hc, he⟩⟩

set_option maxHeartbeats 1600000 in
theorem do_recall {rcs : List (Nat × Nat)} {Z : Nat → Prop} {w : World} {S td : Nat} {ls : List L} {os : List O} (h : PI os rcs Z w S td ls) (hgo : Good os ls) (a m : Nat) (h1 : a ≤ 2147483647) (h2 : m ≤ 2147483647) :
    Calls Tryz.prog 56 #[.pointer (some ⟨S, 0, none⟩), .iface 153 (.agg #[.int .i64 (a : Int), .int .i64 (m : Int)])] w fun e w' => Kp Z w w' ∧ PI os (recallS rcs ls a m) (Zn Z w) w' S td ls ∧
      ((recallC rcs ls a m ≠ 0 ∧ e = .returned (.tuple #[.slice none 0 0, .int .i64 (recallC rcs ls a m : Int)])) ∨ (recallC rcs ls a m = 0 ∧ ∃ g c, e = .returned (.tuple #[.slice (some ⟨g, 0, none⟩) (toldQ ls (heldQ ls a)).length c, .int .i64 0]) ∧ Rw w' g (toldQ ls (heldQ ls a)))) := by
  have hal := al1 w (Obj.cells #[.int .i64 (a : Int), .int .i64 (m : Int)] 153)
  obtain ⟨M, v, bs, pvs, hP, hin⟩ := h
  have HD := hide (recall_pi (Z := Z) ⟨M, v, bs, pvs, hP.below hal, hin⟩ hgo a m h1 h2)
  generalize recallS rcs ls a m = rs' at HD ⊢
  generalize recallC rcs ls a m = rc at HD ⊢
  generalize toldQ ls (heldQ ls a) = tq at HD ⊢
  clear hP hgo hin
  have t100 := as_Recall_Day
  have t103 := as_Recall_Receive
  have t106 := as_Recall_Split
  have t109 := as_Recall_Merge
  have t_Order := as_Recall_Order
  have t_Cancel := as_Recall_Cancel
  have t_Ship := as_Recall_Ship
  have t_Recall := as_Recall_Recall
  go_enter Tryz.func56, Tryz.ntmps56
  go_wp2_with fail
  refine (HD.out).mono ?_
  rintro e w1 ⟨hk, hpi, ⟨hne, rfl⟩ | ⟨h0, g, c, rfl, hrw⟩⟩
  · have HPI := hide hpi
    clear hpi
    go_wp2_with fail
    go_ret2
    exact ⟨Kp.before hal (hk.mono (fun k h => Or.inl h)), HPI.out.mono (zn_alloc w _), Or.inl ⟨hne, rfl⟩⟩
  · have HPI := hide hpi
    have HRW := hide hrw
    clear hpi hrw
    go_wp2_with fail
    go_ret2
    exact ⟨Kp.before hal (hk.mono (fun k h => Or.inl h)), HPI.out.mono (zn_alloc w _), Or.inr ⟨h0, g, c, rfl, HRW.out⟩⟩

set_option maxHeartbeats 800000 in
theorem do_release {rcs : List (Nat × Nat)} {Z : Nat → Prop} {w : World} {S td : Nat} {ls : List L} {os : List O} (h : PI os rcs Z w S td ls) (a m : Nat) (h1 : a ≤ 2147483647) (h2 : m ≤ 2147483647) :
    Calls Tryz.prog 56 #[.pointer (some ⟨S, 0, none⟩), .iface 155 (.agg #[.int .i64 (a : Int), .int .i64 (m : Int)])] w fun e w' => Kp Z w w' ∧ e = .returned (.tuple #[.slice none 0 0, .int .i64 (releaseC rcs a m : Int)]) ∧ PI os (releaseS rcs a m) (Zn Z w) w' S td ls := by
  have hal := al1 w (Obj.cells #[.int .i64 (a : Int), .int .i64 (m : Int)] 155)
  obtain ⟨M, v, bs, pvs, hP, hin⟩ := h
  have HD := hide (release_any (hP.below hal) a m h1 h2)
  have HIN := hide hin
  generalize releaseS rcs a m = rs' at HD ⊢
  generalize releaseC rcs a m = rc at HD ⊢
  clear hP hin
  have t100 := as_Release_Day
  have t103 := as_Release_Receive
  have t106 := as_Release_Split
  have t109 := as_Release_Merge
  have t_Order := as_Release_Order
  have t_Cancel := as_Release_Cancel
  have t_Ship := as_Release_Ship
  have t_Recall := as_Release_Recall
  have t_Release := as_Release_Release
  go_enter Tryz.func56, Tryz.ntmps56
  go_wp2_with fail
  refine (HD.out).mono ?_
  rintro e w1 ⟨hk, rfl, hpv⟩
  have HPV := hide hpv
  clear hpv
  go_wp2_with fail
  go_ret2
  exact ⟨Kp.before hal (hk.mono (fun k hk => Or.inl (by rw [hk]; exact HIN.out.m))), rfl, M, v, bs, pvs, HPV.out, HIN.out.mono (fun k hk => Or.inl hk)⟩

set_option maxHeartbeats 1600000 in
theorem ans_Recall {rcs : List (Nat × Nat)} {Z : Nat → Prop} {w : World} {Lb td : Nat} {ls : List L} {os : List O} (h : PL os rcs Z w Lb td ls) (hgo : Good os ls) (hg : Gl w) (s : ByteArray) (hs : s.size ≤ 2097152) (a m : Nat) (ha : a < 9223372036854775808) (hm0 : m < 9223372036854775808) (hform : formOf s.data.toList = some (8, [a, m])) (hm : Pl.mays (Pl.kindsL 8) [a, m] = true) :
    Calls Tryz.prog 43 #[.pointer (some ⟨Lb, 0, none⟩), .string s] w fun e w' => Kp Z w w' ∧ e = .returned (.string ⟨(recallR rcs ls a m).toArray⟩) ∧ PL os (recallS rcs ls a m) (Zn Z w) w' Lb td ls := by
  have hrc := recallC_le rcs ls a m
  have hbd : a ≤ 2147483647 ∧ m ≤ 2147483647 := by simp [Pl.mays, Pl.kindsL, Pl.mayB] at hm; omega
  have hts : (∀ n ∈ toldQ ls (heldQ ls a), n < 9223372036854775808) ∧ (toldQ ls (heldQ ls a)).length ≤ 61 := by
    obtain ⟨S, Zs, _, _, _, _, M, v, bs, pvs, hP, _⟩ := h
    exact heldT_small hP.ok hP.room a
  have htp : 0 < (toldQ ls (heldQ ls a)).length := by simp [toldQ]
  have HAR : Hid (recallR rcs ls a m = if recallC rcs ls a m = 0 then 0 :: Pl.toldB (toldQ ls (heldQ ls a)) else [UInt8.ofNat (recallC rcs ls a m)]) := rfl
  have HDO := hide (fun (w2 : World) (S : Nat) (Zs : Nat → Prop) (hpi : PI os rcs Zs w2 S td ls) => do_recall hpi hgo a m hbd.1 hbd.2)
  generalize recallS rcs ls a m = rs' at HDO ⊢
  generalize recallC rcs ls a m = rc at HDO HAR hrc
  generalize toldQ ls (heldQ ls a) = tq at HDO HAR hts htp
  generalize recallR rcs ls a m = ar at HAR ⊢
  have HR : Hid (Calls Tryz.prog 54 #[.string s] w fun e w' => e = .returned (.tuple #[.iface 153 (.agg #[.int .i64 (a : Int), .int .i64 (m : Int)]), .bool true]) ∧ Below w.heap.size w w') :=
    (read_any s hs w hg).mono fun e w' ⟨h1, h2⟩ => by rw [hform] at h2; exact ⟨h2, h1⟩
  have HI := hide (inRange_Recall a m ha hm0)
  rw [hm] at HI
  have hmt := meth_Recall
  clear hm hform hgo
  go_enter Tryz.func43, Tryz.ntmps43
  go_wp2_with (go_at_call 54; refine (HR.out).mono ?_; rintro e w1 ⟨rfl, hb1⟩)
  refine (HI.out _).mono ?_
  rintro e w2 ⟨rfl, hb2⟩
  obtain ⟨S, Zs, hL, hZ, hnz, hsub, hpi⟩ := h
  have hb12 := hb1.trans (hb2.mono hb1.size)
  have hL2 := (hb12.block Lb (blk_lt hL)).trans hL
  have hc2 : w2.cell? ⟨Lb, 0, none⟩ = some (.pointer (some ⟨S, 0, none⟩)) := by rw [blk_cell hL2]; rfl
  have HD := hide (HDO.out w2 S Zs (hpi.below hb12))
  clear HDO
  go_wp2_with fail
  refine (HD.out).mono ?_
  rintro e w3 ⟨hk, hq, ⟨hne, rfl⟩ | ⟨h0, g, cc, rfl, hrw⟩⟩
  · have HAR2 : Hid (ar = [UInt8.ofNat rc]) := by unfold Hid; rw [HAR.out, if_neg hne]
    go_wp2_with fail
    refine (reply_nil rc (by omega) _).mono ?_
    rintro e w4 ⟨rfl, hb4⟩
    go_wp2_with fail
    go_ret
    have := PL.step hL hZ hnz hsub hb12 hk hq hb4
    exact ⟨this.1, by rw [HAR2.out]; rfl, this.2⟩
  · have HAR2 : Hid (ar = 0 :: Pl.toldB tq) := by unfold Hid; rw [HAR.out, if_pos h0]
    have HR2 := hide (reply_some g cc tq hts.1 (by omega) htp w3 hrw.1 hrw.2)
    clear hrw hts
    go_wp2_with fail
    refine (HR2.out).mono ?_
    rintro e w4 ⟨rfl, hb4⟩
    go_wp2_with fail
    go_ret
    have := PL.step hL hZ hnz hsub hb12 hk hq hb4
    exact ⟨this.1, by rw [HAR2.out]; rfl, this.2⟩

set_option maxHeartbeats 800000 in
theorem ans_Release {rcs : List (Nat × Nat)} {Z : Nat → Prop} {w : World} {Lb td : Nat} {ls : List L} {os : List O} (h : PL os rcs Z w Lb td ls) (hg : Gl w) (s : ByteArray) (hs : s.size ≤ 2097152) (a m : Nat) (ha : a < 9223372036854775808) (hm0 : m < 9223372036854775808) (hform : formOf s.data.toList = some (9, [a, m])) (hm : Pl.mays (Pl.kindsL 9) [a, m] = true) :
    Calls Tryz.prog 43 #[.pointer (some ⟨Lb, 0, none⟩), .string s] w fun e w' => Kp Z w w' ∧ e = .returned (.string ⟨[UInt8.ofNat (releaseC rcs a m)].toArray⟩) ∧ PL os (releaseS rcs a m) (Zn Z w) w' Lb td ls := by
  have hrc := releaseC_le rcs a m
  have hbd : a ≤ 2147483647 ∧ m ≤ 2147483647 := by simp [Pl.mays, Pl.kindsL, Pl.mayB] at hm; omega
  have HDO := hide (fun (w2 : World) (S : Nat) (Zs : Nat → Prop) (hpi : PI os rcs Zs w2 S td ls) => do_release hpi a m hbd.1 hbd.2)
  generalize releaseS rcs a m = rs' at HDO ⊢
  generalize releaseC rcs a m = rc at HDO hrc ⊢
  have HR : Hid (Calls Tryz.prog 54 #[.string s] w fun e w' => e = .returned (.tuple #[.iface 155 (.agg #[.int .i64 (a : Int), .int .i64 (m : Int)]), .bool true]) ∧ Below w.heap.size w w') :=
    (read_any s hs w hg).mono fun e w' ⟨h1, h2⟩ => by rw [hform] at h2; exact ⟨h2, h1⟩
  have HI := hide (inRange_Release a m ha hm0)
  rw [hm] at HI
  have hmt := meth_Release
  clear hm hform
  go_enter Tryz.func43, Tryz.ntmps43
  go_wp2_with (go_at_call 54; refine (HR.out).mono ?_; rintro e w1 ⟨rfl, hb1⟩)
  refine (HI.out _).mono ?_
  rintro e w2 ⟨rfl, hb2⟩
  obtain ⟨S, Zs, hL, hZ, hnz, hsub, hpi⟩ := h
  have hb12 := hb1.trans (hb2.mono hb1.size)
  have hL2 := (hb12.block Lb (blk_lt hL)).trans hL
  have hc2 : w2.cell? ⟨Lb, 0, none⟩ = some (.pointer (some ⟨S, 0, none⟩)) := by rw [blk_cell hL2]; rfl
  have HD := hide (HDO.out w2 S Zs (hpi.below hb12))
  clear HDO
  go_wp2_with fail
  refine (HD.out).mono ?_
  rintro e w3 ⟨hk, rfl, hq⟩
  go_wp2_with fail
  refine (reply_nil rc (by omega) _).mono ?_
  rintro e w4 ⟨rfl, hb4⟩
  go_wp2_with fail
  go_ret
  have := PL.step hL hZ hnz hsub hb12 hk hq hb4
  exact ⟨this.1, rfl, this.2⟩

end Go.Proofs.YtlmafelclgeccaaGreatDoor
