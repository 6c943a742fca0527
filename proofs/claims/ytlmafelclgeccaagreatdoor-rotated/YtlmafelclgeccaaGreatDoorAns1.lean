import Derived.Test.YtlmafelclgeccaaGreatDoorDo1X
namespace Go.Proofs.YtlmafelclgeccaaGreatDoor
set_option linter.unusedSimpArgs false
set_option linter.unusedVariables false
open Go.RowKit
set_option maxRecDepth 100000

/-- The larder at Lb. -/
def PL (os : List O) (rcs : List (Nat × Nat)) (Z : Nat → Prop) (w : World) (Lb td : Nat) (ls : List L) : Prop :=
  ∃ S Zs, w.heap[Lb]? = some (.cells #[.pointer (some ⟨S, 0, none⟩)] 81 (0, 0)) ∧ Z Lb ∧ ¬ Zs Lb ∧ (∀ k, Zs k → Z k) ∧ PI os rcs Zs w S td ls

theorem PI.below {rcs : List (Nat × Nat)} {Z : Nat → Prop} {w w' : World} {S td : Nat} {ls : List L} {os : List O} (h : PI os rcs Z w S td ls) (hb : Below w.heap.size w w') : PI os rcs Z w' S td ls := by
  obtain ⟨M, v, bs, pvs, h1, h2⟩ := h
  exact ⟨M, v, bs, pvs, h1.below hb, h2⟩
theorem PL.below {rcs : List (Nat × Nat)} {Z : Nat → Prop} {w w' : World} {Lb td : Nat} {ls : List L} {os : List O} (h : PL os rcs Z w Lb td ls) (hb : Below w.heap.size w w') : PL os rcs Z w' Lb td ls := by
  obtain ⟨S, Zs, h1, h2, h3, h4, h5⟩ := h
  exact ⟨S, Zs, (hb.block _ (blk_lt h1)).trans h1, h2, h3, h4, h5.below hb⟩
theorem PL.mono {rcs : List (Nat × Nat)} {Z Z' : Nat → Prop} {w : World} {Lb td : Nat} {ls : List L} {os : List O} (h : PL os rcs Z w Lb td ls) (hz : ∀ k, Z k → Z' k) : PL os rcs Z' w Lb td ls := by
  obtain ⟨S, Zs, h1, h2, h3, h4, h5⟩ := h
  exact ⟨S, Zs, h1, hz _ h2, h3, fun k hk => hz k (h4 k hk), h5⟩

theorem PL.step {rcs : List (Nat × Nat)} {Z Zs : Nat → Prop} {w w2 w3 w4 : World} {Lb td' S : Nat} {ls' : List L} {os : List O} (hL : w.heap[Lb]? = some (.cells #[.pointer (some ⟨S, 0, none⟩)] 81 (0, 0))) (hZ : Z Lb) (hn : ¬ Zs Lb) (hsub : ∀ k, Zs k → Z k)
    (hb2 : Below w.heap.size w w2) (hk : Kp Zs w2 w3) (hpi : PI os rcs (Zn Zs w2) w3 S td' ls') (hb4 : Below w3.heap.size w3 w4) : Kp Z w w4 ∧ PL os rcs (Zn Z w) w4 Lb td' ls' := by
  refine ⟨(Kp.before hb2 (hk.mono (fun k h => Or.inl (hsub k h)))).after hb4, ?_⟩
  have hlt := blk_lt hL
  have h2 := (hb2.block Lb hlt).trans hL
  have h3 := (hk.block Lb (blk_lt h2) hn).trans h2
  have h4 := (hb4.block Lb (blk_lt h3)).trans h3
  refine ⟨S, Zn Zs w2, h4, Or.inl hZ, fun h => h.elim hn (fun h => by have := hb2.size; omega), fun k h => h.elim (fun h => Or.inl (hsub k h)) (fun h => Or.inr (Nat.le_trans hb2.size h)), hpi.below hb4⟩

theorem PL.quiet {rcs : List (Nat × Nat)} {Z : Nat → Prop} {w w' : World} {Lb td : Nat} {ls : List L} {os : List O} (h : PL os rcs Z w Lb td ls) (hb : Below w.heap.size w w') : Kp Z w w' ∧ PL os rcs (Zn Z w) w' Lb td ls :=
  ⟨kpB hb, (h.below hb).mono (fun _ hk => Or.inl hk)⟩

set_option maxHeartbeats 800000 in
theorem ans_bad (w : World) (Lb : Nat) (hg : Gl w) (s : ByteArray) (hs : s.size ≤ 2097152) (hform : formOf s.data.toList = none) :
    Calls Tryz.prog 43 #[.pointer (some ⟨Lb, 0, none⟩), .string s] w fun e w' => e = .returned (.string ⟨[1].toArray⟩) ∧ Below w.heap.size w w' := by
  have HR : Hid (Calls Tryz.prog 54 #[.string s] w fun e w' => e = .returned (.tuple #[.nilIface, .bool false]) ∧ Below w.heap.size w w') :=
    (read_any s hs w hg).mono fun e w' ⟨h1, h2⟩ => by rw [hform] at h2; exact ⟨h2, h1⟩
  go_enter Tryz.func43, Tryz.ntmps43
  go_wp2_with (first
    | (go_at_call 54; refine (HR.out).mono ?_; rintro e w1 ⟨rfl, hb1⟩)
    | (go_at_call 55; refine (reply_nil 1 (by omega) _).mono ?_; rintro e w2 ⟨rfl, hb2⟩))
  go_ret
  exact ⟨rfl, hb1.trans (hb2.mono hb1.size)⟩

set_option maxHeartbeats 800000 in
theorem num_Day (w : World) (Lb : Nat) (hg : Gl w) (s : ByteArray) (hs : s.size ≤ 2097152) (a : Nat) (ha : a < 9223372036854775808) (hform : formOf s.data.toList = some (1, [a])) (hm : Pl.mays (Pl.kindsL 1) [a] = false) :
    Calls Tryz.prog 43 #[.pointer (some ⟨Lb, 0, none⟩), .string s] w fun e w' => e = .returned (.string ⟨[2].toArray⟩) ∧ Below w.heap.size w w' := by
  have HR : Hid (Calls Tryz.prog 54 #[.string s] w fun e w' => e = .returned (.tuple #[.iface 133 (.agg #[.int .i64 (a : Int)]), .bool true]) ∧ Below w.heap.size w w') :=
    (read_any s hs w hg).mono fun e w' ⟨h1, h2⟩ => by rw [hform] at h2; exact ⟨h2, h1⟩
  have HI := hide (inRange_Day a ha)
  rw [hm] at HI
  have hmt := meth_Day
  clear hm hform
  go_enter Tryz.func43, Tryz.ntmps43
  go_wp2_with (go_at_call 54; refine (HR.out).mono ?_; rintro e w1 ⟨rfl, hb1⟩)
  refine (HI.out _).mono ?_
  rintro e w2 ⟨rfl, hb2⟩
  go_wp2_with fail
  refine (reply_nil 2 (by omega) _).mono ?_
  rintro e w3 ⟨rfl, hb3⟩
  go_wp2_with fail
  go_ret
  have hb12 := hb1.trans (hb2.mono hb1.size)
  exact ⟨rfl, hb12.trans (hb3.mono hb12.size)⟩

set_option maxHeartbeats 800000 in
theorem num_Receive (w : World) (Lb : Nat) (hg : Gl w) (s : ByteArray) (hs : s.size ≤ 2097152) (a b c d : Nat) (ha : a < 9223372036854775808) (hb : b < 9223372036854775808) (hc : c < 9223372036854775808) (hd : d < 9223372036854775808) (hform : formOf s.data.toList = some (2, [a, b, c, d])) (hm : Pl.mays (Pl.kindsL 2) [a, b, c, d] = false) :
    Calls Tryz.prog 43 #[.pointer (some ⟨Lb, 0, none⟩), .string s] w fun e w' => e = .returned (.string ⟨[2].toArray⟩) ∧ Below w.heap.size w w' := by
  have HR : Hid (Calls Tryz.prog 54 #[.string s] w fun e w' => e = .returned (.tuple #[.iface 136 (.agg #[.int .i64 (a : Int), .int .i64 (b : Int), .int .i64 (c : Int), .int .i64 (d : Int)]), .bool true]) ∧ Below w.heap.size w w') :=
    (read_any s hs w hg).mono fun e w' ⟨h1, h2⟩ => by rw [hform] at h2; exact ⟨h2, h1⟩
  have HI := hide (inRange_Receive a b c d ha hb hc hd)
  rw [hm] at HI
  have hmt := meth_Receive
  clear hm hform
  go_enter Tryz.func43, Tryz.ntmps43
  go_wp2_with (go_at_call 54; refine (HR.out).mono ?_; rintro e w1 ⟨rfl, hb1⟩)
  refine (HI.out _).mono ?_
  rintro e w2 ⟨rfl, hb2⟩
  go_wp2_with fail
  refine (reply_nil 2 (by omega) _).mono ?_
  rintro e w3 ⟨rfl, hb3⟩
  go_wp2_with fail
  go_ret
  have hb12 := hb1.trans (hb2.mono hb1.size)
  exact ⟨rfl, hb12.trans (hb3.mono hb12.size)⟩

set_option maxHeartbeats 800000 in
theorem num_Split (w : World) (Lb : Nat) (hg : Gl w) (s : ByteArray) (hs : s.size ≤ 2097152) (a b c : Nat) (ha : a < 9223372036854775808) (hb : b < 9223372036854775808) (hc : c < 9223372036854775808) (hform : formOf s.data.toList = some (3, [a, b, c])) (hm : Pl.mays (Pl.kindsL 3) [a, b, c] = false) :
    Calls Tryz.prog 43 #[.pointer (some ⟨Lb, 0, none⟩), .string s] w fun e w' => e = .returned (.string ⟨[2].toArray⟩) ∧ Below w.heap.size w w' := by
  have HR : Hid (Calls Tryz.prog 54 #[.string s] w fun e w' => e = .returned (.tuple #[.iface 139 (.agg #[.int .i64 (a : Int), .int .i64 (b : Int), .int .i64 (c : Int)]), .bool true]) ∧ Below w.heap.size w w') :=
    (read_any s hs w hg).mono fun e w' ⟨h1, h2⟩ => by rw [hform] at h2; exact ⟨h2, h1⟩
  have HI := hide (inRange_Split a b c ha hb hc)
  rw [hm] at HI
  have hmt := meth_Split
  clear hm hform
  go_enter Tryz.func43, Tryz.ntmps43
  go_wp2_with (go_at_call 54; refine (HR.out).mono ?_; rintro e w1 ⟨rfl, hb1⟩)
  refine (HI.out _).mono ?_
  rintro e w2 ⟨rfl, hb2⟩
  go_wp2_with fail
  refine (reply_nil 2 (by omega) _).mono ?_
  rintro e w3 ⟨rfl, hb3⟩
  go_wp2_with fail
  go_ret
  have hb12 := hb1.trans (hb2.mono hb1.size)
  exact ⟨rfl, hb12.trans (hb3.mono hb12.size)⟩

set_option maxHeartbeats 800000 in
theorem num_Merge (w : World) (Lb : Nat) (hg : Gl w) (s : ByteArray) (hs : s.size ≤ 2097152) (a b c : Nat) (ha : a < 9223372036854775808) (hb : b < 9223372036854775808) (hc : c < 9223372036854775808) (hform : formOf s.data.toList = some (4, [a, b, c])) (hm : Pl.mays (Pl.kindsL 4) [a, b, c] = false) :
    Calls Tryz.prog 43 #[.pointer (some ⟨Lb, 0, none⟩), .string s] w fun e w' => e = .returned (.string ⟨[2].toArray⟩) ∧ Below w.heap.size w w' := by
  have HR : Hid (Calls Tryz.prog 54 #[.string s] w fun e w' => e = .returned (.tuple #[.iface 142 (.agg #[.int .i64 (a : Int), .int .i64 (b : Int), .int .i64 (c : Int)]), .bool true]) ∧ Below w.heap.size w w') :=
    (read_any s hs w hg).mono fun e w' ⟨h1, h2⟩ => by rw [hform] at h2; exact ⟨h2, h1⟩
  have HI := hide (inRange_Merge a b c ha hb hc)
  rw [hm] at HI
  have hmt := meth_Merge
  clear hm hform
  go_enter Tryz.func43, Tryz.ntmps43
  go_wp2_with (go_at_call 54; refine (HR.out).mono ?_; rintro e w1 ⟨rfl, hb1⟩)
  refine (HI.out _).mono ?_
  rintro e w2 ⟨rfl, hb2⟩
  go_wp2_with fail
  refine (reply_nil 2 (by omega) _).mono ?_
  rintro e w3 ⟨rfl, hb3⟩
  go_wp2_with fail
  go_ret
  have hb12 := hb1.trans (hb2.mono hb1.size)
  exact ⟨rfl, hb12.trans (hb3.mono hb12.size)⟩

set_option maxHeartbeats 800000 in
theorem num_Order (w : World) (Lb : Nat) (hg : Gl w) (s : ByteArray) (hs : s.size ≤ 2097152) (a b c d f : Nat) (ha : a < 9223372036854775808) (hb : b < 9223372036854775808) (hc : c < 9223372036854775808) (hd : d < 9223372036854775808) (hf : f < 9223372036854775808) (hform : formOf s.data.toList = some (5, [a, b, c, d, f])) (hm : Pl.mays (Pl.kindsL 5) [a, b, c, d, f] = false) :
    Calls Tryz.prog 43 #[.pointer (some ⟨Lb, 0, none⟩), .string s] w fun e w' => e = .returned (.string ⟨[2].toArray⟩) ∧ Below w.heap.size w w' := by
  have HR : Hid (Calls Tryz.prog 54 #[.string s] w fun e w' => e = .returned (.tuple #[.iface 145 (.agg #[.int .i64 (a : Int), .int .i64 (b : Int), .int .i64 (c : Int), .int .i64 (d : Int), .int .i64 (f : Int)]), .bool true]) ∧ Below w.heap.size w w') :=
    (read_any s hs w hg).mono fun e w' ⟨h1, h2⟩ => by rw [hform] at h2; exact ⟨h2, h1⟩
  have HI := hide (inRange_Order a b c d f ha hb hc hd hf)
  rw [hm] at HI
  have hmt := meth_Order
  clear hm hform
  go_enter Tryz.func43, Tryz.ntmps43
  go_wp2_with (go_at_call 54; refine (HR.out).mono ?_; rintro e w1 ⟨rfl, hb1⟩)
  refine (HI.out _).mono ?_
  rintro e w2 ⟨rfl, hb2⟩
  go_wp2_with fail
  refine (reply_nil 2 (by omega) _).mono ?_
  rintro e w3 ⟨rfl, hb3⟩
  go_wp2_with fail
  go_ret
  have hb12 := hb1.trans (hb2.mono hb1.size)
  exact ⟨rfl, hb12.trans (hb3.mono hb12.size)⟩

set_option maxHeartbeats 800000 in
theorem num_Cancel (w : World) (Lb : Nat) (hg : Gl w) (s : ByteArray) (hs : s.size ≤ 2097152) (a : Nat) (ha : a < 9223372036854775808) (hform : formOf s.data.toList = some (6, [a])) (hm : Pl.mays (Pl.kindsL 6) [a] = false) :
    Calls Tryz.prog 43 #[.pointer (some ⟨Lb, 0, none⟩), .string s] w fun e w' => e = .returned (.string ⟨[2].toArray⟩) ∧ Below w.heap.size w w' := by
  have HR : Hid (Calls Tryz.prog 54 #[.string s] w fun e w' => e = .returned (.tuple #[.iface 148 (.agg #[.int .i64 (a : Int)]), .bool true]) ∧ Below w.heap.size w w') :=
    (read_any s hs w hg).mono fun e w' ⟨h1, h2⟩ => by rw [hform] at h2; exact ⟨h2, h1⟩
  have HI := hide (inRange_Cancel a ha)
  rw [hm] at HI
  have hmt := meth_Cancel
  clear hm hform
  go_enter Tryz.func43, Tryz.ntmps43
  go_wp2_with (go_at_call 54; refine (HR.out).mono ?_; rintro e w1 ⟨rfl, hb1⟩)
  refine (HI.out _).mono ?_
  rintro e w2 ⟨rfl, hb2⟩
  go_wp2_with fail
  refine (reply_nil 2 (by omega) _).mono ?_
  rintro e w3 ⟨rfl, hb3⟩
  go_wp2_with fail
  go_ret
  have hb12 := hb1.trans (hb2.mono hb1.size)
  exact ⟨rfl, hb12.trans (hb3.mono hb12.size)⟩

set_option maxHeartbeats 800000 in
theorem num_Ship (w : World) (Lb : Nat) (hg : Gl w) (s : ByteArray) (hs : s.size ≤ 2097152) (a : Nat) (ha : a < 9223372036854775808) (hform : formOf s.data.toList = some (7, [a])) (hm : Pl.mays (Pl.kindsL 7) [a] = false) :
    Calls Tryz.prog 43 #[.pointer (some ⟨Lb, 0, none⟩), .string s] w fun e w' => e = .returned (.string ⟨[2].toArray⟩) ∧ Below w.heap.size w w' := by
  have HR : Hid (Calls Tryz.prog 54 #[.string s] w fun e w' => e = .returned (.tuple #[.iface 150 (.agg #[.int .i64 (a : Int)]), .bool true]) ∧ Below w.heap.size w w') :=
    (read_any s hs w hg).mono fun e w' ⟨h1, h2⟩ => by rw [hform] at h2; exact ⟨h2, h1⟩
  have HI := hide (inRange_Ship a ha)
  rw [hm] at HI
  have hmt := meth_Ship
  clear hm hform
  go_enter Tryz.func43, Tryz.ntmps43
  go_wp2_with (go_at_call 54; refine (HR.out).mono ?_; rintro e w1 ⟨rfl, hb1⟩)
  refine (HI.out _).mono ?_
  rintro e w2 ⟨rfl, hb2⟩
  go_wp2_with fail
  refine (reply_nil 2 (by omega) _).mono ?_
  rintro e w3 ⟨rfl, hb3⟩
  go_wp2_with fail
  go_ret
  have hb12 := hb1.trans (hb2.mono hb1.size)
  exact ⟨rfl, hb12.trans (hb3.mono hb12.size)⟩

set_option maxHeartbeats 800000 in
theorem num_Recall (w : World) (Lb : Nat) (hg : Gl w) (s : ByteArray) (hs : s.size ≤ 2097152) (a b : Nat) (ha : a < 9223372036854775808) (hb : b < 9223372036854775808) (hform : formOf s.data.toList = some (8, [a, b])) (hm : Pl.mays (Pl.kindsL 8) [a, b] = false) :
    Calls Tryz.prog 43 #[.pointer (some ⟨Lb, 0, none⟩), .string s] w fun e w' => e = .returned (.string ⟨[2].toArray⟩) ∧ Below w.heap.size w w' := by
  have HR : Hid (Calls Tryz.prog 54 #[.string s] w fun e w' => e = .returned (.tuple #[.iface 153 (.agg #[.int .i64 (a : Int), .int .i64 (b : Int)]), .bool true]) ∧ Below w.heap.size w w') :=
    (read_any s hs w hg).mono fun e w' ⟨h1, h2⟩ => by rw [hform] at h2; exact ⟨h2, h1⟩
  have HI := hide (inRange_Recall a b ha hb)
  rw [hm] at HI
  have hmt := meth_Recall
  clear hm hform
  go_enter Tryz.func43, Tryz.ntmps43
  go_wp2_with (go_at_call 54; refine (HR.out).mono ?_; rintro e w1 ⟨rfl, hb1⟩)
  refine (HI.out _).mono ?_
  rintro e w2 ⟨rfl, hb2⟩
  go_wp2_with fail
  refine (reply_nil 2 (by omega) _).mono ?_
  rintro e w3 ⟨rfl, hb3⟩
  go_wp2_with fail
  go_ret
  have hb12 := hb1.trans (hb2.mono hb1.size)
  exact ⟨rfl, hb12.trans (hb3.mono hb12.size)⟩

set_option maxHeartbeats 800000 in
theorem num_Release (w : World) (Lb : Nat) (hg : Gl w) (s : ByteArray) (hs : s.size ≤ 2097152) (a b : Nat) (ha : a < 9223372036854775808) (hb : b < 9223372036854775808) (hform : formOf s.data.toList = some (9, [a, b])) (hm : Pl.mays (Pl.kindsL 9) [a, b] = false) :
    Calls Tryz.prog 43 #[.pointer (some ⟨Lb, 0, none⟩), .string s] w fun e w' => e = .returned (.string ⟨[2].toArray⟩) ∧ Below w.heap.size w w' := by
  have HR : Hid (Calls Tryz.prog 54 #[.string s] w fun e w' => e = .returned (.tuple #[.iface 155 (.agg #[.int .i64 (a : Int), .int .i64 (b : Int)]), .bool true]) ∧ Below w.heap.size w w') :=
    (read_any s hs w hg).mono fun e w' ⟨h1, h2⟩ => by rw [hform] at h2; exact ⟨h2, h1⟩
  have HI := hide (inRange_Release a b ha hb)
  rw [hm] at HI
  have hmt := meth_Release
  clear hm hform
  go_enter Tryz.func43, Tryz.ntmps43
  go_wp2_with (go_at_call 54; refine (HR.out).mono ?_; rintro e w1 ⟨rfl, hb1⟩)
  refine (HI.out _).mono ?_
  rintro e w2 ⟨rfl, hb2⟩
  go_wp2_with fail
  refine (reply_nil 2 (by omega) _).mono ?_
  rintro e w3 ⟨rfl, hb3⟩
  go_wp2_with fail
  go_ret
  have hb12 := hb1.trans (hb2.mono hb1.size)
  exact ⟨rfl, hb12.trans (hb3.mono hb12.size)⟩

set_option maxHeartbeats 800000 in
theorem num_Scrap (w : World) (Lb : Nat) (hg : Gl w) (s : ByteArray) (hs : s.size ≤ 2097152) (a b : Nat) (ha : a < 9223372036854775808) (hb : b < 9223372036854775808) (hform : formOf s.data.toList = some (10, [a, b])) (hm : Pl.mays (Pl.kindsL 10) [a, b] = false) :
    Calls Tryz.prog 43 #[.pointer (some ⟨Lb, 0, none⟩), .string s] w fun e w' => e = .returned (.string ⟨[2].toArray⟩) ∧ Below w.heap.size w w' := by
  have HR : Hid (Calls Tryz.prog 54 #[.string s] w fun e w' => e = .returned (.tuple #[.iface 158 (.agg #[.int .i64 (a : Int), .int .i64 (b : Int)]), .bool true]) ∧ Below w.heap.size w w') :=
    (read_any s hs w hg).mono fun e w' ⟨h1, h2⟩ => by rw [hform] at h2; exact ⟨h2, h1⟩
  have HI := hide (inRange_Scrap a b ha hb)
  rw [hm] at HI
  have hmt := meth_Scrap
  clear hm hform
  go_enter Tryz.func43, Tryz.ntmps43
  go_wp2_with (go_at_call 54; refine (HR.out).mono ?_; rintro e w1 ⟨rfl, hb1⟩)
  refine (HI.out _).mono ?_
  rintro e w2 ⟨rfl, hb2⟩
  go_wp2_with fail
  refine (reply_nil 2 (by omega) _).mono ?_
  rintro e w3 ⟨rfl, hb3⟩
  go_wp2_with fail
  go_ret
  have hb12 := hb1.trans (hb2.mono hb1.size)
  exact ⟨rfl, hb12.trans (hb3.mono hb12.size)⟩

set_option maxHeartbeats 800000 in
theorem num_Look (w : World) (Lb : Nat) (hg : Gl w) (s : ByteArray) (hs : s.size ≤ 2097152) (a : Nat) (ha : a < 9223372036854775808) (hform : formOf s.data.toList = some (11, [a])) (hm : Pl.mays (Pl.kindsL 11) [a] = false) :
    Calls Tryz.prog 43 #[.pointer (some ⟨Lb, 0, none⟩), .string s] w fun e w' => e = .returned (.string ⟨[2].toArray⟩) ∧ Below w.heap.size w w' := by
  have HR : Hid (Calls Tryz.prog 54 #[.string s] w fun e w' => e = .returned (.tuple #[.iface 161 (.agg #[.int .i64 (a : Int)]), .bool true]) ∧ Below w.heap.size w w') :=
    (read_any s hs w hg).mono fun e w' ⟨h1, h2⟩ => by rw [hform] at h2; exact ⟨h2, h1⟩
  have HI := hide (inRange_Look a ha)
  rw [hm] at HI
  have hmt := meth_Look
  clear hm hform
  go_enter Tryz.func43, Tryz.ntmps43
  go_wp2_with (go_at_call 54; refine (HR.out).mono ?_; rintro e w1 ⟨rfl, hb1⟩)
  refine (HI.out _).mono ?_
  rintro e w2 ⟨rfl, hb2⟩
  go_wp2_with fail
  refine (reply_nil 2 (by omega) _).mono ?_
  rintro e w3 ⟨rfl, hb3⟩
  go_wp2_with fail
  go_ret
  have hb12 := hb1.trans (hb2.mono hb1.size)
  exact ⟨rfl, hb12.trans (hb3.mono hb12.size)⟩

set_option maxHeartbeats 800000 in
theorem num_Supply (w : World) (Lb : Nat) (hg : Gl w) (s : ByteArray) (hs : s.size ≤ 2097152) (a b : Nat) (ha : a < 9223372036854775808) (hb : b < 9223372036854775808) (hform : formOf s.data.toList = some (12, [a, b])) (hm : Pl.mays (Pl.kindsL 12) [a, b] = false) :
    Calls Tryz.prog 43 #[.pointer (some ⟨Lb, 0, none⟩), .string s] w fun e w' => e = .returned (.string ⟨[2].toArray⟩) ∧ Below w.heap.size w w' := by
  have HR : Hid (Calls Tryz.prog 54 #[.string s] w fun e w' => e = .returned (.tuple #[.iface 164 (.agg #[.int .i64 (a : Int), .int .i64 (b : Int)]), .bool true]) ∧ Below w.heap.size w w') :=
    (read_any s hs w hg).mono fun e w' ⟨h1, h2⟩ => by rw [hform] at h2; exact ⟨h2, h1⟩
  have HI := hide (inRange_Supply a b ha hb)
  rw [hm] at HI
  have hmt := meth_Supply
  clear hm hform
  go_enter Tryz.func43, Tryz.ntmps43
  go_wp2_with (go_at_call 54; refine (HR.out).mono ?_; rintro e w1 ⟨rfl, hb1⟩)
  refine (HI.out _).mono ?_
  rintro e w2 ⟨rfl, hb2⟩
  go_wp2_with fail
  refine (reply_nil 2 (by omega) _).mono ?_
  rintro e w3 ⟨rfl, hb3⟩
  go_wp2_with fail
  go_ret
  have hb12 := hb1.trans (hb2.mono hb1.size)
  exact ⟨rfl, hb12.trans (hb3.mono hb12.size)⟩

end Go.Proofs.YtlmafelclgeccaaGreatDoor
