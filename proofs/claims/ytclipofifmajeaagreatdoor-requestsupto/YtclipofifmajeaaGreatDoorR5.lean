import Derived.Test.YtclipofifmajeaaGreatDoorR4
namespace Go.Proofs.YtclipofifmajeaaGreatDoor
set_option linter.unusedSimpArgs false
set_option linter.unusedVariables false
open Go.RowKit
set_option maxRecDepth 100000

theorem ret_strB {a b : ByteArray} (h : a = b) : Ending.returned (.string a) = .returned (.string b) := by rw [h]

set_option maxHeartbeats 800000 in
theorem hR_bad (w : World) (R : Nat) (s : ByteArray) (hs : s.size ≤ 2097152) (b : Nat) (hb : b = 1 ∨ b = 2) (hc : Pl.cmd s.data.toList = .error b) :
    Calls Tryz.prog 16 #[.pointer (some ⟨R, 0, none⟩), .string s] w fun e w' => e = .returned (.string ⟨[UInt8.ofNat b].toArray⟩) ∧ Below w.heap.size w w' := by
  have HC : Hid (Calls Tryz.prog 24 #[.string s] w fun e w' => e = .returned (.tuple #[.int .i64 0, .slice none 0 0, .int .i64 (b : Int)]) ∧ Below w.heap.size w w') :=
    (command_any s hs w).mono fun e w' ⟨h1, h2⟩ => by rw [hc] at h2; exact ⟨h2, h1⟩
  have hbb : ((b : Int) != 0) = true := by rw [bne_iff_ne]; omega
  have hb2 : b ≤ 2 := by omega
  clear hc hb
  go_enter Tryz.func16, Tryz.ntmps16
  go_wp2_with (go_at_call 24; refine (HC.out).mono ?_; rintro e w1 ⟨rfl, hb1⟩; have hcv := conv1 w1 (b : Int) (by omega) (by omega) (0, 0))
  go_ret
  exact ⟨ret_strB (by simp), hb1.alloc hb1.size _⟩

/-- What 'does' is asked. -/
def DoesAt (R c : Nat) (ns : List Nat) (w : World) (Q : Ending → World → Prop) : Prop :=
  ∀ gn cap, NS w gn ns → Calls Tryz.prog 25 #[.pointer (some ⟨R, 0, none⟩), .int .i64 (c : Int), .slice (some ⟨gn, 0, none⟩) ns.length cap] w Q

/-- 'Command', where the bytes are a command. -/
theorem command_ok (s : ByteArray) (hs : s.size ≤ 2097152) (w : World) (c : Nat) (ns : List Nat) (hc : Pl.cmd s.data.toList = .ok (c, ns)) :
    Calls Tryz.prog 24 #[.string s] w fun e w' => Below w.heap.size w w' ∧ ∃ gn cap, e = .returned (.tuple #[.int .i64 (c : Int), .slice (some ⟨gn, 0, none⟩) ns.length cap, .int .i64 0]) ∧ NS w' gn ns :=
  (command_any s hs w).mono fun e w' ⟨h1, h2⟩ => by
    rw [hc] at h2
    obtain ⟨g, cap, h3, h4⟩ := h2
    exact ⟨h1, g, cap, h3, NS.of_own h4⟩

set_option maxHeartbeats 800000 in
theorem hR_err (w : World) (R : Nat) (s : ByteArray) (hs : s.size ≤ 2097152) (c : Nat) (ns : List Nat) (hc : Pl.cmd s.data.toList = .ok (c, ns)) (k : Nat) (hk : 0 < k) (hk2 : k < 256) (Q : World → Prop)
    (HD : Hid (∀ w1, Below w.heap.size w w1 → DoesAt R c ns w1 fun e w' => e = .returned (.tuple #[.slice none 0 0, .int .i64 (k : Int)]) ∧ Q w')) :
    Calls Tryz.prog 16 #[.pointer (some ⟨R, 0, none⟩), .string s] w fun e w' => e = .returned (.string ⟨[UInt8.ofNat k].toArray⟩) ∧ ∃ w2, Q w2 ∧ Below w2.heap.size w2 w' := by
  have HC := hide (command_ok s hs w c ns hc)
  have hbb : ((k : Int) != 0) = true := by rw [bne_iff_ne]; omega
  generalize hm : ns.length = m at HC
  have HM := hide hm
  clear hc hm
  go_enter Tryz.func16, Tryz.ntmps16
  go_wp2_with fail
  refine (HC.out).mono ?_
  rintro e w1 ⟨hb1, gn, cap, rfl, hns⟩
  have HD1 := hide (HD.out w1 hb1 gn cap hns)
  rw [HM.out] at HD1
  clear hns
  go_wp2_with fail
  refine (HD1.out).mono ?_
  rintro e w2 ⟨rfl, hq⟩
  have hcv := conv1 w2 (k : Int) (by omega) (by omega) (0, 0)
  go_wp2_with fail
  go_ret
  exact ⟨ret_strB (by simp), w2, hq, al1 w2 _⟩

set_option maxHeartbeats 800000 in
theorem hR_ask (w : World) (R : Nat) (s : ByteArray) (hs : s.size ≤ 2097152) (c : Nat) (hc11 : 11 ≤ c) (hc12 : c ≤ 12) (ns : List Nat) (hc : Pl.cmd s.data.toList = .ok (c, ns)) (rs : List Nat) (hrs : ∀ n ∈ rs, n < 9223372036854775808) (hrl : rs.length ≤ 100)
    (HD : Hid (∀ w1, Below w.heap.size w w1 → DoesAt R c ns w1 fun e w' => Below w1.heap.size w1 w' ∧ ∃ g, e = .returned (.tuple #[.slice (some ⟨g, 0, none⟩) rs.length rs.length, .int .i64 0]) ∧ w'.heap[g]? = some (.cells (I rs).toArray 3 (0, 0)))) :
    Calls Tryz.prog 16 #[.pointer (some ⟨R, 0, none⟩), .string s] w fun e w' => e = .returned (.string ⟨(0 :: Pl.toldB rs).toArray⟩) ∧ Below w.heap.size w w' := by
  have HC := hide (command_ok s hs w c ns hc)
  generalize hm : ns.length = m at HC
  have HM := hide hm
  have hbd := Pl.toldB_len rs hrs
  have HT := hide (fun (b : Nat) (w : World) (hbw : b < w.heap.size) hc => told_some b rs.length rs hrs (by omega) w hbw hc)
  have HCell : Hid (∀ (w : World) (g : Nat), w.heap[g]? = some (.cells (I rs).toArray 3 (0, 0)) → ∀ j, j < rs.length → w.cell? ⟨g, j, none⟩ = some (.int .i64 (rs.getD j 0 : Nat))) := fun w g hg j hj => by
    rw [blk_cell hg]; simp [I, List.getD_eq_getElem?_getD, hj]
  obtain ⟨rl, HRL⟩ : ∃ rl, Hid (rl = rs.length) := ⟨_, rfl⟩
  rw [← HRL.out] at HD HT hrl hbd
  clear hc hm hrs
  go_enter Tryz.func16, Tryz.ntmps16
  go_wp2_with fail
  refine (HC.out).mono ?_
  rintro e w1 ⟨hb1, gn, cap, rfl, hns⟩
  have HD1 := hide (HD.out w1 hb1 gn cap hns)
  rw [HM.out] at HD1
  clear hns
  go_wp2_with fail
  refine (HD1.out).mono ?_
  rintro e w2 ⟨hb2, g, rfl, hg⟩
  have HT2 := hide (HT.out g w2 (blk_lt hg) (by rw [HRL.out]; exact HCell.out w2 g hg))
  clear hg
  go_wp2_with fail
  refine (HT2.out).mono ?_
  rintro e w3 ⟨rfl, hb3⟩
  go_wp2_with fail
  go_ret
  have hb12 := hb1.trans (hb2.mono hb1.size)
  exact ⟨ret_strB (ByteArray.mk_append_mk [0] (Pl.toldB rs)), hb12.trans (hb3.mono hb12.size)⟩

set_option maxHeartbeats 800000 in
theorem hR_log {Z : Nat → Prop} {os : List O} (w : World) (R td : Nat) (rec : ByteArray) (hrec : rec.size ≤ 1000000000000000) (ls : List L) (s : ByteArray) (hs : s.size ≤ 2097143) (c : Nat) (hc10 : c ≤ 10) (ns : List Nat) (hc : Pl.cmd s.data.toList = .ok (c, ns))
    (HD : Hid (∀ w1, Below w.heap.size w w1 → DoesAt R c ns w1 fun e w' => e = .returned (.tuple #[.slice none 0 0, .int .i64 0]) ∧ Kp Z w1 w' ∧ RI os (Zn Z w1) w' R td rec ls)) (hZ : Z R) :
    Calls Tryz.prog 16 #[.pointer (some ⟨R, 0, none⟩), .string s] w fun e w' => e = .returned (.string ⟨[0].toArray⟩) ∧ Kp Z w w' ∧ ∃ rec', rec'.size ≤ rec.size + s.size + 13 ∧ RI os (Zn Z w) w' R td rec' ls := by
  have HC := hide (command_ok s (by omega) w c ns hc)
  generalize hm : ns.length = m at HC
  have HM := hide hm
  clear hc hm
  go_enter Tryz.func16, Tryz.ntmps16
  go_wp2_with fail
  refine (HC.out).mono ?_
  rintro e w1 ⟨hb1, gn, cap, rfl, hns⟩
  have HD1 := hide (HD.out w1 hb1 gn cap hns)
  rw [HM.out] at HD1
  clear hns
  go_wp2_with fail
  refine (HD1.out).mono ?_
  rintro e w2 ⟨rfl, hk, hri⟩
  go_wp2_with fail
  refine (frame_any s hs w2).mono ?_
  rintro e w3 ⟨hb3, f, rfl, hf⟩
  obtain ⟨v, fs, ro, hrv, hz1, hz2, hz3⟩ := hri
  have hrv3 := hrv.below hb3
  have c4 := hrv3.c4
  have f4 := blk_free hrv3.store 4
  have HRV := hide hrv3
  clear hrv hrv3
  go_wp2_with fail
  refine (told_nil _).mono ?_
  rintro e w4 ⟨rfl, rfl⟩
  go_wp2_with fail
  go_ret
  refine ⟨ret_strB (by simp [ByteArray.ext_iff]), ?_, rec ++ f, ?_, v, fs, ro, HRV.out.recs _, ?_, ?_, ?_⟩
  · exact (Kp.before hb1 ((hk.after hb3).mono (fun k h => Or.inl h))).setCell (p := ⟨R, 4, none⟩) (Or.inl hZ) _
  · rw [ByteArray.size_append']; omega
  · exact Or.inl hZ
  · intro g hg
    rcases hz2 g hg with h | h
    · exact Or.inl h
    · exact Or.inr (Nat.le_trans hb1.size h)
  · intro g hg
    rcases hz3 g hg with h | h
    · exact Or.inl h
    · exact Or.inr (Nat.le_trans hb1.size h)

end Go.Proofs.YtclipofifmajeaaGreatDoor
