import Derived.Test.YtclipofifmajeaaGreatDoorRefC
namespace Go.Proofs.YtclipofifmajeaaGreatDoor
set_option linter.unusedSimpArgs false
set_option linter.unusedVariables false
open Go.RowKit
set_option maxRecDepth 100000

theorem tU22 : Tryz.prog.underlying 22 = some (.slice 9) := by kernel_rfl

def SB (l : List UInt8) : Value := .string ⟨l.toArray⟩

set_option maxHeartbeats 400000 in
theorem told_nil (w : World) : Calls Tryz.prog 27 #[.slice none 0 0] w fun e w' => e = .returned (.string ⟨#[]⟩) ∧ w' = w := by
  go_enter Tryz.func27, Tryz.ntmps27
  go_wp2_with fail
  refine wp_loop_rounds 1 ?_; rw [rounds_succ]
  go_wp2_with fail
  go_ret
  exact ⟨rfl, rfl⟩

set_option maxHeartbeats 400000 in
theorem told_some (b cap : Nat) (ns : List Nat) (hn : ∀ n ∈ ns, n < 9223372036854775808) (hl : ns.length ≤ 2097152) (w : World) (hbw : b < w.heap.size)
    (hc : ∀ j, j < ns.length → w.cell? ⟨b, j, none⟩ = some (.int .i64 (ns.getD j 0 : Nat))) :
    Calls Tryz.prog 27 #[.slice (some ⟨b, 0, none⟩) ns.length cap] w fun e w' => e = .returned (.string ⟨(Pl.toldB ns).toArray⟩) ∧ Below w.heap.size w w' := by
  go_enter Tryz.func27, Tryz.ntmps27
  go_wp2_with fail
  go_loopw [3, 4] (fun t i wr => ∃ k : Nat, k ≤ ns.length ∧ i = .int .i64 k ∧ t = .string ⟨(Pl.toldB (ns.take k)).toArray⟩ ∧ Below w.heap.size w wr) (fun _ i _ => ns.length - (intOf i).toNat)
  case atStart => exact ⟨0, by omega, rfl, rfl, Below.refl _ _⟩
  case round =>
    obtain ⟨k, hk, rfl, rfl, hb⟩ := hrel
    by_cases hlt : k < ns.length
    · obtain ⟨n, hn0⟩ : ∃ n, n = ns.getD k 0 := ⟨_, rfl⟩
      have hcx : wr.cell? ⟨b, k, none⟩ = some (.int .i64 (n : Int)) := (hb.cell (by exact hbw)).trans (by rw [hn0]; exact hc k hlt)
      have hnl : n < 9223372036854775808 := by rw [hn0]; exact hn _ (by simp [List.getD_eq_getElem?_getD, hlt])
      have h9 := Pl.num_len n hnl
      have htl : (Pl.toldB (ns.take k)).length ≤ 9 * 2097152 := by
        have := Pl.toldB_len (ns.take k) (fun x hx => hn x (List.mem_of_mem_take hx))
        have h2 : (ns.take k).length ≤ k := List.length_take_le _ _
        omega
      have HT : Hid (Pl.toldB (ns.take (k + 1)) = Pl.toldB (ns.take k) ++ Pl.num n) := by rw [Pl.toldB_take ns k hlt, ← hn0]; rfl
      have H1 := hide (number_any _ (n : Int) (Nat.le_refl _) (by omega) (by omega) wr)
      rw [Int.toNat_natCast] at H1
      clear hn0 hc hn
      go_wp2_with (go_at_call 46; refine (H1.out).mono ?_; rintro e w1 ⟨rfl, hb1⟩)
      go_roundw
      case rel => exact ⟨k + 1, by omega, by go_num, by rw [HT.out]; exact congrArg Value.string (ByteArray.mk_append_mk _ _), hb.trans (hb1.mono hb.size)⟩
      case measure => simp [intOf]; omega
    · go_wp2_with fail
      go_ret
      exact ⟨ret_str (by rw [List.take_of_length_le (by omega)]), hb⟩

theorem ret_bool {a b : Bool} (h : a = b) : Ending.returned (.bool a) = .returned (.bool b) := by rw [h]
theorem u8_ne {k c : UInt8} (h : ¬ k = c) : ((k.toNat : Int) == (c.toNat : Int)) = false := by
  rw [beq_eq_false_iff_ne]; intro e; exact h (UInt8.toNat_inj.1 (by omega))

set_option maxHeartbeats 400000 in
theorem may_any (k : UInt8) (n : Nat) (hn : n < 9223372036854775808) (w : World) : Calls Tryz.prog 37 #[.int .u8 (k.toNat : Int), .int .i64 (n : Int)] w fun e w' => e = .returned (.bool (Pl.mayB k n)) ∧ w' = w := by
  by_cases h1 : k = 105
  · subst h1
    rcases (show n = 0 ∨ (1 ≤ n ∧ n ≤ 2147483647) ∨ 2147483647 < n from by omega) with h | h | h
    all_goals
      go_enter Tryz.func37, Tryz.ntmps37
      go_wp2_with fail
      go_ret
      exact ⟨ret_bool (by rw [Bool.eq_iff_iff]; simp [Pl.mayB]; try omega), rfl⟩
  · by_cases h2 : k = 99
    · subst h2
      rcases (show n = 0 ∨ (1 ≤ n ∧ n ≤ 2147483647) ∨ 2147483647 < n from by omega) with h | h | h
      all_goals
        go_enter Tryz.func37, Tryz.ntmps37
        go_wp2_with fail
        go_ret
        exact ⟨ret_bool (by rw [Bool.eq_iff_iff]; simp [Pl.mayB]; try omega), rfl⟩
    · by_cases h3 : k = 100
      · subst h3
        rcases (show n ≤ 2147483647 ∨ 2147483647 < n from by omega) with h | h
        all_goals
          go_enter Tryz.func37, Tryz.ntmps37
          go_wp2_with fail
          go_ret
          exact ⟨ret_bool (by rw [Bool.eq_iff_iff]; simp [Pl.mayB]; try omega), rfl⟩
      · have e1 : ((k.toNat : Int) == 105) = false := u8_ne h1
        have e2 : ((k.toNat : Int) == 99) = false := u8_ne h2
        have e3 : ((k.toNat : Int) == 100) = false := u8_ne h3
        have HM : Hid (Pl.mayB k n = decide (n ≤ 3)) := by simp [Hid, Pl.mayB, h1, h2, h3]
        clear h1 h2 h3
        rcases (show n ≤ 3 ∨ 3 < n from by omega) with h | h
        all_goals
          go_enter Tryz.func37, Tryz.ntmps37
          go_wp2_with fail
          go_ret
          exact ⟨ret_bool (by rw [HM.out, Bool.eq_iff_iff]; simp; try omega), rfl⟩

end Go.Proofs.YtclipofifmajeaaGreatDoor
