import Derived.Test.YtclipofifmajeaaGreatDoorTop1
namespace Go.Proofs.YtclipofifmajeaaGreatDoor
set_option linter.unusedSimpArgs false
set_option linter.unusedVariables false
open Go.RowKit
set_option maxRecDepth 100000

/-- Is a command's code one of these? -/
def allowB (l codes : List UInt8) : Bool := match l with
  | [] => true
  | c :: _ => codes.any (· == c)

set_option maxHeartbeats 800000 in
theorem allowed_empty (codes : ByteArray) (w : World) : Calls Tryz.prog 10 #[.string ⟨#[]⟩, .string codes] w fun e w' => e = .returned (.bool true) ∧ Below w.heap.size w w' := by
  go_enter Tryz.func10, Tryz.ntmps10
  go_wp2_with fail
  go_ret
  exact ⟨rfl, Below.refl _ _⟩

set_option maxHeartbeats 800000 in
theorem allowed_some (s codes : ByteArray) (hs : 0 < s.size) (hs2 : s.size ≤ 2097152) (hc : codes.size ≤ 100) (w : World) : Calls Tryz.prog 10 #[.string s, .string codes] w fun e w' => e = .returned (.bool (codes.data.toList.any (· == s[0]))) ∧ Below w.heap.size w w' := by
  have hne := not_empty s hs
  go_enter Tryz.func10, Tryz.ntmps10
  go_wp2_with fail
  go_loopw [5] (fun i wr => ∃ k : Nat, k ≤ codes.size ∧ i = .int .i64 k ∧ (∀ j, j < k → codes.data.toList.getD j 0 ≠ s[0]) ∧ ∃ nq, wr = w.drewN nq) (fun i _ => codes.size - (intOf i).toNat)
  case atStart => exact ⟨0, by omega, rfl, fun j h => absurd h (by omega), 0, rfl⟩
  case round =>
    obtain ⟨k, hk, rfl, hall, nq0, hwr⟩ := hrel
    have HW := hide hwr
    clear hwr
    by_cases hlt : k < codes.size
    · have hg := ba_getD codes k hlt
      by_cases hq : codes[k] = s[0]
      · have hqb : ((codes[k].toNat : Int) == (s[0].toNat : Int)) = true := by rw [hq]; simp
        have HY : Hid (codes.data.toList.any (· == s[0]) = true) := by
          refine List.any_eq_true.2 ⟨codes[k], ?_, by simp [hq]⟩
          have hl : k < codes.data.toList.length := by simpa using hlt
          rw [← hg, List.getD_eq_getElem?_getD, List.getElem?_eq_getElem hl]
          exact List.getElem_mem hl
        clear hq hg
        go_wp2_with fail
        go_quiet (fail)
        go_wp2_with fail
        go_ret
        exact ⟨ret_bool HY.out.symm, by rw [HW.out]; exact below_drewN (below_drewN (Below.refl _ _) _) _⟩
      · have hqb : ((codes[k].toNat : Int) == (s[0].toNat : Int)) = false := u8_ne hq
        have HQ := hide hq
        have HG := hide hg
        clear hq hg
        go_wp2_with fail
        go_quiet (fail)
        go_wp2_with fail
        go_roundw
        case rel =>
          refine ⟨k + 1, by omega, by go_num, ?_, nq0 + nq, by rw [HW.out]; simp⟩
          intro j hj
          by_cases hjk : j = k
          · subst hjk; rw [HG.out]; exact HQ.out
          · exact hall j (by omega)
        case measure => simp [intOf]; omega
    · have HY : Hid (codes.data.toList.any (· == s[0]) = false) := by
        apply Bool.eq_false_iff.2
        intro h
        obtain ⟨x, hx, he⟩ := List.any_eq_true.1 h
        obtain ⟨j, hj, rfl⟩ := List.getElem_of_mem hx
        have := hall j (by have : codes.data.toList.length = codes.size := by simp
                           omega)
        rw [List.getD_eq_getElem?_getD, List.getElem?_eq_getElem hj] at this
        exact this (by simpa using he)
      go_wp2_with fail
      go_ret
      exact ⟨ret_bool HY.out.symm, by rw [HW.out]; exact below_drewN (Below.refl _ _) _⟩

theorem allowed_any (s codes : ByteArray) (hs2 : s.size ≤ 2097152) (hc : codes.size ≤ 100) (w : World) : Calls Tryz.prog 10 #[.string s, .string codes] w fun e w' => e = .returned (.bool (allowB s.data.toList codes.data.toList)) ∧ Below w.heap.size w w' := by
  by_cases h0 : 0 < s.size
  · have hl : s.data.toList = s[0] :: s.data.toList.drop 1 := by
      have h1 : 0 < s.data.toList.length := by simpa using h0
      have h2 : s.data.toList[0] :: s.data.toList.drop (0 + 1) = s.data.toList.drop 0 := List.getElem_cons_drop h1
      rw [List.drop_zero] at h2
      exact h2.symm
    refine (allowed_some s codes h0 hs2 hc w).mono ?_
    rintro e w' ⟨h1, h2⟩
    rw [hl]; exact ⟨h1, h2⟩
  · have he : s = ⟨#[]⟩ := by
      apply ByteArray.ext
      apply Array.eq_empty_of_size_eq_zero
      have : s.data.size = s.size := rfl
      omega
    subst he
    exact allowed_empty codes w

end Go.Proofs.YtclipofifmajeaaGreatDoor
