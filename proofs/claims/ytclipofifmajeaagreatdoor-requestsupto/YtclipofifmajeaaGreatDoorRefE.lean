import Derived.Test.YtclipofifmajeaaGreatDoorRefD
namespace Go.Proofs.YtclipofifmajeaaGreatDoor
set_option linter.unusedSimpArgs false
set_option linter.unusedVariables false
open Go.RowKit
set_option maxRecDepth 100000

set_option maxHeartbeats 400000 in
theorem kinds_out (c : Nat) (h : c = 0 ∨ 13 ≤ c) (hc : c < 256) (w : World) : Calls Tryz.prog 35 #[.int .i64 (c : Int)] w fun e w' => e = .returned (.string ⟨(Pl.kindsL c).toArray⟩) ∧ Below w.heap.size w w' := by
  have hk : Pl.kindsL c = [] := by
    rcases h with rfl | h
    · rfl
    · unfold Pl.kindsL; split <;> first | rfl | omega
  rw [hk]
  rcases h with rfl | h
  all_goals
    go_enter Tryz.func35, Tryz.ntmps35
    go_wp2_with fail
    go_ret
    exact ⟨rfl, (Below.refl _ _).alloc (Nat.le_refl _) _⟩

set_option maxHeartbeats 800000 in
theorem kinds_in (c : Nat) (h1 : 1 ≤ c) (h2 : c ≤ 12) (w : World) : Calls Tryz.prog 35 #[.int .i64 (c : Int)] w fun e w' => e = .returned (.string ⟨(Pl.kindsL c).toArray⟩) ∧ Below w.heap.size w w' := by
  rcases (show c = 1 ∨ c = 2 ∨ c = 3 ∨ c = 4 ∨ c = 5 ∨ c = 6 ∨ c = 7 ∨ c = 8 ∨ c = 9 ∨ c = 10 ∨ c = 11 ∨ c = 12 from by omega) with rfl | rfl | rfl | rfl | rfl | rfl | rfl | rfl | rfl | rfl | rfl | rfl
  all_goals
    go_enter Tryz.func35, Tryz.ntmps35
    go_wp2_with fail
    go_ret
    exact ⟨rfl, (Below.refl _ _).alloc (Nat.le_refl _) _⟩

theorem kinds_any (c : Nat) (hc : c < 256) (w : World) : Calls Tryz.prog 35 #[.int .i64 (c : Int)] w fun e w' => e = .returned (.string ⟨(Pl.kindsL c).toArray⟩) ∧ Below w.heap.size w w' := by
  by_cases h : 1 ≤ c ∧ c ≤ 12
  · exact kinds_in c h.1 h.2 w
  · exact kinds_out c (by omega) hc w

end Go.Proofs.YtclipofifmajeaaGreatDoor
