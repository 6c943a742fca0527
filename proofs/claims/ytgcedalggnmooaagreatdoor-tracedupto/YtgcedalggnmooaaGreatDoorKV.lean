import Derived.Test.YtgcedalggnmooaaGreatDoorKW
namespace Go.Proofs.YtgcedalggnmooaaGreatDoor
set_option linter.unusedSimpArgs false
set_option linter.unusedVariables false
open Go.RowKit
set_option maxRecDepth 100000

/-- Look, with one of its numbers. -/
theorem look_num {B : Nat} {w0 w : World} {Z : Nat → Prop} {Lb : Nat} {s : Sv} (h : Kv B w0 w Z Lb s) (i : Nat) (h1 : 1 ≤ i) (h2 : i ≤ 2147483647) (he : lookE s i = 0) :
    Calls Tryz.prog 25 #[.pointer (some ⟨Lb, 0, none⟩), .int .i64 11, .slice (some ⟨w.heap.size, 0, none⟩) 1 1] (w.alloc (.cells #[.int .i64 (i : Int)] 3)) fun e w' => ∃ Z' q qc, e = .returned (.tuple #[.int .i64 0, .slice (some ⟨q, 0, none⟩) 10 qc]) ∧ Kv B w0 w' Z' Lb s ∧ Kn Z w Z' w' ∧ w.heap.size ≤ q ∧ q < w'.heap.size ∧ ∀ k, k < 10 → w'.cell? ⟨q, k, none⟩ = some (.int .i64 ((lookN s i).getD k 0 : Int)) := by
  have hl : (lookN s i).length = 10 := by
    unfold lookE at he
    unfold lookN
    by_cases hi : idx i s.ls < s.ls.length
    · rw [if_pos hi]; rfl
    · rw [if_neg hi] at he; omega
  refine (look_lit h i h1 h2).mono ?_
  rintro e w' ⟨Z', v, rfl, q1, q2, q3, q4⟩
  obtain ⟨q, qc, hv, k1, k2⟩ := own_some q3 (by omega)
  subst hv
  refine ⟨Z', q, qc, by rw [he, hl]; rfl, q1, q2, k1, k2, fun k hk => ownInts_cell q3 k (by omega)⟩
theorem look_no {B : Nat} {w0 w : World} {Z : Nat → Prop} {Lb : Nat} {s : Sv} (h : Kv B w0 w Z Lb s) (i : Nat) (h1 : 1 ≤ i) (h2 : i ≤ 2147483647) (he : ¬ lookE s i = 0) :
    Calls Tryz.prog 25 #[.pointer (some ⟨Lb, 0, none⟩), .int .i64 11, .slice (some ⟨w.heap.size, 0, none⟩) 1 1] (w.alloc (.cells #[.int .i64 (i : Int)] 3)) fun e w' => ∃ Z' v, e = .returned (.tuple #[.int .i64 4, v]) ∧ Kv B w0 w' Z' Lb s ∧ Kn Z w Z' w' := by
  have h4 : lookE s i = 4 := by
    unfold lookE at he ⊢
    split at he
    · exact absurd rfl he
    · rename_i h; rw [if_neg h]
  refine (look_lit h i h1 h2).mono ?_
  rintro e w' ⟨Z', v, rfl, q1, q2, _, _⟩
  exact ⟨Z', v, by rw [h4]; rfl, q1, q2⟩
theorem lookN_lt {B : Nat} {w0 w : World} {Z : Nat → Prop} {Lb : Nat} {s : Sv} (h : Kv B w0 w Z Lb s) (i k : Nat) : (lookN s i).getD k 0 < 9223372036854775808 := by
  have := (lookN_small h i).1
  by_cases hk : k < (lookN s i).length
  · exact this _ (by simp [List.getD_eq_getElem?_getD, hk])
  · simp [List.getD_eq_getElem?_getD, List.getElem?_eq_none (show (lookN s i).length ≤ k by omega)]

theorem look_numx {j B : Nat} {w0 w : World} {Z : Nat → Prop} {Lb : Nat} {s : Sv} (h : Kx j B w0 w Z Lb s) (i : Nat) (h1 : 1 ≤ i) (h2 : i ≤ 2147483647) (he : lookE s i = 0) :
    Calls Tryz.prog 25 #[.pointer (some ⟨Lb, 0, none⟩), .int .i64 11, .slice (some ⟨w.heap.size, 0, none⟩) 1 1] (w.alloc (.cells #[.int .i64 (i : Int)] 3)) fun e w' => ∃ Z' q qc, e = .returned (.tuple #[.int .i64 0, .slice (some ⟨q, 0, none⟩) 10 qc]) ∧ Kx j B w0 w' Z' Lb s ∧ Kn Z w Z' w' ∧ w.heap.size ≤ q ∧ q < w'.heap.size ∧ ∀ k, k < 10 → w'.cell? ⟨q, k, none⟩ = some (.int .i64 ((lookN s i).getD k 0 : Int)) := by
  have hl : (lookN s i).length = 10 := by
    unfold lookE at he
    unfold lookN
    by_cases hi : idx i s.ls < s.ls.length
    · rw [if_pos hi]; rfl
    · rw [if_neg hi] at he; omega
  refine (look_litx h i h1 h2).mono ?_
  rintro e w' ⟨Z', v, rfl, q1, q2, q3, q4⟩
  obtain ⟨q, qc, hv, k1, k2⟩ := own_some q3 (by omega)
  subst hv
  refine ⟨Z', q, qc, by rw [he, hl]; rfl, q1, q2, k1, k2, fun k hk => ownInts_cell q3 k (by omega)⟩
theorem look_nox {j B : Nat} {w0 w : World} {Z : Nat → Prop} {Lb : Nat} {s : Sv} (h : Kx j B w0 w Z Lb s) (i : Nat) (h1 : 1 ≤ i) (h2 : i ≤ 2147483647) (he : ¬ lookE s i = 0) :
    Calls Tryz.prog 25 #[.pointer (some ⟨Lb, 0, none⟩), .int .i64 11, .slice (some ⟨w.heap.size, 0, none⟩) 1 1] (w.alloc (.cells #[.int .i64 (i : Int)] 3)) fun e w' => ∃ Z' v, e = .returned (.tuple #[.int .i64 4, v]) ∧ Kx j B w0 w' Z' Lb s ∧ Kn Z w Z' w' := by
  have h4 : lookE s i = 4 := by
    unfold lookE at he ⊢
    split at he
    · exact absurd rfl he
    · rename_i h; rw [if_neg h]
  refine (look_litx h i h1 h2).mono ?_
  rintro e w' ⟨Z', v, rfl, q1, q2, _, _⟩
  exact ⟨Z', v, by rw [h4]; rfl, q1, q2⟩
theorem lookN_ltx {j B : Nat} {w0 w : World} {Z : Nat → Prop} {Lb : Nat} {s : Sv} (h : Kx j B w0 w Z Lb s) (i k : Nat) : (lookN s i).getD k 0 < 9223372036854775808 := by
  obtain ⟨lg, _, hk⟩ := h
  exact lookN_lt hk i k

def upF (k : Nat) (f : Nat → Value) (z : Value) (j : Nat) : Value := if 1 ≤ j ∧ j ≤ k then f j else z
theorem upF_succ (k : Nat) (f : Nat → Value) (z : Value) : (fun j => if j = k + 1 then f (k + 1) else upF k f z j) = upF (k + 1) f z := by
  funext j
  unfold upF
  by_cases h : j = k + 1
  · subst h; rw [if_pos rfl, if_pos ⟨by omega, by omega⟩]
  · rw [if_neg h]
    by_cases h2 : 1 ≤ j ∧ j ≤ k
    · rw [if_pos h2, if_pos ⟨h2.1, by omega⟩]
    · rw [if_neg h2, if_neg (by omega)]
theorem upF_zero (f : Nat → Value) (z : Value) : upF 0 f z = fun _ => z := by
  funext j; unfold upF; rw [if_neg (by omega)]
theorem upF_skip {k : Nat} {f : Nat → Value} {z : Value} (h : f (k + 1) = z) : upF k f z = upF (k + 1) f z := by
  rw [← upF_succ]
  funext j
  by_cases hj : j = k + 1
  · subst hj; rw [if_pos rfl, h]; unfold upF; rw [if_neg (by omega)]
  · rw [if_neg hj]

end Go.Proofs.YtgcedalggnmooaaGreatDoor
