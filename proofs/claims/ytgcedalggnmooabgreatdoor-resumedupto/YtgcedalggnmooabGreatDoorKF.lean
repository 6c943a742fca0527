import Derived.Test.YtgcedalggnmooabGreatDoorKE
namespace Go.Proofs.YtgcedalggnmooabGreatDoor
set_option linter.unusedSimpArgs false
set_option linter.unusedVariables false
open Go.RowKit
set_option maxRecDepth 100000

def sNil : Sv := ⟨0, [], [], [], []⟩

theorem heap_alloc_newK (w : World) (o : Obj) (k : Nat) (h : k = w.heap.size) : (w.alloc o).heap[k]? = some o := by
  subst h; exact heap_alloc_new w o

def newW (w : World) : World :=
  (((((w.alloc (.map #[] 0)).alloc (.map #[] 0)).alloc (.map #[] 0)).alloc (.cells #[.int .i64 0, .slice none 0 0, .map (some w.heap.size), .map (some (w.heap.size + 1)), .map (some (w.heap.size + 1 + 1))] 80)).alloc (.cells #[.pointer (some ⟨w.heap.size + 1 + 1 + 1, 0, none⟩), .slice none 0 0] 53))

theorem new_kv (w : World) (hg : Gl w) : Kv w.heap.size w (newW w) (fun k => w.heap.size ≤ k ∧ k ≤ w.heap.size + 4) (w.heap.size + 1 + 1 + 1 + 1) sNil := by
  have hb : Below w.heap.size w (newW w) := by
    unfold newW
    exact (((((Below.refl _ _).alloc (Nat.le_refl _) _).alloc (by simp) _).alloc (by first | (simp; done) | (simp; omega)) _).alloc (by first | (simp; done) | (simp; omega)) _).alloc (by first | (simp; done) | (simp; omega)) _
  have hsz : (newW w).heap.size = w.heap.size + 5 := by unfold newW; simp
  have b0 : (newW w).heap[w.heap.size]? = some (.map #[] 0) := by
    unfold newW
    exact alloc_old (alloc_old (alloc_old (alloc_old (heap_alloc_new w _) (by first | (simp; done) | (simp; omega))) (by first | (simp; done) | (simp; omega))) (by first | (simp; done) | (simp; omega))) (by first | (simp; done) | (simp; omega))
  have b1 : (newW w).heap[w.heap.size + 1]? = some (.map #[] 0) := by
    unfold newW
    exact alloc_old (alloc_old (alloc_old (heap_alloc_newK _ _ _ (by first | (simp; done) | (simp; omega))) (by first | (simp; done) | (simp; omega))) (by first | (simp; done) | (simp; omega))) (by first | (simp; done) | (simp; omega))
  have b2 : (newW w).heap[w.heap.size + 2]? = some (.map #[] 0) := by
    unfold newW
    exact alloc_old (alloc_old (heap_alloc_newK _ _ _ (by first | (simp; done) | (simp; omega))) (by first | (simp; done) | (simp; omega))) (by first | (simp; done) | (simp; omega))
  have b3 : (newW w).heap[w.heap.size + 3]? = some (.cells #[.int .i64 0, .slice none 0 0, .map (some w.heap.size), .map (some (w.heap.size + 1)), .map (some (w.heap.size + 1 + 1))] 80) := by
    unfold newW
    exact alloc_old (heap_alloc_newK _ _ _ (by first | (simp; done) | (simp; omega))) (by first | (simp; done) | (simp; omega))
  have b4 : (newW w).heap[w.heap.size + 4]? = some (.cells #[.pointer (some ⟨w.heap.size + 1 + 1 + 1, 0, none⟩), .slice none 0 0] 53) := by
    unfold newW
    exact heap_alloc_newK _ _ _ (by simp)
  generalize newW w = W at *
  have hp : PV [] [] W (w.heap.size + 1 + 1 + 1) ⟨w.heap.size + 1 + 1, w.heap.size, w.heap.size + 1⟩ (.slice none 0 0) 0 [] [] [] := ⟨b3, ⟨⟨.map [], owns_nil b2, ⟨rfl, fun a b _ _ => rfl, fun kl h => by cases h⟩⟩, ⟨by simp, by simp, by simp⟩, ⟨.map [], owns_nil b0, ⟨rfl, fun n _ => rfl, fun n _ => rfl, fun kl h => by cases h⟩⟩, ⟨.map [], owns_nil b1, ⟨rfl, fun a b _ _ => rfl, fun a b _ _ => rfl⟩⟩, (by show w.heap.size + 1 + 1 ≠ w.heap.size; omega), (by show w.heap.size + 1 + 1 ≠ w.heap.size + 1; omega), (by show w.heap.size ≠ w.heap.size + 1; omega)⟩, World.ownsRow_nil _ _ _ _, rfl, rfl, fun i h => absurd h (by simp), fun i h => absurd h (by simp), by simp, by omega, fun l h => absurd h (by simp), by simp⟩
  refine ⟨hb, by omega, hg.2.2, hg.below hb, ?_, fun k h => by omega, good_nil⟩
  exact ⟨w.heap.size + 1 + 1 + 1, fun k => w.heap.size ≤ k ∧ k ≤ w.heap.size + 3, .slice none 0 0, b4, by omega, fun h => by omega, fun k h => by omega, ⟨_, _, _, _, hp, ⟨by omega, by show _ ∧ _; simp only []; omega, by show _ ∧ _; simp only []; omega, by show _ ∧ _; simp only []; omega, (fun g h => by cases h), (fun k h => absurd h (by simp)), (fun k h => absurd h (by simp))⟩⟩, ⟨World.ownsRow_nil _ _ _ _, fun _ => rfl⟩, fun k h => by cases h⟩

set_option maxHeartbeats 800000 in
theorem new_any (w : World) (hg : Gl w) :
    Calls Tryz.prog 16 #[] w fun e w' => ∃ Lb Z, e = .returned (.pointer (some ⟨Lb, 0, none⟩)) ∧ Kv w.heap.size w w' Z Lb sNil := by
  have hmm := @run_makeMap Tryz.prog
  go_enter Tryz.func16, Tryz.ntmps16
  go_wp2_with (go_at_call 29; go_in)
  go_ret
  exact ⟨_, _, rfl, new_kv w hg⟩

/-- The two commands with which each larder begins. -/
def head1 : ByteArray := ⟨(Pl.cmdB 2 [13, 9, 5, 100]).toArray⟩
def head2 : ByteArray := ⟨(Pl.cmdB 3 [13, 14, 2]).toArray⟩

set_option maxHeartbeats 800000 in
theorem heads_any (w : World) :
    Calls Tryz.prog 12 #[] w fun e w' => Below w.heap.size w w' ∧ ∃ g, e = .returned (.slice (some ⟨g, 0, none⟩) 2 2) ∧ w.heap.size ≤ g ∧ g < w'.heap.size ∧ w'.cell? ⟨g, 0, none⟩ = some (.string head1) ∧ w'.cell? ⟨g, 1, none⟩ = some (.string head2) := by
  have HC1 := hide (kcommand_lit 2 (by omega) [13, 9, 5, 100] (by simp) (by intro n hn; simp at hn; omega) w)
  have HC2 := hide (fun w1 => kcommand_lit 3 (by omega) [13, 14, 2] (by simp) (by intro n hn; simp at hn; omega) w1)
  obtain ⟨h1, HH1⟩ : ∃ h1, Hid (h1 = head1) := ⟨_, rfl⟩
  obtain ⟨h2, HH2⟩ : ∃ h2, Hid (h2 = head2) := ⟨_, rfl⟩
  have HD1 : Hid (Calls Tryz.prog 22 #[.int .i64 2, .slice (some ⟨w.heap.size, 0, none⟩) 4 4] (w.alloc (.cells #[.int .i64 13, .int .i64 9, .int .i64 5, .int .i64 100] 3)) fun e w' => e = .returned (.string h1) ∧ Below w.heap.size w w') := by rw [HH1.out]; exact HC1.out
  have HD2 : Hid (∀ w1, Calls Tryz.prog 22 #[.int .i64 3, .slice (some ⟨w1.heap.size, 0, none⟩) 3 3] (w1.alloc (.cells #[.int .i64 13, .int .i64 14, .int .i64 2] 3)) fun e w' => e = .returned (.string h2) ∧ Below w1.heap.size w1 w') := by rw [HH2.out]; exact HC2.out
  rw [← HH1.out, ← HH2.out]
  clear HC1 HC2
  go_enter Tryz.func12, Tryz.ntmps12
  go_wp2_with fail
  refine (HD1.out).mono ?_
  rintro e w1 ⟨rfl, hb1⟩
  go_wp2_with fail
  refine (HD2.out _).mono ?_
  rintro e w2 ⟨rfl, hb2⟩
  have HB : Hid (Below w.heap.size w w2) := hb1.trans (hb2.mono hb1.size)
  clear hb1 hb2
  go_wp2_with fail
  go_ret
  refine ⟨HB.out.alloc HB.out.size _, w2.heap.size, rfl, HB.out.size, by simp, ?_, ?_⟩
  · rw [blk_cell (heap_alloc_new w2 _)]; rfl
  · rw [blk_cell (heap_alloc_new w2 _)]; rfl

end Go.Proofs.YtgcedalggnmooabGreatDoor
