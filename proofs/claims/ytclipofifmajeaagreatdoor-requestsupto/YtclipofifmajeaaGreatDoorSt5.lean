import Derived.Test.YtclipofifmajeaaGreatDoorSt4
namespace Go.Proofs.YtclipofifmajeaaGreatDoor
set_option linter.unusedSimpArgs false
set_option linter.unusedVariables false
open Go.RowKit
set_option maxRecDepth 100000

theorem tU56 : Tryz.prog.underlying 68 = some (.map 203 197) := by kernel_rfl

set_option maxHeartbeats 800000 in
theorem recalled_any {w : World} {S : Nat} {M : Mx} {v : Value} {td : Nat} {bs : List Nat} {pvs : List Value} {ls : List L} {os : List O} (h : PV os w S M v td bs pvs ls) :
    Calls Tryz.prog 106 #[.pointer (some ⟨S, 0, none⟩)] w fun e w' => Below w.heap.size w w' ∧ ∃ Mf c, e = .returned (.map (some Mf)) ∧ w'.heap[Mf]? = some (.map #[] c) ∧ w.heap.size ≤ Mf := by
  have hmm := @run_makeMap Tryz.prog
  obtain ⟨c, hM⟩ := h.recalls
  have hb0 := al1 w (Obj.map #[] 0)
  have hM' : (w.alloc (.map #[] 0)).heap[M.r]? = some (.map #[] c) := (hb0.block M.r (blk_lt hM)).trans hM
  have c2 : (w.alloc (.map #[] 0)).cell? ⟨S, 4, none⟩ = some (.map (some M.r)) := (hb0.cell (by exact blk_lt h.store)).trans h.c4
  have hrg := run_range_map (P := Tryz.prog) (w.alloc (.map #[] 0)) 68 203 197 M.r #[] c tU56 hM'
  have hnx : ∀ ty, (Instr.next (.pointer (some ⟨(w.alloc (.map #[] 0)).heap.size, 0, none⟩)) false ty).run Tryz.prog ((w.alloc (.map #[] 0)).alloc (.mapIter (some M.r) c #[] c)) = .ok (.tuple #[.bool false]) ((w.alloc (.map #[] 0)).alloc (.mapIter (some M.r) c #[] c)) := fun ty => by
    rcases run_next_map (P := Tryz.prog) (w.alloc (.map #[] 0)) ty M.r c c #[] #[] c hM' (by simp) (Nat.le_refl _) with ⟨_, h⟩ | ⟨e, he, _⟩
    · exact h
    · exact absurd (mem_left he).1 (by simp)
  have hbf : Below w.heap.size w ((w.alloc (.map #[] 0)).alloc (.mapIter (some M.r) c #[] c)) := hb0.alloc hb0.size _
  have hmf : ((w.alloc (.map #[] 0)).alloc (.mapIter (some M.r) c #[] c)).heap[w.heap.size]? = some (.map #[] 0) := by
    rw [Below.heap_alloc _ _ _ (by simp)]; exact heap_alloc_new w _
  have HG := hide (grow_any (h.below hbf) w.heap.size 0 hmf)
  have HF := hide hmf
  have HB := hide hbf
  simp only [World.size_alloc] at hrg hnx
  clear hM hM' h hbf hmf hb0
  go_enter Tryz.func106, Tryz.ntmps106
  go_wp2_with fail
  refine wp_loop_rounds 1 ?_; rw [rounds_succ]
  go_wp2_with fail
  refine (HG.out).mono ?_
  rintro e w1 ⟨rfl, hb1⟩
  go_wp2_with fail
  go_ret
  refine ⟨HB.out.trans (hb1.mono HB.out.size), w.heap.size, 0, rfl, ?_, Nat.le_refl _⟩
  rw [hb1.block _ (by simp; omega)]; exact HF.out

end Go.Proofs.YtclipofifmajeaaGreatDoor
