import Derived.Test.YtgcedalggnmooaaGreatDoorKG
import Derived.Deep.OwnRows
namespace Go.Proofs.YtgcedalggnmooaaGreatDoor
set_option linter.unusedSimpArgs false
set_option linter.unusedVariables false
open Go.RowKit
set_option maxRecDepth 100000

/-- A cell outside of all that the larder uses is written. -/
theorem Kv.setC {B : Nat} {w0 w : World} {Z : Nat → Prop} {Lb : Nat} {s : Sv} (h : Kv B w0 w Z Lb s) {b : Nat} (hz : ¬ Z b) (hB : B ≤ b) (i : Nat) (u : Value) : Kv B w0 (w.setCell ⟨b, i, none⟩ u) Z Lb s := by
  have hsz : (w.setCell ⟨b, i, none⟩ u).heap.size = w.heap.size := by simp [World.setCell]
  have hne : ∀ k, k ≠ b → (w.setCell ⟨b, i, none⟩ u).heap[k]? = w.heap[k]? := fun k hk => Below.heap_setCell _ _ _ _ hk
  have h2 := h.two
  refine ⟨⟨h.old.os, h.old.tape, h.old.output, by rw [hsz]; exact h.old.size, fun k hk => (hne k (by omega)).trans (h.old.block k hk)⟩, by rw [hsz]; exact h.size, h.two, ?_, h.pl.congr (fun k hk => hne k (fun e => hz (e ▸ hk))), fun k hk => by rw [hsz]; exact h.zin k hk, h.good⟩
  obtain ⟨⟨t0, v0, g0⟩, ⟨t1, v1, g1⟩, g2⟩ := h.gl
  exact ⟨⟨t0, v0, (World.cell?_of_block (a := ⟨2, 0, none⟩) (hne 2 (by omega))).trans g0⟩, ⟨t1, v1, (World.cell?_of_block (a := ⟨3, 0, none⟩) (hne 3 (by omega))).trans g1⟩, by rw [hsz]; exact g2⟩

theorem Kx.setC {j B : Nat} {w0 w : World} {Z : Nat → Prop} {Lb : Nat} {s : Sv} (h : Kx j B w0 w Z Lb s) {b : Nat} (hz : ¬ Z b) (hB : B ≤ b) (i : Nat) (u : Value) : Kx j B w0 (w.setCell ⟨b, i, none⟩ u) Z Lb s := by
  obtain ⟨lg, h1, h2⟩ := h
  exact ⟨lg, h1, h2.setC hz hB i u⟩

theorem Kn.setC {Z Z' : Nat → Prop} {w w' : World} (h : Kn Z w Z' w') {b : Nat} (hb : w.heap.size ≤ b) (i : Nat) (u : Value) : Kn Z w Z' (w'.setCell ⟨b, i, none⟩ u) :=
  ⟨by simp [World.setCell]; exact h.size, fun k hk hz => ⟨(Below.heap_setCell _ _ _ _ (show k ≠ b by omega)).trans (h.keep k hk hz).1, (h.keep k hk hz).2⟩⟩

/-- A row of fourteen. -/
def R14 (t : TypeId) (w : World) (b : Nat) (g : Nat → Value) : Prop := ∃ cs, w.heap[b]? = some (.cells cs t (0, 0)) ∧ cs.size = 14 ∧ ∀ i, i < 14 → cs[i]? = some (g i)
theorem R14.lt {t : TypeId} {w : World} {b : Nat} {g : Nat → Value} (h : R14 t w b g) : b < w.heap.size := by
  obtain ⟨cs, h1, _⟩ := h; exact blk_lt h1
theorem R14.cell {t : TypeId} {w : World} {b : Nat} {g : Nat → Value} (h : R14 t w b g) (i : Nat) (hi : i < 14) : w.cell? ⟨b, i, none⟩ = some (g i) := by
  obtain ⟨cs, h1, _, h3⟩ := h; rw [blk_cell h1]; exact h3 i hi
theorem R14.kn {t : TypeId} {Z Z' : Nat → Prop} {w w' : World} {b : Nat} {g : Nat → Value} (h : R14 t w b g) (hz : ¬ Z b) (hk : Kn Z w Z' w') : R14 t w' b g ∧ ¬ Z' b := by
  have hlt := h.lt
  obtain ⟨cs, h1, h2⟩ := h
  exact ⟨⟨cs, (hk.keep b hlt hz).1.trans h1, h2⟩, (hk.keep b hlt hz).2⟩
theorem R14.below {t : TypeId} {w w' : World} {b : Nat} {g : Nat → Value} (h : R14 t w b g) (hb : Below w.heap.size w w') : R14 t w' b g := by
  have hlt := h.lt
  obtain ⟨cs, h1, h2⟩ := h
  exact ⟨cs, (hb.block b hlt).trans h1, h2⟩
theorem R14.other {t : TypeId} {w : World} {b c : Nat} {g : Nat → Value} (h : R14 t w b g) (hne : b ≠ c) (i : Nat) (u : Value) : R14 t (w.setCell ⟨c, i, none⟩ u) b g := by
  obtain ⟨cs, h1, h2⟩ := h
  exact ⟨cs, (Below.heap_setCell _ _ _ _ hne).trans h1, h2⟩
theorem R14.set {t : TypeId} {w : World} {b : Nat} {g : Nat → Value} (h : R14 t w b g) (i : Nat) (hi : i < 14) (x : Value) : R14 t (w.setCell ⟨b, i, none⟩ x) b (fun j => if j = i then x else g j) := by
  obtain ⟨cs, h1, h2, h3⟩ := h
  refine ⟨cs.setIfInBounds i x, heap_setCell_same w b i cs t _ h1, by simp [h2], fun j hj => ?_⟩
  by_cases hij : j = i
  · subst hij; simp [h2, hj]
  · rw [Array.getElem?_setIfInBounds_ne (by omega)]; show cs[j]? = some (if j = i then x else g j); rw [if_neg hij]; exact h3 j hj
theorem R14.new (t : TypeId) (w : World) (cs : Array Value) (h2 : cs.size = 14) (g : Nat → Value) (h3 : ∀ i, i < 14 → cs[i]? = some (g i)) : R14 t (w.alloc (.cells cs t)) w.heap.size g := ⟨cs, heap_alloc_new w _, h2, h3⟩
theorem R14.congr {t : TypeId} {w : World} {b : Nat} {f g : Nat → Value} (h : R14 t w b f) (e : ∀ i, i < 14 → f i = g i) : R14 t w b g := by
  obtain ⟨cs, h1, h2, h3⟩ := h
  exact ⟨cs, h1, h2, fun i hi => by rw [← e i hi]; exact h3 i hi⟩

theorem info3K : (Tryz.prog.info? 3).map (fun i => (i.zero, i.size, i.bytes)) = some (some (.int .i64 0), 1, 8) := by kernel_rfl
theorem info4K : (Tryz.prog.info? 4).map (fun i => (i.zero, i.size, i.bytes)) = some (some (.bool false), 1, 1) := by kernel_rfl
theorem tUBools : Tryz.prog.underlying 70 = some (.slice 4) := by kernel_rfl
def z14 (v : Value) : Array Value := madeCells #[v] 14
theorem z14_size (v : Value) : (z14 v).size = 14 := size_madeCells _ _
theorem z14_get (v : Value) (i : Nat) (hi : i < 14) : (z14 v)[i]? = some v := by
  unfold z14 madeCells
  simp [hi, Nat.mod_one]
theorem mk14 (w : World) : (Instr.makeSlice 55 (.int .i64 14) (.int .i64 14)).run Tryz.prog w = .ok (.slice (some ⟨w.heap.size, 0, none⟩) 14 14) (w.alloc (.cells (z14 (.int .i64 0)) 3)) :=
  run_make_row' (P := Tryz.prog) 55 3 (.int .i64 0) 8 tU48 info3K rfl .i64 .i64 14 (by decide) (by decide) w
theorem mkB14 (w : World) : (Instr.makeSlice 70 (.int .i64 14) (.int .i64 14)).run Tryz.prog w = .ok (.slice (some ⟨w.heap.size, 0, none⟩) 14 14) (w.alloc (.cells (z14 (.bool false)) 4)) :=
  run_make_row' (P := Tryz.prog) 70 4 (.bool false) 1 tUBools info4K rfl .i64 .i64 14 (by decide) (by decide) w
theorem mk14_row (w : World) : R14 3 (w.alloc (.cells (z14 (.int .i64 0)) 3)) w.heap.size (fun _ => .int .i64 0) := R14.new 3 w _ (z14_size _) _ (fun i hi => z14_get _ i hi)
theorem mkB14_row (w : World) : R14 4 (w.alloc (.cells (z14 (.bool false)) 4)) w.heap.size (fun _ => .bool false) := R14.new 4 w _ (z14_size _) _ (fun i hi => z14_get _ i hi)

end Go.Proofs.YtgcedalggnmooaaGreatDoor
