import Derived.Test.YtclipofifmajeaaGreatDoorRefB
namespace Go.Proofs.YtclipofifmajeaaGreatDoor
set_option linter.unusedSimpArgs false
set_option linter.unusedVariables false
open Go.RowKit
set_option maxRecDepth 100000

/-- The two sentinel errors hold something that is not nil. -/
def Gl (w : World) : Prop := (∃ t v, w.cell? ⟨0, 0, none⟩ = some (.iface t v)) ∧ (∃ t v, w.cell? ⟨1, 0, none⟩ = some (.iface t v)) ∧ 2 ≤ w.heap.size

set_option maxHeartbeats 400000 in
theorem byte_ok (b : Nat) (s : ByteArray) (h0 : 0 < s.size) (w : World) (hc : w.cell? ⟨b, 0, none⟩ = some (.string s)) (hf : w.frozen? ⟨b, 0, none⟩ = false) :
    Calls Tryz.prog 94 #[.pointer (some ⟨b, 0, none⟩)] w fun e w' => e = .returned (.int .u8 (s[0].toNat : Int)) ∧ w' = w.setCell ⟨b, 0, none⟩ (.string (s.extract 1 s.size)) := by
  have hne : s.toList.isEmpty = false := by
    rw [ByteArray.toList_eq]
    cases h : s.data.toList with
    | nil =>
      have hl : s.data.toList.length = s.size := by simp
      rw [h] at hl
      have : s.size = 0 := hl.symm
      omega
    | cons => rfl
  go_enter Tryz.func94, Tryz.ntmps94
  go_wp2_with fail
  go_ret
  exact ⟨rfl, rfl⟩

set_option maxHeartbeats 400000 in
theorem byte_no (b : Nat) (w : World) (hc : w.cell? ⟨b, 0, none⟩ = some (.string ⟨#[]⟩)) (t : TypeId) (v : Value) (hg : w.cell? ⟨1, 0, none⟩ = some (.iface t v)) :
    Calls Tryz.prog 94 #[.pointer (some ⟨b, 0, none⟩)] w fun e w' => e = .panicked [{ v := .iface t v, recovered := false }] ∧ w' = w := by
  go_enter Tryz.func94, Tryz.ntmps94
  go_wp2_with fail
  exact ⟨rfl, rfl, rfl⟩

/-- Of w only block b has turned, a reader whose rest is s. -/
structure Rd (b : Nat) (w w' : World) (s : ByteArray) : Prop where
  os : w'.os = w.os
  tape : w'.tape = w.tape
  output : w'.output = w.output
  size : w'.heap.size = w.heap.size
  block : ∀ k, k ≠ b → w'.heap[k]? = w.heap[k]?
  here : w'.heap[b]? = some (.cells #[.string s] 163 (0, 0))

theorem Rd.cell {b : Nat} {w w' : World} {s : ByteArray} (h : Rd b w w' s) : w'.cell? ⟨b, 0, none⟩ = some (.string s) := by
  simp [World.cell?, h.here]
theorem Rd.frozen {b : Nat} {w w' : World} {s : ByteArray} (h : Rd b w w' s) : w'.frozen? ⟨b, 0, none⟩ = false := by
  simp [World.frozen?, h.here]
theorem Rd.other {b : Nat} {w w' : World} {s : ByteArray} (h : Rd b w w' s) (a : Addr) (ha : a.block ≠ b) : w'.cell? a = w.cell? a := World.cell?_of_block (w := w) (h.block a.block ha)
theorem Rd.trans {b : Nat} {w w' w'' : World} {s t : ByteArray} (h : Rd b w w' s) (k : Rd b w' w'' t) : Rd b w w'' t :=
  ⟨k.os.trans h.os, k.tape.trans h.tape, k.output.trans h.output, k.size.trans h.size, fun i hi => (k.block i hi).trans (h.block i hi), k.here⟩
theorem Rd.refl {b : Nat} {w : World} {s : ByteArray} (h : w.heap[b]? = some (.cells #[.string s] 163 (0, 0))) : Rd b w w s := ⟨rfl, rfl, rfl, rfl, fun _ _ => rfl, h⟩
theorem Rd.set {b : Nat} {w w' : World} {s : ByteArray} (h : Rd b w w' s) (t : ByteArray) : Rd b w (w'.setCell ⟨b, 0, none⟩ (.string t)) t :=
  h.trans ⟨rfl, rfl, rfl, by simp [World.setCell], fun k hk => Below.heap_setCell _ _ _ _ hk, by
    have := heap_setCell_same w' b 0 #[.string s] 163 (.string t) h.here
    simpa using this⟩
theorem Rd.below {b B : Nat} {w w' : World} {s : ByteArray} (h : Rd b w w' s) (hb : B ≤ b) : Below B w w' :=
  ⟨h.os, h.tape, h.output, by rw [h.size]; exact Nat.le_refl _, fun k hk => h.block k (by omega)⟩

theorem Gl.rd {b : Nat} {w w' : World} {s : ByteArray} (h : Gl w) (k : Rd b w w' s) (hb : 2 ≤ b) : Gl w' := by
  obtain ⟨⟨t0, v0, h0⟩, ⟨t1, v1, h1⟩, h2⟩ := h
  exact ⟨⟨t0, v0, by rw [k.other _ (by simp; omega)]; exact h0⟩, ⟨t1, v1, by rw [k.other _ (by simp; omega)]; exact h1⟩, by rw [k.size]; exact h2⟩

/-- A panic with an error, and what is left of the reader. -/
def Broke (b : Nat) (w : World) (e : Ending) (w' : World) : Prop := (∃ t v, e = .panicked [{ v := .iface t v, recovered := false }]) ∧ ∃ s, Rd b w w' s

theorem ba0 (s : ByteArray) (k : Nat) (hk : k < s.size) : (s.extract k s.size)[0]'(by rw [ByteArray.size_extract]; omega) = s[k] := by
  simp [ByteArray.getElem_extract]

theorem ba1 (s : ByteArray) (k : Nat) (hk : k < s.size) : (s.extract k s.size).extract 1 (s.extract k s.size).size = s.extract (k + 1) s.size := by
  apply ByteArray.ext
  simp [ByteArray.data_extract, ByteArray.size_extract]
  congr 1
  omega

end Go.Proofs.YtclipofifmajeaaGreatDoor
