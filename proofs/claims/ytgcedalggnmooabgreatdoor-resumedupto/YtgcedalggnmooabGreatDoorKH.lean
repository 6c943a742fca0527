import Derived.Test.YtgcedalggnmooabGreatDoorKQ
import Derived.Test.YtgcedalggnmooabGreatDoorKG
namespace Go.Proofs.YtgcedalggnmooabGreatDoor
set_option linter.unusedSimpArgs false
set_option linter.unusedVariables false
open Go.RowKit
set_option maxRecDepth 100000

/-- A script in memory: five numbers a step. -/
structure Scr (w : World) (b off len : Nat) (X : Nat → Nat → Int) : Prop where
  lt : b < w.heap.size
  raw : ∀ i, i < len → ∀ f, f < 5 → Raw (X i f)
  cell : ∀ i, i < len → ∀ f, f < 5 → w.cell? ⟨b, off + i * 5 + f, none⟩ = some (.int .i64 (X i f))

theorem kinds_len {c : Nat} (h1 : 1 ≤ c) (h2 : c ≤ 12) : (Pl.kindsL c).length ≤ 5 := by
  rcases (show c = 1 ∨ c = 2 ∨ c = 3 ∨ c = 4 ∨ c = 5 ∨ c = 6 ∨ c = 7 ∨ c = 8 ∨ c = 9 ∨ c = 10 ∨ c = 11 ∨ c = 12 by omega) with rfl | rfl | rfl | rfl | rfl | rfl | rfl | rfl | rfl | rfl | rfl | rfl <;> simp [Pl.kindsL]

/-- The command of a script's step. -/
def spX (X : Nat → Nat → Int) (i : Nat) : Nat × List Nat := sp (X i 0) (X i 1) (X i 2) (X i 3) (X i 4)
def cmdX (X : Nat → Nat → Int) (i : Nat) : ByteArray := ⟨(Pl.cmdB (spX X i).1 (spX X i).2).toArray⟩

theorem cmdX_facts (X : Nat → Nat → Int) (i : Nat) : Pl.cmd (cmdX X i).data.toList = .ok (spX X i) ∧ 0 < (cmdX X i).size ∧ (cmdX X i).size ≤ 2097143 ∧ (cmdX X i).data.toList.drop 1 = Pl.toldB (spX X i).2 ∧ (cmdX X i).data.toList.getD 0 0 = UInt8.ofNat (spX X i).1 := by
  obtain ⟨h1, h2, h3, h4, h5⟩ := sp_code (X i 0) (X i 1) (X i 2) (X i 3) (X i 4)
  have hd : (cmdX X i).data.toList = Pl.cmdB (spX X i).1 (spX X i).2 := by unfold cmdX; simp
  have hn : ∀ n ∈ (spX X i).2, n < 9223372036854775808 := fun n hn => by have := h4 n hn; omega
  have hk := kinds_len h1 h2
  have hl := Pl.toldB_len (spX X i).2 hn
  have h3' : (spX X i).2.length = (Pl.kindsL (sp (X i 0) (X i 1) (X i 2) (X i 3) (X i 4)).1).length := h3
  have hs : (cmdX X i).size = 1 + (Pl.toldB (spX X i).2).length := by
    show (Pl.cmdB (spX X i).1 (spX X i).2).toArray.size = _
    unfold Pl.cmdB; simp; omega
  refine ⟨?_, by omega, by omega, by rw [hd]; rfl, by rw [hd]; rfl⟩
  rw [hd]
  exact cmd_cmdB h1 h2 h3 hn h5

theorem spelt_x {w : World} {b off len : Nat} {X : Nat → Nat → Int} (h : Scr w b off len X) (i : Nat) (hi : i < len) (w1 : World) :
    Calls Tryz.prog 13 #[.agg #[.int .i64 (X i 0), .int .i64 (X i 1), .int .i64 (X i 2), .int .i64 (X i 3), .int .i64 (X i 4)]] w1 fun e w' => e = .returned (.string (cmdX X i)) ∧ Below w1.heap.size w1 w' :=
  spelt_any _ _ _ _ _ (h.raw i hi 0 (by omega)) (h.raw i hi 1 (by omega)) (h.raw i hi 2 (by omega)) (h.raw i hi 3 (by omega)) (h.raw i hi 4 (by omega)) w1

theorem handle_x {B : Nat} {w0 w : World} {Z : Nat → Prop} {Lb : Nat} {s : Sv} (h : Kv B w0 w Z Lb s) (hlg : s.lg.length ≤ 35184372088832) (X : Nat → Nat → Int) (i : Nat) :
    Calls Tryz.prog 10 #[.pointer (some ⟨Lb, 0, none⟩), .string (cmdX X i)] w fun e w' => e = .returned (.string ⟨(repV s (.ok (spX X i))).toArray⟩) ∧ ∃ Z', Kv B w0 w' Z' Lb (stepV s (.ok (spX X i))) ∧ Kn Z w Z' w' := by
  obtain ⟨h1, h2, h3, h4, h5⟩ := sp_code (X i 0) (X i 1) (X i 2) (X i 3) (X i 4)
  have hd : (cmdX X i).data.toList = Pl.cmdB (spX X i).1 (spX X i).2 := by unfold cmdX; simp
  have hcf := (cmdX_facts X i).1
  rw [hd] at hcf
  have hsz := (cmdX_facts X i).2.2.1
  have hsl : (cmdX X i).size = (Pl.cmdB (spX X i).1 (spX X i).2).length := by rw [← hd, Array.length_toList]; rfl
  exact handle_kv h (spX X i).1 (spX X i).2 h2 hcf (by omega) (fun _ => hlg)
theorem spX_lg (X : Nat → Nat → Int) (i : Nat) (s : Sv) : (stepV s (.ok (spX X i))).lg.length ≤ s.lg.length + 64 := by
  obtain ⟨h1, h2, h3, h4, h5⟩ := sp_code (X i 0) (X i 1) (X i 2) (X i 3) (X i 4)
  have hk := kinds_len h1 h2
  exact lgC_len s.lg _ (spX X i).1 (spX X i).2 (by have h3' : (spX X i).2.length = _ := h3; omega) (fun n hn => by have := h4 n hn; omega)

end Go.Proofs.YtgcedalggnmooabGreatDoor
