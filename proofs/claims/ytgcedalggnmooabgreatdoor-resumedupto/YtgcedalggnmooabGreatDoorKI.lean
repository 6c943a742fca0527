import Derived.Test.YtgcedalggnmooabGreatDoorKH
import Derived.Deep.Slices
namespace Go.Proofs.YtgcedalggnmooabGreatDoor
set_option linter.unusedSimpArgs false
set_option linter.unusedVariables false
open Go.RowKit Go.ChangeShapes Go.WideShapes
set_option maxRecDepth 100000

theorem tUOp : (Tryz.prog.underlying 35).map (fun d => match d with | .struct fs => some (fs.toList.map (fun f => (f.type, f.offset))) | _ => none) = some (some [(3, 0), (3, 1), (3, 2), (3, 3), (3, 4)]) := by kernel_rfl
theorem cellsOp : Tryz.prog.cellsOf 35 = 5 := by kernel_rfl
theorem cells3' : Tryz.prog.cellsOf 3 = 1 := by kernel_rfl
theorem opFields : ∃ fs : Array Field, Tryz.prog.underlying 35 = some (.struct fs) ∧ ∀ i, i < 5 → ∃ f, fs[i]? = some f ∧ f.type = 3 ∧ f.offset = i := by
  have h := tUOp
  cases hu : Tryz.prog.underlying 35 with
  | none => rw [hu] at h; simp at h
  | some d =>
    rw [hu] at h
    simp only [Option.map_some, Option.some.injEq] at h
    split at h
    · rename_i fs
      refine ⟨fs, rfl, fun i hi => ?_⟩
      have h' : fs.toList.map (fun f => (f.type, f.offset)) = [(3, 0), (3, 1), (3, 2), (3, 3), (3, 4)] := by simpa using h
      have hl : fs.size = 5 := by have := congrArg List.length h'; simpa using this
      refine ⟨fs[i], by simp [hl, hi], ?_⟩
      have hg : (fs.toList.map (fun f => (f.type, f.offset)))[i]? = some (fs[i].type, fs[i].offset) := by simp [hl, hi]
      rw [h'] at hg
      rcases (show i = 0 ∨ i = 1 ∨ i = 2 ∨ i = 3 ∨ i = 4 by omega) with rfl | rfl | rfl | rfl | rfl <;> (simp at hg; exact ⟨hg.1.symm, hg.2.symm⟩)
    · simp at h

theorem op_cells {H : Type} {enc : TypeId × Value → H} {W : World} {n : Nat} {a : Addr} {cs : List Value} {x : DataW H × List MemPlace} (h1 : W.cells? 0 a 5 = some cs) (h2 : DataW.trod enc Tryz.prog W 0 (fun _ => true) true n 35 cs = some x) :
    ∃ v : Nat → Int, ∀ f, f < 5 → Raw (v f) ∧ W.cell? (a.add f) = some (.int .i64 (v f)) := by
  obtain ⟨fs, hu, hf⟩ := opFields
  obtain ⟨_, hlen, hcell⟩ := World.cells?_some h1
  obtain ⟨xs, k, hk, hxy, _, hxl, hall⟩ := DataW.trod_struct hu h2
  have each : ∀ f, f < 5 → ∃ v : Int, Raw v ∧ W.cell? (a.add f) = some (.int .i64 v) := fun f hf5 => by
    obtain ⟨fd, hfd, ht, ho⟩ := hf f hf5
    have hg := hall f fd hfd
    rw [ht, ho, cells3'] at hg
    have hfx : f < xs.length := by
      rw [hxl]
      rcases Nat.lt_or_ge f fs.size with h | h
      · exact h
      · rw [Array.getElem?_eq_none h] at hfd; cases hfd
    rw [List.getElem?_eq_getElem hfx] at hg
    obtain ⟨m, hm, _, hwf⟩ := DataW.trod_int tU3 hg
    have hfc : f < cs.length := by omega
    have e : (cs.drop f).take 1 = [cs[f]] := by
      rw [List.drop_eq_getElem_cons hfc]; rfl
    rw [e] at hm
    simp at hm
    refine ⟨m, ?_, ?_⟩
    · have hw : (decide (IntKind.min .i64 ≤ m) && decide (m ≤ IntKind.max .i64)) = true := hwf
      rw [Bool.and_eq_true, decide_eq_true_eq, decide_eq_true_eq] at hw
      exact hw
    · rw [hcell f hf5, List.getElem?_eq_getElem hfc, hm]
  refine ⟨fun f => if h : f < 5 then (each f h).choose else 0, fun f hf5 => ?_⟩
  have := (each f hf5).choose_spec
  simp only [hf5, dif_pos]
  exact this

theorem open_script {H : Type} {enc : TypeId × Value → H} {W : World} {a0 : Option Addr} {len cap fuel : Nat} {x : DataW H × List MemPlace}
    (hf : DataW.trod enc Tryz.prog W 0 (fun _ => true) true fuel 22 [.slice a0 len cap] = some x) :
    len ≤ 9223372036854775807 ∧ ∃ X : Nat → Nat → Int, 0 < len → ∃ b off, a0 = some ⟨b, off, none⟩ ∧ Scr W b off len X := by
  rcases Go.Deep.open_slice Tryz.underlying22 hf with ⟨hcs, hx⟩ | ⟨a, len', cap', m, n, D, Pl, hcs, _, hl, hm, hmm, hx, hcell⟩
  · simp at hcs
    exact ⟨by omega, fun _ _ => 0, fun h => by omega⟩
  · simp at hcs
    obtain ⟨rfl, rfl, rfl⟩ := hcs
    simp only [if_true] at hmm
    subst hmm
    have hml : m ≤ 9223372036854775807 := by unfold maxLen at hm; omega
    refine ⟨by omega, ?_⟩
    have each : ∀ i, i < m → ∃ v : Nat → Int, ∀ f, f < 5 → Raw (v f) ∧ W.cell? ((a.add (i * 5)).add f) = some (.int .i64 (v f)) := fun i hi => by
      obtain ⟨cs', h1, h2⟩ := hcell i hi
      rw [cellsOp] at h1
      exact op_cells h1 h2
    refine ⟨fun i => if h : i < m then (each i h).choose else fun _ => 0, fun hpos => ?_⟩
    obtain ⟨b, off, spot⟩ := a
    have h00 := ((each 0 (by omega)).choose_spec 0 (by omega)).2
    have hspot : spot = none := by simpa [Addr.add] using World.cell?_spot h00
    subst hspot
    have hadd : ∀ i f, Addr.add (Addr.add ⟨b, off, none⟩ (i * 5)) f = ⟨b, off + i * 5 + f, none⟩ := fun i f => by rw [add_plain, add_plain]
    refine ⟨b, off, rfl, ?_, fun i hi f hf5 => ?_, fun i hi f hf5 => ?_⟩
    · rw [hadd] at h00
      rcases Nat.lt_or_ge b W.heap.size with h' | h'
      · exact h'
      · simp [World.cell?, Array.getElem?_eq_none h'] at h00
    · have hi' : i < m := by omega
      simp only [hi', dif_pos]
      exact ((each i hi').choose_spec f hf5).1
    · have hi' : i < m := by omega
      simp only [hi', dif_pos]
      rw [← hadd]
      exact ((each i hi').choose_spec f hf5).2

end Go.Proofs.YtgcedalggnmooabGreatDoor
