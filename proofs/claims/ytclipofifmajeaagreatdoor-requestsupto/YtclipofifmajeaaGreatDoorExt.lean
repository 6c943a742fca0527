import Derived.Test.YtclipofifmajeaaGreatDoorSt5
namespace Go.Proofs.YtclipofifmajeaaGreatDoor
set_option linter.unusedSimpArgs false
set_option linter.unusedVariables false
open Go.RowKit
set_option maxRecDepth 100000

/-- How many draws, and which blocks. -/
structure Ex where
  n : Nat
  os : Array Obj

/-- w with blocks more, and draws. -/
def ext (w : World) (x : Ex) : World := { w with heap := w.heap ++ x.os, drawn := w.drawn + x.n }

theorem ext_below (w : World) (x : Ex) : Below w.heap.size w (ext w x) :=
  ⟨rfl, rfl, rfl, by simp [ext], fun k hk => by simp [ext, Array.getElem?_append_left hk]⟩

theorem ext_alloc (w : World) (x : Ex) (o : Obj) : (ext w x).alloc o = ext w ⟨x.n, x.os.push o⟩ := by
  show ({ w with heap := (w.heap ++ x.os).push o, drawn := w.drawn + x.n } : World) = { w with heap := w.heap ++ x.os.push o, drawn := w.drawn + x.n }
  rw [Array.append_push]

theorem wp_region_ext {P : Program} {id : Nat} {Q : Exit → Act → World → Prop} {a : Act} {w : World} {l : List Oper} (hm : P.follows .mixedOrders = true) (hB : Region.lexB .any l.toArray = true)
    (h : wpQuiet P l.toArray (fun w' => ∃ x, w' = ext w x) (fun a' => ∀ w', (∃ x, w' = ext w x) → Q .normal a' w') l a) : (Code.region id l.toArray true).wp P Q a w :=
  wp_region_quiet (C := fun w' => ∃ x, w' = ext w x) hm hB ⟨⟨1, #[]⟩, by simp [ext]⟩ (by simpa using h)

set_option maxHeartbeats 800000 in
theorem has_ext (Mf b n c : Nat) (w : World) (hm : w.heap[Mf]? = some (.map #[] c)) (hb : w.cell? ⟨b, 0, none⟩ = some (.int .i64 (n : Int))) (hbl : b < w.heap.size) (x : Ex) :
    Calls Tryz.prog 107 #[.map (some Mf), .pointer (some ⟨b, 0, none⟩)] (ext w x) fun e w' => e = .returned (.bool false) ∧ ∃ x', w' = ext w x' := by
  have hb' : (ext w x).cell? ⟨b, 0, none⟩ = some (.int .i64 (n : Int)) := ((ext_below w x).cell (by exact hbl)).trans hb
  have hlk := look_empty (ext w x) Mf c n (((ext_below w x).block Mf (blk_lt hm)).trans hm)
  go_enter Tryz.func107, Tryz.ntmps107
  go_wp2_with fail
  go_ret
  exact ⟨rfl, _, ext_alloc w x _⟩

end Go.Proofs.YtclipofifmajeaaGreatDoor
