import Derived.Test.YtcomohmadfnmgaaDoorSt10
namespace Go.Proofs.YtcomohmadfnmgaaDoor
set_option linter.unusedSimpArgs false
set_option linter.unusedVariables false
open Go.RowKit
set_option maxRecDepth 100000

def lotAt (ls : List L) (n : Nat) : L := ls.getD (idx n ls) L0
def mergeC (ls : List L) (a b m : Nat) : Nat :=
  if idx a ls < ls.length ∧ idx b ls < ls.length then
    (if idx a ls = idx b ls ∨ (lotAt ls a).goods ≠ (lotAt ls b).goods then 8 else
      if roomC ls m = 0 then (if (lotAt ls a).free + (lotAt ls b).free = 0 then 7 else if 2147483647 < (lotAt ls a).free + (lotAt ls b).free then 2 else 0) else roomC ls m)
  else 4
def mergeS (ls : List L) (a b m : Nat) : List L :=
  if mergeC ls a b m = 0 then (ls.set (idx a ls) (gaveL (lotAt ls a) (lotAt ls a).free)).set (idx b ls) (gaveL (lotAt ls b) (lotAt ls b).free) ++ [mkL ls m (lotAt ls a).goods (min (lotAt ls a).expiry (lotAt ls b).expiry) ((lotAt ls a).free + (lotAt ls b).free)] else ls

theorem bs_ne {w : World} {S M : Nat} {v : Value} {td : Nat} {bs : List Nat} {pvs : List Value} {ls : List L} (h : PV w S M v td bs pvs ls) {i j : Nat} (hi : i < ls.length) (hj : j < ls.length) (hne : i ≠ j) : bs.getD i 0 ≠ bs.getD j 0 := fun e => hne (by
  have hjb : j < bs.length := by rw [h.len]; exact hj
  have hib : i < bs.length := by rw [h.len]; exact hi
  rw [List.getD_eq_getElem?_getD, List.getD_eq_getElem?_getD, List.getElem?_eq_getElem hjb, List.getElem?_eq_getElem hib] at e
  simp only [Option.getD_some] at e
  exact (List.getElem?_inj hib h.nodup).1 (by rw [List.getElem?_eq_getElem hjb, List.getElem?_eq_getElem hib, e]))

set_option maxHeartbeats 1600000 in
theorem merge_none {w : World} {S M : Nat} {v : Value} {td : Nat} {bs : List Nat} {pvs : List Value} {ls : List L} (hP : PV w S M v td bs pvs ls) (a b m : Nat) (h1 : a ≤ 2147483647) (h2 : b ≤ 2147483647) (h3 : m ≤ 2147483647) (hx : ¬ (idx a ls < ls.length ∧ idx b ls < ls.length)) :
    Calls Tryd.prog 51 #[.pointer (some ⟨S, 0, none⟩), .agg #[.int .i64 (a : Int), .int .i64 (b : Int), .int .i64 (m : Int)]] w fun e w' => e = .returned (.int .i64 4) ∧ Below w.heap.size w w' := by
  have hP1 := hP.below (al1 w (Obj.cells #[.int .i64 (a : Int), .int .i64 (b : Int), .int .i64 (m : Int)] 109)).drew
  have HRA := hide (find_any hP1 a h1)
  have HRB := hide (find_any hP1 b h2)
  have hk0 := heap_alloc_new w (Obj.cells #[.int .i64 (a : Int), .int .i64 (b : Int), .int .i64 (m : Int)] 109)
  by_cases hi : idx a ls < ls.length
  · have hj : ¬ idx b ls < ls.length := fun h => hx ⟨hi, h⟩
    have HFA : Hid (findV bs ls a = .pointer (some ⟨bs.getD (idx a ls) 0, 0, none⟩)) := by unfold Hid findV; rw [if_pos hi]
    have HFB : Hid (findV bs ls b = .pointer none) := by unfold Hid findV; rw [if_neg hj]
    rw [HFA.out] at HRA
    rw [HFB.out] at HRB
    generalize bs.getD (idx a ls) 0 = ba at *
    clear hP hP1 hi hj hx HFA HFB hk0
    go_enter Tryd.func51, Tryd.ntmps51
    go_wp2_with fail
    go_region_held3 (fun w' => w'.cell? ⟨w.heap.size, 0, none⟩ = some (.int .i64 (a : Int)) ∧ w'.cell? ⟨w.heap.size, 1, none⟩ = some (.int .i64 (b : Int))) (go_keep) (first
      | (go_at_call 74; with_reducible refine (HRA.out).mono ?_; rintro e w1 ⟨rfl, rfl⟩)
      | (go_at_call 74; with_reducible refine (HRB.out).mono ?_; rintro e w1 ⟨rfl, rfl⟩))
    go_wp2_with fail
    go_ret
    exact ⟨rfl, (al1 w _).drew⟩
  · have HFA : Hid (findV bs ls a = .pointer none) := by unfold Hid findV; rw [if_neg hi]
    rw [HFA.out] at HRA
    obtain ⟨fb, hfb⟩ : ∃ x, findV bs ls b = .pointer x := by unfold findV; split <;> exact ⟨_, rfl⟩
    rw [hfb] at HRB
    clear hP hP1 hi hx HFA hfb hk0
    go_enter Tryd.func51, Tryd.ntmps51
    go_wp2_with fail
    go_region_held3 (fun w' => w'.cell? ⟨w.heap.size, 0, none⟩ = some (.int .i64 (a : Int)) ∧ w'.cell? ⟨w.heap.size, 1, none⟩ = some (.int .i64 (b : Int))) (go_keep) (first
      | (go_at_call 74; with_reducible refine (HRA.out).mono ?_; rintro e w1 ⟨rfl, rfl⟩)
      | (go_at_call 74; with_reducible refine (HRB.out).mono ?_; rintro e w1 ⟨rfl, rfl⟩))
    go_wp2_with fail
    go_ret
    exact ⟨rfl, (al1 w _).drew⟩

end Go.Proofs.YtcomohmadfnmgaaDoor
