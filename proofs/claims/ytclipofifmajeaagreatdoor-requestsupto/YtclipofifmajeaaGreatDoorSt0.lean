import Derived.Test.YtclipofifmajeaaGreatDoorRefD
import Derived.Test.YtclipofifmajeaaGreatDoorMp0
import Derived.Test.YtclipofifmajeaaGreatDoorRefF
import Derived.Deep.QuietTactic
import Derived.BigQuiet
namespace Go.Proofs.YtclipofifmajeaaGreatDoor
set_option linter.unusedSimpArgs false
set_option linter.unusedVariables false
open Go.RowKit
set_option maxRecDepth 100000

/-- A lot, as both sides have it. -/
structure L where
  id : Nat
  goods : Nat
  expiry : Nat
  place : Nat
  got : Nat
  free : Nat
  held : Nat
  shipped : Nat
  scrapped : Nat
  given : Nat

def L0 : L := ⟨0, 0, 0, 0, 0, 0, 0, 0, 0, 0⟩

def i64 (n : Nat) : Value := .int .i64 (n : Int)

/-- The program's lot in memory. -/
def lotCells (l : L) (pv : Value) : Array Value :=
  #[.int .i64 (l.id : Int), .int .i64 (l.goods : Int), .int .i64 (l.expiry : Int), .int .i64 (l.place : Int), pv, .int .i64 (l.got : Int), .int .i64 (l.free : Int), .int .i64 (l.held : Int), .int .i64 (l.shipped : Int), .int .i64 (l.scrapped : Int), .int .i64 (l.given : Int)]

def ptrs (bs : List Nat) : List Value := bs.map fun b => Value.pointer (some ⟨b, 0, none⟩)

/-- A lot's numbers are small. -/
structure L.Ok (l : L) : Prop where
  id : l.id ≤ 2147483647
  goods : l.goods ≤ 2147483647
  expiry : l.expiry ≤ 2147483647
  place : l.place ≤ 30
  sum : l.free + l.held + l.shipped + l.scrapped + l.given ≤ 2147483647
  got : l.got ≤ 2147483647

/-- A lot's parents in memory. -/
def Par (w : World) (pv : Value) : Prop :=
  pv = .slice none 0 0 ∨ ∃ q n cap cs, pv = .slice (some ⟨q, 0, none⟩) n cap ∧ n ≤ 2 ∧ w.heap[q]? = some (.cells cs 177 (0, 0)) ∧ ∀ j, j < n → ∃ x y : Nat, cs[2 * j]? = some (.int .i64 (x : Int)) ∧ cs[2 * j + 1]? = some (.int .i64 (y : Int))

structure PV (os : List O) (w : World) (S : Nat) (M : Mx) (v : Value) (td : Nat) (bs : List Nat) (pvs : List Value) (ls : List L) : Prop where
  store : w.heap[S]? = some (.cells #[.int .i64 (td : Int), v, .map (some M.o), .map (some M.h), .map (some M.r)] 71 (0, 0))
  maps : Mp os w M
  row : w.ownsRow 0 174 1 v bs.length (ptrs bs)
  len : bs.length = ls.length
  plen : pvs.length = ls.length
  lot : ∀ i, i < ls.length → w.heap[bs.getD i 0]? = some (.cells (lotCells (ls.getD i L0) (pvs.getD i default)) 173 (0, 0))
  par : ∀ i, i < ls.length → Par w (pvs.getD i default)
  nodup : bs.Nodup
  today : td ≤ 2147483647
  ok : ∀ l ∈ ls, L.Ok l
  room : ls.length ≤ 30

/-- A block of cells: what it holds, and that it is not frozen. -/
theorem blk_cell {w : World} {b : Nat} {cs : Array Value} {t : TypeId} (h : w.heap[b]? = some (.cells cs t (0, 0))) (j : Nat) : w.cell? ⟨b, j, none⟩ = cs[j]? := by
  unfold World.cell?; rw [h]; rfl
theorem blk_free {w : World} {b : Nat} {cs : Array Value} {t : TypeId} (h : w.heap[b]? = some (.cells cs t (0, 0))) (j : Nat) : w.frozen? ⟨b, j, none⟩ = false := by
  unfold World.frozen?; rw [h]; simp
theorem blk_lt {w : World} {b : Nat} {o : Obj} (h : w.heap[b]? = some o) : b < w.heap.size := (Array.getElem?_eq_some_iff.1 h).1

theorem PV.c0 {w : World} {S : Nat} {M : Mx} {v : Value} {td : Nat} {bs : List Nat} {pvs : List Value} {ls : List L} {os : List O} (h : PV os w S M v td bs pvs ls) : w.cell? ⟨S, 0, none⟩ = some (.int .i64 (td : Int)) := by rw [blk_cell h.store]; rfl
theorem PV.c1 {w : World} {S : Nat} {M : Mx} {v : Value} {td : Nat} {bs : List Nat} {pvs : List Value} {ls : List L} {os : List O} (h : PV os w S M v td bs pvs ls) : w.cell? ⟨S, 1, none⟩ = some v := by rw [blk_cell h.store]; rfl
theorem PV.c2 {w : World} {S : Nat} {M : Mx} {v : Value} {td : Nat} {bs : List Nat} {pvs : List Value} {ls : List L} {os : List O} (h : PV os w S M v td bs pvs ls) : w.cell? ⟨S, 2, none⟩ = some (.map (some M.o)) := by rw [blk_cell h.store]; rfl
theorem PV.c3 {w : World} {S : Nat} {M : Mx} {v : Value} {td : Nat} {bs : List Nat} {pvs : List Value} {ls : List L} {os : List O} (h : PV os w S M v td bs pvs ls) : w.cell? ⟨S, 3, none⟩ = some (.map (some M.h)) := by rw [blk_cell h.store]; rfl
theorem PV.c4 {w : World} {S : Nat} {M : Mx} {v : Value} {td : Nat} {bs : List Nat} {pvs : List Value} {ls : List L} {os : List O} (h : PV os w S M v td bs pvs ls) : w.cell? ⟨S, 4, none⟩ = some (.map (some M.r)) := by rw [blk_cell h.store]; rfl
theorem PV.recalls {w : World} {S : Nat} {M : Mx} {v : Value} {td : Nat} {bs : List Nat} {pvs : List Value} {ls : List L} {os : List O} (h : PV os w S M v td bs pvs ls) : ∃ c, w.heap[M.r]? = some (.map #[] c) := h.maps.r
theorem PV.cl {w : World} {S : Nat} {M : Mx} {v : Value} {td : Nat} {bs : List Nat} {pvs : List Value} {ls : List L} {os : List O} (h : PV os w S M v td bs pvs ls) (i : Nat) (hi : i < ls.length) (j : Nat) : w.cell? ⟨bs.getD i 0, j, none⟩ = (lotCells (ls.getD i L0) (pvs.getD i default))[j]? := blk_cell (h.lot i hi) j
theorem PV.shape {w : World} {S : Nat} {M : Mx} {v : Value} {td : Nat} {bs : List Nat} {pvs : List Value} {ls : List L} {os : List O} (h : PV os w S M v td bs pvs ls) : ∃ a cap, v = .slice a ls.length cap ∧ (0 < ls.length → ∃ G, a = some ⟨G, 0, none⟩ ∧ ∀ i, i < ls.length → w.cell? ⟨G, i, none⟩ = some (.pointer (some ⟨bs.getD i 0, 0, none⟩))) := by
  obtain ⟨a, cap, hv⟩ := own_shape h.row
  refine ⟨a, cap, by rw [← h.len]; exact hv, fun hp => ?_⟩
  obtain ⟨g, cap', hv', _, _⟩ := own_some h.row (by rw [h.len]; exact hp)
  rw [hv] at hv'
  cases hv'
  refine ⟨g, rfl, fun i hi => ?_⟩
  have hr := h.row
  rw [hv] at hr
  rw [hr.cellAt i (by rw [h.len]; omega)]
  have hib : i < bs.length := by rw [h.len]; exact hi
  simp [ptrs, List.getD_eq_getElem?_getD, hib]

/-- Where a lot of this number stands first. -/
def idx (n : Nat) (ls : List L) : Nat := ls.findIdx (fun l => l.id == n)

theorem idx_le (n : Nat) (ls : List L) : idx n ls ≤ ls.length := List.findIdx_le_length
theorem idx_hit {n : Nat} {ls : List L} {k : Nat} (hk : k < ls.length) (hb : ∀ j, j < k → (ls.getD j L0).id ≠ n) (hh : (ls.getD k L0).id = n) : idx n ls = k := by
  unfold idx
  rw [List.findIdx_eq hk]
  simp only [List.getD_eq_getElem?_getD, List.getElem?_eq_getElem hk, Option.getD_some] at hh
  refine ⟨by simpa using hh, fun j hj => ?_⟩
  have := hb j hj
  simp only [List.getD_eq_getElem?_getD, List.getElem?_eq_getElem (show j < ls.length by omega), Option.getD_some] at this
  simpa using this
theorem idx_miss {n : Nat} {ls : List L} (hb : ∀ j, j < ls.length → (ls.getD j L0).id ≠ n) : idx n ls = ls.length := by
  unfold idx
  rw [List.findIdx_eq_length]
  intro x hx
  obtain ⟨j, hj, rfl⟩ := List.getElem_of_mem hx
  have := hb j hj
  simp only [List.getD_eq_getElem?_getD, List.getElem?_eq_getElem hj, Option.getD_some] at this
  simpa using this

theorem mem_getD {ls : List L} {k : Nat} (hk : k < ls.length) : ls.getD k L0 ∈ ls := by
  simp [List.getD_eq_getElem?_getD, hk]

theorem beqN_t {a b : Nat} (h : a = b) : ((a : Int) == (b : Int)) = true := by rw [beq_iff_eq]; omega
theorem beqN_f {a b : Nat} (h : ¬ a = b) : ((a : Int) == (b : Int)) = false := by rw [beq_eq_false_iff_ne]; omega

def findV (bs : List Nat) (ls : List L) (n : Nat) : Value := if idx n ls < ls.length then .pointer (some ⟨bs.getD (idx n ls) 0, 0, none⟩) else .pointer none

set_option maxHeartbeats 800000 in
theorem find_any {w : World} {S : Nat} {M : Mx} {v : Value} {td : Nat} {bs : List Nat} {pvs : List Value} {ls : List L} {os : List O} (h : PV os w S M v td bs pvs ls) (n : Nat) (hn : n ≤ 2147483647) :
    Calls Tryz.prog 98 #[.pointer (some ⟨S, 0, none⟩), .int .i64 (n : Int)] w fun e w' => e = .returned (findV bs ls n) ∧ w' = w := by
  obtain ⟨a, cap, hv, hrow⟩ := h.shape
  have c1 := h.c1
  rw [hv] at c1
  have hroom := h.room
  have HP := hide h
  clear h hv
  go_enter Tryz.func98, Tryz.ntmps98
  go_wp2_with fail
  go_loop [6, 12] (fun _ i => ∃ k : Nat, k ≤ ls.length ∧ i = .int .i64 k ∧ (∀ j, j < k → (ls.getD j L0).id ≠ n)) (fun _ i => ls.length - (intOf i).toNat)
  case atStart => exact ⟨0, by omega, rfl, fun j h => absurd h (by omega)⟩
  case round =>
    obtain ⟨k, hk, rfl, hne⟩ := hrel
    by_cases hlt : k < ls.length
    · obtain ⟨G, hG, hcells⟩ := hrow (by omega)
      rw [hG]
      have hck := hcells k hlt
      have hcl : w.cell? ⟨bs.getD k 0, 0, none⟩ = some (.int .i64 ((ls.getD k L0).id : Int)) := by rw [HP.out.cl k hlt 0]; rfl
      have hid : (ls.getD k L0).id ≤ 2147483647 := (HP.out.ok _ (mem_getD hlt)).id
      obtain ⟨m, HM⟩ : ∃ m, Hid (m = (ls.getD k L0).id) := ⟨_, rfl⟩
      obtain ⟨b, HB⟩ : ∃ b, Hid (b = bs.getD k 0) := ⟨_, rfl⟩
      rw [← HM.out] at hcl hid
      rw [← HB.out] at hcl hck
      clear hcells hG hrow
      by_cases hm : m = n
      · have hmb : ((m : Int) == (n : Int)) = true := beqN_t hm
        have HH : Hid (findV bs ls n = .pointer (some ⟨b, 0, none⟩)) := by
          have := idx_hit hlt hne (by rw [← HM.out]; exact hm)
          unfold Hid findV; rw [this, if_pos hlt, ← HB.out]
        clear hm
        go_wp2_with fail
        go_ret
        exact ⟨by rw [HH.out]; rfl, rfl⟩
      · have hmb : ((m : Int) == (n : Int)) = false := beqN_f hm
        have HN := hide hm
        clear hm
        go_wp2_with fail
        go_round
        case rel =>
          refine ⟨k + 1, by omega, by go_num, ?_⟩
          intro j hj
          by_cases hjk : j = k
          · subst hjk; rw [← HM.out]; exact HN.out
          · exact hne j (by omega)
        case measure => simp [intOf]; omega
    · obtain rfl : k = ls.length := by omega
      have HH : Hid (findV bs ls n = .pointer none) := by
        have := idx_miss hne
        unfold Hid findV; rw [this, if_neg (by omega)]
      clear hrow hlt
      go_wp2_with fail
      go_ret
      exact ⟨by rw [HH.out]; rfl, rfl⟩

end Go.Proofs.YtclipofifmajeaaGreatDoor
