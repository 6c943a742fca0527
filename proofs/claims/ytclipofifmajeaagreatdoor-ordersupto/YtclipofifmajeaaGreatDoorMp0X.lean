import Derived.Test.YtclipofifmajeaaGreatDoorRefAX
import Derived.KernelRfl
import Derived.Maps.OwnSet
import Derived.DeepKeys4
import Derived.Deep.QuietTactic
import Derived.BigQuiet
import Derived.Maps.AppendAt
namespace Go.Proofs.YtclipofifmajeaaGreatDoor
set_option linter.unusedSimpArgs false
set_option linter.unusedVariables false
open Go.RowKit
set_option maxRecDepth 100000

/-- An order, as both sides have it: its lines are a lot's number and how many, in the order in which the lots gave. -/
structure O where
  id : Nat
  goods : Nat
  lines : List (Nat × Nat)

/-- Where the program's store has its maps: recalls, orders, holdings. -/
structure Mx where
  r : Nat
  o : Nat
  h : Nat

/-- What an order holds of a lot. -/
def lineOf (os : List O) (a b : Nat) : Option Nat := (os.find? (fun o => o.id == a)).bind fun o => o.lines.lookup b

def okey (n : Nat) : Lit := .int .i64 (n : Int)
def hkey (a b : Nat) : Lit := .string (keyBytes [.int .i64 (a : Int), .int .i64 (b : Int)])

theorem tUI : Tryz.prog.underlying 2 = some (.int .i64) := by kernel_rfl
theorem tUH : (Tryz.prog.underlying 201).map (fun d => match d with | .struct fs => some (fs.toList.map (fun f => (f.name, f.type, f.offset))) | _ => none) = some (some [("order", 2, 0), ("lot", 2, 1)]) := by kernel_rfl
theorem cellsH : Tryz.prog.cellsOf 201 = 2 := by kernel_rfl
theorem cellsI : Tryz.prog.cellsOf 2 = 1 := by kernel_rfl
theorem keyTH : Tryz.prog.keyType 201 = true := by kernel_rfl
theorem lidAll : laidOutB Tryz.prog = true := by kernel_rfl
theorem kInt : Maps.Keyed Tryz.prog 2 := Maps.int_keyed tUI
theorem kHold : Maps.Keyed Tryz.prog 201 := Maps.Keyed.of_law (deep_law_laid lidAll (m := 5) (by decide) (of_decide_eq_true (by kernel_rfl)) (by kernel_rfl) (by kernel_rfl))
theorem tySize : ∃ n, Tryz.prog.types.size = n + 2 := ⟨237, by kernel_rfl⟩
theorem wf64 {n : Nat} (h : n ≤ 2147483647) : (Lit.int .i64 (n : Int)).wf = true := by
  have h1 : IntKind.min .i64 ≤ (n : Int) := by show (-9223372036854775808 : Int) ≤ n; omega
  have h2 : (n : Int) ≤ IntKind.max .i64 := by show (n : Int) ≤ 9223372036854775807; omega
  show (decide (IntKind.min .i64 ≤ (n : Int)) && decide ((n : Int) ≤ IntKind.max .i64)) = true
  rw [decide_eq_true h1, decide_eq_true h2]; rfl
theorem key_o {n : Nat} (h : n ≤ 2147483647) : keyOf Tryz.prog 2 (.int .i64 (n : Int)) = some (okey n) := Maps.keyOf_int_mk tUI (wf64 h)
theorem key_h {a b : Nat} (ha : a ≤ 2147483647) (hb : b ≤ 2147483647) : keyOf Tryz.prog 201 (.agg #[.int .i64 (a : Int), .int .i64 (b : Int)]) = some (hkey a b) := by
  obtain ⟨n, hn⟩ := tySize
  have hu := tUH
  cases hd : Tryz.prog.underlying 201 with
  | none => rw [hd] at hu; cases hu
  | some d =>
    rw [hd] at hu
    cases d
    case struct fs =>
      simp only [Option.map_some, Option.some.injEq] at hu
      have h1 : ∀ (x : Nat), x ≤ 2147483647 → Tryz.prog.keyLits (n + 2) 2 [.int .i64 (x : Int)] = some [.int .i64 (x : Int)] := fun x hx => by
        unfold Program.keyLits; rw [tUI]; simp [wf64 hx]
      obtain ⟨f0, f1, hl, ⟨n0, t0, o0⟩, n1, t1, o1⟩ : ∃ f0 f1, fs.toList = [f0, f1] ∧ (f0.name = "order" ∧ f0.type = 2 ∧ f0.offset = 0) ∧ f1.name = "lot" ∧ f1.type = 2 ∧ f1.offset = 1 := by
        cases hl : fs.toList with
        | nil => rw [hl] at hu; simp at hu
        | cons f0 r =>
          cases r with
          | nil => rw [hl] at hu; simp at hu
          | cons f1 r =>
            cases r with
            | nil => rw [hl] at hu; simp at hu; exact ⟨f0, f1, rfl, hu.1, hu.2⟩
            | cons f2 r => rw [hl] at hu; simp at hu
      have hall : fs.all (·.name != "_") = true := by
        rw [← Array.all_toList, hl]; simp [n0, n1]
      have hm : (fs.toList.mapM fun f => Tryz.prog.keyLits (n + 2) f.type (([.int .i64 (a : Int), .int .i64 (b : Int)] : List Value).drop f.offset |>.take (Tryz.prog.cellsOf f.type))) = some [[.int .i64 (a : Int)], [.int .i64 (b : Int)]] := by
        rw [hl]
        simp [List.mapM_cons, t0, t1, o0, o1, cellsI, h1 a ha, h1 b hb]
      have hk : Tryz.prog.keyLits (Tryz.prog.types.size + 1) 201 [.int .i64 (a : Int), .int .i64 (b : Int)] = some [.int .i64 (a : Int), .int .i64 (b : Int)] := by
        rw [hn]
        unfold Program.keyLits
        rw [hd]
        simp only [cellsH, hall]
        rw [if_pos ⟨rfl, trivial⟩, hm]
        rfl
      unfold keyOf
      rw [hd]
      simp only [keyTH, Value.formed, hd, cellsH, Value.cells, hk]
      rfl
    all_goals (simp at hu)
theorem hkey_inj {a b c d : Nat} (ha : a ≤ 2147483647) (hb : b ≤ 2147483647) (hc : c ≤ 2147483647) (hd : d ≤ 2147483647) (h : hkey a b = hkey c d) : a = c ∧ b = d := by
  have h1 := key_h ha hb
  have h2 := key_h hc hd
  rw [h] at h1
  have := kHold.inj h1 h2
  simp at this
  omega
theorem okey_inj {a b : Nat} (h : okey a = okey b) : a = b := by simp [okey] at h; omega

/-- How many lines there are. -/
def nLines (os : List O) : Nat := (os.map fun o => o.lines.length).sum

/-- The map of orders. -/
structure OD (os : List O) (D : DataW Unit) : Prop where
  size : Maps.size D = os.length
  has : ∀ n : Nat, n ≤ 2147483647 → Maps.has D (okey n) = os.any (fun o => o.id == n)

/-- The map of what orders hold. -/
structure HD (os : List O) (D : DataW Unit) : Prop where
  size : Maps.size D = nLines os
  has : ∀ a b : Nat, a ≤ 2147483647 → b ≤ 2147483647 → Maps.has D (hkey a b) = (lineOf os a b).isSome
  val : ∀ a b : Nat, a ≤ 2147483647 → b ≤ 2147483647 → D.atKey (hkey a b) (.lit (.int .i64 0)) = .lit (.int .i64 (((lineOf os a b).getD 0 : Nat) : Int))

def OwnsO (w : World) (b n : Nat) (D : DataW Unit) : Prop := w.ownsMap Tryz.prog 2 (plainElem Tryz.prog 2) b n D
def OwnsH (w : World) (b n : Nat) (D : DataW Unit) : Prop := w.ownsMap Tryz.prog 201 (plainElem Tryz.prog 2) b n D

theorem owns_congr {k : TypeId} {R : Value → Option (DataW Unit × List MemPlace)} {w w' : World} {b n : Nat} {D : DataW Unit} (h : w.ownsMap Tryz.prog k R b n D) (hq : w'.heap[b]? = w.heap[b]?) : w'.ownsMap Tryz.prog k R b n D := by
  obtain ⟨es, clock, hb, F, hs, hD⟩ := h
  exact ⟨es, clock, by rw [hq]; exact hb, F, hs, hD⟩
theorem owns_map {k : TypeId} {R : Value → Option (DataW Unit × List MemPlace)} {w : World} {b n : Nat} {D : DataW Unit} (h : w.ownsMap Tryz.prog k R b n D) : ∃ es c, w.heap[b]? = some (.map es c) := by
  obtain ⟨es, clock, hb, _⟩ := h
  exact ⟨es, clock, hb⟩
theorem owns_exact {k : TypeId} {R : Value → Option (DataW Unit × List MemPlace)} {w : World} {b n : Nat} {D : DataW Unit} (h : w.ownsMap Tryz.prog k R b n D) : w.ownsMap Tryz.prog k R b (Maps.size D) D := by
  obtain ⟨es, clock, hb, F, hs, hD⟩ := h
  exact ⟨es, clock, hb, F, by rw [hD]; simp [Maps.size, length_sorted], hD⟩

theorem owns_nil {k : TypeId} {R : Value → Option (DataW Unit × List MemPlace)} {w : World} {b : Nat} (h : w.heap[b]? = some (.map #[] 0)) : w.ownsMap Tryz.prog k R b (Maps.size (DataW.map [] : DataW Unit)) (DataW.map []) :=
  ⟨#[], 0, h, ⟨by simp, MapKept.stamped_empty 0, by simp⟩, Nat.le_refl _, rfl⟩

/-- The program's three maps. -/
structure Mp (os : List O) (w : World) (M : Mx) : Prop where
  r : ∃ c, w.heap[M.r]? = some (.map #[] c)
  o : ∃ D, OwnsO w M.o (Maps.size D) D ∧ OD os D
  h : ∃ D, OwnsH w M.h (Maps.size D) D ∧ HD os D
  ro : M.r ≠ M.o
  rh : M.r ≠ M.h
  oh : M.o ≠ M.h

theorem Mp.congr3 {os : List O} {w w' : World} {M : Mx} (h : Mp os w M) (h1 : w'.heap[M.r]? = w.heap[M.r]?) (h2 : w'.heap[M.o]? = w.heap[M.o]?) (h3 : w'.heap[M.h]? = w.heap[M.h]?) : Mp os w' M where
  r := by rw [h1]; exact h.r
  o := by obtain ⟨D, k1, k2⟩ := h.o; exact ⟨D, owns_congr k1 h2, k2⟩
  h := by obtain ⟨D, k1, k2⟩ := h.h; exact ⟨D, owns_congr k1 h3, k2⟩
  ro := h.ro
  rh := h.rh
  oh := h.oh
theorem Mp.mr {os : List O} {w : World} {M : Mx} (h : Mp os w M) : ∃ es c, w.heap[M.r]? = some (.map es c) := by obtain ⟨c, hc⟩ := h.r; exact ⟨_, _, hc⟩
theorem Mp.mo {os : List O} {w : World} {M : Mx} (h : Mp os w M) : ∃ es c, w.heap[M.o]? = some (.map es c) := by obtain ⟨D, k1, _⟩ := h.o; exact owns_map k1
theorem Mp.mh {os : List O} {w : World} {M : Mx} (h : Mp os w M) : ∃ es c, w.heap[M.h]? = some (.map es c) := by obtain ⟨D, k1, _⟩ := h.h; exact owns_map k1
/-- The maps stay where no map turns. -/
theorem Mp.congr {os : List O} {w w' : World} {M : Mx} (h : Mp os w M) (hq : ∀ (k : Nat) (es : Array MapEntry) (c : Nat), w.heap[k]? = some (.map es c) → w'.heap[k]? = w.heap[k]?) : Mp os w' M := by
  obtain ⟨_, _, h1⟩ := h.mr
  obtain ⟨_, _, h2⟩ := h.mo
  obtain ⟨_, _, h3⟩ := h.mh
  exact h.congr3 (hq _ _ _ h1) (hq _ _ _ h2) (hq _ _ _ h3)

end Go.Proofs.YtclipofifmajeaaGreatDoor

namespace Go.Proofs.YtclipofifmajeaaGreatDoor
set_option linter.unusedSimpArgs false
set_option linter.unusedVariables false
open Go.RowKit
set_option maxRecDepth 100000

/-- A lot, as both sides have it. -/
structure L where
  id : Nat
  goods : Nat
  expiry : Nat
  place : Nat
  got : Nat
  free : Nat
  held : Nat
  shipped : Nat
  scrapped : Nat
  given : Nat

def L0 : L := ⟨0, 0, 0, 0, 0, 0, 0, 0, 0, 0⟩

def i64 (n : Nat) : Value := .int .i64 (n : Int)

/-- The program's lot in memory. -/
def lotCells (l : L) (pv : Value) : Array Value :=
  #[.int .i64 (l.id : Int), .int .i64 (l.goods : Int), .int .i64 (l.expiry : Int), .int .i64 (l.place : Int), pv, .int .i64 (l.got : Int), .int .i64 (l.free : Int), .int .i64 (l.held : Int), .int .i64 (l.shipped : Int), .int .i64 (l.scrapped : Int), .int .i64 (l.given : Int)]

def ptrs (bs : List Nat) : List Value := bs.map fun b => Value.pointer (some ⟨b, 0, none⟩)

/-- A lot's numbers are small. -/
structure L.Ok (l : L) : Prop where
  id : l.id ≤ 2147483647
  goods : l.goods ≤ 2147483647
  expiry : l.expiry ≤ 2147483647
  place : l.place ≤ 30
  sum : l.free + l.held + l.shipped + l.scrapped + l.given ≤ 2147483647
  got : l.got ≤ 2147483647

/-- A lot's parents in memory. -/
def Par (w : World) (pv : Value) : Prop :=
  pv = .slice none 0 0 ∨ ∃ q n cap cs, pv = .slice (some ⟨q, 0, none⟩) n cap ∧ n ≤ 2 ∧ w.heap[q]? = some (.cells cs 177 (0, 0)) ∧ ∀ j, j < n → ∃ x y : Nat, cs[2 * j]? = some (.int .i64 (x : Int)) ∧ cs[2 * j + 1]? = some (.int .i64 (y : Int))

structure PV (os : List O) (w : World) (S : Nat) (M : Mx) (v : Value) (td : Nat) (bs : List Nat) (pvs : List Value) (ls : List L) : Prop where
  store : w.heap[S]? = some (.cells #[.int .i64 (td : Int), v, .map (some M.o), .map (some M.h), .map (some M.r)] 71 (0, 0))
  maps : Mp os w M
  row : w.ownsRow 0 174 1 v bs.length (ptrs bs)
  len : bs.length = ls.length
  plen : pvs.length = ls.length
  lot : ∀ i, i < ls.length → w.heap[bs.getD i 0]? = some (.cells (lotCells (ls.getD i L0) (pvs.getD i default)) 173 (0, 0))
  par : ∀ i, i < ls.length → Par w (pvs.getD i default)
  nodup : bs.Nodup
  today : td ≤ 2147483647
  ok : ∀ l ∈ ls, L.Ok l
  room : ls.length ≤ 30

/-- A block of cells: what it holds, and that it is not frozen. -/
theorem blk_cell {w : World} {b : Nat} {cs : Array Value} {t : TypeId} (h : w.heap[b]? = some (.cells cs t (0, 0))) (j : Nat) : w.cell? ⟨b, j, none⟩ = cs[j]? := by
  unfold World.cell?; rw [h]; rfl
theorem blk_free {w : World} {b : Nat} {cs : Array Value} {t : TypeId} (h : w.heap[b]? = some (.cells cs t (0, 0))) (j : Nat) : w.frozen? ⟨b, j, none⟩ = false := by
  unfold World.frozen?; rw [h]; simp
theorem blk_lt {w : World} {b : Nat} {o : Obj} (h : w.heap[b]? = some o) : b < w.heap.size := (Array.getElem?_eq_some_iff.1 h).1

theorem PV.c0 {w : World} {S : Nat} {M : Mx} {v : Value} {td : Nat} {bs : List Nat} {pvs : List Value} {ls : List L} {os : List O} (h : PV os w S M v td bs pvs ls) : w.cell? ⟨S, 0, none⟩ = some (.int .i64 (td : Int)) := by rw [blk_cell h.store]; rfl
theorem PV.c1 {w : World} {S : Nat} {M : Mx} {v : Value} {td : Nat} {bs : List Nat} {pvs : List Value} {ls : List L} {os : List O} (h : PV os w S M v td bs pvs ls) : w.cell? ⟨S, 1, none⟩ = some v := by rw [blk_cell h.store]; rfl
theorem PV.c2 {w : World} {S : Nat} {M : Mx} {v : Value} {td : Nat} {bs : List Nat} {pvs : List Value} {ls : List L} {os : List O} (h : PV os w S M v td bs pvs ls) : w.cell? ⟨S, 2, none⟩ = some (.map (some M.o)) := by rw [blk_cell h.store]; rfl
theorem PV.c3 {w : World} {S : Nat} {M : Mx} {v : Value} {td : Nat} {bs : List Nat} {pvs : List Value} {ls : List L} {os : List O} (h : PV os w S M v td bs pvs ls) : w.cell? ⟨S, 3, none⟩ = some (.map (some M.h)) := by rw [blk_cell h.store]; rfl
theorem PV.c4 {w : World} {S : Nat} {M : Mx} {v : Value} {td : Nat} {bs : List Nat} {pvs : List Value} {ls : List L} {os : List O} (h : PV os w S M v td bs pvs ls) : w.cell? ⟨S, 4, none⟩ = some (.map (some M.r)) := by rw [blk_cell h.store]; rfl
theorem PV.recalls {w : World} {S : Nat} {M : Mx} {v : Value} {td : Nat} {bs : List Nat} {pvs : List Value} {ls : List L} {os : List O} (h : PV os w S M v td bs pvs ls) : ∃ c, w.heap[M.r]? = some (.map #[] c) := h.maps.r
theorem PV.cl {w : World} {S : Nat} {M : Mx} {v : Value} {td : Nat} {bs : List Nat} {pvs : List Value} {ls : List L} {os : List O} (h : PV os w S M v td bs pvs ls) (i : Nat) (hi : i < ls.length) (j : Nat) : w.cell? ⟨bs.getD i 0, j, none⟩ = (lotCells (ls.getD i L0) (pvs.getD i default))[j]? := blk_cell (h.lot i hi) j
theorem PV.shape {w : World} {S : Nat} {M : Mx} {v : Value} {td : Nat} {bs : List Nat} {pvs : List Value} {ls : List L} {os : List O} (h : PV os w S M v td bs pvs ls) : ∃ a cap, v = .slice a ls.length cap ∧ (0 < ls.length → ∃ G, a = some ⟨G, 0, none⟩ ∧ ∀ i, i < ls.length → w.cell? ⟨G, i, none⟩ = some (.pointer (some ⟨bs.getD i 0, 0, none⟩))) := by
  obtain ⟨a, cap, hv⟩ := own_shape h.row
  refine ⟨a, cap, by rw [← h.len]; exact hv, fun hp => ?_⟩
  obtain ⟨g, cap', hv', _, _⟩ := own_some h.row (by rw [h.len]; exact hp)
  rw [hv] at hv'
  cases hv'
  refine ⟨g, rfl, fun i hi => ?_⟩
  have hr := h.row
  rw [hv] at hr
  rw [hr.cellAt i (by rw [h.len]; omega)]
  have hib : i < bs.length := by rw [h.len]; exact hi
  simp [ptrs, List.getD_eq_getElem?_getD, hib]

/-- Where a lot of this number stands first. -/
def idx (n : Nat) (ls : List L) : Nat := ls.findIdx (fun l => l.id == n)

theorem idx_le (n : Nat) (ls : List L) : idx n ls ≤ ls.length := List.findIdx_le_length
theorem idx_hit {n : Nat} {ls : List L} {k : Nat} (hk : k < ls.length) (hb : ∀ j, j < k → (ls.getD j L0).id ≠ n) (hh : (ls.getD k L0).id = n) : idx n ls = k := by
  unfold idx
  rw [List.findIdx_eq hk]
  simp only [List.getD_eq_getElem?_getD, List.getElem?_eq_getElem hk, Option.getD_some] at hh
  refine ⟨by simpa using hh, fun j hj => ?_⟩
  have := hb j hj
  simp only [List.getD_eq_getElem?_getD, List.getElem?_eq_getElem (show j < ls.length by omega), Option.getD_some] at this
  simpa using this
theorem idx_miss {n : Nat} {ls : List L} (hb : ∀ j, j < ls.length → (ls.getD j L0).id ≠ n) : idx n ls = ls.length := by
  unfold idx
  rw [List.findIdx_eq_length]
  intro x hx
  obtain ⟨j, hj, rfl⟩ := List.getElem_of_mem hx
  have := hb j hj
  simp only [List.getD_eq_getElem?_getD, List.getElem?_eq_getElem hj, Option.getD_some] at this
  simpa using this

theorem mem_getD {ls : List L} {k : Nat} (hk : k < ls.length) : ls.getD k L0 ∈ ls := by
  simp [List.getD_eq_getElem?_getD, hk]

theorem beqN_t {a b : Nat} (h : a = b) : ((a : Int) == (b : Int)) = true := by rw [beq_iff_eq]; omega
theorem beqN_f {a b : Nat} (h : ¬ a = b) : ((a : Int) == (b : Int)) = false := by rw [beq_eq_false_iff_ne]; omega

def findV (bs : List Nat) (ls : List L) (n : Nat) : Value := if idx n ls < ls.length then .pointer (some ⟨bs.getD (idx n ls) 0, 0, none⟩) else .pointer none

set_option maxHeartbeats 800000 in
theorem find_any {w : World} {S : Nat} {M : Mx} {v : Value} {td : Nat} {bs : List Nat} {pvs : List Value} {ls : List L} {os : List O} (h : PV os w S M v td bs pvs ls) (n : Nat) (hn : n ≤ 2147483647) :
    Calls Tryz.prog 98 #[.pointer (some ⟨S, 0, none⟩), .int .i64 (n : Int)] w fun e w' => e = .returned (findV bs ls n) ∧ w' = w := by
  obtain ⟨a, cap, hv, hrow⟩ := h.shape
  have c1 := h.c1
  rw [hv] at c1
  have hroom := h.room
  have HP := hide h
  clear h hv
  go_enter Tryz.func98, Tryz.ntmps98
  go_wp2_with fail
  go_loop [6, 12] (fun _ i => ∃ k : Nat, k ≤ ls.length ∧ i = .int .i64 k ∧ (∀ j, j < k → (ls.getD j L0).id ≠ n)) (fun _ i => ls.length - (intOf i).toNat)
  case atStart => exact ⟨0, by omega, rfl, fun j h => absurd h (by omega)⟩
  case round =>
    obtain ⟨k, hk, rfl, hne⟩ := hrel
    by_cases hlt : k < ls.length
    · obtain ⟨G, hG, hcells⟩ := hrow (by omega)
      rw [hG]
      have hck := hcells k hlt
      have hcl : w.cell? ⟨bs.getD k 0, 0, none⟩ = some (.int .i64 ((ls.getD k L0).id : Int)) := by rw [HP.out.cl k hlt 0]; rfl
      have hid : (ls.getD k L0).id ≤ 2147483647 := (HP.out.ok _ (mem_getD hlt)).id
      obtain ⟨m, HM⟩ : ∃ m, Hid (m = (ls.getD k L0).id) := ⟨_, rfl⟩
      obtain ⟨b, HB⟩ : ∃ b, Hid (b = bs.getD k 0) := ⟨_, rfl⟩
      rw [← HM.out] at hcl hid
      rw [← HB.out] at hcl hck
      clear hcells hG hrow
      by_cases hm : m = n
      · have hmb : ((m : Int) == (n : Int)) = true := beqN_t hm
        have HH : Hid (findV bs ls n = .pointer (some ⟨b, 0, none⟩)) := by
          have := idx_hit hlt hne (by rw [← HM.out]; exact hm)
          unfold Hid findV; rw [this, if_pos hlt, ← HB.out]
        clear hm
        go_wp2_with fail
        go_ret
        exact ⟨by rw [HH.out]; rfl, rfl⟩
      · have hmb : ((m : Int) == (n : Int)) = false := beqN_f hm
        have HN := hide hm
        clear hm
        go_wp2_with fail
        go_round
        case rel =>
          refine ⟨k + 1, by omega, by go_num, ?_⟩
          intro j hj
          by_cases hjk : j = k
          · subst hjk; rw [← HM.out]; exact HN.out
          · exact hne j (by omega)
        case measure => simp [intOf]; omega
    · obtain rfl : k = ls.length := by omega
      have HH : Hid (findV bs ls n = .pointer none) := by
        have := idx_miss hne
        unfold Hid findV; rw [this, if_neg (by omega)]
      clear hrow hlt
      go_wp2_with fail
      go_ret
      exact ⟨by rw [HH.out]; rfl, rfl⟩

end Go.Proofs.YtclipofifmajeaaGreatDoor

namespace Go.Proofs.YtclipofifmajeaaGreatDoor
set_option linter.unusedSimpArgs false
set_option linter.unusedVariables false
open Go.RowKit
set_option maxRecDepth 100000

/-- Only what Z names may have turned; blocks may have come. -/
structure Kp (Z : Nat → Prop) (w w' : World) : Prop where
  os : w'.os = w.os
  tape : w'.tape = w.tape
  output : w'.output = w.output
  size : w.heap.size ≤ w'.heap.size
  block : ∀ k, k < w.heap.size → ¬ Z k → w'.heap[k]? = w.heap[k]?

theorem Kp.refl (Z : Nat → Prop) (w : World) : Kp Z w w := ⟨rfl, rfl, rfl, Nat.le_refl _, fun _ _ _ => rfl⟩
theorem Kp.trans {Z : Nat → Prop} {a b c : World} (h : Kp Z a b) (k : Kp (fun k => Z k ∨ a.heap.size ≤ k) b c) : Kp Z a c :=
  ⟨k.os.trans h.os, k.tape.trans h.tape, k.output.trans h.output, Nat.le_trans h.size k.size, fun i hi hz =>
    (k.block i (Nat.lt_of_lt_of_le hi h.size) (fun hq => hq.elim hz (fun hq => absurd hi (by omega)))).trans (h.block i hi hz)⟩
theorem Kp.mono {Z Z' : Nat → Prop} {a b : World} (h : Kp Z a b) (hz : ∀ k, Z k → Z' k) : Kp Z' a b :=
  ⟨h.os, h.tape, h.output, h.size, fun i hi hn => h.block i hi (fun hq => hn (hz i hq))⟩
theorem kpB {Z : Nat → Prop} {a b : World} (h : Below a.heap.size a b) : Kp Z a b := ⟨h.os, h.tape, h.output, h.size, fun i hi _ => h.block i hi⟩
theorem Kp.after {Z : Nat → Prop} {a b c : World} (h : Kp Z a b) (k : Below b.heap.size b c) : Kp Z a c := h.trans (kpB k)
theorem Kp.before {Z : Nat → Prop} {a b c : World} (h : Below a.heap.size a b) (k : Kp (fun k => Z k ∨ a.heap.size ≤ k) b c) : Kp Z a c := (kpB (Z := Z) h).trans k
theorem Kp.setCell {Z : Nat → Prop} {a w : World} (h : Kp Z a w) {p : Addr} (hp : Z p.block ∨ a.heap.size ≤ p.block) (u : Value) : Kp Z a (w.setCell p u) :=
  h.trans ⟨rfl, rfl, rfl, by simp [World.setCell], fun k _ hz => Below.heap_setCell _ _ _ _ (fun e => hz (by rw [e]; exact hp))⟩
theorem Kp.grown {Z : Nat → Prop} {a w w' : World} {row : Option Nat} (h : Kp Z a w) (hg : w.grownBy w' row) (hr : ∀ k, row = some k → Z k ∨ a.heap.size ≤ k) : Kp Z a w' :=
  h.trans ⟨hg.os, hg.tape, hg.output, hg.size, fun k hk hz => hg.block k hk (fun e => hz (hr k e.symm))⟩

theorem grownBy_setCell (w : World) (a : Addr) (u : Value) : w.grownBy (w.setCell a u) (some a.block) :=
  ⟨rfl, rfl, rfl, by simp [World.setCell], fun k _ hk => Below.heap_setCell _ _ _ _ (fun e => hk (by rw [e]))⟩

/-- All that the program's store uses lies in Z. -/
structure PIn (Z : Nat → Prop) (S : Nat) (M : Mx) (v : Value) (bs : List Nat) (pvs : List Value) : Prop where
  s : Z S
  m : Z M.r
  mo : Z M.o
  mh : Z M.h
  v : ∀ g, v.ownBlock = some g → Z g
  b : ∀ k ∈ bs, Z k
  p : ∀ pv ∈ pvs, ∀ q, pv.ownBlock = some q → Z q

theorem PIn.mono {Z Z' : Nat → Prop} {S : Nat} {M : Mx} {v : Value} {bs : List Nat} {pvs : List Value} (h : PIn Z S M v bs pvs) (hz : ∀ k, Z k → Z' k) : PIn Z' S M v bs pvs :=
  ⟨hz _ h.s, hz _ h.m, hz _ h.mo, hz _ h.mh, fun g hg => hz _ (h.v g hg), fun k hk => hz _ (h.b k hk), fun pv hp q hq => hz _ (h.p pv hp q hq)⟩

theorem Par.congr {w w' : World} {pv : Value} (h : Par w pv) (hq : ∀ q, pv.ownBlock = some q → w'.heap[q]? = w.heap[q]?) : Par w' pv := by
  rcases h with h | ⟨q, n, cap, cs, h1, h2, h3, h4⟩
  · exact Or.inl h
  · exact Or.inr ⟨q, n, cap, cs, h1, h2, by rw [hq q (by rw [h1]; rfl)]; exact h3, h4⟩

theorem own_congr {w w' : World} {base e size n : Nat} {v : Value} {xs : List Value} (h : w.ownsRow base e size v n xs) (hq : ∀ g, v.ownBlock = some g → w'.heap[g]? = w.heap[g]?) : w'.ownsRow base e size v n xs := by
  refine ⟨h.1, ?_⟩
  rcases h.2 with h2 | ⟨g, cap, cur, h1, h2, h3, h4⟩
  · exact Or.inl h2
  · exact Or.inr ⟨g, cap, cur, h1, h2, by rw [hq g (by rw [h1]; rfl)]; exact h3, h4⟩

theorem getD_mem_nat {l : List Nat} {i : Nat} (h : i < l.length) : l.getD i 0 ∈ l := by simp [List.getD_eq_getElem?_getD, h]
theorem getD_mem_val {l : List Value} {i : Nat} (h : i < l.length) : l.getD i default ∈ l := by simp [List.getD_eq_getElem?_getD, h]

theorem PV.congr {Z : Nat → Prop} {w w' : World} {S : Nat} {M : Mx} {v : Value} {td : Nat} {bs : List Nat} {pvs : List Value} {ls : List L} {os : List O} (h : PV os w S M v td bs pvs ls) (hi : PIn Z S M v bs pvs) (hq : ∀ k, Z k → w'.heap[k]? = w.heap[k]?) : PV os w' S M v td bs pvs ls where
  store := by rw [hq S hi.s]; exact h.store
  maps := h.maps.congr3 (hq _ hi.m) (hq _ hi.mo) (hq _ hi.mh)
  row := own_congr h.row (fun g hg => hq g (hi.v g hg))
  len := h.len
  plen := h.plen
  lot := fun i hl => by rw [hq _ (hi.b _ (getD_mem_nat (by rw [h.len]; exact hl)))]; exact h.lot i hl
  par := fun i hl => (h.par i hl).congr (fun q hq' => hq q (hi.p _ (getD_mem_val (by rw [h.plen]; exact hl)) q hq'))
  nodup := h.nodup
  today := h.today
  ok := h.ok
  room := h.room

theorem PV.below {w w' : World} {S : Nat} {M : Mx} {v : Value} {td : Nat} {bs : List Nat} {pvs : List Value} {ls : List L} {os : List O} (h : PV os w S M v td bs pvs ls) (hb : Below w.heap.size w w') : PV os w' S M v td bs pvs ls where
  store := by rw [hb.block S (blk_lt h.store)]; exact h.store
  maps := h.maps.congr (fun k es c hk => hb.block k (blk_lt hk))
  row := own_below h.row hb
  len := h.len
  plen := h.plen
  lot := fun i hl => by rw [hb.block _ (blk_lt (h.lot i hl))]; exact h.lot i hl
  par := fun i hl => (h.par i hl).congr (fun q hq' => by
    rcases h.par i hl with h1 | ⟨q', n, cap, cs, h1, h2, h3, h4⟩
    · rw [h1] at hq'; cases hq'
    · rw [h1] at hq'; cases hq'; exact hb.block _ (blk_lt h3))
  nodup := h.nodup
  today := h.today
  ok := h.ok
  room := h.room

/-- The error of a new lot's number. -/
def roomC (ls : List L) (n : Nat) : Nat := if idx n ls < ls.length then 5 else if 30 ≤ ls.length then 6 else 0

set_option maxHeartbeats 800000 in
theorem room_any {w : World} {S : Nat} {M : Mx} {v : Value} {td : Nat} {bs : List Nat} {pvs : List Value} {ls : List L} {os : List O} (h : PV os w S M v td bs pvs ls) (n : Nat) (hn : n ≤ 2147483647) :
    Calls Tryz.prog 96 #[.pointer (some ⟨S, 0, none⟩), .int .i64 (n : Int)] w fun e w' => e = .returned (.int .i64 (roomC ls n : Int)) ∧ w' = w := by
  have H1 := hide (find_any h n hn)
  obtain ⟨a, cap, hv, _⟩ := h.shape
  have c1 := h.c1
  rw [hv] at c1
  have hroom := h.room
  clear h hv
  by_cases hi : idx n ls < ls.length
  · have HR : Hid (roomC ls n = 5) := by unfold Hid roomC; rw [if_pos hi]
    have HF : Hid (findV bs ls n = .pointer (some ⟨bs.getD (idx n ls) 0, 0, none⟩)) := by unfold Hid findV; rw [if_pos hi]
    rw [HF.out] at H1
    generalize bs.getD (idx n ls) 0 = b at H1
    clear hi HF
    go_enter Tryz.func96, Tryz.ntmps96
    go_wp2_with (go_at_call 98; refine (H1.out).mono ?_; rintro e w1 ⟨rfl, rfl⟩)
    go_ret
    exact ⟨by rw [HR.out]; rfl, rfl⟩
  · have HF : Hid (findV bs ls n = .pointer none) := by unfold Hid findV; rw [if_neg hi]
    rw [HF.out] at H1
    by_cases h30 : 30 ≤ ls.length
    · have HR : Hid (roomC ls n = 6) := by unfold Hid roomC; rw [if_neg hi, if_pos h30]
      clear hi HF
      go_enter Tryz.func96, Tryz.ntmps96
      go_wp2_with (go_at_call 98; refine (H1.out).mono ?_; rintro e w1 ⟨rfl, rfl⟩)
      go_ret
      exact ⟨by rw [HR.out]; rfl, rfl⟩
    · have HR : Hid (roomC ls n = 0) := by unfold Hid roomC; rw [if_neg hi, if_neg h30]
      clear hi HF
      go_enter Tryz.func96, Tryz.ntmps96
      go_wp2_with (go_at_call 98; refine (H1.out).mono ?_; rintro e w1 ⟨rfl, rfl⟩)
      go_ret
      exact ⟨by rw [HR.out]; rfl, rfl⟩

theorem ty_ne {w : World} {a b : Nat} {cs ds : Array Value} {t u : TypeId} {f g : Nat × Nat} (h : w.heap[a]? = some (.cells cs t f)) (k : w.heap[b]? = some (.cells ds u g)) (hne : t ≠ u) : a ≠ b := by
  rintro rfl; rw [h] at k; cases k; exact hne rfl
theorem map_ne {w : World} {a b : Nat} {cs : Array Value} {t : TypeId} {f : Nat × Nat} {es : Array MapEntry} {c : Nat} (h : w.heap[a]? = some (.cells cs t f)) (k : w.heap[b]? = some (.map es c)) : a ≠ b := by
  rintro rfl; rw [h] at k; cases k

theorem own_ty {w : World} {base e size n : Nat} {v : Value} {xs : List Value} (h : w.ownsRow base e size v n xs) {g : Nat} (hg : v.ownBlock = some g) : ∃ cs, w.heap[g]? = some (.cells cs e (0, 0)) := by
  rcases h.2 with ⟨h2, _⟩ | ⟨g', cap, cur, h1, h2, h3, h4⟩
  · rw [h2] at hg; cases hg
  · rw [h1] at hg; cases hg; exact ⟨cur, h3⟩

theorem getD_snoc_lt {α : Type} (l : List α) (x d : α) (i : Nat) (h : i < l.length) : (l ++ [x]).getD i d = l.getD i d := by
  simp [List.getD_eq_getElem?_getD, List.getElem?_append_left h]
theorem getD_snoc_eq {α : Type} (l : List α) (x d : α) (i : Nat) (h : i = l.length) : (l ++ [x]).getD i d = x := by
  subst h; simp [List.getD_eq_getElem?_getD]

/-- A lot has come. -/
theorem PV.added {w W1 W2 : World} {S : Nat} {M : Mx} {v v' : Value} {td : Nat} {bs : List Nat} {pvs : List Value} {ls : List L} {os : List O} (h : PV os w S M v td bs pvs ls) {pv : Value} {l : L}
    (hW1 : ∀ k, k < w.heap.size → W1.heap[k]? = w.heap[k]?) (hb : W1.heap[w.heap.size]? = some (.cells (lotCells l pv) 173 (0, 0)))
    (hown : W2.ownsRow 0 174 1 v' (bs.length + 1) (ptrs bs ++ [.pointer (some ⟨w.heap.size, 0, none⟩)])) (hg : W1.grownBy W2 v.ownBlock) (hl : L.Ok l) (hpar : Par w pv) (hlen : ls.length < 30) (hgrow' : w.heap.size < W1.heap.size) :
    PV os (W2.setCell ⟨S, 1, none⟩ v') S M v' td (bs ++ [w.heap.size]) (pvs ++ [pv]) (ls ++ [l]) := by
  have hS := blk_lt h.store
  have hrowS : v.ownBlock ≠ some S := fun e => by
    obtain ⟨cs, hc⟩ := own_ty h.row e
    exact ty_ne h.store hc (by decide) rfl
  have hrowM : ∀ (k : Nat) (es : Array MapEntry) (c : Nat), w.heap[k]? = some (.map es c) → v.ownBlock ≠ some k := fun k es c hM e => by
    obtain ⟨cs, hc⟩ := own_ty h.row e
    exact map_ne hc hM rfl
  have old : ∀ k, k < w.heap.size → v.ownBlock ≠ some k → W2.heap[k]? = w.heap[k]? := fun k hk hn => (hg.block k (by omega) (fun e => hn e.symm)).trans (hW1 k hk)
  have oldS : ∀ k, k < w.heap.size → v.ownBlock ≠ some k → k ≠ S → (W2.setCell ⟨S, 1, none⟩ v').heap[k]? = w.heap[k]? := fun k hk hn hs => (Below.heap_setCell _ _ _ _ hs).trans (old k hk hn)
  have hS2 : W2.heap[S]? = some (.cells #[.int .i64 (td : Int), v, .map (some M.o), .map (some M.h), .map (some M.r)] 71 (0, 0)) := (old S hS hrowS).trans h.store
  have hrowb : v.ownBlock ≠ some w.heap.size := fun e => by
    obtain ⟨cs, hc⟩ := own_ty h.row e
    have := blk_lt hc
    omega
  have hb2 : W2.heap[w.heap.size]? = some (.cells (lotCells l pv) 173 (0, 0)) := (hg.block _ hgrow' (fun e => hrowb e.symm)).trans hb
  have hlotne : ∀ i, i < ls.length → bs.getD i 0 ≠ S ∧ v.ownBlock ≠ some (bs.getD i 0) := fun i hi => ⟨(ty_ne h.store (h.lot i hi) (by decide)).symm, fun e => by
    obtain ⟨cs, hc⟩ := own_ty h.row e
    exact ty_ne (h.lot i hi) hc (by decide) rfl⟩
  have hparold : ∀ pv', Par w pv' → Par (W2.setCell ⟨S, 1, none⟩ v') pv' := fun pv' hp => hp.congr (fun q hq => by
    rcases hp with h1 | ⟨q', n, cap, cs, h1, h2, h3, h4⟩
    · rw [h1] at hq; cases hq
    · rw [h1] at hq; cases hq
      exact oldS _ (blk_lt h3) (fun e => by
        obtain ⟨cs', hc⟩ := own_ty h.row e
        exact ty_ne h3 hc (by decide) rfl) (ty_ne h.store h3 (by decide)).symm)
  refine ⟨?_, ?_, ?_, by simp [h.len], by simp [h.plen], ?_, ?_, ?_, h.today, ?_, by simp; omega⟩
  · have := heap_setCell_same W2 S 1 _ 71 v' hS2
    simpa using this
  · exact h.maps.congr (fun k es c hk => oldS k (blk_lt hk) (hrowM k es c hk) (map_ne h.store hk).symm)
  · have hk := hown.kept (grownBy_setCell W2 ⟨S, 1, none⟩ v') (Or.inr (fun e => by
      obtain ⟨cs, hc⟩ := own_ty hown (g := S) e
      exact ty_ne hS2 hc (by decide) rfl))
    have e : ptrs (bs ++ [w.heap.size]) = ptrs bs ++ [.pointer (some ⟨w.heap.size, 0, none⟩)] := by simp [ptrs]
    rw [e, List.length_append]; exact hk
  · intro i hi
    rw [List.length_append, List.length_singleton] at hi
    by_cases hlt : i < ls.length
    · rw [getD_snoc_lt bs _ _ _ (by rw [h.len]; exact hlt), getD_snoc_lt ls _ _ _ hlt, getD_snoc_lt pvs _ _ _ (by rw [h.plen]; exact hlt), oldS _ (blk_lt (h.lot i hlt)) (hlotne i hlt).2 (hlotne i hlt).1]
      exact h.lot i hlt
    · have hi' : i = ls.length := by omega
      rw [getD_snoc_eq bs _ _ _ (by rw [h.len]; exact hi'), getD_snoc_eq ls _ _ _ hi', getD_snoc_eq pvs _ _ _ (by rw [h.plen]; exact hi'), Below.heap_setCell _ _ _ _ (show w.heap.size ≠ S by omega)]
      exact hb2
  · intro i hi
    rw [List.length_append, List.length_singleton] at hi
    by_cases hlt : i < ls.length
    · rw [getD_snoc_lt pvs _ _ _ (by rw [h.plen]; exact hlt)]
      exact hparold _ (h.par i hlt)
    · rw [getD_snoc_eq pvs _ _ _ (by rw [h.plen]; omega)]
      exact hparold _ hpar
  · rw [List.nodup_append]
    refine ⟨h.nodup, by simp, ?_⟩
    intro a ha b hb'
    simp at hb'
    subst hb'
    obtain ⟨i, hi, rfl⟩ := List.getElem_of_mem ha
    have := blk_lt (h.lot i (by rw [← h.len]; exact hi))
    rw [List.getD_eq_getElem?_getD, List.getElem?_eq_getElem hi] at this
    simp at this
    omega
  · intro x hx
    rcases List.mem_append.1 hx with hx | hx
    · exact h.ok x hx
    · simp at hx; subst hx; exact hl

end Go.Proofs.YtclipofifmajeaaGreatDoor

namespace Go.Proofs.YtclipofifmajeaaGreatDoor
set_option linter.unusedSimpArgs false
set_option linter.unusedVariables false
open Go.RowKit
set_option maxRecDepth 100000

theorem tU57 : Tryz.prog.underlying 69 = some (.slice 174) := by kernel_rfl
theorem info149 : (Tryz.prog.info? 174).map (fun i => (i.zero, i.size, i.bytes)) = some (some (.pointer none), 1, 8) := by kernel_rfl

theorem one_new' (w1 : World) (x : Value) (t : TypeId) (b : Nat) (hb : b = w1.heap.size) : ∀ (j : Nat) (u : Value), [x][j]? = some u → (w1.alloc (.cells #[x] t)).cell? (Addr.add ⟨b, 0, none⟩ j) = some u := by
  subst hb; exact one_new w1 x t

set_option maxHeartbeats 800000 in
theorem add_any {w : World} {S : Nat} {M : Mx} {v : Value} {td : Nat} {bs : List Nat} {pvs : List Value} {ls : List L} {os : List O} (h : PV os w S M v td bs pvs ls) (id goods expiry got : Nat) (pv : Value) (hpar : Par w pv) (hlen : ls.length < 30)
    (h1 : id ≤ 2147483647) (h2 : goods ≤ 2147483647) (h3 : expiry ≤ 2147483647) (h4 : got ≤ 2147483647) :
    Calls Tryz.prog 97 #[.pointer (some ⟨S, 0, none⟩), .agg #[.int .i64 (id : Int), .int .i64 (goods : Int), .int .i64 (expiry : Int), .int .i64 0, pv, .int .i64 (got : Int), .int .i64 0, .int .i64 0, .int .i64 0, .int .i64 0, .int .i64 0]] w
      fun e w' => e = .returned (.tuple #[]) ∧ Kp (fun k => k = S ∨ v.ownBlock = some k) w w' ∧ ∃ v', PV os w' S M v' td (bs ++ [w.heap.size]) (pvs ++ [pv]) (ls ++ [{ id := id, goods := goods, expiry := expiry, place := ls.length + 1, got := got, free := got, held := 0, shipped := 0, scrapped := 0, given := 0 }]) ∧
        (∀ g, v'.ownBlock = some g → v.ownBlock = some g ∨ w.heap.size ≤ g) := by
  obtain ⟨i0, hi, hz0, hz1, hz2⟩ := info_parts info149
  obtain ⟨a, cap, hv, _⟩ := h.shape
  have hS := blk_lt h.store
  have hSs : S < w.heap.size := hS
  have c1 := h.c1
  have f1 := blk_free h.store 1
  have hrow := h.row
  rw [h.len] at hrow
  rw [hv] at c1 hrow
  have HP := hide h
  obtain ⟨n, HN⟩ : ∃ n, Hid (n = ls.length) := ⟨_, rfl⟩
  rw [← HN.out] at c1 hrow hlen
  have hpvs : ∃ pa pl pc, pv = .slice pa pl pc := by
    rcases hpar with h | ⟨q, n, cap, cs, h, _⟩
    · exact ⟨_, _, _, h⟩
    · exact ⟨_, _, _, h⟩
  obtain ⟨pa, pl, pc, hpv⟩ := hpvs
  have HPV := hide hpv
  have HV := hide hv
  rw [hpv]
  clear h hv hpv
  go_enter Tryz.func97, Tryz.ntmps97
  go_wp2_with (at_builtin; refine wpList_append_own_at _ rfl _ _ 69 rfl 0 174 i0 (.pointer none) 1 8 tU57 hi hz0 hz1 hz2 rfl (by decide) _ n (ptrs bs) rfl ?ho ⟨w.heap.size + 1, 0, none⟩ 1 1 [.pointer (some ⟨w.heap.size, 0, none⟩)] rfl rfl ?c1 ?c2 ?c3 ?c4 ?c5 ?_)
  case ho => exact (hrow.alloc _).alloc _
  case c1 => exact one_new' _ _ _ _ (by simp)
  case c2 => intro u hu; simp at hu; subst hu; rfl
  case c3 => unfold maxLen; omega
  case c4 => omega
  case c5 => exact Nat.zero_le _
  intro v' w2 hown2 hgrow hnn hat
  have hP := HP.out
  have hlots : (lotCells { id := id, goods := goods, expiry := expiry, place := ls.length + 1, got := got, free := got, held := 0, shipped := 0, scrapped := 0, given := 0 } pv) = #[.int .i64 (id : Int), .int .i64 (goods : Int), .int .i64 (expiry : Int), .int .i64 ((n : Int) + 1), .slice pa pl pc, .int .i64 (got : Int), .int .i64 (got : Int), .int .i64 0, .int .i64 0, .int .i64 0, .int .i64 0] := by
    rw [HPV.out, HN.out]; rfl
  have hvb : v.ownBlock = (Value.slice a n cap).ownBlock := by rw [HV.out, HN.out]
  have hgrow' : ((w.alloc (.cells #[.int .i64 (id : Int), .int .i64 (goods : Int), .int .i64 (expiry : Int), .int .i64 ((n : Int) + 1), .slice pa pl pc, .int .i64 (got : Int), .int .i64 (got : Int), .int .i64 0, .int .i64 0, .int .i64 0, .int .i64 0] 173)).alloc (.cells #[.pointer (some ⟨w.heap.size, 0, none⟩)] 174)).grownBy w2 v.ownBlock := by rw [hvb]; exact hgrow
  have hW1 : ∀ k, k < w.heap.size → ((w.alloc (.cells #[.int .i64 (id : Int), .int .i64 (goods : Int), .int .i64 (expiry : Int), .int .i64 ((n : Int) + 1), .slice pa pl pc, .int .i64 (got : Int), .int .i64 (got : Int), .int .i64 0, .int .i64 0, .int .i64 0, .int .i64 0] 173)).alloc (.cells #[.pointer (some ⟨w.heap.size, 0, none⟩)] 174)).heap[k]? = w.heap[k]? := fun k hk => by
    rw [Below.heap_alloc _ _ _ (by simp; omega), Below.heap_alloc _ _ _ hk]
  have hb : ((w.alloc (.cells #[.int .i64 (id : Int), .int .i64 (goods : Int), .int .i64 (expiry : Int), .int .i64 ((n : Int) + 1), .slice pa pl pc, .int .i64 (got : Int), .int .i64 (got : Int), .int .i64 0, .int .i64 0, .int .i64 0, .int .i64 0] 173)).alloc (.cells #[.pointer (some ⟨w.heap.size, 0, none⟩)] 174)).heap[w.heap.size]? = some (.cells (lotCells { id := id, goods := goods, expiry := expiry, place := ls.length + 1, got := got, free := got, held := 0, shipped := 0, scrapped := 0, given := 0 } pv) 173 (0, 0)) := by
    rw [Below.heap_alloc _ _ _ (by simp), hlots]; exact heap_alloc_new w _
  have hnew := hP.added hW1 hb (by rw [hP.len, ← HN.out]; exact hown2) hgrow' ⟨h1, h2, h3, (by show ls.length + 1 ≤ 30; have := HN.out; omega), (by simp; omega), h4⟩ hpar (by have := HN.out; omega) (by simp; omega)
  have hrowS : v.ownBlock ≠ some S := fun e => by
    obtain ⟨cs, hc⟩ := own_ty hP.row e
    exact ty_ne hP.store hc (by decide) rfl
  have hS2 : w2.heap[S]? = some (.cells #[.int .i64 (td : Int), v, .map (some M.o), .map (some M.h), .map (some M.r)] 71 (0, 0)) := ((hgrow'.block S (by simp; omega) (fun e => hrowS e.symm)).trans (hW1 S hS)).trans hP.store
  have hc2 : w2.cell? ⟨S, 1, none⟩ = some v := by rw [blk_cell hS2]; rfl
  have hf2 := blk_free hS2 1
  have hkp : Kp (fun k => k = S ∨ v.ownBlock = some k) w (w2.setCell ⟨S, 1, none⟩ v') := by
    refine Kp.setCell ?_ (Or.inl (Or.inl rfl)) _
    refine Kp.grown (kpB ?_) hgrow' (fun k hk => Or.inl (Or.inr hk))
    exact ((Below.refl _ _).alloc (Nat.le_refl _) _).alloc (by simp) _
  have hat' : ∀ g, v'.ownBlock = some g → v.ownBlock = some g ∨ w.heap.size ≤ g := fun g hg => by
    rcases hat with h | h
    · left; rw [hvb]; exact h.symm.trans hg
    · right; rw [h] at hg; simp at hg; omega
  obtain ⟨g, cap', hv', _, _⟩ := own_some hown2 (by omega)
  have HNew := hide hnew
  have HK := hide hkp
  have HA := hide hat'
  rw [hv'] at HNew HK HA
  rw [hv']
  clear hown2 hgrow hgrow' hW1 hb hnew hkp hat' hat hnn hv' hlots hvb hS2 hrow c1 f1 hP
  go_wp2_with fail
  go_end0
  have HN2 := HNew.out
  rw [HPV.out] at HN2
  exact ⟨rfl, HK.out, _, HN2, HA.out⟩

end Go.Proofs.YtclipofifmajeaaGreatDoor

namespace Go.Proofs.YtclipofifmajeaaGreatDoor
set_option linter.unusedSimpArgs false
set_option linter.unusedVariables false
open Go.RowKit
set_option maxRecDepth 100000

/-- Z, and all that has come since w. -/
def Zn (Z : Nat → Prop) (w : World) (k : Nat) : Prop := Z k ∨ w.heap.size ≤ k

/-- The program's store at S: its day and its lots; all that it uses lies in Z. -/
def PI (os : List O) (Z : Nat → Prop) (w : World) (S td : Nat) (ls : List L) : Prop := ∃ M v bs pvs, PV os w S M v td bs pvs ls ∧ PIn Z S M v bs pvs

theorem PI.mono {Z Z' : Nat → Prop} {w : World} {S td : Nat} {ls : List L} {os : List O} (h : PI os Z w S td ls) (hz : ∀ k, Z k → Z' k) : PI os Z' w S td ls := by
  obtain ⟨M, v, bs, pvs, h1, h2⟩ := h
  exact ⟨M, v, bs, pvs, h1, h2.mono hz⟩

theorem al1 (w : World) (o : Obj) : Below w.heap.size w (w.alloc o) := (Below.refl _ _).alloc (Nat.le_refl _) _

/-- What stands beside the store's own block stays while that block turns. -/
theorem PV.store_set {w w' : World} {S : Nat} {M : Mx} {v : Value} {td td' : Nat} {bs : List Nat} {pvs : List Value} {ls : List L} {os : List O} (h : PV os w S M v td bs pvs ls) (hS : w'.heap[S]? = some (.cells #[.int .i64 (td' : Int), v, .map (some M.o), .map (some M.h), .map (some M.r)] 71 (0, 0))) (hq : ∀ k, k ≠ S → w'.heap[k]? = w.heap[k]?) (ht : td' ≤ 2147483647) : PV os w' S M v td' bs pvs ls where
  store := hS
  maps := h.maps.congr (fun k es c hk => hq k (map_ne h.store hk).symm)
  row := own_congr h.row (fun g hg => hq g (by
    obtain ⟨cs, hc⟩ := own_ty h.row hg
    exact (ty_ne h.store hc (by decide)).symm))
  len := h.len
  plen := h.plen
  lot := fun i hl => by rw [hq _ (ty_ne h.store (h.lot i hl) (by decide)).symm]; exact h.lot i hl
  par := fun i hl => (h.par i hl).congr (fun q hq' => by
    rcases h.par i hl with h1 | ⟨q', n, cap, cs, h1, h2, h3, h4⟩
    · rw [h1] at hq'; cases hq'
    · rw [h1] at hq'; cases hq'; exact hq _ (ty_ne h.store h3 (by decide)).symm)
  nodup := h.nodup
  today := ht
  ok := h.ok
  room := h.room

theorem PV.days {w : World} {S : Nat} {M : Mx} {v : Value} {td : Nat} {bs : List Nat} {pvs : List Value} {ls : List L} {os : List O} (h : PV os w S M v td bs pvs ls) (d : Nat) (hd : d ≤ 2147483647) : PV os (w.setCell ⟨S, 0, none⟩ (.int .i64 (d : Int))) S M v d bs pvs ls := by
  refine h.store_set ?_ (fun k hk => Below.heap_setCell _ _ _ _ hk) hd
  have := heap_setCell_same w S 0 _ 71 (.int .i64 (d : Int)) h.store
  simpa using this

set_option maxHeartbeats 800000 in
theorem day_any {Z : Nat → Prop} {w : World} {S td : Nat} {ls : List L} {os : List O} (h : PI os Z w S td ls) (d : Nat) (hd : d ≤ 2147483647) :
    Calls Tryz.prog 63 #[.pointer (some ⟨S, 0, none⟩), .agg #[.int .i64 (d : Int)]] w fun e w' => Kp Z w w' ∧
      ((d < td ∧ e = .returned (.int .i64 3) ∧ PI os (Zn Z w) w' S td ls) ∨ (td ≤ d ∧ e = .returned (.int .i64 0) ∧ PI os (Zn Z w) w' S d ls)) := by
  obtain ⟨M, v, bs, pvs, h1, hin⟩ := h
  have hS := blk_lt h1.store
  have c0 := h1.c0
  have htd := h1.today
  have f0 := blk_free h1.store 0
  have HP := hide h1
  clear h1
  by_cases hlt : d < td
  · go_enter Tryz.func63, Tryz.ntmps63
    go_wp2_with fail
    go_region
    go_wp2_with fail
    go_ret
    refine ⟨?_, Or.inl ⟨hlt, rfl, M, v, bs, pvs, ?_, hin.mono (fun k hk => Or.inl hk)⟩⟩
    · exact kpB (al1 w _).drew
    · exact HP.out.below (al1 w _).drew
  · have hge : td ≤ d := by omega
    go_enter Tryz.func63, Tryz.ntmps63
    go_wp2_with fail
    go_region
    go_wp2_with fail
    go_ret
    refine ⟨?_, Or.inr ⟨hge, rfl, M, v, bs, pvs, ?_, hin.mono (fun k hk => Or.inl hk)⟩⟩
    · exact (((Kp.refl Z w).setCell (Or.inl hin.s) _).after (al1 _ _)).after (Below.refl _ _).drew
    · exact ((HP.out.days d hd).below (al1 _ _)).below (Below.refl _ _).drew

set_option maxHeartbeats 800000 in
theorem receive_any {Z : Nat → Prop} {w : World} {S td : Nat} {ls : List L} {os : List O} (h : PI os Z w S td ls) (lot goods count expiry : Nat) (h1 : lot ≤ 2147483647) (h2 : goods ≤ 2147483647) (h3 : count ≤ 2147483647) (h4 : expiry ≤ 2147483647) :
    Calls Tryz.prog 64 #[.pointer (some ⟨S, 0, none⟩), .agg #[.int .i64 (lot : Int), .int .i64 (goods : Int), .int .i64 (count : Int), .int .i64 (expiry : Int)]] w fun e w' => Kp Z w w' ∧ e = .returned (.int .i64 (roomC ls lot : Int)) ∧
      PI os (Zn Z w) w' S td (if roomC ls lot = 0 then ls ++ [{ id := lot, goods := goods, expiry := expiry, place := ls.length + 1, got := count, free := count, held := 0, shipped := 0, scrapped := 0, given := 0 }] else ls) := by
  obtain ⟨M, v, bs, pvs, hP, hin⟩ := h
  obtain ⟨o, HO⟩ : ∃ o, Hid (o = Obj.cells #[.int .i64 (lot : Int), .int .i64 (goods : Int), .int .i64 (count : Int), .int .i64 (expiry : Int)] 114) := ⟨_, rfl⟩
  have hP1 := hP.below (al1 w (Obj.cells #[.int .i64 (lot : Int), .int .i64 (goods : Int), .int .i64 (count : Int), .int .i64 (expiry : Int)] 114))
  have HR := hide (room_any hP1 lot h1)
  have hrle : roomC ls lot ≤ 6 := by unfold roomC; split <;> (try split) <;> omega
  by_cases hr : roomC ls lot = 0
  · have hl30 : ls.length < 30 := by
      unfold roomC at hr
      by_cases hq : 30 ≤ ls.length
      · split at hr
        · omega
        · omega
      · omega
    have HA := hide (add_any hP1 lot goods expiry count (.slice none 0 0) (Or.inl rfl) hl30 h1 h2 h4 h3)
    rw [hr] at HR ⊢
    rw [if_pos rfl]
    have HP := hide hP
    clear hP hP1 hr
    go_enter Tryz.func64, Tryz.ntmps64
    go_wp2_with (first
      | (go_at_call 96; refine (HR.out).mono ?_; rintro e w1 ⟨rfl, rfl⟩)
      | (go_at_call 97; refine (HA.out).mono ?_; rintro e w2 ⟨rfl, hk, v', hPV, hat⟩))
    go_ret
    refine ⟨?_, rfl, M, v', _, _, hPV, ?_⟩
    · exact Kp.before (al1 w _) (hk.mono (fun k hq => Or.inl (hq.elim (fun e => e ▸ hin.s) (fun e => hin.v k e))))
    · refine ⟨Or.inl hin.s, Or.inl hin.m, Or.inl hin.mo, Or.inl hin.mh, fun g hg => ?_, fun k hk => ?_, fun pv hp q hq => ?_⟩
      · rcases hat g hg with h | h
        · exact Or.inl (hin.v g h)
        · right; simp at h; omega
      · rcases List.mem_append.1 hk with h | h
        · exact Or.inl (hin.b k h)
        · right; simp at h; omega
      · rcases List.mem_append.1 hp with h | h
        · exact Or.inl (hin.p pv h q hq)
        · simp at h; subst h; cases hq
  · rw [if_neg hr]
    have hrb : ((roomC ls lot : Int) != 0) = true := by rw [bne_iff_ne]; omega
    generalize roomC ls lot = rc at *
    go_enter Tryz.func64, Tryz.ntmps64
    go_wp2_with (go_at_call 96; refine (HR.out).mono ?_; rintro e w1 ⟨rfl, rfl⟩)
    go_ret
    exact ⟨kpB (al1 w _), rfl, M, v, bs, pvs, hP1, hin.mono (fun k hk => Or.inl hk)⟩

end Go.Proofs.YtclipofifmajeaaGreatDoor

namespace Go.Proofs.YtclipofifmajeaaGreatDoor
set_option linter.unusedSimpArgs false
set_option linter.unusedVariables false
open Go.RowKit
set_option maxRecDepth 100000

theorem tU155 : Tryz.prog.underlying 189 = some (.map 2 197) := by kernel_rfl
theorem tU2 : Tryz.prog.underlying 2 = some (.int .i64) := by kernel_rfl
theorem zero163 : (Tryz.prog.info? 197).map (fun i => i.zero) = some (some (.agg #[])) := by kernel_rfl

theorem run_zero163 (w : World) : (zeroValue 197).run Tryz.prog w = .ok (.agg #[]) w := by
  have h := zero163
  cases hi : Tryz.prog.info? 197 with
  | none => rw [hi] at h; cases h
  | some i =>
    rw [hi] at h
    simp at h
    simp [zeroValue, typeInfo, hi, h]

theorem ck_int (m : Nat) (w : World) (n : Int) : (Instr.checkKey true (m + 1) 2 (.int .i64 n)).run Tryz.prog w = .ok () w := by
  unfold Instr.checkKey
  rw [Sem.run_bind, run_underlying tU2]
  rfl

theorem look_empty (w : World) (Mf c : Nat) (n : Int) (hm : w.heap[Mf]? = some (.map #[] c)) :
    (Instr.lookup 189 (.map (some Mf)) (.int .i64 n) true).run Tryz.prog w = .ok (.tuple #[.agg #[], .bool false]) w := by
  have hg : (getObj Mf).run Tryz.prog w = .ok (.map #[] c) w := by simp [getObj, Sem.run, hm]
  have hck : (Instr.checkKey true 10000 2 (.int .i64 n)).run Tryz.prog w = .ok () w := ck_int 9999 w n
  have hfk : (Instr.findKey 2 (.int .i64 n) []).run Tryz.prog w = .ok none w := by
    unfold Instr.findKey
    rw [Sem.run_bind, run_underlying tU2]
    rfl
  unfold Instr.lookup
  simp only [Sem.run_bind, run_underlying tU155, Result.andThen, hg, Sem.run_pure, Array.isEmpty_empty, hck, hfk, run_zero163, if_true]

set_option maxHeartbeats 800000 in
theorem has_any (Mf b n c : Nat) (w : World) (hm : w.heap[Mf]? = some (.map #[] c)) (hb : w.cell? ⟨b, 0, none⟩ = some (.int .i64 (n : Int))) :
    Calls Tryz.prog 107 #[.map (some Mf), .pointer (some ⟨b, 0, none⟩)] w fun e w' => e = .returned (.bool false) ∧ Below w.heap.size w w' := by
  have hlk := look_empty w Mf c n hm
  go_enter Tryz.func107, Tryz.ntmps107
  go_wp2_with fail
  go_ret
  exact ⟨rfl, al1 w _⟩

set_option maxHeartbeats 1600000 in
theorem grow_any {w : World} {S : Nat} {M : Mx} {v : Value} {td : Nat} {bs : List Nat} {pvs : List Value} {ls : List L} {os : List O} (h : PV os w S M v td bs pvs ls) (Mf c : Nat) (hm : w.heap[Mf]? = some (.map #[] c)) :
    Calls Tryz.prog 113 #[.pointer (some ⟨S, 0, none⟩), .map (some Mf)] w fun e w' => e = .returned (.tuple #[]) ∧ Below w.heap.size w w' := by
  obtain ⟨a, cap, hv, hrow⟩ := h.shape
  have c1 := h.c1
  rw [hv] at c1
  have hroom := h.room
  have hmlt := blk_lt hm
  have HP := hide h
  have HM := hide hm
  clear h hv hm
  go_enter Tryz.func113, Tryz.ntmps113
  go_wp2_with fail
  go_loopw [15] (fun i wr => ∃ k : Nat, k ≤ ls.length ∧ i = .int .i64 k ∧ Below w.heap.size w wr) (fun i _ => ls.length - (intOf i).toNat)
  case atStart => exact ⟨0, by omega, rfl, Below.refl _ _⟩
  case round =>
    obtain ⟨k, hk, rfl, hb⟩ := hrel
    by_cases hlt : k < ls.length
    · obtain ⟨G, hG, hcells⟩ := hrow (by omega)
      rw [hG]
      have hPr := HP.out.below hb
      have hGlt : G < w.heap.size := by
        have := hcells k hlt
        unfold World.cell? at this
        cases hh : w.heap[G]? with
        | none => rw [hh] at this; cases this
        | some o => exact blk_lt hh
      have hck : wr.cell? ⟨G, k, none⟩ = some (.pointer (some ⟨bs.getD k 0, 0, none⟩)) := (hb.cell (by exact hGlt)).trans (hcells k hlt)
      have hcl : wr.cell? ⟨bs.getD k 0, 4, none⟩ = some (pvs.getD k default) := by rw [hPr.cl k hlt 4]; rfl
      have hpar := hPr.par k hlt
      obtain ⟨b, HB⟩ : ∃ b, Hid (b = bs.getD k 0) := ⟨_, rfl⟩
      rw [← HB.out] at hcl hck
      generalize pvs.getD k default = pv at *
      clear hcells hG hrow hPr
      rcases hpar with rfl | ⟨q, m, qcap, cs, rfl, hm2, hq, hxy⟩
      · go_wp2_with fail
        refine wp_loop_rounds 1 ?_; rw [rounds_succ]
        go_wp2_with fail
        go_roundw
        case rel => exact ⟨k + 1, by omega, by go_num, hb⟩
        case measure => simp [intOf]; omega
      · have hqlt := blk_lt hq
        go_wp2_with fail
        go_loopw [24] (fun i w3 => ∃ j : Nat, j ≤ m ∧ i = .int .i64 j ∧ Below wr.heap.size wr w3) (fun i _ => m - (intOf i).toNat)
        case atStart => exact ⟨0, by omega, rfl, Below.refl _ _⟩
        case round =>
          obtain ⟨j, hj, rfl, hb3⟩ := hrel
          by_cases hjm : j < m
          · obtain ⟨x, y, hx, hy⟩ := hxy j hjm
            have hx3 : wr.cell? ⟨q, j * 2, none⟩ = some (.int .i64 (x : Int)) := (hb3.cell (by exact hqlt)).trans (by rw [blk_cell hq, Nat.mul_comm]; exact hx)
            have hy3 : wr.cell? ⟨q, j * 2 + 1, none⟩ = some (.int .i64 (y : Int)) := (hb3.cell (by exact hqlt)).trans (by rw [blk_cell hq, Nat.mul_comm]; exact hy)
            have hmw : wr.heap[Mf]? = some (.map #[] c) := (hb3.block Mf (by have := hb.size; omega)).trans ((hb.block Mf hmlt).trans HM.out)
            have hlk := fun o => look_empty (wr.alloc o) Mf c (x : Int) (by rw [Below.heap_alloc _ _ _ (blk_lt hmw)]; exact hmw)
            have HX := hide hxy
            have HQ := hide hq
            clear hxy hx hy hq hmw
            go_wp2_with fail
            go_roundw
            case rel => exact ⟨j + 1, by omega, by go_num, (hb3.alloc hb3.size _).alloc (by have := hb3.size; simp; omega) _⟩
            case measure => simp [intOf]; omega
          · obtain rfl : j = m := by omega
            clear hjm
            go_wp2_with fail
            go_roundw
            case rel => exact ⟨k + 1, by omega, by go_num, hb.trans (hb3.mono hb.size)⟩
            case measure => simp [intOf]; omega
    · obtain rfl : k = ls.length := by omega
      clear hrow hlt
      go_wp2_with fail
      go_end0
      exact ⟨rfl, hb⟩

end Go.Proofs.YtclipofifmajeaaGreatDoor

namespace Go.Proofs.YtclipofifmajeaaGreatDoor
set_option linter.unusedSimpArgs false
set_option linter.unusedVariables false
open Go.RowKit
set_option maxRecDepth 100000

theorem tU56 : Tryz.prog.underlying 68 = some (.map 203 197) := by kernel_rfl

set_option maxHeartbeats 800000 in
theorem recalled_any {w : World} {S : Nat} {M : Mx} {v : Value} {td : Nat} {bs : List Nat} {pvs : List Value} {ls : List L} {os : List O} (h : PV os w S M v td bs pvs ls) :
    Calls Tryz.prog 106 #[.pointer (some ⟨S, 0, none⟩)] w fun e w' => Below w.heap.size w w' ∧ ∃ Mf c, e = .returned (.map (some Mf)) ∧ w'.heap[Mf]? = some (.map #[] c) ∧ w.heap.size ≤ Mf := by
  have hmm := @run_makeMap Tryz.prog
  obtain ⟨c, hM⟩ := h.recalls
  have hb0 := al1 w (Obj.map #[] 0)
  have hM' : (w.alloc (.map #[] 0)).heap[M.r]? = some (.map #[] c) := (hb0.block M.r (blk_lt hM)).trans hM
  have c2 : (w.alloc (.map #[] 0)).cell? ⟨S, 4, none⟩ = some (.map (some M.r)) := (hb0.cell (by exact blk_lt h.store)).trans h.c4
  have hrg := run_range_map (P := Tryz.prog) (w.alloc (.map #[] 0)) 68 203 197 M.r #[] c tU56 hM'
  have hnx : ∀ ty, (Instr.next (.pointer (some ⟨(w.alloc (.map #[] 0)).heap.size, 0, none⟩)) false ty).run Tryz.prog ((w.alloc (.map #[] 0)).alloc (.mapIter (some M.r) c #[] c)) = .ok (.tuple #[.bool false]) ((w.alloc (.map #[] 0)).alloc (.mapIter (some M.r) c #[] c)) := fun ty => by
    rcases run_next_map (P := Tryz.prog) (w.alloc (.map #[] 0)) ty M.r c c #[] #[] c hM' (by simp) (Nat.le_refl _) with ⟨_, h⟩ | ⟨e, he, _⟩
    · exact h
    · exact absurd (mem_left he).1 (by simp)
  have hbf : Below w.heap.size w ((w.alloc (.map #[] 0)).alloc (.mapIter (some M.r) c #[] c)) := hb0.alloc hb0.size _
  have hmf : ((w.alloc (.map #[] 0)).alloc (.mapIter (some M.r) c #[] c)).heap[w.heap.size]? = some (.map #[] 0) := by
    rw [Below.heap_alloc _ _ _ (by simp)]; exact heap_alloc_new w _
  have HG := hide (grow_any (h.below hbf) w.heap.size 0 hmf)
  have HF := hide hmf
  have HB := hide hbf
  simp only [World.size_alloc] at hrg hnx
  clear hM hM' h hbf hmf hb0
  go_enter Tryz.func106, Tryz.ntmps106
  go_wp2_with fail
  refine wp_loop_rounds 1 ?_; rw [rounds_succ]
  go_wp2_with fail
  refine (HG.out).mono ?_
  rintro e w1 ⟨rfl, hb1⟩
  go_wp2_with fail
  go_ret
  refine ⟨HB.out.trans (hb1.mono HB.out.size), w.heap.size, 0, rfl, ?_, Nat.le_refl _⟩
  rw [hb1.block _ (by simp; omega)]; exact HF.out

end Go.Proofs.YtclipofifmajeaaGreatDoor
