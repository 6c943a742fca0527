import Derived.Test.YtclipofifmajeaaGreatDoorRefA
import Derived.KernelRfl
import Derived.Maps.OwnSet
import Derived.DeepKeys4
namespace Go.Proofs.YtclipofifmajeaaGreatDoor
set_option linter.unusedSimpArgs false
set_option linter.unusedVariables false
open Go.RowKit
set_option maxRecDepth 100000

/-- An order, as both sides have it: its lines are a lot's number and how many, in the order in which the lots gave. -/
structure O where
  id : Nat
  goods : Nat
  lines : List (Nat × Nat)

/-- Where the program's store has its maps: recalls, orders, holdings. -/
structure Mx where
  r : Nat
  o : Nat
  h : Nat

/-- What an order holds of a lot. -/
def lineOf (os : List O) (a b : Nat) : Option Nat := (os.find? (fun o => o.id == a)).bind fun o => o.lines.lookup b

def okey (n : Nat) : Lit := .int .i64 (n : Int)
def hkey (a b : Nat) : Lit := .string (keyBytes [.int .i64 (a : Int), .int .i64 (b : Int)])

theorem tUI : Tryz.prog.underlying 2 = some (.int .i64) := by kernel_rfl
theorem tUH : (Tryz.prog.underlying 201).map (fun d => match d with | .struct fs => some (fs.toList.map (fun f => (f.name, f.type, f.offset))) | _ => none) = some (some [("order", 2, 0), ("lot", 2, 1)]) := by kernel_rfl
theorem cellsH : Tryz.prog.cellsOf 201 = 2 := by kernel_rfl
theorem cellsI : Tryz.prog.cellsOf 2 = 1 := by kernel_rfl
theorem keyTH : Tryz.prog.keyType 201 = true := by kernel_rfl
theorem lidAll : laidOutB Tryz.prog = true := by kernel_rfl
theorem kInt : Maps.Keyed Tryz.prog 2 := Maps.int_keyed tUI
theorem kHold : Maps.Keyed Tryz.prog 201 := Maps.Keyed.of_law (deep_law_laid lidAll (m := 5) (by decide) (of_decide_eq_true (by kernel_rfl)) (by kernel_rfl) (by kernel_rfl))
theorem tySize : ∃ n, Tryz.prog.types.size = n + 2 := ⟨237, by kernel_rfl⟩
theorem wf64 {n : Nat} (h : n ≤ 2147483647) : (Lit.int .i64 (n : Int)).wf = true := by
  have h1 : IntKind.min .i64 ≤ (n : Int) := by show (-9223372036854775808 : Int) ≤ n; omega
  have h2 : (n : Int) ≤ IntKind.max .i64 := by show (n : Int) ≤ 9223372036854775807; omega
  show (decide (IntKind.min .i64 ≤ (n : Int)) && decide ((n : Int) ≤ IntKind.max .i64)) = true
  rw [decide_eq_true h1, decide_eq_true h2]; rfl
theorem key_o {n : Nat} (h : n ≤ 2147483647) : keyOf Tryz.prog 2 (.int .i64 (n : Int)) = some (okey n) := Maps.keyOf_int_mk tUI (wf64 h)
theorem key_h {a b : Nat} (ha : a ≤ 2147483647) (hb : b ≤ 2147483647) : keyOf Tryz.prog 201 (.agg #[.int .i64 (a : Int), .int .i64 (b : Int)]) = some (hkey a b) := by
  obtain ⟨n, hn⟩ := tySize
  have hu := tUH
  cases hd : Tryz.prog.underlying 201 with
  | none => rw [hd] at hu; cases hu
  | some d =>
    rw [hd] at hu
    cases d
    case struct fs =>
      simp only [Option.map_some, Option.some.injEq] at hu
      have h1 : ∀ (x : Nat), x ≤ 2147483647 → Tryz.prog.keyLits (n + 2) 2 [.int .i64 (x : Int)] = some [.int .i64 (x : Int)] := fun x hx => by
        unfold Program.keyLits; rw [tUI]; simp [wf64 hx]
      obtain ⟨f0, f1, hl, ⟨n0, t0, o0⟩, n1, t1, o1⟩ : ∃ f0 f1, fs.toList = [f0, f1] ∧ (f0.name = "order" ∧ f0.type = 2 ∧ f0.offset = 0) ∧ f1.name = "lot" ∧ f1.type = 2 ∧ f1.offset = 1 := by
        cases hl : fs.toList with
        | nil => rw [hl] at hu; simp at hu
        | cons f0 r =>
          cases r with
          | nil => rw [hl] at hu; simp at hu
          | cons f1 r =>
            cases r with
            | nil => rw [hl] at hu; simp at hu; exact ⟨f0, f1, rfl, hu.1, hu.2⟩
            | cons f2 r => rw [hl] at hu; simp at hu
      have hall : fs.all (·.name != "_") = true := by
        rw [← Array.all_toList, hl]; simp [n0, n1]
      have hm : (fs.toList.mapM fun f => Tryz.prog.keyLits (n + 2) f.type (([.int .i64 (a : Int), .int .i64 (b : Int)] : List Value).drop f.offset |>.take (Tryz.prog.cellsOf f.type))) = some [[.int .i64 (a : Int)], [.int .i64 (b : Int)]] := by
        rw [hl]
        simp [List.mapM_cons, t0, t1, o0, o1, cellsI, h1 a ha, h1 b hb]
      have hk : Tryz.prog.keyLits (Tryz.prog.types.size + 1) 201 [.int .i64 (a : Int), .int .i64 (b : Int)] = some [.int .i64 (a : Int), .int .i64 (b : Int)] := by
        rw [hn]
        unfold Program.keyLits
        rw [hd]
        simp only [cellsH, hall]
        rw [if_pos ⟨rfl, trivial⟩, hm]
        rfl
      unfold keyOf
      rw [hd]
      simp only [keyTH, Value.formed, hd, cellsH, Value.cells, hk]
      rfl
    all_goals (simp at hu)
theorem hkey_inj {a b c d : Nat} (ha : a ≤ 2147483647) (hb : b ≤ 2147483647) (hc : c ≤ 2147483647) (hd : d ≤ 2147483647) (h : hkey a b = hkey c d) : a = c ∧ b = d := by
  have h1 := key_h ha hb
  have h2 := key_h hc hd
  rw [h] at h1
  have := kHold.inj h1 h2
  simp at this
  omega
theorem okey_inj {a b : Nat} (h : okey a = okey b) : a = b := by simp [okey] at h; omega

/-- How many lines there are. -/
def nLines (os : List O) : Nat := (os.map fun o => o.lines.length).sum

/-- The map of orders. -/
structure OD (os : List O) (D : DataW Unit) : Prop where
  size : Maps.size D = os.length
  has : ∀ n : Nat, n ≤ 2147483647 → Maps.has D (okey n) = os.any (fun o => o.id == n)

/-- The map of what orders hold. -/
structure HD (os : List O) (D : DataW Unit) : Prop where
  size : Maps.size D = nLines os
  has : ∀ a b : Nat, a ≤ 2147483647 → b ≤ 2147483647 → Maps.has D (hkey a b) = (lineOf os a b).isSome
  val : ∀ a b : Nat, a ≤ 2147483647 → b ≤ 2147483647 → D.atKey (hkey a b) (.lit (.int .i64 0)) = .lit (.int .i64 (((lineOf os a b).getD 0 : Nat) : Int))

def OwnsO (w : World) (b n : Nat) (D : DataW Unit) : Prop := w.ownsMap Tryz.prog 2 (plainElem Tryz.prog 2) b n D
def OwnsH (w : World) (b n : Nat) (D : DataW Unit) : Prop := w.ownsMap Tryz.prog 201 (plainElem Tryz.prog 2) b n D

theorem owns_congr {k : TypeId} {R : Value → Option (DataW Unit × List MemPlace)} {w w' : World} {b n : Nat} {D : DataW Unit} (h : w.ownsMap Tryz.prog k R b n D) (hq : w'.heap[b]? = w.heap[b]?) : w'.ownsMap Tryz.prog k R b n D := by
  obtain ⟨es, clock, hb, F, hs, hD⟩ := h
  exact ⟨es, clock, by rw [hq]; exact hb, F, hs, hD⟩
theorem owns_map {k : TypeId} {R : Value → Option (DataW Unit × List MemPlace)} {w : World} {b n : Nat} {D : DataW Unit} (h : w.ownsMap Tryz.prog k R b n D) : ∃ es c, w.heap[b]? = some (.map es c) := by
  obtain ⟨es, clock, hb, _⟩ := h
  exact ⟨es, clock, hb⟩
theorem owns_exact {k : TypeId} {R : Value → Option (DataW Unit × List MemPlace)} {w : World} {b n : Nat} {D : DataW Unit} (h : w.ownsMap Tryz.prog k R b n D) : w.ownsMap Tryz.prog k R b (Maps.size D) D := by
  obtain ⟨es, clock, hb, F, hs, hD⟩ := h
  exact ⟨es, clock, hb, F, by rw [hD]; simp [Maps.size, length_sorted], hD⟩

theorem owns_nil {k : TypeId} {R : Value → Option (DataW Unit × List MemPlace)} {w : World} {b : Nat} (h : w.heap[b]? = some (.map #[] 0)) : w.ownsMap Tryz.prog k R b (Maps.size (DataW.map [] : DataW Unit)) (DataW.map []) :=
  ⟨#[], 0, h, ⟨by simp, MapKept.stamped_empty 0, by simp⟩, Nat.le_refl _, rfl⟩

/-- The program's three maps. -/
structure Mp (os : List O) (w : World) (M : Mx) : Prop where
  r : ∃ c, w.heap[M.r]? = some (.map #[] c)
  o : ∃ D, OwnsO w M.o (Maps.size D) D ∧ OD os D
  h : ∃ D, OwnsH w M.h (Maps.size D) D ∧ HD os D
  ro : M.r ≠ M.o
  rh : M.r ≠ M.h
  oh : M.o ≠ M.h

theorem Mp.congr3 {os : List O} {w w' : World} {M : Mx} (h : Mp os w M) (h1 : w'.heap[M.r]? = w.heap[M.r]?) (h2 : w'.heap[M.o]? = w.heap[M.o]?) (h3 : w'.heap[M.h]? = w.heap[M.h]?) : Mp os w' M where
  r := by rw [h1]; exact h.r
  o := by obtain ⟨D, k1, k2⟩ := h.o; exact ⟨D, owns_congr k1 h2, k2⟩
  h := by obtain ⟨D, k1, k2⟩ := h.h; exact ⟨D, owns_congr k1 h3, k2⟩
  ro := h.ro
  rh := h.rh
  oh := h.oh
theorem Mp.mr {os : List O} {w : World} {M : Mx} (h : Mp os w M) : ∃ es c, w.heap[M.r]? = some (.map es c) := by obtain ⟨c, hc⟩ := h.r; exact ⟨_, _, hc⟩
theorem Mp.mo {os : List O} {w : World} {M : Mx} (h : Mp os w M) : ∃ es c, w.heap[M.o]? = some (.map es c) := by obtain ⟨D, k1, _⟩ := h.o; exact owns_map k1
theorem Mp.mh {os : List O} {w : World} {M : Mx} (h : Mp os w M) : ∃ es c, w.heap[M.h]? = some (.map es c) := by obtain ⟨D, k1, _⟩ := h.h; exact owns_map k1
/-- The maps stay where no map turns. -/
theorem Mp.congr {os : List O} {w w' : World} {M : Mx} (h : Mp os w M) (hq : ∀ (k : Nat) (es : Array MapEntry) (c : Nat), w.heap[k]? = some (.map es c) → w'.heap[k]? = w.heap[k]?) : Mp os w' M := by
  obtain ⟨_, _, h1⟩ := h.mr
  obtain ⟨_, _, h2⟩ := h.mo
  obtain ⟨_, _, h3⟩ := h.mh
  exact h.congr3 (hq _ _ _ h1) (hq _ _ _ h2) (hq _ _ _ h3)

end Go.Proofs.YtclipofifmajeaaGreatDoor
