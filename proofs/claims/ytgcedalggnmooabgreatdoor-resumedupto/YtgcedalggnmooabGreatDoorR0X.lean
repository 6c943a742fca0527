import Derived.Test.YtgcedalggnmooabGreatDoorMp0X
import Derived.Test.YtgcedalggnmooabGreatDoorExtX
namespace Go.Proofs.YtgcedalggnmooabGreatDoor
set_option linter.unusedSimpArgs false
set_option linter.unusedVariables false
open Go.RowKit
set_option maxRecDepth 100000

/-- The document's lot in memory. -/
def refCells (l : L) (f : Value) : List Value :=
  [.int .i64 (l.id : Int), .int .i64 (l.goods : Int), .int .i64 (l.expiry : Int), .int .i64 (l.place : Int), .int .i64 (l.got : Int), .int .i64 (l.free : Int), .int .i64 (l.held : Int), .int .i64 (l.shipped : Int), .int .i64 (l.scrapped : Int), .int .i64 (l.given : Int), f]

def flat : List L → List Value → List Value
  | l :: ls, f :: fs => refCells l f ++ flat ls fs
  | _, _ => []

theorem flat_len : ∀ (ls : List L) (fs : List Value), fs.length = ls.length → (flat ls fs).length = ls.length * 11
  | [], [], _ => rfl
  | [], _ :: _, h => by simp at h
  | _ :: _, [], h => by simp at h
  | l :: ls, f :: fs, h => by
    have := flat_len ls fs (by simpa using h)
    simp only [flat, List.length_append, this, refCells, List.length_cons, List.length_nil]; omega

theorem flat_at : ∀ (ls : List L) (fs : List Value), fs.length = ls.length → ∀ (i j : Nat), i < ls.length → j < 11 → (flat ls fs)[i * 11 + j]? = (refCells (ls.getD i L0) (fs.getD i default))[j]?
  | [], [], _, i, _, hi, _ => by simp at hi
  | [], _ :: _, h, _, _, _, _ => by simp at h
  | _ :: _, [], h, _, _, _, _ => by simp at h
  | l :: ls, f :: fs, h, 0, j, _, hj => by
    simp only [flat, Nat.zero_mul, Nat.zero_add, List.getD_cons_zero]
    rw [List.getElem?_append_left (by simpa [refCells] using hj)]
  | l :: ls, f :: fs, h, i + 1, j, hi, hj => by
    have ih := flat_at ls fs (by simpa using h) i j (by simpa using hi) hj
    have e : (i + 1) * 11 + j = (refCells l f).length + (i * 11 + j) := by simp [refCells]; omega
    simp only [flat, List.getD_cons_succ]
    rw [e, List.getElem?_append_right (by omega), Nat.add_sub_cancel_left, ih]

theorem flat_snoc : ∀ (ls : List L) (fs : List Value) (l : L) (f : Value), fs.length = ls.length → flat (ls ++ [l]) (fs ++ [f]) = flat ls fs ++ refCells l f
  | [], [], l, f, _ => by simp [flat]
  | [], _ :: _, _, _, h => by simp at h
  | _ :: _, [], _, _, h => by simp at h
  | a :: ls, b :: fs, l, f, h => by
    have := flat_snoc ls fs l f (by simpa using h)
    simp only [List.cons_append, flat, this, List.append_assoc]

def IsSl (v : Value) : Prop := ∃ a n c, v = .slice a n c

/-- Where the document's store has its orders (the slice, and each order's lines), its recalls, and each lot's parents (where, and which). -/
structure Ro where
  ov : Value
  lvs : List Value
  rv : Value
  fvs : List Value
  pss : List (List (Nat × Nat))

def O0 : O := ⟨0, 0, []⟩

def oflat : List O → List Value → List Value
  | o :: os, f :: fs => .int .i64 (o.id : Int) :: .int .i64 (o.goods : Int) :: f :: oflat os fs
  | _, _ => []

def lflat : List (Nat × Nat) → List Value
  | p :: ps => .int .i64 (p.1 : Int) :: .int .i64 (p.2 : Int) :: lflat ps
  | _ => []

/-- A block of the parents; of the recalls or the parents. -/
def PB (ro : Ro) (g : Nat) : Prop := ∃ i, i < ro.fvs.length ∧ (ro.fvs.getD i default).ownBlock = some g
def FB (ro : Ro) (g : Nat) : Prop := ro.rv.ownBlock = some g ∨ PB ro g
/-- A block of the orders' lines. -/
def LB (ro : Ro) (g : Nat) : Prop := ∃ i, i < ro.lvs.length ∧ (ro.lvs.getD i default).ownBlock = some g

/-- A block of the orders, the recalls or the parents. -/
def OB (ro : Ro) (g : Nat) : Prop := ro.ov.ownBlock = some g ∨ LB ro g ∨ FB ro g

/-- The document tells two parents rising. -/
def dpar : List (Nat × Nat) → List (Nat × Nat)
  | [a, b] => if b.1 < a.1 then [b, a] else [a, b]
  | l => l
theorem dpar_len (l : List (Nat × Nat)) : (dpar l).length = l.length := by
  unfold dpar; split
  · split <;> rfl
  · rfl
theorem dpar_any (f : Nat × Nat → Bool) (l : List (Nat × Nat)) : (dpar l).any f = l.any f := by
  unfold dpar; split
  · split
    · simp only [List.any_cons, List.any_nil, Bool.or_false]; exact Bool.or_comm _ _
    · rfl
  · rfl
theorem dpar_mem {l : List (Nat × Nat)} {p : Nat × Nat} : p ∈ dpar l ↔ p ∈ l := by
  unfold dpar; split
  · split
    · simp [or_comm]
    · rfl
  · rfl

theorem own_shape' {w : World} {base e size n : Nat} {v : Value} {xs : List Value} (h : w.ownsRow base e size v n xs) : ∃ a cap, v = .slice a n cap := by
  rcases h.2 with ⟨hv, hx⟩ | ⟨g, cap, cur, hv, _⟩
  · exact ⟨none, 0, by rw [hv, hx]⟩
  · exact ⟨_, cap, hv⟩

theorem own_some' {w : World} {base e size n : Nat} {v : Value} {xs : List Value} (h : w.ownsRow base e size v n xs) (hn : 0 < n) : ∃ g cap, v = .slice (some ⟨g, 0, none⟩) n cap ∧ base ≤ g ∧ g < w.heap.size := by
  rcases h.2 with ⟨hv, hx⟩ | ⟨g, cap, cur, hv, hg, hh, _⟩
  · omega
  · exact ⟨g, cap, hv, hg, (Array.getElem?_eq_some_iff.1 hh).1⟩

/-- Where 'at' finds a lot. -/
def atV (ls : List L) (n : Nat) : Int := if idx n ls < ls.length then (idx n ls : Int) else -1

end Go.Proofs.YtgcedalggnmooabGreatDoor

namespace Go.Proofs.YtgcedalggnmooabGreatDoor
set_option linter.unusedSimpArgs false
set_option linter.unusedVariables false
open Go.RowKit
set_option maxRecDepth 100000

theorem I_snoc (l : List Nat) (n : Nat) : I (l ++ [n]) = I l ++ [.int .i64 (n : Int)] := by simp [I]
theorem I_len (l : List Nat) : (I l).length = l.length := by simp [I]

theorem ownInts_cell {w : World} {base g cap : Nat} {ns : List Nat} (h : w.ownsRow base 3 1 (.slice (some ⟨g, 0, none⟩) ns.length cap) ns.length (I ns)) (k : Nat) (hk : k < ns.length) : w.cell? ⟨g, k, none⟩ = some (.int .i64 ((ns.getD k 0 : Nat) : Int)) := by
  rw [h.cellAt k (by omega)]
  simp [I, List.getD_eq_getElem?_getD, hk]

theorem contains_hit {ns : List Nat} {k n : Nat} (hk : k < ns.length) (h : ns.getD k 0 = n) : ns.contains n = true := by
  rw [List.contains_iff_mem, ← h]; simp [List.getD_eq_getElem?_getD, hk]
theorem contains_miss {ns : List Nat} {n : Nat} (h : ∀ j, j < ns.length → ns.getD j 0 ≠ n) : ns.contains n = false := by
  rw [Bool.eq_false_iff]; intro hc
  rw [List.contains_iff_mem] at hc
  obtain ⟨j, hj, e⟩ := List.getElem_of_mem hc
  exact h j hj (by rw [List.getD_eq_getElem?_getD, List.getElem?_eq_getElem hj]; simpa using e)

theorem comP_ge (ls : List L) (out : List Nat) : ∀ i, i ≤ ls.length → out.length ≤ (comP (ls.take i) out).length
  | 0, _ => by simp [comP]
  | i + 1, hi => by
    have := comP_ge ls out i (by omega)
    rw [comP_take (by omega)]
    unfold comStep
    split
    · simp; omega
    · omega

/-- What one lot of a pass does behind its first j parents. -/
def hitJ (out : List Nat) (ps : List (Nat × Nat)) (j : Nat) : Bool := (ps.take j).any (fun p => out.contains p.1)
theorem hitJ_zero (out : List Nat) (ps : List (Nat × Nat)) : hitJ out ps 0 = false := by simp [hitJ]
theorem hitJ_succ {out : List Nat} {ps : List (Nat × Nat)} {j : Nat} (hj : j < ps.length) : hitJ out ps (j + 1) = (hitJ out ps j || out.contains (ps.getD j (0, 0)).1) := by
  unfold hitJ
  rw [List.take_succ_eq_append_getElem hj, List.any_append]
  simp [List.getD_eq_getElem?_getD, hj]
theorem hitJ_end (out : List Nat) (ps : List (Nat × Nat)) : hitJ out (dpar ps) (dpar ps).length = ps.any (fun p => out.contains p.1) := by
  unfold hitJ; rw [List.take_length, dpar_any]
def outJ (out : List Nat) (l : L) (h : Bool) : List Nat := if !(out.contains l.id) && h then out ++ [l.id] else out
theorem outJ_end (out : List Nat) (l : L) : outJ out l (hitJ out (dpar l.par) (dpar l.par).length) = comStep out l := by
  unfold outJ comStep; rw [hitJ_end]

theorem ag_step {ls : List L} {o : List Nat} {k : Nat} (hk : k < ls.length) (out : List Nat) (ho : out = comP (ls.take k) o) (l : L) (hl : l = ls.getD k L0) :
    (decide (out.length ≠ o.length) || (!(out.contains l.id) && l.par.any (fun p => out.contains p.1))) = decide ((comP (ls.take (k + 1)) o).length ≠ o.length) := by
  have hge := comP_ge ls o k (by omega)
  rw [← ho] at hge
  rw [comP_take hk, ← ho, ← hl]
  unfold comStep
  cases hb : (!(out.contains l.id) && l.par.any (fun p => out.contains p.1)) with
  | false => simp
  | true =>
    simp only [Bool.or_true, if_true, List.length_append, List.length_singleton]
    symm
    simp only [decide_eq_true_eq]
    omega

/-- Where a lot's pass stands behind its first j parents. -/
structure ComJ (base : Nat) (w : World) (out : List Nat) (l : L) (ag : Bool) (j : Nat) (ov av iv : Value) (w2 : World) : Prop where
  own : w2.ownsRow base 3 1 ov (outJ out l (hitJ out (dpar l.par) j)).length (I (outJ out l (hitJ out (dpar l.par) j)))
  ag : av = .bool (ag || (!(out.contains l.id) && hitJ out (dpar l.par) j))
  inn : iv = .bool (out.contains l.id || hitJ out (dpar l.par) j)
  below : Below base w w2

theorem outJ_len (out : List Nat) (l : L) (h : Bool) : (outJ out l h).length ≤ out.length + 1 := by
  unfold outJ; split
  · simp
  · omega
/-- Nothing turns where the lot is in already. -/
theorem ComJ.same {base : Nat} {w : World} {out : List Nat} {l : L} {ag : Bool} {j : Nat} {ov av iv : Value} {w2 : World} (h : ComJ base w out l ag j ov av iv w2) (hj : j < (dpar l.par).length) (hin : (out.contains l.id || hitJ out (dpar l.par) j) = true) : ComJ base w out l ag (j + 1) ov av iv w2 := by
  obtain ⟨h1, h2, h3, h4⟩ := h
  have hs := hitJ_succ (out := out) hj
  have key : ∀ (i b c : Bool), (i || b) = true → (!i && (b || c)) = (!i && b) ∧ (i || (b || c)) = (i || b) := by decide
  obtain ⟨k1, k2⟩ := key _ _ (out.contains ((dpar l.par).getD j (0, 0)).1) hin
  refine ⟨?_, ?_, ?_, h4⟩
  · have e : outJ out l (hitJ out (dpar l.par) (j + 1)) = outJ out l (hitJ out (dpar l.par) j) := by
      unfold outJ; rw [hs, k1]
    rw [e]; exact h1
  · rw [hs, k1]; exact h2
  · rw [hs, k2]; exact h3
/-- Nothing turns where the parent is not in. -/
theorem ComJ.miss {base : Nat} {w : World} {out : List Nat} {l : L} {ag : Bool} {j : Nat} {ov av iv : Value} {w2 : World} (h : ComJ base w out l ag j ov av iv w2) (hj : j < (dpar l.par).length) (hp : out.contains ((dpar l.par).getD j (0, 0)).1 = false) : ComJ base w out l ag (j + 1) ov av iv w2 := by
  obtain ⟨h1, h2, h3, h4⟩ := h
  refine ⟨?_, ?_, ?_, h4⟩ <;> rw [hitJ_succ hj, hp, Bool.or_false] <;> assumption

def lenOf : Value → Nat
  | .slice _ n _ => n
  | _ => 0
/-- How many rounds are to come. -/
def comMes (ov av : Value) : Nat := match av with
  | .bool true => if lenOf ov = 1 then 2 else 1
  | _ => 0

/-- Found: the lot is put in. -/
theorem ComJ.hit {base : Nat} {w : World} {out : List Nat} {l : L} {ag : Bool} {j : Nat} {ov : Value} {w2 : World} (hj : j < (dpar l.par).length) (hc : out.contains l.id = false) (hp : out.contains ((dpar l.par).getD j (0, 0)).1 = true) (ho : w2.ownsRow base 3 1 ov (out ++ [l.id]).length (I (out ++ [l.id]))) (hb : Below base w w2) : ComJ base w out l ag (j + 1) ov (.bool true) (.bool true) w2 := by
  have hs := hitJ_succ (out := out) hj
  rw [hp, Bool.or_true] at hs
  refine ⟨?_, ?_, ?_, hb⟩
  · have e : outJ out l (hitJ out (dpar l.par) (j + 1)) = out ++ [l.id] := by unfold outJ; rw [hs, hc]; rfl
    rw [e]; exact ho
  · rw [hs, hc]; simp
  · rw [hs]; simp
/-- Behind all parents. -/
theorem ComJ.fin {base : Nat} {w : World} {out : List Nat} {l : L} {ag : Bool} {ov av iv : Value} {w2 : World} (h : ComJ base w out l ag (dpar l.par).length ov av iv w2) : w2.ownsRow base 3 1 ov (comStep out l).length (I (comStep out l)) ∧ av = .bool (ag || (!(out.contains l.id) && l.par.any (fun p => out.contains p.1))) ∧ Below base w w2 := by
  obtain ⟨h1, h2, h3, h4⟩ := h
  rw [outJ_end] at h1
  rw [hitJ_end] at h2
  exact ⟨h1, h2, h4⟩

end Go.Proofs.YtgcedalggnmooabGreatDoor

namespace Go.Proofs.YtgcedalggnmooabGreatDoor
set_option linter.unusedSimpArgs false
set_option linter.unusedVariables false
open Go.RowKit
set_option maxRecDepth 100000

theorem any_take_miss {α : Type} {f : α → Bool} {l : List α} {k : Nat} (hk : k ≤ l.length) (h : (l.take k).any f = false) (hl : k = l.length) : l.any f = false := by
  rw [hl, List.take_length] at h; exact h

end Go.Proofs.YtgcedalggnmooabGreatDoor
