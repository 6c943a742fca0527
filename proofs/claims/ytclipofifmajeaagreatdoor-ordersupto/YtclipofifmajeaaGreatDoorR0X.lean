import Derived.Test.YtclipofifmajeaaGreatDoorSt7X
namespace Go.Proofs.YtclipofifmajeaaGreatDoor
set_option linter.unusedSimpArgs false
set_option linter.unusedVariables false
open Go.RowKit
set_option maxRecDepth 100000

/-- The document's lot in memory. -/
def refCells (l : L) (f : Value) : List Value :=
  [.int .i64 (l.id : Int), .int .i64 (l.goods : Int), .int .i64 (l.expiry : Int), .int .i64 (l.place : Int), .int .i64 (l.got : Int), .int .i64 (l.free : Int), .int .i64 (l.held : Int), .int .i64 (l.shipped : Int), .int .i64 (l.scrapped : Int), .int .i64 (l.given : Int), f]

def flat : List L → List Value → List Value
  | l :: ls, f :: fs => refCells l f ++ flat ls fs
  | _, _ => []

theorem flat_len : ∀ (ls : List L) (fs : List Value), fs.length = ls.length → (flat ls fs).length = ls.length * 11
  | [], [], _ => rfl
  | [], _ :: _, h => by simp at h
  | _ :: _, [], h => by simp at h
  | l :: ls, f :: fs, h => by
    have := flat_len ls fs (by simpa using h)
    simp only [flat, List.length_append, this, refCells, List.length_cons, List.length_nil]; omega

theorem flat_at : ∀ (ls : List L) (fs : List Value), fs.length = ls.length → ∀ (i j : Nat), i < ls.length → j < 11 → (flat ls fs)[i * 11 + j]? = (refCells (ls.getD i L0) (fs.getD i default))[j]?
  | [], [], _, i, _, hi, _ => by simp at hi
  | [], _ :: _, h, _, _, _, _ => by simp at h
  | _ :: _, [], h, _, _, _, _ => by simp at h
  | l :: ls, f :: fs, h, 0, j, _, hj => by
    simp only [flat, Nat.zero_mul, Nat.zero_add, List.getD_cons_zero]
    rw [List.getElem?_append_left (by simpa [refCells] using hj)]
  | l :: ls, f :: fs, h, i + 1, j, hi, hj => by
    have ih := flat_at ls fs (by simpa using h) i j (by simpa using hi) hj
    have e : (i + 1) * 11 + j = (refCells l f).length + (i * 11 + j) := by simp [refCells]; omega
    simp only [flat, List.getD_cons_succ]
    rw [e, List.getElem?_append_right (by omega), Nat.add_sub_cancel_left, ih]

theorem flat_snoc : ∀ (ls : List L) (fs : List Value) (l : L) (f : Value), fs.length = ls.length → flat (ls ++ [l]) (fs ++ [f]) = flat ls fs ++ refCells l f
  | [], [], l, f, _ => by simp [flat]
  | [], _ :: _, _, _, h => by simp at h
  | _ :: _, [], _, _, h => by simp at h
  | a :: ls, b :: fs, l, f, h => by
    have := flat_snoc ls fs l f (by simpa using h)
    simp only [List.cons_append, flat, this, List.append_assoc]

def IsSl (v : Value) : Prop := ∃ a n c, v = .slice a n c

/-- Where the document's store has its orders: the slice, and each order's lines. -/
structure Ro where
  ov : Value
  lvs : List Value

def O0 : O := ⟨0, 0, []⟩

def oflat : List O → List Value → List Value
  | o :: os, f :: fs => .int .i64 (o.id : Int) :: .int .i64 (o.goods : Int) :: f :: oflat os fs
  | _, _ => []

def lflat : List (Nat × Nat) → List Value
  | p :: ps => .int .i64 (p.1 : Int) :: .int .i64 (p.2 : Int) :: lflat ps
  | _ => []

/-- The document's orders. -/
structure Od (os : List O) (ro : Ro) (w : World) : Prop where
  row : w.ownsRow 0 97 3 ro.ov os.length (oflat os ro.lvs)
  llen : ro.lvs.length = os.length
  lines : ∀ i, i < os.length → w.ownsRow 0 143 2 (ro.lvs.getD i default) (os.getD i O0).lines.length (lflat (os.getD i O0).lines)

/-- A block of the orders. -/
def OB (ro : Ro) (g : Nat) : Prop := ro.ov.ownBlock = some g ∨ ∃ i, i < ro.lvs.length ∧ (ro.lvs.getD i default).ownBlock = some g

theorem Od.congr {os : List O} {ro : Ro} {w w' : World} (h : Od os ro w) (hq : ∀ g, OB ro g → w'.heap[g]? = w.heap[g]?) : Od os ro w' where
  row := own_congr h.row (fun g hg => hq g (Or.inl hg))
  llen := h.llen
  lines := fun i hi => own_congr (h.lines i hi) (fun g hg => hq g (Or.inr ⟨i, by rw [h.llen]; exact hi, hg⟩))
theorem Od.ty {os : List O} {ro : Ro} {w : World} (h : Od os ro w) {g : Nat} (hg : OB ro g) : ∃ cs t, w.heap[g]? = some (.cells cs t (0, 0)) ∧ (t = 97 ∨ t = 143) := by
  rcases hg with hg | ⟨i, hi, hg⟩
  · obtain ⟨cs, hc⟩ := own_ty h.row hg; exact ⟨cs, _, hc, Or.inl rfl⟩
  · obtain ⟨cs, hc⟩ := own_ty (h.lines i (by rw [← h.llen]; exact hi)) hg; exact ⟨cs, _, hc, Or.inr rfl⟩
theorem Od.lt {os : List O} {ro : Ro} {w : World} (h : Od os ro w) {g : Nat} (hg : OB ro g) : g < w.heap.size := by
  obtain ⟨cs, t, hc, _⟩ := h.ty hg; exact blk_lt hc
theorem Od.ne {os : List O} {ro : Ro} {w : World} (h : Od os ro w) {g : Nat} (hg : OB ro g) {b : Nat} {cs : Array Value} {t : TypeId} (hb : w.heap[b]? = some (.cells cs t (0, 0))) (h1 : t ≠ 97) (h2 : t ≠ 143) : g ≠ b := by
  obtain ⟨cs', t', hc, ht⟩ := h.ty hg
  refine (ty_ne hb hc (fun e => ?_)).symm
  rcases ht with rfl | rfl
  · exact h1 e
  · exact h2 e

/-- The document's store at R. -/
structure RV (os : List O) (ro : Ro) (w : World) (R : Nat) (v : Value) (td : Nat) (rec : ByteArray) (fs : List Value) (ls : List L) : Prop where
  store : w.heap[R]? = some (.cells #[.int .i64 (td : Int), v, ro.ov, .slice none 0 0, .string rec] 41 (0, 0))
  row : w.ownsRow 0 94 11 v ls.length (flat ls fs)
  flen : fs.length = ls.length
  fsl : ∀ f ∈ fs, IsSl f
  ord : Od os ro w
  today : td ≤ 2147483647
  ok : ∀ l ∈ ls, L.Ok l
  room : ls.length ≤ 30

theorem own_shape' {w : World} {base e size n : Nat} {v : Value} {xs : List Value} (h : w.ownsRow base e size v n xs) : ∃ a cap, v = .slice a n cap := by
  rcases h.2 with ⟨hv, hx⟩ | ⟨g, cap, cur, hv, _⟩
  · exact ⟨none, 0, by rw [hv, hx]⟩
  · exact ⟨_, cap, hv⟩

theorem own_some' {w : World} {base e size n : Nat} {v : Value} {xs : List Value} (h : w.ownsRow base e size v n xs) (hn : 0 < n) : ∃ g cap, v = .slice (some ⟨g, 0, none⟩) n cap ∧ base ≤ g ∧ g < w.heap.size := by
  rcases h.2 with ⟨hv, hx⟩ | ⟨g, cap, cur, hv, hg, hh, _⟩
  · omega
  · exact ⟨g, cap, hv, hg, (Array.getElem?_eq_some_iff.1 hh).1⟩

theorem RV.shape {w : World} {R : Nat} {v : Value} {td : Nat} {rec : ByteArray} {fs : List Value} {ls : List L} {os : List O} {ro : Ro} (h : RV os ro w R v td rec fs ls) : ∃ a cap, v = .slice a ls.length cap ∧ (0 < ls.length → ∃ G, a = some ⟨G, 0, none⟩ ∧ G < w.heap.size ∧
    ∀ i, i < ls.length → ∀ j, j < 11 → w.cell? ⟨G, i * 11 + j, none⟩ = (refCells (ls.getD i L0) (fs.getD i default))[j]?) := by
  obtain ⟨a, cap, hv⟩ := own_shape' h.row
  refine ⟨a, cap, hv, fun hp => ?_⟩
  obtain ⟨g, cap', hv', _, hlt⟩ := own_some' h.row hp
  rw [hv] at hv'
  cases hv'
  refine ⟨g, rfl, hlt, fun i hi j hj => ?_⟩
  have hr := h.row
  rw [hv] at hr
  rw [hr.cellAt (i * 11 + j) (by omega)]
  exact flat_at ls fs h.flen i j hi hj

theorem RV.c0 {w : World} {R : Nat} {v : Value} {td : Nat} {rec : ByteArray} {fs : List Value} {ls : List L} {os : List O} {ro : Ro} (h : RV os ro w R v td rec fs ls) : w.cell? ⟨R, 0, none⟩ = some (.int .i64 (td : Int)) := by rw [blk_cell h.store]; rfl
theorem RV.c1 {w : World} {R : Nat} {v : Value} {td : Nat} {rec : ByteArray} {fs : List Value} {ls : List L} {os : List O} {ro : Ro} (h : RV os ro w R v td rec fs ls) : w.cell? ⟨R, 1, none⟩ = some v := by rw [blk_cell h.store]; rfl
theorem RV.c3 {w : World} {R : Nat} {v : Value} {td : Nat} {rec : ByteArray} {fs : List Value} {ls : List L} {os : List O} {ro : Ro} (h : RV os ro w R v td rec fs ls) : w.cell? ⟨R, 3, none⟩ = some (.slice none 0 0) := by rw [blk_cell h.store]; rfl
theorem RV.c2 {w : World} {R : Nat} {v : Value} {td : Nat} {rec : ByteArray} {fs : List Value} {ls : List L} {os : List O} {ro : Ro} (h : RV os ro w R v td rec fs ls) : w.cell? ⟨R, 2, none⟩ = some ro.ov := by rw [blk_cell h.store]; rfl
theorem RV.c4 {w : World} {R : Nat} {v : Value} {td : Nat} {rec : ByteArray} {fs : List Value} {ls : List L} {os : List O} {ro : Ro} (h : RV os ro w R v td rec fs ls) : w.cell? ⟨R, 4, none⟩ = some (.string rec) := by rw [blk_cell h.store]; rfl

theorem RV.below {w w' : World} {R : Nat} {v : Value} {td : Nat} {rec : ByteArray} {fs : List Value} {ls : List L} {os : List O} {ro : Ro} (h : RV os ro w R v td rec fs ls) (hb : Below w.heap.size w w') : RV os ro w' R v td rec fs ls where
  store := by rw [hb.block R (blk_lt h.store)]; exact h.store
  row := own_below h.row hb
  flen := h.flen
  fsl := h.fsl
  ord := h.ord.congr (fun g hg => hb.block g (h.ord.lt hg))
  today := h.today
  ok := h.ok
  room := h.room

/-- Where 'at' finds a lot. -/
def atV (ls : List L) (n : Nat) : Int := if idx n ls < ls.length then (idx n ls : Int) else -1

set_option maxHeartbeats 800000 in
theorem at_any {w : World} {R : Nat} {v : Value} {td : Nat} {rec : ByteArray} {fs : List Value} {ls : List L} {os : List O} {ro : Ro} (h : RV os ro w R v td rec fs ls) (n : Nat) (hn : n ≤ 2147483647) :
    Calls Tryz.prog 75 #[.pointer (some ⟨R, 0, none⟩), .int .i64 (n : Int)] w fun e w' => e = .returned (.int .i64 (atV ls n)) ∧ w' = w := by
  obtain ⟨a, cap, hv, hrow⟩ := h.shape
  have c1 := h.c1
  rw [hv] at c1
  have hroom := h.room
  have HP := hide h
  clear h hv
  go_enter Tryz.func75, Tryz.ntmps75
  go_wp2_with fail
  go_loop [5] (fun i => ∃ k : Nat, k ≤ ls.length ∧ i = .int .i64 k ∧ (∀ j, j < k → (ls.getD j L0).id ≠ n)) (fun i => ls.length - (intOf i).toNat)
  case atStart => exact ⟨0, by omega, rfl, fun j h => absurd h (by omega)⟩
  case round =>
    obtain ⟨k, hk, rfl, hne⟩ := hrel
    by_cases hlt : k < ls.length
    · obtain ⟨G, hG, _, hcells⟩ := hrow (by omega)
      rw [hG] at c1
      have hcl : w.cell? ⟨G, k * 11, none⟩ = some (.int .i64 ((ls.getD k L0).id : Int)) := hcells k hlt 0 (by omega)
      have hid : (ls.getD k L0).id ≤ 2147483647 := (HP.out.ok _ (mem_getD hlt)).id
      obtain ⟨m, HM⟩ : ∃ m, Hid (m = (ls.getD k L0).id) := ⟨_, rfl⟩
      rw [← HM.out] at hcl hid
      clear hcells hG hrow
      by_cases hm : m = n
      · have hmb := beqN_t hm
        have HH : Hid (atV ls n = (k : Int)) := by
          have := idx_hit hlt hne (by rw [← HM.out]; exact hm)
          unfold Hid atV; rw [this, if_pos hlt]
        clear hm
        go_wp2_with fail
        go_ret
        exact ⟨by rw [HH.out]; rfl, rfl⟩
      · have hmb := beqN_f hm
        have HN := hide hm
        clear hm
        go_wp2_with fail
        go_round
        case rel =>
          refine ⟨k + 1, by omega, by go_num, ?_⟩
          intro j hj
          by_cases hjk : j = k
          · subst hjk; rw [← HM.out]; exact HN.out
          · exact hne j (by omega)
        case measure => simp [intOf]; omega
    · obtain rfl : k = ls.length := by omega
      have HH : Hid (atV ls n = -1) := by
        have := idx_miss hne
        unfold Hid atV; rw [this, if_neg (by omega)]
      clear hrow hlt
      go_wp2_with fail
      go_ret
      exact ⟨by rw [HH.out]; rfl, rfl⟩

set_option maxHeartbeats 800000 in
theorem roomR_any {w : World} {R : Nat} {v : Value} {td : Nat} {rec : ByteArray} {fs : List Value} {ls : List L} {os : List O} {ro : Ro} (h : RV os ro w R v td rec fs ls) (n : Nat) (hn : n ≤ 2147483647) :
    Calls Tryz.prog 73 #[.pointer (some ⟨R, 0, none⟩), .int .i64 (n : Int)] w fun e w' => e = .returned (.int .i64 (roomC ls n : Int)) ∧ w' = w := by
  have H1 := hide (at_any h n hn)
  obtain ⟨a, cap, hv, _⟩ := h.shape
  have c1 := h.c1
  rw [hv] at c1
  have hroom := h.room
  clear h hv
  by_cases hi : idx n ls < ls.length
  · have HR : Hid (roomC ls n = 5) := by unfold Hid roomC; rw [if_pos hi]
    have HF : Hid (atV ls n = (idx n ls : Int)) := by unfold Hid atV; rw [if_pos hi]
    rw [HF.out] at H1
    generalize idx n ls = k at *
    clear HF
    go_enter Tryz.func73, Tryz.ntmps73
    go_wp2_with (go_at_call 75; refine (H1.out).mono ?_; rintro e w1 ⟨rfl, rfl⟩)
    go_ret
    exact ⟨by rw [HR.out]; rfl, rfl⟩
  · have HF : Hid (atV ls n = -1) := by unfold Hid atV; rw [if_neg hi]
    rw [HF.out] at H1
    by_cases h30 : 30 ≤ ls.length
    · have HR : Hid (roomC ls n = 6) := by unfold Hid roomC; rw [if_neg hi, if_pos h30]
      clear hi HF
      go_enter Tryz.func73, Tryz.ntmps73
      go_wp2_with (go_at_call 75; refine (H1.out).mono ?_; rintro e w1 ⟨rfl, rfl⟩)
      go_ret
      exact ⟨by rw [HR.out]; rfl, rfl⟩
    · have HR : Hid (roomC ls n = 0) := by unfold Hid roomC; rw [if_neg hi, if_neg h30]
      clear hi HF
      go_enter Tryz.func73, Tryz.ntmps73
      go_wp2_with (go_at_call 75; refine (H1.out).mono ?_; rintro e w1 ⟨rfl, rfl⟩)
      go_ret
      exact ⟨by rw [HR.out]; rfl, rfl⟩

set_option maxHeartbeats 800000 in
theorem recalledR_any {w : World} {R : Nat} {v : Value} {td : Nat} {rec : ByteArray} {fs : List Value} {ls : List L} {os : List O} {ro : Ro} (h : RV os ro w R v td rec fs ls) (n : Nat) :
    Calls Tryz.prog 83 #[.pointer (some ⟨R, 0, none⟩), .int .i64 (n : Int)] w fun e w' => e = .returned (.bool false) ∧ w' = w := by
  have c3 := h.c3
  clear h
  go_enter Tryz.func83, Tryz.ntmps83
  go_wp2_with fail
  refine wp_loop_rounds 1 ?_; rw [rounds_succ]
  go_wp2_with fail
  go_ret
  exact ⟨rfl, rfl⟩

end Go.Proofs.YtclipofifmajeaaGreatDoor

namespace Go.Proofs.YtclipofifmajeaaGreatDoor
set_option linter.unusedSimpArgs false
set_option linter.unusedVariables false
open Go.RowKit
set_option maxRecDepth 100000

theorem heap_alloc_new' (w : World) (o : Obj) (g : Nat) (hg : g = w.heap.size) : (w.alloc o).heap[g]? = some o := by subst hg; exact heap_alloc_new w o

set_option maxHeartbeats 1600000 in
theorem serves_any {w : World} {R : Nat} {v : Value} {td : Nat} {rec : ByteArray} {fs : List Value} {ls : List L} {os : List O} {ro : Ro} (h : RV os ro w R v td rec fs ls) (i goods gate : Nat) (hi : i < ls.length) (h1 : goods ≤ 2147483647) (h2 : gate ≤ 2147483647) :
    Calls Tryz.prog 84 #[.pointer (some ⟨R, 0, none⟩), .int .i64 (i : Int), .int .i64 (goods : Int), .int .i64 (gate : Int)] w fun e w' => e = .returned (.bool (srv td goods gate (ls.getD i L0))) ∧ Below w.heap.size w w' := by
  obtain ⟨a, cap, hv, hrow⟩ := h.shape
  obtain ⟨G, hG, hGlt, hcells⟩ := hrow (by omega)
  have c1 := h.c1
  rw [hv, hG] at c1
  have hroom := h.room
  have htd := h.today
  have hok := h.ok _ (mem_getD hi)
  obtain ⟨l, HL⟩ : ∃ l, Hid (l = ls.getD i L0) := ⟨_, rfl⟩
  have hfs : IsSl (fs.getD i default) := h.fsl _ (getD_mem_val (by rw [h.flen]; exact hi))
  obtain ⟨fa, fn, fc, hf⟩ := hfs
  rw [← HL.out] at hok
  rw [← HL.out]
  have k := hcells i hi
  rw [← HL.out, hf] at k
  have k0 : w.cell? ⟨G, i * 11, none⟩ = some (.int .i64 (l.id : Int)) := k 0 (by omega)
  have k1 : w.cell? ⟨G, i * 11 + 1, none⟩ = some (.int .i64 (l.goods : Int)) := k 1 (by omega)
  have k2 : w.cell? ⟨G, i * 11 + 2, none⟩ = some (.int .i64 (l.expiry : Int)) := k 2 (by omega)
  have k3 : w.cell? ⟨G, i * 11 + 3, none⟩ = some (.int .i64 (l.place : Int)) := k 3 (by omega)
  have k4 : w.cell? ⟨G, i * 11 + 4, none⟩ = some (.int .i64 (l.got : Int)) := k 4 (by omega)
  have k5 : w.cell? ⟨G, i * 11 + 5, none⟩ = some (.int .i64 (l.free : Int)) := k 5 (by omega)
  have k6 : w.cell? ⟨G, i * 11 + 6, none⟩ = some (.int .i64 (l.held : Int)) := k 6 (by omega)
  have k7 : w.cell? ⟨G, i * 11 + 7, none⟩ = some (.int .i64 (l.shipped : Int)) := k 7 (by omega)
  have k8 : w.cell? ⟨G, i * 11 + 8, none⟩ = some (.int .i64 (l.scrapped : Int)) := k 8 (by omega)
  have k9 : w.cell? ⟨G, i * 11 + 9, none⟩ = some (.int .i64 (l.given : Int)) := k 9 (by omega)
  have k10 : w.cell? ⟨G, i * 11 + 10, none⟩ = some (.slice fa fn fc) := k 10 (by omega)
  have HP := hide h
  clear h hv hG hcells hrow k hf
  go_enter Tryz.func84, Tryz.ntmps84
  go_wp2_with fail
  have ha := al1 w (.cells #[.int .i64 (l.id : Int), .int .i64 (l.goods : Int), .int .i64 (l.expiry : Int), .int .i64 (l.place : Int), .int .i64 (l.got : Int), .int .i64 (l.free : Int), .int .i64 (l.held : Int), .int .i64 (l.shipped : Int), .int .i64 (l.scrapped : Int), .int .i64 (l.given : Int), .slice fa fn fc] 94)
  have hb := heap_alloc_new w (.cells #[.int .i64 (l.id : Int), .int .i64 (l.goods : Int), .int .i64 (l.expiry : Int), .int .i64 (l.place : Int), .int .i64 (l.got : Int), .int .i64 (l.free : Int), .int .i64 (l.held : Int), .int .i64 (l.shipped : Int), .int .i64 (l.scrapped : Int), .int .i64 (l.given : Int), .slice fa fn fc] 94)
  generalize (w.alloc (.cells #[.int .i64 (l.id : Int), .int .i64 (l.goods : Int), .int .i64 (l.expiry : Int), .int .i64 (l.place : Int), .int .i64 (l.got : Int), .int .i64 (l.free : Int), .int .i64 (l.held : Int), .int .i64 (l.shipped : Int), .int .i64 (l.scrapped : Int), .int .i64 (l.given : Int), .slice fa fn fc] 94)) = w1 at *
  refine (recalledR_any (HP.out.below ha) l.id).mono ?_
  rintro e w2 ⟨rfl, rfl⟩
  have d1 : w2.cell? ⟨w.heap.size, 1, none⟩ = some (.int .i64 (l.goods : Int)) := by rw [blk_cell hb]; rfl
  have d2 : w2.cell? ⟨w.heap.size, 2, none⟩ = some (.int .i64 (l.expiry : Int)) := by rw [blk_cell hb]; rfl
  have d5 : w2.cell? ⟨w.heap.size, 5, none⟩ = some (.int .i64 (l.free : Int)) := by rw [blk_cell hb]; rfl
  have dR := (HP.out.below ha).c0
  have hle1 := hok.goods
  have hle2 := hok.expiry
  have hle3 := hok.sum
  clear k0 k1 k2 k3 k4 k5 k6 k7 k8 k9 k10 c1 hb hok
  obtain ⟨lgoods, lexpiry, lfree, hlgoods, hlexp, hlfree⟩ : ∃ b c d, Hid (b = l.goods) ∧ Hid (c = l.expiry) ∧ Hid (d = l.free) := ⟨_, _, _, rfl, rfl, rfl⟩
  rw [← hlgoods.out] at d1 hle1
  rw [← hlexp.out] at d2 hle2
  rw [← hlfree.out] at d5 hle3
  by_cases hA : lgoods = goods
  · have hAb := beqN_t hA
    have HA := hide hA
    clear hA
    by_cases hB : 0 < lfree
    · by_cases hC : td + gate + 1 ≤ lexpiry
      · have HN : Hid (srv td goods gate l = true) := by
          unfold Hid srv; rw [← hlexp.out, ← hlgoods.out, ← hlfree.out]; simp [HA.out, hB, hC]
        have hCb : decide ((td : Int) + (gate : Int) + 1 ≤ (lexpiry : Int)) = true := by simp; omega
        go_wp2_with fail
        go_quiet (fail)
        go_wp2_with fail
        go_ret
        exact ⟨ret_bool (by rw [HN.out]), below_drewN ha nq⟩
      · have HN : Hid (srv td goods gate l = false) := by
          unfold Hid srv; rw [← hlexp.out]; simp; intro _ _; omega
        have hCb : decide ((td : Int) + (gate : Int) + 1 ≤ (lexpiry : Int)) = false := by simp; omega
        go_wp2_with fail
        go_quiet (fail)
        go_wp2_with fail
        go_ret
        exact ⟨ret_bool (by rw [HN.out]), below_drewN ha nq⟩
    · have HN : Hid (srv td goods gate l = false) := by
        unfold Hid srv; rw [← hlfree.out]; simp [hB]
      have hBb : decide ((0 : Int) < (lfree : Int)) = false := by simp; omega
      go_wp2_with fail
      go_quiet (fail)
      go_wp2_with fail
      go_ret
      exact ⟨ret_bool (by rw [HN.out]), below_drewN ha nq⟩
  · have HN : Hid (srv td goods gate l = false) := by
      unfold Hid srv; rw [← hlgoods.out]; simp [hA]
    have hAb := beqN_f hA
    clear hA
    go_wp2_with fail
    go_quiet (fail)
    go_wp2_with fail
    go_ret
    exact ⟨ret_bool (by rw [HN.out]), below_drewN ha nq⟩

set_option maxHeartbeats 1600000 in
theorem lookR_hit {w : World} {R : Nat} {v : Value} {td : Nat} {rec : ByteArray} {fs : List Value} {ls : List L} {os : List O} {ro : Ro} (h : RV os ro w R v td rec fs ls) (n : Nat) (hn : n ≤ 2147483647) (hi : idx n ls < ls.length) :
    Calls Tryz.prog 44 #[.pointer (some ⟨R, 0, none⟩), .int .i64 (n : Int)] w fun e w' => Below w.heap.size w w' ∧ ∃ g, e = .returned (.tuple #[.slice (some ⟨g, 0, none⟩) 10 10, .int .i64 0]) ∧ w'.heap[g]? = some (.cells (I (lookL (ls.getD (idx n ls) L0))).toArray 3 (0, 0)) := by
  have H1 := hide (at_any h n hn)
  have hat : atV ls n = (idx n ls : Int) := by unfold atV; rw [if_pos hi]
  rw [hat] at H1
  obtain ⟨a, cap, hv, hrow⟩ := h.shape
  obtain ⟨G, hG, hGlt, hcells⟩ := hrow (by omega)
  have c1 := h.c1
  rw [hv, hG] at c1
  have hroom := h.room
  obtain ⟨l, HL⟩ : ∃ l, Hid (l = ls.getD (idx n ls) L0) := ⟨_, rfl⟩
  obtain ⟨fa, fn, fc, hf⟩ := h.fsl _ (getD_mem_val (show idx n ls < fs.length by rw [h.flen]; exact hi))
  rw [← HL.out]
  have k := hcells (idx n ls) hi
  rw [← HL.out, hf] at k
  generalize idx n ls = i at *
  have k0 : w.cell? ⟨G, i * 11, none⟩ = some (.int .i64 (l.id : Int)) := k 0 (by omega)
  have k1 : w.cell? ⟨G, i * 11 + 1, none⟩ = some (.int .i64 (l.goods : Int)) := k 1 (by omega)
  have k2 : w.cell? ⟨G, i * 11 + 2, none⟩ = some (.int .i64 (l.expiry : Int)) := k 2 (by omega)
  have k3 : w.cell? ⟨G, i * 11 + 3, none⟩ = some (.int .i64 (l.place : Int)) := k 3 (by omega)
  have k4 : w.cell? ⟨G, i * 11 + 4, none⟩ = some (.int .i64 (l.got : Int)) := k 4 (by omega)
  have k5 : w.cell? ⟨G, i * 11 + 5, none⟩ = some (.int .i64 (l.free : Int)) := k 5 (by omega)
  have k6 : w.cell? ⟨G, i * 11 + 6, none⟩ = some (.int .i64 (l.held : Int)) := k 6 (by omega)
  have k7 : w.cell? ⟨G, i * 11 + 7, none⟩ = some (.int .i64 (l.shipped : Int)) := k 7 (by omega)
  have k8 : w.cell? ⟨G, i * 11 + 8, none⟩ = some (.int .i64 (l.scrapped : Int)) := k 8 (by omega)
  have k9 : w.cell? ⟨G, i * 11 + 9, none⟩ = some (.int .i64 (l.given : Int)) := k 9 (by omega)
  have k10 : w.cell? ⟨G, i * 11 + 10, none⟩ = some (.slice fa fn fc) := k 10 (by omega)
  have HP := hide h
  clear h hv hG hcells hrow k hf hat
  go_enter Tryz.func44, Tryz.ntmps44
  go_wp2_with (go_at_call 75; refine (H1.out).mono ?_; rintro e w1 ⟨rfl, rfl⟩)
  refine (recalledR_any (HP.out.below ?_) n).mono ?_
  · exact ((Below.refl _ _).alloc (Nat.le_refl _) _).alloc (by simp) _
  rintro e w2 ⟨rfl, rfl⟩
  go_wp2_with fail
  go_ret2
  refine ⟨((Below.refl _ _).alloc (Nat.le_refl _) _).alloc (by simp) _, _, rfl, ?_⟩
  exact heap_alloc_new' _ _ _ (by simp)

set_option maxHeartbeats 1600000 in
theorem lookR_miss {w : World} {R : Nat} {v : Value} {td : Nat} {rec : ByteArray} {fs : List Value} {ls : List L} {os : List O} {ro : Ro} (h : RV os ro w R v td rec fs ls) (n : Nat) (hn : n ≤ 2147483647) (hi : ¬ idx n ls < ls.length) :
    Calls Tryz.prog 44 #[.pointer (some ⟨R, 0, none⟩), .int .i64 (n : Int)] w fun e w' => w' = w ∧ e = .returned (.tuple #[.slice none 0 0, .int .i64 4]) := by
  have H1 := hide (at_any h n hn)
  have hat : atV ls n = -1 := by unfold atV; rw [if_neg hi]
  rw [hat] at H1
  clear h hi hat
  go_enter Tryz.func44, Tryz.ntmps44
  go_wp2_with (go_at_call 75; refine (H1.out).mono ?_; rintro e w1 ⟨rfl, rfl⟩)
  go_ret2
  exact ⟨rfl, rfl⟩

end Go.Proofs.YtclipofifmajeaaGreatDoor
