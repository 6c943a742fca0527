import Derived.Test.YtclipofifmajeaaGreatDoorCmdB
namespace Go.Proofs.YtclipofifmajeaaGreatDoor
set_option linter.unusedSimpArgs false
set_option linter.unusedVariables false
open Go.RowKit
set_option maxRecDepth 100000

theorem Gl.below {w w' : World} (h : Gl w) (k : Below w.heap.size w w') : Gl w' := by
  obtain ⟨⟨t0, v0, h0⟩, ⟨t1, v1, h1⟩, h2⟩ := h
  exact ⟨⟨t0, v0, by rw [k.cell (by simp; omega)]; exact h0⟩, ⟨t1, v1, by rw [k.cell (by simp; omega)]; exact h1⟩, Nat.le_trans h2 k.size⟩

/-- The three blocks that 'Read' lays: the two results, the reader. -/
abbrev laid3 (w : World) (s : ByteArray) : World := ((w.alloc (.cells #[.nilIface] 73)).alloc (.cells #[.bool false] 4)).alloc (.cells #[.string s] 163)

theorem laid3_below (w : World) (s : ByteArray) : Below w.heap.size w (laid3 w s) :=
  (((Below.refl _ _).alloc (Nat.le_refl _) _).alloc (by simp) _).alloc (by simp; omega) _

theorem laid3_rd (w : World) (s : ByteArray) : Rd (w.heap.size + 1 + 1) (laid3 w s) (laid3 w s) s := Rd.refl (by
  show (((w.heap.push _).push _).push _)[w.heap.size + 1 + 1]? = _
  rw [Array.getElem?_push, if_pos (by simp)])

theorem Rd.frozen_other {b : Nat} {w w' : World} {s : ByteArray} (h : Rd b w w' s) (a : Addr) (ha : a.block ≠ b) : w'.frozen? a = w.frozen? a := World.frozen?_of_block (w := w) (h.block a.block ha)

theorem laid3_h0 (w : World) (s : ByteArray) : (laid3 w s).heap[w.heap.size]? = some (.cells #[.nilIface] 73 (0, 0)) := by
  show (((w.heap.push _).push _).push _)[w.heap.size]? = _
  rw [Array.getElem?_push, if_neg (by simp; omega), Array.getElem?_push, if_neg (by simp), Array.getElem?_push, if_pos rfl]
theorem laid3_h1 (w : World) (s : ByteArray) : (laid3 w s).heap[w.heap.size + 1]? = some (.cells #[.bool false] 4 (0, 0)) := by
  show (((w.heap.push _).push _).push _)[w.heap.size + 1]? = _
  rw [Array.getElem?_push, if_neg (by simp), Array.getElem?_push, if_pos (by simp)]
theorem laid3_c0 (w : World) (s : ByteArray) : (laid3 w s).cell? ⟨w.heap.size, 0, none⟩ = some .nilIface := by unfold World.cell?; rw [laid3_h0]; rfl
theorem laid3_f0 (w : World) (s : ByteArray) : (laid3 w s).frozen? ⟨w.heap.size, 0, none⟩ = false := by unfold World.frozen?; rw [laid3_h0]; rfl
theorem laid3_c1 (w : World) (s : ByteArray) : (laid3 w s).cell? ⟨w.heap.size + 1, 0, none⟩ = some (.bool false) := by unfold World.cell?; rw [laid3_h1]; rfl
theorem laid3_f1 (w : World) (s : ByteArray) : (laid3 w s).frozen? ⟨w.heap.size + 1, 0, none⟩ = false := by unfold World.frozen?; rw [laid3_h1]; rfl

set_option maxHeartbeats 800000 in
theorem read_broke (s : ByteArray) (w : World) (hg : Gl w)
    (HT : Hid (Calls Tryz.prog 60 #[.pointer (some ⟨w.heap.size + 1 + 1, 0, none⟩)] (laid3 w s) (Broke (w.heap.size + 1 + 1) (laid3 w s)))) :
    Calls Tryz.prog 31 #[.string s] w fun e w' => e = .returned (.tuple #[.nilIface, .bool false]) ∧ Below w.heap.size w w' := by
  have hmf : ∀ (fn : Fn) (first cap : Array Value) (w : World), (Instr.makeFunc fn first cap).run Tryz.prog w = .ok (.func fn first cap) w := fun _ _ _ _ => rfl
  go_enter_defers Tryz.func31, Tryz.ntmps31
  go_wp2_with (first | (go_at_call 59; go_in) | fail)
  refine (HT.out).mono ?_
  rintro e w1 ⟨⟨t, v, rfl⟩, s1, hr1⟩
  refine leaves_cons (f := 58) (args := #[.pointer (some ⟨w.heap.size, 0, none⟩), .pointer (some ⟨w.heap.size + 1, 0, none⟩)]) (by simp) (by simp [go_sem]) ?_
  have c0 : w1.cell? ⟨w.heap.size, 0, none⟩ = some .nilIface := by rw [hr1.other _ (by simp; omega)]; exact laid3_c0 w s
  have c1 : w1.cell? ⟨w.heap.size + 1, 0, none⟩ = some (.bool false) := by rw [hr1.other _ (by simp)]; exact laid3_c1 w s
  have f0 : w1.frozen? ⟨w.heap.size, 0, none⟩ = false := by rw [hr1.frozen_other _ (by simp; omega)]; exact laid3_f0 w s
  have f1 : w1.frozen? ⟨w.heap.size + 1, 0, none⟩ = false := by rw [hr1.frozen_other _ (by simp)]; exact laid3_f1 w s
  have c1' : (w1.setCell ⟨w.heap.size, 0, none⟩ .nilIface).cell? ⟨w.heap.size + 1, 0, none⟩ = some (.bool false) := by
    rw [World.cell?_of_block (w := w1) (Below.heap_setCell _ _ _ _ (by simp))]; exact c1
  refine (catch_panicking ⟨w.heap.size, 0, none⟩ ⟨w.heap.size + 1, 0, none⟩ .nilIface false t v [] w1 c0 f0 c1' f1).mono ?_
  rintro e u' w'' ⟨rfl, rfl, rfl⟩
  have hfin0 : ((w1.setCell ⟨w.heap.size, 0, none⟩ .nilIface).setCell ⟨w.heap.size + 1, 0, none⟩ (.bool false)).cell? ⟨w.heap.size, 0, none⟩ = some .nilIface := by
    rw [World.cell?_of_block (w := (w1.setCell ⟨w.heap.size, 0, none⟩ .nilIface)) (Below.heap_setCell _ _ _ _ (by simp)), World.cell?_setCell_same _ _ _ c0]
  have hfin1 : ((w1.setCell ⟨w.heap.size, 0, none⟩ .nilIface).setCell ⟨w.heap.size + 1, 0, none⟩ (.bool false)).cell? ⟨w.heap.size + 1, 0, none⟩ = some (.bool false) := World.cell?_setCell_same _ _ _ c1'
  have hbel : Below w.heap.size w ((w1.setCell ⟨w.heap.size, 0, none⟩ .nilIface).setCell ⟨w.heap.size + 1, 0, none⟩ (.bool false)) :=
    (((laid3_below w s).trans (hr1.below (by omega))).setCell (by simp) _).setCell (by simp) _
  generalize ((w1.setCell ⟨w.heap.size, 0, none⟩ .nilIface).setCell ⟨w.heap.size + 1, 0, none⟩ (.bool false)) = W at *
  simp [Leaves, settle, results, Tryz.results31, go_sem, hfin0, hfin1, hbel]

set_option maxHeartbeats 800000 in
theorem read_ok (s : ByteArray) (w : World) (T : TypeId) (v : Value)
    (HT : Hid (Calls Tryz.prog 60 #[.pointer (some ⟨w.heap.size + 1 + 1, 0, none⟩)] (laid3 w s) fun e w' => e = .returned (.iface T v) ∧ RdL (w.heap.size + 1 + 1) (laid3 w s) w' [])) :
    Calls Tryz.prog 31 #[.string s] w fun e w' => e = .returned (.tuple #[.iface T v, .bool true]) ∧ Below w.heap.size w w' := by
  have hmf : ∀ (fn : Fn) (first cap : Array Value) (w : World), (Instr.makeFunc fn first cap).run Tryz.prog w = .ok (.func fn first cap) w := fun _ _ _ _ => rfl
  go_enter_defers Tryz.func31, Tryz.ntmps31
  go_wp2_with (first | (go_at_call 59; go_in) | fail)
  refine (HT.out).mono ?_
  rintro e w1 ⟨rfl, s1, hs1, _, hr1⟩
  have he : s1 = ⟨#[]⟩ := by
    apply ByteArray.ext
    apply Array.toList_inj.1
    rw [hs1]
  subst he
  have c0 : w1.cell? ⟨w.heap.size, 0, none⟩ = some .nilIface := by rw [hr1.other _ (by simp; omega)]; exact laid3_c0 w s
  have c1 : w1.cell? ⟨w.heap.size + 1, 0, none⟩ = some (.bool false) := by rw [hr1.other _ (by simp)]; exact laid3_c1 w s
  have f0 : w1.frozen? ⟨w.heap.size, 0, none⟩ = false := by rw [hr1.frozen_other _ (by simp; omega)]; exact laid3_f0 w s
  have f1 : w1.frozen? ⟨w.heap.size + 1, 0, none⟩ = false := by rw [hr1.frozen_other _ (by simp)]; exact laid3_f1 w s
  have hcr := hr1.cell
  have hbl0 : Below w.heap.size w w1 := (laid3_below w s).trans (hr1.below (by omega))
  obtain ⟨W2, hW2⟩ : ∃ W2, W2 = w1.setCell ⟨w.heap.size, 0, none⟩ (.iface T v) := ⟨_, rfl⟩
  have d0 : W2.cell? ⟨w.heap.size, 0, none⟩ = some (.iface T v) := by rw [hW2]; exact World.cell?_setCell_same _ _ _ c0
  have d1 : W2.cell? ⟨w.heap.size + 1, 0, none⟩ = some (.bool false) := by rw [hW2, World.cell?_of_block (w := w1) (Below.heap_setCell _ _ _ _ (by simp))]; exact c1
  have d2 : W2.cell? ⟨w.heap.size + 1 + 1, 0, none⟩ = some (.string ⟨#[]⟩) := by rw [hW2, World.cell?_of_block (w := w1) (Below.heap_setCell _ _ _ _ (by simp; omega))]; exact hcr
  have g0 : W2.frozen? ⟨w.heap.size, 0, none⟩ = false := by rw [hW2]; simpa using f0
  have g1 : W2.frozen? ⟨w.heap.size + 1, 0, none⟩ = false := by rw [hW2]; simpa using f1
  have hbl : Below w.heap.size w W2 := by rw [hW2]; exact hbl0.setCell (by simp) _
  have HE := hide (end_ok (w.heap.size + 1 + 1) W2 d2)
  rw [hW2] at HE
  go_wp2_with fail
  refine (HE.out).mono ?_
  rintro e w2 ⟨rfl, rfl⟩
  rw [← hW2]
  clear hW2 c0 c1 f0 f1 hcr hbl0 HE HT hs1 hr1
  go_wp2_with fail
  refine leaves_cons (f := 58) (args := #[.pointer (some ⟨w.heap.size, 0, none⟩), .pointer (some ⟨w.heap.size + 1, 0, none⟩)]) (by simp) (by simp [go_sem]) ?_
  refine (catch_idle ⟨w.heap.size, 0, none⟩ ⟨w.heap.size + 1, 0, none⟩ _).mono ?_
  rintro e u' w'' ⟨rfl, rfl, rfl⟩
  have c1' : (W2.setCell ⟨w.heap.size, 0, none⟩ (.iface T v)).cell? ⟨w.heap.size + 1, 0, none⟩ = some (.bool false) := by
    rw [World.cell?_of_block (w := W2) (Below.heap_setCell _ _ _ _ (by simp))]; exact d1
  have hfin0 : ((W2.setCell ⟨w.heap.size, 0, none⟩ (.iface T v)).setCell ⟨w.heap.size + 1, 0, none⟩ (.bool true)).cell? ⟨w.heap.size, 0, none⟩ = some (.iface T v) := by
    rw [World.cell?_of_block (w := (W2.setCell ⟨w.heap.size, 0, none⟩ (.iface T v))) (Below.heap_setCell _ _ _ _ (by simp)), World.cell?_setCell_same _ _ _ d0]
  have hfin1 : ((W2.setCell ⟨w.heap.size, 0, none⟩ (.iface T v)).setCell ⟨w.heap.size + 1, 0, none⟩ (.bool true)).cell? ⟨w.heap.size + 1, 0, none⟩ = some (.bool true) := World.cell?_setCell_same _ _ _ c1'
  have hbel : Below w.heap.size w ((W2.setCell ⟨w.heap.size, 0, none⟩ (.iface T v)).setCell ⟨w.heap.size + 1, 0, none⟩ (.bool true)) :=
    (hbl.setCell (by simp) _).setCell (by simp) _
  generalize ((W2.setCell ⟨w.heap.size, 0, none⟩ (.iface T v)).setCell ⟨w.heap.size + 1, 0, none⟩ (.bool true)) = W at *
  simp [Leaves, settle, results, Tryz.results31, go_sem, hfin0, hfin1, hbel]

set_option maxHeartbeats 800000 in
theorem read_rest (s : ByteArray) (w : World) (hg : Gl w) (rest : List UInt8) (hrest : rest ≠ []) (T : TypeId) (v : Value)
    (HT : Hid (Calls Tryz.prog 60 #[.pointer (some ⟨w.heap.size + 1 + 1, 0, none⟩)] (laid3 w s) fun e w' => e = .returned (.iface T v) ∧ RdL (w.heap.size + 1 + 1) (laid3 w s) w' rest)) :
    Calls Tryz.prog 31 #[.string s] w fun e w' => e = .returned (.tuple #[.nilIface, .bool false]) ∧ Below w.heap.size w w' := by
  have hmf : ∀ (fn : Fn) (first cap : Array Value) (w : World), (Instr.makeFunc fn first cap).run Tryz.prog w = .ok (.func fn first cap) w := fun _ _ _ _ => rfl
  go_enter_defers Tryz.func31, Tryz.ntmps31
  go_wp2_with (first | (go_at_call 59; go_in) | fail)
  refine (HT.out).mono ?_
  rintro e w1 ⟨rfl, s1, hs1, _, hr1⟩
  have hs2 : s1.toList.isEmpty = false := by
    rw [ByteArray.toList_eq, hs1]; cases rest with
    | nil => exact absurd rfl hrest
    | cons => rfl
  have c0 : w1.cell? ⟨w.heap.size, 0, none⟩ = some .nilIface := by rw [hr1.other _ (by simp; omega)]; exact laid3_c0 w s
  have c1 : w1.cell? ⟨w.heap.size + 1, 0, none⟩ = some (.bool false) := by rw [hr1.other _ (by simp)]; exact laid3_c1 w s
  have f0 : w1.frozen? ⟨w.heap.size, 0, none⟩ = false := by rw [hr1.frozen_other _ (by simp; omega)]; exact laid3_f0 w s
  have f1 : w1.frozen? ⟨w.heap.size + 1, 0, none⟩ = false := by rw [hr1.frozen_other _ (by simp)]; exact laid3_f1 w s
  have hcr := hr1.cell
  have hbl0 : Below w.heap.size w w1 := (laid3_below w s).trans (hr1.below (by omega))
  obtain ⟨W2, hW2⟩ : ∃ W2, W2 = w1.setCell ⟨w.heap.size, 0, none⟩ (.iface T v) := ⟨_, rfl⟩
  have d0 : W2.cell? ⟨w.heap.size, 0, none⟩ = some (.iface T v) := by rw [hW2]; exact World.cell?_setCell_same _ _ _ c0
  have d1 : W2.cell? ⟨w.heap.size + 1, 0, none⟩ = some (.bool false) := by rw [hW2, World.cell?_of_block (w := w1) (Below.heap_setCell _ _ _ _ (by simp))]; exact c1
  have d2 : W2.cell? ⟨w.heap.size + 1 + 1, 0, none⟩ = some (.string s1) := by rw [hW2, World.cell?_of_block (w := w1) (Below.heap_setCell _ _ _ _ (by simp; omega))]; exact hcr
  have g0 : W2.frozen? ⟨w.heap.size, 0, none⟩ = false := by rw [hW2]; simpa using f0
  have g1 : W2.frozen? ⟨w.heap.size + 1, 0, none⟩ = false := by rw [hW2]; simpa using f1
  have hbl : Below w.heap.size w W2 := by rw [hW2]; exact hbl0.setCell (by simp) _
  obtain ⟨t1, v1, hg1⟩ := (hg.below hbl).2.1
  have HE := hide (end_no (w.heap.size + 1 + 1) s1 hs2 W2 d2 t1 v1 hg1)
  rw [hW2] at HE
  go_wp2_with fail
  refine (HE.out).mono ?_
  rintro e w2 ⟨rfl, rfl⟩
  rw [← hW2]
  clear hW2 c0 c1 f0 f1 hcr hbl0 HE HT hs1 hr1
  refine leaves_cons (f := 58) (args := #[.pointer (some ⟨w.heap.size, 0, none⟩), .pointer (some ⟨w.heap.size + 1, 0, none⟩)]) (by simp) (by simp [go_sem]) ?_
  have c1' : (W2.setCell ⟨w.heap.size, 0, none⟩ .nilIface).cell? ⟨w.heap.size + 1, 0, none⟩ = some (.bool false) := by
    rw [World.cell?_of_block (w := W2) (Below.heap_setCell _ _ _ _ (by simp))]; exact d1
  refine (catch_panicking ⟨w.heap.size, 0, none⟩ ⟨w.heap.size + 1, 0, none⟩ (.iface T v) false t1 v1 [] W2 d0 g0 c1' g1).mono ?_
  rintro e u' w'' ⟨rfl, rfl, rfl⟩
  have hfin0 : ((W2.setCell ⟨w.heap.size, 0, none⟩ .nilIface).setCell ⟨w.heap.size + 1, 0, none⟩ (.bool false)).cell? ⟨w.heap.size, 0, none⟩ = some .nilIface := by
    rw [World.cell?_of_block (w := (W2.setCell ⟨w.heap.size, 0, none⟩ .nilIface)) (Below.heap_setCell _ _ _ _ (by simp)), World.cell?_setCell_same _ _ _ d0]
  have hfin1 : ((W2.setCell ⟨w.heap.size, 0, none⟩ .nilIface).setCell ⟨w.heap.size + 1, 0, none⟩ (.bool false)).cell? ⟨w.heap.size + 1, 0, none⟩ = some (.bool false) := World.cell?_setCell_same _ _ _ c1'
  have hbel : Below w.heap.size w ((W2.setCell ⟨w.heap.size, 0, none⟩ .nilIface).setCell ⟨w.heap.size + 1, 0, none⟩ (.bool false)) :=
    (hbl.setCell (by simp) _).setCell (by simp) _
  generalize ((W2.setCell ⟨w.heap.size, 0, none⟩ .nilIface).setCell ⟨w.heap.size + 1, 0, none⟩ (.bool false)) = W at *
  simp [Leaves, settle, results, Tryz.results31, go_sem, hfin0, hfin1, hbel]

/-- The command's value, as 'Read' gives it. -/
def tyOf : Nat → TypeId
  | 1 => 111 | 2 => 114 | 3 => 117 | 4 => 120 | 5 => 123 | 6 => 126 | 7 => 128 | 8 => 108 | 9 => 109 | 10 => 131 | 11 => 134 | _ => 137

/-- The bytes' form: a code, and just its numbers. -/
def formOf (l : List UInt8) : Option (Nat × List Nat) :=
  match l with
  | [] => none
  | c :: r => if Pl.kindsL c.toNat = [] then none else
    match Pl.nums r with
    | none => none
    | some ns => if ns.length = (Pl.kindsL c.toNat).length then some (c.toNat, ns) else none

def ReadPost (w : World) (l : List UInt8) (e : Ending) (w' : World) : Prop :=
  Below w.heap.size w w' ∧
  match formOf l with
  | none => e = .returned (.tuple #[.nilIface, .bool false])
  | some (c, ns) => e = .returned (.tuple #[.iface (tyOf c) (.agg (I ns).toArray), .bool true])

theorem read_take (s : ByteArray) (hs : s.size ≤ 2097152) (w : World) (hg : Gl w) (c : UInt8) (r : List UInt8) (hl : s.data.toList = c :: r) (n : Nat) (hn : (Pl.kindsL c.toNat).length = n) (hne : Pl.kindsL c.toNat ≠ [])
    (HT : Calls Tryz.prog 60 #[.pointer (some ⟨w.heap.size + 1 + 1, 0, none⟩)] (laid3 w s) (TakePost (w.heap.size + 1 + 1) (laid3 w s) (tyOf c.toNat) n r)) :
    Calls Tryz.prog 31 #[.string s] w (ReadPost w s.data.toList) := by
  have hform : formOf s.data.toList = match Pl.nums r with
      | none => none
      | some ns => if ns.length = (Pl.kindsL c.toNat).length then some (c.toNat, ns) else none := by
    rw [hl]; simp only [formOf]; rw [if_neg hne]
  cases hr : Pl.readN n r with
  | none =>
    have hnone : formOf s.data.toList = none := by
      rw [hform]
      cases hq : Pl.nums r with
      | none => rfl
      | some ns =>
        by_cases hlen : ns.length = (Pl.kindsL c.toNat).length
        · have := (Pl.readN_nums n r ns).2 ⟨hq, by omega⟩
          rw [hr] at this; cases this
        · simp [hlen]
    refine (read_broke s w hg (HT.mono fun e w' h => by unfold TakePost at h; rw [hr] at h; exact h)).mono ?_
    rintro e w' ⟨h1, h2⟩
    refine ⟨h2, ?_⟩
    rw [hnone]; exact h1
  | some p =>
    obtain ⟨ns, rest⟩ := p
    have HT' : Hid (Calls Tryz.prog 60 #[.pointer (some ⟨w.heap.size + 1 + 1, 0, none⟩)] (laid3 w s) fun e w' => e = .returned (.iface (tyOf c.toNat) (.agg (I ns).toArray)) ∧ RdL (w.heap.size + 1 + 1) (laid3 w s) w' rest) :=
      HT.mono fun e w' h => by unfold TakePost at h; rw [hr] at h; exact h
    by_cases hre : rest = []
    · subst hre
      have hq := (Pl.readN_nums n r ns).1 hr
      have hsome : formOf s.data.toList = some (c.toNat, ns) := by
        rw [hform, hq.1]; simp [hq.2, hn]
      refine (read_ok s w _ _ HT').mono ?_
      rintro e w' ⟨h1, h2⟩
      refine ⟨h2, ?_⟩
      rw [hsome]; exact h1
    · have hnone : formOf s.data.toList = none := by
        rw [hform]
        cases hq : Pl.nums r with
        | none => rfl
        | some ms =>
          by_cases hlen : ms.length = (Pl.kindsL c.toNat).length
          · have := (Pl.readN_nums n r ms).2 ⟨hq, by omega⟩
            rw [hr] at this
            simp only [Option.some.injEq, Prod.mk.injEq] at this
            exact absurd this.2 hre
          · simp [hlen]
      refine (read_rest s w hg rest hre _ _ HT').mono ?_
      rintro e w' ⟨h1, h2⟩
      refine ⟨h2, ?_⟩
      rw [hnone]; exact h1

theorem read_any (s : ByteArray) (hs : s.size ≤ 2097152) (w : World) (hg : Gl w) :
    Calls Tryz.prog 31 #[.string s] w (ReadPost w s.data.toList) := by
  have hb2 : 2 ≤ w.heap.size + 1 + 1 := by omega
  have hg3 : Gl (laid3 w s) := hg.below (laid3_below w s)
  have hr : RdL (w.heap.size + 1 + 1) (laid3 w s) (laid3 w s) s.data.toList := ⟨s, rfl, hs, laid3_rd w s⟩
  cases hl : s.data.toList with
  | nil =>
    rw [hl] at hr
    refine (read_broke s w hg (take_empty _ hb2 _ _ hg3 hr)).mono ?_
    rintro e w' ⟨h1, h2⟩
    exact ⟨h2, h1⟩
  | cons c r =>
    rw [hl] at hr
    by_cases hc : c.toNat = 0 ∨ 13 ≤ c.toNat
    · have hk : Pl.kindsL c.toNat = [] := by
        rcases hc with h | h
        · rw [h]; rfl
        · unfold Pl.kindsL; split <;> first | rfl | omega
      refine (read_broke s w hg (take_other _ hb2 c hc r _ _ hg3 hr)).mono ?_
      rintro e w' ⟨h1, h2⟩
      refine ⟨h2, ?_⟩
      have : formOf (c :: r) = none := by simp [formOf, hk]
      rw [this]; exact h1
    · rw [← hl]
      have hcc : c.toNat = 1 ∨ c.toNat = 2 ∨ c.toNat = 3 ∨ c.toNat = 4 ∨ c.toNat = 5 ∨ c.toNat = 6 ∨ c.toNat = 7 ∨ c.toNat = 8 ∨ c.toNat = 9 ∨ c.toNat = 10 ∨ c.toNat = 11 ∨ c.toNat = 12 := by omega
      rcases hcc with h | h | h | h | h | h | h | h | h | h | h | h
      · obtain rfl : c = 1 := UInt8.toNat_inj.1 (by rw [h]; rfl)
        exact read_take s hs w hg _ r hl 1 rfl (by decide) (take_Day _ hb2 r _ _ hg3 hr)
      · obtain rfl : c = 2 := UInt8.toNat_inj.1 (by rw [h]; rfl)
        exact read_take s hs w hg _ r hl 4 rfl (by decide) (take_Receive _ hb2 r _ _ hg3 hr)
      · obtain rfl : c = 3 := UInt8.toNat_inj.1 (by rw [h]; rfl)
        exact read_take s hs w hg _ r hl 3 rfl (by decide) (take_Split _ hb2 r _ _ hg3 hr)
      · obtain rfl : c = 4 := UInt8.toNat_inj.1 (by rw [h]; rfl)
        exact read_take s hs w hg _ r hl 3 rfl (by decide) (take_Merge _ hb2 r _ _ hg3 hr)
      · obtain rfl : c = 5 := UInt8.toNat_inj.1 (by rw [h]; rfl)
        exact read_take s hs w hg _ r hl 5 rfl (by decide) (take_Order _ hb2 r _ _ hg3 hr)
      · obtain rfl : c = 6 := UInt8.toNat_inj.1 (by rw [h]; rfl)
        exact read_take s hs w hg _ r hl 1 rfl (by decide) (take_Cancel _ hb2 r _ _ hg3 hr)
      · obtain rfl : c = 7 := UInt8.toNat_inj.1 (by rw [h]; rfl)
        exact read_take s hs w hg _ r hl 1 rfl (by decide) (take_Ship _ hb2 r _ _ hg3 hr)
      · obtain rfl : c = 8 := UInt8.toNat_inj.1 (by rw [h]; rfl)
        exact read_take s hs w hg _ r hl 2 rfl (by decide) (take_Recall _ hb2 r _ _ hg3 hr)
      · obtain rfl : c = 9 := UInt8.toNat_inj.1 (by rw [h]; rfl)
        exact read_take s hs w hg _ r hl 2 rfl (by decide) (take_Release _ hb2 r _ _ hg3 hr)
      · obtain rfl : c = 10 := UInt8.toNat_inj.1 (by rw [h]; rfl)
        exact read_take s hs w hg _ r hl 2 rfl (by decide) (take_Scrap _ hb2 r _ _ hg3 hr)
      · obtain rfl : c = 11 := UInt8.toNat_inj.1 (by rw [h]; rfl)
        exact read_take s hs w hg _ r hl 1 rfl (by decide) (take_Look _ hb2 r _ _ hg3 hr)
      · obtain rfl : c = 12 := UInt8.toNat_inj.1 (by rw [h]; rfl)
        exact read_take s hs w hg _ r hl 2 rfl (by decide) (take_Supply _ hb2 r _ _ hg3 hr)

end Go.Proofs.YtclipofifmajeaaGreatDoor
