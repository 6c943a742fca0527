import Derived.Test.YtclipofifmajeaaGreatDoorSt0
namespace Go.Proofs.YtclipofifmajeaaGreatDoor
set_option linter.unusedSimpArgs false
set_option linter.unusedVariables false
open Go.RowKit
set_option maxRecDepth 100000

/-- Only what Z names may have turned; blocks may have come. -/
structure Kp (Z : Nat → Prop) (w w' : World) : Prop where
  os : w'.os = w.os
  tape : w'.tape = w.tape
  output : w'.output = w.output
  size : w.heap.size ≤ w'.heap.size
  block : ∀ k, k < w.heap.size → ¬ Z k → w'.heap[k]? = w.heap[k]?

theorem Kp.refl (Z : Nat → Prop) (w : World) : Kp Z w w := ⟨rfl, rfl, rfl, Nat.le_refl _, fun _ _ _ => rfl⟩
theorem Kp.trans {Z : Nat → Prop} {a b c : World} (h : Kp Z a b) (k : Kp (fun k => Z k ∨ a.heap.size ≤ k) b c) : Kp Z a c :=
  ⟨k.os.trans h.os, k.tape.trans h.tape, k.output.trans h.output, Nat.le_trans h.size k.size, fun i hi hz =>
    (k.block i (Nat.lt_of_lt_of_le hi h.size) (fun hq => hq.elim hz (fun hq => absurd hi (by omega)))).trans (h.block i hi hz)⟩
theorem Kp.mono {Z Z' : Nat → Prop} {a b : World} (h : Kp Z a b) (hz : ∀ k, Z k → Z' k) : Kp Z' a b :=
  ⟨h.os, h.tape, h.output, h.size, fun i hi hn => h.block i hi (fun hq => hn (hz i hq))⟩
theorem kpB {Z : Nat → Prop} {a b : World} (h : Below a.heap.size a b) : Kp Z a b := ⟨h.os, h.tape, h.output, h.size, fun i hi _ => h.block i hi⟩
theorem Kp.after {Z : Nat → Prop} {a b c : World} (h : Kp Z a b) (k : Below b.heap.size b c) : Kp Z a c := h.trans (kpB k)
theorem Kp.before {Z : Nat → Prop} {a b c : World} (h : Below a.heap.size a b) (k : Kp (fun k => Z k ∨ a.heap.size ≤ k) b c) : Kp Z a c := (kpB (Z := Z) h).trans k
theorem Kp.setCell {Z : Nat → Prop} {a w : World} (h : Kp Z a w) {p : Addr} (hp : Z p.block ∨ a.heap.size ≤ p.block) (u : Value) : Kp Z a (w.setCell p u) :=
  h.trans ⟨rfl, rfl, rfl, by simp [World.setCell], fun k _ hz => Below.heap_setCell _ _ _ _ (fun e => hz (by rw [e]; exact hp))⟩
theorem Kp.grown {Z : Nat → Prop} {a w w' : World} {row : Option Nat} (h : Kp Z a w) (hg : w.grownBy w' row) (hr : ∀ k, row = some k → Z k ∨ a.heap.size ≤ k) : Kp Z a w' :=
  h.trans ⟨hg.os, hg.tape, hg.output, hg.size, fun k hk hz => hg.block k hk (fun e => hz (hr k e.symm))⟩

theorem grownBy_setCell (w : World) (a : Addr) (u : Value) : w.grownBy (w.setCell a u) (some a.block) :=
  ⟨rfl, rfl, rfl, by simp [World.setCell], fun k _ hk => Below.heap_setCell _ _ _ _ (fun e => hk (by rw [e]))⟩

/-- All that the program's store uses lies in Z. -/
structure PIn (Z : Nat → Prop) (S : Nat) (M : Mx) (v : Value) (bs : List Nat) (pvs : List Value) : Prop where
  s : Z S
  m : Z M.r
  mo : Z M.o
  mh : Z M.h
  v : ∀ g, v.ownBlock = some g → Z g
  b : ∀ k ∈ bs, Z k
  p : ∀ pv ∈ pvs, ∀ q, pv.ownBlock = some q → Z q

theorem PIn.mono {Z Z' : Nat → Prop} {S : Nat} {M : Mx} {v : Value} {bs : List Nat} {pvs : List Value} (h : PIn Z S M v bs pvs) (hz : ∀ k, Z k → Z' k) : PIn Z' S M v bs pvs :=
  ⟨hz _ h.s, hz _ h.m, hz _ h.mo, hz _ h.mh, fun g hg => hz _ (h.v g hg), fun k hk => hz _ (h.b k hk), fun pv hp q hq => hz _ (h.p pv hp q hq)⟩

theorem Par.congr {w w' : World} {pv : Value} (h : Par w pv) (hq : ∀ q, pv.ownBlock = some q → w'.heap[q]? = w.heap[q]?) : Par w' pv := by
  rcases h with h | ⟨q, n, cap, cs, h1, h2, h3, h4⟩
  · exact Or.inl h
  · exact Or.inr ⟨q, n, cap, cs, h1, h2, by rw [hq q (by rw [h1]; rfl)]; exact h3, h4⟩

theorem own_congr {w w' : World} {base e size n : Nat} {v : Value} {xs : List Value} (h : w.ownsRow base e size v n xs) (hq : ∀ g, v.ownBlock = some g → w'.heap[g]? = w.heap[g]?) : w'.ownsRow base e size v n xs := by
  refine ⟨h.1, ?_⟩
  rcases h.2 with h2 | ⟨g, cap, cur, h1, h2, h3, h4⟩
  · exact Or.inl h2
  · exact Or.inr ⟨g, cap, cur, h1, h2, by rw [hq g (by rw [h1]; rfl)]; exact h3, h4⟩

theorem getD_mem_nat {l : List Nat} {i : Nat} (h : i < l.length) : l.getD i 0 ∈ l := by simp [List.getD_eq_getElem?_getD, h]
theorem getD_mem_val {l : List Value} {i : Nat} (h : i < l.length) : l.getD i default ∈ l := by simp [List.getD_eq_getElem?_getD, h]

theorem PV.congr {Z : Nat → Prop} {w w' : World} {S : Nat} {M : Mx} {v : Value} {td : Nat} {bs : List Nat} {pvs : List Value} {ls : List L} {os : List O} (h : PV os w S M v td bs pvs ls) (hi : PIn Z S M v bs pvs) (hq : ∀ k, Z k → w'.heap[k]? = w.heap[k]?) : PV os w' S M v td bs pvs ls where
  store := by rw [hq S hi.s]; exact h.store
  maps := h.maps.congr3 (hq _ hi.m) (hq _ hi.mo) (hq _ hi.mh)
  row := own_congr h.row (fun g hg => hq g (hi.v g hg))
  len := h.len
  plen := h.plen
  lot := fun i hl => by rw [hq _ (hi.b _ (getD_mem_nat (by rw [h.len]; exact hl)))]; exact h.lot i hl
  par := fun i hl => (h.par i hl).congr (fun q hq' => hq q (hi.p _ (getD_mem_val (by rw [h.plen]; exact hl)) q hq'))
  nodup := h.nodup
  today := h.today
  ok := h.ok
  room := h.room

theorem PV.below {w w' : World} {S : Nat} {M : Mx} {v : Value} {td : Nat} {bs : List Nat} {pvs : List Value} {ls : List L} {os : List O} (h : PV os w S M v td bs pvs ls) (hb : Below w.heap.size w w') : PV os w' S M v td bs pvs ls where
  store := by rw [hb.block S (blk_lt h.store)]; exact h.store
  maps := h.maps.congr (fun k es c hk => hb.block k (blk_lt hk))
  row := own_below h.row hb
  len := h.len
  plen := h.plen
  lot := fun i hl => by rw [hb.block _ (blk_lt (h.lot i hl))]; exact h.lot i hl
  par := fun i hl => (h.par i hl).congr (fun q hq' => by
    rcases h.par i hl with h1 | ⟨q', n, cap, cs, h1, h2, h3, h4⟩
    · rw [h1] at hq'; cases hq'
    · rw [h1] at hq'; cases hq'; exact hb.block _ (blk_lt h3))
  nodup := h.nodup
  today := h.today
  ok := h.ok
  room := h.room

/-- The error of a new lot's number. -/
def roomC (ls : List L) (n : Nat) : Nat := if idx n ls < ls.length then 5 else if 30 ≤ ls.length then 6 else 0

set_option maxHeartbeats 800000 in
theorem room_any {w : World} {S : Nat} {M : Mx} {v : Value} {td : Nat} {bs : List Nat} {pvs : List Value} {ls : List L} {os : List O} (h : PV os w S M v td bs pvs ls) (n : Nat) (hn : n ≤ 2147483647) :
    Calls Tryz.prog 96 #[.pointer (some ⟨S, 0, none⟩), .int .i64 (n : Int)] w fun e w' => e = .returned (.int .i64 (roomC ls n : Int)) ∧ w' = w := by
  have H1 := hide (find_any h n hn)
  obtain ⟨a, cap, hv, _⟩ := h.shape
  have c1 := h.c1
  rw [hv] at c1
  have hroom := h.room
  clear h hv
  by_cases hi : idx n ls < ls.length
  · have HR : Hid (roomC ls n = 5) := by unfold Hid roomC; rw [if_pos hi]
    have HF : Hid (findV bs ls n = .pointer (some ⟨bs.getD (idx n ls) 0, 0, none⟩)) := by unfold Hid findV; rw [if_pos hi]
    rw [HF.out] at H1
    generalize bs.getD (idx n ls) 0 = b at H1
    clear hi HF
    go_enter Tryz.func96, Tryz.ntmps96
    go_wp2_with (go_at_call 98; refine (H1.out).mono ?_; rintro e w1 ⟨rfl, rfl⟩)
    go_ret
    exact ⟨by rw [HR.out]; rfl, rfl⟩
  · have HF : Hid (findV bs ls n = .pointer none) := by unfold Hid findV; rw [if_neg hi]
    rw [HF.out] at H1
    by_cases h30 : 30 ≤ ls.length
    · have HR : Hid (roomC ls n = 6) := by unfold Hid roomC; rw [if_neg hi, if_pos h30]
      clear hi HF
      go_enter Tryz.func96, Tryz.ntmps96
      go_wp2_with (go_at_call 98; refine (H1.out).mono ?_; rintro e w1 ⟨rfl, rfl⟩)
      go_ret
      exact ⟨by rw [HR.out]; rfl, rfl⟩
    · have HR : Hid (roomC ls n = 0) := by unfold Hid roomC; rw [if_neg hi, if_neg h30]
      clear hi HF
      go_enter Tryz.func96, Tryz.ntmps96
      go_wp2_with (go_at_call 98; refine (H1.out).mono ?_; rintro e w1 ⟨rfl, rfl⟩)
      go_ret
      exact ⟨by rw [HR.out]; rfl, rfl⟩

theorem ty_ne {w : World} {a b : Nat} {cs ds : Array Value} {t u : TypeId} {f g : Nat × Nat} (h : w.heap[a]? = some (.cells cs t f)) (k : w.heap[b]? = some (.cells ds u g)) (hne : t ≠ u) : a ≠ b := by
  rintro rfl; rw [h] at k; cases k; exact hne rfl
theorem map_ne {w : World} {a b : Nat} {cs : Array Value} {t : TypeId} {f : Nat × Nat} {es : Array MapEntry} {c : Nat} (h : w.heap[a]? = some (.cells cs t f)) (k : w.heap[b]? = some (.map es c)) : a ≠ b := by
  rintro rfl; rw [h] at k; cases k

theorem own_ty {w : World} {base e size n : Nat} {v : Value} {xs : List Value} (h : w.ownsRow base e size v n xs) {g : Nat} (hg : v.ownBlock = some g) : ∃ cs, w.heap[g]? = some (.cells cs e (0, 0)) := by
  rcases h.2 with ⟨h2, _⟩ | ⟨g', cap, cur, h1, h2, h3, h4⟩
  · rw [h2] at hg; cases hg
  · rw [h1] at hg; cases hg; exact ⟨cur, h3⟩

theorem getD_snoc_lt {α : Type} (l : List α) (x d : α) (i : Nat) (h : i < l.length) : (l ++ [x]).getD i d = l.getD i d := by
  simp [List.getD_eq_getElem?_getD, List.getElem?_append_left h]
theorem getD_snoc_eq {α : Type} (l : List α) (x d : α) (i : Nat) (h : i = l.length) : (l ++ [x]).getD i d = x := by
  subst h; simp [List.getD_eq_getElem?_getD]

/-- A lot has come. -/
theorem PV.added {w W1 W2 : World} {S : Nat} {M : Mx} {v v' : Value} {td : Nat} {bs : List Nat} {pvs : List Value} {ls : List L} {os : List O} (h : PV os w S M v td bs pvs ls) {pv : Value} {l : L}
    (hW1 : ∀ k, k < w.heap.size → W1.heap[k]? = w.heap[k]?) (hb : W1.heap[w.heap.size]? = some (.cells (lotCells l pv) 173 (0, 0)))
    (hown : W2.ownsRow 0 174 1 v' (bs.length + 1) (ptrs bs ++ [.pointer (some ⟨w.heap.size, 0, none⟩)])) (hg : W1.grownBy W2 v.ownBlock) (hl : L.Ok l) (hpar : Par w pv) (hlen : ls.length < 30) (hgrow' : w.heap.size < W1.heap.size) :
    PV os (W2.setCell ⟨S, 1, none⟩ v') S M v' td (bs ++ [w.heap.size]) (pvs ++ [pv]) (ls ++ [l]) := by
  have hS := blk_lt h.store
  have hrowS : v.ownBlock ≠ some S := fun e => by
    obtain ⟨cs, hc⟩ := own_ty h.row e
    exact ty_ne h.store hc (by decide) rfl
  have hrowM : ∀ (k : Nat) (es : Array MapEntry) (c : Nat), w.heap[k]? = some (.map es c) → v.ownBlock ≠ some k := fun k es c hM e => by
    obtain ⟨cs, hc⟩ := own_ty h.row e
    exact map_ne hc hM rfl
  have old : ∀ k, k < w.heap.size → v.ownBlock ≠ some k → W2.heap[k]? = w.heap[k]? := fun k hk hn => (hg.block k (by omega) (fun e => hn e.symm)).trans (hW1 k hk)
  have oldS : ∀ k, k < w.heap.size → v.ownBlock ≠ some k → k ≠ S → (W2.setCell ⟨S, 1, none⟩ v').heap[k]? = w.heap[k]? := fun k hk hn hs => (Below.heap_setCell _ _ _ _ hs).trans (old k hk hn)
  have hS2 : W2.heap[S]? = some (.cells #[.int .i64 (td : Int), v, .map (some M.o), .map (some M.h), .map (some M.r)] 71 (0, 0)) := (old S hS hrowS).trans h.store
  have hrowb : v.ownBlock ≠ some w.heap.size := fun e => by
    obtain ⟨cs, hc⟩ := own_ty h.row e
    have := blk_lt hc
    omega
  have hb2 : W2.heap[w.heap.size]? = some (.cells (lotCells l pv) 173 (0, 0)) := (hg.block _ hgrow' (fun e => hrowb e.symm)).trans hb
  have hlotne : ∀ i, i < ls.length → bs.getD i 0 ≠ S ∧ v.ownBlock ≠ some (bs.getD i 0) := fun i hi => ⟨(ty_ne h.store (h.lot i hi) (by decide)).symm, fun e => by
    obtain ⟨cs, hc⟩ := own_ty h.row e
    exact ty_ne (h.lot i hi) hc (by decide) rfl⟩
  have hparold : ∀ pv', Par w pv' → Par (W2.setCell ⟨S, 1, none⟩ v') pv' := fun pv' hp => hp.congr (fun q hq => by
    rcases hp with h1 | ⟨q', n, cap, cs, h1, h2, h3, h4⟩
    · rw [h1] at hq; cases hq
    · rw [h1] at hq; cases hq
      exact oldS _ (blk_lt h3) (fun e => by
        obtain ⟨cs', hc⟩ := own_ty h.row e
        exact ty_ne h3 hc (by decide) rfl) (ty_ne h.store h3 (by decide)).symm)
  refine ⟨?_, ?_, ?_, by simp [h.len], by simp [h.plen], ?_, ?_, ?_, h.today, ?_, by simp; omega⟩
  · have := heap_setCell_same W2 S 1 _ 71 v' hS2
    simpa using this
  · exact h.maps.congr (fun k es c hk => oldS k (blk_lt hk) (hrowM k es c hk) (map_ne h.store hk).symm)
  · have hk := hown.kept (grownBy_setCell W2 ⟨S, 1, none⟩ v') (Or.inr (fun e => by
      obtain ⟨cs, hc⟩ := own_ty hown (g := S) e
      exact ty_ne hS2 hc (by decide) rfl))
    have e : ptrs (bs ++ [w.heap.size]) = ptrs bs ++ [.pointer (some ⟨w.heap.size, 0, none⟩)] := by simp [ptrs]
    rw [e, List.length_append]; exact hk
  · intro i hi
    rw [List.length_append, List.length_singleton] at hi
    by_cases hlt : i < ls.length
    · rw [getD_snoc_lt bs _ _ _ (by rw [h.len]; exact hlt), getD_snoc_lt ls _ _ _ hlt, getD_snoc_lt pvs _ _ _ (by rw [h.plen]; exact hlt), oldS _ (blk_lt (h.lot i hlt)) (hlotne i hlt).2 (hlotne i hlt).1]
      exact h.lot i hlt
    · have hi' : i = ls.length := by omega
      rw [getD_snoc_eq bs _ _ _ (by rw [h.len]; exact hi'), getD_snoc_eq ls _ _ _ hi', getD_snoc_eq pvs _ _ _ (by rw [h.plen]; exact hi'), Below.heap_setCell _ _ _ _ (show w.heap.size ≠ S by omega)]
      exact hb2
  · intro i hi
    rw [List.length_append, List.length_singleton] at hi
    by_cases hlt : i < ls.length
    · rw [getD_snoc_lt pvs _ _ _ (by rw [h.plen]; exact hlt)]
      exact hparold _ (h.par i hlt)
    · rw [getD_snoc_eq pvs _ _ _ (by rw [h.plen]; omega)]
      exact hparold _ hpar
  · rw [List.nodup_append]
    refine ⟨h.nodup, by simp, ?_⟩
    intro a ha b hb'
    simp at hb'
    subst hb'
    obtain ⟨i, hi, rfl⟩ := List.getElem_of_mem ha
    have := blk_lt (h.lot i (by rw [← h.len]; exact hi))
    rw [List.getD_eq_getElem?_getD, List.getElem?_eq_getElem hi] at this
    simp at this
    omega
  · intro x hx
    rcases List.mem_append.1 hx with hx | hx
    · exact h.ok x hx
    · simp at hx; subst hx; exact hl

end Go.Proofs.YtclipofifmajeaaGreatDoor
