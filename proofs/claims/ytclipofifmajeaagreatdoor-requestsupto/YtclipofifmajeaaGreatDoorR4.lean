import Derived.Test.YtclipofifmajeaaGreatDoorR3
namespace Go.Proofs.YtclipofifmajeaaGreatDoor
set_option linter.unusedSimpArgs false
set_option linter.unusedVariables false
open Go.RowKit
set_option maxRecDepth 100000

theorem RV.store_set {w w' : World} {R : Nat} {v : Value} {td td' : Nat} {rec rec' : ByteArray} {fs : List Value} {ls : List L} {os : List O} {ro : Ro} (h : RV os ro w R v td rec fs ls)
    (hR : w'.heap[R]? = some (.cells #[.int .i64 (td' : Int), v, ro.ov, .slice none 0 0, .string rec'] 41 (0, 0))) (hq : ∀ k, k ≠ R → w'.heap[k]? = w.heap[k]?) (ht : td' ≤ 2147483647) : RV os ro w' R v td' rec' fs ls where
  store := hR
  row := own_congr h.row (fun g hg => hq g (by
    obtain ⟨cs, hc⟩ := own_ty h.row hg
    exact (ty_ne h.store hc (by decide)).symm))
  flen := h.flen
  fsl := h.fsl
  ord := h.ord.congr (fun g hg => hq g (h.ord.ne hg h.store (by decide) (by decide)))
  today := ht
  ok := h.ok
  room := h.room

theorem RV.days {w : World} {R : Nat} {v : Value} {td : Nat} {rec : ByteArray} {fs : List Value} {ls : List L} {os : List O} {ro : Ro} (h : RV os ro w R v td rec fs ls) (d : Nat) (hd : d ≤ 2147483647) : RV os ro (w.setCell ⟨R, 0, none⟩ (.int .i64 (d : Int))) R v d rec fs ls := by
  refine h.store_set ?_ (fun k hk => Below.heap_setCell _ _ _ _ hk) hd
  have := heap_setCell_same w R 0 _ 41 (.int .i64 (d : Int)) h.store
  simpa using this

theorem RV.recs {w : World} {R : Nat} {v : Value} {td : Nat} {rec : ByteArray} {fs : List Value} {ls : List L} {os : List O} {ro : Ro} (h : RV os ro w R v td rec fs ls) (rec' : ByteArray) : RV os ro (w.setCell ⟨R, 4, none⟩ (.string rec')) R v td rec' fs ls := by
  refine h.store_set ?_ (fun k hk => Below.heap_setCell _ _ _ _ hk) h.today
  have := heap_setCell_same w R 4 _ 41 (.string rec') h.store
  simpa using this

set_option maxHeartbeats 1600000 in
theorem doesR_day {Z : Nat → Prop} {w : World} {R td : Nat} {rec : ByteArray} {ls : List L} {os : List O} (h : RI os Z w R td rec ls) (gn cap d : Nat) (hn : NS w gn [d]) (hd : d ≤ 2147483647) :
    Calls Tryz.prog 25 #[.pointer (some ⟨R, 0, none⟩), .int .i64 1, .slice (some ⟨gn, 0, none⟩) 1 cap] w fun e w' => Kp Z w w' ∧
      ((d < td ∧ e = .returned (.tuple #[.slice none 0 0, .int .i64 3]) ∧ RI os (Zn Z w) w' R td rec ls) ∨ (td ≤ d ∧ e = .returned (.tuple #[.slice none 0 0, .int .i64 0]) ∧ RI os (Zn Z w) w' R d rec ls)) := by
  obtain ⟨v, fs, ro, hP, hZ, hZv, hZo⟩ := h
  have n0 : w.cell? ⟨gn, 0, none⟩ = some (.int .i64 (d : Int)) := hn.2 0 (by simp)
  have c0 := hP.c0
  have f0 := blk_free hP.store 0
  have htd := hP.today
  have HP := hide hP
  clear hP hn
  by_cases hlt : d < td
  · have hdb : decide ((d : Int) < (td : Int)) = true := by simp; omega
    go_enter Tryz.func25, Tryz.ntmps25
    go_wp2_with fail
    go_quiet (fail)
    go_wp2_with fail
    go_ret2
    exact ⟨kpB (below_drewN (Below.refl _ _) nq), Or.inl ⟨hlt, rfl, v, fs, ro, HP.out.below (below_drewN (Below.refl _ _) nq), Or.inl hZ, fun g hg => Or.inl (hZv g hg), fun g hg => Or.inl (hZo g hg)⟩⟩
  · have hge : td ≤ d := by omega
    have hdb : decide ((d : Int) < (td : Int)) = false := by simp; omega
    go_enter Tryz.func25, Tryz.ntmps25
    go_wp2_with fail
    go_quiet (fail)
    go_wp2_with fail
    go_ret2
    have hb := below_drewN (Below.refl w.heap.size w) nq
    refine ⟨?_, Or.inr ⟨hge, rfl, v, fs, ro, ?_, Or.inl hZ, fun g hg => Or.inl (hZv g hg), fun g hg => Or.inl (hZo g hg)⟩⟩
    · exact ((Kp.refl Z w).setCell (p := ⟨R, 0, none⟩) (Or.inl hZ) (.int .i64 (d : Int))).after (below_drewN (Below.refl _ _) nq)
    · exact (HP.out.days d hd).below (below_drewN (Below.refl _ _) nq)

set_option maxHeartbeats 1600000 in
theorem doesR_receive {Z : Nat → Prop} {w : World} {R td : Nat} {rec : ByteArray} {ls : List L} {os : List O} (h : RI os Z w R td rec ls) (gn cap : Nat) (a b c d : Nat) (hn : NS w gn [a, b, c, d])
    (h1 : a ≤ 2147483647) (h2 : b ≤ 2147483647) (h3 : c ≤ 2147483647) (h4 : d ≤ 2147483647) :
    Calls Tryz.prog 25 #[.pointer (some ⟨R, 0, none⟩), .int .i64 2, .slice (some ⟨gn, 0, none⟩) 4 cap] w fun e w' => Kp Z w w' ∧ e = .returned (.tuple #[.slice none 0 0, .int .i64 (roomC ls a : Int)]) ∧ RI os (Zn Z w) w' R td rec (if roomC ls a = 0 then ls ++ [newL ls a b c d] else ls) := by
  have HC := hide (comeR_any h gn cap a b c d hn h1 h2 h3 h4)
  generalize (if roomC ls a = 0 then ls ++ [newL ls a b c d] else ls) = ls' at HC ⊢
  generalize roomC ls a = rc at HC ⊢
  clear h hn
  go_enter Tryz.func25, Tryz.ntmps25
  go_wp2_with (go_at_call 38; refine (HC.out).mono ?_; rintro e w1 ⟨hk, rfl, hri⟩)
  go_ret2
  exact ⟨hk, rfl, hri⟩

set_option maxHeartbeats 1600000 in
theorem doesR_lookhit {w : World} {R : Nat} {v : Value} {td : Nat} {rec : ByteArray} {fs : List Value} {ls : List L} {os : List O} {ro : Ro} (h : RV os ro w R v td rec fs ls) (gn cap n : Nat) (hn : NS w gn [n]) (h1 : n ≤ 2147483647) (hi : idx n ls < ls.length) :
    Calls Tryz.prog 25 #[.pointer (some ⟨R, 0, none⟩), .int .i64 11, .slice (some ⟨gn, 0, none⟩) 1 cap] w fun e w' => Below w.heap.size w w' ∧ ∃ g, e = .returned (.tuple #[.slice (some ⟨g, 0, none⟩) 10 10, .int .i64 0]) ∧ w'.heap[g]? = some (.cells (I (lookL (ls.getD (idx n ls) L0))).toArray 3 (0, 0)) := by
  have n0 : w.cell? ⟨gn, 0, none⟩ = some (.int .i64 (n : Int)) := hn.2 0 (by simp)
  have HC := hide (lookR_hit h n h1 hi)
  generalize ls.getD (idx n ls) L0 = l at HC ⊢
  clear h hn hi
  go_enter Tryz.func25, Tryz.ntmps25
  go_wp2_with (go_at_call 44; refine (HC.out).mono ?_; rintro e w1 ⟨hb, g, rfl, hg⟩)
  go_ret2
  exact ⟨hb, g, rfl, hg⟩

set_option maxHeartbeats 1600000 in
theorem doesR_lookmiss {w : World} {R : Nat} {v : Value} {td : Nat} {rec : ByteArray} {fs : List Value} {ls : List L} {os : List O} {ro : Ro} (h : RV os ro w R v td rec fs ls) (gn cap n : Nat) (hn : NS w gn [n]) (h1 : n ≤ 2147483647) (hi : ¬ idx n ls < ls.length) :
    Calls Tryz.prog 25 #[.pointer (some ⟨R, 0, none⟩), .int .i64 11, .slice (some ⟨gn, 0, none⟩) 1 cap] w fun e w' => w' = w ∧ e = .returned (.tuple #[.slice none 0 0, .int .i64 4]) := by
  have n0 : w.cell? ⟨gn, 0, none⟩ = some (.int .i64 (n : Int)) := hn.2 0 (by simp)
  have HC := hide (lookR_miss h n h1 hi)
  clear h hn hi
  go_enter Tryz.func25, Tryz.ntmps25
  go_wp2_with (go_at_call 44; refine (HC.out).mono ?_; rintro e w1 ⟨rfl, rfl⟩)
  go_ret2
  exact ⟨rfl, rfl⟩

set_option maxHeartbeats 1600000 in
theorem doesR_supply {w : World} {R : Nat} {v : Value} {td : Nat} {rec : ByteArray} {fs : List Value} {ls : List L} {os : List O} {ro : Ro} (h : RV os ro w R v td rec fs ls) (gn cap a b : Nat) (hn : NS w gn [a, b]) (h1 : a ≤ 2147483647) (h2 : b ≤ 2147483647) :
    Calls Tryz.prog 25 #[.pointer (some ⟨R, 0, none⟩), .int .i64 12, .slice (some ⟨gn, 0, none⟩) 2 cap] w fun e w' => Below w.heap.size w w' ∧ ∃ g, e = .returned (.tuple #[.slice (some ⟨g, 0, none⟩) 2 2, .int .i64 0]) ∧ w'.heap[g]? = some (.cells (I (supL td a b ls)).toArray 3 (0, 0)) := by
  have n0 : w.cell? ⟨gn, 0, none⟩ = some (.int .i64 (a : Int)) := hn.2 0 (by simp)
  have n1 : w.cell? ⟨gn, 1, none⟩ = some (.int .i64 (b : Int)) := hn.2 1 (by simp)
  obtain ⟨cs, hcs⟩ := hn.1
  have hgn := blk_lt hcs
  have HC := hide (supplyR_any (h.below (drewB w)) a b h1 h2)
  generalize supL td a b ls = sl at HC ⊢
  clear h hn hcs
  go_enter Tryz.func25, Tryz.ntmps25
  go_wp2_with fail
  go_region_held3 (fun w' => w'.cell? ⟨gn, 0, none⟩ = some (.int .i64 (a : Int)) ∧ w'.cell? ⟨gn, 1, none⟩ = some (.int .i64 (b : Int))) (go_keep)
    (first
      | (go_at_call 45; refine (HC.out).mono ?_; rintro e w2 ⟨hb, g, rfl, hg⟩; have m0 := (hb.cell (p := ⟨gn, 0, none⟩) hgn).trans n0; have m1 := (hb.cell (p := ⟨gn, 1, none⟩) hgn).trans n1))
  clear m0 m1 n0 n1
  go_wp2_with fail
  go_ret2
  exact ⟨(drewB w).trans hb, g, rfl, hg⟩

end Go.Proofs.YtclipofifmajeaaGreatDoor
