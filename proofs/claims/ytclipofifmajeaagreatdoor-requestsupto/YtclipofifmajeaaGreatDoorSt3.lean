import Derived.Test.YtclipofifmajeaaGreatDoorSt2
namespace Go.Proofs.YtclipofifmajeaaGreatDoor
set_option linter.unusedSimpArgs false
set_option linter.unusedVariables false
open Go.RowKit
set_option maxRecDepth 100000

/-- Z, and all that has come since w. -/
def Zn (Z : Nat → Prop) (w : World) (k : Nat) : Prop := Z k ∨ w.heap.size ≤ k

/-- The program's store at S: its day and its lots; all that it uses lies in Z. -/
def PI (os : List O) (Z : Nat → Prop) (w : World) (S td : Nat) (ls : List L) : Prop := ∃ M v bs pvs, PV os w S M v td bs pvs ls ∧ PIn Z S M v bs pvs

theorem PI.mono {Z Z' : Nat → Prop} {w : World} {S td : Nat} {ls : List L} {os : List O} (h : PI os Z w S td ls) (hz : ∀ k, Z k → Z' k) : PI os Z' w S td ls := by
  obtain ⟨M, v, bs, pvs, h1, h2⟩ := h
  exact ⟨M, v, bs, pvs, h1, h2.mono hz⟩

theorem al1 (w : World) (o : Obj) : Below w.heap.size w (w.alloc o) := (Below.refl _ _).alloc (Nat.le_refl _) _

/-- What stands beside the store's own block stays while that block turns. -/
theorem PV.store_set {w w' : World} {S : Nat} {M : Mx} {v : Value} {td td' : Nat} {bs : List Nat} {pvs : List Value} {ls : List L} {os : List O} (h : PV os w S M v td bs pvs ls) (hS : w'.heap[S]? = some (.cells #[.int .i64 (td' : Int), v, .map (some M.o), .map (some M.h), .map (some M.r)] 71 (0, 0))) (hq : ∀ k, k ≠ S → w'.heap[k]? = w.heap[k]?) (ht : td' ≤ 2147483647) : PV os w' S M v td' bs pvs ls where
  store := hS
  maps := h.maps.congr (fun k es c hk => hq k (map_ne h.store hk).symm)
  row := own_congr h.row (fun g hg => hq g (by
    obtain ⟨cs, hc⟩ := own_ty h.row hg
    exact (ty_ne h.store hc (by decide)).symm))
  len := h.len
  plen := h.plen
  lot := fun i hl => by rw [hq _ (ty_ne h.store (h.lot i hl) (by decide)).symm]; exact h.lot i hl
  par := fun i hl => (h.par i hl).congr (fun q hq' => by
    rcases h.par i hl with h1 | ⟨q', n, cap, cs, h1, h2, h3, h4⟩
    · rw [h1] at hq'; cases hq'
    · rw [h1] at hq'; cases hq'; exact hq _ (ty_ne h.store h3 (by decide)).symm)
  nodup := h.nodup
  today := ht
  ok := h.ok
  room := h.room

theorem PV.days {w : World} {S : Nat} {M : Mx} {v : Value} {td : Nat} {bs : List Nat} {pvs : List Value} {ls : List L} {os : List O} (h : PV os w S M v td bs pvs ls) (d : Nat) (hd : d ≤ 2147483647) : PV os (w.setCell ⟨S, 0, none⟩ (.int .i64 (d : Int))) S M v d bs pvs ls := by
  refine h.store_set ?_ (fun k hk => Below.heap_setCell _ _ _ _ hk) hd
  have := heap_setCell_same w S 0 _ 71 (.int .i64 (d : Int)) h.store
  simpa using this

set_option maxHeartbeats 800000 in
theorem day_any {Z : Nat → Prop} {w : World} {S td : Nat} {ls : List L} {os : List O} (h : PI os Z w S td ls) (d : Nat) (hd : d ≤ 2147483647) :
    Calls Tryz.prog 63 #[.pointer (some ⟨S, 0, none⟩), .agg #[.int .i64 (d : Int)]] w fun e w' => Kp Z w w' ∧
      ((d < td ∧ e = .returned (.int .i64 3) ∧ PI os (Zn Z w) w' S td ls) ∨ (td ≤ d ∧ e = .returned (.int .i64 0) ∧ PI os (Zn Z w) w' S d ls)) := by
  obtain ⟨M, v, bs, pvs, h1, hin⟩ := h
  have hS := blk_lt h1.store
  have c0 := h1.c0
  have htd := h1.today
  have f0 := blk_free h1.store 0
  have HP := hide h1
  clear h1
  by_cases hlt : d < td
  · go_enter Tryz.func63, Tryz.ntmps63
    go_wp2_with fail
    go_region
    go_wp2_with fail
    go_ret
    refine ⟨?_, Or.inl ⟨hlt, rfl, M, v, bs, pvs, ?_, hin.mono (fun k hk => Or.inl hk)⟩⟩
    · exact kpB (al1 w _).drew
    · exact HP.out.below (al1 w _).drew
  · have hge : td ≤ d := by omega
    go_enter Tryz.func63, Tryz.ntmps63
    go_wp2_with fail
    go_region
    go_wp2_with fail
    go_ret
    refine ⟨?_, Or.inr ⟨hge, rfl, M, v, bs, pvs, ?_, hin.mono (fun k hk => Or.inl hk)⟩⟩
    · exact (((Kp.refl Z w).setCell (Or.inl hin.s) _).after (al1 _ _)).after (Below.refl _ _).drew
    · exact ((HP.out.days d hd).below (al1 _ _)).below (Below.refl _ _).drew

set_option maxHeartbeats 800000 in
theorem receive_any {Z : Nat → Prop} {w : World} {S td : Nat} {ls : List L} {os : List O} (h : PI os Z w S td ls) (lot goods count expiry : Nat) (h1 : lot ≤ 2147483647) (h2 : goods ≤ 2147483647) (h3 : count ≤ 2147483647) (h4 : expiry ≤ 2147483647) :
    Calls Tryz.prog 64 #[.pointer (some ⟨S, 0, none⟩), .agg #[.int .i64 (lot : Int), .int .i64 (goods : Int), .int .i64 (count : Int), .int .i64 (expiry : Int)]] w fun e w' => Kp Z w w' ∧ e = .returned (.int .i64 (roomC ls lot : Int)) ∧
      PI os (Zn Z w) w' S td (if roomC ls lot = 0 then ls ++ [{ id := lot, goods := goods, expiry := expiry, place := ls.length + 1, got := count, free := count, held := 0, shipped := 0, scrapped := 0, given := 0 }] else ls) := by
  obtain ⟨M, v, bs, pvs, hP, hin⟩ := h
  obtain ⟨o, HO⟩ : ∃ o, Hid (o = Obj.cells #[.int .i64 (lot : Int), .int .i64 (goods : Int), .int .i64 (count : Int), .int .i64 (expiry : Int)] 114) := ⟨_, rfl⟩
  have hP1 := hP.below (al1 w (Obj.cells #[.int .i64 (lot : Int), .int .i64 (goods : Int), .int .i64 (count : Int), .int .i64 (expiry : Int)] 114))
  have HR := hide (room_any hP1 lot h1)
  have hrle : roomC ls lot ≤ 6 := by unfold roomC; split <;> (try split) <;> omega
  by_cases hr : roomC ls lot = 0
  · have hl30 : ls.length < 30 := by
      unfold roomC at hr
      by_cases hq : 30 ≤ ls.length
      · split at hr
        · omega
        · omega
      · omega
    have HA := hide (add_any hP1 lot goods expiry count (.slice none 0 0) (Or.inl rfl) hl30 h1 h2 h4 h3)
    rw [hr] at HR ⊢
    rw [if_pos rfl]
    have HP := hide hP
    clear hP hP1 hr
    go_enter Tryz.func64, Tryz.ntmps64
    go_wp2_with (first
      | (go_at_call 96; refine (HR.out).mono ?_; rintro e w1 ⟨rfl, rfl⟩)
      | (go_at_call 97; refine (HA.out).mono ?_; rintro e w2 ⟨rfl, hk, v', hPV, hat⟩))
    go_ret
    refine ⟨?_, rfl, M, v', _, _, hPV, ?_⟩
    · exact Kp.before (al1 w _) (hk.mono (fun k hq => Or.inl (hq.elim (fun e => e ▸ hin.s) (fun e => hin.v k e))))
    · refine ⟨Or.inl hin.s, Or.inl hin.m, Or.inl hin.mo, Or.inl hin.mh, fun g hg => ?_, fun k hk => ?_, fun pv hp q hq => ?_⟩
      · rcases hat g hg with h | h
        · exact Or.inl (hin.v g h)
        · right; simp at h; omega
      · rcases List.mem_append.1 hk with h | h
        · exact Or.inl (hin.b k h)
        · right; simp at h; omega
      · rcases List.mem_append.1 hp with h | h
        · exact Or.inl (hin.p pv h q hq)
        · simp at h; subst h; cases hq
  · rw [if_neg hr]
    have hrb : ((roomC ls lot : Int) != 0) = true := by rw [bne_iff_ne]; omega
    generalize roomC ls lot = rc at *
    go_enter Tryz.func64, Tryz.ntmps64
    go_wp2_with (go_at_call 96; refine (HR.out).mono ?_; rintro e w1 ⟨rfl, rfl⟩)
    go_ret
    exact ⟨kpB (al1 w _), rfl, M, v, bs, pvs, hP1, hin.mono (fun k hk => Or.inl hk)⟩

end Go.Proofs.YtclipofifmajeaaGreatDoor
