import Derived.Test.YtclipofifmajeaaGreatDoorSt1
import Derived.Maps.AppendAt
namespace Go.Proofs.YtclipofifmajeaaGreatDoor
set_option linter.unusedSimpArgs false
set_option linter.unusedVariables false
open Go.RowKit
set_option maxRecDepth 100000

theorem tU57 : Tryz.prog.underlying 69 = some (.slice 174) := by kernel_rfl
theorem info149 : (Tryz.prog.info? 174).map (fun i => (i.zero, i.size, i.bytes)) = some (some (.pointer none), 1, 8) := by kernel_rfl

theorem one_new' (w1 : World) (x : Value) (t : TypeId) (b : Nat) (hb : b = w1.heap.size) : ∀ (j : Nat) (u : Value), [x][j]? = some u → (w1.alloc (.cells #[x] t)).cell? (Addr.add ⟨b, 0, none⟩ j) = some u := by
  subst hb; exact one_new w1 x t

set_option maxHeartbeats 800000 in
theorem add_any {w : World} {S : Nat} {M : Mx} {v : Value} {td : Nat} {bs : List Nat} {pvs : List Value} {ls : List L} {os : List O} (h : PV os w S M v td bs pvs ls) (id goods expiry got : Nat) (pv : Value) (hpar : Par w pv) (hlen : ls.length < 30)
    (h1 : id ≤ 2147483647) (h2 : goods ≤ 2147483647) (h3 : expiry ≤ 2147483647) (h4 : got ≤ 2147483647) :
    Calls Tryz.prog 97 #[.pointer (some ⟨S, 0, none⟩), .agg #[.int .i64 (id : Int), .int .i64 (goods : Int), .int .i64 (expiry : Int), .int .i64 0, pv, .int .i64 (got : Int), .int .i64 0, .int .i64 0, .int .i64 0, .int .i64 0, .int .i64 0]] w
      fun e w' => e = .returned (.tuple #[]) ∧ Kp (fun k => k = S ∨ v.ownBlock = some k) w w' ∧ ∃ v', PV os w' S M v' td (bs ++ [w.heap.size]) (pvs ++ [pv]) (ls ++ [{ id := id, goods := goods, expiry := expiry, place := ls.length + 1, got := got, free := got, held := 0, shipped := 0, scrapped := 0, given := 0 }]) ∧
        (∀ g, v'.ownBlock = some g → v.ownBlock = some g ∨ w.heap.size ≤ g) := by
  obtain ⟨i0, hi, hz0, hz1, hz2⟩ := info_parts info149
  obtain ⟨a, cap, hv, _⟩ := h.shape
  have hS := blk_lt h.store
  have hSs : S < w.heap.size := hS
  have c1 := h.c1
  have f1 := blk_free h.store 1
  have hrow := h.row
  rw [h.len] at hrow
  rw [hv] at c1 hrow
  have HP := hide h
  obtain ⟨n, HN⟩ : ∃ n, Hid (n = ls.length) := ⟨_, rfl⟩
  rw [← HN.out] at c1 hrow hlen
  have hpvs : ∃ pa pl pc, pv = .slice pa pl pc := by
    rcases hpar with h | ⟨q, n, cap, cs, h, _⟩
    · exact ⟨_, _, _, h⟩
    · exact ⟨_, _, _, h⟩
  obtain ⟨pa, pl, pc, hpv⟩ := hpvs
  have HPV := hide hpv
  have HV := hide hv
  rw [hpv]
  clear h hv hpv
  go_enter Tryz.func97, Tryz.ntmps97
  go_wp2_with (at_builtin; refine wpList_append_own_at _ rfl _ _ 69 rfl 0 174 i0 (.pointer none) 1 8 tU57 hi hz0 hz1 hz2 rfl (by decide) _ n (ptrs bs) rfl ?ho ⟨w.heap.size + 1, 0, none⟩ 1 1 [.pointer (some ⟨w.heap.size, 0, none⟩)] rfl rfl ?c1 ?c2 ?c3 ?c4 ?c5 ?_)
  case ho => exact (hrow.alloc _).alloc _
  case c1 => exact one_new' _ _ _ _ (by simp)
  case c2 => intro u hu; simp at hu; subst hu; rfl
  case c3 => unfold maxLen; omega
  case c4 => omega
  case c5 => exact Nat.zero_le _
  intro v' w2 hown2 hgrow hnn hat
  have hP := HP.out
  have hlots : (lotCells { id := id, goods := goods, expiry := expiry, place := ls.length + 1, got := got, free := got, held := 0, shipped := 0, scrapped := 0, given := 0 } pv) = #[.int .i64 (id : Int), .int .i64 (goods : Int), .int .i64 (expiry : Int), .int .i64 ((n : Int) + 1), .slice pa pl pc, .int .i64 (got : Int), .int .i64 (got : Int), .int .i64 0, .int .i64 0, .int .i64 0, .int .i64 0] := by
    rw [HPV.out, HN.out]; rfl
  have hvb : v.ownBlock = (Value.slice a n cap).ownBlock := by rw [HV.out, HN.out]
  have hgrow' : ((w.alloc (.cells #[.int .i64 (id : Int), .int .i64 (goods : Int), .int .i64 (expiry : Int), .int .i64 ((n : Int) + 1), .slice pa pl pc, .int .i64 (got : Int), .int .i64 (got : Int), .int .i64 0, .int .i64 0, .int .i64 0, .int .i64 0] 173)).alloc (.cells #[.pointer (some ⟨w.heap.size, 0, none⟩)] 174)).grownBy w2 v.ownBlock := by rw [hvb]; exact hgrow
  have hW1 : ∀ k, k < w.heap.size → ((w.alloc (.cells #[.int .i64 (id : Int), .int .i64 (goods : Int), .int .i64 (expiry : Int), .int .i64 ((n : Int) + 1), .slice pa pl pc, .int .i64 (got : Int), .int .i64 (got : Int), .int .i64 0, .int .i64 0, .int .i64 0, .int .i64 0] 173)).alloc (.cells #[.pointer (some ⟨w.heap.size, 0, none⟩)] 174)).heap[k]? = w.heap[k]? := fun k hk => by
    rw [Below.heap_alloc _ _ _ (by simp; omega), Below.heap_alloc _ _ _ hk]
  have hb : ((w.alloc (.cells #[.int .i64 (id : Int), .int .i64 (goods : Int), .int .i64 (expiry : Int), .int .i64 ((n : Int) + 1), .slice pa pl pc, .int .i64 (got : Int), .int .i64 (got : Int), .int .i64 0, .int .i64 0, .int .i64 0, .int .i64 0] 173)).alloc (.cells #[.pointer (some ⟨w.heap.size, 0, none⟩)] 174)).heap[w.heap.size]? = some (.cells (lotCells { id := id, goods := goods, expiry := expiry, place := ls.length + 1, got := got, free := got, held := 0, shipped := 0, scrapped := 0, given := 0 } pv) 173 (0, 0)) := by
    rw [Below.heap_alloc _ _ _ (by simp), hlots]; exact heap_alloc_new w _
  have hnew := hP.added hW1 hb (by rw [hP.len, ← HN.out]; exact hown2) hgrow' ⟨h1, h2, h3, (by show ls.length + 1 ≤ 30; have := HN.out; omega), (by simp; omega), h4⟩ hpar (by have := HN.out; omega) (by simp; omega)
  have hrowS : v.ownBlock ≠ some S := fun e => by
    obtain ⟨cs, hc⟩ := own_ty hP.row e
    exact ty_ne hP.store hc (by decide) rfl
  have hS2 : w2.heap[S]? = some (.cells #[.int .i64 (td : Int), v, .map (some M.o), .map (some M.h), .map (some M.r)] 71 (0, 0)) := ((hgrow'.block S (by simp; omega) (fun e => hrowS e.symm)).trans (hW1 S hS)).trans hP.store
  have hc2 : w2.cell? ⟨S, 1, none⟩ = some v := by rw [blk_cell hS2]; rfl
  have hf2 := blk_free hS2 1
  have hkp : Kp (fun k => k = S ∨ v.ownBlock = some k) w (w2.setCell ⟨S, 1, none⟩ v') := by
    refine Kp.setCell ?_ (Or.inl (Or.inl rfl)) _
    refine Kp.grown (kpB ?_) hgrow' (fun k hk => Or.inl (Or.inr hk))
    exact ((Below.refl _ _).alloc (Nat.le_refl _) _).alloc (by simp) _
  have hat' : ∀ g, v'.ownBlock = some g → v.ownBlock = some g ∨ w.heap.size ≤ g := fun g hg => by
    rcases hat with h | h
    · left; rw [hvb]; exact h.symm.trans hg
    · right; rw [h] at hg; simp at hg; omega
  obtain ⟨g, cap', hv', _, _⟩ := own_some hown2 (by omega)
  have HNew := hide hnew
  have HK := hide hkp
  have HA := hide hat'
  rw [hv'] at HNew HK HA
  rw [hv']
  clear hown2 hgrow hgrow' hW1 hb hnew hkp hat' hat hnn hv' hlots hvb hS2 hrow c1 f1 hP
  go_wp2_with fail
  go_end0
  have HN2 := HNew.out
  rw [HPV.out] at HN2
  exact ⟨rfl, HK.out, _, HN2, HA.out⟩

end Go.Proofs.YtclipofifmajeaaGreatDoor
