import Derived.Test.YtclipofifmajeaaGreatDoorSt3
namespace Go.Proofs.YtclipofifmajeaaGreatDoor
set_option linter.unusedSimpArgs false
set_option linter.unusedVariables false
open Go.RowKit
set_option maxRecDepth 100000

theorem tU155 : Tryz.prog.underlying 189 = some (.map 2 197) := by kernel_rfl
theorem tU2 : Tryz.prog.underlying 2 = some (.int .i64) := by kernel_rfl
theorem zero163 : (Tryz.prog.info? 197).map (fun i => i.zero) = some (some (.agg #[])) := by kernel_rfl

theorem run_zero163 (w : World) : (zeroValue 197).run Tryz.prog w = .ok (.agg #[]) w := by
  have h := zero163
  cases hi : Tryz.prog.info? 197 with
  | none => rw [hi] at h; cases h
  | some i =>
    rw [hi] at h
    simp at h
    simp [zeroValue, typeInfo, hi, h]

theorem ck_int (m : Nat) (w : World) (n : Int) : (Instr.checkKey true (m + 1) 2 (.int .i64 n)).run Tryz.prog w = .ok () w := by
  unfold Instr.checkKey
  rw [Sem.run_bind, run_underlying tU2]
  rfl

theorem look_empty (w : World) (Mf c : Nat) (n : Int) (hm : w.heap[Mf]? = some (.map #[] c)) :
    (Instr.lookup 189 (.map (some Mf)) (.int .i64 n) true).run Tryz.prog w = .ok (.tuple #[.agg #[], .bool false]) w := by
  have hg : (getObj Mf).run Tryz.prog w = .ok (.map #[] c) w := by simp [getObj, Sem.run, hm]
  have hck : (Instr.checkKey true 10000 2 (.int .i64 n)).run Tryz.prog w = .ok () w := ck_int 9999 w n
  have hfk : (Instr.findKey 2 (.int .i64 n) []).run Tryz.prog w = .ok none w := by
    unfold Instr.findKey
    rw [Sem.run_bind, run_underlying tU2]
    rfl
  unfold Instr.lookup
  simp only [Sem.run_bind, run_underlying tU155, Result.andThen, hg, Sem.run_pure, Array.isEmpty_empty, hck, hfk, run_zero163, if_true]

set_option maxHeartbeats 800000 in
theorem has_any (Mf b n c : Nat) (w : World) (hm : w.heap[Mf]? = some (.map #[] c)) (hb : w.cell? ⟨b, 0, none⟩ = some (.int .i64 (n : Int))) :
    Calls Tryz.prog 107 #[.map (some Mf), .pointer (some ⟨b, 0, none⟩)] w fun e w' => e = .returned (.bool false) ∧ Below w.heap.size w w' := by
  have hlk := look_empty w Mf c n hm
  go_enter Tryz.func107, Tryz.ntmps107
  go_wp2_with fail
  go_ret
  exact ⟨rfl, al1 w _⟩

set_option maxHeartbeats 1600000 in
theorem grow_any {w : World} {S : Nat} {M : Mx} {v : Value} {td : Nat} {bs : List Nat} {pvs : List Value} {ls : List L} {os : List O} (h : PV os w S M v td bs pvs ls) (Mf c : Nat) (hm : w.heap[Mf]? = some (.map #[] c)) :
    Calls Tryz.prog 113 #[.pointer (some ⟨S, 0, none⟩), .map (some Mf)] w fun e w' => e = .returned (.tuple #[]) ∧ Below w.heap.size w w' := by
  obtain ⟨a, cap, hv, hrow⟩ := h.shape
  have c1 := h.c1
  rw [hv] at c1
  have hroom := h.room
  have hmlt := blk_lt hm
  have HP := hide h
  have HM := hide hm
  clear h hv hm
  go_enter Tryz.func113, Tryz.ntmps113
  go_wp2_with fail
  go_loopw [15] (fun i wr => ∃ k : Nat, k ≤ ls.length ∧ i = .int .i64 k ∧ Below w.heap.size w wr) (fun i _ => ls.length - (intOf i).toNat)
  case atStart => exact ⟨0, by omega, rfl, Below.refl _ _⟩
  case round =>
    obtain ⟨k, hk, rfl, hb⟩ := hrel
    by_cases hlt : k < ls.length
    · obtain ⟨G, hG, hcells⟩ := hrow (by omega)
      rw [hG]
      have hPr := HP.out.below hb
      have hGlt : G < w.heap.size := by
        have := hcells k hlt
        unfold World.cell? at this
        cases hh : w.heap[G]? with
        | none => rw [hh] at this; cases this
        | some o => exact blk_lt hh
      have hck : wr.cell? ⟨G, k, none⟩ = some (.pointer (some ⟨bs.getD k 0, 0, none⟩)) := (hb.cell (by exact hGlt)).trans (hcells k hlt)
      have hcl : wr.cell? ⟨bs.getD k 0, 4, none⟩ = some (pvs.getD k default) := by rw [hPr.cl k hlt 4]; rfl
      have hpar := hPr.par k hlt
      obtain ⟨b, HB⟩ : ∃ b, Hid (b = bs.getD k 0) := ⟨_, rfl⟩
      rw [← HB.out] at hcl hck
      generalize pvs.getD k default = pv at *
      clear hcells hG hrow hPr
      rcases hpar with rfl | ⟨q, m, qcap, cs, rfl, hm2, hq, hxy⟩
      · go_wp2_with fail
        refine wp_loop_rounds 1 ?_; rw [rounds_succ]
        go_wp2_with fail
        go_roundw
        case rel => exact ⟨k + 1, by omega, by go_num, hb⟩
        case measure => simp [intOf]; omega
      · have hqlt := blk_lt hq
        go_wp2_with fail
        go_loopw [24] (fun i w3 => ∃ j : Nat, j ≤ m ∧ i = .int .i64 j ∧ Below wr.heap.size wr w3) (fun i _ => m - (intOf i).toNat)
        case atStart => exact ⟨0, by omega, rfl, Below.refl _ _⟩
        case round =>
          obtain ⟨j, hj, rfl, hb3⟩ := hrel
          by_cases hjm : j < m
          · obtain ⟨x, y, hx, hy⟩ := hxy j hjm
            have hx3 : wr.cell? ⟨q, j * 2, none⟩ = some (.int .i64 (x : Int)) := (hb3.cell (by exact hqlt)).trans (by rw [blk_cell hq, Nat.mul_comm]; exact hx)
            have hy3 : wr.cell? ⟨q, j * 2 + 1, none⟩ = some (.int .i64 (y : Int)) := (hb3.cell (by exact hqlt)).trans (by rw [blk_cell hq, Nat.mul_comm]; exact hy)
            have hmw : wr.heap[Mf]? = some (.map #[] c) := (hb3.block Mf (by have := hb.size; omega)).trans ((hb.block Mf hmlt).trans HM.out)
            have hlk := fun o => look_empty (wr.alloc o) Mf c (x : Int) (by rw [Below.heap_alloc _ _ _ (blk_lt hmw)]; exact hmw)
            have HX := hide hxy
            have HQ := hide hq
            clear hxy hx hy hq hmw
            go_wp2_with fail
            go_roundw
            case rel => exact ⟨j + 1, by omega, by go_num, (hb3.alloc hb3.size _).alloc (by have := hb3.size; simp; omega) _⟩
            case measure => simp [intOf]; omega
          · obtain rfl : j = m := by omega
            clear hjm
            go_wp2_with fail
            go_roundw
            case rel => exact ⟨k + 1, by omega, by go_num, hb.trans (hb3.mono hb.size)⟩
            case measure => simp [intOf]; omega
    · obtain rfl : k = ls.length := by omega
      clear hrow hlt
      go_wp2_with fail
      go_end0
      exact ⟨rfl, hb⟩

end Go.Proofs.YtclipofifmajeaaGreatDoor
