import Derived.Test.YtclipofifmajeaaGreatDoorCmdA
namespace Go.Proofs.YtclipofifmajeaaGreatDoor
set_option linter.unusedSimpArgs false
set_option linter.unusedVariables false
open Go.RowKit
set_option maxRecDepth 100000

theorem take_empty (b : Nat) (hb : 2 ≤ b) (w w0 : World) (hg : Gl w) (hr0 : RdL b w w0 []) :
    Calls Tryz.prog 60 #[.pointer (some ⟨b, 0, none⟩)] w0 (Broke b w) := by
  obtain ⟨t, ht, _, hr⟩ := hr0
  have hsz : t.size = 0 := by
    have : t.data.toList.length = t.size := by simp
    rw [ht] at this; exact this.symm
  have HB := hide (byte_break b hb t hsz w w0 hg hr)
  go_enter Tryz.func60, Tryz.ntmps60
  go_wp2_with fail
  refine (HB.out).mono ?_
  rintro e w1 ⟨⟨t1, v1, rfl⟩, hr1⟩
  exact ⟨rfl, ⟨t1, v1, rfl⟩, hr1⟩

set_option maxHeartbeats 800000 in
theorem take_other (b : Nat) (hb : 2 ≤ b) (c : UInt8) (hc : c.toNat = 0 ∨ 13 ≤ c.toNat) (r : List UInt8) (w w0 : World) (hg : Gl w) (hr0 : RdL b w w0 (c :: r)) :
    Calls Tryz.prog 60 #[.pointer (some ⟨b, 0, none⟩)] w0 (Broke b w) := by
  have HB := hide (byte_get' b c r w w0 hr0)
  clear hr0
  have hne : ∀ k : Nat, 1 ≤ k → k ≤ 12 → ((c.toNat : Int) == (k : Int)) = false := by
    intro k h1 h2; rw [beq_eq_false_iff_ne]; omega
  have e1 := hne 1 (by omega) (by omega)
  have e2 := hne 2 (by omega) (by omega)
  have e3 := hne 3 (by omega) (by omega)
  have e4 := hne 4 (by omega) (by omega)
  have e5 := hne 5 (by omega) (by omega)
  have e6 := hne 6 (by omega) (by omega)
  have e7 := hne 7 (by omega) (by omega)
  have e8 := hne 8 (by omega) (by omega)
  have e9 := hne 9 (by omega) (by omega)
  have e10 := hne 10 (by omega) (by omega)
  have e11 := hne 11 (by omega) (by omega)
  have e12 := hne 12 (by omega) (by omega)
  simp only [Int.cast_ofNat_Int] at e1 e2 e3 e4 e5 e6 e7 e8 e9 e10 e11 e12
  clear hne
  go_enter Tryz.func60, Tryz.ntmps60
  go_wp2_with fail
  refine (HB.out).mono ?_
  rintro e w1 ⟨rfl, hr1⟩
  obtain ⟨t, ht, hts, hr⟩ := hr1
  obtain ⟨t0, v0, hg0⟩ := (hg.rd hr hb).1
  have hbl : (c.toNat : Int) < 256 := by have := UInt8.toNat_lt c; omega
  go_wp2_with fail
  exact ⟨rfl, ⟨t0, v0, rfl⟩, t, hr⟩

set_option maxHeartbeats 400000 in
theorem end_ok (b : Nat) (w : World) (hc : w.cell? ⟨b, 0, none⟩ = some (.string ⟨#[]⟩)) :
    Calls Tryz.prog 61 #[.pointer (some ⟨b, 0, none⟩)] w fun e w' => e = .returned (.tuple #[]) ∧ w' = w := by
  go_enter Tryz.func61, Tryz.ntmps61
  go_wp2_with fail
  go_end0
  exact ⟨rfl, rfl⟩

set_option maxHeartbeats 400000 in
theorem end_no (b : Nat) (s : ByteArray) (hs : s.toList.isEmpty = false) (w : World) (hc : w.cell? ⟨b, 0, none⟩ = some (.string s)) (t : TypeId) (v : Value) (hg : w.cell? ⟨1, 0, none⟩ = some (.iface t v)) :
    Calls Tryz.prog 61 #[.pointer (some ⟨b, 0, none⟩)] w fun e w' => e = .panicked [{ v := .iface t v, recovered := false }] ∧ w' = w := by
  go_enter Tryz.func61, Tryz.ntmps61
  go_wp2_with fail
  exact ⟨rfl, rfl, rfl⟩

theorem catch_panicking (p q : Addr) (x : Value) (y : Bool) (u : TypeId) (pv : Value) (older : List PanicEntry) (w : World) (hc : w.cell? p = some x) (hz : w.frozen? p = false) (hc2 : (w.setCell p .nilIface).cell? q = some (.bool y)) (hz2 : w.frozen? q = false) :
    CallsD Tryz.prog 58 #[.pointer (some p), .pointer (some q)] (.panicking ({ v := .iface u pv, recovered := false } :: older)) w fun e u' w' =>
      e = .returned (.tuple #[]) ∧ u' = .panicking ({ v := .iface u pv, recovered := true } :: older) ∧ w' = (w.setCell p .nilIface).setCell q (.bool false) := by
  refine callsD_of_wpS Tryz.func58 rfl fun c₀ cs hu => ?_
  apply wpS_seq
  apply wpS_region
  simp [wpOpsS, go_sem, recoverD, hu, Tryz.ntmps58, Exit.thenS]
  refine wpS_cond (t := true) (by simp [Act.eval, Array.replicate]) ?_
  simp only [if_true]
  apply wpS_region
  simp [wpOpsS, go_sem, hc, hz, hc2, hz2, bodyPostS, results, Tryz.results58]

theorem catch_idle (p q : Addr) (w : World) :
    CallsD Tryz.prog 58 #[.pointer (some p), .pointer (some q)] .returning w fun e u' w' => e = .returned (.tuple #[]) ∧ u' = .returning ∧ w' = w := by
  refine callsD_of_wpS Tryz.func58 rfl fun c₀ cs hu => ?_
  apply wpS_seq
  apply wpS_region
  simp [wpOpsS, go_sem, recoverD, hu, Tryz.ntmps58, Exit.thenS]
  refine wpS_cond (t := false) (by simp [Act.eval, Array.replicate]) ?_
  simp only [Bool.false_eq_true, if_false]
  refine wpS_of_wp (wp_skip ?_)
  cases c₀
  simp_all [bodyPostS, results, Tryz.results58]

end Go.Proofs.YtclipofifmajeaaGreatDoor
