import Derived.Test.YtgcedalggnmooabGreatDoorKF
namespace Go.Proofs.YtgcedalggnmooabGreatDoor
set_option linter.unusedSimpArgs false
set_option linter.unusedVariables false
open Go.RowKit
set_option maxRecDepth 100000

def sK : Nat → Sv
  | 0 => sNil
  | 1 => s1
  | _ => s2
def headK : Nat → ByteArray
  | 0 => head1
  | _ => head2
def hcK : Nat → Nat × List Nat
  | 0 => (2, [13, 9, 5, 100])
  | _ => (3, [13, 14, 2])
theorem headK_step (k : Nat) (hk : k < 2) : headK k = ⟨(Pl.cmdB (hcK k).1 (hcK k).2).toArray⟩ ∧ repV (sK k) (.ok ((hcK k).1, (hcK k).2)) = [0] ∧ stepV (sK k) (.ok ((hcK k).1, (hcK k).2)) = sK (k + 1) ∧ (hcK k).1 ≤ 12 ∧ Pl.cmd (Pl.cmdB (hcK k).1 (hcK k).2) = .ok ((hcK k).1, (hcK k).2) ∧ (Pl.cmdB (hcK k).1 (hcK k).2).length ≤ 2097152 ∧ (sK k).lg.length ≤ 200 := by
  rcases (show k = 0 ∨ k = 1 by omega) with rfl | rfl
  · exact ⟨rfl, s1_step.2, s1_step.1, by decide, cmd_cmdB (by decide) (by decide) rfl (by intro n hn; simp [hcK] at hn; omega) (by decide), by decide, Nat.zero_le _⟩
  · refine ⟨rfl, s2_step.2, s2_step.1, by decide, cmd_cmdB (by decide) (by decide) rfl (by intro n hn; simp [hcK] at hn; omega) (by decide), by decide, ?_⟩
    have := s2_lg
    show (frmB (Pl.cmdB 2 [13, 9, 5, 100])).length ≤ 200
    have h2 : s2.lg = frmB (Pl.cmdB 2 [13, 9, 5, 100]) ++ frmB (Pl.cmdB 3 [13, 14, 2]) := rfl
    rw [h2, List.length_append] at this
    omega

theorem shows_lit {B : Nat} {w0 w : World} {Z : Nat → Prop} {Lb : Nat} {s : Sv} (h : Kv B w0 w Z Lb s) (i : Nat) (h1 : 1 ≤ i) (h2 : i ≤ 2147483647) (wt : List Nat) (he : lookE s i = 0) (hn : lookN s i = wt) (hwl : 0 < wt.length) :
    Calls Tryz.prog 25 #[.pointer (some ⟨Lb, 0, none⟩), .int .i64 (i : Int), .slice (some ⟨w.heap.size, 0, none⟩) wt.length wt.length] (w.alloc (.cells (I wt).toArray 3)) fun e w' => e = .returned (.bool true) ∧ ∃ Z', Kv B w0 w' Z' Lb s ∧ Kn Z w Z' w' := by
  have hal : Below w.heap.size w (w.alloc (.cells (I wt).toArray 3)) := al1 w _
  refine (shows_any (h.below hal) i h1 h2 w.heap.size wt.length wt (cl_lit w wt) (fun hz => by have := (h.zin _ hz).2; omega) he hn hwl).mono ?_
  rintro e w' ⟨he, Z', hkv, hkn⟩
  exact ⟨he, Z', hkv, (Kn.below hal).trans hkn⟩

set_option maxHeartbeats 1600000 in
theorem opened_any (w : World) (hg : Gl w) :
    Calls Tryz.prog 11 #[] w fun e w' => ∃ Lb Z, e = .returned (.tuple #[.pointer (some ⟨Lb, 0, none⟩), .bool true]) ∧ Kv w.heap.size w w' Z Lb s2 := by
  have HNW := hide (new_any w hg)
  have HHD := hide heads_any
  clear hg
  go_enter Tryz.func11, Tryz.ntmps11
  go_wp2_with (go_at_call 16; refine (HNW.out).mono ?_; rintro e w1 ⟨Lb, Z, rfl, hkv⟩)
  have HKV := hide hkv
  clear hkv
  go_wp2_with (go_at_call 12; refine (HHD.out _).mono ?_; rintro e w2 ⟨hb2, g, rfl, hg1, hg2, hc1, hc2⟩)
  have HINI : Hid (Kv w.heap.size w w2 Z Lb sNil) := HKV.out.below hb2
  have hgZ : ¬ Z g := fun hz => by have := (HKV.out.zin g hz).2; omega
  have HCC : Hid (∀ k, k < 2 → w2.cell? ⟨g, k, none⟩ = some (.string (headK k))) := fun k hk => by
    rcases (show k = 0 ∨ k = 1 by omega) with rfl | rfl
    · exact hc1
    · exact hc2
  have HZ0 := hide hgZ
  clear hc1 hc2 hgZ hb2 hg1 HKV HNW HHD
  go_loopw [4, 5] (fun ii _ wr => ∃ (k : Nat) (Z' : Nat → Prop), ii = .int .i64 k ∧ k ≤ 2 ∧ Kv w.heap.size w wr Z' Lb (sK k) ∧ Kn Z w2 Z' wr) (fun ii _ _ => 2 - (intOf ii).toNat)
  case atStart => exact ⟨0, Z, rfl, by omega, HINI.out, Kn.refl _ _⟩
  case round =>
    clear HINI
    obtain ⟨k, Z1, rfl, hk, hkv, hkn⟩ := hrel
    by_cases hlt : k < 2
    · obtain ⟨e0, e1, e2, e4, e5, e6, e7⟩ := headK_step k hlt
      have HH := hide (handle_kv hkv (hcK k).1 (hcK k).2 e4 e5 e6 (fun _ => by omega))
      rw [← e0, e1, e2] at HH
      have hck := (World.cell?_of_block (a := ⟨g, k, none⟩) (hkn.keep g hg2 HZ0.out).1).trans (HCC.out k hlt)
      have HKN := hide hkn
      generalize headK k = t at *
      clear hkv hkn e0 e1 e2 e5 e6
      go_wp2_with (go_at_call 10; refine (HH.out).mono ?_; rintro e w3 ⟨rfl, Z3, hkv3, hkn3⟩; have HK3 := hide hkv3; have HN3 := hide (HKN.out.trans hkn3); clear hkv3 hkn3)
      go_roundw
      case rel => exact ⟨k + 1, Z3, by go_num, by omega, HK3.out, HN3.out⟩
      case measure => simp [intOf]; omega
    · obtain rfl : k = 2 := by omega
      have HS13 := hide (shows_lit hkv 13 (by omega) (by omega) [9, 100, 1, 5, 3, 0, 0, 0, 2, 0] s2_look13.1 s2_look13.2 (by simp))
      have HS13' : Hid (Calls Tryz.prog 25 #[.pointer (some ⟨Lb, 0, none⟩), .int .i64 13, .slice (some ⟨wr.heap.size, 0, none⟩) 10 10] (wr.alloc (.cells #[.int .i64 9, .int .i64 100, .int .i64 1, .int .i64 5, .int .i64 3, .int .i64 0, .int .i64 0, .int .i64 0, .int .i64 2, .int .i64 0] 3)) fun e w' => e = .returned (.bool true) ∧ ∃ Z', Kv w.heap.size w w' Z' Lb s2 ∧ Kn Z1 wr Z' w') := HS13.out
      have HS14 : Hid (∀ (w4 : World) (Z4 : Nat → Prop), Kv w.heap.size w w4 Z4 Lb s2 → Calls Tryz.prog 25 #[.pointer (some ⟨Lb, 0, none⟩), .int .i64 14, .slice (some ⟨w4.heap.size, 0, none⟩) 10 10] (w4.alloc (.cells #[.int .i64 9, .int .i64 100, .int .i64 2, .int .i64 2, .int .i64 2, .int .i64 0, .int .i64 0, .int .i64 0, .int .i64 0, .int .i64 0] 3)) fun e w' => e = .returned (.bool true) ∧ ∃ Z', Kv w.heap.size w w' Z' Lb s2 ∧ Kn Z4 w4 Z' w') := fun w4 Z4 h4 => shows_lit h4 14 (by omega) (by omega) [9, 100, 2, 2, 2, 0, 0, 0, 0, 0] s2_look14.1 s2_look14.2 (by simp)
      have HSU : Hid (∀ (w4 : World) (Z4 : Nat → Prop), Kv w.heap.size w w4 Z4 Lb s2 → Calls Tryz.prog 20 #[.pointer (some ⟨Lb, 0, none⟩), .int .i64 12, .slice (some ⟨w4.heap.size, 0, none⟩) 2 2] (w4.alloc (.cells #[.int .i64 8, .int .i64 0] 3)) fun e w' => ∃ Z' v, e = .returned (.tuple #[.int .i64 0, v]) ∧ Kv w.heap.size w w' Z' Lb s2 ∧ Kn Z4 w4 Z' w' ∧ w'.ownsRow w4.heap.size 3 1 v [0, 0].length (I [0, 0]) ∧ ∀ q, v.ownBlock = some q → ¬ Z' q) := fun w4 Z4 h4 => by
        have := ask_lit h4 12 (by omega) (by omega) (fun q => absurd q (by omega)) [8, 0] rfl (by intro n hn; simp at hn; omega) (by decide) 0 [0, 0] (by omega) (by rw [(supV s2 8 0).1, s2_sup]) (by simp) (by simp)
        rw [(supV s2 8 0).2] at this
        exact this
      clear hkv hkn hlt HS13 HCC
      go_wp2_with fail
      refine (HS13'.out).mono ?_
      rintro e w4 ⟨rfl, Z4, hkv4, _⟩
      have HS14' := hide (HS14.out w4 Z4 hkv4)
      clear hkv4 HS14
      go_wp2_with fail
      refine (HS14'.out).mono ?_
      rintro e w5 ⟨rfl, Z5, hkv5, _⟩
      have HSU' := hide (HSU.out w5 Z5 hkv5)
      clear hkv5 HSU
      go_wp2_with fail
      refine (HSU'.out).mono ?_
      rintro e w6 ⟨Z6, v, rfl, hkv6, _, hrow, _⟩
      obtain ⟨q, qc, hv, _, hqlt⟩ := own_some hrow (by simp)
      subst hv
      have c0 := ownInts_cell hrow 0 (by simp)
      have c1 := ownInts_cell hrow 1 (by simp)
      have HK6 := hide hkv6
      clear hkv6 hrow
      simp only [List.getD_cons_zero, List.getD_cons_succ, List.length_cons, List.length_nil] at c0 c1 ⊢
      go_wp2_with fail
      go_quiet (fail)
      go_wp2_with fail
      go_ret2
      exact ⟨Lb, Z6, rfl, HK6.out.below (below_drewN (Below.refl _ _) nq)⟩

end Go.Proofs.YtgcedalggnmooabGreatDoor
