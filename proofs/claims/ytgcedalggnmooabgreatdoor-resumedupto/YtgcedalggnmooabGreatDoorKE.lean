import Derived.Test.YtgcedalggnmooabGreatDoorKD
namespace Go.Proofs.YtgcedalggnmooabGreatDoor
set_option linter.unusedSimpArgs false
set_option linter.unusedVariables false
open Go.RowKit
set_option maxRecDepth 100000

theorem len42 (w : World) (a : Option Addr) (n c : Nat) : (Builtin.len_ #[44] 3 #[.slice a n c]).run Tryz.prog w = .ok (.int .i64 (n : Int)) w := by
  simp [Builtin.len_, run_underlying tU48, goInt, Result.andThen]

theorem cl_lit (w : World) (ns : List Nat) : Cl (w.alloc (.cells (I ns).toArray 3)) w.heap.size ns := by
  refine ⟨by simp, fun j hj => ?_⟩
  rw [blk_cell (heap_alloc_new w _)]
  simp [I, List.getD_eq_getElem?_getD, hj]

theorem ask_lit {B : Nat} {w0 w : World} {Z : Nat → Prop} {Lb : Nat} {s : Sv} (h : Kv B w0 w Z Lb s) (c : Nat) (h1 : 1 ≤ c) (h2 : c ≤ 12) (hlg : c ≤ 10 → s.lg.length ≤ 35184372088832) (ns : List Nat) (hl : ns.length = (Pl.kindsL c).length) (hn : ∀ n ∈ ns, n < 9223372036854775808) (hm : Pl.mays (Pl.kindsL c) ns = true)
    (x : Nat) (rs : List Nat) (hx : x ≤ 255) (hrep : repV s (.ok (c, ns)) = UInt8.ofNat x :: Pl.toldB rs) (hrs : ∀ n ∈ rs, n < 9223372036854775808) (hrl : rs.length ≤ 100) :
    Calls Tryz.prog 20 #[.pointer (some ⟨Lb, 0, none⟩), .int .i64 (c : Int), .slice (some ⟨w.heap.size, 0, none⟩) ns.length ns.length] (w.alloc (.cells (I ns).toArray 3)) fun e w' => ∃ Z' v, e = .returned (.tuple #[.int .i64 (x : Int), v]) ∧ Kv B w0 w' Z' Lb (stepV s (.ok (c, ns))) ∧ Kn Z w Z' w' ∧ w'.ownsRow w.heap.size 3 1 v rs.length (I rs) ∧ ∀ q, v.ownBlock = some q → ¬ Z' q := by
  have hal : Below w.heap.size w (w.alloc (.cells (I ns).toArray 3)) := al1 w _
  refine (ask_any (h.below hal) c h1 h2 hlg w.heap.size ns.length ns (cl_lit w ns) hl hn hm x rs hx hrep hrs hrl).mono ?_
  rintro e w' ⟨Z', v, he, hkv, hkn, hrow, hz⟩
  exact ⟨Z', v, he, hkv, (Kn.below hal).trans hkn, own_weaken hrow (by simp), hz⟩

theorem kinds5 {c : Nat} (h1 : 1 ≤ c) (h2 : c ≤ 12) : (Pl.kindsL c).length ≤ 5 := by
  rcases (show c = 1 ∨ c = 2 ∨ c = 3 ∨ c = 4 ∨ c = 5 ∨ c = 6 ∨ c = 7 ∨ c = 8 ∨ c = 9 ∨ c = 10 ∨ c = 11 ∨ c = 12 by omega) with rfl | rfl | rfl | rfl | rfl | rfl | rfl | rfl | rfl | rfl | rfl | rfl <;> simp [Pl.kindsL]
theorem ask_anyx {j B : Nat} {w0 w : World} {Z : Nat → Prop} {Lb : Nat} {s : Sv} (h : Kx j B w0 w Z Lb s) (hj : j ≤ 1000) (c : Nat) (h1 : 1 ≤ c) (h2 : c ≤ 12) (g cap : Nat) (ns : List Nat) (hcl : Cl w g ns) (hl : ns.length = (Pl.kindsL c).length) (hn : ∀ n ∈ ns, n < 9223372036854775808) (hm : Pl.mays (Pl.kindsL c) ns = true)
    (x : Nat) (rs : List Nat) (hx : x ≤ 255) (hrep : repV s (.ok (c, ns)) = UInt8.ofNat x :: Pl.toldB rs) (hrs : ∀ n ∈ rs, n < 9223372036854775808) (hrl : rs.length ≤ 100) :
    Calls Tryz.prog 20 #[.pointer (some ⟨Lb, 0, none⟩), .int .i64 (c : Int), .slice (some ⟨g, 0, none⟩) ns.length cap] w fun e w' => ∃ Z' v, e = .returned (.tuple #[.int .i64 (x : Int), v]) ∧ Kx (j + 1) B w0 w' Z' Lb (stepZ s (.ok (c, ns))) ∧ Kn Z w Z' w' ∧ w'.ownsRow w.heap.size 3 1 v rs.length (I rs) ∧ ∀ q, v.ownBlock = some q → ¬ Z' q := by
  obtain ⟨lg, hlg, hk⟩ := h
  have hk5 := kinds5 h1 h2
  refine (ask_any hk c h1 h2 (fun _ => by show lg.length ≤ _; omega) g cap ns hcl hl hn hm x rs hx hrep hrs hrl).mono ?_
  rintro e w' ⟨Z', v, he, hkv, hr⟩
  exact ⟨Z', v, he, Kx.step hlg (by omega) hn hkv, hr⟩
theorem ask_litx {j B : Nat} {w0 w : World} {Z : Nat → Prop} {Lb : Nat} {s : Sv} (h : Kx j B w0 w Z Lb s) (hj : j ≤ 1000) (c : Nat) (h1 : 1 ≤ c) (h2 : c ≤ 12) (ns : List Nat) (hl : ns.length = (Pl.kindsL c).length) (hn : ∀ n ∈ ns, n < 9223372036854775808) (hm : Pl.mays (Pl.kindsL c) ns = true)
    (x : Nat) (rs : List Nat) (hx : x ≤ 255) (hrep : repV s (.ok (c, ns)) = UInt8.ofNat x :: Pl.toldB rs) (hrs : ∀ n ∈ rs, n < 9223372036854775808) (hrl : rs.length ≤ 100) :
    Calls Tryz.prog 20 #[.pointer (some ⟨Lb, 0, none⟩), .int .i64 (c : Int), .slice (some ⟨w.heap.size, 0, none⟩) ns.length ns.length] (w.alloc (.cells (I ns).toArray 3)) fun e w' => ∃ Z' v, e = .returned (.tuple #[.int .i64 (x : Int), v]) ∧ Kx (j + 1) B w0 w' Z' Lb (stepZ s (.ok (c, ns))) ∧ Kn Z w Z' w' ∧ w'.ownsRow w.heap.size 3 1 v rs.length (I rs) ∧ ∀ q, v.ownBlock = some q → ¬ Z' q := by
  obtain ⟨lg, hlg, hk⟩ := h
  have hk5 := kinds5 h1 h2
  refine (ask_lit hk c h1 h2 (fun _ => by show lg.length ≤ _; omega) ns hl hn hm x rs hx hrep hrs hrl).mono ?_
  rintro e w' ⟨Z', v, he, hkv, hr⟩
  exact ⟨Z', v, he, Kx.step hlg (by omega) hn hkv, hr⟩

/-- What Look of a lot tells: the error, the numbers. -/
def lookE (s : Sv) (i : Nat) : Nat := if idx i s.ls < s.ls.length then 0 else 4
def lookN (s : Sv) (i : Nat) : List Nat := if idx i s.ls < s.ls.length then lookL (recB s.rcs s.ls) (s.ls.getD (idx i s.ls) L0) else []

theorem lookV (s : Sv) (i : Nat) : repV s (.ok (11, [i])) = UInt8.ofNat (lookE s i) :: Pl.toldB (lookN s i) ∧ stepV s (.ok (11, [i])) = s := by
  unfold repV stepV lookE lookN
  have e : stepR s.rcs s.td s.os s.ls (.ok (11, [i])) = ((stepS s.rcs s.td s.ls (.ok (11, [i]))).1, (stepS s.rcs s.td s.ls (.ok (11, [i]))).2.1, s.os, s.rcs, (stepS s.rcs s.td s.ls (.ok (11, [i]))).2.2) := rfl
  rw [e]
  by_cases hi : idx i s.ls < s.ls.length
  · have e2 : stepS s.rcs s.td s.ls (.ok (11, [i])) = (0 :: Pl.toldB (lookL (recB s.rcs s.ls) (s.ls.getD (idx i s.ls) L0)), s.td, s.ls) := by simp only [stepS]; rw [if_pos hi]
    rw [e2, if_pos hi, if_pos hi]; exact ⟨rfl, rfl⟩
  · have e2 : stepS s.rcs s.td s.ls (.ok (11, [i])) = ([4], s.td, s.ls) := by simp only [stepS]; rw [if_neg hi]
    rw [e2, if_neg hi, if_neg hi]; exact ⟨rfl, rfl⟩
theorem supV (s : Sv) (a b : Nat) : repV s (.ok (12, [a, b])) = UInt8.ofNat 0 :: Pl.toldB (supL s.rcs s.td a b s.ls) ∧ stepV s (.ok (12, [a, b])) = s := ⟨rfl, rfl⟩

theorem lookN_small {B : Nat} {w0 w : World} {Z : Nat → Prop} {Lb : Nat} {s : Sv} (h : Kv B w0 w Z Lb s) (i : Nat) : (∀ n ∈ lookN s i, n < 9223372036854775808) ∧ (lookN s i).length ≤ 10 := by
  unfold lookN
  by_cases hi : idx i s.ls < s.ls.length
  · rw [if_pos hi]
    have hk := h.ok _ (mem_getD hi)
    generalize s.ls.getD (idx i s.ls) L0 = l at *
    obtain ⟨h1, h2, h3, h4, h5, h6, h7⟩ := hk
    refine ⟨fun n hn => ?_, by simp [lookL]⟩
    simp only [lookL, List.mem_cons, List.not_mem_nil, or_false] at hn
    rcases hn with rfl | rfl | rfl | rfl | rfl | rfl | rfl | rfl | rfl | rfl <;> try omega
    split <;> omega
  · rw [if_neg hi]; simp

theorem look_lit {B : Nat} {w0 w : World} {Z : Nat → Prop} {Lb : Nat} {s : Sv} (h : Kv B w0 w Z Lb s) (i : Nat) (h1 : 1 ≤ i) (h2 : i ≤ 2147483647) :
    Calls Tryz.prog 20 #[.pointer (some ⟨Lb, 0, none⟩), .int .i64 11, .slice (some ⟨w.heap.size, 0, none⟩) 1 1] (w.alloc (.cells #[.int .i64 (i : Int)] 3)) fun e w' => ∃ Z' v, e = .returned (.tuple #[.int .i64 (lookE s i : Int), v]) ∧ Kv B w0 w' Z' Lb s ∧ Kn Z w Z' w' ∧ w'.ownsRow w.heap.size 3 1 v (lookN s i).length (I (lookN s i)) ∧ ∀ q, v.ownBlock = some q → ¬ Z' q := by
  obtain ⟨e1, e2⟩ := lookV s i
  obtain ⟨s1, s2⟩ := lookN_small h i
  have hle : lookE s i ≤ 255 := by unfold lookE; split <;> omega
  have := ask_lit h 11 (by omega) (by omega) (fun q => absurd q (by omega)) [i] rfl (by intro n hn; simp at hn; omega) (by simp [Pl.mays, Pl.kindsL, Pl.mayB]; omega) (lookE s i) (lookN s i) hle e1 s1 (by omega)
  rw [e2] at this
  exact this

theorem look_litx {j B : Nat} {w0 w : World} {Z : Nat → Prop} {Lb : Nat} {s : Sv} (h : Kx j B w0 w Z Lb s) (i : Nat) (h1 : 1 ≤ i) (h2 : i ≤ 2147483647) :
    Calls Tryz.prog 20 #[.pointer (some ⟨Lb, 0, none⟩), .int .i64 11, .slice (some ⟨w.heap.size, 0, none⟩) 1 1] (w.alloc (.cells #[.int .i64 (i : Int)] 3)) fun e w' => ∃ Z' v, e = .returned (.tuple #[.int .i64 (lookE s i : Int), v]) ∧ Kx j B w0 w' Z' Lb s ∧ Kn Z w Z' w' ∧ w'.ownsRow w.heap.size 3 1 v (lookN s i).length (I (lookN s i)) ∧ ∀ q, v.ownBlock = some q → ¬ Z' q := by
  obtain ⟨lg, hlg, hk⟩ := h
  refine (look_lit hk i h1 h2).mono ?_
  rintro e w' ⟨Z', v, he, hkv, hr⟩
  exact ⟨Z', v, he, ⟨lg, hlg, hkv⟩, hr⟩

set_option maxHeartbeats 800000 in
theorem shows_any {B : Nat} {w0 w : World} {Z : Nat → Prop} {Lb : Nat} {s : Sv} (h : Kv B w0 w Z Lb s) (i : Nat) (h1 : 1 ≤ i) (h2 : i ≤ 2147483647) (g cap : Nat) (wt : List Nat) (hcl : Cl w g wt) (hz : ¬ Z g) (he : lookE s i = 0) (hn : lookN s i = wt) (hwl : 0 < wt.length) :
    Calls Tryz.prog 25 #[.pointer (some ⟨Lb, 0, none⟩), .int .i64 (i : Int), .slice (some ⟨g, 0, none⟩) wt.length cap] w fun e w' => e = .returned (.bool true) ∧ ∃ Z', Kv B w0 w' Z' Lb s ∧ Kn Z w Z' w' := by
  have HL := hide (look_lit h i h1 h2)
  rw [he, hn] at HL
  have HCL := hide hcl
  have HZ := hide hz
  have hsm : ∀ n ∈ wt, n < 9223372036854775808 := by rw [← hn]; exact (lookN_small h i).1
  have HSM := hide hsm
  have hwl2 : wt.length ≤ 10 := by rw [← hn]; exact (lookN_small h i).2
  clear h hcl hz he hn hsm
  go_enter Tryz.func25, Tryz.ntmps25
  go_wp2_with (go_at_call 20; refine (HL.out).mono ?_; rintro e w1 ⟨Z', v, rfl, hkv, hkn, hrow, hzv⟩)
  obtain ⟨r, rc, hv, _, hrlt⟩ := own_some hrow hwl
  subst hv
  have HKV := hide hkv
  have HKN := hide hkn
  have HRW := hide hrow
  have HC1 := hide (hkn.cl HCL.out HZ.out).1
  clear hkv hkn hrow hzv HL
  go_wp2_with fail
  rw [len42]
  go_wp2_with fail
  go_loopw [9] (fun ii wr => ∃ k : Nat, k ≤ wt.length ∧ ii = .int .i64 k ∧ Below w1.heap.size w1 wr) (fun ii _ => wt.length - (intOf ii).toNat)
  case atStart => exact ⟨0, by omega, rfl, Below.refl _ _⟩
  case round =>
    obtain ⟨k, hk, rfl, hb⟩ := hrel
    by_cases hlt : k < wt.length
    · have c1 := (hb.cell (p := ⟨r, k, none⟩) hrlt).trans (ownInts_cell HRW.out k hlt)
      have c2 := (hb.cell (p := ⟨g, k, none⟩) HC1.out.1).trans (HC1.out.2 k hlt)
      have hxin : wt.getD k 0 ∈ wt := by simp [List.getD_eq_getElem?_getD, hlt]
      have hxb := HSM.out _ hxin
      generalize wt.getD k 0 = x at *
      have HB := hide hb
      clear hxin hb
      go_wp2_with fail
      go_quiet (fail)
      go_wp2_with fail
      go_roundw
      case rel => exact ⟨k + 1, by omega, by go_num, below_drewN HB.out nq⟩
      case measure => simp [intOf]; omega
    · obtain rfl : k = wt.length := by omega
      have HB := hide hb
      clear hlt hb
      go_wp2_with fail
      go_ret
      exact ⟨rfl, Z', HKV.out.below HB.out, HKN.out.trans (Kn.below HB.out)⟩

/-- The store with which each larder begins. -/
def s1 : Sv := ⟨0, [], [], [⟨13, 9, 100, 1, 5, 5, 0, 0, 0, 0, []⟩], frmB (Pl.cmdB 2 [13, 9, 5, 100])⟩
def s2 : Sv := ⟨0, [], [], [⟨13, 9, 100, 1, 5, 3, 0, 0, 0, 2, []⟩, ⟨14, 9, 100, 2, 2, 2, 0, 0, 0, 0, [(13, 2)]⟩], frmB (Pl.cmdB 2 [13, 9, 5, 100]) ++ frmB (Pl.cmdB 3 [13, 14, 2])⟩
theorem s2_lg : s2.lg.length ≤ 200 := by
  have h1 := lgC_len [] [0] 2 [13, 9, 5, 100] (by simp) (by intro n hn; simp at hn; omega)
  have h2 := lgC_len [] [0] 3 [13, 14, 2] (by simp) (by intro n hn; simp at hn; omega)
  simp [lgC] at h1 h2
  show (frmB (Pl.cmdB 2 [13, 9, 5, 100]) ++ frmB (Pl.cmdB 3 [13, 14, 2])).length ≤ 200
  rw [List.length_append]; omega
theorem s1_step : stepV ⟨0, [], [], [], []⟩ (.ok (2, [13, 9, 5, 100])) = s1 ∧ repV ⟨0, [], [], [], []⟩ (.ok (2, [13, 9, 5, 100])) = [0] := ⟨by kernel_rfl, by kernel_rfl⟩
theorem s2_step : stepV s1 (.ok (3, [13, 14, 2])) = s2 ∧ repV s1 (.ok (3, [13, 14, 2])) = [0] := ⟨by kernel_rfl, by kernel_rfl⟩
theorem s2_look13 : lookE s2 13 = 0 ∧ lookN s2 13 = [9, 100, 1, 5, 3, 0, 0, 0, 2, 0] := by decide
theorem s2_look14 : lookE s2 14 = 0 ∧ lookN s2 14 = [9, 100, 2, 2, 2, 0, 0, 0, 0, 0] := by decide
theorem s2_sup : supL s2.rcs s2.td 8 0 s2.ls = [0, 0] := by decide

end Go.Proofs.YtgcedalggnmooabGreatDoor
