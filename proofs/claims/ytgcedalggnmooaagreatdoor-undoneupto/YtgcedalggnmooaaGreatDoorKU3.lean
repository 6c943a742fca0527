import Derived.Test.YtgcedalggnmooaaGreatDoorKU1
import Derived.Test.YtgcedalggnmooaaGreatDoorKU2
import Derived.Test.YtgcedalggnmooaaGreatDoorKV
namespace Go.Proofs.YtgcedalggnmooaaGreatDoor
set_option linter.unusedSimpArgs false
set_option linter.unusedVariables false
open Go.RowKit
set_option maxRecDepth 100000

/-- Cancel or Ship of the order 77. -/
theorem ask_end {j B : Nat} {w0 w : World} {Z : Nat → Prop} {Lb : Nat} {s : Sv} (h : Kx j B w0 w Z Lb s) (hj : j ≤ 1000) (c : Nat) (hc : c = 6 ∨ c = 7) (x : Nat) (hx : x ≤ 255) (s' : Sv) (hr : repV s (.ok (c, [77])) = UInt8.ofNat x :: Pl.toldB [] ∧ stepZ s (.ok (c, [77])) = s') :
    Calls Tryz.prog 25 #[.pointer (some ⟨Lb, 0, none⟩), .int .i64 (c : Int), .slice (some ⟨w.heap.size, 0, none⟩) 1 1] (w.alloc (.cells #[.int .i64 77] 3)) fun e w' => ∃ Z' v, e = .returned (.tuple #[.int .i64 (x : Int), v]) ∧ Kx (j + 1) B w0 w' Z' Lb s' ∧ Kn Z w Z' w' := by
  have : Calls Tryz.prog 25 #[.pointer (some ⟨Lb, 0, none⟩), .int .i64 (c : Int), .slice (some ⟨w.heap.size, 0, none⟩) 1 1] (w.alloc (.cells (I [77]).toArray 3)) fun e w' => ∃ Z' v, e = .returned (.tuple #[.int .i64 (x : Int), v]) ∧ Kx (j + 1) B w0 w' Z' Lb (stepZ s (.ok (c, [77]))) ∧ Kn Z w Z' w' ∧ w'.ownsRow w.heap.size 3 1 v ([] : List Nat).length (I []) ∧ ∀ q, v.ownBlock = some q → ¬ Z' q :=
    ask_litx h hj c (by omega) (by omega) [77] (by rcases hc with rfl | rfl <;> rfl) (by simp) (by rcases hc with rfl | rfl <;> decide) x [] hx hr.1 (by simp) (by simp)
  rw [hr.2] at this
  refine this.mono ?_
  rintro e w' ⟨Z', v, h1, h2, h3, _, _⟩
  exact ⟨Z', v, h1, h2, h3⟩

/-- The order 77. -/
theorem ask_ord {j B : Nat} {w0 w : World} {Z : Nat → Prop} {Lb : Nat} {s : Sv} (h : Kx j B w0 w Z Lb s) (hj : j ≤ 1000) (lb : Nat) (g c y : Nat) (hg : 1 ≤ g ∧ g ≤ 3) (hc : 1 ≤ c ∧ c ≤ 400) (hy : y ≤ 3) (hcl : Cl w lb [77, g, c, 0, y]) :
    Calls Tryz.prog 25 #[.pointer (some ⟨Lb, 0, none⟩), .int .i64 5, .slice (some ⟨lb, 0, none⟩) 5 5] w fun e w' => ∃ Z' v, e = .returned (.tuple #[.int .i64 (eO s g c y : Int), v]) ∧ Kx (j + 1) B w0 w' Z' Lb (sO s g c y) ∧ Kn Z w Z' w' ∧ w'.ownsRow w.heap.size 3 1 v (tO s g c y).length (I (tO s g c y)) ∧ ∀ q, v.ownBlock = some q → ¬ Z' q := by
  obtain ⟨e1, e2⟩ := ord_step s g c y
  obtain ⟨t1, t2⟩ := tO_smallx h g c y
  have := ask_anyx h hj 5 (by omega) (by omega) lb 5 [77, g, c, 0, y] hcl rfl (by intro n hn; simp at hn; omega) (by simp [Pl.mays, Pl.kindsL, Pl.mayB]; omega) (eO s g c y) (tO s g c y) (by have := askC_le (rcs := s.rcs) s.os s.td s.ls 77 g c 0 y; unfold eO; omega) e1 t1 (by omega)
  rw [e2] at this
  exact this

def wasF (s : Sv) (j : Nat) : Nat := if lookE s j = 0 then (lookN s j).getD 6 0 else 0
theorem look_zero {s : Sv} {j : Nat} (h : lookE s j = 0) : (lookN s j).length = 10 := by
  unfold lookE at h
  unfold lookN
  by_cases hi : idx j s.ls < s.ls.length
  · rw [if_pos hi]; rfl
  · rw [if_neg hi] at h; omega

/-- What stands behind the second order: the larder, the row m, the row was. -/
structure UnI (J : Nat) (w0 : World) (Lb : Nat) (S : Sv) (m0 mc b5 wb : Nat) (rs : List Nat) (F : Nat → Value) (wx : World) (Z : Nat → Prop) : Prop where
  kv : Kx J w0.heap.size w0 wx Z Lb S
  row : wx.ownsRow b5 3 1 (.slice (some ⟨m0, 0, none⟩) rs.length mc) rs.length (I rs)
  mz : ¬ Z m0
  was : R14 3 wx wb F
  wz : ¬ Z wb
  ne : m0 ≠ wb
  base : w0.heap.size ≤ wb
theorem UnI.kn {J J' : Nat} {w0 : World} {Lb : Nat} {S S' : Sv} {m0 mc b5 wb : Nat} {rs : List Nat} {F : Nat → Value} {wx w2 : World} {Z Z2 : Nat → Prop} (h : UnI J w0 Lb S m0 mc b5 wb rs F wx Z) (hk : Kx J' w0.heap.size w0 w2 Z2 Lb S') (hn : Kn Z wx Z2 w2) : UnI J' w0 Lb S' m0 mc b5 wb rs F w2 Z2 := by
  have h1 := hn.own h.row (fun g hg => by simp [Value.ownBlock] at hg; subst hg; exact h.mz)
  have h2 := h.was.kn h.wz hn
  exact ⟨hk, h1.1, h1.2 m0 rfl, h2.1, h2.2, h.ne, h.base⟩
theorem UnI.set {J : Nat} {w0 : World} {Lb : Nat} {S : Sv} {m0 mc b5 wb : Nat} {rs : List Nat} {F : Nat → Value} {wx : World} {Z : Nat → Prop} (h : UnI J w0 Lb S m0 mc b5 wb rs F wx Z) (i : Nat) (hi : i < 14) (x : Value) : UnI J w0 Lb S m0 mc b5 wb rs (fun j => if j = i then x else F j) (wx.setCell ⟨wb, i, none⟩ x) Z := by
  refine ⟨h.kv.setC h.wz h.base i x, own_congr h.row (fun g hg => ?_), h.mz, h.was.set i hi x, h.wz, h.ne, h.base⟩
  simp [Value.ownBlock] at hg; subst hg
  exact Below.heap_setCell _ _ _ _ h.ne
theorem UnI.cell {J : Nat} {w0 : World} {Lb : Nat} {S : Sv} {m0 mc b5 wb : Nat} {rs : List Nat} {F : Nat → Value} {wx : World} {Z : Nat → Prop} (h : UnI J w0 Lb S m0 mc b5 wb rs F wx Z) (k : Nat) (hk : k < rs.length) : wx.cell? ⟨m0, k, none⟩ = some (.int .i64 ((rs.getD k 0 : Nat) : Int)) := ownInts_cell h.row k hk
theorem UnI.fill {J : Nat} {w0 : World} {Lb : Nat} {S : Sv} {m0 mc b5 wb : Nat} {rs : List Nat} {F : Nat → Value} {wx : World} {Z : Nat → Prop} (h : UnI J w0 Lb S m0 mc b5 wb rs F wx Z) {G : Nat → Value} (e : F = G) : UnI J w0 Lb S m0 mc b5 wb rs G wx Z := e ▸ h

set_option maxHeartbeats 3200000 in
theorem undone_any (a0 : Option Addr) (len cap : Nat) (hlen : len ≤ 2097152) (X : Nat → Nat → Int) (kv cv yv : Int) (hk0 : Raw kv) (hc0 : Raw cv) (hy0 : Raw yv) (w : World) (hg : Gl w) (hx : 0 < len → ∃ b off, a0 = some ⟨b, off, none⟩ ∧ Scr w b off len X) :
    Calls Tryz.prog 13 #[.slice a0 len cap, .int .i64 kv, .int .i64 cv, .int .i64 yv] w fun e w' => e = .returned (.bool true) ∧ Below w.heap.size w w' := by
  have HPL := hide (played_any a0 len cap hlen X w hg hx)
  have HID := hide (id_any kv hk0 3 (by omega) (by omega))
  have HFW := hide (few_any cv hc0)
  have HPK := hide (pick_any yv hy0 4 (by omega) (by omega))
  have hgb : 1 ≤ 1 + pk kv 3 ∧ 1 + pk kv 3 ≤ 3 := by have := pk_lt kv (n := 3) (by omega); omega
  have hcb : 1 ≤ 1 + pk cv 400 ∧ 1 + pk cv 400 ≤ 400 := by have := pk_lt cv (n := 400) (by omega); omega
  have hyb : pk yv 4 ≤ 3 := by have := pk_lt yv (n := 4) (by omega); omega
  have HID' : Hid (∀ w, Calls Tryz.prog 26 #[.int .i64 kv, .int .i64 3] w fun e w' => e = .returned (.int .i64 ((1 + pk kv 3 : Nat) : Int)) ∧ w' = w) := fun w => HID.out w
  have HPK' : Hid (∀ w, Calls Tryz.prog 28 #[.int .i64 yv, .int .i64 4] w fun e w' => e = .returned (.int .i64 (pk yv 4 : Int)) ∧ w' = w) := fun w => HPK.out w
  clear HID HPK hg hx hk0 hc0 hy0
  generalize 1 + pk kv 3 = g at *
  generalize 1 + pk cv 400 = c at *
  generalize pk yv 4 = y at *
  have hmk := mk14
  go_enter Tryz.func13, Tryz.ntmps13
  go_wp2_with (go_at_call 32; refine (HPL.out).mono ?_; rintro e w1 ⟨Lb, Z1, s, rfl, hkv1, hsc1, hslg⟩; clear HPL)
  have HSC := hide hsc1
  have HL1 := hide (looked_x (j := 0) (Kx.of hkv1 (by omega)))
  have HL2 : Hid (∀ (w2 : World) (Z2 : Nat → Prop), Kx 2 w.heap.size w w2 Z2 Lb s → Calls Tryz.prog 33 #[.pointer (some ⟨Lb, 0, none⟩)] w2 fun e w' => e = .returned (.string ⟨(spB s 9).toArray⟩) ∧ ∃ Z', Kx 2 w.heap.size w w' Z' Lb s ∧ Kn Z2 w2 Z' w') := fun w2 Z2 h2 => looked_x h2
  generalize (⟨(spB s 9).toArray⟩ : ByteArray) = T at HL1 HL2
  have HOR : Hid (∀ (w2 : World) (Z2 : Nat → Prop), Kx 0 w.heap.size w w2 Z2 Lb s → Calls Tryz.prog 25 #[.pointer (some ⟨Lb, 0, none⟩), .int .i64 5, .slice (some ⟨w2.heap.size, 0, none⟩) 5 5] (w2.alloc (.cells #[.int .i64 77, .int .i64 (g : Int), .int .i64 (c : Int), .int .i64 0, .int .i64 (y : Int)] 3)) fun e w' => ∃ Z' v, e = .returned (.tuple #[.int .i64 (eO s g c y : Int), v]) ∧ Kx 1 w.heap.size w w' Z' Lb (sO s g c y) ∧ w'.ownsRow w2.heap.size 3 1 v (tO s g c y).length (I (tO s g c y)) ∧ (∀ q, v.ownBlock = some q → ¬ Z' q) ∧ Cl w' w2.heap.size [77, g, c, 0, y] ∧ ¬ Z' w2.heap.size) := fun w2 Z2 h2 => by
    have hal : Below w2.heap.size w2 (w2.alloc (.cells (I [77, g, c, 0, y]).toArray 3)) := al1 w2 _
    have hcl := cl_lit w2 [77, g, c, 0, y]
    have hnz : ¬ Z2 w2.heap.size := fun hz => by have := (h2.zin _ hz).2; omega
    have : Calls Tryz.prog 25 #[.pointer (some ⟨Lb, 0, none⟩), .int .i64 5, .slice (some ⟨w2.heap.size, 0, none⟩) 5 5] (w2.alloc (.cells (I [77, g, c, 0, y]).toArray 3)) fun e w' => ∃ Z' v, e = .returned (.tuple #[.int .i64 (eO s g c y : Int), v]) ∧ Kx 1 w.heap.size w w' Z' Lb (sO s g c y) ∧ w'.ownsRow w2.heap.size 3 1 v (tO s g c y).length (I (tO s g c y)) ∧ (∀ q, v.ownBlock = some q → ¬ Z' q) ∧ Cl w' w2.heap.size [77, g, c, 0, y] ∧ ¬ Z' w2.heap.size := by
      refine (ask_ord (h2.below hal) (by omega) w2.heap.size g c y hgb hcb hyb hcl).mono ?_
      rintro e w' ⟨Z', v, q1, q2, q3, q4, q5⟩
      obtain ⟨k1, k2⟩ := q3.cl hcl hnz
      exact ⟨Z', v, q1, q2, own_weaken q4 (by simp), q5, k1, k2⟩
    exact this
  have HOR2 : Hid (∀ (w2 : World) (Z2 : Nat → Prop) (lb : Nat), Kx 2 w.heap.size w w2 Z2 Lb s → Cl w2 lb [77, g, c, 0, y] → Calls Tryz.prog 25 #[.pointer (some ⟨Lb, 0, none⟩), .int .i64 5, .slice (some ⟨lb, 0, none⟩) 5 5] w2 fun e w' => ∃ Z' v, e = .returned (.tuple #[.int .i64 (eO s g c y : Int), v]) ∧ Kx 3 w.heap.size w w' Z' Lb (sO s g c y) ∧ Kn Z2 w2 Z' w' ∧ w'.ownsRow w2.heap.size 3 1 v (tO s g c y).length (I (tO s g c y)) ∧ (∀ q, v.ownBlock = some q → ¬ Z' q)) := fun w2 Z2 lb h2 hcl => ask_ord h2 (by omega) lb g c y hgb hcb hyb hcl
  have hEle : eO s g c y ≤ 9 := askC_le (rcs := s.rcs) s.os s.td s.ls 77 g c 0 y
  have HTS := hide (tO_small hkv1 g c y)
  have hNle := (tO_small hkv1 g c y).2
  by_cases h0 : eO s g c y = 0
  · have HLN : Hid (∀ j, j < (qO s g c y).length → ∃ lot n sh : Nat, 1 ≤ lot ∧ lot ≤ 12 ∧ (tO s g c y).getD (1 + 2 * j) 0 = lot ∧ (tO s g c y).getD (1 + 2 * j + 1) 0 = n ∧ lookE (sO s g c y) lot = 0 ∧ (lookN (sO s g c y) lot).length = 10 ∧ (lookN (sO s g c y) lot).getD 6 0 = sh ∧ lookE (sH s g c y) lot = 0 ∧ (lookN (sH s g c y) lot).length = 10 ∧ (lookN (sH s g c y) lot).getD 6 0 = sh + n) := fun j hj => line_look hkv1 hsc1 g c y hgb.2 h0 j hj
    have HTN := hide (tO_len s g c y h0)
    have HCB := hide (can_back hkv1 hsc1 g c y h0)
    have HSS := hide (ship_step hsc1 g c y h0)
    have HCA : Hid (∀ (w2 : World) (Z2 : Nat → Prop), Kx 1 w.heap.size w w2 Z2 Lb (sO s g c y) → Calls Tryz.prog 25 #[.pointer (some ⟨Lb, 0, none⟩), .int .i64 6, .slice (some ⟨w2.heap.size, 0, none⟩) 1 1] (w2.alloc (.cells #[.int .i64 77] 3)) fun e w' => ∃ Z' v, e = .returned (.tuple #[.int .i64 0, v]) ∧ Kx 2 w.heap.size w w' Z' Lb s ∧ Kn Z2 w2 Z' w') := fun w2 Z2 h2 => ask_end h2 (by omega) 6 (Or.inl rfl) 0 (by omega) s HCB.out
    have HSH : Hid (∀ (w2 : World) (Z2 : Nat → Prop), Kx 3 w.heap.size w w2 Z2 Lb (sO s g c y) → Calls Tryz.prog 25 #[.pointer (some ⟨Lb, 0, none⟩), .int .i64 7, .slice (some ⟨w2.heap.size, 0, none⟩) 1 1] (w2.alloc (.cells #[.int .i64 77] 3)) fun e w' => ∃ Z' v, e = .returned (.tuple #[.int .i64 0, v]) ∧ Kx 4 w.heap.size w w' Z' Lb (sH s g c y) ∧ Kn Z2 w2 Z' w') := fun w2 Z2 h2 => ask_end h2 (by omega) 7 (Or.inr rfl) 0 (by omega) (sH s g c y) HSS.out
    have HCN : Hid (∀ (w2 : World) (Z2 : Nat → Prop), Kx 4 w.heap.size w w2 Z2 Lb (sH s g c y) → Calls Tryz.prog 25 #[.pointer (some ⟨Lb, 0, none⟩), .int .i64 6, .slice (some ⟨w2.heap.size, 0, none⟩) 1 1] (w2.alloc (.cells #[.int .i64 77] 3)) fun e w' => ∃ Z' v, e = .returned (.tuple #[.int .i64 9, v]) ∧ Kx 5 w.heap.size w w' Z' Lb (sH s g c y) ∧ Kn Z2 w2 Z' w') := fun w2 Z2 h2 => ask_end h2 (by omega) 6 (Or.inl rfl) 9 (by omega) (sH s g c y) (can_none (s := sH s g c y) HSC.out.os)
    rw [h0] at HOR HOR2
    rw [show ((0 : Nat) : Int) = 0 from rfl] at HOR HOR2
    generalize hrs : tO s g c y = rs at *
    have hN1 : 1 ≤ rs.length := by have := HTN.out; omega
    obtain ⟨N, hN⟩ : ∃ N, N = rs.length := ⟨_, rfl⟩
    have HNE := hide hN
    rw [← hN] at HOR HOR2 hNle hN1
    generalize hS1 : sO s g c y = S1 at *
    generalize hS2 : sH s g c y = S2 at *
    generalize hnq : (qO s g c y).length = nq at *
    clear hrs hS1 hS2 hnq hkv1 hsc1 HCB HSS h0 hEle hN
    go_wp2_with (go_at_call 33; refine (HL1.out).mono ?_; rintro e w2 ⟨rfl, Z2, hkv2, _⟩; have HO2 := hide (HOR.out w2 Z2 hkv2); clear hkv2 HL1 HOR)
    go_wp2_with (first | (go_at_call 26; refine (HID'.out _).mono ?_; rintro e w3 ⟨rfl, hw⟩; have hw' := hw.symm; subst hw'; clear hw) | (go_at_call 27; refine (HFW.out _).mono ?_; rintro e w3 ⟨rfl, hw⟩; have hw' := hw.symm; subst hw'; clear hw) | (go_at_call 28; refine (HPK'.out _).mono ?_; rintro e w3 ⟨rfl, hw⟩; have hw' := hw.symm; subst hw'; clear hw) | (go_at_call 25; with_reducible refine (HO2.out).mono ?_; rintro e w3 ⟨Z3, v, rfl, hkv3, hrow3, hnz3, hcl3, hlz3⟩))
    have HC4 := hide (HCA.out w3 Z3 hkv3)
    have HW3 := hide (show w3.ownsRow w2.heap.size 3 1 v N (I rs) ∧ (∀ q, v.ownBlock = some q → ¬ Z3 q) ∧ Cl w3 w2.heap.size [77, g, c, 0, y] ∧ ¬ Z3 w2.heap.size from ⟨hrow3, hnz3, hcl3, hlz3⟩)
    obtain ⟨n0, nc, hv, _, _⟩ := own_some hrow3 (by omega)
    subst hv
    clear hkv3 hrow3 hnz3 hcl3 hlz3 HO2 HCA
    refine (HC4.out).mono ?_
    rintro e w4 ⟨Z4, v4, rfl, hkv4, hkn4⟩
    have HW4 := hide (show w4.ownsRow w2.heap.size 3 1 (.slice (some ⟨n0, 0, none⟩) N nc) N (I rs) ∧ (∀ q, (Value.slice (some ⟨n0, 0, none⟩) N nc).ownBlock = some q → ¬ Z4 q) ∧ Cl w4 w2.heap.size [77, g, c, 0, y] ∧ ¬ Z4 w2.heap.size from ⟨(hkn4.own HW3.out.1 HW3.out.2.1).1, (hkn4.own HW3.out.1 HW3.out.2.1).2, (hkn4.cl HW3.out.2.2.1 HW3.out.2.2.2).1, (hkn4.cl HW3.out.2.2.1 HW3.out.2.2.2).2⟩)
    have HL4 := hide (HL2.out w4 Z4 hkv4)
    clear hkv4 hkn4 HW3 HC4 HL2
    go_wp2_with fail
    refine (HL4.out).mono ?_
    rintro e w5 ⟨rfl, Z5, hkv5, hkn5⟩
    have HW5 := hide (show w5.ownsRow w2.heap.size 3 1 (.slice (some ⟨n0, 0, none⟩) N nc) N (I rs) ∧ (∀ q, (Value.slice (some ⟨n0, 0, none⟩) N nc).ownBlock = some q → ¬ Z5 q) ∧ Cl w5 w2.heap.size [77, g, c, 0, y] ∧ ¬ Z5 w2.heap.size from ⟨(hkn5.own HW4.out.1 HW4.out.2.1).1, (hkn5.own HW4.out.1 HW4.out.2.1).2, (hkn5.cl HW4.out.2.2.1 HW4.out.2.2.2).1, (hkn5.cl HW4.out.2.2.1 HW4.out.2.2.2).2⟩)
    have HO5 := hide (HOR2.out w5 Z5 w2.heap.size hkv5 HW5.out.2.2.1)
    clear hkv5 hkn5 HW4 HL4 HOR2
    go_wp2_with fail
    refine (HO5.out).mono ?_
    rintro e w6 ⟨Z6, v6, rfl, hkv6, hkn6, hrow6, hnz6⟩
    obtain ⟨m0, mc, hv, _, hm0⟩ := own_some hrow6 (by omega)
    subst hv
    have HW6 := hide (show w6.ownsRow w2.heap.size 3 1 (.slice (some ⟨n0, 0, none⟩) N nc) N (I rs) ∧ w6.ownsRow w5.heap.size 3 1 (.slice (some ⟨m0, 0, none⟩) N mc) N (I rs) ∧ Kx 3 w.heap.size w w6 Z6 Lb S1 ∧ ¬ Z6 m0 from ⟨(hkn6.own HW5.out.1 HW5.out.2.1).1, hrow6, hkv6, hnz6 m0 rfl⟩)
    have hn0 : n0 < w6.heap.size := ((hkn6.own HW5.out.1 HW5.out.2.1).1.lt n0 rfl).2
    clear hkv6 hkn6 hrow6 hnz6 HW5 HO5
    have HBW : Hid (w.heap.size ≤ w6.heap.size) := HW6.out.2.2.1.size
    go_wp2_with fail
    go_loopw [20] (fun ii wr => ∃ k : Nat, k ≤ N ∧ ii = .int .i64 k ∧ Below w6.heap.size w6 wr) (fun ii _ => N - (intOf ii).toNat)
    case atStart => exact ⟨0, by omega, rfl, Below.refl _ _⟩
    case round =>
      obtain ⟨k, hk, rfl, hb⟩ := hrel
      by_cases hlt : k < N
      · have hNE := HNE.out
        have c1 := (hb.cell (p := ⟨n0, k, none⟩) hn0).trans (ownInts_cell (by rw [← hNE]; exact HW6.out.1) k (by omega))
        have c2 := (hb.cell (p := ⟨m0, k, none⟩) hm0).trans (ownInts_cell (by rw [← hNE]; exact HW6.out.2.1) k (by omega))
        have hxb : rs.getD k 0 < 9223372036854775808 := HTS.out.1 _ (by simp [List.getD_eq_getElem?_getD, show k < rs.length by omega])
        generalize rs.getD k 0 = x at *
        have HB := hide hb
        clear hb hNE
        go_wp2_with fail
        go_quiet (fail)
        go_wp2_with fail
        go_roundw
        case rel => exact ⟨k + 1, by omega, by go_num, below_drewN HB.out nq⟩
        case measure => simp [intOf]; omega
      · have hkN : N = k := by omega
        subst hkN
        have HIN : Hid (UnI 3 w Lb S1 m0 mc w5.heap.size wr.heap.size rs (upF 0 (fun i => .int .i64 (wasF S1 i : Int)) (.int .i64 0)) (wr.alloc (.cells (z14 (.int .i64 0)) 3)) Z6) := by
          have hkn : Kn Z6 w6 Z6 (wr.alloc (.cells (z14 (.int .i64 0)) 3)) := (Kn.below hb).trans (Kn.below (al1 wr _))
          have hm := hkn.own HW6.out.2.1 (fun g hg => by simp [Value.ownBlock] at hg; subst hg; exact HW6.out.2.2.2)
          have hsz := hb.size
          refine ⟨(HW6.out.2.2.1.below hb).below (al1 wr _), ?_, HW6.out.2.2.2, ?_, ?_, by omega, Nat.le_trans HBW.out hsz⟩
          · have := hm.1
            rw [HNE.out] at this; exact this
          · rw [upF_zero]; exact mk14_row wr
          · exact fun hz => by have := (HW6.out.2.2.1.zin _ hz).2; omega
        obtain ⟨b5, HB5⟩ : ∃ b5, Hid (b5 = w5.heap.size) := ⟨_, rfl⟩
        obtain ⟨wb, HWB⟩ : ∃ wb, Hid (wb = wr.heap.size) := ⟨_, rfl⟩
        rw [← HB5.out] at HIN
        clear hlt hb HB5 HW6 hk
        go_wp2_with fail
        rw [← HWB.out]
        rw [← HWB.out] at HIN
        obtain ⟨wq, HWQ⟩ : ∃ wq, Hid (wq = wr.alloc (.cells (z14 (.int .i64 0)) 3)) := ⟨_, rfl⟩
        rw [← HWQ.out]
        rw [← HWQ.out] at HIN
        clear HWQ HWB
        go_loopw [22, 23, 24] (fun ii _ _ wx => ∃ (k : Nat) (Z' : Nat → Prop), ii = .int .i64 ((k + 1 : Nat) : Int) ∧ k ≤ 13 ∧ UnI 3 w Lb S1 m0 mc b5 wb rs (upF k (fun i => .int .i64 (wasF S1 i : Int)) (.int .i64 0)) wx Z') (fun ii _ _ _ => 14 - (intOf ii).toNat)
        case atStart => exact ⟨0, Z6, rfl, by omega, HIN.out⟩
        case round =>
          clear HIN
          obtain ⟨k, Z7, rfl, hk, hun⟩ := hrel
          by_cases hlt : k < 13
          · by_cases he : lookE S1 (k + 1) = 0
            · have HLK : Hid (Calls Tryz.prog 25 #[.pointer (some ⟨Lb, 0, none⟩), .int .i64 11, .slice (some ⟨wr.heap.size, 0, none⟩) 1 1] (wr.alloc (.cells #[.int .i64 ((k + 1 : Nat) : Int)] 3)) fun e w' => ∃ Z' q qc, e = .returned (.tuple #[.int .i64 0, .slice (some ⟨q, 0, none⟩) 10 qc]) ∧ UnI 3 w Lb S1 m0 mc b5 wb rs (upF k (fun i => .int .i64 (wasF S1 i : Int)) (.int .i64 0)) w' Z' ∧ w'.cell? ⟨q, 6, none⟩ = some (.int .i64 ((lookN S1 (k + 1)).getD 6 0 : Int))) := (look_numx hun.kv (k + 1) (by omega) (by omega) he).mono (fun e w' hh => by obtain ⟨Z', q, qc, q1, q2, q3, q4, q5, q6⟩ := hh; exact ⟨Z', q, qc, q1, hun.kn q2 q3, q6 6 (by omega)⟩)
              have hF : (wasF S1 (k + 1) : Int) = ((lookN S1 (k + 1)).getD 6 0 : Int) := by unfold wasF; rw [if_pos he]
              have HNX : Hid (∀ (w2 : World) (Z2 : Nat → Prop), UnI 3 w Lb S1 m0 mc b5 wb rs (upF k (fun i => .int .i64 (wasF S1 i : Int)) (.int .i64 0)) w2 Z2 → UnI 3 w Lb S1 m0 mc b5 wb rs (upF (k + 1) (fun i => .int .i64 (wasF S1 i : Int)) (.int .i64 0)) (w2.setCell ⟨wb, k + 1, none⟩ (.int .i64 ((lookN S1 (k + 1)).getD 6 0 : Int))) Z2) := fun w2 Z2 h2 => by
                have := h2.set (k + 1) (by omega) (.int .i64 ((lookN S1 (k + 1)).getD 6 0 : Int))
                rw [← hF] at this ⊢
                exact this.fill (upF_succ k (fun i => .int .i64 (wasF S1 i : Int)) (.int .i64 0))
              have hxb := lookN_ltx hun.kv (k + 1) 6
              generalize (lookN S1 (k + 1)).getD 6 0 = x at *
              clear hun hF
              go_wp2_with (go_at_call 25; refine (HLK.out).mono ?_; rintro e w7 ⟨Z8, q, qc, rfl, hu7, c6⟩; have HU7 := hide (HNX.out w7 Z8 hu7); have hx0 := hu7.was.cell (k + 1) (by omega); obtain ⟨cs, hcs, _, _⟩ := hu7.was; have f0 := blk_free hcs (k + 1); clear hcs hu7)
              go_roundw
              case rel => exact ⟨k + 1, Z8, by go_num, by omega, HU7.out⟩
              case measure => simp [intOf]; omega
            · have HLK : Hid (Calls Tryz.prog 25 #[.pointer (some ⟨Lb, 0, none⟩), .int .i64 11, .slice (some ⟨wr.heap.size, 0, none⟩) 1 1] (wr.alloc (.cells #[.int .i64 ((k + 1 : Nat) : Int)] 3)) fun e w' => ∃ Z' v, e = .returned (.tuple #[.int .i64 4, v]) ∧ UnI 3 w Lb S1 m0 mc b5 wb rs (upF (k + 1) (fun i => .int .i64 (wasF S1 i : Int)) (.int .i64 0)) w' Z') := (look_nox hun.kv (k + 1) (by omega) (by omega) he).mono (fun e w' hh => by
                obtain ⟨Z', v, q1, q2, q3⟩ := hh
                exact ⟨Z', v, q1, (hun.kn q2 q3).fill (upF_skip (f := fun i => .int .i64 (wasF S1 i : Int)) (by show Value.int .i64 (wasF S1 (k + 1) : Int) = _; unfold wasF; rw [if_neg he]; rfl))⟩)
              clear hun
              go_wp2_with (go_at_call 25; refine (HLK.out).mono ?_; rintro e w7 ⟨Z8, v7, rfl, hu7⟩; have HU7 := hide hu7; clear hu7)
              go_roundw
              case rel => exact ⟨k + 1, Z8, by go_num, by omega, HU7.out⟩
              case measure => simp [intOf]; omega
          · obtain rfl : k = 13 := by omega
            rw [show ((13 + 1 : Nat) : Int) = 14 from rfl]
            have HS7 := hide (HSH.out wr Z7 hun.kv)
            have HUN := hide hun
            clear hun hlt HSH hk
            go_wp2_with fail
            refine (HS7.out).mono ?_
            rintro e w7 ⟨Z8, v7, rfl, hkv7, hkn7⟩
            have HU7 := hide (HUN.out.kn hkv7 hkn7)
            clear hkv7 hkn7 HUN HS7
            have HN2 : Hid (N = 1 + 2 * nq) := HNE.out.trans HTN.out
            go_wp2_with fail
            go_loopw [27, 28, 29] (fun kk _ _ wx => ∃ (j κ : Nat) (Z' : Nat → Prop), kk = .int .i64 (κ : Int) ∧ κ = 1 + 2 * j ∧ j ≤ nq ∧ UnI 4 w Lb S2 m0 mc b5 wb rs (upF 13 (fun i => .int .i64 (wasF S1 i : Int)) (.int .i64 0)) wx Z') (fun kk _ _ _ => N + 2 - (intOf kk).toNat)
            case atStart => exact ⟨0, 1, Z8, rfl, rfl, by omega, HU7.out⟩
            case round =>
              clear HU7
              obtain ⟨j, κ, Z9, rfl, hκ, hj, hun⟩ := hrel
              by_cases hlt : j < nq
              · obtain ⟨lot, n, sh, hl1, hl2, ht1, ht2, hE1, hN1', hs1, hE2, hN2', hs2⟩ := HLN.out j hlt
                rw [← hκ] at ht1 ht2
                have hκl : κ + 1 < rs.length := by have := HTN.out; omega
                have hκN : κ + 1 < N := by have := HN2.out; omega
                have HKA := hide hκ
                have hwas : wasF S1 lot = sh := by unfold wasF; rw [if_pos hE1]; exact hs1
                have hup : upF 13 (fun i => .int .i64 (wasF S1 i : Int)) (.int .i64 0) lot = .int .i64 (sh : Int) := by unfold upF; rw [if_pos ⟨hl1, by omega⟩]; show Value.int .i64 (wasF S1 lot : Int) = _; rw [hwas]
                have HLK : Hid (Calls Tryz.prog 25 #[.pointer (some ⟨Lb, 0, none⟩), .int .i64 11, .slice (some ⟨wr.heap.size, 0, none⟩) 1 1] (wr.alloc (.cells #[.int .i64 (lot : Int)] 3)) fun e w' => ∃ Z' q qc, e = .returned (.tuple #[.int .i64 0, .slice (some ⟨q, 0, none⟩) 10 qc]) ∧ UnI 4 w Lb S2 m0 mc b5 wb rs (upF 13 (fun i => .int .i64 (wasF S1 i : Int)) (.int .i64 0)) w' Z' ∧ w'.cell? ⟨q, 6, none⟩ = some (.int .i64 ((sh + n : Nat) : Int)) ∧ w'.cell? ⟨m0, κ, none⟩ = some (.int .i64 (lot : Int)) ∧ w'.cell? ⟨m0, κ + 1, none⟩ = some (.int .i64 (n : Int)) ∧ w'.cell? ⟨wb, lot, none⟩ = some (.int .i64 (sh : Int))) := (look_numx hun.kv lot hl1 (by omega) hE2).mono (fun e w' hh => by
                  obtain ⟨Z', q, qc, q1, q2, q3, q4, q5, q6⟩ := hh
                  have hu := hun.kn q2 q3
                  have e6 := q6 6 (by omega)
                  have e1 := hu.cell κ (by omega)
                  have e2 := hu.cell (κ + 1) hκl
                  have e3 := hu.was.cell lot (by omega)
                  rw [hs2] at e6; rw [ht1] at e1; rw [ht2] at e2; rw [hup] at e3
                  exact ⟨Z', q, qc, q1, hu, e6, e1, e2, e3⟩)
                have cm := hun.cell κ (by omega)
                rw [ht1] at cm
                have hsb : sh + n < 9223372036854775808 := by rw [← hs2]; exact lookN_ltx hun.kv lot 6
                clear hun ht1 ht2 hE1 hN1' hs1 hE2 hN2' hs2 hwas hup hκl hκ
                go_wp2_with (go_at_call 25; refine (HLK.out).mono ?_; rintro e w8 ⟨Z10, q, qc, rfl, hu8, c6, cm1, cm2, cw⟩; have HU8 := hide hu8; clear hu8)
                have hg13 : decide ((13 : Int) < (lot : Int)) = false := decide_eq_false (by omega)
                have hsn : (((sh + n : Nat) : Int) != (sh : Int) + (n : Int)) = false := by rw [bne_eq_false_iff_eq]; omega
                go_quiet (fail)
                go_wp2_with fail
                go_roundw
                case rel => exact ⟨j + 1, κ + 2, Z10, by go_num, by have := HKA.out; omega, by omega, HU8.out.kn (HU8.out.kv.below (below_drewN (Below.refl _ _) nq)) (Kn.below (below_drewN (Below.refl _ _) nq))⟩
                case measure => simp [intOf]; omega
              · obtain rfl : j = nq := by omega
                have hκN : ¬ κ + 1 < N := by have := HN2.out; omega
                have hκb : κ ≤ 61 := by have := HN2.out; omega
                have HC9 := hide (HCN.out wr Z9 hun.kv)
                clear hun hlt hκ
                go_wp2_with fail
                refine (HC9.out).mono ?_
                rintro e w9 ⟨Z11, v9, rfl, hkv9, _⟩
                have HK9 := hide hkv9.old
                clear hkv9 HC9
                go_wp2_with fail
                go_ret
                exact ⟨rfl, HK9.out⟩
  · have hsO : sO s g c y = s := by unfold sO; rw [if_neg h0]
    have htO : tO s g c y = [] := by unfold tO; rw [if_neg h0]
    rw [hsO, htO] at HOR HOR2
    have HCA : Hid (∀ (w2 : World) (Z2 : Nat → Prop), Kx 1 w.heap.size w w2 Z2 Lb s → Calls Tryz.prog 25 #[.pointer (some ⟨Lb, 0, none⟩), .int .i64 6, .slice (some ⟨w2.heap.size, 0, none⟩) 1 1] (w2.alloc (.cells #[.int .i64 77] 3)) fun e w' => ∃ Z' v, e = .returned (.tuple #[.int .i64 9, v]) ∧ Kx 2 w.heap.size w w' Z' Lb s ∧ Kn Z2 w2 Z' w') := fun w2 Z2 h2 => ask_end h2 (by omega) 6 (Or.inl rfl) 9 (by omega) s (can_none HSC.out.os)
    generalize eO s g c y = E at *
    have hE0 : ((E : Int) == 0) = false := by rw [beq_eq_false_iff_ne]; omega
    have hEn : ((E : Int) != 0) = true := by rw [bne_iff_ne]; omega
    clear hsO htO hkv1 hsc1 HTS hNle
    go_wp2_with (go_at_call 33; refine (HL1.out).mono ?_; rintro e w2 ⟨rfl, Z2, hkv2, _⟩; have HO2 := hide (HOR.out w2 Z2 hkv2); clear hkv2 HL1 HOR)
    go_wp2_with (first | (go_at_call 26; refine (HID'.out _).mono ?_; rintro e w3 ⟨rfl, hw⟩; have hw' := hw.symm; subst hw'; clear hw) | (go_at_call 27; refine (HFW.out _).mono ?_; rintro e w3 ⟨rfl, hw⟩; have hw' := hw.symm; subst hw'; clear hw) | (go_at_call 28; refine (HPK'.out _).mono ?_; rintro e w3 ⟨rfl, hw⟩; have hw' := hw.symm; subst hw'; clear hw) | (go_at_call 25; with_reducible refine (HO2.out).mono ?_; rintro e w3 ⟨Z3, v, rfl, hkv3, hrow3, hnz3, hcl3, hlz3⟩))
    have HC4 := hide (HCA.out w3 Z3 hkv3)
    have HW3 := hide (show Cl w3 w2.heap.size [77, g, c, 0, y] ∧ ¬ Z3 w2.heap.size from ⟨hcl3, hlz3⟩)
    obtain ⟨na, nc, hv⟩ := own_shapeV hrow3
    rw [List.length_nil] at hv
    subst hv
    clear hkv3 hrow3 hnz3 hcl3 hlz3 HO2 HCA
    refine (HC4.out).mono ?_
    rintro e w4 ⟨Z4, v4, rfl, hkv4, hkn4⟩
    have HW4 := hide (hkn4.cl HW3.out.1 HW3.out.2)
    have HL4 := hide (HL2.out w4 Z4 hkv4)
    clear hkv4 hkn4 HW3 HC4 HL2
    go_wp2_with fail
    refine (HL4.out).mono ?_
    rintro e w5 ⟨rfl, Z5, hkv5, hkn5⟩
    have HW5 := hide (hkn5.cl HW4.out.1 HW4.out.2)
    have HO5 := hide (HOR2.out w5 Z5 w2.heap.size hkv5 HW5.out.1)
    clear hkv5 hkn5 HW4 HL4 HOR2
    go_wp2_with fail
    refine (HO5.out).mono ?_
    rintro e w6 ⟨Z6, v6, rfl, hkv6, hkn6, hrow6, hnz6⟩
    obtain ⟨ma, mc, hv⟩ := own_shapeV hrow6
    rw [List.length_nil] at hv
    subst hv
    have HK6 := hide hkv6.old
    clear hkv6 hkn6 hrow6 hnz6 HW5 HO5
    go_wp2_with fail
    go_loopw [20] (fun ii wr => ii = .int .i64 0 ∧ wr = w6) (fun ii _ => 0)
    case atStart => exact ⟨rfl, rfl⟩
    case round =>
      obtain ⟨rfl, hw⟩ := hrel
      subst hw
      go_wp2_with fail
      go_ret
      exact ⟨rfl, HK6.out⟩

end Go.Proofs.YtgcedalggnmooaaGreatDoor
