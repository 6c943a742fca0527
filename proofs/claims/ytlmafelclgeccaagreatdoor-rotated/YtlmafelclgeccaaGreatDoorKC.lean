import Derived.Test.YtlmafelclgeccaaGreatDoorKB
namespace Go.Proofs.YtlmafelclgeccaaGreatDoor
set_option linter.unusedSimpArgs false
set_option linter.unusedVariables false
open Go.RowKit
set_option maxRecDepth 100000

/-- What stands behind the first j bytes, the first byte left out. -/
def decJ (s : ByteArray) (j : Nat) : List Nat × Nat × Nat := Pl.dec ((s.data.toList.take j).drop 1)
theorem decJ_one (s : ByteArray) : decJ s 1 = ([], 0, 0) := by
  unfold decJ; cases s.data.toList <;> simp [Pl.dec]
theorem decJ_succ (s : ByteArray) {j : Nat} (h1 : 1 ≤ j) (hj : j < s.size) : decJ s (j + 1) = Pl.dst (decJ s j) s[j] := by
  have hj' : j < s.data.toList.length := by simpa using hj
  unfold decJ
  rw [List.take_succ_eq_append_getElem hj', List.drop_append_of_le_length (by rw [List.length_take]; omega), Pl.dec_snoc]
  rfl

theorem own_shapeV {w : World} {base e n : Nat} {v : Value} {xs : List Value} (h : w.ownsRow base e 1 v n xs) : ∃ a cap, v = .slice a n cap := own_shape h

set_option maxHeartbeats 1600000 in
theorem knumbers_any (s : ByteArray) (hs : s.size ≤ 2097152) (w : World) :
    Calls Tryz.prog 21 #[.string s] w fun e w' => Below w.heap.size w w' ∧ ∃ v, e = .returned v ∧ w'.ownsRow w.heap.size 3 1 v (Pl.dec (s.data.toList.drop 1)).1.length (I (Pl.dec (s.data.toList.drop 1)).1) := by
  obtain ⟨i0, hi, hz0, hz1, hz2⟩ := info_parts info3
  go_enter Tryz.func21, Tryz.ntmps21
  go_wp2_with fail
  go_loopw [3, 4, 5, 6] (fun ov vv sv iv wr => ∃ (j k : Nat), iv = .int .i64 (j : Int) ∧ 1 ≤ j ∧ (j ≤ s.size ∨ j = 1) ∧ vv = .int .i64 ((decJ s j).2.1 : Int) ∧ sv = .int .i64 ((7 * k : Nat) : Int) ∧ k = (decJ s j).2.2 ∧ wr.ownsRow w.heap.size 3 1 ov (decJ s j).1.length (I (decJ s j).1) ∧ Below w.heap.size w wr) (fun _ _ _ iv _ => s.size - (intOf iv).toNat)
  case atStart => exact ⟨1, 0, rfl, by omega, Or.inr rfl, by rw [decJ_one]; rfl, rfl, by rw [decJ_one], by rw [decJ_one]; exact World.ownsRow_nil _ _ _ _, Below.refl _ _⟩
  case round =>
    obtain ⟨j, k, rfl, h1, hj, rfl, rfl, hk, hown, hb⟩ := hrel
    have HB := hide hb
    have HO := hide hown
    have hws : w.heap.size ≤ wr.heap.size := hb.size
    obtain ⟨hsm, hkl, hol⟩ := Pl.dec_small _ ((s.data.toList.take j).drop 1) rfl
    have hll : ((s.data.toList.take j).drop 1).length ≤ 2097152 := by
      rw [List.length_drop, List.length_take]; simp; omega
    have hkb : k ≤ 2097152 := by rw [hk]; unfold decJ; omega
    have hob : (decJ s j).1.length ≤ 2097152 := by unfold decJ; omega
    have hv : (decJ s j).2.1 < 128 ^ (min k 9) := by rw [hk]; exact hsm
    by_cases hlt : j < s.size
    · have HST := hide (decJ_succ s h1 hlt)
      have hb256 : s[j].toNat < 256 := UInt8.toNat_lt _
      obtain ⟨st, hd⟩ : ∃ st, st = decJ s j := ⟨_, rfl⟩
      obtain ⟨out, v, k'⟩ := st
      rw [← hd] at hk hob hv HO HST
      rw [← hd]
      simp only at hk hob hv HO HST ⊢
      subst hk
      obtain ⟨oa, oc, hov⟩ := own_shapeV HO.out
      subst hov
      have hne1 : (k < 9 → wrap64 ((v : Int) + wrap64 ((s[j].toNat : Int) % 128 * 2 ^ (7 * k))) = ((v + s[j].toNat % 128 * 128 ^ k : Nat) : Int)) := fun h9 => by
        have e2 : (2 : Int) ^ (7 * k) = ((128 ^ k : Nat) : Int) := by
          rw [Int.pow_mul]; norm_cast
        rw [show min k 9 = k by omega] at hv
        have hm : s[j].toNat % 128 * 128 ^ k ≤ 127 * 128 ^ k := Nat.mul_le_mul_right _ (by omega)
        have hp : 128 ^ (k + 1) ≤ 128 ^ 9 := Nat.pow_le_pow_right (by omega) (by omega)
        have hp9 : (128 : Nat) ^ 9 = 9223372036854775808 := by decide
        rw [Nat.pow_succ] at hp
        have e3 : (s[j].toNat : Int) % 128 * ((128 ^ k : Nat) : Int) = ((s[j].toNat % 128 * 128 ^ k : Nat) : Int) := by push_cast; rfl
        rw [e2, e3]
        generalize s[j].toNat % 128 * 128 ^ k = y at *
        rw [wrap64_in (y : Int) ⟨by omega, by omega⟩, wrap64_in _ ⟨by omega, by omega⟩]; norm_cast
      have HE := hide hne1
      have hst1 : s[j].toNat < 128 → Pl.dst (out, v, k) s[j] = (out ++ [if k < 9 then v + s[j].toNat % 128 * 128 ^ k else v], 0, 0) := fun h => by simp only [Pl.dst]; rw [if_pos h]
      have hst2 : ¬ s[j].toNat < 128 → Pl.dst (out, v, k) s[j] = (out, (if k < 9 then v + s[j].toNat % 128 * 128 ^ k else v), k + 1) := fun h => by simp only [Pl.dst]; rw [if_neg h]
      have HS1 := hide hst1
      have HS2 := hide hst2
      have hvl : v < 9223372036854775808 := by
        have hp : 128 ^ (min k 9) ≤ 128 ^ 9 := Nat.pow_le_pow_right (by omega) (by omega)
        have hp9 : (128 : Nat) ^ 9 = 9223372036854775808 := by decide
        omega
      clear hown hb hsm hkl hol hll hd hne1 hst1 hst2 hv
      by_cases h128 : s[j].toNat < 128
      · by_cases h9 : k < 9
        · have HQ := hide (HS1.out h128)
          rw [if_pos h9] at HQ
          have HE1 := hide (HE.out h9)
          go_wp2_with (at_builtin; refine wpList_append_own _ rfl _ _ 42 rfl w.heap.size 3 i0 (.int .i64 0) 1 8 tU48 hi hz0 hz1 hz2 rfl (by decide) (.slice oa out.length oc) out.length (I out) rfl (HO.out.alloc _) ⟨wr.heap.size, 0, none⟩ 1 1 [.int .i64 (wrap64 ((v : Int) + wrap64 ((s[j].toNat : Int) % 128 * 2 ^ (7 * k))))] rfl rfl ?c1 ?c2 ?c3 ?c4 ?c5 ?_)
          case c1 => exact one_new _ _ _
          case c2 => intro u hu; simp at hu; subst hu; rfl
          case c3 => unfold maxLen; omega
          case c4 => omega
          case c5 => simp; omega
          intro v' w6 hown6 hgrow hnn
          have HBB : Hid (Below w.heap.size w w6) := (HB.out.alloc hws _).grown hgrow (by simp; omega) (fun q hq => (HO.out.lt q hq).1)
          rw [HE1.out] at hown6
          have HO6 : Hid (w6.ownsRow w.heap.size 3 1 v' (decJ s (j + 1)).1.length (I (decJ s (j + 1)).1)) := by
            unfold Hid; rw [HST.out, HQ.out, I_snoc, List.length_append]; exact hown6
          have HD2 : Hid ((decJ s (j + 1)).2.1 = 0 ∧ (decJ s (j + 1)).2.2 = 0) := by unfold Hid; rw [HST.out, HQ.out]; exact ⟨rfl, rfl⟩
          clear hown6 hgrow hnn HE1 HE HS1 HS2
          go_wp2_with fail
          go_roundw
          case rel => exact ⟨j + 1, 0, by go_num, by omega, Or.inl (by omega), by rw [HD2.out.1]; rfl, rfl, HD2.out.2.symm, HO6.out, HBB.out⟩
          case measure => simp [intOf]; omega
        · have HQ := hide (HS1.out h128)
          rw [if_neg h9] at HQ
          go_wp2_with (at_builtin; refine wpList_append_own _ rfl _ _ 42 rfl w.heap.size 3 i0 (.int .i64 0) 1 8 tU48 hi hz0 hz1 hz2 rfl (by decide) (.slice oa out.length oc) out.length (I out) rfl (HO.out.alloc _) ⟨wr.heap.size, 0, none⟩ 1 1 [.int .i64 (v : Int)] rfl rfl ?d1 ?d2 ?d3 ?d4 ?d5 ?_)
          case d1 => exact one_new _ _ _
          case d2 => intro u hu; simp at hu; subst hu; rfl
          case d3 => unfold maxLen; omega
          case d4 => omega
          case d5 => simp; omega
          intro v' w6 hown6 hgrow hnn
          have HBB : Hid (Below w.heap.size w w6) := (HB.out.alloc hws _).grown hgrow (by simp; omega) (fun q hq => (HO.out.lt q hq).1)
          have HO6 : Hid (w6.ownsRow w.heap.size 3 1 v' (decJ s (j + 1)).1.length (I (decJ s (j + 1)).1)) := by
            unfold Hid; rw [HST.out, HQ.out, I_snoc, List.length_append]; exact hown6
          have HD2 : Hid ((decJ s (j + 1)).2.1 = 0 ∧ (decJ s (j + 1)).2.2 = 0) := by unfold Hid; rw [HST.out, HQ.out]; exact ⟨rfl, rfl⟩
          clear hown6 hgrow hnn HE HS1 HS2
          go_wp2_with fail
          go_roundw
          case rel => exact ⟨j + 1, 0, by go_num, by omega, Or.inl (by omega), by rw [HD2.out.1]; rfl, rfl, HD2.out.2.symm, HO6.out, HBB.out⟩
          case measure => simp [intOf]; omega
      · by_cases h9 : k < 9
        · have HQ := hide (HS2.out h128)
          rw [if_pos h9] at HQ
          have HE1 := hide (HE.out h9)
          have HO6 : Hid (wr.ownsRow w.heap.size 3 1 (.slice oa out.length oc) (decJ s (j + 1)).1.length (I (decJ s (j + 1)).1)) := by
            unfold Hid; rw [HST.out, HQ.out]; exact HO.out
          have HD2 : Hid ((decJ s (j + 1)).2.1 = v + s[j].toNat % 128 * 128 ^ k ∧ (decJ s (j + 1)).2.2 = k + 1) := by unfold Hid; rw [HST.out, HQ.out]; exact ⟨rfl, rfl⟩
          clear HE HS1 HS2
          go_wp2_with fail
          go_roundw
          case rel => exact ⟨j + 1, k + 1, by go_num, by omega, Or.inl (by omega), by rw [HD2.out.1, HE1.out], by go_num, HD2.out.2.symm, HO6.out, HB.out⟩
          case measure => simp [intOf]; omega
        · have HQ := hide (HS2.out h128)
          rw [if_neg h9] at HQ
          have HO6 : Hid (wr.ownsRow w.heap.size 3 1 (.slice oa out.length oc) (decJ s (j + 1)).1.length (I (decJ s (j + 1)).1)) := by
            unfold Hid; rw [HST.out, HQ.out]; exact HO.out
          have HD2 : Hid ((decJ s (j + 1)).2.1 = v ∧ (decJ s (j + 1)).2.2 = k + 1) := by unfold Hid; rw [HST.out, HQ.out]; exact ⟨rfl, rfl⟩
          clear HE HS1 HS2
          go_wp2_with fail
          go_roundw
          case rel => exact ⟨j + 1, k + 1, by go_num, by omega, Or.inl (by omega), by rw [HD2.out.1], by go_num, HD2.out.2.symm, HO6.out, HB.out⟩
          case measure => simp [intOf]; omega
    · have HDJ : Hid (decJ s j = Pl.dec (s.data.toList.drop 1)) := by
        unfold Hid decJ
        rw [List.take_of_length_le (by simp; omega)]
      rw [HDJ.out] at HO
      obtain ⟨oa, oc, hov⟩ := own_shapeV HO.out
      subst hov
      clear hown hb hsm hkl hol hll hv
      go_wp2_with fail
      go_ret
      exact ⟨HB.out, _, rfl, HO.out⟩

end Go.Proofs.YtlmafelclgeccaaGreatDoor
