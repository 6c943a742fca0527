import Derived.Test.YtlmafelclgeccaaGreatDoorKA
import Derived.Test.YtlmafelclgeccaaGreatDoorR0X
namespace Go.Proofs.YtlmafelclgeccaaGreatDoor
set_option linter.unusedSimpArgs false
set_option linter.unusedVariables false
open Go.RowKit
set_option maxRecDepth 100000

/-- Which of n things a raw number speaks of. -/
def pk (c : Int) (n : Nat) : Nat := ((if c < 0 then -(c + 1) else c) % (n : Int)).toNat
theorem pk_lt (c : Int) {n : Nat} (hn : 0 < n) : pk c n < n := by
  unfold pk
  have h1 := Int.emod_nonneg (if c < 0 then -(c + 1) else c) (show (n : Int) ≠ 0 by omega)
  have h2 := Int.emod_lt_of_pos (if c < 0 then -(c + 1) else c) (show (0 : Int) < n by omega)
  omega
theorem pk_eq (c : Int) {n : Nat} (hn : 0 < n) : (pk c n : Int) = (if c < 0 then -(c + 1) else c) % (n : Int) := by
  unfold pk
  have h1 := Int.emod_nonneg (if c < 0 then -(c + 1) else c) (show (n : Int) ≠ 0 by omega)
  omega

def Raw (c : Int) : Prop := -9223372036854775808 ≤ c ∧ c ≤ 9223372036854775807

set_option maxHeartbeats 400000 in
theorem pick_any (c : Int) (hc : Raw c) (n : Nat) (hn : 0 < n) (h2 : n ≤ 1000000) (w : World) :
    Calls Tryz.prog 25 #[.int .i64 c, .int .i64 (n : Int)] w fun e w' => e = .returned (.int .i64 (pk c n : Int)) ∧ w' = w := by
  obtain ⟨q1, q2⟩ := hc
  have HP := hide (pk_eq c hn)
  by_cases h : c < 0
  · rw [if_pos h] at HP
    have HT : Hid (-(Int.tmod (c + 1) (n : Int)) = (pk c n : Int)) := by unfold Hid; rw [← Int.neg_tmod, Int.tmod_eq_emod_of_nonneg (by omega), HP.out]
    have hlt := pk_lt c hn
    generalize pk c n = p at *
    go_enter Tryz.func25, Tryz.ntmps25
    go_wp2_with fail
    go_ret
    exact ⟨by rw [HT.out]; rfl, rfl⟩
  · rw [if_neg h] at HP
    have HT : Hid (Int.tmod c (n : Int) = (pk c n : Int)) := by unfold Hid; rw [Int.tmod_eq_emod_of_nonneg (by omega), HP.out]
    have hlt := pk_lt c hn
    generalize pk c n = p at *
    go_enter Tryz.func25, Tryz.ntmps25
    go_wp2_with fail
    go_ret
    exact ⟨by rw [HP.out]; rfl, rfl⟩

set_option maxHeartbeats 400000 in
theorem id_any (c : Int) (hc : Raw c) (n : Nat) (hn : 0 < n) (h2 : n ≤ 1000000) (w : World) :
    Calls Tryz.prog 23 #[.int .i64 c, .int .i64 (n : Int)] w fun e w' => e = .returned (.int .i64 ((1 + pk c n : Nat) : Int)) ∧ w' = w := by
  have HP := hide (pick_any c hc n hn h2 w)
  have hlt := pk_lt c hn
  generalize pk c n = p at *
  go_enter Tryz.func23, Tryz.ntmps23
  go_wp2_with (go_at_call 25; refine (HP.out).mono ?_; rintro e w1 ⟨rfl, rfl⟩)
  go_ret
  exact ⟨by go_num, rfl⟩

set_option maxHeartbeats 400000 in
theorem few_any (c : Int) (hc : Raw c) (w : World) :
    Calls Tryz.prog 24 #[.int .i64 c] w fun e w' => e = .returned (.int .i64 ((1 + pk c 400 : Nat) : Int)) ∧ w' = w := by
  have HP := hide (pick_any c hc 400 (by omega) (by omega) w)
  have hlt := pk_lt c (n := 400) (by omega)
  generalize pk c 400 = p at *
  go_enter Tryz.func24, Tryz.ntmps24
  go_wp2_with (go_at_call 25; refine (HP.out).mono ?_; rintro e w1 ⟨rfl, rfl⟩)
  go_ret
  exact ⟨by go_num, rfl⟩

set_option maxHeartbeats 800000 in
theorem knumber_any (n : Nat) (hn : n < 9223372036854775808) (w : World) :
    Calls Tryz.prog 53 #[.int .i64 (n : Int)] w fun e w' => e = .returned (.string ⟨(Pl.num n).toArray⟩) ∧ Below w.heap.size w w' := by
  go_enter Tryz.func53, Tryz.ntmps53
  go_wp2_with fail
  go_loopw [0, 3] (fun nv sv wr => ∃ (m : Nat) (p : List UInt8), nv = .int .i64 (m : Int) ∧ sv = .string ⟨p.toArray⟩ ∧ m ≤ n ∧ p ++ Pl.num m = Pl.num n ∧ Below w.heap.size w wr) (fun nv _ _ => (intOf nv).toNat)
  case atStart => exact ⟨n, [], rfl, rfl, Nat.le_refl _, rfl, Below.refl _ _⟩
  case round =>
    obtain ⟨m, p, rfl, rfl, hm, hp, hb⟩ := hrel
    have hl := Pl.num_len n hn
    have hpl : p.length ≤ 9 := by rw [← hp, List.length_append] at hl; omega
    have HPP := hide hp
    have HB := hide hb
    clear hp hb hl
    by_cases h1 : m < 128
    · have hcv := conv1 wr (m : Int) (by omega) (by omega) (0, 0)
      go_wp2_with fail
      go_ret
      refine ⟨?_, HB.out.alloc HB.out.size _⟩
      rw [← HPP.out, Pl.num_lt h1]
      exact congrArg (fun b => Ending.returned (.string b)) (ByteArray.mk_append_mk p [UInt8.ofNat m])
    · have hcv := conv1 wr ((m : Int) % 128 + 128) (by omega) (by omega) (0, 0)
      go_wp2_with fail
      have HST : Hid (p ++ [UInt8.ofNat (m % 128) + 128] ++ Pl.num (m / 128) = Pl.num n) := by
        unfold Hid
        rw [← HPP.out, Pl.num_ge h1, List.append_assoc]
        congr 1
        show (UInt8.ofNat (m % 128) + 128) :: Pl.num (m / 128) = (UInt8.ofNat (m % 128 + 128)) :: Pl.num (m / 128)
        rw [UInt8.ofNat_add]; rfl
      go_roundw
      case rel => exact ⟨m / 128, p ++ [UInt8.ofNat (m % 128) + 128], by simp, congrArg Value.string (ByteArray.mk_append_mk p [UInt8.ofNat (m % 128) + 128]), by omega, HST.out, HB.out.alloc HB.out.size _⟩
      case measure => simp [intOf]; omega

/-- Numbers that lie in memory. -/
def Cl (w : World) (g : Nat) (ns : List Nat) : Prop := g < w.heap.size ∧ ∀ j, j < ns.length → w.cell? ⟨g, j, none⟩ = some (.int .i64 ((ns.getD j 0 : Nat) : Int))
theorem Cl.below {w w' : World} {g : Nat} {ns : List Nat} (h : Cl w g ns) (hb : Below w.heap.size w w') : Cl w' g ns := ⟨Nat.lt_of_lt_of_le h.1 hb.size, fun j hj => (hb.cell (p := ⟨g, j, none⟩) h.1).trans (h.2 j hj)⟩

set_option maxHeartbeats 800000 in
theorem kcommand_any (c : Nat) (hc : c < 256) (g cap : Nat) (ns : List Nat) (hl : ns.length ≤ 1000) (hn : ∀ n ∈ ns, n < 9223372036854775808) (w : World) (hcl : Cl w g ns) :
    Calls Tryz.prog 42 #[.int .i64 (c : Int), .slice (some ⟨g, 0, none⟩) ns.length cap] w fun e w' => e = .returned (.string ⟨(Pl.cmdB c ns).toArray⟩) ∧ Below w.heap.size w w' := by
  have hcv := conv1 w (c : Int) (by omega) (by omega) (0, 0)
  have HCL := hide hcl
  have HN := hide hn
  clear hn hcl
  go_enter Tryz.func42, Tryz.ntmps42
  go_wp2_with fail
  go_loopw [5, 6, 7] (fun sv iv _ wr => ∃ (k : Nat), iv = .int .i64 (k : Int) ∧ k ≤ ns.length ∧ sv = .string ⟨(Pl.cmdB c (ns.take k)).toArray⟩ ∧ Below w.heap.size w wr) (fun _ iv _ _ => ns.length - (intOf iv).toNat)
  case atStart => exact ⟨0, rfl, by omega, rfl, (Below.refl _ _).alloc (Nat.le_refl _) _⟩
  case round =>
    obtain ⟨k, rfl, hk, rfl, hb⟩ := hrel
    have hbl : (Pl.cmdB c (ns.take k)).length ≤ 1 + 9 * k := by
      have := Pl.toldB_len (ns.take k) (fun n h => HN.out n (List.mem_of_mem_take h))
      rw [List.length_take] at this
      unfold Pl.cmdB
      rw [List.length_cons]; omega
    have HB := hide hb
    clear hb
    by_cases hlt : k < ns.length
    · have hck := (HB.out.cell (p := ⟨g, k, none⟩) HCL.out.1).trans (HCL.out.2 k hlt)
      have hxin : ns.getD k 0 ∈ ns := by simp [List.getD_eq_getElem?_getD, hlt]
      have HNB := hide (knumber_any (ns.getD k 0) (HN.out _ hxin))
      have hxl := Pl.num_len (ns.getD k 0) (HN.out _ hxin)
      have HTK : Hid (Pl.cmdB c (ns.take (k + 1)) = Pl.cmdB c (ns.take k) ++ Pl.num (ns.getD k 0)) := by
        unfold Hid Pl.cmdB; rw [Pl.toldB_take ns k hlt]; rfl
      have hxb := HN.out _ hxin
      generalize ns.getD k 0 = x at *
      clear hxin
      go_wp2_with (go_at_call 53; refine (HNB.out _).mono ?_; rintro e w1 ⟨rfl, hb1⟩)
      go_roundw
      case rel => exact ⟨k + 1, by go_num, by omega, by rw [HTK.out]; exact congrArg Value.string (ByteArray.mk_append_mk _ _), HB.out.trans (hb1.mono HB.out.size)⟩
      case measure => simp [intOf]; omega
    · obtain rfl : k = ns.length := by omega
      have HE : Hid (ns.take ns.length = ns) := List.take_length
      rw [HE.out]
      clear hlt
      go_wp2_with fail
      go_ret
      exact ⟨rfl, HB.out⟩

end Go.Proofs.YtlmafelclgeccaaGreatDoor
