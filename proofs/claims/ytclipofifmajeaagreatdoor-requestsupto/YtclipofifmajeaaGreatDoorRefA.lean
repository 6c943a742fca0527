import Derived.Test.YtclipofifmajeaaGreatDoorProg
import Derived.Test.YtclipofifmajeaaGreatDoorPlain
import Derived.WalkKit
import Derived.WalkSpells
import Derived.WalkLawsBesides
namespace Go.Proofs.YtclipofifmajeaaGreatDoor
set_option linter.unusedSimpArgs false
set_option linter.unusedVariables false
open Go.RowKit
set_option maxRecDepth 100000

theorem hide {p : Prop} (h : p) : Hid p := h

theorem own_below {w w1 : World} {base : Nat} {e : TypeId} {size n : Nat} {v : Value} {xs : List Value} (h : w.ownsRow base e size v n xs) (hb : Below w.heap.size w w1) : w1.ownsRow base e size v n xs :=
  h.kept (row := none) ⟨hb.os, hb.tape, hb.output, hb.size, fun k hk _ => hb.block k hk⟩ (by cases v.ownBlock <;> simp)

theorem one_new (w1 : World) (x : Value) (t : TypeId) : ∀ (j : Nat) (u : Value), [x][j]? = some u → (w1.alloc (.cells #[x] t)).cell? (Addr.add ⟨w1.heap.size, 0, none⟩ j) = some u := by
  intro j u hj
  match j, hj with
  | 0, hj =>
    simp at hj; subst hj
    have ha : (Addr.add ⟨w1.heap.size, 0, none⟩ 0) = ⟨w1.heap.size, 0, none⟩ := by simp [Addr.add]
    rw [ha, World.cell?_alloc_mark]; rfl

theorem tU3 : Tryz.prog.underlying 3 = some (.int .i64) := by kernel_rfl
theorem tU5 : Tryz.prog.underlying 5 = some (.int .u8) := by kernel_rfl
theorem tU9 : Tryz.prog.underlying 9 = some .string := by kernel_rfl
theorem tU52 : Tryz.prog.underlying 58 = some (.slice 5) := by kernel_rfl

theorem ret_str {a b : List UInt8} (h : a = b) : Ending.returned (.string ⟨a.toArray⟩) = .returned (.string ⟨b.toArray⟩) := by rw [h]

theorem conv1 (w0 : World) (x : Int) (h0 : 0 ≤ x) (h1 : x < 256) (fz : Nat × Nat) :
    (convert 58 9 (.slice (some ⟨w0.heap.size, 0, none⟩) 1 1)).run Tryz.prog (w0.alloc (.cells #[.int .u8 x] 5 fz)) = .ok (.string ⟨#[UInt8.ofNat x.toNat]⟩) (w0.alloc (.cells #[.int .u8 x] 5 fz)) := by
  have hu : ((UInt8.ofNat x.toNat).toNat : Int) = x := by
    rw [UInt8.toNat_ofNat']; omega
  refine run_convert_bytes_back (P := Tryz.prog) (w0.alloc (.cells #[.int .u8 x] 5 fz)) 58 9 5 ⟨w0.heap.size, 0, none⟩ 1 [UInt8.ofNat x.toNat] tU52 tU5 tU9 ?_
  intro j hj
  have : j = 0 := by simpa using hj
  subst this
  have ha : (Addr.add ⟨w0.heap.size, 0, none⟩ 0) = ⟨w0.heap.size, 0, none⟩ := by simp [Addr.add]
  rw [ha, World.cell?_alloc_mark, List.getElem_cons_zero, hu]; rfl

set_option maxHeartbeats 400000 in
theorem number_small (n : Int) (h0 : 0 ≤ n) (h1 : n < 128) (w : World) :
    Calls Tryz.prog 46 #[.int .i64 n] w fun e w' => e = .returned (.string ⟨(Pl.num n.toNat).toArray⟩) ∧ Below w.heap.size w w' := by
  have hcv := conv1 w n h0 (by omega) (0, 0)
  go_enter Tryz.func46, Tryz.ntmps46
  go_wp2
  go_ret
  refine ⟨?_, ?_⟩
  · exact ret_str (by rw [Pl.num_lt (by omega)])
  · exact (Below.refl _ _).alloc (Nat.le_refl _) _

theorem number_any : ∀ (k : Nat) (n : Int), n.toNat ≤ k → 0 ≤ n → n ≤ 9223372036854775807 → ∀ (w : World),
    Calls Tryz.prog 46 #[.int .i64 n] w fun e w' => e = .returned (.string ⟨(Pl.num n.toNat).toArray⟩) ∧ Below w.heap.size w w' := by
  intro k
  induction k with
  | zero => intro n hk h0 hm w; exact number_small n h0 (by omega) w
  | succ k ih =>
    intro n hk h0 hm w
    by_cases h1 : n < 128
    · exact number_small n h0 h1 w
    · have H := ih (n / 128) (by omega) (by omega) (by omega)
      have HH : Hid (∀ (w : World), Calls Tryz.prog 46 #[.int .i64 (n / 128)] w fun e w' => e = .returned (.string ⟨(Pl.num (n / 128).toNat).toArray⟩) ∧ Below w.heap.size w w') := H
      clear ih H
      have hl := Pl.num_len (n / 128).toNat (by omega)
      go_enter Tryz.func46, Tryz.ntmps46
      go_wp2_with (go_at_call 46; refine (HH.out _).mono ?_; rintro e w1 ⟨rfl, hb⟩; have hcv := conv1 w1 (n % 128 + 128) (by omega) (by omega) (0, 0))
      go_ret
      refine ⟨?_, ?_⟩
      · have e1 : (n % 128 + 128).toNat = n.toNat % 128 + 128 := by omega
        have e2 : (n / 128).toNat = n.toNat / 128 := by omega
        rw [Pl.num_ge (n := n.toNat) (by omega), ← e1, ← e2]
        exact congrArg (fun b => Ending.returned (.string b)) (ByteArray.mk_append_mk [UInt8.ofNat (n % 128 + 128).toNat] (Pl.num (n / 128).toNat))
      · exact hb.alloc hb.size _

end Go.Proofs.YtclipofifmajeaaGreatDoor
