import Derived.Test.YtgcedalggnmooabGreatDoorOpFX
import Derived.Lib.ConvBytes
namespace Go.Proofs.YtgcedalggnmooabGreatDoor
set_option linter.unusedSimpArgs false
set_option linter.unusedVariables false
open Go.RowKit
set_option maxRecDepth 100000

/-- Seven bytes that were made of a string. -/
def Tb (w : World) (g N : Nat) (tl : List UInt8) : Prop := ∃ cs, w.heap[g]? = some (.cells cs 5 (N, N + 1)) ∧ cs.size = N ∧ 7 ≤ N ∧ ∀ j, j < 7 → cs[j]? = some (.int .u8 ((tl.getD j 0).toNat : Int))
theorem Tb.cell {w : World} {g N : Nat} {tl : List UInt8} (h : Tb w g N tl) {j : Nat} (hj : j < 7) : w.cell? ⟨g, j, none⟩ = some (.int .u8 ((tl.getD j 0).toNat : Int)) := by
  obtain ⟨cs, h1, _, _, h4⟩ := h
  simp [World.cell?, h1, h4 j hj]
theorem Tb.free {w : World} {g N : Nat} {tl : List UInt8} (h : Tb w g N tl) {j : Nat} (hj : j < 7) : w.frozen? ⟨g, j, none⟩ = false := by
  obtain ⟨cs, h1, h2, h3, h4⟩ := h
  simp [World.frozen?, h1]; omega
theorem Tb.set {w : World} {g N : Nat} {tl : List UInt8} (h : Tb w g N tl) (hl : tl.length = 7) {j : Nat} (hj : j < 7) (x : UInt8) : Tb (w.setCell ⟨g, j, none⟩ (.int .u8 (x.toNat : Int))) g N (tl.set j x) := by
  obtain ⟨cs, h1, h2, h3, h4⟩ := h
  refine ⟨cs.set j (.int .u8 (x.toNat : Int)) (by omega), ?_, by simpa using h2, h3, fun k hk => ?_⟩
  · have hg : g < w.heap.size := (Array.getElem?_eq_some_iff.1 h1).1
    have hg2 := (Array.getElem?_eq_some_iff.1 h1).2
    simp [World.setCell, Array.getElem?_modify, h1, Array.setIfInBounds, show j < cs.size by omega]
  · by_cases hkj : j = k
    · subst hkj
      simp [List.getD_eq_getElem?_getD, hl, hj]
    · rw [Array.getElem?_set_ne (by omega) hkj, h4 k hk]
      simp [List.getD_eq_getElem?_getD, List.getElem?_set_ne hkj]
theorem tb_conv (w : World) (s : ByteArray) (h7 : s.size = 7) : ∃ N, Tb (Go.Lib.bytesWorld w 5 s) w.heap.size N s.data.toList := by
  refine ⟨(Go.Lib.bytesCells w 5 s).size, Go.Lib.bytesCells w 5 s, Go.Lib.bytesWorld_at_new w 5 s, rfl, ?_, fun j hj => ?_⟩
  · unfold Go.Lib.bytesCells; simp; omega
  · have hd : s.data.size = 7 := h7
    simp [Go.Lib.bytesCells, Array.getElem?_append, hd, hj]
theorem below_conv (w : World) (s : ByteArray) : Below w.heap.size w (Go.Lib.bytesWorld w 5 s) :=
  ⟨rfl, rfl, rfl, by rw [Go.Lib.bytesWorld_size]; omega, fun k hk => Go.Lib.bytesWorld_at_old w 5 s k hk⟩

theorem xor_walk : ∀ x : Nat, x < 256 → ∀ t : Nat, t < 8 → bits .xor .u8 (x : Int) (2 ^ t % 256) = ((x ^^^ 2 ^ t : Nat) : Int) := by decide +kernel
theorem put_xor (hi b lo p t : Nat) (hb : b < 256) (ht : t < 8) (hlo : lo < 2 ^ p) : 2 ^ p * (2 ^ 8 * hi + (b ^^^ 2 ^ t)) + lo = (2 ^ p * (2 ^ 8 * hi + b) + lo) ^^^ 2 ^ (p + t) := by
  have hb8 : b < 2 ^ 8 := hb
  have ht8 : 2 ^ t < 2 ^ 8 := Nat.pow_lt_pow_right (by omega) ht
  rw [mul_add_xor hi (Nat.xor_lt_two_pow hb8 ht8), mul_add_xor hi hb8, mul_add_xor _ hlo, mul_add_xor _ hlo, ← Nat.xor_assoc, xor_mulp, Nat.pow_add, Nat.xor_assoc, Nat.xor_assoc, Nat.xor_comm (2 ^ p * 2 ^ t)]
theorem n7_set {tl : List UInt8} (h7 : tl.length = 7) {j : Nat} (hj : j < 7) {y : UInt8} {t : Nat} (ht : t < 8) (hy : y.toNat = (tl.getD j 0).toNat ^^^ 2 ^ t) : n7 (tl.set j y) = n7 tl ^^^ 2 ^ (8 * (6 - j) + t) := by
  obtain ⟨a, b, c, d, e, f, g, rfl⟩ := seven h7
  have ha := UInt8.toNat_lt a
  have hb := UInt8.toNat_lt b
  have hc := UInt8.toNat_lt c
  have hd := UInt8.toNat_lt d
  have he := UInt8.toNat_lt e
  have hf := UInt8.toNat_lt f
  have hg := UInt8.toNat_lt g
  have key : ∀ hi x lo p : Nat, x < 256 → lo < 2 ^ p → y.toNat = x ^^^ 2 ^ t → 2 ^ p * (2 ^ 8 * hi + y.toNat) + lo = (2 ^ p * (2 ^ 8 * hi + x) + lo) ^^^ 2 ^ (p + t) := fun hi x lo p hx hlo hyx => by rw [hyx]; exact put_xor hi x lo p t hx ht hlo
  rcases (show j = 0 ∨ j = 1 ∨ j = 2 ∨ j = 3 ∨ j = 4 ∨ j = 5 ∨ j = 6 by omega) with rfl | rfl | rfl | rfl | rfl | rfl | rfl
  · have q := key 0 a.toNat (((((b.toNat * 256 + c.toNat) * 256 + d.toNat) * 256 + e.toNat) * 256 + f.toNat) * 256 + g.toNat) 48 ha (by omega) hy
    show n7 [y, b, c, d, e, f, g] = _
    rw [n7_eq, n7_eq, show 8 * (6 - 0) + t = 48 + t from rfl]
    rw [show ((((((a.toNat * 256 + b.toNat) * 256 + c.toNat) * 256 + d.toNat) * 256 + e.toNat) * 256 + f.toNat) * 256 + g.toNat) = 2 ^ 48 * (2 ^ 8 * 0 + a.toNat) + (((((b.toNat * 256 + c.toNat) * 256 + d.toNat) * 256 + e.toNat) * 256 + f.toNat) * 256 + g.toNat) by omega, ← q]
    omega
  · have q := key a.toNat b.toNat ((((c.toNat * 256 + d.toNat) * 256 + e.toNat) * 256 + f.toNat) * 256 + g.toNat) 40 hb (by omega) hy
    show n7 [a, y, c, d, e, f, g] = _
    rw [n7_eq, n7_eq, show 8 * (6 - 1) + t = 40 + t from rfl]
    rw [show ((((((a.toNat * 256 + b.toNat) * 256 + c.toNat) * 256 + d.toNat) * 256 + e.toNat) * 256 + f.toNat) * 256 + g.toNat) = 2 ^ 40 * (2 ^ 8 * a.toNat + b.toNat) + ((((c.toNat * 256 + d.toNat) * 256 + e.toNat) * 256 + f.toNat) * 256 + g.toNat) by omega, ← q]
    omega
  · have q := key (a.toNat * 256 + b.toNat) c.toNat (((d.toNat * 256 + e.toNat) * 256 + f.toNat) * 256 + g.toNat) 32 hc (by omega) hy
    show n7 [a, b, y, d, e, f, g] = _
    rw [n7_eq, n7_eq, show 8 * (6 - 2) + t = 32 + t from rfl]
    rw [show ((((((a.toNat * 256 + b.toNat) * 256 + c.toNat) * 256 + d.toNat) * 256 + e.toNat) * 256 + f.toNat) * 256 + g.toNat) = 2 ^ 32 * (2 ^ 8 * (a.toNat * 256 + b.toNat) + c.toNat) + (((d.toNat * 256 + e.toNat) * 256 + f.toNat) * 256 + g.toNat) by omega, ← q]
    omega
  · have q := key ((a.toNat * 256 + b.toNat) * 256 + c.toNat) d.toNat ((e.toNat * 256 + f.toNat) * 256 + g.toNat) 24 hd (by omega) hy
    show n7 [a, b, c, y, e, f, g] = _
    rw [n7_eq, n7_eq, show 8 * (6 - 3) + t = 24 + t from rfl]
    rw [show ((((((a.toNat * 256 + b.toNat) * 256 + c.toNat) * 256 + d.toNat) * 256 + e.toNat) * 256 + f.toNat) * 256 + g.toNat) = 2 ^ 24 * (2 ^ 8 * ((a.toNat * 256 + b.toNat) * 256 + c.toNat) + d.toNat) + ((e.toNat * 256 + f.toNat) * 256 + g.toNat) by omega, ← q]
    omega
  · have q := key (((a.toNat * 256 + b.toNat) * 256 + c.toNat) * 256 + d.toNat) e.toNat (f.toNat * 256 + g.toNat) 16 he (by omega) hy
    show n7 [a, b, c, d, y, f, g] = _
    rw [n7_eq, n7_eq, show 8 * (6 - 4) + t = 16 + t from rfl]
    rw [show ((((((a.toNat * 256 + b.toNat) * 256 + c.toNat) * 256 + d.toNat) * 256 + e.toNat) * 256 + f.toNat) * 256 + g.toNat) = 2 ^ 16 * (2 ^ 8 * (((a.toNat * 256 + b.toNat) * 256 + c.toNat) * 256 + d.toNat) + e.toNat) + (f.toNat * 256 + g.toNat) by omega, ← q]
    omega
  · have q := key ((((a.toNat * 256 + b.toNat) * 256 + c.toNat) * 256 + d.toNat) * 256 + e.toNat) f.toNat g.toNat 8 hf (by omega) hy
    show n7 [a, b, c, d, e, y, g] = _
    rw [n7_eq, n7_eq, show 8 * (6 - 5) + t = 8 + t from rfl]
    rw [show ((((((a.toNat * 256 + b.toNat) * 256 + c.toNat) * 256 + d.toNat) * 256 + e.toNat) * 256 + f.toNat) * 256 + g.toNat) = 2 ^ 8 * (2 ^ 8 * ((((a.toNat * 256 + b.toNat) * 256 + c.toNat) * 256 + d.toNat) * 256 + e.toNat) + f.toNat) + g.toNat by omega, ← q]
    omega
  · have q := key (((((a.toNat * 256 + b.toNat) * 256 + c.toNat) * 256 + d.toNat) * 256 + e.toNat) * 256 + f.toNat) g.toNat 0 0 hg (by omega) hy
    show n7 [a, b, c, d, e, f, y] = _
    rw [n7_eq, n7_eq, show 8 * (6 - 6) + t = 0 + t from rfl]
    rw [show ((((((a.toNat * 256 + b.toNat) * 256 + c.toNat) * 256 + d.toNat) * 256 + e.toNat) * 256 + f.toNat) * 256 + g.toNat) = 2 ^ 0 * (2 ^ 8 * (((((a.toNat * 256 + b.toNat) * 256 + c.toNat) * 256 + d.toNat) * 256 + e.toNat) * 256 + f.toNat) + g.toNat) + 0 by omega, ← q]
    omega
/-- One bit more turned over. -/
theorem turn_bit {X at0 k : Nat} (hk : k < 32) (hin : at0 + k < 56) (h1 : X < 2 ^ (56 - at0)) (h2 : X % 2 ^ (24 - at0) = 0) : (X ^^^ 2 ^ (55 - (at0 + k))) < 2 ^ (56 - at0) ∧ (X ^^^ 2 ^ (55 - (at0 + k))) % 2 ^ (24 - at0) = 0 := by
  refine ⟨Nat.xor_lt_two_pow h1 (Nat.pow_lt_pow_right (by omega) (by omega)), ?_⟩
  rw [Nat.xor_mod_two_pow, h2, Nat.zero_xor]
  rw [show 55 - (at0 + k) = (24 - at0) + (55 - (at0 + k) - (24 - at0)) by omega, Nat.pow_add, Nat.mul_mod_right]

set_option maxHeartbeats 1600000 in
theorem turned_any (s : ByteArray) (h7 : s.size = 7) (at0 : Nat) (hat : at0 < 56) (mask : Int) (w : World) :
    Calls Tryz.prog 21 #[.string s, .int .i64 (at0 : Int), .int .i64 mask] w fun e w' => Below w.heap.size w w' ∧ ∃ t : List UInt8, e = .returned (.string ⟨t.toArray⟩) ∧ t.length = 7 ∧ ∃ X, n7 t = n7 s.data.toList ^^^ X ∧ X < 2 ^ (56 - at0) ∧ X % 2 ^ (24 - at0) = 0 := by
  have hcv := Go.Lib.run_convert_string_bytes (P := Tryz.prog) w 9 51 5 s Tryz.underlying9 tU52 tU5
  rw [h7] at hcv
  obtain ⟨N, hT0⟩ := tb_conv w s h7
  have hb0 := below_conv w s
  obtain ⟨l0, HL0⟩ : ∃ l0, Hid (l0 = s.data.toList) := ⟨_, rfl⟩
  have hl7 : l0.length = 7 := by rw [HL0.out, Array.length_toList]; exact h7
  rw [← HL0.out] at hT0 ⊢
  generalize Go.Lib.bytesWorld w 5 s = W1 at hcv hT0 hb0
  generalize grownCap w 7 0 5 = cap at hcv
  have HT0 := hide hT0
  have HB0 := hide hb0
  clear hT0 hb0
  go_enter Tryz.func21, Tryz.ntmps21
  go_wp2_with fail
  go_loopw [8] (fun kk wr => ∃ (k : Nat) (tl : List UInt8) (X : Nat), kk = .int .i64 k ∧ k ≤ 32 ∧ tl.length = 7 ∧ Tb wr w.heap.size N tl ∧ Below w.heap.size w wr ∧ n7 tl = n7 l0 ^^^ X ∧ X < 2 ^ (56 - at0) ∧ X % 2 ^ (24 - at0) = 0) (fun kk _ => 32 - (intOf kk).toNat)
  case atStart => exact ⟨0, l0, 0, rfl, by omega, hl7, HT0.out, HB0.out, by simp, Nat.two_pow_pos _, by simp⟩
  case round =>
    clear HT0 HB0 hcv
    obtain ⟨k, tl, X, rfl, hk, htl, hT, hb, hx1, hx2, hx3⟩ := hrel
    have HT := hide hT
    have HB := hide hb
    have HX1 := hide hx1
    have HX2 := hide hx2
    have HX3 := hide hx3
    clear hT hb hx1 hx2 hx3
    by_cases hlt : k < 32
    · by_cases hin : at0 + k < 56
      · have hc := HT.out.cell (j := (at0 + k) / 8) (by omega)
        have hfz := HT.out.free (j := (at0 + k) / 8) (by omega)
        have hbt : (tl.getD ((at0 + k) / 8) 0).toNat < 256 := UInt8.toNat_lt _
        generalize hob : tl.getD ((at0 + k) / 8) 0 = ob at hc hbt
        go_wp2_with fail
        · go_region
          go_wp2_with fail
          have hlt256 : ob.toNat ^^^ 2 ^ (7 - (at0 + k) % 8) < 256 := Nat.xor_lt_two_pow (n := 8) hbt (Nat.pow_lt_pow_right (by omega) (by omega))
          have hy : (UInt8.ofNat (ob.toNat ^^^ 2 ^ (7 - (at0 + k) % 8))).toNat = ob.toNat ^^^ 2 ^ (7 - (at0 + k) % 8) := by rw [UInt8.toNat_ofNat']; exact Nat.mod_eq_of_lt hlt256
          have htb := turn_bit hlt hin HX2.out HX3.out
          rw [xor_walk ob.toNat hbt (7 - (at0 + k) % 8) (by omega)]
          refine ⟨⟨k + 1, tl.set ((at0 + k) / 8) (UInt8.ofNat (ob.toNat ^^^ 2 ^ (7 - (at0 + k) % 8))), X ^^^ 2 ^ (55 - (at0 + k)), by go_num, by omega, by rw [List.length_set]; exact htl, ?_, (HB.out.setCell (Nat.le_refl _) _).drew, ?_, htb.1, htb.2⟩, by simp [intOf]; omega⟩
          · have hs := HT.out.set htl (j := (at0 + k) / 8) (by omega) (UInt8.ofNat (ob.toNat ^^^ 2 ^ (7 - (at0 + k) % 8)))
            rw [hy] at hs
            exact hs
          · rw [n7_set htl (j := (at0 + k) / 8) (by omega) (t := 7 - (at0 + k) % 8) (by omega) (by rw [hob]; exact hy), show 8 * (6 - (at0 + k) / 8) + (7 - (at0 + k) % 8) = 55 - (at0 + k) by omega, HX1.out, Nat.xor_assoc]
        · (refine ⟨⟨k + 1, tl, X, by go_num, by omega, htl, HT.out, HB.out, HX1.out, HX2.out, HX3.out⟩, ?_⟩; simp [intOf]; omega)
      · go_wp2_with fail
        all_goals (refine ⟨⟨k + 1, tl, X, by go_num, by omega, htl, HT.out, HB.out, HX1.out, HX2.out, HX3.out⟩, ?_⟩; simp [intOf]; omega)
    · obtain rfl : k = 32 := by omega
      have hcv := run_convert_bytes_back (P := Tryz.prog) wr 51 9 5 ⟨w.heap.size, 0, none⟩ cap tl tU52 tU5 Tryz.underlying9 (fun j hj => by
        have ha : (Addr.add ⟨w.heap.size, 0, none⟩ j) = ⟨w.heap.size, j, none⟩ := by unfold Addr.add; split <;> simp_all
        rw [ha, HT.out.cell (by omega)]; simp [List.getD_eq_getElem?_getD, hj])
      rw [htl] at hcv
      go_wp2_with fail
      go_ret
      exact ⟨HB.out, tl, rfl, htl, X, HX1.out, HX2.out, HX3.out⟩

end Go.Proofs.YtgcedalggnmooabGreatDoor
