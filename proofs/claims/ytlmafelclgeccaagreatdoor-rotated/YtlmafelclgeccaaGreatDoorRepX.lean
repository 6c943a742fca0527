import Derived.Test.YtlmafelclgeccaaGreatDoorRefAX
import Derived.Test.YtlmafelclgeccaaGreatDoorWireAX
namespace Go.Proofs.YtlmafelclgeccaaGreatDoor
set_option linter.unusedSimpArgs false
set_option linter.unusedVariables false
open Go.RowKit
set_option maxRecDepth 100000

theorem ownU {base n : Nat} {l : List UInt8} {x : Int} {w1 : World} {v1 : Value} (c : UInt8) (hx : x = (c.toNat : Int)) (hl : l.length = n)
    (h : w1.ownsRow base 5 1 v1 (n + 1) (U8 l ++ [.int .u8 x])) : w1.ownsRow base 5 1 v1 (l ++ [c]).length (U8 (l ++ [c])) := by
  have e : U8 (l ++ [c]) = U8 l ++ [.int .u8 x] := by simp [U8, hx]
  rw [e, List.length_append, hl]; exact h

theorem i64_and_nat (a b : Nat) (ha : a < 9223372036854775808) (hb : b < 9223372036854775808) : bits .and .i64 (a : Int) (b : Int) = ((a &&& b : Nat) : Int) := by
  have hx : a &&& b < 2 ^ 63 := Nat.and_lt_two_pow _ (by omega)
  show IntKind.i64.wrap ((BitVec.ofInt 64 (a : Int) &&& BitVec.ofInt 64 (b : Int)).toNat : Int) = _
  rw [BitVec.toNat_and, ofInt_i64 a ha, ofInt_i64 b hb, IntWalk.i64_left, wrap64_in _ ⟨by omega, by omega⟩]

theorem byte_hi (m : Nat) (h : m < 9223372036854775808) : bits .or .u8 (bits .and .i64 (m : Int) 127 % 256) 128 = ((m % 128 + 128 : Nat) : Int) := by
  have e := i64_and_nat m 127 h (by omega)
  rw [show ((127 : Nat) : Int) = 127 from rfl, show (127 : Nat) = 2 ^ 7 - 1 from rfl, Nat.and_two_pow_sub_one_eq_mod] at e
  rw [e, show ((m % 2 ^ 7 : Nat) : Int) % 256 = ((m % 128 : Nat) : Int) from by omega, u8_or128_right _ (by omega) (by omega)]
  omega

set_option maxHeartbeats 800000 in
theorem append_num (B : Nat) (v : Value) (l : List UInt8) (n : Nat) (hn : n < 9223372036854775808) (hl : l.length ≤ 1000000) (w : World) (hB : B ≤ w.heap.size) (ho : w.ownsRow B 5 1 v l.length (U8 l)) :
    Calls Tryz.prog 84 #[v, .int .i64 (n : Int)] w fun e w' => ∃ v', e = .returned v' ∧ w'.ownsRow B 5 1 v' (l ++ Pl.num n).length (U8 (l ++ Pl.num n)) ∧ Below B w w' := by
  obtain ⟨i0, hi, hz0, hz1, hz2⟩ := info_parts info5
  have hlen := Pl.num_len n hn
  go_enter Tryz.func84, Tryz.ntmps84
  go_wp2_with fail
  go_loopw [0, 1] (fun t m wr => ∃ (m' : Nat) (l' : List UInt8), m = .int .i64 (m' : Int) ∧ m' ≤ n ∧ wr.ownsRow B 5 1 t l'.length (U8 l') ∧ Hid (l' ++ Pl.num m' = l ++ Pl.num n) ∧ B ≤ wr.heap.size ∧ Below B w wr) (fun _ m _ => (intOf m).toNat)
  case atStart => exact ⟨n, l, rfl, Nat.le_refl _, ho, rfl, hB, Below.refl _ _⟩
  case round =>
    clear ho
    obtain ⟨m, l', rfl, hm, ho, HQ, hsz, hb⟩ := hrel
    have hl' : l'.length ≤ 1000009 := by
      have := congrArg List.length HQ.out
      simp at this
      omega
    by_cases h128 : m < 128
    · go_wp2_with (at_builtin; refine wpList_append_own _ rfl _ _ 85 rfl B 5 i0 (.int .u8 0) 1 1 tU52 hi hz0 hz1 hz2 rfl (by decide) _ _ _ rfl (ho.alloc _) ⟨wr.heap.size, 0, none⟩ 1 1 [.int .u8 ?bb] rfl rfl ?c1 ?c2 ?c3 ?c4 ?c5 ?_)
      case c1 => exact one_new _ _ _
      case c2 => intro u hu; simp at hu; subst hu; rfl
      case c3 => unfold maxLen; omega
      case c4 => omega
      case c5 => simp; omega
      intro v' w2 hown2 hgrow hnn
      have hbb : Below B w w2 := (hb.alloc hsz _).grown hgrow (by simp; omega) (fun k hk => (ho.lt k hk).1)
      have hob := ownU (UInt8.ofNat m) (by rw [UInt8.toNat_ofNat']; omega) rfl hown2
      have HQ' : Hid (l' ++ [UInt8.ofNat m] = l ++ Pl.num n) := by rw [← HQ.out, Pl.num_lt h128]; rfl
      clear hown2 hgrow ho hnn hb HQ
      go_wp2_with fail
      go_ret
      refine ⟨_, rfl, ?_, hbb⟩
      rw [← HQ'.out]; exact hob
    · go_wp2_with (at_builtin; refine wpList_append_own _ rfl _ _ 85 rfl B 5 i0 (.int .u8 0) 1 1 tU52 hi hz0 hz1 hz2 rfl (by decide) _ _ _ rfl (ho.alloc _) ⟨wr.heap.size, 0, none⟩ 1 1 [.int .u8 ?b2] rfl rfl ?c1 ?c2 ?c3 ?c4 ?c5 ?_)
      case c1 => exact one_new _ _ _
      case c2 => intro u hu; simp at hu; subst hu; rfl
      case c3 => unfold maxLen; omega
      case c4 => omega
      case c5 => simp; omega
      intro v' w2 hown2 hgrow hnn
      have hbb : Below B w w2 := (hb.alloc hsz _).grown hgrow (by simp; omega) (fun k hk => (ho.lt k hk).1)
      have hob := ownU (UInt8.ofNat (m % 128 + 128)) (by rw [byte_hi m (by omega), UInt8.toNat_ofNat']; omega) rfl hown2
      have HQ' : Hid ((l' ++ [UInt8.ofNat (m % 128 + 128)]) ++ Pl.num (m / 128) = l ++ Pl.num n) := by rw [← HQ.out, Pl.num_ge h128]; simp [Hid]
      have hsz2 : B ≤ w2.heap.size := by have := hgrow.size; simp at this; omega
      clear hown2 hgrow ho hnn hb HQ
      go_wp2_with fail
      go_roundw
      case rel => exact ⟨m / 128, _, by go_num, by omega, hob, HQ', hsz2, hbb⟩
      case measure => simp [intOf]; omega

theorem conv_row (w : World) (B g n cap : Nat) (l : List UInt8) (hl : l.length = n) (h : w.ownsRow B 5 1 (.slice (some ⟨g, 0, none⟩) n cap) n (U8 l)) :
    (convert 85 9 (.slice (some ⟨g, 0, none⟩) n cap)).run Tryz.prog w = .ok (.string ⟨l.toArray⟩) w := by
  have h1 := run_convert_bytes_back (P := Tryz.prog) w 85 9 5 ⟨g, 0, none⟩ cap l tU52 tU5 tU9 (fun j hj => by
    have ha : (Addr.add ⟨g, 0, none⟩ j) = ⟨g, j, none⟩ := by
      unfold Addr.add; split <;> simp_all
    rw [ha, rowU_cell h hl j (by omega)]; simp [List.getD_eq_getElem?_getD, hj])
  rw [hl] at h1; exact h1

set_option maxHeartbeats 800000 in
theorem reply_nil (c : Nat) (hc : c < 256) (w : World) :
    Calls Tryz.prog 55 #[.slice none 0 0, .int .i64 (c : Int)] w fun e w' => e = .returned (.string ⟨[UInt8.ofNat c].toArray⟩) ∧ Below w.heap.size w w' := by
  have hcv := conv1 w (c : Int) (by omega) (by omega) (0, 0)
  go_enter Tryz.func55, Tryz.ntmps55
  go_wp2_with fail
  refine wp_loop_rounds 1 ?_; rw [rounds_succ]
  go_wp2_with fail
  go_ret
  exact ⟨ret_str (by simp), (Below.refl _ _).alloc (Nat.le_refl _) _⟩

set_option maxHeartbeats 800000 in
theorem reply_some (b cap : Nat) (ns : List Nat) (hn : ∀ n ∈ ns, n < 9223372036854775808) (hl : ns.length ≤ 1000) (hpos : 0 < ns.length) (w : World) (hbw : b < w.heap.size)
    (hc : ∀ j, j < ns.length → w.cell? ⟨b, j, none⟩ = some (.int .i64 (ns.getD j 0 : Nat))) :
    Calls Tryz.prog 55 #[.slice (some ⟨b, 0, none⟩) ns.length cap, .int .i64 0] w fun e w' => e = .returned (.string ⟨(0 :: Pl.toldB ns).toArray⟩) ∧ Below w.heap.size w w' := by
  go_enter Tryz.func55, Tryz.ntmps55
  go_wp2_with fail
  go_loopw [5, 7, 13] (fun t _ i wr => ∃ k : Nat, k ≤ ns.length ∧ i = .int .i64 k ∧ wr.ownsRow w.heap.size 5 1 t (0 :: Pl.toldB (ns.take k)).length (U8 (0 :: Pl.toldB (ns.take k))) ∧ w.heap.size ≤ wr.heap.size ∧ Below w.heap.size w wr) (fun _ _ i _ => ns.length - (intOf i).toNat)
  case atStart => exact ⟨0, by omega, rfl, World.ownsRow_lit w #[.int .u8 0] 1 (Nat.le_refl _) (by unfold maxLen; omega) rfl, by simp, (Below.refl _ _).alloc (Nat.le_refl _) _⟩
  case round =>
    obtain ⟨k, hk, rfl, ho, hsz, hb⟩ := hrel
    by_cases hlt : k < ns.length
    · obtain ⟨n, hn0⟩ : ∃ n, n = ns.getD k 0 := ⟨_, rfl⟩
      have hcx : wr.cell? ⟨b, k, none⟩ = some (.int .i64 (n : Int)) := (hb.cell (by exact hbw)).trans (by rw [hn0]; exact hc k hlt)
      have hnl : n < 9223372036854775808 := by rw [hn0]; exact hn _ (by simp [List.getD_eq_getElem?_getD, hlt])
      have htl : (0 :: Pl.toldB (ns.take k)).length ≤ 1000000 := by
        have := Pl.toldB_len (ns.take k) (fun x hx => hn x (List.mem_of_mem_take hx))
        have h2 : (ns.take k).length ≤ k := List.length_take_le _ _
        simp; omega
      have HT : Hid (0 :: Pl.toldB (ns.take (k + 1)) = (0 :: Pl.toldB (ns.take k)) ++ Pl.num n) := by rw [Pl.toldB_take ns k hlt, ← hn0]; rfl
      have H1 := hide (append_num w.heap.size _ _ n hnl htl wr hsz ho)
      rw [← HT.out] at H1
      clear hn0 hc hn ho
      go_wp2_with (go_at_call 84; refine (H1.out).mono ?_; rintro e w1 ⟨v', rfl, ho1, hb1⟩)
      go_roundw
      case rel => exact ⟨k + 1, by omega, by go_num, ho1, Nat.le_trans hsz hb1.size, hb.trans hb1⟩
      case measure => simp [intOf]; omega
    · have hkk : ns.take k = ns := List.take_of_length_le (by omega)
      rw [hkk, List.length_cons] at ho
      obtain ⟨g, cap', hv, hg, hgw⟩ := own_some ho (by simp)
      rw [hv] at ho
      rw [hv]
      have hcv := conv_row wr _ g _ cap' _ (by simp) ho
      clear ho hv hkk
      go_wp2_with fail
      go_ret
      exact ⟨rfl, hb⟩

end Go.Proofs.YtlmafelclgeccaaGreatDoor

namespace Go.Proofs.YtlmafelclgeccaaGreatDoor
set_option linter.unusedSimpArgs false
set_option linter.unusedVariables false
open Go.RowKit
set_option maxRecDepth 100000

def idB (n : Nat) : Bool := decide (1 ≤ n) && decide (n ≤ 2147483647)

theorem mayI (n : Nat) : Pl.mayB 105 n = idB n := by simp [Pl.mayB, idB]
theorem mayC (n : Nat) : Pl.mayB 99 n = idB n := by simp [Pl.mayB, idB]
theorem mayD (n : Nat) : Pl.mayB 100 n = decide (n ≤ 2147483647) := by simp [Pl.mayB]
theorem mayW (n : Nat) : Pl.mayB 119 n = decide (n ≤ 3) := by simp [Pl.mayB]

set_option maxHeartbeats 800000 in
theorem isId_any (b cap : Nat) (ns : List Nat) (hl : ns.length ≤ 3) (hn : ∀ n ∈ ns, n < 9223372036854775808) (w : World)
    (hc : ∀ j, j < ns.length → w.cell? ⟨b, j, none⟩ = some (.int .i64 (ns.getD j 0 : Nat))) :
    Calls Tryz.prog 193 #[.slice (some ⟨b, 0, none⟩) ns.length cap] w fun e w' => e = .returned (.bool (ns.all idB)) ∧ w' = w := by
  go_enter Tryz.func193, Tryz.ntmps193
  go_wp2_with fail
  go_loop [4, 7] (fun _ i => ∃ k : Nat, k ≤ ns.length ∧ i = .int .i64 k ∧ (∀ j, j < k → idB (ns.getD j 0) = true)) (fun _ i => ns.length - (intOf i).toNat)
  case atStart => exact ⟨0, by omega, rfl, fun j h => absurd h (by omega)⟩
  case round =>
    obtain ⟨k, hk, rfl, hall⟩ := hrel
    by_cases hlt : k < ns.length
    · obtain ⟨n, hn0⟩ : ∃ n, n = ns.getD k 0 := ⟨_, rfl⟩
      have hcx : w.cell? ⟨b, k, none⟩ = some (.int .i64 (n : Int)) := by rw [hn0]; exact hc k hlt
      have hnl : n < 9223372036854775808 := by rw [hn0]; exact hn _ (by simp [List.getD_eq_getElem?_getD, hlt])
      have hmem : n ∈ ns := by rw [hn0]; simp [List.getD_eq_getElem?_getD, hlt]
      have HM := hide hmem
      have HN := hide hn0
      clear hc hn0 hn hmem
      by_cases hid : 1 ≤ n ∧ n ≤ 2147483647
      · obtain ⟨h1, h2⟩ := hid
        go_wp2_with fail
        go_round
        case rel =>
          refine ⟨k + 1, by omega, by go_num, ?_⟩
          intro j hj
          by_cases hjk : j = k
          · subst hjk; rw [← HN.out]; simp [idB, h1, h2]
          · exact hall j (by omega)
        case measure => simp [intOf]; omega
      · have HA : Hid (ns.all idB = false) := by
          cases hq : ns.all idB
          · rfl
          · have := List.all_eq_true.1 hq n HM.out
            simp only [idB, Bool.and_eq_true, decide_eq_true_eq] at this
            exact absurd this hid
        rcases (show n < 1 ∨ 2147483647 < n from by omega) with h | h
        all_goals
          clear hid
          go_wp2_with fail
          go_ret
          exact ⟨by rw [HA.out]; rfl, rfl⟩
    · have HA : Hid (ns.all idB = true) := by
        apply List.all_eq_true.2
        intro x hx
        obtain ⟨j, hj, rfl⟩ := List.getElem_of_mem hx
        have := hall j (by omega)
        simpa [List.getD_eq_getElem?_getD, hj] using this
      clear hc hn
      go_wp2_with fail
      go_ret
      exact ⟨by rw [HA.out]; rfl, rfl⟩

theorem cells_I (w1 : World) (cs : List Nat) (t : TypeId) (b : Nat) (hb : b = w1.heap.size) : ∀ j, j < cs.length → (w1.alloc (.cells (I cs).toArray t)).cell? ⟨b, j, none⟩ = some (.int .i64 (cs.getD j 0 : Nat)) := by
  intro j hj
  subst hb
  rw [World.cell?_alloc_mark]
  simp [I, List.getD_eq_getElem?_getD, hj]

theorem nlt {l : List Nat} (h : ∀ n ∈ l, n < 9223372036854775808) : ∀ n ∈ l, n < 9223372036854775808 := h

set_option maxHeartbeats 800000 in
theorem inRange_Day (a : Nat) (ha : a < 9223372036854775808) (w : World) :
    Calls Tryz.prog 190 #[.agg #[.int .i64 (a : Int)]] w fun e w' => e = .returned (.bool (Pl.mays (Pl.kindsL 1) [a])) ∧ Below w.heap.size w w' := by
  have HM : Hid (Pl.mays (Pl.kindsL 1) [a] = (true && decide (a ≤ 2147483647))) := by
    show Pl.mays [100] [a] = _
    simp [Pl.mays, mayI, mayC, mayD, mayW, Bool.and_assoc]
  rcases (show a ≤ 2147483647 ∨ 2147483647 < a from by omega) with qa | qa
  · go_enter Tryz.func190, Tryz.ntmps190
    go_wp2_with (first | (go_at_call 194; go_in) | (go_at_call 191; go_in) | fail)
    go_ret
    refine ⟨ret_bool (by simp only [HM.out]; try (rw [Bool.eq_iff_iff]; simp [idB]; try omega)), ?_⟩
    · exact (Below.refl _ _).alloc (Nat.le_refl _) _
  · go_enter Tryz.func190, Tryz.ntmps190
    go_wp2_with (first | (go_at_call 194; go_in) | (go_at_call 191; go_in) | fail)
    go_ret
    refine ⟨ret_bool (by simp only [HM.out]; try (rw [Bool.eq_iff_iff]; simp [idB]; try omega)), ?_⟩
    · exact (Below.refl _ _).alloc (Nat.le_refl _) _

set_option maxHeartbeats 800000 in
theorem inRange_Receive (a b c d : Nat) (ha : a < 9223372036854775808) (hb : b < 9223372036854775808) (hc : c < 9223372036854775808) (hd : d < 9223372036854775808) (w : World) :
    Calls Tryz.prog 192 #[.agg #[.int .i64 (a : Int), .int .i64 (b : Int), .int .i64 (c : Int), .int .i64 (d : Int)]] w fun e w' => e = .returned (.bool (Pl.mays (Pl.kindsL 2) [a, b, c, d])) ∧ Below w.heap.size w w' := by
  have H1 : Hid (Calls Tryz.prog 193 #[.slice (some ⟨w.heap.size + 1, 0, none⟩) 2 2] ((w.alloc (.cells #[.int .i64 (a : Int), .int .i64 (b : Int), .int .i64 (c : Int), .int .i64 (d : Int)] 136)).alloc (.cells #[.int .i64 (a : Int), .int .i64 (b : Int)] 2)) fun e w' => e = .returned (.bool ([a, b].all idB)) ∧ w' = ((w.alloc (.cells #[.int .i64 (a : Int), .int .i64 (b : Int), .int .i64 (c : Int), .int .i64 (d : Int)] 136)).alloc (.cells #[.int .i64 (a : Int), .int .i64 (b : Int)] 2))) := by
    have := isId_any (w.heap.size + 1) 2 [a, b] (by simp) (by simp; omega) ((w.alloc (.cells #[.int .i64 (a : Int), .int .i64 (b : Int), .int .i64 (c : Int), .int .i64 (d : Int)] 136)).alloc (.cells #[.int .i64 (a : Int), .int .i64 (b : Int)] 2)) (by
      have h := cells_I (w.alloc (.cells #[.int .i64 (a : Int), .int .i64 (b : Int), .int .i64 (c : Int), .int .i64 (d : Int)] 136)) [a, b] 2 (w.heap.size + 1) (by simp)
      exact h)
    exact this
  have HM : Hid (Pl.mays (Pl.kindsL 2) [a, b, c, d] = (([a, b].all idB) && idB c && decide (d ≤ 2147483647))) := by
    show Pl.mays [105, 105, 99, 100] [a, b, c, d] = _
    simp [Pl.mays, mayI, mayC, mayD, mayW, Bool.and_assoc]
  generalize hq : [a, b].all idB = q at H1
  have HQ := hide hq
  clear hq
  cases q
  · go_enter Tryz.func192, Tryz.ntmps192
    go_wp2_with (first | (go_at_call 193; refine (H1.out).mono ?_; rintro e w1 ⟨rfl, rfl⟩) | (go_at_call 194; go_in) | (go_at_call 191; go_in) | fail)
    go_ret
    refine ⟨ret_bool (by simp only [HM.out, HQ.out]; try (rw [Bool.eq_iff_iff]; simp [idB]; try omega)), ?_⟩
    · exact ((Below.refl _ _).alloc (Nat.le_refl _) _).alloc (by simp) _
  · rcases (show c < 1 ∨ (1 ≤ c ∧ c ≤ 2147483647) ∨ 2147483647 < c from by omega) with qc | qc | qc
    · go_enter Tryz.func192, Tryz.ntmps192
      go_wp2_with (first | (go_at_call 193; refine (H1.out).mono ?_; rintro e w1 ⟨rfl, rfl⟩) | (go_at_call 194; go_in) | (go_at_call 191; go_in) | fail)
      go_ret
      refine ⟨ret_bool (by simp only [HM.out, HQ.out]; try (rw [Bool.eq_iff_iff]; simp [idB]; try omega)), ?_⟩
      · exact ((Below.refl _ _).alloc (Nat.le_refl _) _).alloc (by simp) _
    · obtain ⟨qc1, qc2⟩ := qc
      rcases (show d ≤ 2147483647 ∨ 2147483647 < d from by omega) with qd | qd
      · go_enter Tryz.func192, Tryz.ntmps192
        go_wp2_with (first | (go_at_call 193; refine (H1.out).mono ?_; rintro e w1 ⟨rfl, rfl⟩) | (go_at_call 194; go_in) | (go_at_call 191; go_in) | fail)
        go_ret
        refine ⟨ret_bool (by simp only [HM.out, HQ.out]; try (rw [Bool.eq_iff_iff]; simp [idB]; try omega)), ?_⟩
        · exact ((Below.refl _ _).alloc (Nat.le_refl _) _).alloc (by simp) _
      · go_enter Tryz.func192, Tryz.ntmps192
        go_wp2_with (first | (go_at_call 193; refine (H1.out).mono ?_; rintro e w1 ⟨rfl, rfl⟩) | (go_at_call 194; go_in) | (go_at_call 191; go_in) | fail)
        go_ret
        refine ⟨ret_bool (by simp only [HM.out, HQ.out]; try (rw [Bool.eq_iff_iff]; simp [idB]; try omega)), ?_⟩
        · exact ((Below.refl _ _).alloc (Nat.le_refl _) _).alloc (by simp) _
    · go_enter Tryz.func192, Tryz.ntmps192
      go_wp2_with (first | (go_at_call 193; refine (H1.out).mono ?_; rintro e w1 ⟨rfl, rfl⟩) | (go_at_call 194; go_in) | (go_at_call 191; go_in) | fail)
      go_ret
      refine ⟨ret_bool (by simp only [HM.out, HQ.out]; try (rw [Bool.eq_iff_iff]; simp [idB]; try omega)), ?_⟩
      · exact ((Below.refl _ _).alloc (Nat.le_refl _) _).alloc (by simp) _

set_option maxHeartbeats 800000 in
theorem inRange_Split (a b c : Nat) (ha : a < 9223372036854775808) (hb : b < 9223372036854775808) (hc : c < 9223372036854775808) (w : World) :
    Calls Tryz.prog 195 #[.agg #[.int .i64 (a : Int), .int .i64 (b : Int), .int .i64 (c : Int)]] w fun e w' => e = .returned (.bool (Pl.mays (Pl.kindsL 3) [a, b, c])) ∧ Below w.heap.size w w' := by
  have H1 : Hid (Calls Tryz.prog 193 #[.slice (some ⟨w.heap.size + 1, 0, none⟩) 2 2] ((w.alloc (.cells #[.int .i64 (a : Int), .int .i64 (b : Int), .int .i64 (c : Int)] 139)).alloc (.cells #[.int .i64 (a : Int), .int .i64 (b : Int)] 2)) fun e w' => e = .returned (.bool ([a, b].all idB)) ∧ w' = ((w.alloc (.cells #[.int .i64 (a : Int), .int .i64 (b : Int), .int .i64 (c : Int)] 139)).alloc (.cells #[.int .i64 (a : Int), .int .i64 (b : Int)] 2))) := by
    have := isId_any (w.heap.size + 1) 2 [a, b] (by simp) (by simp; omega) ((w.alloc (.cells #[.int .i64 (a : Int), .int .i64 (b : Int), .int .i64 (c : Int)] 139)).alloc (.cells #[.int .i64 (a : Int), .int .i64 (b : Int)] 2)) (by
      have h := cells_I (w.alloc (.cells #[.int .i64 (a : Int), .int .i64 (b : Int), .int .i64 (c : Int)] 139)) [a, b] 2 (w.heap.size + 1) (by simp)
      exact h)
    exact this
  have HM : Hid (Pl.mays (Pl.kindsL 3) [a, b, c] = (([a, b].all idB) && idB c)) := by
    show Pl.mays [105, 105, 99] [a, b, c] = _
    simp [Pl.mays, mayI, mayC, mayD, mayW, Bool.and_assoc]
  generalize hq : [a, b].all idB = q at H1
  have HQ := hide hq
  clear hq
  cases q
  · go_enter Tryz.func195, Tryz.ntmps195
    go_wp2_with (first | (go_at_call 193; refine (H1.out).mono ?_; rintro e w1 ⟨rfl, rfl⟩) | (go_at_call 194; go_in) | (go_at_call 191; go_in) | fail)
    go_ret
    refine ⟨ret_bool (by simp only [HM.out, HQ.out]; try (rw [Bool.eq_iff_iff]; simp [idB]; try omega)), ?_⟩
    · exact ((Below.refl _ _).alloc (Nat.le_refl _) _).alloc (by simp) _
  · rcases (show c < 1 ∨ (1 ≤ c ∧ c ≤ 2147483647) ∨ 2147483647 < c from by omega) with qc | qc | qc
    · go_enter Tryz.func195, Tryz.ntmps195
      go_wp2_with (first | (go_at_call 193; refine (H1.out).mono ?_; rintro e w1 ⟨rfl, rfl⟩) | (go_at_call 194; go_in) | (go_at_call 191; go_in) | fail)
      go_ret
      refine ⟨ret_bool (by simp only [HM.out, HQ.out]; try (rw [Bool.eq_iff_iff]; simp [idB]; try omega)), ?_⟩
      · exact ((Below.refl _ _).alloc (Nat.le_refl _) _).alloc (by simp) _
    · obtain ⟨qc1, qc2⟩ := qc
      go_enter Tryz.func195, Tryz.ntmps195
      go_wp2_with (first | (go_at_call 193; refine (H1.out).mono ?_; rintro e w1 ⟨rfl, rfl⟩) | (go_at_call 194; go_in) | (go_at_call 191; go_in) | fail)
      go_ret
      refine ⟨ret_bool (by simp only [HM.out, HQ.out]; try (rw [Bool.eq_iff_iff]; simp [idB]; try omega)), ?_⟩
      · exact ((Below.refl _ _).alloc (Nat.le_refl _) _).alloc (by simp) _
    · go_enter Tryz.func195, Tryz.ntmps195
      go_wp2_with (first | (go_at_call 193; refine (H1.out).mono ?_; rintro e w1 ⟨rfl, rfl⟩) | (go_at_call 194; go_in) | (go_at_call 191; go_in) | fail)
      go_ret
      refine ⟨ret_bool (by simp only [HM.out, HQ.out]; try (rw [Bool.eq_iff_iff]; simp [idB]; try omega)), ?_⟩
      · exact ((Below.refl _ _).alloc (Nat.le_refl _) _).alloc (by simp) _

set_option maxHeartbeats 800000 in
theorem inRange_Merge (a b c : Nat) (ha : a < 9223372036854775808) (hb : b < 9223372036854775808) (hc : c < 9223372036854775808) (w : World) :
    Calls Tryz.prog 196 #[.agg #[.int .i64 (a : Int), .int .i64 (b : Int), .int .i64 (c : Int)]] w fun e w' => e = .returned (.bool (Pl.mays (Pl.kindsL 4) [a, b, c])) ∧ Below w.heap.size w w' := by
  have H1 : Hid (Calls Tryz.prog 193 #[.slice (some ⟨w.heap.size + 1, 0, none⟩) 3 3] ((w.alloc (.cells #[.int .i64 (a : Int), .int .i64 (b : Int), .int .i64 (c : Int)] 142)).alloc (.cells #[.int .i64 (a : Int), .int .i64 (b : Int), .int .i64 (c : Int)] 2)) fun e w' => e = .returned (.bool ([a, b, c].all idB)) ∧ w' = ((w.alloc (.cells #[.int .i64 (a : Int), .int .i64 (b : Int), .int .i64 (c : Int)] 142)).alloc (.cells #[.int .i64 (a : Int), .int .i64 (b : Int), .int .i64 (c : Int)] 2))) := by
    have := isId_any (w.heap.size + 1) 3 [a, b, c] (by simp) (by simp; omega) ((w.alloc (.cells #[.int .i64 (a : Int), .int .i64 (b : Int), .int .i64 (c : Int)] 142)).alloc (.cells #[.int .i64 (a : Int), .int .i64 (b : Int), .int .i64 (c : Int)] 2)) (by
      have h := cells_I (w.alloc (.cells #[.int .i64 (a : Int), .int .i64 (b : Int), .int .i64 (c : Int)] 142)) [a, b, c] 2 (w.heap.size + 1) (by simp)
      exact h)
    exact this
  have HM : Hid (Pl.mays (Pl.kindsL 4) [a, b, c] = (([a, b, c].all idB))) := by
    show Pl.mays [105, 105, 105] [a, b, c] = _
    simp [Pl.mays, mayI, mayC, mayD, mayW, Bool.and_assoc]
  generalize hq : [a, b, c].all idB = q at H1
  have HQ := hide hq
  clear hq
  cases q
  · go_enter Tryz.func196, Tryz.ntmps196
    go_wp2_with (first | (go_at_call 193; refine (H1.out).mono ?_; rintro e w1 ⟨rfl, rfl⟩) | (go_at_call 194; go_in) | (go_at_call 191; go_in) | fail)
    go_ret
    refine ⟨ret_bool (by simp only [HM.out, HQ.out]; try (rw [Bool.eq_iff_iff]; simp [idB]; try omega)), ?_⟩
    · exact ((Below.refl _ _).alloc (Nat.le_refl _) _).alloc (by simp) _
  · go_enter Tryz.func196, Tryz.ntmps196
    go_wp2_with (first | (go_at_call 193; refine (H1.out).mono ?_; rintro e w1 ⟨rfl, rfl⟩) | (go_at_call 194; go_in) | (go_at_call 191; go_in) | fail)
    go_ret
    refine ⟨ret_bool (by simp only [HM.out, HQ.out]; try (rw [Bool.eq_iff_iff]; simp [idB]; try omega)), ?_⟩
    · exact ((Below.refl _ _).alloc (Nat.le_refl _) _).alloc (by simp) _

set_option maxHeartbeats 800000 in
theorem inRange_Order (a b c d f : Nat) (ha : a < 9223372036854775808) (hb : b < 9223372036854775808) (hc : c < 9223372036854775808) (hd : d < 9223372036854775808) (hf : f < 9223372036854775808) (w : World) :
    Calls Tryz.prog 197 #[.agg #[.int .i64 (a : Int), .int .i64 (b : Int), .int .i64 (c : Int), .int .i64 (d : Int), .int .i64 (f : Int)]] w fun e w' => e = .returned (.bool (Pl.mays (Pl.kindsL 5) [a, b, c, d, f])) ∧ Below w.heap.size w w' := by
  have H1 : Hid (Calls Tryz.prog 193 #[.slice (some ⟨w.heap.size + 1, 0, none⟩) 2 2] ((w.alloc (.cells #[.int .i64 (a : Int), .int .i64 (b : Int), .int .i64 (c : Int), .int .i64 (d : Int), .int .i64 (f : Int)] 145)).alloc (.cells #[.int .i64 (a : Int), .int .i64 (b : Int)] 2)) fun e w' => e = .returned (.bool ([a, b].all idB)) ∧ w' = ((w.alloc (.cells #[.int .i64 (a : Int), .int .i64 (b : Int), .int .i64 (c : Int), .int .i64 (d : Int), .int .i64 (f : Int)] 145)).alloc (.cells #[.int .i64 (a : Int), .int .i64 (b : Int)] 2))) := by
    have := isId_any (w.heap.size + 1) 2 [a, b] (by simp) (by simp; omega) ((w.alloc (.cells #[.int .i64 (a : Int), .int .i64 (b : Int), .int .i64 (c : Int), .int .i64 (d : Int), .int .i64 (f : Int)] 145)).alloc (.cells #[.int .i64 (a : Int), .int .i64 (b : Int)] 2)) (by
      have h := cells_I (w.alloc (.cells #[.int .i64 (a : Int), .int .i64 (b : Int), .int .i64 (c : Int), .int .i64 (d : Int), .int .i64 (f : Int)] 145)) [a, b] 2 (w.heap.size + 1) (by simp)
      exact h)
    exact this
  have HM : Hid (Pl.mays (Pl.kindsL 5) [a, b, c, d, f] = (([a, b].all idB) && idB c && decide (d ≤ 2147483647) && decide (f ≤ 3))) := by
    show Pl.mays [105, 105, 99, 100, 119] [a, b, c, d, f] = _
    simp [Pl.mays, mayI, mayC, mayD, mayW, Bool.and_assoc]
  generalize hq : [a, b].all idB = q at H1
  have HQ := hide hq
  clear hq
  cases q
  · go_enter Tryz.func197, Tryz.ntmps197
    go_wp2_with (first | (go_at_call 193; refine (H1.out).mono ?_; rintro e w1 ⟨rfl, rfl⟩) | (go_at_call 194; go_in) | (go_at_call 191; go_in) | fail)
    go_ret
    refine ⟨ret_bool (by simp only [HM.out, HQ.out]; try (rw [Bool.eq_iff_iff]; simp [idB]; try omega)), ?_⟩
    · exact ((Below.refl _ _).alloc (Nat.le_refl _) _).alloc (by simp) _
  · rcases (show c < 1 ∨ (1 ≤ c ∧ c ≤ 2147483647) ∨ 2147483647 < c from by omega) with qc | qc | qc
    · go_enter Tryz.func197, Tryz.ntmps197
      go_wp2_with (first | (go_at_call 193; refine (H1.out).mono ?_; rintro e w1 ⟨rfl, rfl⟩) | (go_at_call 194; go_in) | (go_at_call 191; go_in) | fail)
      go_ret
      refine ⟨ret_bool (by simp only [HM.out, HQ.out]; try (rw [Bool.eq_iff_iff]; simp [idB]; try omega)), ?_⟩
      · exact ((Below.refl _ _).alloc (Nat.le_refl _) _).alloc (by simp) _
    · obtain ⟨qc1, qc2⟩ := qc
      rcases (show d ≤ 2147483647 ∨ 2147483647 < d from by omega) with qd | qd
      · rcases (show f ≤ 3 ∨ 3 < f from by omega) with qf | qf
        · go_enter Tryz.func197, Tryz.ntmps197
          go_wp2_with (first | (go_at_call 193; refine (H1.out).mono ?_; rintro e w1 ⟨rfl, rfl⟩) | (go_at_call 194; go_in) | (go_at_call 191; go_in) | fail)
          go_ret
          refine ⟨ret_bool (by simp only [HM.out, HQ.out]; try (rw [Bool.eq_iff_iff]; simp [idB]; try omega)), ?_⟩
          · exact ((Below.refl _ _).alloc (Nat.le_refl _) _).alloc (by simp) _
        · go_enter Tryz.func197, Tryz.ntmps197
          go_wp2_with (first | (go_at_call 193; refine (H1.out).mono ?_; rintro e w1 ⟨rfl, rfl⟩) | (go_at_call 194; go_in) | (go_at_call 191; go_in) | fail)
          go_ret
          refine ⟨ret_bool (by simp only [HM.out, HQ.out]; try (rw [Bool.eq_iff_iff]; simp [idB]; try omega)), ?_⟩
          · exact ((Below.refl _ _).alloc (Nat.le_refl _) _).alloc (by simp) _
      · go_enter Tryz.func197, Tryz.ntmps197
        go_wp2_with (first | (go_at_call 193; refine (H1.out).mono ?_; rintro e w1 ⟨rfl, rfl⟩) | (go_at_call 194; go_in) | (go_at_call 191; go_in) | fail)
        go_ret
        refine ⟨ret_bool (by simp only [HM.out, HQ.out]; try (rw [Bool.eq_iff_iff]; simp [idB]; try omega)), ?_⟩
        · exact ((Below.refl _ _).alloc (Nat.le_refl _) _).alloc (by simp) _
    · go_enter Tryz.func197, Tryz.ntmps197
      go_wp2_with (first | (go_at_call 193; refine (H1.out).mono ?_; rintro e w1 ⟨rfl, rfl⟩) | (go_at_call 194; go_in) | (go_at_call 191; go_in) | fail)
      go_ret
      refine ⟨ret_bool (by simp only [HM.out, HQ.out]; try (rw [Bool.eq_iff_iff]; simp [idB]; try omega)), ?_⟩
      · exact ((Below.refl _ _).alloc (Nat.le_refl _) _).alloc (by simp) _

set_option maxHeartbeats 800000 in
theorem inRange_Cancel (a : Nat) (ha : a < 9223372036854775808) (w : World) :
    Calls Tryz.prog 198 #[.agg #[.int .i64 (a : Int)]] w fun e w' => e = .returned (.bool (Pl.mays (Pl.kindsL 6) [a])) ∧ Below w.heap.size w w' := by
  have H1 : Hid (Calls Tryz.prog 193 #[.slice (some ⟨w.heap.size + 1, 0, none⟩) 1 1] ((w.alloc (.cells #[.int .i64 (a : Int)] 148)).alloc (.cells #[.int .i64 (a : Int)] 2)) fun e w' => e = .returned (.bool ([a].all idB)) ∧ w' = ((w.alloc (.cells #[.int .i64 (a : Int)] 148)).alloc (.cells #[.int .i64 (a : Int)] 2))) := by
    have := isId_any (w.heap.size + 1) 1 [a] (by simp) (by simp; omega) ((w.alloc (.cells #[.int .i64 (a : Int)] 148)).alloc (.cells #[.int .i64 (a : Int)] 2)) (by
      have h := cells_I (w.alloc (.cells #[.int .i64 (a : Int)] 148)) [a] 2 (w.heap.size + 1) (by simp)
      exact h)
    exact this
  have HM : Hid (Pl.mays (Pl.kindsL 6) [a] = (([a].all idB))) := by
    show Pl.mays [105] [a] = _
    simp [Pl.mays, mayI, mayC, mayD, mayW, Bool.and_assoc]
  generalize hq : [a].all idB = q at H1
  have HQ := hide hq
  clear hq
  cases q
  · go_enter Tryz.func198, Tryz.ntmps198
    go_wp2_with (first | (go_at_call 193; refine (H1.out).mono ?_; rintro e w1 ⟨rfl, rfl⟩) | (go_at_call 194; go_in) | (go_at_call 191; go_in) | fail)
    go_ret
    refine ⟨ret_bool (by simp only [HM.out, HQ.out]; try (rw [Bool.eq_iff_iff]; simp [idB]; try omega)), ?_⟩
    · exact ((Below.refl _ _).alloc (Nat.le_refl _) _).alloc (by simp) _
  · go_enter Tryz.func198, Tryz.ntmps198
    go_wp2_with (first | (go_at_call 193; refine (H1.out).mono ?_; rintro e w1 ⟨rfl, rfl⟩) | (go_at_call 194; go_in) | (go_at_call 191; go_in) | fail)
    go_ret
    refine ⟨ret_bool (by simp only [HM.out, HQ.out]; try (rw [Bool.eq_iff_iff]; simp [idB]; try omega)), ?_⟩
    · exact ((Below.refl _ _).alloc (Nat.le_refl _) _).alloc (by simp) _

set_option maxHeartbeats 800000 in
theorem inRange_Ship (a : Nat) (ha : a < 9223372036854775808) (w : World) :
    Calls Tryz.prog 199 #[.agg #[.int .i64 (a : Int)]] w fun e w' => e = .returned (.bool (Pl.mays (Pl.kindsL 7) [a])) ∧ Below w.heap.size w w' := by
  have H1 : Hid (Calls Tryz.prog 193 #[.slice (some ⟨w.heap.size + 1, 0, none⟩) 1 1] ((w.alloc (.cells #[.int .i64 (a : Int)] 150)).alloc (.cells #[.int .i64 (a : Int)] 2)) fun e w' => e = .returned (.bool ([a].all idB)) ∧ w' = ((w.alloc (.cells #[.int .i64 (a : Int)] 150)).alloc (.cells #[.int .i64 (a : Int)] 2))) := by
    have := isId_any (w.heap.size + 1) 1 [a] (by simp) (by simp; omega) ((w.alloc (.cells #[.int .i64 (a : Int)] 150)).alloc (.cells #[.int .i64 (a : Int)] 2)) (by
      have h := cells_I (w.alloc (.cells #[.int .i64 (a : Int)] 150)) [a] 2 (w.heap.size + 1) (by simp)
      exact h)
    exact this
  have HM : Hid (Pl.mays (Pl.kindsL 7) [a] = (([a].all idB))) := by
    show Pl.mays [105] [a] = _
    simp [Pl.mays, mayI, mayC, mayD, mayW, Bool.and_assoc]
  generalize hq : [a].all idB = q at H1
  have HQ := hide hq
  clear hq
  cases q
  · go_enter Tryz.func199, Tryz.ntmps199
    go_wp2_with (first | (go_at_call 193; refine (H1.out).mono ?_; rintro e w1 ⟨rfl, rfl⟩) | (go_at_call 194; go_in) | (go_at_call 191; go_in) | fail)
    go_ret
    refine ⟨ret_bool (by simp only [HM.out, HQ.out]; try (rw [Bool.eq_iff_iff]; simp [idB]; try omega)), ?_⟩
    · exact ((Below.refl _ _).alloc (Nat.le_refl _) _).alloc (by simp) _
  · go_enter Tryz.func199, Tryz.ntmps199
    go_wp2_with (first | (go_at_call 193; refine (H1.out).mono ?_; rintro e w1 ⟨rfl, rfl⟩) | (go_at_call 194; go_in) | (go_at_call 191; go_in) | fail)
    go_ret
    refine ⟨ret_bool (by simp only [HM.out, HQ.out]; try (rw [Bool.eq_iff_iff]; simp [idB]; try omega)), ?_⟩
    · exact ((Below.refl _ _).alloc (Nat.le_refl _) _).alloc (by simp) _

set_option maxHeartbeats 800000 in
theorem inRange_Recall (a b : Nat) (ha : a < 9223372036854775808) (hb : b < 9223372036854775808) (w : World) :
    Calls Tryz.prog 200 #[.agg #[.int .i64 (a : Int), .int .i64 (b : Int)]] w fun e w' => e = .returned (.bool (Pl.mays (Pl.kindsL 8) [a, b])) ∧ Below w.heap.size w w' := by
  have H1 : Hid (Calls Tryz.prog 193 #[.slice (some ⟨w.heap.size + 1, 0, none⟩) 2 2] ((w.alloc (.cells #[.int .i64 (a : Int), .int .i64 (b : Int)] 153)).alloc (.cells #[.int .i64 (a : Int), .int .i64 (b : Int)] 2)) fun e w' => e = .returned (.bool ([a, b].all idB)) ∧ w' = ((w.alloc (.cells #[.int .i64 (a : Int), .int .i64 (b : Int)] 153)).alloc (.cells #[.int .i64 (a : Int), .int .i64 (b : Int)] 2))) := by
    have := isId_any (w.heap.size + 1) 2 [a, b] (by simp) (by simp; omega) ((w.alloc (.cells #[.int .i64 (a : Int), .int .i64 (b : Int)] 153)).alloc (.cells #[.int .i64 (a : Int), .int .i64 (b : Int)] 2)) (by
      have h := cells_I (w.alloc (.cells #[.int .i64 (a : Int), .int .i64 (b : Int)] 153)) [a, b] 2 (w.heap.size + 1) (by simp)
      exact h)
    exact this
  have HM : Hid (Pl.mays (Pl.kindsL 8) [a, b] = (([a, b].all idB))) := by
    show Pl.mays [105, 105] [a, b] = _
    simp [Pl.mays, mayI, mayC, mayD, mayW, Bool.and_assoc]
  generalize hq : [a, b].all idB = q at H1
  have HQ := hide hq
  clear hq
  cases q
  · go_enter Tryz.func200, Tryz.ntmps200
    go_wp2_with (first | (go_at_call 193; refine (H1.out).mono ?_; rintro e w1 ⟨rfl, rfl⟩) | (go_at_call 194; go_in) | (go_at_call 191; go_in) | fail)
    go_ret
    refine ⟨ret_bool (by simp only [HM.out, HQ.out]; try (rw [Bool.eq_iff_iff]; simp [idB]; try omega)), ?_⟩
    · exact ((Below.refl _ _).alloc (Nat.le_refl _) _).alloc (by simp) _
  · go_enter Tryz.func200, Tryz.ntmps200
    go_wp2_with (first | (go_at_call 193; refine (H1.out).mono ?_; rintro e w1 ⟨rfl, rfl⟩) | (go_at_call 194; go_in) | (go_at_call 191; go_in) | fail)
    go_ret
    refine ⟨ret_bool (by simp only [HM.out, HQ.out]; try (rw [Bool.eq_iff_iff]; simp [idB]; try omega)), ?_⟩
    · exact ((Below.refl _ _).alloc (Nat.le_refl _) _).alloc (by simp) _

set_option maxHeartbeats 800000 in
theorem inRange_Release (a b : Nat) (ha : a < 9223372036854775808) (hb : b < 9223372036854775808) (w : World) :
    Calls Tryz.prog 201 #[.agg #[.int .i64 (a : Int), .int .i64 (b : Int)]] w fun e w' => e = .returned (.bool (Pl.mays (Pl.kindsL 9) [a, b])) ∧ Below w.heap.size w w' := by
  have H1 : Hid (Calls Tryz.prog 193 #[.slice (some ⟨w.heap.size + 1, 0, none⟩) 2 2] ((w.alloc (.cells #[.int .i64 (a : Int), .int .i64 (b : Int)] 155)).alloc (.cells #[.int .i64 (a : Int), .int .i64 (b : Int)] 2)) fun e w' => e = .returned (.bool ([a, b].all idB)) ∧ w' = ((w.alloc (.cells #[.int .i64 (a : Int), .int .i64 (b : Int)] 155)).alloc (.cells #[.int .i64 (a : Int), .int .i64 (b : Int)] 2))) := by
    have := isId_any (w.heap.size + 1) 2 [a, b] (by simp) (by simp; omega) ((w.alloc (.cells #[.int .i64 (a : Int), .int .i64 (b : Int)] 155)).alloc (.cells #[.int .i64 (a : Int), .int .i64 (b : Int)] 2)) (by
      have h := cells_I (w.alloc (.cells #[.int .i64 (a : Int), .int .i64 (b : Int)] 155)) [a, b] 2 (w.heap.size + 1) (by simp)
      exact h)
    exact this
  have HM : Hid (Pl.mays (Pl.kindsL 9) [a, b] = (([a, b].all idB))) := by
    show Pl.mays [105, 105] [a, b] = _
    simp [Pl.mays, mayI, mayC, mayD, mayW, Bool.and_assoc]
  generalize hq : [a, b].all idB = q at H1
  have HQ := hide hq
  clear hq
  cases q
  · go_enter Tryz.func201, Tryz.ntmps201
    go_wp2_with (first | (go_at_call 193; refine (H1.out).mono ?_; rintro e w1 ⟨rfl, rfl⟩) | (go_at_call 194; go_in) | (go_at_call 191; go_in) | fail)
    go_ret
    refine ⟨ret_bool (by simp only [HM.out, HQ.out]; try (rw [Bool.eq_iff_iff]; simp [idB]; try omega)), ?_⟩
    · exact ((Below.refl _ _).alloc (Nat.le_refl _) _).alloc (by simp) _
  · go_enter Tryz.func201, Tryz.ntmps201
    go_wp2_with (first | (go_at_call 193; refine (H1.out).mono ?_; rintro e w1 ⟨rfl, rfl⟩) | (go_at_call 194; go_in) | (go_at_call 191; go_in) | fail)
    go_ret
    refine ⟨ret_bool (by simp only [HM.out, HQ.out]; try (rw [Bool.eq_iff_iff]; simp [idB]; try omega)), ?_⟩
    · exact ((Below.refl _ _).alloc (Nat.le_refl _) _).alloc (by simp) _

set_option maxHeartbeats 800000 in
theorem inRange_Scrap (a b : Nat) (ha : a < 9223372036854775808) (hb : b < 9223372036854775808) (w : World) :
    Calls Tryz.prog 202 #[.agg #[.int .i64 (a : Int), .int .i64 (b : Int)]] w fun e w' => e = .returned (.bool (Pl.mays (Pl.kindsL 10) [a, b])) ∧ Below w.heap.size w w' := by
  have H1 : Hid (Calls Tryz.prog 193 #[.slice (some ⟨w.heap.size + 1, 0, none⟩) 1 1] ((w.alloc (.cells #[.int .i64 (a : Int), .int .i64 (b : Int)] 158)).alloc (.cells #[.int .i64 (a : Int)] 2)) fun e w' => e = .returned (.bool ([a].all idB)) ∧ w' = ((w.alloc (.cells #[.int .i64 (a : Int), .int .i64 (b : Int)] 158)).alloc (.cells #[.int .i64 (a : Int)] 2))) := by
    have := isId_any (w.heap.size + 1) 1 [a] (by simp) (by simp; omega) ((w.alloc (.cells #[.int .i64 (a : Int), .int .i64 (b : Int)] 158)).alloc (.cells #[.int .i64 (a : Int)] 2)) (by
      have h := cells_I (w.alloc (.cells #[.int .i64 (a : Int), .int .i64 (b : Int)] 158)) [a] 2 (w.heap.size + 1) (by simp)
      exact h)
    exact this
  have HM : Hid (Pl.mays (Pl.kindsL 10) [a, b] = (([a].all idB) && idB b)) := by
    show Pl.mays [105, 99] [a, b] = _
    simp [Pl.mays, mayI, mayC, mayD, mayW, Bool.and_assoc]
  generalize hq : [a].all idB = q at H1
  have HQ := hide hq
  clear hq
  cases q
  · go_enter Tryz.func202, Tryz.ntmps202
    go_wp2_with (first | (go_at_call 193; refine (H1.out).mono ?_; rintro e w1 ⟨rfl, rfl⟩) | (go_at_call 194; go_in) | (go_at_call 191; go_in) | fail)
    go_ret
    refine ⟨ret_bool (by simp only [HM.out, HQ.out]; try (rw [Bool.eq_iff_iff]; simp [idB]; try omega)), ?_⟩
    · exact ((Below.refl _ _).alloc (Nat.le_refl _) _).alloc (by simp) _
  · rcases (show b < 1 ∨ (1 ≤ b ∧ b ≤ 2147483647) ∨ 2147483647 < b from by omega) with qb | qb | qb
    · go_enter Tryz.func202, Tryz.ntmps202
      go_wp2_with (first | (go_at_call 193; refine (H1.out).mono ?_; rintro e w1 ⟨rfl, rfl⟩) | (go_at_call 194; go_in) | (go_at_call 191; go_in) | fail)
      go_ret
      refine ⟨ret_bool (by simp only [HM.out, HQ.out]; try (rw [Bool.eq_iff_iff]; simp [idB]; try omega)), ?_⟩
      · exact ((Below.refl _ _).alloc (Nat.le_refl _) _).alloc (by simp) _
    · obtain ⟨qb1, qb2⟩ := qb
      go_enter Tryz.func202, Tryz.ntmps202
      go_wp2_with (first | (go_at_call 193; refine (H1.out).mono ?_; rintro e w1 ⟨rfl, rfl⟩) | (go_at_call 194; go_in) | (go_at_call 191; go_in) | fail)
      go_ret
      refine ⟨ret_bool (by simp only [HM.out, HQ.out]; try (rw [Bool.eq_iff_iff]; simp [idB]; try omega)), ?_⟩
      · exact ((Below.refl _ _).alloc (Nat.le_refl _) _).alloc (by simp) _
    · go_enter Tryz.func202, Tryz.ntmps202
      go_wp2_with (first | (go_at_call 193; refine (H1.out).mono ?_; rintro e w1 ⟨rfl, rfl⟩) | (go_at_call 194; go_in) | (go_at_call 191; go_in) | fail)
      go_ret
      refine ⟨ret_bool (by simp only [HM.out, HQ.out]; try (rw [Bool.eq_iff_iff]; simp [idB]; try omega)), ?_⟩
      · exact ((Below.refl _ _).alloc (Nat.le_refl _) _).alloc (by simp) _

set_option maxHeartbeats 800000 in
theorem inRange_Look (a : Nat) (ha : a < 9223372036854775808) (w : World) :
    Calls Tryz.prog 203 #[.agg #[.int .i64 (a : Int)]] w fun e w' => e = .returned (.bool (Pl.mays (Pl.kindsL 11) [a])) ∧ Below w.heap.size w w' := by
  have H1 : Hid (Calls Tryz.prog 193 #[.slice (some ⟨w.heap.size + 1, 0, none⟩) 1 1] ((w.alloc (.cells #[.int .i64 (a : Int)] 161)).alloc (.cells #[.int .i64 (a : Int)] 2)) fun e w' => e = .returned (.bool ([a].all idB)) ∧ w' = ((w.alloc (.cells #[.int .i64 (a : Int)] 161)).alloc (.cells #[.int .i64 (a : Int)] 2))) := by
    have := isId_any (w.heap.size + 1) 1 [a] (by simp) (by simp; omega) ((w.alloc (.cells #[.int .i64 (a : Int)] 161)).alloc (.cells #[.int .i64 (a : Int)] 2)) (by
      have h := cells_I (w.alloc (.cells #[.int .i64 (a : Int)] 161)) [a] 2 (w.heap.size + 1) (by simp)
      exact h)
    exact this
  have HM : Hid (Pl.mays (Pl.kindsL 11) [a] = (([a].all idB))) := by
    show Pl.mays [105] [a] = _
    simp [Pl.mays, mayI, mayC, mayD, mayW, Bool.and_assoc]
  generalize hq : [a].all idB = q at H1
  have HQ := hide hq
  clear hq
  cases q
  · go_enter Tryz.func203, Tryz.ntmps203
    go_wp2_with (first | (go_at_call 193; refine (H1.out).mono ?_; rintro e w1 ⟨rfl, rfl⟩) | (go_at_call 194; go_in) | (go_at_call 191; go_in) | fail)
    go_ret
    refine ⟨ret_bool (by simp only [HM.out, HQ.out]; try (rw [Bool.eq_iff_iff]; simp [idB]; try omega)), ?_⟩
    · exact ((Below.refl _ _).alloc (Nat.le_refl _) _).alloc (by simp) _
  · go_enter Tryz.func203, Tryz.ntmps203
    go_wp2_with (first | (go_at_call 193; refine (H1.out).mono ?_; rintro e w1 ⟨rfl, rfl⟩) | (go_at_call 194; go_in) | (go_at_call 191; go_in) | fail)
    go_ret
    refine ⟨ret_bool (by simp only [HM.out, HQ.out]; try (rw [Bool.eq_iff_iff]; simp [idB]; try omega)), ?_⟩
    · exact ((Below.refl _ _).alloc (Nat.le_refl _) _).alloc (by simp) _

set_option maxHeartbeats 800000 in
theorem inRange_Supply (a b : Nat) (ha : a < 9223372036854775808) (hb : b < 9223372036854775808) (w : World) :
    Calls Tryz.prog 204 #[.agg #[.int .i64 (a : Int), .int .i64 (b : Int)]] w fun e w' => e = .returned (.bool (Pl.mays (Pl.kindsL 12) [a, b])) ∧ Below w.heap.size w w' := by
  have H1 : Hid (Calls Tryz.prog 193 #[.slice (some ⟨w.heap.size + 1, 0, none⟩) 1 1] ((w.alloc (.cells #[.int .i64 (a : Int), .int .i64 (b : Int)] 164)).alloc (.cells #[.int .i64 (a : Int)] 2)) fun e w' => e = .returned (.bool ([a].all idB)) ∧ w' = ((w.alloc (.cells #[.int .i64 (a : Int), .int .i64 (b : Int)] 164)).alloc (.cells #[.int .i64 (a : Int)] 2))) := by
    have := isId_any (w.heap.size + 1) 1 [a] (by simp) (by simp; omega) ((w.alloc (.cells #[.int .i64 (a : Int), .int .i64 (b : Int)] 164)).alloc (.cells #[.int .i64 (a : Int)] 2)) (by
      have h := cells_I (w.alloc (.cells #[.int .i64 (a : Int), .int .i64 (b : Int)] 164)) [a] 2 (w.heap.size + 1) (by simp)
      exact h)
    exact this
  have HM : Hid (Pl.mays (Pl.kindsL 12) [a, b] = (([a].all idB) && decide (b ≤ 2147483647))) := by
    show Pl.mays [105, 100] [a, b] = _
    simp [Pl.mays, mayI, mayC, mayD, mayW, Bool.and_assoc]
  generalize hq : [a].all idB = q at H1
  have HQ := hide hq
  clear hq
  cases q
  · go_enter Tryz.func204, Tryz.ntmps204
    go_wp2_with (first | (go_at_call 193; refine (H1.out).mono ?_; rintro e w1 ⟨rfl, rfl⟩) | (go_at_call 194; go_in) | (go_at_call 191; go_in) | fail)
    go_ret
    refine ⟨ret_bool (by simp only [HM.out, HQ.out]; try (rw [Bool.eq_iff_iff]; simp [idB]; try omega)), ?_⟩
    · exact ((Below.refl _ _).alloc (Nat.le_refl _) _).alloc (by simp) _
  · rcases (show b ≤ 2147483647 ∨ 2147483647 < b from by omega) with qb | qb
    · go_enter Tryz.func204, Tryz.ntmps204
      go_wp2_with (first | (go_at_call 193; refine (H1.out).mono ?_; rintro e w1 ⟨rfl, rfl⟩) | (go_at_call 194; go_in) | (go_at_call 191; go_in) | fail)
      go_ret
      refine ⟨ret_bool (by simp only [HM.out, HQ.out]; try (rw [Bool.eq_iff_iff]; simp [idB]; try omega)), ?_⟩
      · exact ((Below.refl _ _).alloc (Nat.le_refl _) _).alloc (by simp) _
    · go_enter Tryz.func204, Tryz.ntmps204
      go_wp2_with (first | (go_at_call 193; refine (H1.out).mono ?_; rintro e w1 ⟨rfl, rfl⟩) | (go_at_call 194; go_in) | (go_at_call 191; go_in) | fail)
      go_ret
      refine ⟨ret_bool (by simp only [HM.out, HQ.out]; try (rw [Bool.eq_iff_iff]; simp [idB]; try omega)), ?_⟩
      · exact ((Below.refl _ _).alloc (Nat.le_refl _) _).alloc (by simp) _

end Go.Proofs.YtlmafelclgeccaaGreatDoor
