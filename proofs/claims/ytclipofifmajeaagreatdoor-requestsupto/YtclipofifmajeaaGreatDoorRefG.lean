import Derived.Test.YtclipofifmajeaaGreatDoorRefE
import Derived.Test.YtclipofifmajeaaGreatDoorRefF
import Derived.Deep.QuietTactic
import Derived.BigQuiet
namespace Go.Proofs.YtclipofifmajeaaGreatDoor
set_option linter.unusedSimpArgs false
set_option linter.unusedVariables false
open Go.RowKit
set_option maxRecDepth 100000

set_option maxHeartbeats 400000 in
theorem frame_any (c : ByteArray) (hc : c.size ≤ 2097143) (w : World) :
    Calls Tryz.prog 26 #[.string c] w fun e w' => Below w.heap.size w w' ∧ ∃ f : ByteArray, e = .returned (.string f) ∧ f.size ≤ c.size + 13 := by
  have hl := Pl.num_len c.size (by omega)
  have H1 := hide (number_any _ (c.size : Int) (Nat.le_refl _) (by omega) (by omega) w)
  rw [Int.toNat_natCast] at H1
  go_enter Tryz.func26, Tryz.ntmps26
  go_wp2_with (first
    | (go_at_call 46; refine (H1.out).mono ?_; rintro e w1 ⟨rfl, hb1⟩)
    | (go_at_call 47; refine (check_any _ ?hsz _).mono ?_; rotate_left; rintro e w2 ⟨hb2, k, rfl, hk⟩))
  case hsz => rw [ByteArray.size_append', ByteArray.size_mk']; simp; omega
  go_ret
  exact ⟨hb1.trans (hb2.mono hb1.size), _, rfl, by simp [ByteArray.size_append', ByteArray.size_mk', hk]; omega⟩

set_option maxHeartbeats 400000 in
theorem command_empty (w : World) :
    Calls Tryz.prog 24 #[.string ⟨#[]⟩] w fun e w' => e = .returned (.tuple #[.int .i64 0, .slice none 0 0, .int .i64 1]) ∧ w' = w := by
  go_enter Tryz.func24, Tryz.ntmps24
  go_wp2_with fail
  go_ret3
  exact ⟨rfl, rfl⟩

theorem extract1_size (s : ByteArray) : (s.extract 1 s.size).size = s.size - 1 := by rw [ByteArray.size_extract]; omega

/-- What 'Numbers' gives, with the slice's shape. -/
theorem numbers_some (s : ByteArray) (hs : s.size ≤ 2097152) (ns : List Nat) (hn : Pl.nums s.data.toList = some ns) (w : World) :
    Calls Tryz.prog 36 #[.string s] w fun e w' => Below w.heap.size w w' ∧
      ∃ a cap, e = .returned (.tuple #[.slice a ns.length cap, .bool true]) ∧ w'.ownsRow w.heap.size 3 1 (.slice a ns.length cap) ns.length (I ns) := by
  refine (numbers_any s hs w).mono ?_
  rintro e w' ⟨hb, h | h⟩
  · obtain ⟨ns', v, h1, rfl, ho⟩ := h
    rw [hn] at h1
    cases h1
    obtain ⟨a, cap, rfl⟩ := own_shape ho
    exact ⟨hb, a, cap, rfl, ho⟩
  · rw [hn] at h; cases h.1

theorem numbers_none (s : ByteArray) (hs : s.size ≤ 2097152) (hn : Pl.nums s.data.toList = none) (w : World) :
    Calls Tryz.prog 36 #[.string s] w fun e w' => Below w.heap.size w w' ∧ e = .returned (.tuple #[.slice none 0 0, .bool false]) := by
  refine (numbers_any s hs w).mono ?_
  rintro e w' ⟨hb, h | h⟩
  · obtain ⟨ns', v, h1, _⟩ := h
    rw [hn] at h1
    cases h1
  · exact ⟨hb, h.2⟩

theorem not_empty (s : ByteArray) (h0 : 0 < s.size) : s.toList.isEmpty = false := by
  rw [ByteArray.toList_eq]
  cases h : s.data.toList with
  | nil =>
    have hl : s.data.toList.length = s.size := by simp
    rw [h] at hl
    have : s.size = 0 := hl.symm
    omega
  | cons => rfl

set_option maxHeartbeats 400000 in
theorem command_none (s : ByteArray) (hs : s.size ≤ 2097152) (h0 : 0 < s.size) (hn : Pl.nums (s.data.toList.drop 1) = none) (w : World) :
    Calls Tryz.prog 24 #[.string s] w fun e w' => e = .returned (.tuple #[.int .i64 0, .slice none 0 0, .int .i64 1]) ∧ Below w.heap.size w w' := by
  have hne := not_empty s h0
  have hb : s[0].toNat < 256 := UInt8.toNat_lt _
  have H1 := hide (kinds_any s[0].toNat hb w)
  have H2 := hide (numbers_none (s.extract 1 s.size) (by rw [extract1_size]; omega) (by rw [extract_drop]; exact hn))
  clear hn
  by_cases hk : (Pl.kindsL s[0].toNat).isEmpty = true
  all_goals
    generalize Pl.kindsL s[0].toNat = ks at *
    go_enter Tryz.func24, Tryz.ntmps24
    go_wp2_with fail
    refine (H1.out).mono ?_; rintro e w1 ⟨rfl, hb1⟩
    go_wp2_with fail
    refine (H2.out _).mono ?_; rintro e w2 ⟨hb2, rfl⟩
    go_wp2_with fail
    go_ret3
    exact ⟨rfl, hb1.trans (hb2.mono hb1.size)⟩

set_option maxHeartbeats 400000 in
theorem command_form (s : ByteArray) (hs : s.size ≤ 2097152) (h0 : 0 < s.size) (ns : List Nat) (hn : Pl.nums (s.data.toList.drop 1) = some ns)
    (hf : Pl.kindsL s[0].toNat = [] ∨ ns.length ≠ (Pl.kindsL s[0].toNat).length) (w : World) :
    Calls Tryz.prog 24 #[.string s] w fun e w' => e = .returned (.tuple #[.int .i64 0, .slice none 0 0, .int .i64 1]) ∧ Below w.heap.size w w' := by
  have hne := not_empty s h0
  have hb : s[0].toNat < 256 := UInt8.toNat_lt _
  have H1 := hide (kinds_any s[0].toNat hb w)
  have H2 := hide (numbers_some (s.extract 1 s.size) (by rw [extract1_size]; omega) ns (by rw [extract_drop]; exact hn))
  clear hn
  generalize Pl.kindsL s[0].toNat = ks at *
  by_cases hk : ks.isEmpty = true
  · clear hf
    go_enter Tryz.func24, Tryz.ntmps24
    go_wp2_with fail
    refine (H1.out).mono ?_; rintro e w1 ⟨rfl, hb1⟩
    go_wp2_with fail
    refine (H2.out _).mono ?_; rintro e w2 ⟨hb2, a, cap, rfl, ho⟩
    go_wp2_with fail
    go_ret3
    exact ⟨rfl, hb1.trans (hb2.mono hb1.size)⟩
  · have hlen : ¬ ns.length = ks.length := by
      rcases hf with hf | hf
      · subst hf; simp at hk
      · exact hf
    have hlb : ((ns.length : Int) != (ks.length : Int)) = true := by rw [bne_iff_ne]; omega
    clear hf
    go_enter Tryz.func24, Tryz.ntmps24
    go_wp2_with fail
    refine (H1.out).mono ?_; rintro e w1 ⟨rfl, hb1⟩
    go_wp2_with fail
    refine (H2.out _).mono ?_; rintro e w2 ⟨hb2, a, cap, rfl, ho⟩
    go_wp2_with fail
    go_ret3
    exact ⟨rfl, hb1.trans (hb2.mono hb1.size)⟩

/-- 'mays' place by place. -/
theorem mays_iff : ∀ (ks : List UInt8) (ns : List Nat), ks.length = ns.length → (Pl.mays ks ns = true ↔ ∀ j, j < ns.length → Pl.mayB (ks.getD j 0) (ns.getD j 0) = true)
  | [], [], _ => by simp [Pl.mays]
  | [], _ :: _, h => by simp at h
  | _ :: _, [], h => by simp at h
  | k :: ks, n :: ns, h => by
    rw [Pl.mays, Bool.and_eq_true, mays_iff ks ns (by simpa using h)]
    constructor
    · rintro ⟨h1, h2⟩ j hj
      cases j with
      | zero => exact h1
      | succ j => exact h2 j (by simpa using hj)
    · intro h1
      exact ⟨h1 0 (by simp), fun j hj => h1 (j + 1) (by simpa using hj)⟩

theorem rowI_cell {w : World} {base g n cap : Nat} {ns : List Nat} (h : w.ownsRow base 3 1 (.slice (some ⟨g, 0, none⟩) n cap) n (I ns)) (hl : ns.length = n) (k : Nat) (hk : k < n) :
    w.cell? ⟨g, k, none⟩ = some (.int .i64 (ns.getD k 0 : Nat)) := by
  rw [h.cellAt k (by omega)]
  simp [I, List.getD_eq_getElem?_getD, List.getElem?_eq_getElem (show k < ns.length by omega)]

set_option maxHeartbeats 800000 in
theorem command_good (s : ByteArray) (hs : s.size ≤ 2097152) (h0 : 0 < s.size) (ns : List Nat) (hn : Pl.nums (s.data.toList.drop 1) = some ns)
    (hne0 : Pl.kindsL s[0].toNat ≠ []) (hlen : ns.length = (Pl.kindsL s[0].toNat).length) (w : World) :
    Calls Tryz.prog 24 #[.string s] w fun e w' => Below w.heap.size w w' ∧
      ((Pl.mays (Pl.kindsL s[0].toNat) ns = false ∧ e = .returned (.tuple #[.int .i64 0, .slice none 0 0, .int .i64 2])) ∨
       (Pl.mays (Pl.kindsL s[0].toNat) ns = true ∧ ∃ g cap, e = .returned (.tuple #[.int .i64 (s[0].toNat : Int), .slice (some ⟨g, 0, none⟩) ns.length cap, .int .i64 0]) ∧ w'.ownsRow w.heap.size 3 1 (.slice (some ⟨g, 0, none⟩) ns.length cap) ns.length (I ns))) := by
  have hne := not_empty s h0
  have hb : s[0].toNat < 256 := UInt8.toNat_lt _
  have H1 := hide (kinds_any s[0].toNat hb w)
  have H2 := hide (numbers_some (s.extract 1 s.size) (by rw [extract1_size]; omega) ns (by rw [extract_drop]; exact hn))
  have HB := hide (Pl.nums_lt _ _ ns (Nat.le_refl _) hn)
  clear hn
  have hkl : (Pl.kindsL s[0].toNat).length ≤ 2097152 := by unfold Pl.kindsL; split <;> simp
  generalize Pl.kindsL s[0].toNat = ks at *
  have hk : ks.isEmpty = false := by cases ks <;> simp at hne0 ⊢
  have hpos : 0 < ks.length := by cases ks <;> simp at hne0 ⊢
  have hlb : ((ns.length : Int) != (ks.length : Int)) = false := by rw [bne_eq_false_iff_eq]; omega
  have HLen := hide hlen
  have hle1 : ns.length ≤ ks.length := by omega
  have hle2 : ks.length ≤ ns.length := by omega
  have HMI := hide (mays_iff ks ns hlen.symm)
  clear hlen hne0
  go_enter Tryz.func24, Tryz.ntmps24
  go_wp2_with fail
  refine (H1.out).mono ?_; rintro e w1 ⟨rfl, hb1⟩
  go_wp2_with fail
  refine (H2.out _).mono ?_; rintro e w2 ⟨hb2, a, cap, rfl, ho⟩
  obtain ⟨g, cap', hv, hg, hgw⟩ := own_some ho (by omega)
  rw [hv] at ho
  rw [hv]
  clear hv
  have hbb := hb1.trans (hb2.mono hb1.size)
  have ho' : w2.ownsRow w.heap.size 3 1 (.slice (some ⟨g, 0, none⟩) ns.length cap') ns.length (I ns) := ⟨ho.1, by
    rcases ho.2 with h | ⟨g1, c1, cur, h1, h2, h3⟩
    · exact Or.inl h
    · exact Or.inr ⟨g1, c1, cur, h1, Nat.le_trans hb1.size h2, h3⟩⟩
  have HO := hide ho'
  have hcells := fun k hk => rowI_cell ho' rfl k hk
  clear ho ho' hb1 hb2
  go_wp2_with fail
  go_loopw [9, 10] (fun i _ wr => ∃ k : Nat, k ≤ ns.length ∧ i = .int .i64 k ∧ (∀ j, j < k → Pl.mayB (ks.getD j 0) (ns.getD j 0) = true) ∧ ∃ nq, wr = w2.drewN nq) (fun i _ _ => ns.length - (intOf i).toNat)
  case atStart => exact ⟨0, by omega, rfl, fun j h => absurd h (by omega), 0, rfl⟩
  case round =>
    obtain ⟨k, hkn, rfl, hall, nqo, hwr⟩ := hrel
    by_cases hlt : k < ns.length
    · obtain ⟨n, hn0⟩ : ∃ n, n = ns.getD k 0 := ⟨_, rfl⟩
      have hcx : wr.cell? ⟨g, k, none⟩ = some (.int .i64 (n : Int)) := by rw [hn0, hwr]; exact hcells k hlt
      have HW := hide hwr
      clear hwr
      have hnl : n < 9223372036854775808 := by rw [hn0]; exact HB.out _ (by simp [List.getD_eq_getElem?_getD, hlt])
      have hkk : k < ks.length := by omega
      have HX : Hid (ks.getD k 0 = ks[k]) := by simp [Hid, List.getD_eq_getElem?_getD, hkk]
      have HN0 := hide hn0
      clear hn0 hcells
      go_wp2_with fail
      go_quiet ((go_at_call 37; exact Calls.quiet_of_same (may_any _ n hnl _)))
      have hx : (({ data := ks.toArray } : ByteArray)[k]'(by simpa [ByteArray.size_mk'] using hkk)) = ks.getD k 0 := by
        rw [HX.out]; rfl
      rw [hx]
      have HX2 := hide hx
      clear hx
      generalize hm : Pl.mayB (ks.getD k 0) n = m
      have HM := hide hm
      clear hm
      cases m with
      | true =>
        go_wp2_with fail
        go_roundw
        case rel =>
          refine ⟨k + 1, by omega, by go_num, ?_, nqo + nq, ?_⟩
          · intro j hj
            by_cases hjk : j = k
            · subst hjk; rw [← HN0.out]; exact HM.out
            · exact hall j (by omega)
          · rw [HW.out]; simp
        case measure => simp [intOf]; omega
      | false =>
        go_wp2_with fail
        go_ret3
        refine ⟨?_, Or.inl ⟨?_, rfl⟩⟩
        · rw [HW.out]; exact below_drewN (below_drewN hbb nqo) nq
        · cases hq : Pl.mays ks ns
          · rfl
          · have := HMI.out.1 hq k hlt
            rw [← HN0.out, HM.out] at this
            cases this
    · obtain rfl : k = ns.length := by omega
      clear hlt
      subst hwr
      go_wp2_with fail
      go_ret3
      exact ⟨below_drewN hbb nqo, Or.inr ⟨HMI.out.2 hall, g, cap', rfl, HO.out⟩⟩

/-- 'Command', by the plain function. -/
def CmdPost (w : World) (c : Pl.Cmd) (e : Ending) (w' : World) : Prop :=
  Below w.heap.size w w' ∧
  match c with
  | .error b => e = .returned (.tuple #[.int .i64 0, .slice none 0 0, .int .i64 (b : Int)])
  | .ok (c, ns) => ∃ g cap, e = .returned (.tuple #[.int .i64 (c : Int), .slice (some ⟨g, 0, none⟩) ns.length cap, .int .i64 0]) ∧ w'.ownsRow w.heap.size 3 1 (.slice (some ⟨g, 0, none⟩) ns.length cap) ns.length (I ns)

theorem command_any (s : ByteArray) (hs : s.size ≤ 2097152) (w : World) :
    Calls Tryz.prog 24 #[.string s] w (CmdPost w (Pl.cmd s.data.toList)) := by
  by_cases h0 : 0 < s.size
  · have hl : s.data.toList = s[0] :: s.data.toList.drop 1 := by
      have h1 : 0 < s.data.toList.length := by simpa using h0
      have h2 : s.data.toList[0] :: s.data.toList.drop (0 + 1) = s.data.toList.drop 0 := List.getElem_cons_drop h1
      rw [List.drop_zero] at h2
      exact h2.symm
    cases hn : Pl.nums (s.data.toList.drop 1) with
    | none =>
      have hc : Pl.cmd s.data.toList = .error 1 := by rw [hl]; simp only [Pl.cmd, hn]
      rw [hc]
      exact (command_none s hs h0 hn w).mono fun e w' ⟨h1, h2⟩ => ⟨h2, h1⟩
    | some ns =>
      by_cases hf : Pl.kindsL s[0].toNat = [] ∨ ns.length ≠ (Pl.kindsL s[0].toNat).length
      · have hc : Pl.cmd s.data.toList = .error 1 := by rw [hl]; simp only [Pl.cmd, hn]; rw [if_pos hf]
        rw [hc]
        exact (command_form s hs h0 ns hn hf w).mono fun e w' ⟨h1, h2⟩ => ⟨h2, h1⟩
      · have hf1 : Pl.kindsL s[0].toNat ≠ [] := fun h => hf (Or.inl h)
        have hf2 : ns.length = (Pl.kindsL s[0].toNat).length := Decidable.byContradiction fun h => hf (Or.inr h)
        refine (command_good s hs h0 ns hn hf1 hf2 w).mono ?_
        rintro e w' ⟨hb, ⟨hm, rfl⟩ | ⟨hm, g, cap, rfl, ho⟩⟩
        · have hc : Pl.cmd s.data.toList = .error 2 := by rw [hl]; simp only [Pl.cmd, hn]; rw [if_neg hf]; simp [hm]
          rw [hc]; exact ⟨hb, rfl⟩
        · have hc : Pl.cmd s.data.toList = .ok (s[0].toNat, ns) := by rw [hl]; simp only [Pl.cmd, hn]; rw [if_neg hf]; simp [hm]
          rw [hc]; exact ⟨hb, g, cap, rfl, ho⟩
  · have he : s = ⟨#[]⟩ := by
      apply ByteArray.ext
      apply Array.eq_empty_of_size_eq_zero
      have : s.data.size = s.size := rfl
      omega
    subst he
    exact (command_empty w).mono fun e w' ⟨h1, h2⟩ => ⟨h2 ▸ Below.refl _ _, h1⟩

end Go.Proofs.YtclipofifmajeaaGreatDoor
