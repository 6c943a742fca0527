import Derived.Test.YtclipofifmajeaaGreatDoorR5
namespace Go.Proofs.YtclipofifmajeaaGreatDoor
set_option linter.unusedSimpArgs false
set_option linter.unusedVariables false
open Go.RowKit
set_option maxRecDepth 100000

/-- What a command answers, and what becomes of day and lots. -/
def stepS (td : Nat) (ls : List L) : Pl.Cmd → List UInt8 × Nat × List L
  | .error e => ([UInt8.ofNat e], td, ls)
  | .ok (1, [d]) => if d < td then ([3], td, ls) else ([0], d, ls)
  | .ok (2, [a, b, c, d]) => ([UInt8.ofNat (roomC ls a)], td, if roomC ls a = 0 then ls ++ [newL ls a b c d] else ls)
  | .ok (11, [n]) => if idx n ls < ls.length then (0 :: Pl.toldB (lookL (ls.getD (idx n ls) L0)), td, ls) else ([4], td, ls)
  | .ok (12, [a, b]) => (0 :: Pl.toldB (supL td a b ls), td, ls)
  | _ => ([], td, ls)

theorem cmd_form (l : List UInt8) : Pl.cmd l = match formOf l with
    | none => .error 1
    | some (c, ns) => if Pl.mays (Pl.kindsL c) ns then .ok (c, ns) else .error 2 := by
  cases l with
  | nil => rfl
  | cons c r =>
    simp only [Pl.cmd, formOf]
    cases hn : Pl.nums r with
    | none => by_cases hk : Pl.kindsL c.toNat = [] <;> simp [hk]
    | some ns =>
      by_cases hk : Pl.kindsL c.toNat = []
      · simp [hk]
      · by_cases hl : ns.length = (Pl.kindsL c.toNat).length
        · simp [hk, hl]
        · simp [hk, hl]

theorem form_facts {l : List UInt8} {c : Nat} {ns : List Nat} (h : formOf l = some (c, ns)) : 1 ≤ c ∧ c ≤ 12 ∧ ns.length = (Pl.kindsL c).length ∧ ∀ n ∈ ns, n < 9223372036854775808 := by
  cases l with
  | nil => cases h
  | cons b r =>
    simp only [formOf] at h
    by_cases hk : Pl.kindsL b.toNat = []
    · simp [hk] at h
    · simp only [hk, if_false] at h
      cases hn : Pl.nums r with
      | none => rw [hn] at h; cases h
      | some ms =>
        rw [hn] at h
        by_cases hl : ms.length = (Pl.kindsL b.toNat).length
        · simp only [hl, if_true, Option.some.injEq, Prod.mk.injEq] at h
          obtain ⟨rfl, rfl⟩ := h
          have hb : 1 ≤ b.toNat ∧ b.toNat ≤ 12 := by
            apply Decidable.byContradiction
            intro hc
            apply hk
            unfold Pl.kindsL
            split <;> first | rfl | omega
          exact ⟨hb.1, hb.2, hl, Pl.nums_lt _ r _ (Nat.le_refl _) hn⟩
        · simp [hl] at h

theorem len1 {ns : List Nat} (h : ns.length = 1) : ∃ a, ns = [a] := List.length_eq_one_iff.1 h
theorem len2 {ns : List Nat} (h : ns.length = 2) : ∃ a b, ns = [a, b] := by
  match ns, h with
  | [a, b], _ => exact ⟨a, b, rfl⟩
theorem len3 {ns : List Nat} (h : ns.length = 3) : ∃ a b c, ns = [a, b, c] := by
  match ns, h with
  | [a, b, c], _ => exact ⟨a, b, c, rfl⟩
theorem len4 {ns : List Nat} (h : ns.length = 4) : ∃ a b c d, ns = [a, b, c, d] := by
  match ns, h with
  | [a, b, c, d], _ => exact ⟨a, b, c, d, rfl⟩
theorem len5 {ns : List Nat} (h : ns.length = 5) : ∃ a b c d e, ns = [a, b, c, d, e] := by
  match ns, h with
  | [a, b, c, d, e], _ => exact ⟨a, b, c, d, e, rfl⟩

/-- A command whose numbers may not be. -/
theorem ans_num (w : World) (Lb : Nat) (hg : Gl w) (s : ByteArray) (hs : s.size ≤ 2097152) (c : Nat) (ns : List Nat) (hform : formOf s.data.toList = some (c, ns)) (hm : Pl.mays (Pl.kindsL c) ns = false) :
    Calls Tryz.prog 23 #[.pointer (some ⟨Lb, 0, none⟩), .string s] w fun e w' => e = .returned (.string ⟨[2].toArray⟩) ∧ Below w.heap.size w w' := by
  obtain ⟨hc1, hc2, hlen, hlt⟩ := form_facts hform
  rcases (show c = 1 ∨ c = 2 ∨ c = 3 ∨ c = 4 ∨ c = 5 ∨ c = 6 ∨ c = 7 ∨ c = 8 ∨ c = 9 ∨ c = 10 ∨ c = 11 ∨ c = 12 from by omega) with rfl | rfl | rfl | rfl | rfl | rfl | rfl | rfl | rfl | rfl | rfl | rfl
  · obtain ⟨a, rfl⟩ := len1 hlen
    exact num_Day w Lb hg s hs a (hlt a (by simp)) hform hm
  · obtain ⟨a, b, c, d, rfl⟩ := len4 hlen
    exact num_Receive w Lb hg s hs a b c d (hlt a (by simp)) (hlt b (by simp)) (hlt c (by simp)) (hlt d (by simp)) hform hm
  · obtain ⟨a, b, c, rfl⟩ := len3 hlen
    exact num_Split w Lb hg s hs a b c (hlt a (by simp)) (hlt b (by simp)) (hlt c (by simp)) hform hm
  · obtain ⟨a, b, c, rfl⟩ := len3 hlen
    exact num_Merge w Lb hg s hs a b c (hlt a (by simp)) (hlt b (by simp)) (hlt c (by simp)) hform hm
  · obtain ⟨a, b, c, d, f, rfl⟩ := len5 hlen
    exact num_Order w Lb hg s hs a b c d f (hlt a (by simp)) (hlt b (by simp)) (hlt c (by simp)) (hlt d (by simp)) (hlt f (by simp)) hform hm
  · obtain ⟨a, rfl⟩ := len1 hlen
    exact num_Cancel w Lb hg s hs a (hlt a (by simp)) hform hm
  · obtain ⟨a, rfl⟩ := len1 hlen
    exact num_Ship w Lb hg s hs a (hlt a (by simp)) hform hm
  · obtain ⟨a, b, rfl⟩ := len2 hlen
    exact num_Recall w Lb hg s hs a b (hlt a (by simp)) (hlt b (by simp)) hform hm
  · obtain ⟨a, b, rfl⟩ := len2 hlen
    exact num_Release w Lb hg s hs a b (hlt a (by simp)) (hlt b (by simp)) hform hm
  · obtain ⟨a, b, rfl⟩ := len2 hlen
    exact num_Scrap w Lb hg s hs a b (hlt a (by simp)) (hlt b (by simp)) hform hm
  · obtain ⟨a, rfl⟩ := len1 hlen
    exact num_Look w Lb hg s hs a (hlt a (by simp)) hform hm
  · obtain ⟨a, b, rfl⟩ := len2 hlen
    exact num_Supply w Lb hg s hs a b (hlt a (by simp)) (hlt b (by simp)) hform hm

/-- The codes that are played. -/
def Played (c : Pl.Cmd) : Prop := ∀ n ns, c = .ok (n, ns) → n = 1 ∨ n = 2 ∨ n = 11 ∨ n = 12

theorem answer_any {Z : Nat → Prop} {w : World} {Lb td : Nat} {ls : List L} {os : List O} (h : PL os Z w Lb td ls) (hg : Gl w) (s : ByteArray) (hs : s.size ≤ 2097152) (hp : Played (Pl.cmd s.data.toList)) :
    Calls Tryz.prog 23 #[.pointer (some ⟨Lb, 0, none⟩), .string s] w fun e w' => Kp Z w w' ∧ e = .returned (.string ⟨(stepS td ls (Pl.cmd s.data.toList)).1.toArray⟩) ∧ PL os (Zn Z w) w' Lb (stepS td ls (Pl.cmd s.data.toList)).2.1 (stepS td ls (Pl.cmd s.data.toList)).2.2 := by
  have hcf := cmd_form s.data.toList
  cases hform : formOf s.data.toList with
  | none =>
    rw [hform] at hcf
    rw [hcf]
    refine (ans_bad w Lb hg s hs hform).mono ?_
    rintro e w' ⟨h1, h2⟩
    exact ⟨kpB h2, h1, (h.below h2).mono (fun _ hk => Or.inl hk)⟩
  | some p =>
    obtain ⟨c, ns⟩ := p
    rw [hform] at hcf
    obtain ⟨hc1, hc2, hlen, hlt⟩ := form_facts hform
    cases hm : Pl.mays (Pl.kindsL c) ns with
    | false =>
      simp only [hm, Bool.false_eq_true, if_false] at hcf
      rw [hcf]
      refine (ans_num w Lb hg s hs c ns hform hm).mono ?_
      rintro e w' ⟨h1, h2⟩
      exact ⟨kpB h2, h1, (h.below h2).mono (fun _ hk => Or.inl hk)⟩
    | true =>
      simp only [hm, if_true] at hcf
      rcases hp c ns hcf with rfl | rfl | rfl | rfl
      · obtain ⟨a, rfl⟩ := len1 hlen
        rw [hcf]
        refine (ans_Day h hg s hs a (hlt a (by simp)) hform hm).mono ?_
        rintro e w' ⟨hk, ⟨h1, h2, h3⟩ | ⟨h1, h2, h3⟩⟩
        · simp only [stepS, if_pos h1]; exact ⟨hk, h2, h3⟩
        · simp only [stepS, if_neg (show ¬ a < td by omega)]; exact ⟨hk, h2, h3⟩
      · obtain ⟨a, b, c, d, rfl⟩ := len4 hlen
        rw [hcf]
        refine (ans_Receive h hg s hs a b c d (hlt a (by simp)) (hlt b (by simp)) (hlt c (by simp)) (hlt d (by simp)) hform hm).mono ?_
        rintro e w' ⟨hk, h2, h3⟩
        simp only [stepS]; exact ⟨hk, h2, h3⟩
      · obtain ⟨a, rfl⟩ := len1 hlen
        rw [hcf]
        by_cases hi : idx a ls < ls.length
        · refine (look_hit' h hg s hs a (hlt a (by simp)) hform hm hi).mono ?_
          rintro e w' ⟨h1, h2⟩
          simp only [stepS, if_pos hi]
          exact ⟨kpB h1, h2, (h.below h1).mono (fun _ hk => Or.inl hk)⟩
        · refine (look_miss' h hg s hs a (hlt a (by simp)) hform hm hi).mono ?_
          rintro e w' ⟨h1, h2⟩
          simp only [stepS, if_neg hi]
          exact ⟨kpB h1, h2, (h.below h1).mono (fun _ hk => Or.inl hk)⟩
      · obtain ⟨a, b, rfl⟩ := len2 hlen
        rw [hcf]
        refine (ans_Supply h hg s hs a b (hlt a (by simp)) (hlt b (by simp)) hform hm).mono ?_
        rintro e w' ⟨h1, h2⟩
        simp only [stepS]
        exact ⟨kpB h1, h2, (h.below h1).mono (fun _ hk => Or.inl hk)⟩

set_option maxHeartbeats 800000 in
theorem handleP_any {Z : Nat → Prop} {w : World} {Lb td : Nat} {ls : List L} {os : List O} (h : PL os Z w Lb td ls) (hg : Gl w) (s : ByteArray) (hs : s.size ≤ 2097152) (hp : Played (Pl.cmd s.data.toList)) :
    Calls Tryz.prog 15 #[.pointer (some ⟨Lb, 0, none⟩), .string s] w fun e w' => Kp Z w w' ∧ e = .returned (.string ⟨(stepS td ls (Pl.cmd s.data.toList)).1.toArray⟩) ∧ PL os (Zn Z w) w' Lb (stepS td ls (Pl.cmd s.data.toList)).2.1 (stepS td ls (Pl.cmd s.data.toList)).2.2 := by
  have HA := hide (answer_any h hg s hs hp)
  generalize stepS td ls (Pl.cmd s.data.toList) = st at HA ⊢
  obtain ⟨b, td', ls'⟩ := st
  clear h hp
  go_enter Tryz.func15, Tryz.ntmps15
  go_wp2_with (go_at_call 23; refine (HA.out).mono ?_; rintro e w1 ⟨hk, rfl, hpl⟩)
  go_ret
  exact ⟨hk, rfl, hpl⟩

theorem hR_quiet {Z : Nat → Prop} {w w' : World} {R td : Nat} {rec : ByteArray} {ls : List L} {os : List O} (h : RI os Z w R td rec ls) (hb : Below w.heap.size w w') (n : Nat) : Kp Z w w' ∧ ∃ rec', rec'.size ≤ rec.size + n ∧ RI os (Zn Z w) w' R td rec' ls :=
  ⟨kpB hb, rec, by omega, (h.below hb).mono (fun _ hk => Or.inl hk)⟩

theorem handleR_any {Z : Nat → Prop} {w : World} {R td : Nat} {rec : ByteArray} {ls : List L} {os : List O} (h : RI os Z w R td rec ls) (hrec : rec.size ≤ 1000000000000000) (s : ByteArray) (hs : s.size ≤ 2097143) (hp : Played (Pl.cmd s.data.toList)) :
    Calls Tryz.prog 16 #[.pointer (some ⟨R, 0, none⟩), .string s] w fun e w' => e = .returned (.string ⟨(stepS td ls (Pl.cmd s.data.toList)).1.toArray⟩) ∧ Kp Z w w' ∧ ∃ rec', rec'.size ≤ rec.size + (s.size + 13) ∧ RI os (Zn Z w) w' R (stepS td ls (Pl.cmd s.data.toList)).2.1 rec' (stepS td ls (Pl.cmd s.data.toList)).2.2 := by
  have hcf := cmd_form s.data.toList
  have hs' : s.size ≤ 2097152 := by omega
  have hZR : Z R := by obtain ⟨v, fs, ro, _, hz, _⟩ := h; exact hz
  cases hform : formOf s.data.toList with
  | none =>
    rw [hform] at hcf
    rw [hcf]
    refine (hR_bad w R s hs' 1 (Or.inl rfl) hcf).mono ?_
    rintro e w' ⟨h1, h2⟩
    exact ⟨h1, hR_quiet h h2 _⟩
  | some p =>
    obtain ⟨c, ns⟩ := p
    rw [hform] at hcf
    obtain ⟨hc1, hc2, hlen, hlt⟩ := form_facts hform
    cases hm : Pl.mays (Pl.kindsL c) ns with
    | false =>
      simp only [hm, Bool.false_eq_true, if_false] at hcf
      rw [hcf]
      refine (hR_bad w R s hs' 2 (Or.inr rfl) hcf).mono ?_
      rintro e w' ⟨h1, h2⟩
      exact ⟨h1, hR_quiet h h2 _⟩
    | true =>
      simp only [hm, if_true] at hcf
      rcases hp c ns hcf with rfl | rfl | rfl | rfl
      · obtain ⟨a, rfl⟩ := len1 hlen
        have hd : a ≤ 2147483647 := by simp [Pl.mays, Pl.kindsL, Pl.mayB] at hm; omega
        rw [hcf]
        by_cases hlt' : a < td
        · simp only [stepS, if_pos hlt']
          refine (hR_err w R s hs' 1 [a] hcf 3 (by omega) (by omega) (fun w2 => Kp Z w w2 ∧ RI os (Zn Z w) w2 R td rec ls) (fun w1 hb1 gn cap hn => ?_)).mono ?_
          · refine (doesR_day (h.below hb1) gn cap a hn hd).mono ?_
            rintro e w2 ⟨hk, ⟨q1, q2, q3⟩ | ⟨q1, _⟩⟩
            · exact ⟨q2, Kp.before hb1 (hk.mono (fun k h => Or.inl h)), q3.mono (fun k hk => hk.elim Or.inl (fun h => Or.inr (Nat.le_trans hb1.size h)))⟩
            · omega
          · rintro e w' ⟨h1, w2, ⟨q1, q2⟩, hb2⟩
            exact ⟨h1, q1.after hb2, rec, by omega, q2.below hb2⟩
        · simp only [stepS, if_neg hlt']
          refine (hR_log (os := os) w R a rec hrec ls s hs 1 (by omega) [a] hcf (fun w1 hb1 gn cap hn => ?_) hZR).mono ?_
          · refine (doesR_day (h.below hb1) gn cap a hn hd).mono ?_
            rintro e w2 ⟨hk, ⟨q1, _⟩ | ⟨q1, q2, q3⟩⟩
            · omega
            · exact ⟨q2, hk, q3⟩
          · rintro e w' ⟨h1, h2, rec', h3, h4⟩
            exact ⟨h1, h2, rec', by omega, h4⟩
      · obtain ⟨a, b, c, d, rfl⟩ := len4 hlen
        have hd : a ≤ 2147483647 ∧ b ≤ 2147483647 ∧ c ≤ 2147483647 ∧ d ≤ 2147483647 := by simp [Pl.mays, Pl.kindsL, Pl.mayB] at hm; omega
        have hrle : roomC ls a ≤ 6 := by unfold roomC; split <;> (try split) <;> omega
        rw [hcf]
        simp only [stepS]
        by_cases hr : roomC ls a = 0
        · rw [hr]
          refine (hR_log (os := os) w R td rec hrec (if 0 = 0 then ls ++ [newL ls a b c d] else ls) s hs 2 (by omega) [a, b, c, d] hcf (fun w1 hb1 gn cap hn => ?_) hZR).mono ?_
          · refine (doesR_receive (h.below hb1) gn cap a b c d hn hd.1 hd.2.1 hd.2.2.1 hd.2.2.2).mono ?_
            rintro e w2 ⟨hk, q2, q3⟩
            rw [hr] at q2 q3
            exact ⟨q2, hk, q3⟩
          · rintro e w' ⟨h1, h2, rec', h3, h4⟩
            exact ⟨h1, h2, rec', by omega, h4⟩
        · rw [if_neg hr]
          refine (hR_err w R s hs' 2 [a, b, c, d] hcf (roomC ls a) (by omega) (by omega) (fun w2 => Kp Z w w2 ∧ RI os (Zn Z w) w2 R td rec ls) (fun w1 hb1 gn cap hn => ?_)).mono ?_
          · refine (doesR_receive (h.below hb1) gn cap a b c d hn hd.1 hd.2.1 hd.2.2.1 hd.2.2.2).mono ?_
            rintro e w2 ⟨hk, q2, q3⟩
            rw [if_neg hr] at q3
            exact ⟨q2, Kp.before hb1 (hk.mono (fun k h => Or.inl h)), q3.mono (fun k hk => hk.elim Or.inl (fun h => Or.inr (Nat.le_trans hb1.size h)))⟩
          · rintro e w' ⟨h1, w2, ⟨q1, q2⟩, hb2⟩
            exact ⟨h1, q1.after hb2, rec, by omega, q2.below hb2⟩
      · obtain ⟨a, rfl⟩ := len1 hlen
        have hd : a ≤ 2147483647 := by simp [Pl.mays, Pl.kindsL, Pl.mayB] at hm; omega
        rw [hcf]
        have h0 := h
        obtain ⟨v, fs, ro, hrv, _, _⟩ := h0
        by_cases hi : idx a ls < ls.length
        · simp only [stepS, if_pos hi]
          have hl := hrv.ok _ (mem_getD hi)
          refine (hR_ask w R s hs' 11 (by omega) (by omega) [a] hcf (lookL (ls.getD (idx a ls) L0)) (by
            obtain ⟨q1, q2, q3, q4, q5, q6⟩ := hl
            simp only [lookL, List.mem_cons, List.not_mem_nil, or_false]
            rintro n (rfl | rfl | rfl | rfl | rfl | rfl | rfl | rfl | rfl | rfl) <;> omega) (by simp [lookL]) (fun w1 hb1 gn cap hn => doesR_lookhit (hrv.below hb1) gn cap a hn hd hi)).mono ?_
          rintro e w' ⟨h1, h2⟩
          exact ⟨h1, hR_quiet h h2 _⟩
        · simp only [stepS, if_neg hi]
          refine (hR_err w R s hs' 11 [a] hcf 4 (by omega) (by omega) (fun w2 => Below w.heap.size w w2) (fun w1 hb1 gn cap hn => ?_)).mono ?_
          · refine (doesR_lookmiss (hrv.below hb1) gn cap a hn hd hi).mono ?_
            rintro e w2 ⟨rfl, q2⟩
            exact ⟨q2, hb1⟩
          · rintro e w' ⟨h1, w2, q1, hb2⟩
            exact ⟨h1, hR_quiet h (q1.trans (hb2.mono q1.size)) _⟩
      · obtain ⟨a, b, rfl⟩ := len2 hlen
        have hd : a ≤ 2147483647 ∧ b ≤ 2147483647 := by simp [Pl.mays, Pl.kindsL, Pl.mayB] at hm; omega
        rw [hcf]
        have h0 := h
        obtain ⟨v, fs, ro, hrv, _, _⟩ := h0
        simp only [stepS]
        refine (hR_ask w R s hs' 12 (by omega) (by omega) [a, b] hcf (supL td a b ls) (by
          have h1 := srvI_len td a b ls ls.length
          have h2 := freeOf_le ls hrv.ok (srvI td a b ls ls.length) (fun i hi => srvI_lt hi)
          have h3 := hrv.room
          simp only [supL, List.mem_cons, List.not_mem_nil, or_false]
          rintro n (rfl | rfl)
          · omega
          · have : 2147483647 * (srvI td a b ls ls.length).length ≤ 2147483647 * 30 := Nat.mul_le_mul_left _ (by omega)
            omega) (by simp [supL]) (fun w1 hb1 gn cap hn => doesR_supply (hrv.below hb1) gn cap a b hn hd.1 hd.2)).mono ?_
        rintro e w' ⟨h1, h2⟩
        exact ⟨h1, hR_quiet h h2 _⟩

end Go.Proofs.YtclipofifmajeaaGreatDoor
