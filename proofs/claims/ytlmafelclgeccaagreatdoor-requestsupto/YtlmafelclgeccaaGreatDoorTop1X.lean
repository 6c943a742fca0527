import Derived.Test.YtlmafelclgeccaaGreatDoorR3X
import Derived.Test.YtlmafelclgeccaaGreatDoorMp0X
import Derived.Deep.RegionHeld3
namespace Go.Proofs.YtlmafelclgeccaaGreatDoor
set_option linter.unusedSimpArgs false
set_option linter.unusedVariables false
open Go.RowKit
set_option maxRecDepth 100000

/-- What a command answers, and what becomes of day and lots. -/
def stepS (rcs : List (Nat × Nat)) (td : Nat) (ls : List L) : Pl.Cmd → List UInt8 × Nat × List L
  | .error e => ([UInt8.ofNat e], td, ls)
  | .ok (1, [d]) => if d < td then ([3], td, ls) else ([0], d, ls)
  | .ok (2, [a, b, c, d]) => ([UInt8.ofNat (roomC ls a)], td, if roomC ls a = 0 then ls ++ [newL ls a b c d] else ls)
  | .ok (11, [n]) => if idx n ls < ls.length then (0 :: Pl.toldB (lookL (recB rcs ls) (ls.getD (idx n ls) L0)), td, ls) else ([4], td, ls)
  | .ok (12, [a, b]) => (0 :: Pl.toldB (supL rcs td a b ls), td, ls)
  | _ => ([], td, ls)

theorem cmd_form (l : List UInt8) : Pl.cmd l = match formOf l with
    | none => .error 1
    | some (c, ns) => if Pl.mays (Pl.kindsL c) ns then .ok (c, ns) else .error 2 := by
  cases l with
  | nil => rfl
  | cons c r =>
    simp only [Pl.cmd, formOf]
    cases hn : Pl.nums r with
    | none => by_cases hk : Pl.kindsL c.toNat = [] <;> simp [hk]
    | some ns =>
      by_cases hk : Pl.kindsL c.toNat = []
      · simp [hk]
      · by_cases hl : ns.length = (Pl.kindsL c.toNat).length
        · simp [hk, hl]
        · simp [hk, hl]

theorem form_facts {l : List UInt8} {c : Nat} {ns : List Nat} (h : formOf l = some (c, ns)) : 1 ≤ c ∧ c ≤ 12 ∧ ns.length = (Pl.kindsL c).length ∧ ∀ n ∈ ns, n < 9223372036854775808 := by
  cases l with
  | nil => cases h
  | cons b r =>
    simp only [formOf] at h
    by_cases hk : Pl.kindsL b.toNat = []
    · simp [hk] at h
    · simp only [hk, if_false] at h
      cases hn : Pl.nums r with
      | none => rw [hn] at h; cases h
      | some ms =>
        rw [hn] at h
        by_cases hl : ms.length = (Pl.kindsL b.toNat).length
        · simp only [hl, if_true, Option.some.injEq, Prod.mk.injEq] at h
          obtain ⟨rfl, rfl⟩ := h
          have hb : 1 ≤ b.toNat ∧ b.toNat ≤ 12 := by
            apply Decidable.byContradiction
            intro hc
            apply hk
            unfold Pl.kindsL
            split <;> first | rfl | omega
          exact ⟨hb.1, hb.2, hl, Pl.nums_lt _ r _ (Nat.le_refl _) hn⟩
        · simp [hl] at h

theorem len1 {ns : List Nat} (h : ns.length = 1) : ∃ a, ns = [a] := List.length_eq_one_iff.1 h
theorem len2 {ns : List Nat} (h : ns.length = 2) : ∃ a b, ns = [a, b] := by
  match ns, h with
  | [a, b], _ => exact ⟨a, b, rfl⟩
theorem len3 {ns : List Nat} (h : ns.length = 3) : ∃ a b c, ns = [a, b, c] := by
  match ns, h with
  | [a, b, c], _ => exact ⟨a, b, c, rfl⟩
theorem len4 {ns : List Nat} (h : ns.length = 4) : ∃ a b c d, ns = [a, b, c, d] := by
  match ns, h with
  | [a, b, c, d], _ => exact ⟨a, b, c, d, rfl⟩
theorem len5 {ns : List Nat} (h : ns.length = 5) : ∃ a b c d e, ns = [a, b, c, d, e] := by
  match ns, h with
  | [a, b, c, d, e], _ => exact ⟨a, b, c, d, e, rfl⟩

/-- A command whose numbers may not be. -/
theorem ans_num (w : World) (Lb : Nat) (hg : Gl w) (s : ByteArray) (hs : s.size ≤ 2097152) (c : Nat) (ns : List Nat) (hform : formOf s.data.toList = some (c, ns)) (hm : Pl.mays (Pl.kindsL c) ns = false) :
    Calls Tryz.prog 43 #[.pointer (some ⟨Lb, 0, none⟩), .string s] w fun e w' => e = .returned (.string ⟨[2].toArray⟩) ∧ Below w.heap.size w w' := by
  obtain ⟨hc1, hc2, hlen, hlt⟩ := form_facts hform
  rcases (show c = 1 ∨ c = 2 ∨ c = 3 ∨ c = 4 ∨ c = 5 ∨ c = 6 ∨ c = 7 ∨ c = 8 ∨ c = 9 ∨ c = 10 ∨ c = 11 ∨ c = 12 from by omega) with rfl | rfl | rfl | rfl | rfl | rfl | rfl | rfl | rfl | rfl | rfl | rfl
  · obtain ⟨a, rfl⟩ := len1 hlen
    exact num_Day w Lb hg s hs a (hlt a (by simp)) hform hm
  · obtain ⟨a, b, c, d, rfl⟩ := len4 hlen
    exact num_Receive w Lb hg s hs a b c d (hlt a (by simp)) (hlt b (by simp)) (hlt c (by simp)) (hlt d (by simp)) hform hm
  · obtain ⟨a, b, c, rfl⟩ := len3 hlen
    exact num_Split w Lb hg s hs a b c (hlt a (by simp)) (hlt b (by simp)) (hlt c (by simp)) hform hm
  · obtain ⟨a, b, c, rfl⟩ := len3 hlen
    exact num_Merge w Lb hg s hs a b c (hlt a (by simp)) (hlt b (by simp)) (hlt c (by simp)) hform hm
  · obtain ⟨a, b, c, d, f, rfl⟩ := len5 hlen
    exact num_Order w Lb hg s hs a b c d f (hlt a (by simp)) (hlt b (by simp)) (hlt c (by simp)) (hlt d (by simp)) (hlt f (by simp)) hform hm
  · obtain ⟨a, rfl⟩ := len1 hlen
    exact num_Cancel w Lb hg s hs a (hlt a (by simp)) hform hm
  · obtain ⟨a, rfl⟩ := len1 hlen
    exact num_Ship w Lb hg s hs a (hlt a (by simp)) hform hm
  · obtain ⟨a, b, rfl⟩ := len2 hlen
    exact num_Recall w Lb hg s hs a b (hlt a (by simp)) (hlt b (by simp)) hform hm
  · obtain ⟨a, b, rfl⟩ := len2 hlen
    exact num_Release w Lb hg s hs a b (hlt a (by simp)) (hlt b (by simp)) hform hm
  · obtain ⟨a, b, rfl⟩ := len2 hlen
    exact num_Scrap w Lb hg s hs a b (hlt a (by simp)) (hlt b (by simp)) hform hm
  · obtain ⟨a, rfl⟩ := len1 hlen
    exact num_Look w Lb hg s hs a (hlt a (by simp)) hform hm
  · obtain ⟨a, b, rfl⟩ := len2 hlen
    exact num_Supply w Lb hg s hs a b (hlt a (by simp)) (hlt b (by simp)) hform hm

/-- The codes that are played. -/
def Played (c : Pl.Cmd) : Prop := ∀ n ns, c = .ok (n, ns) → n = 1 ∨ n = 2 ∨ n = 11 ∨ n = 12

theorem answer_any {rcs : List (Nat × Nat)} {Z : Nat → Prop} {w : World} {Lb td : Nat} {ls : List L} {os : List O} (h : PL os rcs Z w Lb td ls) (hg : Gl w) (s : ByteArray) (hs : s.size ≤ 2097152) (hp : Played (Pl.cmd s.data.toList)) :
    Calls Tryz.prog 43 #[.pointer (some ⟨Lb, 0, none⟩), .string s] w fun e w' => Kp Z w w' ∧ e = .returned (.string ⟨(stepS rcs td ls (Pl.cmd s.data.toList)).1.toArray⟩) ∧ PL os rcs (Zn Z w) w' Lb (stepS rcs td ls (Pl.cmd s.data.toList)).2.1 (stepS rcs td ls (Pl.cmd s.data.toList)).2.2 := by
  have hcf := cmd_form s.data.toList
  cases hform : formOf s.data.toList with
  | none =>
    rw [hform] at hcf
    rw [hcf]
    refine (ans_bad w Lb hg s hs hform).mono ?_
    rintro e w' ⟨h1, h2⟩
    exact ⟨kpB h2, h1, (h.below h2).mono (fun _ hk => Or.inl hk)⟩
  | some p =>
    obtain ⟨c, ns⟩ := p
    rw [hform] at hcf
    obtain ⟨hc1, hc2, hlen, hlt⟩ := form_facts hform
    cases hm : Pl.mays (Pl.kindsL c) ns with
    | false =>
      simp only [hm, Bool.false_eq_true, if_false] at hcf
      rw [hcf]
      refine (ans_num w Lb hg s hs c ns hform hm).mono ?_
      rintro e w' ⟨h1, h2⟩
      exact ⟨kpB h2, h1, (h.below h2).mono (fun _ hk => Or.inl hk)⟩
    | true =>
      simp only [hm, if_true] at hcf
      rcases hp c ns hcf with rfl | rfl | rfl | rfl
      · obtain ⟨a, rfl⟩ := len1 hlen
        rw [hcf]
        refine (ans_Day h hg s hs a (hlt a (by simp)) hform hm).mono ?_
        rintro e w' ⟨hk, ⟨h1, h2, h3⟩ | ⟨h1, h2, h3⟩⟩
        · simp only [stepS, if_pos h1]; exact ⟨hk, h2, h3⟩
        · simp only [stepS, if_neg (show ¬ a < td by omega)]; exact ⟨hk, h2, h3⟩
      · obtain ⟨a, b, c, d, rfl⟩ := len4 hlen
        rw [hcf]
        refine (ans_Receive h hg s hs a b c d (hlt a (by simp)) (hlt b (by simp)) (hlt c (by simp)) (hlt d (by simp)) hform hm).mono ?_
        rintro e w' ⟨hk, h2, h3⟩
        simp only [stepS]; exact ⟨hk, h2, h3⟩
      · obtain ⟨a, rfl⟩ := len1 hlen
        rw [hcf]
        by_cases hi : idx a ls < ls.length
        · refine (look_hit' h hg s hs a (hlt a (by simp)) hform hm hi).mono ?_
          rintro e w' ⟨h1, h2⟩
          simp only [stepS, if_pos hi]
          exact ⟨kpB h1, h2, (h.below h1).mono (fun _ hk => Or.inl hk)⟩
        · refine (look_miss' h hg s hs a (hlt a (by simp)) hform hm hi).mono ?_
          rintro e w' ⟨h1, h2⟩
          simp only [stepS, if_neg hi]
          exact ⟨kpB h1, h2, (h.below h1).mono (fun _ hk => Or.inl hk)⟩
      · obtain ⟨a, b, rfl⟩ := len2 hlen
        rw [hcf]
        refine (ans_Supply h hg s hs a b (hlt a (by simp)) (hlt b (by simp)) hform hm).mono ?_
        rintro e w' ⟨h1, h2⟩
        simp only [stepS]
        exact ⟨kpB h1, h2, (h.below h1).mono (fun _ hk => Or.inl hk)⟩

set_option maxHeartbeats 800000 in
theorem handleP_any {rcs : List (Nat × Nat)} {Z : Nat → Prop} {w : World} {Lb td : Nat} {ls : List L} {os : List O} (h : PL os rcs Z w Lb td ls) (hg : Gl w) (s : ByteArray) (hs : s.size ≤ 2097152) (hp : Played (Pl.cmd s.data.toList)) :
    Calls Tryz.prog 20 #[.pointer (some ⟨Lb, 0, none⟩), .string s] w fun e w' => Kp Z w w' ∧ e = .returned (.string ⟨(stepS rcs td ls (Pl.cmd s.data.toList)).1.toArray⟩) ∧ PL os rcs (Zn Z w) w' Lb (stepS rcs td ls (Pl.cmd s.data.toList)).2.1 (stepS rcs td ls (Pl.cmd s.data.toList)).2.2 := by
  have HA := hide (answer_any h hg s hs hp)
  generalize stepS rcs td ls (Pl.cmd s.data.toList) = st at HA ⊢
  obtain ⟨b, td', ls'⟩ := st
  clear h hp
  go_enter Tryz.func20, Tryz.ntmps20
  go_wp2_with (go_at_call 43; refine (HA.out).mono ?_; rintro e w1 ⟨hk, rfl, hpl⟩)
  go_ret
  exact ⟨hk, rfl, hpl⟩

theorem hR_quiet {rcs : List (Nat × Nat)} {Z : Nat → Prop} {w w' : World} {R td : Nat} {rec : ByteArray} {ls : List L} {os : List O} (h : RI os rcs Z w R td rec ls) (hb : Below w.heap.size w w') (n : Nat) : Kp Z w w' ∧ ∃ rec', rec'.size ≤ rec.size + n ∧ RI os rcs (Zn Z w) w' R td rec' ls :=
  ⟨kpB hb, rec, by omega, (h.below hb).mono (fun _ hk => Or.inl hk)⟩

theorem handleR_any {rcs : List (Nat × Nat)} {Z : Nat → Prop} {w : World} {R td : Nat} {rec : ByteArray} {ls : List L} {os : List O} (h : RI os rcs Z w R td rec ls) (hrec : rec.size ≤ 1000000000000000) (s : ByteArray) (hs : s.size ≤ 2097143) (hp : Played (Pl.cmd s.data.toList)) :
    Calls Tryz.prog 34 #[.pointer (some ⟨R, 0, none⟩), .string s] w fun e w' => e = .returned (.string ⟨(stepS rcs td ls (Pl.cmd s.data.toList)).1.toArray⟩) ∧ Kp Z w w' ∧ ∃ rec', rec'.size ≤ rec.size + (s.size + 13) ∧ RI os rcs (Zn Z w) w' R (stepS rcs td ls (Pl.cmd s.data.toList)).2.1 rec' (stepS rcs td ls (Pl.cmd s.data.toList)).2.2 := by
  have hcf := cmd_form s.data.toList
  have hs' : s.size ≤ 2097152 := by omega
  have hZR : Z R := by obtain ⟨v, fs, ro, _, hz, _⟩ := h; exact hz
  cases hform : formOf s.data.toList with
  | none =>
    rw [hform] at hcf
    rw [hcf]
    refine (hR_bad w R s hs' 1 (Or.inl rfl) hcf).mono ?_
    rintro e w' ⟨h1, h2⟩
    exact ⟨h1, hR_quiet h h2 _⟩
  | some p =>
    obtain ⟨c, ns⟩ := p
    rw [hform] at hcf
    obtain ⟨hc1, hc2, hlen, hlt⟩ := form_facts hform
    cases hm : Pl.mays (Pl.kindsL c) ns with
    | false =>
      simp only [hm, Bool.false_eq_true, if_false] at hcf
      rw [hcf]
      refine (hR_bad w R s hs' 2 (Or.inr rfl) hcf).mono ?_
      rintro e w' ⟨h1, h2⟩
      exact ⟨h1, hR_quiet h h2 _⟩
    | true =>
      simp only [hm, if_true] at hcf
      rcases hp c ns hcf with rfl | rfl | rfl | rfl
      · obtain ⟨a, rfl⟩ := len1 hlen
        have hd : a ≤ 2147483647 := by simp [Pl.mays, Pl.kindsL, Pl.mayB] at hm; omega
        rw [hcf]
        by_cases hlt' : a < td
        · simp only [stepS, if_pos hlt']
          refine (hR_err w R s hs' 1 [a] hcf 3 (by omega) (by omega) (fun w2 => Kp Z w w2 ∧ RI os rcs (Zn Z w) w2 R td rec ls) (fun w1 hb1 gn cap hn => ?_)).mono ?_
          · refine (doesR_day (h.below hb1) gn cap a hn hd).mono ?_
            rintro e w2 ⟨hk, ⟨q1, q2, q3⟩ | ⟨q1, _⟩⟩
            · exact ⟨q2, Kp.before hb1 (hk.mono (fun k h => Or.inl h)), q3.mono (fun k hk => hk.elim Or.inl (fun h => Or.inr (Nat.le_trans hb1.size h)))⟩
            · omega
          · rintro e w' ⟨h1, w2, ⟨q1, q2⟩, hb2⟩
            exact ⟨h1, q1.after hb2, rec, by omega, q2.below hb2⟩
        · simp only [stepS, if_neg hlt']
          refine (hR_log (os := os) (rcs := rcs) w R a rec hrec ls s hs 1 (by omega) [a] hcf (fun w1 hb1 gn cap hn => ?_) hZR).mono ?_
          · refine (doesR_day (h.below hb1) gn cap a hn hd).mono ?_
            rintro e w2 ⟨hk, ⟨q1, _⟩ | ⟨q1, q2, q3⟩⟩
            · omega
            · exact ⟨q2, hk, q3⟩
          · rintro e w' ⟨h1, h2, rec', h3, h4⟩
            exact ⟨h1, h2, rec', by omega, h4⟩
      · obtain ⟨a, b, c, d, rfl⟩ := len4 hlen
        have hd : a ≤ 2147483647 ∧ b ≤ 2147483647 ∧ c ≤ 2147483647 ∧ d ≤ 2147483647 := by simp [Pl.mays, Pl.kindsL, Pl.mayB] at hm; omega
        have hrle : roomC ls a ≤ 6 := by unfold roomC; split <;> (try split) <;> omega
        rw [hcf]
        simp only [stepS]
        by_cases hr : roomC ls a = 0
        · rw [hr]
          refine (hR_log (os := os) (rcs := rcs) w R td rec hrec (if 0 = 0 then ls ++ [newL ls a b c d] else ls) s hs 2 (by omega) [a, b, c, d] hcf (fun w1 hb1 gn cap hn => ?_) hZR).mono ?_
          · refine (doesR_receive (h.below hb1) gn cap a b c d hn hd.1 hd.2.1 hd.2.2.1 hd.2.2.2).mono ?_
            rintro e w2 ⟨hk, q2, q3⟩
            rw [hr] at q2 q3
            exact ⟨q2, hk, q3⟩
          · rintro e w' ⟨h1, h2, rec', h3, h4⟩
            exact ⟨h1, h2, rec', by omega, h4⟩
        · rw [if_neg hr]
          refine (hR_err w R s hs' 2 [a, b, c, d] hcf (roomC ls a) (by omega) (by omega) (fun w2 => Kp Z w w2 ∧ RI os rcs (Zn Z w) w2 R td rec ls) (fun w1 hb1 gn cap hn => ?_)).mono ?_
          · refine (doesR_receive (h.below hb1) gn cap a b c d hn hd.1 hd.2.1 hd.2.2.1 hd.2.2.2).mono ?_
            rintro e w2 ⟨hk, q2, q3⟩
            rw [if_neg hr] at q3
            exact ⟨q2, Kp.before hb1 (hk.mono (fun k h => Or.inl h)), q3.mono (fun k hk => hk.elim Or.inl (fun h => Or.inr (Nat.le_trans hb1.size h)))⟩
          · rintro e w' ⟨h1, w2, ⟨q1, q2⟩, hb2⟩
            exact ⟨h1, q1.after hb2, rec, by omega, q2.below hb2⟩
      · obtain ⟨a, rfl⟩ := len1 hlen
        have hd : a ≤ 2147483647 := by simp [Pl.mays, Pl.kindsL, Pl.mayB] at hm; omega
        rw [hcf]
        have h0 := h
        obtain ⟨v, fs, ro, hrv, _, _⟩ := h0
        by_cases hi : idx a ls < ls.length
        · simp only [stepS, if_pos hi]
          have hl := hrv.ok _ (mem_getD hi)
          refine (hR_ask w R s hs' 11 (by omega) (by omega) [a] hcf (lookL (recB rcs ls) (ls.getD (idx a ls) L0)) (by
            obtain ⟨q1, q2, q3, q4, q5, q6, _⟩ := hl
            simp only [lookL, List.mem_cons, List.not_mem_nil, or_false]
            rintro n (rfl | rfl | rfl | rfl | rfl | rfl | rfl | rfl | rfl | rfl) <;> (try split) <;> omega) (by simp [lookL]) (fun w1 hb1 gn cap hn => doesR_lookhit (hrv.below hb1) gn cap a hn hd hi)).mono ?_
          rintro e w' ⟨h1, h2⟩
          exact ⟨h1, hR_quiet h h2 _⟩
        · simp only [stepS, if_neg hi]
          refine (hR_err w R s hs' 11 [a] hcf 4 (by omega) (by omega) (fun w2 => Below w.heap.size w w2) (fun w1 hb1 gn cap hn => ?_)).mono ?_
          · refine (doesR_lookmiss (hrv.below hb1) gn cap a hn hd hi).mono ?_
            rintro e w2 ⟨rfl, q2⟩
            exact ⟨q2, hb1⟩
          · rintro e w' ⟨h1, w2, q1, hb2⟩
            exact ⟨h1, hR_quiet h (q1.trans (hb2.mono q1.size)) _⟩
      · obtain ⟨a, b, rfl⟩ := len2 hlen
        have hd : a ≤ 2147483647 ∧ b ≤ 2147483647 := by simp [Pl.mays, Pl.kindsL, Pl.mayB] at hm; omega
        rw [hcf]
        have h0 := h
        obtain ⟨v, fs, ro, hrv, _, _⟩ := h0
        simp only [stepS]
        refine (hR_ask w R s hs' 12 (by omega) (by omega) [a, b] hcf (supL rcs td a b ls) (by
          have h1 := srvI_len (rcs := rcs) td a b ls ls.length
          have h2 := freeOf_le ls hrv.ok (srvI rcs td a b ls ls.length) (fun i hi => srvI_lt hi)
          have h3 := hrv.room
          simp only [supL, List.mem_cons, List.not_mem_nil, or_false]
          rintro n (rfl | rfl)
          · omega
          · have : 2147483647 * (srvI rcs td a b ls ls.length).length ≤ 2147483647 * 30 := Nat.mul_le_mul_left _ (by omega)
            omega) (by simp [supL]) (fun w1 hb1 gn cap hn => doesR_supply (hrv.below hb1) gn cap a b hn hd.1 hd.2)).mono ?_
        rintro e w' ⟨h1, h2⟩
        exact ⟨h1, hR_quiet h h2 _⟩

end Go.Proofs.YtlmafelclgeccaaGreatDoor

namespace Go.Proofs.YtlmafelclgeccaaGreatDoor
set_option linter.unusedSimpArgs false
set_option linter.unusedVariables false
open Go.RowKit
set_option maxRecDepth 100000

/-- Is a command's code one of these? -/
def allowB (l codes : List UInt8) : Bool := match l with
  | [] => true
  | c :: _ => codes.any (· == c)

set_option maxHeartbeats 800000 in
theorem allowed_empty (codes : ByteArray) (w : World) : Calls Tryz.prog 14 #[.string ⟨#[]⟩, .string codes] w fun e w' => e = .returned (.bool true) ∧ Below w.heap.size w w' := by
  go_enter Tryz.func14, Tryz.ntmps14
  go_wp2_with fail
  go_ret
  exact ⟨rfl, Below.refl _ _⟩

set_option maxHeartbeats 800000 in
theorem allowed_some (s codes : ByteArray) (hs : 0 < s.size) (hs2 : s.size ≤ 2097152) (hc : codes.size ≤ 100) (w : World) : Calls Tryz.prog 14 #[.string s, .string codes] w fun e w' => e = .returned (.bool (codes.data.toList.any (· == s[0]))) ∧ Below w.heap.size w w' := by
  have hne := not_empty s hs
  go_enter Tryz.func14, Tryz.ntmps14
  go_wp2_with fail
  go_loopw [5] (fun i wr => ∃ k : Nat, k ≤ codes.size ∧ i = .int .i64 k ∧ (∀ j, j < k → codes.data.toList.getD j 0 ≠ s[0]) ∧ ∃ nq, wr = w.drewN nq) (fun i _ => codes.size - (intOf i).toNat)
  case atStart => exact ⟨0, by omega, rfl, fun j h => absurd h (by omega), 0, rfl⟩
  case round =>
    obtain ⟨k, hk, rfl, hall, nq0, hwr⟩ := hrel
    have HW := hide hwr
    clear hwr
    by_cases hlt : k < codes.size
    · have hg := ba_getD codes k hlt
      by_cases hq : codes[k] = s[0]
      · have hqb : ((codes[k].toNat : Int) == (s[0].toNat : Int)) = true := by rw [hq]; simp
        have HY : Hid (codes.data.toList.any (· == s[0]) = true) := by
          refine List.any_eq_true.2 ⟨codes[k], ?_, by simp [hq]⟩
          have hl : k < codes.data.toList.length := by simpa using hlt
          rw [← hg, List.getD_eq_getElem?_getD, List.getElem?_eq_getElem hl]
          exact List.getElem_mem hl
        clear hq hg
        go_wp2_with fail
        go_quiet (fail)
        go_wp2_with fail
        go_ret
        exact ⟨ret_bool HY.out.symm, by rw [HW.out]; exact below_drewN (below_drewN (Below.refl _ _) _) _⟩
      · have hqb : ((codes[k].toNat : Int) == (s[0].toNat : Int)) = false := u8_ne hq
        have HQ := hide hq
        have HG := hide hg
        clear hq hg
        go_wp2_with fail
        go_quiet (fail)
        go_wp2_with fail
        go_roundw
        case rel =>
          refine ⟨k + 1, by omega, by go_num, ?_, nq0 + nq, by rw [HW.out]; simp⟩
          intro j hj
          by_cases hjk : j = k
          · subst hjk; rw [HG.out]; exact HQ.out
          · exact hall j (by omega)
        case measure => simp [intOf]; omega
    · have HY : Hid (codes.data.toList.any (· == s[0]) = false) := by
        apply Bool.eq_false_iff.2
        intro h
        obtain ⟨x, hx, he⟩ := List.any_eq_true.1 h
        obtain ⟨j, hj, rfl⟩ := List.getElem_of_mem hx
        have := hall j (by have : codes.data.toList.length = codes.size := by simp
                           omega)
        rw [List.getD_eq_getElem?_getD, List.getElem?_eq_getElem hj] at this
        exact this (by simpa using he)
      go_wp2_with fail
      go_ret
      exact ⟨ret_bool HY.out.symm, by rw [HW.out]; exact below_drewN (Below.refl _ _) _⟩

theorem allowed_any (s codes : ByteArray) (hs2 : s.size ≤ 2097152) (hc : codes.size ≤ 100) (w : World) : Calls Tryz.prog 14 #[.string s, .string codes] w fun e w' => e = .returned (.bool (allowB s.data.toList codes.data.toList)) ∧ Below w.heap.size w w' := by
  by_cases h0 : 0 < s.size
  · have hl : s.data.toList = s[0] :: s.data.toList.drop 1 := by
      have h1 : 0 < s.data.toList.length := by simpa using h0
      have h2 : s.data.toList[0] :: s.data.toList.drop (0 + 1) = s.data.toList.drop 0 := List.getElem_cons_drop h1
      rw [List.drop_zero] at h2
      exact h2.symm
    refine (allowed_some s codes h0 hs2 hc w).mono ?_
    rintro e w' ⟨h1, h2⟩
    rw [hl]; exact ⟨h1, h2⟩
  · have he : s = ⟨#[]⟩ := by
      apply ByteArray.ext
      apply Array.eq_empty_of_size_eq_zero
      have : s.data.size = s.size := rfl
      omega
    subst he
    exact allowed_empty codes w

end Go.Proofs.YtlmafelclgeccaaGreatDoor

namespace Go.Proofs.YtlmafelclgeccaaGreatDoor
set_option linter.unusedSimpArgs false
set_option linter.unusedVariables false
open Go.RowKit
set_option maxRecDepth 100000

theorem PV.bound {rcs : List (Nat × Nat)} {w : World} {S : Nat} {M : Mx} {v : Value} {td : Nat} {bs : List Nat} {pvs : List Value} {ls : List L} {os : List O} {Z : Nat → Prop} (h : PV os rcs w S M v td bs pvs ls) (hi : PIn Z S M v bs pvs) : PIn (fun k => Z k ∧ k < w.heap.size) S M v bs pvs where
  s := ⟨hi.s, blk_lt h.store⟩
  m := by obtain ⟨_, _, hc⟩ := h.maps.mr; exact ⟨hi.m, blk_lt hc⟩
  mo := by obtain ⟨_, _, hc⟩ := h.maps.mo; exact ⟨hi.mo, blk_lt hc⟩
  mh := by obtain ⟨_, _, hc⟩ := h.maps.mh; exact ⟨hi.mh, blk_lt hc⟩
  v := fun g hg => by obtain ⟨cs, hc⟩ := own_ty h.row hg; exact ⟨hi.v g hg, blk_lt hc⟩
  b := fun k hk => by
    refine ⟨hi.b k hk, ?_⟩
    obtain ⟨i, hil, rfl⟩ := List.getElem_of_mem hk
    have := blk_lt (h.lot i (by rw [← h.len]; exact hil))
    rw [List.getD_eq_getElem?_getD, List.getElem?_eq_getElem hil] at this
    simpa using this
  p := fun pv hp q hq => by
    refine ⟨hi.p pv hp q hq, ?_⟩
    obtain ⟨i, hil, rfl⟩ := List.getElem_of_mem hp
    have hpar := h.par i (by rw [← h.plen]; exact hil)
    rw [List.getD_eq_getElem?_getD, List.getElem?_eq_getElem hil] at hpar
    simp only [Option.getD_some] at hpar
    obtain ⟨cs, h3⟩ := hpar.blk hq
    exact blk_lt h3

theorem PL.bound {rcs : List (Nat × Nat)} {Z : Nat → Prop} {w : World} {Lb td : Nat} {ls : List L} {os : List O} (h : PL os rcs Z w Lb td ls) : PL os rcs (fun k => Z k ∧ k < w.heap.size) w Lb td ls := by
  obtain ⟨S, Zs, h1, h2, h3, h4, M, v, bs, pvs, h5, h6⟩ := h
  exact ⟨S, fun k => Zs k ∧ k < w.heap.size, h1, ⟨h2, blk_lt h1⟩, fun h => h3 h.1, fun k hk => ⟨h4 k hk.1, hk.2⟩, M, v, bs, pvs, h5, h5.bound h6⟩
theorem PL.congr {rcs : List (Nat × Nat)} {Z : Nat → Prop} {w w' : World} {Lb td : Nat} {ls : List L} {os : List O} (h : PL os rcs Z w Lb td ls) (hq : ∀ k, Z k → w'.heap[k]? = w.heap[k]?) : PL os rcs Z w' Lb td ls := by
  obtain ⟨S, Zs, h1, h2, h3, h4, M, v, bs, pvs, h5, h6⟩ := h
  exact ⟨S, Zs, (hq Lb h2).trans h1, h2, h3, h4, M, v, bs, pvs, h5.congr h6 (fun k hk => hq k (h4 k hk)), h6⟩
theorem RI.bound {rcs : List (Nat × Nat)} {Z : Nat → Prop} {w : World} {R td : Nat} {rec : ByteArray} {ls : List L} {os : List O} (h : RI os rcs Z w R td rec ls) : RI os rcs (fun k => Z k ∧ k < w.heap.size) w R td rec ls := by
  obtain ⟨v, fs, ro, h1, h2, h3, h4⟩ := h
  exact ⟨v, fs, ro, h1, ⟨h2, blk_lt h1.store⟩, fun g hg => by obtain ⟨cs, hc⟩ := own_ty h1.row hg; exact ⟨h3 g hg, blk_lt hc⟩, fun g hg => ⟨h4 g hg, h1.ord.lt hg⟩⟩

theorem Gl.kp {Z : Nat → Prop} {w w' : World} (h : Gl w) (k : Kp Z w w') (h0 : ¬ Z 0) (h1 : ¬ Z 1) : Gl w' := by
  obtain ⟨⟨t0, v0, q0⟩, ⟨t1, v1, q1⟩, q2⟩ := h
  exact ⟨⟨t0, v0, (World.cell?_of_block (a := ⟨0, 0, none⟩) (k.block 0 (by omega) h0)).trans q0⟩, ⟨t1, v1, (World.cell?_of_block (a := ⟨1, 0, none⟩) (k.block 1 (by omega) h1)).trans q1⟩, Nat.le_trans q2 k.size⟩

theorem good_stepS {rcs : List (Nat × Nat)} {os : List O} {td : Nat} {ls : List L} (h : Good os ls) (c : Pl.Cmd) : Good os (stepS rcs td ls c).2.2 := by
  cases c with
  | error e => exact h
  | ok p =>
    obtain ⟨n, ns⟩ := p
    unfold stepS
    split
    · exact h
    · split <;> exact h
    · rename_i a b c d heq
      show Good os (if roomC ls a = 0 then ls ++ [newL ls a b c d] else ls)
      by_cases hr : roomC ls a = 0
      · rw [if_pos hr]; exact h.snoc (room_fresh hr) rfl rfl
      · rw [if_neg hr]; exact h
    · split <;> exact h
    · exact h
    · exact h

/-- The pair at Q: both sides stand alike; nothing older than B has turned since w0. -/
structure Inv (B : Nat) (w0 w : World) (Q N : Nat) : Prop where
  old : Below B w0 w
  size : B ≤ w.heap.size
  two : 2 ≤ B
  gl : Gl w
  q : B ≤ Q
  both : ∃ Lb R Zp Zr td ls os rcs rec, w.heap[Q]? = some (.cells #[.pointer (some ⟨Lb, 0, none⟩), .pointer (some ⟨R, 0, none⟩)] 68 (0, 0)) ∧ PL os rcs Zp w Lb td ls ∧ RI os rcs Zr w R td rec ls ∧
    (∀ k, Zp k → B ≤ k ∧ k < w.heap.size ∧ k ≠ Q ∧ ¬ Zr k) ∧ (∀ k, Zr k → B ≤ k ∧ k < w.heap.size ∧ k ≠ Q) ∧ rec.size ≤ N ∧ Good os ls

theorem Inv.below {B Q N : Nat} {w0 w w' : World} (h : Inv B w0 w Q N) (hb : Below w.heap.size w w') : Inv B w0 w' Q N := by
  obtain ⟨Lb, R, Zp, Zr, td, ls, os, rcs, rec, h1, h2, h3, h4, h5, h6⟩ := h.both
  have hs := hb.size
  exact ⟨h.old.trans (hb.mono h.size), Nat.le_trans h.size hs, h.two, h.gl.below hb, h.q, Lb, R, Zp, Zr, td, ls, os, rcs, rec, (hb.block Q (blk_lt h1)).trans h1, h2.below hb, h3.below hb,
    fun k hk => ⟨(h4 k hk).1, by have := (h4 k hk).2.1; omega, (h4 k hk).2.2⟩, fun k hk => ⟨(h5 k hk).1, by have := (h5 k hk).2.1; omega, (h5 k hk).2.2⟩, h6⟩

/-- Both have taken a step. -/
theorem Inv.step {rcs : List (Nat × Nat)} {B Q N n Lb R td' : Nat} {w0 w2 w3 w5 : World} {Zp Zr : Nat → Prop} {ls' : List L} {os' : List O} {rec' : ByteArray} (ho : Below B w0 w2) (hsz : B ≤ w2.heap.size) (htwo : 2 ≤ B) (hgl : Gl w2) (hQ : B ≤ Q)
    (h1 : w2.heap[Q]? = some (.cells #[.pointer (some ⟨Lb, 0, none⟩), .pointer (some ⟨R, 0, none⟩)] 68 (0, 0)))
    (h4 : ∀ k, Zp k → B ≤ k ∧ k < w2.heap.size ∧ k ≠ Q ∧ ¬ Zr k) (h5 : ∀ k, Zr k → B ≤ k ∧ k < w2.heap.size ∧ k ≠ Q)
    (hk3 : Kp Zp w2 w3) (hpl : PL os' rcs (Zn Zp w2) w3 Lb td' ls') (hk5 : Kp Zr w3 w5) (hri : RI os' rcs (Zn Zr w3) w5 R td' rec' ls') (hrec : rec'.size ≤ N + n) (hgo : Good os' ls') : Inv B w0 w5 Q (N + n) := by
  have hQl := blk_lt h1
  have hQp : ¬ Zp Q := fun h => (h4 Q h).2.2.1 rfl
  have hQr : ¬ Zr Q := fun h => (h5 Q h).2.2 rfl
  have hs3 := hk3.size
  have hs5 := hk5.size
  have h3Q := (hk3.block Q hQl hQp).trans h1
  have h5Q := (hk5.block Q (blk_lt h3Q) hQr).trans h3Q
  have old3 : Below B w2 w3 := ⟨hk3.os, hk3.tape, hk3.output, hk3.size, fun k hk => hk3.block k (by omega) (fun h => by have := (h4 k h).1; omega)⟩
  have old5 : Below B w3 w5 := ⟨hk5.os, hk5.tape, hk5.output, hk5.size, fun k hk => hk5.block k (by omega) (fun h => by have := (h5 k h).1; omega)⟩
  refine ⟨(ho.trans old3).trans old5, by omega, htwo, (hgl.kp hk3 (fun h => by have := (h4 0 h).1; omega) (fun h => by have := (h4 1 h).1; omega)).kp hk5 (fun h => by have := (h5 0 h).1; omega) (fun h => by have := (h5 1 h).1; omega), hQ,
    Lb, R, fun k => Zn Zp w2 k ∧ k < w3.heap.size, fun k => Zn Zr w3 k ∧ k < w5.heap.size, td', ls', os', rcs, rec', h5Q, ?_, hri.bound, ?_, ?_, hrec, hgo⟩
  · refine hpl.bound.congr (fun k hk => hk5.block k hk.2 (fun hz => ?_))
    rcases hk.1 with h | h
    · exact (h4 k h).2.2.2 hz
    · have := (h5 k hz).2.1; omega
  · rintro k ⟨hk, hlt⟩
    refine ⟨?_, by omega, ?_, ?_⟩
    · rcases hk with h | h
      · exact (h4 k h).1
      · omega
    · rcases hk with h | h
      · exact (h4 k h).2.2.1
      · omega
    · rintro ⟨hz, _⟩
      rcases hk with h | h
      · rcases hz with hz | hz
        · exact (h4 k h).2.2.2 hz
        · have := (h4 k h).2.1; omega
      · rcases hz with hz | hz
        · have := (h5 k hz).2.1; omega
        · omega
  · rintro k ⟨hk, hlt⟩
    refine ⟨?_, hlt, ?_⟩
    · rcases hk with h | h
      · exact (h5 k h).1
      · omega
    · rcases hk with h | h
      · exact (h5 k h).2.2
      · omega

end Go.Proofs.YtlmafelclgeccaaGreatDoor

namespace Go.Proofs.YtlmafelclgeccaaGreatDoor
set_option linter.unusedSimpArgs false
set_option linter.unusedVariables false
open Go.RowKit
set_option maxRecDepth 100000

/-- What New and the document's empty store are. -/
def begunW (w : World) : World :=
  (((((((w.alloc (.map #[] 0)).alloc (.map #[] 0)).alloc (.map #[] 0)).alloc (.cells #[.int .i64 0, .slice none 0 0, .map (some w.heap.size), .map (some (w.heap.size + 1)), .map (some (w.heap.size + 1 + 1))] 108)).alloc (.cells #[.pointer (some ⟨w.heap.size + 1 + 1 + 1, 0, none⟩)] 81)).alloc (.cells #[.int .i64 0, .slice none 0 0, .slice none 0 0, .slice none 0 0, .string ⟨#[]⟩] 66)).alloc (.cells #[.pointer (some ⟨w.heap.size + 1 + 1 + 1 + 1, 0, none⟩), .pointer (some ⟨w.heap.size + 1 + 1 + 1 + 1 + 1, 0, none⟩)] 68))

theorem alloc_old {w : World} {k : Nat} {o' : Obj} {x : Option Obj} (h : w.heap[k]? = x) (hk : k < w.heap.size) : (w.alloc o').heap[k]? = x := (Below.heap_alloc _ _ _ hk).trans h

theorem begun_inv (w : World) (hg : Gl w) : Inv w.heap.size w (begunW w) (w.heap.size + 1 + 1 + 1 + 1 + 1 + 1) 0 := by
  have hb : Below w.heap.size w (begunW w) := by
    unfold begunW
    exact (((((((Below.refl _ _).alloc (Nat.le_refl _) _).alloc (by simp) _).alloc (by first | (simp; done) | (simp; omega)) _).alloc (by first | (simp; done) | (simp; omega)) _).alloc (by first | (simp; done) | (simp; omega)) _).alloc (by first | (simp; done) | (simp; omega)) _).alloc (by first | (simp; done) | (simp; omega)) _
  have hsz : (begunW w).heap.size = w.heap.size + 7 := by unfold begunW; simp
  have b0 : (begunW w).heap[w.heap.size]? = some (.map #[] 0) := by
    unfold begunW
    exact alloc_old (alloc_old (alloc_old (alloc_old (alloc_old (alloc_old (heap_alloc_new w _) (by first | (simp; done) | (simp; omega))) (by first | (simp; done) | (simp; omega))) (by first | (simp; done) | (simp; omega))) (by first | (simp; done) | (simp; omega))) (by first | (simp; done) | (simp; omega))) (by first | (simp; done) | (simp; omega))
  have b1 : (begunW w).heap[w.heap.size + 1]? = some (.map #[] 0) := by
    unfold begunW
    exact alloc_old (alloc_old (alloc_old (alloc_old (alloc_old (heap_alloc_new' _ _ _ (by first | (simp; done) | (simp; omega))) (by first | (simp; done) | (simp; omega))) (by first | (simp; done) | (simp; omega))) (by first | (simp; done) | (simp; omega))) (by first | (simp; done) | (simp; omega))) (by first | (simp; done) | (simp; omega))
  have b2 : (begunW w).heap[w.heap.size + 2]? = some (.map #[] 0) := by
    unfold begunW
    exact alloc_old (alloc_old (alloc_old (alloc_old (heap_alloc_new' _ _ _ (by first | (simp; done) | (simp; omega))) (by first | (simp; done) | (simp; omega))) (by first | (simp; done) | (simp; omega))) (by first | (simp; done) | (simp; omega))) (by first | (simp; done) | (simp; omega))
  have b3 : (begunW w).heap[w.heap.size + 3]? = some (.cells #[.int .i64 0, .slice none 0 0, .map (some w.heap.size), .map (some (w.heap.size + 1)), .map (some (w.heap.size + 1 + 1))] 108) := by
    unfold begunW
    exact alloc_old (alloc_old (alloc_old (heap_alloc_new' _ _ _ (by first | (simp; done) | (simp; omega))) (by first | (simp; done) | (simp; omega))) (by first | (simp; done) | (simp; omega))) (by first | (simp; done) | (simp; omega))
  have b4 : (begunW w).heap[w.heap.size + 4]? = some (.cells #[.pointer (some ⟨w.heap.size + 1 + 1 + 1, 0, none⟩)] 81) := by
    unfold begunW
    exact alloc_old (alloc_old (heap_alloc_new' _ _ _ (by first | (simp; done) | (simp; omega))) (by first | (simp; done) | (simp; omega))) (by first | (simp; done) | (simp; omega))
  have b5 : (begunW w).heap[w.heap.size + 5]? = some (.cells #[.int .i64 0, .slice none 0 0, .slice none 0 0, .slice none 0 0, .string ⟨#[]⟩] 66) := by
    unfold begunW
    exact alloc_old (heap_alloc_new' _ _ _ (by first | (simp; done) | (simp; omega))) (by simp)
  have b6 : (begunW w).heap[w.heap.size + 6]? = some (.cells #[.pointer (some ⟨w.heap.size + 1 + 1 + 1 + 1, 0, none⟩), .pointer (some ⟨w.heap.size + 1 + 1 + 1 + 1 + 1, 0, none⟩)] 68) := by
    unfold begunW
    exact heap_alloc_new' _ _ _ (by simp)
  generalize begunW w = W at *
  have hp : PV [] [] W (w.heap.size + 1 + 1 + 1) ⟨w.heap.size + 1 + 1, w.heap.size, w.heap.size + 1⟩ (.slice none 0 0) 0 [] [] [] := ⟨b3, ⟨⟨.map [], owns_nil b2, ⟨rfl, fun a b _ _ => rfl, fun kl h => by cases h⟩⟩, ⟨by simp, by simp, by simp⟩, ⟨.map [], owns_nil b0, ⟨rfl, fun n _ => rfl⟩⟩, ⟨.map [], owns_nil b1, ⟨rfl, fun a b _ _ => rfl, fun a b _ _ => rfl⟩⟩, (by show w.heap.size + 1 + 1 ≠ w.heap.size; omega), (by show w.heap.size + 1 + 1 ≠ w.heap.size + 1; omega), (by show w.heap.size ≠ w.heap.size + 1; omega)⟩, World.ownsRow_nil _ _ _ _, rfl, rfl, fun i h => absurd h (by simp), fun i h => absurd h (by simp), by simp, by omega, fun l h => absurd h (by simp), by simp⟩
  have hr : RV [] [] ⟨.slice none 0 0, [], .slice none 0 0, [], []⟩ W (w.heap.size + 1 + 1 + 1 + 1 + 1) (.slice none 0 0) 0 ⟨#[]⟩ [] [] := ⟨b5, World.ownsRow_nil _ _ _ _, rfl, ⟨rfl, rfl⟩, ⟨World.ownsRow_nil _ _ _ _, rfl, fun i h => absurd h (by simp), ⟨World.ownsRow_nil _ _ _ _, rfl, fun i h => absurd h (by simp), fun g h => by cases h⟩⟩, by omega, fun l h => absurd h (by simp), by simp, fam_nil, ⟨by simp, by simp, by simp⟩⟩
  refine ⟨hb, by omega, hg.2.2, hg.below hb, by omega, w.heap.size + 1 + 1 + 1 + 1, w.heap.size + 1 + 1 + 1 + 1 + 1, fun k => w.heap.size ≤ k ∧ k ≤ w.heap.size + 4, fun k => k = w.heap.size + 5, 0, [], [], [], ⟨#[]⟩, b6, ?_, ?_, ?_, ?_, ?_, good_nil⟩
  · refine ⟨w.heap.size + 1 + 1 + 1, fun k => w.heap.size ≤ k ∧ k ≤ w.heap.size + 3, b4, by omega, fun h => by omega, fun k h => by omega, _, _, _, _, hp, ⟨by omega, by show _ ∧ _; simp only []; omega, by show _ ∧ _; simp only []; omega, by show _ ∧ _; simp only []; omega, (fun g h => by cases h), (fun k h => absurd h (by simp)), (fun k h => absurd h (by simp))⟩⟩
  · refine ⟨_, _, _, hr, rfl, (fun g h => by cases h), fun g h => ?_⟩
    rcases h with h | ⟨i, hi, _⟩ | h | ⟨i, hi, _⟩
    · cases h
    · exact absurd hi (by simp)
    · cases h
    · exact absurd hi (by simp)
  · intro k h; refine ⟨by omega, by omega, by omega, by omega⟩
  · intro k h; refine ⟨by omega, by omega, by omega⟩
  · exact Nat.le_refl _

set_option maxHeartbeats 800000 in
theorem begun_any (w : World) (hg : Gl w) :
    Calls Tryz.prog 13 #[] w fun e w' => ∃ Q, e = .returned (.tuple #[.pointer (some ⟨Q, 0, none⟩), .bool true]) ∧ Inv w.heap.size w w' Q 0 := by
  have hmm := @run_makeMap Tryz.prog
  go_enter Tryz.func13, Tryz.ntmps13
  go_wp2_with (first | (go_at_call 33; go_in) | (go_at_call 45; go_in))
  go_ret2
  exact ⟨_, rfl, begun_inv w hg⟩

set_option maxHeartbeats 1600000 in
theorem play_any {B Q N : Nat} {w0 w : World} (h : Inv B w0 w Q N) (hN : N ≤ 1000000000000000) (s : ByteArray) (hs : s.size ≤ 2097143) (hp : Played (Pl.cmd s.data.toList)) :
    Calls Tryz.prog 15 #[.pointer (some ⟨Q, 0, none⟩), .agg #[.int .i64 1, .int .i64 0, .int .i64 0, .string s]] w fun e w' => e = .returned (.bool true) ∧ Inv B w0 w' Q (N + (s.size + 13)) := by
  have ha := al1 w (.cells #[.int .i64 1, .int .i64 0, .int .i64 0, .string s] 29)
  have hop := heap_alloc_new w (.cells #[.int .i64 1, .int .i64 0, .int .i64 0, .string s] 29)
  obtain ⟨hold0, hsz0, htwo, hgl0, hQ, Lb, R, Zp, Zr, td, ls, os, rcs, rec, hqo, hpl0, hri0, h40, h50, hrec, hgo⟩ := h
  have hab : Below w.heap.size w (w.alloc (.cells #[.int .i64 1, .int .i64 0, .int .i64 0, .string s] 29)).drew := ha.drew
  have hq := (hab.block Q (blk_lt hqo)).trans hqo
  have hpl := hpl0.below hab
  have hri := hri0.below hab
  have hgl := hgl0.below hab
  have hold := hold0.trans (hab.mono hsz0)
  have hsz := Nat.le_trans hsz0 hab.size
  have h4 : ∀ k, Zp k → B ≤ k ∧ k < (w.alloc (.cells #[.int .i64 1, .int .i64 0, .int .i64 0, .string s] 29)).drew.heap.size ∧ k ≠ Q ∧ ¬ Zr k := fun k hk => ⟨(h40 k hk).1, Nat.lt_of_lt_of_le (h40 k hk).2.1 hab.size, (h40 k hk).2.2⟩
  have h5 : ∀ k, Zr k → B ≤ k ∧ k < (w.alloc (.cells #[.int .i64 1, .int .i64 0, .int .i64 0, .string s] 29)).drew.heap.size ∧ k ≠ Q := fun k hk => ⟨(h50 k hk).1, Nat.lt_of_lt_of_le (h50 k hk).2.1 hab.size, (h50 k hk).2.2⟩
  have hzw1 : ¬ Zp w.heap.size := fun h => Nat.lt_irrefl _ (h40 _ h).2.1
  have hzw2 : ¬ Zr w.heap.size := fun h => Nat.lt_irrefl _ (h50 _ h).2.1
  have hnw : ¬ Zp w.heap.size := hzw1
  have HH := hide (handleP_any hpl hgl s (by omega) hp)
  have q0 : (w.alloc (.cells #[.int .i64 1, .int .i64 0, .int .i64 0, .string s] 29)).cell? ⟨Q, 0, none⟩ = some (.pointer (some ⟨Lb, 0, none⟩)) := by
    have : (w.alloc (.cells #[.int .i64 1, .int .i64 0, .int .i64 0, .string s] 29)).heap[Q]? = _ := hq
    rw [blk_cell this]; rfl
  have o3 : (w.alloc (.cells #[.int .i64 1, .int .i64 0, .int .i64 0, .string s] 29)).cell? ⟨w.heap.size, 3, none⟩ = some (.string s) := by rw [blk_cell hop]; rfl
  have o0 : (w.alloc (.cells #[.int .i64 1, .int .i64 0, .int .i64 0, .string s] 29)).cell? ⟨w.heap.size, 0, none⟩ = some (.int .i64 1) := by rw [blk_cell hop]; rfl
  go_enter Tryz.func15, Tryz.ntmps15
  go_wp2_with fail
  have hQlt : Q < (w.alloc (.cells #[.int .i64 1, .int .i64 0, .int .i64 0, .string s] 29)).heap.size := blk_lt hq
  have hwlt : w.heap.size < (w.alloc (.cells #[.int .i64 1, .int .i64 0, .int .i64 0, .string s] 29)).heap.size := by simp
  have hnQ : Hid (¬ Zp Q) := fun h => (h4 Q h).2.2.1 rfl
  have hnW : Hid (¬ Zp w.heap.size) := hnw
  have hq1 : (w.alloc (.cells #[.int .i64 1, .int .i64 0, .int .i64 0, .string s] 29)).cell? ⟨Q, 1, none⟩ = some (.pointer (some ⟨R, 0, none⟩)) := by
    have : (w.alloc (.cells #[.int .i64 1, .int .i64 0, .int .i64 0, .string s] 29)).heap[Q]? = _ := hq
    rw [blk_cell this]; rfl
  go_region_held3 (fun w' => w'.cell? ⟨Q, 0, none⟩ = some (.pointer (some ⟨Lb, 0, none⟩)) ∧ w'.cell? ⟨w.heap.size, 3, none⟩ = some (.string s)) (go_keep)
    (first
      | (go_at_call 20; refine (HH.out).mono ?_; rintro e w3 ⟨hk3, rfl, hpl3⟩; have hqq := hk3.block Q hQlt hnQ.out; have hqw := hk3.block w.heap.size hwlt hnW.out; have m0 := (World.cell?_of_block (a := ⟨Q, 0, none⟩) hqq).trans q0; have m1 := (World.cell?_of_block (a := ⟨w.heap.size, 3, none⟩) hqw).trans o3; have m2 := (World.cell?_of_block (a := ⟨Q, 1, none⟩) hqq).trans hq1))
  have hri3 : RI os rcs Zr w3.drew R td rec ls := (hri.congr (fun k hk => hk3.block k (h5 k hk).2.1 (fun hz => (h4 k hz).2.2.2 hk))).below (drewB w3)
  have HR := hide (handleR_any hri3 (by omega) s hs hp)
  have hs3 : Hid ((w.alloc (.cells #[.int .i64 1, .int .i64 0, .int .i64 0, .string s] 29)).drew.heap.size ≤ w3.heap.size) := hk3.size
  have hQ3 : Hid (Q < w3.heap.size) := Nat.lt_of_lt_of_le hQlt hs3.out
  have hW3 : Hid (w.heap.size < w3.heap.size) := Nat.lt_of_lt_of_le hwlt hs3.out
  have hnQr : Hid (¬ Zr Q) := fun h => (h5 Q h).2.2 rfl
  have hnWr : Hid (¬ Zr w.heap.size) := hzw2
  have HK3 := hide hk3
  have HPL := hide hpl3
  have H4 := hide h4
  have H5 := hide h5
  have HGO := hide (good_stepS (rcs := rcs) (td := td) hgo (Pl.cmd s.data.toList))
  generalize stepS rcs td ls (Pl.cmd s.data.toList) = st at HR HPL HGO ⊢
  obtain ⟨sb, td', ls'⟩ := st
  clear hqq hqw q0 o3 o0 hq1 hri3 hk3 hpl3 h4 h5 h40 h50 HH m0 hp
  go_wp2_with fail
  go_region_held3 (fun w' => w'.cell? ⟨Q, 1, none⟩ = some (.pointer (some ⟨R, 0, none⟩)) ∧ w'.cell? ⟨w.heap.size, 3, none⟩ = some (.string s)) (go_keep)
    (first
      | (go_at_call 34; refine (HR.out).mono ?_; rintro e w5 ⟨rfl, hk5, rec', hr5, hri5⟩; have hqq := hk5.block Q hQ3.out hnQr.out; have hqw := hk5.block w.heap.size hW3.out hnWr.out; have r1 := (World.cell?_of_block (a := ⟨Q, 1, none⟩) hqq).trans m2; have r2 := (World.cell?_of_block (a := ⟨w.heap.size, 3, none⟩) hqw).trans m1))
  clear hqq hqw r1 r2 m1 m2
  go_wp2_with fail
  go_ret
  refine ⟨rfl, ?_⟩
  exact Inv.step hold hsz htwo hgl hQ hq H4.out H5.out HK3.out HPL.out (Kp.before (drewB w3) (hk5.mono (fun k h => Or.inl h))) hri5 (by omega) HGO.out

end Go.Proofs.YtlmafelclgeccaaGreatDoor
