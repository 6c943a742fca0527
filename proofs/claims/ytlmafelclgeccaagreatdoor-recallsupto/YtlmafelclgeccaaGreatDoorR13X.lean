import Derived.Test.YtlmafelclgeccaaGreatDoorR9
import Derived.Test.YtlmafelclgeccaaGreatDoorR10
import Derived.Test.YtlmafelclgeccaaGreatDoorR11
import Derived.Test.YtlmafelclgeccaaGreatDoorR12
import Derived.Test.YtlmafelclgeccaaGreatDoorSt15X
import Derived.Test.YtlmafelclgeccaaGreatDoorR3X
import Derived.Test.YtlmafelclgeccaaGreatDoorTop1X
import Derived.Deep.RegionHeld3
namespace Go.Proofs.YtlmafelclgeccaaGreatDoor
set_option linter.unusedSimpArgs false
set_option linter.unusedVariables false
open Go.RowKit
set_option maxRecDepth 100000

/-- The ways a merge may go, by what it finds. -/
theorem mergeC_cases (ls : List L) (a b m : Nat) (hi : idx a ls < ls.length) :
    (¬ idx b ls < ls.length ∧ mergeC ls a b m = 4) ∨
    (idx b ls < ls.length ∧ (idx a ls = idx b ls ∨ (lotAt ls a).goods ≠ (lotAt ls b).goods) ∧ mergeC ls a b m = 8) ∨
    (idx b ls < ls.length ∧ idx a ls ≠ idx b ls ∧ (lotAt ls a).goods = (lotAt ls b).goods ∧ 0 < mergeC ls a b m ∧
      ((roomC ls m ≠ 0 ∧ mergeC ls a b m = roomC ls m) ∨ (roomC ls m = 0 ∧ (lotAt ls a).free + (lotAt ls b).free = 0 ∧ mergeC ls a b m = 7) ∨ (roomC ls m = 0 ∧ 2147483647 < (lotAt ls a).free + (lotAt ls b).free ∧ mergeC ls a b m = 2))) ∨
    (idx b ls < ls.length ∧ idx a ls ≠ idx b ls ∧ (lotAt ls a).goods = (lotAt ls b).goods ∧ roomC ls m = 0 ∧ (lotAt ls a).free + (lotAt ls b).free ≠ 0 ∧ (lotAt ls a).free + (lotAt ls b).free ≤ 2147483647 ∧ mergeC ls a b m = 0) := by
  unfold mergeC
  by_cases hj : idx b ls < ls.length
  · rw [if_pos ⟨hi, hj⟩]
    by_cases hg : idx a ls = idx b ls ∨ (lotAt ls a).goods ≠ (lotAt ls b).goods
    · rw [if_pos hg]; right; left; exact ⟨hj, hg, rfl⟩
    · rw [if_neg hg]
      have h1 : idx a ls ≠ idx b ls := fun h => hg (Or.inl h)
      have h2 : (lotAt ls a).goods = (lotAt ls b).goods := Decidable.byContradiction fun h => hg (Or.inr h)
      right; right
      by_cases hr : roomC ls m = 0
      · rw [if_pos hr]
        by_cases hz : (lotAt ls a).free + (lotAt ls b).free = 0
        · rw [if_pos hz]; left; exact ⟨hj, h1, h2, by omega, Or.inr (Or.inl ⟨hr, hz, rfl⟩)⟩
        · rw [if_neg hz]
          by_cases hq : 2147483647 < (lotAt ls a).free + (lotAt ls b).free
          · rw [if_pos hq]; left; exact ⟨hj, h1, h2, by omega, Or.inr (Or.inr ⟨hr, hq, rfl⟩)⟩
          · rw [if_neg hq]; right; exact ⟨hj, h1, h2, hr, hz, by omega, rfl⟩
      · rw [if_neg hr]; left; exact ⟨hj, h1, h2, by omega, Or.inl ⟨hr, rfl⟩⟩
  · left; rw [if_neg (fun h => hj h.2)]; exact ⟨hj, rfl⟩

theorem mergeR_fn {rcs : List (Nat × Nat)} {Z : Nat → Prop} {w : World} {R td : Nat} {v : Value} {fs : List Value} {rec : ByteArray} {ls : List L} {os : List O} {ro : Ro} (hP : RV os rcs ro w R v td rec fs ls) (hZ : Z R) (hZv : ∀ g, v.ownBlock = some g → Z g) (hZo : ∀ g, OB ro g → Z g) (gn cap0 : Nat) (a b m : Nat) (hns : NS w gn [a, b, m]) (h1 : a ≤ 2147483647) (h2 : b ≤ 2147483647) (h3 : m ≤ 2147483647) (hi : idx a ls < ls.length) :
    Calls Tryz.prog 100 #[.pointer (some ⟨R, 0, none⟩), .int .i64 (idx a ls : Int), .slice (some ⟨gn, 0, none⟩) 3 cap0] w fun e w' => Kp Z w w' ∧ e = .returned (.int .i64 (mergeC ls a b m : Int)) ∧ RI os rcs (Zn Z w) w' R td rec (mergeS ls a b m) := by
  rcases mergeC_cases ls a b m hi with ⟨hj, hc⟩ | ⟨hj, hx, hc⟩ | ⟨hj, he, hg, h0, hx⟩ | ⟨hj, he, hg, hr, hz, hz2, hc⟩
  · have hS : mergeS ls a b m = ls := if_neg (by omega)
    rw [hS, hc]
    exact (mergeR_none hP gn cap0 a b m hns h2 (idx a ls) hi hj).mono fun e w' ⟨he, hb⟩ => ⟨kpB hb, he, v, fs, ro, hP.below hb, Or.inl hZ, fun g hg => Or.inl (hZv g hg), fun g hg => Or.inl (hZo g hg)⟩
  · have hS : mergeS ls a b m = ls := if_neg (by omega)
    rw [hS, hc]
    exact (mergeR_goods hP gn cap0 a b m hns h2 (idx a ls) hi hj hx).mono fun e w' ⟨he, hb⟩ => ⟨kpB hb, he, v, fs, ro, hP.below hb, Or.inl hZ, fun g hg => Or.inl (hZv g hg), fun g hg => Or.inl (hZo g hg)⟩
  · have hS : mergeS ls a b m = ls := if_neg (by omega)
    rw [hS]
    exact (mergeR_late hP gn cap0 a b m hns h2 h3 (idx a ls) hi hj he hg (mergeC ls a b m) h0 hx).mono fun e w' ⟨he, hb⟩ => ⟨kpB hb, he, v, fs, ro, hP.below hb, Or.inl hZ, fun g hg => Or.inl (hZv g hg), fun g hg => Or.inl (hZo g hg)⟩
  · have hS : mergeS ls a b m = _ := if_pos hc
    rw [hS, hc]
    by_cases hE : (lotAt ls b).expiry < (lotAt ls a).expiry
    · by_cases hB : b < a
      · exact mergeR_yes1 hP hZ hZv hZo gn cap0 a b m hns h1 h2 h3 hi hj he hg hr hz hz2 hE hB
      · exact mergeR_yes3 hP hZ hZv hZo gn cap0 a b m hns h1 h2 h3 hi hj he hg hr hz hz2 hE hB
    · by_cases hB : b < a
      · exact mergeR_yes2 hP hZ hZv hZo gn cap0 a b m hns h1 h2 h3 hi hj he hg hr hz hz2 hE hB
      · exact mergeR_yes4 hP hZ hZv hZo gn cap0 a b m hns h1 h2 h3 hi hj he hg hr hz hz2 hE hB

set_option maxHeartbeats 1600000 in
theorem mergeR_any {rcs : List (Nat × Nat)} {Z : Nat → Prop} {w : World} {R td : Nat} {rec : ByteArray} {ls : List L} {os : List O} (h : RI os rcs Z w R td rec ls) (gn cap0 : Nat) (a b m : Nat) (hns : NS w gn [a, b, m]) (h1 : a ≤ 2147483647) (h2 : b ≤ 2147483647) (h3 : m ≤ 2147483647) :
    Calls Tryz.prog 60 #[.pointer (some ⟨R, 0, none⟩), .int .i64 4, .slice (some ⟨gn, 0, none⟩) 3 cap0] w fun e w' => Kp Z w w' ∧ e = .returned (.int .i64 (mergeC ls a b m : Int)) ∧ RI os rcs (Zn Z w) w' R td rec (mergeS ls a b m) := by
  obtain ⟨v, fs, ro, hP, hZ, hZv, hZo⟩ := h
  have n0 : w.cell? ⟨gn, 0, none⟩ = some (.int .i64 (a : Int)) := hns.2 0 (by simp)
  have HA := hide (at_any hP a h1)
  by_cases hi : idx a ls < ls.length
  · have HF := hide (mergeR_fn hP hZ hZv hZo gn cap0 a b m hns h1 h2 h3 hi)
    have HV0 : Hid (atV ls a = (idx a ls : Int)) := by unfold Hid atV; rw [if_pos hi]
    rw [HV0.out] at HA
    have hroom := hP.room
    generalize mergeS ls a b m = ls' at HF ⊢
    generalize mergeC ls a b m = rc at HF ⊢
    clear HV0
    generalize idx a ls = i at *
    obtain ⟨len, HN⟩ : ∃ len, Hid (len = ls.length) := ⟨_, rfl⟩
    rw [← HN.out] at hi hroom
    clear hP hns hZ hZv hZo
    go_enter Tryz.func60, Tryz.ntmps60
    go_wp2_with (first
      | (go_at_call 99; refine (HA.out).mono ?_; rintro e w1 ⟨rfl, rfl⟩)
      | (go_at_call 100; refine (HF.out).mono ?_; rintro e w1 ⟨hk, rfl, hri⟩))
    go_ret
    exact ⟨hk, rfl, hri⟩
  · have HV0 : Hid (atV ls a = -1) := by unfold Hid atV; rw [if_neg hi]
    have HC : Hid (mergeC ls a b m = 4) := by unfold Hid mergeC; rw [if_neg (fun h => hi h.1)]
    have HS : Hid (mergeS ls a b m = ls) := by unfold Hid; exact if_neg (by rw [HC.out]; omega)
    rw [HV0.out] at HA
    rw [HC.out, HS.out]
    have HP := hide hP
    clear hP hi HV0 HC HS hns
    go_enter Tryz.func60, Tryz.ntmps60
    go_wp2_with (go_at_call 99; refine (HA.out).mono ?_; rintro e w1 ⟨rfl, rfl⟩)
    go_ret
    exact ⟨Kp.refl _ _, rfl, v, fs, ro, HP.out, Or.inl hZ, fun g hg => Or.inl (hZv g hg), fun g hg => Or.inl (hZo g hg)⟩

set_option maxHeartbeats 1600000 in
theorem doesR_split {rcs : List (Nat × Nat)} {Z : Nat → Prop} {w : World} {R td : Nat} {rec : ByteArray} {ls : List L} {os : List O} (h : RI os rcs Z w R td rec ls) (gn cap : Nat) (a b c : Nat) (hn : NS w gn [a, b, c])
    (h1 : a ≤ 2147483647) (h2 : b ≤ 2147483647) (h3 : c ≤ 2147483647) :
    Calls Tryz.prog 47 #[.pointer (some ⟨R, 0, none⟩), .int .i64 3, .slice (some ⟨gn, 0, none⟩) 3 cap] w fun e w' => Kp Z w w' ∧ e = .returned (.tuple #[.slice none 0 0, .int .i64 (splitC ls a b c : Int)]) ∧ RI os rcs (Zn Z w) w' R td rec (splitS ls a b c) := by
  have HC := hide (splitR_any h gn cap a b c hn h1 h2 h3)
  generalize splitS ls a b c = ls' at HC ⊢
  generalize splitC ls a b c = rc at HC ⊢
  clear h hn
  go_enter Tryz.func47, Tryz.ntmps47
  go_wp2_with (go_at_call 60; refine (HC.out).mono ?_; rintro e w1 ⟨hk, rfl, hri⟩)
  go_ret2
  exact ⟨hk, rfl, hri⟩

set_option maxHeartbeats 1600000 in
theorem doesR_merge {rcs : List (Nat × Nat)} {Z : Nat → Prop} {w : World} {R td : Nat} {rec : ByteArray} {ls : List L} {os : List O} (h : RI os rcs Z w R td rec ls) (gn cap : Nat) (a b c : Nat) (hn : NS w gn [a, b, c])
    (h1 : a ≤ 2147483647) (h2 : b ≤ 2147483647) (h3 : c ≤ 2147483647) :
    Calls Tryz.prog 47 #[.pointer (some ⟨R, 0, none⟩), .int .i64 4, .slice (some ⟨gn, 0, none⟩) 3 cap] w fun e w' => Kp Z w w' ∧ e = .returned (.tuple #[.slice none 0 0, .int .i64 (mergeC ls a b c : Int)]) ∧ RI os rcs (Zn Z w) w' R td rec (mergeS ls a b c) := by
  have HC := hide (mergeR_any h gn cap a b c hn h1 h2 h3)
  generalize mergeS ls a b c = ls' at HC ⊢
  generalize mergeC ls a b c = rc at HC ⊢
  clear h hn
  go_enter Tryz.func47, Tryz.ntmps47
  go_wp2_with (go_at_call 60; refine (HC.out).mono ?_; rintro e w1 ⟨hk, rfl, hri⟩)
  go_ret2
  exact ⟨hk, rfl, hri⟩

set_option maxHeartbeats 1600000 in
theorem doesR_scrap {rcs : List (Nat × Nat)} {Z : Nat → Prop} {w : World} {R td : Nat} {rec : ByteArray} {ls : List L} {os : List O} (h : RI os rcs Z w R td rec ls) (gn cap : Nat) (a b : Nat) (hn : NS w gn [a, b])
    (h1 : a ≤ 2147483647) (h2 : b ≤ 2147483647) :
    Calls Tryz.prog 47 #[.pointer (some ⟨R, 0, none⟩), .int .i64 10, .slice (some ⟨gn, 0, none⟩) 2 cap] w fun e w' => Kp Z w w' ∧ e = .returned (.tuple #[.slice none 0 0, .int .i64 (scrapC ls a b : Int)]) ∧ RI os rcs (Zn Z w) w' R td rec (scrapS ls a b) := by
  have HC := hide (scrapR_any h gn cap a b hn h1 h2)
  generalize scrapS ls a b = ls' at HC ⊢
  generalize scrapC ls a b = rc at HC ⊢
  clear h hn
  go_enter Tryz.func47, Tryz.ntmps47
  go_wp2_with (go_at_call 65; refine (HC.out).mono ?_; rintro e w1 ⟨hk, rfl, hri⟩)
  go_ret2
  exact ⟨hk, rfl, hri⟩

end Go.Proofs.YtlmafelclgeccaaGreatDoor

namespace Go.Proofs.YtlmafelclgeccaaGreatDoor
set_option linter.unusedSimpArgs false
set_option linter.unusedVariables false
open Go.RowKit
set_option maxRecDepth 100000

/-- What a command answers, and what becomes of day and lots; with Split, Merge and Scrap. -/
def stepT (rcs : List (Nat × Nat)) (td : Nat) (ls : List L) : Pl.Cmd → List UInt8 × Nat × List L
  | .ok (3, [a, b, c]) => ([UInt8.ofNat (splitC ls a b c)], td, splitS ls a b c)
  | .ok (4, [a, b, c]) => ([UInt8.ofNat (mergeC ls a b c)], td, mergeS ls a b c)
  | .ok (10, [a, b]) => ([UInt8.ofNat (scrapC ls a b)], td, scrapS ls a b)
  | c => stepS rcs td ls c

theorem stepT_old {rcs : List (Nat × Nat)} {c : Pl.Cmd} (h : Played c) (td : Nat) (ls : List L) : stepT rcs td ls c = stepS rcs td ls c := by
  cases c with
  | error e => rfl
  | ok p =>
    obtain ⟨n, ns⟩ := p
    rcases h n ns rfl with rfl | rfl | rfl | rfl <;> rfl

/-- The codes that are played, with Split, Merge and Scrap. -/
def PlayedT (c : Pl.Cmd) : Prop := ∀ n ns, c = .ok (n, ns) → n = 1 ∨ n = 2 ∨ n = 11 ∨ n = 12 ∨ n = 3 ∨ n = 4 ∨ n = 10

theorem played_or {l : List UInt8} (h : PlayedT (Pl.cmd l)) : Played (Pl.cmd l) ∨ ∃ c ns, formOf l = some (c, ns) ∧ Pl.mays (Pl.kindsL c) ns = true ∧ Pl.cmd l = .ok (c, ns) ∧ (c = 3 ∨ c = 4 ∨ c = 10) ∧ ns.length = (Pl.kindsL c).length ∧ ∀ n ∈ ns, n < 9223372036854775808 := by
  have hcf := cmd_form l
  cases hform : formOf l with
  | none => left; intro n ns hc; rw [hform] at hcf; rw [hcf] at hc; cases hc
  | some p =>
    obtain ⟨c, ns⟩ := p
    rw [hform] at hcf
    obtain ⟨hc1, hc2, hlen, hlt⟩ := form_facts hform
    cases hm : Pl.mays (Pl.kindsL c) ns with
    | false =>
      simp only [hm, Bool.false_eq_true, if_false] at hcf
      left; intro n ns hc; rw [hcf] at hc; cases hc
    | true =>
      simp only [hm, if_true] at hcf
      have hq := h c ns hcf
      by_cases h3 : c = 3 ∨ c = 4 ∨ c = 10
      · right; exact ⟨c, ns, rfl, hm, hcf, h3, hlen, hlt⟩
      · left; intro n ms hc; rw [hcf] at hc; cases hc; omega

theorem answerT_any {rcs : List (Nat × Nat)} {Z : Nat → Prop} {w : World} {Lb td : Nat} {ls : List L} {os : List O} (h : PL os rcs Z w Lb td ls) (hg : Gl w) (s : ByteArray) (hs : s.size ≤ 2097152) (hp : PlayedT (Pl.cmd s.data.toList)) :
    Calls Tryz.prog 43 #[.pointer (some ⟨Lb, 0, none⟩), .string s] w fun e w' => Kp Z w w' ∧ e = .returned (.string ⟨(stepT rcs td ls (Pl.cmd s.data.toList)).1.toArray⟩) ∧ PL os rcs (Zn Z w) w' Lb (stepT rcs td ls (Pl.cmd s.data.toList)).2.1 (stepT rcs td ls (Pl.cmd s.data.toList)).2.2 := by
  rcases played_or hp with hold | ⟨c, ns, hform, hm, hcf, h3, hlen, hlt⟩
  · rw [stepT_old hold]; exact answer_any h hg s hs hold
  · rw [hcf]
    rcases h3 with rfl | rfl | rfl
    · obtain ⟨a, b, c, rfl⟩ := len3 hlen
      exact ans_Split h hg s hs a b c (hlt a (by simp)) (hlt b (by simp)) (hlt c (by simp)) hform hm
    · obtain ⟨a, b, c, rfl⟩ := len3 hlen
      exact ans_Merge h hg s hs a b c (hlt a (by simp)) (hlt b (by simp)) (hlt c (by simp)) hform hm
    · obtain ⟨a, b, rfl⟩ := len2 hlen
      exact ans_Scrap h hg s hs a b (hlt a (by simp)) (hlt b (by simp)) hform hm

set_option maxHeartbeats 800000 in
theorem handlePT_any {rcs : List (Nat × Nat)} {Z : Nat → Prop} {w : World} {Lb td : Nat} {ls : List L} {os : List O} (h : PL os rcs Z w Lb td ls) (hg : Gl w) (s : ByteArray) (hs : s.size ≤ 2097152) (hp : PlayedT (Pl.cmd s.data.toList)) :
    Calls Tryz.prog 20 #[.pointer (some ⟨Lb, 0, none⟩), .string s] w fun e w' => Kp Z w w' ∧ e = .returned (.string ⟨(stepT rcs td ls (Pl.cmd s.data.toList)).1.toArray⟩) ∧ PL os rcs (Zn Z w) w' Lb (stepT rcs td ls (Pl.cmd s.data.toList)).2.1 (stepT rcs td ls (Pl.cmd s.data.toList)).2.2 := by
  have HA := hide (answerT_any h hg s hs hp)
  generalize stepT rcs td ls (Pl.cmd s.data.toList) = st at HA ⊢
  obtain ⟨b, td', ls'⟩ := st
  clear h hp
  go_enter Tryz.func20, Tryz.ntmps20
  go_wp2_with (go_at_call 43; refine (HA.out).mono ?_; rintro e w1 ⟨hk, rfl, hpl⟩)
  go_ret
  exact ⟨hk, rfl, hpl⟩

/-- A command that answers with its error alone, and whose frame is told where it has none. -/
theorem hR_code {rcs : List (Nat × Nat)} {Z : Nat → Prop} {os : List O} {w : World} {R td : Nat} {rec : ByteArray} (hZR : Z R) (hrec : rec.size ≤ 1000000000000000) (s : ByteArray) (hs : s.size ≤ 2097143) (c : Nat) (hc10 : c ≤ 10) (ns : List Nat) (hcf : Pl.cmd s.data.toList = .ok (c, ns)) (rc : Nat) (hrc : rc ≤ 9) (ls' : List L)
    (HD : ∀ w1, Below w.heap.size w w1 → DoesAt R c ns w1 fun e w' => Kp Z w1 w' ∧ e = .returned (.tuple #[.slice none 0 0, .int .i64 (rc : Int)]) ∧ RI os rcs (Zn Z w1) w' R td rec ls') :
    Calls Tryz.prog 34 #[.pointer (some ⟨R, 0, none⟩), .string s] w fun e w' => e = .returned (.string ⟨[UInt8.ofNat rc].toArray⟩) ∧ Kp Z w w' ∧ ∃ rec', rec'.size ≤ rec.size + (s.size + 13) ∧ RI os rcs (Zn Z w) w' R td rec' ls' := by
  have hs' : s.size ≤ 2097152 := by omega
  by_cases h0 : rc = 0
  · subst h0
    refine (hR_log (os := os) (rcs := rcs) w R td rec hrec ls' s hs c hc10 ns hcf (fun w1 hb1 gn cap hn => ?_) hZR).mono ?_
    · refine (HD w1 hb1 gn cap hn).mono ?_
      rintro e w2 ⟨hk, q2, q3⟩
      exact ⟨q2, hk, q3⟩
    · rintro e w' ⟨h1, h2, rec', h3, h4⟩
      exact ⟨h1, h2, rec', by omega, h4⟩
  · refine (hR_err w R s hs' c ns hcf rc (by omega) (by omega) (fun w2 => Kp Z w w2 ∧ RI os rcs (Zn Z w) w2 R td rec ls') (fun w1 hb1 gn cap hn => ?_)).mono ?_
    · refine (HD w1 hb1 gn cap hn).mono ?_
      rintro e w2 ⟨hk, q2, q3⟩
      exact ⟨q2, Kp.before hb1 (hk.mono (fun k h => Or.inl h)), q3.mono (fun k hk => hk.elim Or.inl (fun h => Or.inr (Nat.le_trans hb1.size h)))⟩
    · rintro e w' ⟨h1, w2, ⟨q1, q2⟩, hb2⟩
      exact ⟨h1, q1.after hb2, rec, by omega, q2.below hb2⟩

theorem handleRT_any {rcs : List (Nat × Nat)} {Z : Nat → Prop} {w : World} {R td : Nat} {rec : ByteArray} {ls : List L} {os : List O} (h : RI os rcs Z w R td rec ls) (hrec : rec.size ≤ 1000000000000000) (s : ByteArray) (hs : s.size ≤ 2097143) (hp : PlayedT (Pl.cmd s.data.toList)) :
    Calls Tryz.prog 34 #[.pointer (some ⟨R, 0, none⟩), .string s] w fun e w' => e = .returned (.string ⟨(stepT rcs td ls (Pl.cmd s.data.toList)).1.toArray⟩) ∧ Kp Z w w' ∧ ∃ rec', rec'.size ≤ rec.size + (s.size + 13) ∧ RI os rcs (Zn Z w) w' R (stepT rcs td ls (Pl.cmd s.data.toList)).2.1 rec' (stepT rcs td ls (Pl.cmd s.data.toList)).2.2 := by
  have hZR : Z R := by obtain ⟨v, fs, ro, _, hz, _⟩ := h; exact hz
  rcases played_or hp with hold | ⟨c, ns, hform, hm, hcf, h3, hlen, hlt⟩
  · rw [stepT_old hold]; exact handleR_any h hrec s hs hold
  · rw [hcf]
    rcases h3 with rfl | rfl | rfl
    · obtain ⟨a, b, c, rfl⟩ := len3 hlen
      have hd : a ≤ 2147483647 ∧ b ≤ 2147483647 ∧ c ≤ 2147483647 := by simp [Pl.mays, Pl.kindsL, Pl.mayB] at hm; omega
      exact hR_code hZR hrec s hs 3 (by omega) [a, b, c] hcf (splitC ls a b c) (splitC_le _ _ _ _) (splitS ls a b c) (fun w1 hb1 gn cap hn => doesR_split (h.below hb1) gn cap a b c hn hd.1 hd.2.1 hd.2.2)
    · obtain ⟨a, b, c, rfl⟩ := len3 hlen
      have hd : a ≤ 2147483647 ∧ b ≤ 2147483647 ∧ c ≤ 2147483647 := by simp [Pl.mays, Pl.kindsL, Pl.mayB] at hm; omega
      exact hR_code hZR hrec s hs 4 (by omega) [a, b, c] hcf (mergeC ls a b c) (mergeC_le _ _ _ _) (mergeS ls a b c) (fun w1 hb1 gn cap hn => doesR_merge (h.below hb1) gn cap a b c hn hd.1 hd.2.1 hd.2.2)
    · obtain ⟨a, b, rfl⟩ := len2 hlen
      have hd : a ≤ 2147483647 ∧ b ≤ 2147483647 := by simp [Pl.mays, Pl.kindsL, Pl.mayB] at hm; omega
      exact hR_code hZR hrec s hs 10 (by omega) [a, b] hcf (scrapC ls a b) (scrapC_le _ _ _) (scrapS ls a b) (fun w1 hb1 gn cap hn => doesR_scrap (h.below hb1) gn cap a b hn hd.1 hd.2)

end Go.Proofs.YtlmafelclgeccaaGreatDoor

namespace Go.Proofs.YtlmafelclgeccaaGreatDoor
set_option linter.unusedSimpArgs false
set_option linter.unusedVariables false
open Go.RowKit
set_option maxRecDepth 100000

theorem good_stepT {rcs : List (Nat × Nat)} {os : List O} {td : Nat} {ls : List L} (h : Good os ls) (c : Pl.Cmd) : Good os (stepT rcs td ls c).2.2 := by
  have hset : ∀ (ls : List L), Good os ls → ∀ (i n : Nat), i < ls.length → Good os (ls.set i (gaveL (ls.getD i L0) n)) := fun ls h i n hi => h.set hi rfl rfl rfl
  cases c with
  | error e => exact h
  | ok p =>
    obtain ⟨n, ns⟩ := p
    unfold stepT
    split
    · rename_i a b c heq
      show Good os (splitS ls a b c)
      unfold splitS
      by_cases hc : splitC ls a b c = 0
      · rw [if_pos hc]
        unfold splitC at hc
        by_cases hi : idx a ls < ls.length
        · rw [if_pos hi] at hc
          by_cases hr : roomC ls b = 0
          · refine (hset ls h _ c hi).snoc ?_ (by simp [mkL]) rfl
            intro i hil
            rw [List.length_set] at hil
            have hf := room_fresh hr i hil
            by_cases e : i = idx a ls
            · subst e; rw [gset_eq hi]; exact hf
            · rw [gset_ne e]; exact hf
          · rw [if_neg hr] at hc; exact absurd hc hr
        · rw [if_neg hi] at hc; omega
      · rw [if_neg hc]; exact h
    · rename_i a b c heq
      show Good os (mergeS ls a b c)
      unfold mergeS
      by_cases hc : mergeC ls a b c = 0
      · rw [if_pos hc]
        unfold mergeC at hc
        by_cases hi : idx a ls < ls.length ∧ idx b ls < ls.length
        · rw [if_pos hi] at hc
          by_cases he : idx a ls = idx b ls ∨ (lotAt ls a).goods ≠ (lotAt ls b).goods
          · rw [if_pos he] at hc; omega
          · rw [if_neg he] at hc
            have hne : idx b ls ≠ idx a ls := fun e => he (Or.inl e.symm)
            by_cases hr : roomC ls c = 0
            · have h2 := hset ls h _ (lotAt ls a).free hi.1
              have h3 := hset _ h2 (idx b ls) (lotAt ls b).free (by rw [List.length_set]; exact hi.2)
              rw [gset_ne hne] at h3
              refine h3.snoc ?_ (by simp [mkL]) rfl
              intro i hil
              rw [List.length_set, List.length_set] at hil
              have hf := room_fresh hr i hil
              by_cases e : i = idx b ls
              · subst e; rw [gset_eq (by rw [List.length_set]; exact hi.2)]; exact hf
              · rw [gset_ne e]
                by_cases e' : i = idx a ls
                · subst e'; rw [gset_eq hi.1]; exact hf
                · rw [gset_ne e']; exact hf
            · rw [if_neg hr] at hc; exact absurd hc hr
        · rw [if_neg hi] at hc; omega
      · rw [if_neg hc]; exact h
    · rename_i a b heq
      show Good os (scrapS ls a b)
      unfold scrapS
      by_cases hc : scrapC ls a b = 0
      · rw [if_pos hc]
        unfold scrapC at hc
        by_cases hi : idx a ls < ls.length
        · exact h.set hi rfl rfl rfl
        · rw [if_neg hi] at hc; omega
      · rw [if_neg hc]; exact h
    · exact good_stepS h _

set_option maxHeartbeats 1600000 in
theorem playT_any {B Q N : Nat} {w0 w : World} (h : Inv B w0 w Q N) (hN : N ≤ 1000000000000000) (s : ByteArray) (hs : s.size ≤ 2097143) (hp : PlayedT (Pl.cmd s.data.toList)) :
    Calls Tryz.prog 15 #[.pointer (some ⟨Q, 0, none⟩), .agg #[.int .i64 1, .int .i64 0, .int .i64 0, .string s]] w fun e w' => e = .returned (.bool true) ∧ Inv B w0 w' Q (N + (s.size + 13)) := by
  have ha := al1 w (.cells #[.int .i64 1, .int .i64 0, .int .i64 0, .string s] 29)
  have hop := heap_alloc_new w (.cells #[.int .i64 1, .int .i64 0, .int .i64 0, .string s] 29)
  obtain ⟨hold0, hsz0, htwo, hgl0, hQ, Lb, R, Zp, Zr, td, ls, os, rcs, rec, hqo, hpl0, hri0, h40, h50, hrec, hgo⟩ := h
  have hab : Below w.heap.size w (w.alloc (.cells #[.int .i64 1, .int .i64 0, .int .i64 0, .string s] 29)).drew := ha.drew
  have hq := (hab.block Q (blk_lt hqo)).trans hqo
  have hpl := hpl0.below hab
  have hri := hri0.below hab
  have hgl := hgl0.below hab
  have hold := hold0.trans (hab.mono hsz0)
  have hsz := Nat.le_trans hsz0 hab.size
  have h4 : ∀ k, Zp k → B ≤ k ∧ k < (w.alloc (.cells #[.int .i64 1, .int .i64 0, .int .i64 0, .string s] 29)).drew.heap.size ∧ k ≠ Q ∧ ¬ Zr k := fun k hk => ⟨(h40 k hk).1, Nat.lt_of_lt_of_le (h40 k hk).2.1 hab.size, (h40 k hk).2.2⟩
  have h5 : ∀ k, Zr k → B ≤ k ∧ k < (w.alloc (.cells #[.int .i64 1, .int .i64 0, .int .i64 0, .string s] 29)).drew.heap.size ∧ k ≠ Q := fun k hk => ⟨(h50 k hk).1, Nat.lt_of_lt_of_le (h50 k hk).2.1 hab.size, (h50 k hk).2.2⟩
  have hzw1 : ¬ Zp w.heap.size := fun h => Nat.lt_irrefl _ (h40 _ h).2.1
  have hzw2 : ¬ Zr w.heap.size := fun h => Nat.lt_irrefl _ (h50 _ h).2.1
  have hnw : ¬ Zp w.heap.size := hzw1
  have HH := hide (handlePT_any hpl hgl s (by omega) hp)
  have q0 : (w.alloc (.cells #[.int .i64 1, .int .i64 0, .int .i64 0, .string s] 29)).cell? ⟨Q, 0, none⟩ = some (.pointer (some ⟨Lb, 0, none⟩)) := by
    have : (w.alloc (.cells #[.int .i64 1, .int .i64 0, .int .i64 0, .string s] 29)).heap[Q]? = _ := hq
    rw [blk_cell this]; rfl
  have o3 : (w.alloc (.cells #[.int .i64 1, .int .i64 0, .int .i64 0, .string s] 29)).cell? ⟨w.heap.size, 3, none⟩ = some (.string s) := by rw [blk_cell hop]; rfl
  have o0 : (w.alloc (.cells #[.int .i64 1, .int .i64 0, .int .i64 0, .string s] 29)).cell? ⟨w.heap.size, 0, none⟩ = some (.int .i64 1) := by rw [blk_cell hop]; rfl
  go_enter Tryz.func15, Tryz.ntmps15
  go_wp2_with fail
  have hQlt : Q < (w.alloc (.cells #[.int .i64 1, .int .i64 0, .int .i64 0, .string s] 29)).heap.size := blk_lt hq
  have hwlt : w.heap.size < (w.alloc (.cells #[.int .i64 1, .int .i64 0, .int .i64 0, .string s] 29)).heap.size := by simp
  have hnQ : Hid (¬ Zp Q) := fun h => (h4 Q h).2.2.1 rfl
  have hnW : Hid (¬ Zp w.heap.size) := hnw
  have hq1 : (w.alloc (.cells #[.int .i64 1, .int .i64 0, .int .i64 0, .string s] 29)).cell? ⟨Q, 1, none⟩ = some (.pointer (some ⟨R, 0, none⟩)) := by
    have : (w.alloc (.cells #[.int .i64 1, .int .i64 0, .int .i64 0, .string s] 29)).heap[Q]? = _ := hq
    rw [blk_cell this]; rfl
  go_region_held3 (fun w' => w'.cell? ⟨Q, 0, none⟩ = some (.pointer (some ⟨Lb, 0, none⟩)) ∧ w'.cell? ⟨w.heap.size, 3, none⟩ = some (.string s)) (go_keep)
    (first
      | (go_at_call 20; refine (HH.out).mono ?_; rintro e w3 ⟨hk3, rfl, hpl3⟩; have hqq := hk3.block Q hQlt hnQ.out; have hqw := hk3.block w.heap.size hwlt hnW.out; have m0 := (World.cell?_of_block (a := ⟨Q, 0, none⟩) hqq).trans q0; have m1 := (World.cell?_of_block (a := ⟨w.heap.size, 3, none⟩) hqw).trans o3; have m2 := (World.cell?_of_block (a := ⟨Q, 1, none⟩) hqq).trans hq1))
  have hri3 : RI os rcs Zr w3.drew R td rec ls := (hri.congr (fun k hk => hk3.block k (h5 k hk).2.1 (fun hz => (h4 k hz).2.2.2 hk))).below (drewB w3)
  have HR := hide (handleRT_any hri3 (by omega) s hs hp)
  have hs3 : Hid ((w.alloc (.cells #[.int .i64 1, .int .i64 0, .int .i64 0, .string s] 29)).drew.heap.size ≤ w3.heap.size) := hk3.size
  have hQ3 : Hid (Q < w3.heap.size) := Nat.lt_of_lt_of_le hQlt hs3.out
  have hW3 : Hid (w.heap.size < w3.heap.size) := Nat.lt_of_lt_of_le hwlt hs3.out
  have hnQr : Hid (¬ Zr Q) := fun h => (h5 Q h).2.2 rfl
  have hnWr : Hid (¬ Zr w.heap.size) := hzw2
  have HK3 := hide hk3
  have HPL := hide hpl3
  have H4 := hide h4
  have H5 := hide h5
  have HGO := hide (good_stepT (rcs := rcs) (td := td) hgo (Pl.cmd s.data.toList))
  generalize stepT rcs td ls (Pl.cmd s.data.toList) = st at HR HPL HGO ⊢
  obtain ⟨sb, td', ls'⟩ := st
  clear hqq hqw q0 o3 o0 hq1 hri3 hk3 hpl3 h4 h5 h40 h50 HH m0 hp
  go_wp2_with fail
  go_region_held3 (fun w' => w'.cell? ⟨Q, 1, none⟩ = some (.pointer (some ⟨R, 0, none⟩)) ∧ w'.cell? ⟨w.heap.size, 3, none⟩ = some (.string s)) (go_keep)
    (first
      | (go_at_call 34; refine (HR.out).mono ?_; rintro e w5 ⟨rfl, hk5, rec', hr5, hri5⟩; have hqq := hk5.block Q hQ3.out hnQr.out; have hqw := hk5.block w.heap.size hW3.out hnWr.out; have r1 := (World.cell?_of_block (a := ⟨Q, 1, none⟩) hqq).trans m2; have r2 := (World.cell?_of_block (a := ⟨w.heap.size, 3, none⟩) hqw).trans m1))
  clear hqq hqw r1 r2 m1 m2
  go_wp2_with fail
  go_ret
  refine ⟨rfl, ?_⟩
  exact Inv.step hold hsz htwo hgl hQ hq H4.out H5.out HK3.out HPL.out (Kp.before (drewB w3) (hk5.mono (fun k h => Or.inl h))) hri5 (by omega) HGO.out

theorem playedT_of (l : List UInt8) (h : allowB l [1, 2, 3, 4, 10, 11, 12] = true) : PlayedT (Pl.cmd l) := by
  intro n ns hc
  cases l with
  | nil => cases hc
  | cons c r =>
    have hcf := cmd_form (c :: r)
    rw [hc] at hcf
    cases hform : formOf (c :: r) with
    | none => rw [hform] at hcf; cases hcf
    | some p =>
      obtain ⟨m, ms⟩ := p
      rw [hform] at hcf
      have hf := form_facts hform
      have hm : m = c.toNat := by
        simp only [formOf] at hform
        by_cases hk : Pl.kindsL c.toNat = []
        · simp [hk] at hform
        · simp only [hk, if_false] at hform
          cases hn : Pl.nums r with
          | none => rw [hn] at hform; cases hform
          | some xs =>
            rw [hn] at hform
            by_cases hl : xs.length = (Pl.kindsL c.toNat).length
            · simp only [hl, if_true, Option.some.injEq, Prod.mk.injEq] at hform
              exact hform.1.symm
            · simp [hl] at hform
      have hn : n = m := by
        cases hq : Pl.mays (Pl.kindsL m) ms
        · simp [hq] at hcf
        · simp [hq] at hcf; exact hcf.1
      rw [hn, hm]
      simp only [allowB, List.any_cons, List.any_nil, Bool.or_false, Bool.or_eq_true, beq_iff_eq] at h
      rcases h with rfl | rfl | rfl | rfl | rfl | rfl | rfl <;> decide

theorem Inv.grow {B Q N N' : Nat} {w0 w : World} (h : Inv B w0 w Q N) (hN : N ≤ N') : Inv B w0 w Q N' := by
  obtain ⟨a, b, c, d, e, Lb, R, Zp, Zr, td, ls, os, rcs, rec, h1, h2, h3, h4, h5, h6, h7⟩ := h
  exact ⟨a, b, c, d, e, Lb, R, Zp, Zr, td, ls, os, rcs, rec, h1, h2, h3, h4, h5, Nat.le_trans h6 hN, h7⟩

set_option maxHeartbeats 1600000 in
theorem answers_any (b off len cap : Nat) (ss : List ByteArray) (hl : len ≤ ss.length) (hlen : len ≤ 2097152) (hss : ∀ j, j < len → (ss.getD j ByteArray.empty).size ≤ 2097143) (w : World) (hg : Gl w) (hb : b < w.heap.size)
    (hc : ∀ j, j < len → w.cell? ⟨b, off + j, none⟩ = some (.string (ss.getD j ByteArray.empty))) :
    Calls Tryz.prog 16 #[.slice (some ⟨b, off, none⟩) len cap, .string ⟨#[1, 2, 3, 4, 10, 11, 12]⟩] w fun e w' => e = .returned (.bool true) ∧ Below w.heap.size w w' := by
  go_enter Tryz.func16, Tryz.ntmps16
  go_wp2_with (go_at_call 13; refine (begun_any _ hg).mono ?_; rintro e w1 ⟨Q, rfl, hinv⟩)
  go_loopw [6, 7, 8] (fun ok i _ wr => ∃ k : Nat, k ≤ len ∧ ok = .bool true ∧ i = .int .i64 k ∧ Inv w.heap.size w wr Q (k * 4000000)) (fun _ i _ _ => len - (intOf i).toNat)
  case atStart => exact ⟨0, by omega, rfl, rfl, by simpa using hinv⟩
  case round =>
    clear hinv
    obtain ⟨k, hk, rfl, rfl, hinv⟩ := hrel
    by_cases hlt : k < len
    · obtain ⟨s, HS⟩ : ∃ s, Hid (s = ss.getD k ByteArray.empty) := ⟨_, rfl⟩
      have hcx : wr.cell? ⟨b, off + k, none⟩ = some (.string s) := by rw [HS.out]; exact (hinv.old.cell (by exact hb)).trans (hc k hlt)
      have hsz : s.size ≤ 2097143 := by rw [HS.out]; exact hss k hlt
      have HI := hide hinv
      have HHA := hide (allowed_any s ⟨#[1, 2, 3, 4, 10, 11, 12]⟩ (by omega) (by decide) wr)
      clear hc hss hinv
      cases hal : allowB s.data.toList [1, 2, 3, 4, 10, 11, 12] with
      | true =>
        have HPY := hide (fun w2 (hb2 : Below wr.heap.size wr w2) => playT_any (HI.out.below hb2) (by omega) s hsz (playedT_of _ hal))
        have HHB : Hid (Calls Tryz.prog 14 #[.string s, .string ⟨#[1, 2, 3, 4, 10, 11, 12]⟩] wr fun e w' => e = .returned (.bool true) ∧ Below wr.heap.size wr w') := HHA.out.mono fun e w' ⟨q1, q2⟩ => ⟨q1.trans (ret_bool hal), q2⟩
        clear hal HHA
        go_wp2_with fail
        refine (HHB.out).mono ?_
        rintro e w2 ⟨rfl, hb2⟩
        have hcx2 : w2.cell? ⟨b, off + k, none⟩ = some (.string s) := (hb2.cell (by exact Nat.lt_of_lt_of_le hb HI.out.old.size)).trans hcx
        have HP2 := hide (HPY.out w2 hb2)
        go_wp2_with (go_at_call 15; refine (HP2.out).mono ?_; rintro e w3 ⟨rfl, hinv3⟩)
        go_roundw
        case rel => exact ⟨k + 1, by omega, rfl, by go_num, hinv3.grow (by omega)⟩
        case measure => simp [intOf]; omega
      | false =>
        have HHB : Hid (Calls Tryz.prog 14 #[.string s, .string ⟨#[1, 2, 3, 4, 10, 11, 12]⟩] wr fun e w' => e = .returned (.bool false) ∧ Below wr.heap.size wr w') := HHA.out.mono fun e w' ⟨q1, q2⟩ => ⟨q1.trans (ret_bool hal), q2⟩
        clear hal HHA
        go_wp2_with fail
        refine (HHB.out).mono ?_
        rintro e w2 ⟨rfl, hb2⟩
        go_wp2_with fail
        go_roundw
        case rel => exact ⟨k + 1, by omega, rfl, by go_num, (HI.out.below hb2).grow (by omega)⟩
        case measure => simp [intOf]; omega
    · obtain rfl : k = len := by omega
      have HI := hide hinv.old
      clear hc hss hlt hinv
      go_wp2_with fail
      go_ret
      exact ⟨rfl, HI.out⟩

set_option maxHeartbeats 1600000 in
theorem answers_zero (ao : Option Addr) (cap : Nat) (w : World) (hg : Gl w) :
    Calls Tryz.prog 16 #[.slice ao 0 cap, .string ⟨#[1, 2, 3, 4, 10, 11, 12]⟩] w fun e w' => e = .returned (.bool true) ∧ Below w.heap.size w w' := by
  go_enter Tryz.func16, Tryz.ntmps16
  go_wp2_with (go_at_call 13; refine (begun_any _ hg).mono ?_; rintro e w1 ⟨Q, rfl, hinv⟩)
  refine wp_loop_rounds 1 ?_; rw [rounds_succ]
  have HI := hide hinv.old
  clear hinv
  go_wp2_with fail
  go_ret
  exact ⟨rfl, HI.out⟩

set_option maxHeartbeats 800000 in
theorem stocks_of {v : Value} {w : World} (ha : Hid (Calls Tryz.prog 16 #[v, .string ⟨#[1, 2, 3, 4, 10, 11, 12]⟩] w fun e w' => e = .returned (.bool true) ∧ Below w.heap.size w w')) :
    Calls Tryz.prog 4 #[v] w fun e w' => e = .returned (.bool true) ∧ Below w.heap.size w w' := by
  go_enter Tryz.func4, Tryz.ntmps4
  go_wp2_with (go_at_call 16; refine (ha.out).mono ?_; rintro e w1 ⟨rfl, hb1⟩)
  go_ret
  exact ⟨rfl, hb1⟩

end Go.Proofs.YtlmafelclgeccaaGreatDoor
