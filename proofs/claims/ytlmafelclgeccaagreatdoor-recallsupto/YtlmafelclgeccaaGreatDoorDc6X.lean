import Derived.Test.YtlmafelclgeccaaGreatDoorDc5
import Derived.Test.YtlmafelclgeccaaGreatDoorRp5
import Derived.Test.YtlmafelclgeccaaGreatDoorQ13X
import Derived.Deep.RegionHeld3
namespace Go.Proofs.YtlmafelclgeccaaGreatDoor
set_option linter.unusedSimpArgs false
set_option linter.unusedVariables false
open Go.RowKit
set_option maxRecDepth 100000

theorem recallsR_any {rcs : List (Nat × Nat)} {Z : Nat → Prop} {w : World} {R td : Nat} {rec : ByteArray} {ls : List L} {os : List O} (h : RI os rcs Z w R td rec ls) (gn cap a m : Nat) (hn : NS w gn [a, m]) (h1 : a ≤ 2147483647) (h2 : m ≤ 2147483647) :
    Calls Tryz.prog 63 #[.pointer (some ⟨R, 0, none⟩), .slice (some ⟨gn, 0, none⟩) 2 cap] w fun e w' => Kp Z w w' ∧ RI os (recallS rcs ls a m) (Zn Z w) w' R td rec ls ∧
      ((recallC rcs ls a m ≠ 0 ∧ e = .returned (.tuple #[.slice none 0 0, .int .i64 (recallC rcs ls a m : Int)])) ∨ (recallC rcs ls a m = 0 ∧ ∃ g c, e = .returned (.tuple #[.slice (some ⟨g, 0, none⟩) (toldQ ls (heldQ ls a)).length c, .int .i64 0]) ∧ g ≠ R ∧ Rw w' g (toldQ ls (heldQ ls a)))) := by
  obtain ⟨v, fs, ro, hP, hZ, hZv, hZo⟩ := h
  by_cases hc : recallC rcs ls a m = 0
  · obtain ⟨q1, q2, q3⟩ := recallC_zero hc
    unfold recallS
    rw [if_pos hc]
    refine (recallsR_ok hP gn cap a m hn h1 h2 q1 q2 q3).mono ?_
    rintro e w' ⟨hk, ⟨ro', hrv, hob⟩, g, c, he, hgR, hr⟩
    refine ⟨hk.mono (fun k hk => ?_), ⟨v, fs, ro', hrv, Or.inl hZ, fun g hg => Or.inl (hZv g hg), fun g hg => (hob g hg).elim (fun h => Or.inl (hZo g h)) Or.inr⟩, Or.inr ⟨hc, g, c, he, hgR, hr⟩⟩
    rcases hk with rfl | hk
    · exact hZ
    · exact hZo k (Or.inr (Or.inr (Or.inl hk)))
  · unfold recallS
    rw [if_neg hc]
    refine (recallsR_no hP gn cap a m hn h1 h2 hc).mono ?_
    rintro e w' ⟨hb, he⟩
    exact ⟨kpB hb, ⟨v, fs, ro, hP.below hb, Or.inl hZ, fun g hg => Or.inl (hZv g hg), fun g hg => Or.inl (hZo g hg)⟩, Or.inl ⟨hc, he⟩⟩

set_option maxHeartbeats 1600000 in
theorem doesR_recall {Q : Ending → World → Prop} {w : World} {R : Nat} (gn cap : Nat)
    (HC : Hid (Calls Tryz.prog 63 #[.pointer (some ⟨R, 0, none⟩), .slice (some ⟨gn, 0, none⟩) 2 cap] w fun e w' => ∃ a l c n, e = .returned (.tuple #[.slice a l c, .int .i64 n]) ∧ Q e w')) :
    Calls Tryz.prog 47 #[.pointer (some ⟨R, 0, none⟩), .int .i64 8, .slice (some ⟨gn, 0, none⟩) 2 cap] w Q := by
  go_enter Tryz.func47, Tryz.ntmps47
  go_wp2_with (go_at_call 63; refine (HC.out).mono ?_; rintro e w1 ⟨a, l, c, n, rfl, hq⟩)
  exact hq

theorem releaseR_ri {rcs : List (Nat × Nat)} {Z : Nat → Prop} {w : World} {R td : Nat} {rec : ByteArray} {ls : List L} {os : List O} (h : RI os rcs Z w R td rec ls) (gn cap a m : Nat) (hn : NS w gn [a, m]) (h1 : a ≤ 2147483647) (h2 : m ≤ 2147483647) :
    Calls Tryz.prog 64 #[.pointer (some ⟨R, 0, none⟩), .slice (some ⟨gn, 0, none⟩) 2 cap] w fun e w' => Kp Z w w' ∧ e = .returned (.int .i64 (releaseC rcs a m : Int)) ∧ RI os (releaseS rcs a m) (Zn Z w) w' R td rec ls := by
  obtain ⟨v, fs, ro, hP, hZ, hZv, hZo⟩ := h
  refine (releaseR_any hP gn cap a m hn h1 h2).mono ?_
  rintro e w' ⟨hk, he, ro', hrv, hob⟩
  exact ⟨hk.mono (fun k hk => by rw [hk]; exact hZ), he, v, fs, ro', hrv, Or.inl hZ, fun g hg => Or.inl (hZv g hg), fun g hg => (hob g hg).elim (fun h => Or.inl (hZo g h)) Or.inr⟩

set_option maxHeartbeats 1600000 in
theorem doesR_release {rcs : List (Nat × Nat)} {Z : Nat → Prop} {w : World} {R td : Nat} {rec : ByteArray} {ls : List L} {os : List O} (h : RI os rcs Z w R td rec ls) (gn cap a m : Nat) (hn : NS w gn [a, m]) (h1 : a ≤ 2147483647) (h2 : m ≤ 2147483647) :
    Calls Tryz.prog 47 #[.pointer (some ⟨R, 0, none⟩), .int .i64 9, .slice (some ⟨gn, 0, none⟩) 2 cap] w fun e w' => Kp Z w w' ∧ e = .returned (.tuple #[.slice none 0 0, .int .i64 (releaseC rcs a m : Int)]) ∧ RI os (releaseS rcs a m) (Zn Z w) w' R td rec ls := by
  have HC := hide (releaseR_ri h gn cap a m hn h1 h2)
  generalize releaseS rcs a m = rs' at HC ⊢
  generalize releaseC rcs a m = rc at HC ⊢
  clear h hn
  go_enter Tryz.func47, Tryz.ntmps47
  go_wp2_with (go_at_call 64; refine (HC.out).mono ?_; rintro e w1 ⟨hk, rfl, hri⟩)
  go_ret2
  exact ⟨hk, rfl, hri⟩

set_option maxHeartbeats 1600000 in
theorem hR_told2 {rcs : List (Nat × Nat)} {Z : Nat → Prop} {os : List O} (w : World) (R td : Nat) (rec : ByteArray) (hrec : rec.size ≤ 1000000000000000) (ls : List L) (s : ByteArray) (hs : s.size ≤ 2097143) (c : Nat) (hc10 : c ≤ 10) (ns : List Nat) (hc : Pl.cmd s.data.toList = .ok (c, ns)) (rs : List Nat) (hrs : ∀ n ∈ rs, n < 9223372036854775808) (hrl : rs.length ≤ 100)
    (HD : Hid (∀ w1, Below w.heap.size w w1 → DoesAt R c ns w1 fun e w' => Kp Z w1 w' ∧ RI os rcs (Zn Z w1) w' R td rec ls ∧ ∃ g cp, e = .returned (.tuple #[.slice (some ⟨g, 0, none⟩) rs.length cp, .int .i64 0]) ∧ g ≠ R ∧ Rw w' g rs)) (hZ : Z R) :
    Calls Tryz.prog 34 #[.pointer (some ⟨R, 0, none⟩), .string s] w fun e w' => e = .returned (.string ⟨(0 :: Pl.toldB rs).toArray⟩) ∧ Kp Z w w' ∧ ∃ rec', rec'.size ≤ rec.size + s.size + 13 ∧ RI os rcs (Zn Z w) w' R td rec' ls := by
  have HC := hide (command_ok s (by omega) w c ns hc)
  generalize hm : ns.length = m at HC
  have HM := hide hm
  have hbd := Pl.toldB_len rs hrs
  have HT := hide (fun (b cp : Nat) (w : World) (hbw : b < w.heap.size) hc => told_some b cp rs hrs (by omega) w hbw hc)
  obtain ⟨rl, HRL⟩ : ∃ rl, Hid (rl = rs.length) := ⟨_, rfl⟩
  rw [← HRL.out] at HD HT hrl hbd
  clear hc hm hrs
  go_enter Tryz.func34, Tryz.ntmps34
  go_wp2_with fail
  refine (HC.out).mono ?_
  rintro e w1 ⟨hb1, gn, cap, rfl, hns⟩
  have HD1 := hide (HD.out w1 hb1 gn cap hns)
  rw [HM.out] at HD1
  clear hns
  go_wp2_with fail
  refine (HD1.out).mono ?_
  rintro e w2 ⟨hk, hri, g, cp, rfl, hgR, hrw⟩
  have HRW := hide hrw
  clear hrw
  go_wp2_with fail
  refine (frame_any s hs w2).mono ?_
  rintro e w3 ⟨hb3, f, rfl, hf⟩
  obtain ⟨v, fs, ro, hrv, hz1, hz2, hz3⟩ := hri
  have hrv3 := hrv.below hb3
  have c4 := hrv3.c4
  have f4 := blk_free hrv3.store 4
  have hRW4 : ∀ u, Rw (w3.setCell ⟨R, 4, none⟩ u) g rs := fun u => by
    have hs4 : (w3.setCell ⟨R, 4, none⟩ u).heap[g]? = w2.heap[g]? := (Below.heap_setCell _ _ _ _ hgR).trans (hb3.block g HRW.out.1)
    refine ⟨Nat.lt_of_lt_of_le HRW.out.1 (Nat.le_trans hb3.size (grownBy_setCell w3 ⟨R, 4, none⟩ u).size), fun j hj => (World.cell?_of_block (a := ⟨g, j, none⟩) hs4).trans (HRW.out.2 j hj)⟩
  have HT2 := hide (fun u => HT.out g cp (w3.setCell ⟨R, 4, none⟩ u) (hRW4 u).1 (by rw [HRL.out]; exact (hRW4 u).2))
  have HRV := hide hrv3
  clear hrv hrv3 hRW4 hgR
  go_wp2_with fail
  refine (HT2.out _).mono ?_
  rintro e w5 ⟨rfl, hb5⟩
  go_wp2_with fail
  go_ret
  refine ⟨ret_strB (ByteArray.mk_append_mk [0] (Pl.toldB rs)), ?_, rec ++ f, ?_, v, fs, ro, (HRV.out.recs _).below hb5, ?_, ?_, ?_⟩
  · exact ((Kp.before hb1 ((hk.after hb3).mono (fun k h => Or.inl h))).setCell (p := ⟨R, 4, none⟩) (Or.inl hZ) _).after hb5
  · rw [ByteArray.size_append']; omega
  · exact Or.inl hZ
  · intro g hg
    rcases hz2 g hg with h | h
    · exact Or.inl h
    · exact Or.inr (Nat.le_trans hb1.size h)
  · intro g hg
    rcases hz3 g hg with h | h
    · exact Or.inl h
    · exact Or.inr (Nat.le_trans hb1.size h)

theorem hR_code2 {rcs : List (Nat × Nat)} {Z : Nat → Prop} {os : List O} {w : World} {R td : Nat} {rec : ByteArray} (hZR : Z R) (hrec : rec.size ≤ 1000000000000000) (s : ByteArray) (hs : s.size ≤ 2097143) (c : Nat) (hc10 : c ≤ 10) (ns : List Nat) (hcf : Pl.cmd s.data.toList = .ok (c, ns)) (rc : Nat) (hrc : rc ≤ 99) (ls' : List L)
    (HD : ∀ w1, Below w.heap.size w w1 → DoesAt R c ns w1 fun e w' => Kp Z w1 w' ∧ e = .returned (.tuple #[.slice none 0 0, .int .i64 (rc : Int)]) ∧ RI os rcs (Zn Z w1) w' R td rec ls') :
    Calls Tryz.prog 34 #[.pointer (some ⟨R, 0, none⟩), .string s] w fun e w' => e = .returned (.string ⟨[UInt8.ofNat rc].toArray⟩) ∧ Kp Z w w' ∧ ∃ rec', rec'.size ≤ rec.size + (s.size + 13) ∧ RI os rcs (Zn Z w) w' R td rec' ls' := by
  have hs' : s.size ≤ 2097152 := by omega
  by_cases h0 : rc = 0
  · subst h0
    refine (hR_log (os := os) (rcs := rcs) w R td rec hrec ls' s hs c hc10 ns hcf (fun w1 hb1 gn cap hn => ?_) hZR).mono ?_
    · refine (HD w1 hb1 gn cap hn).mono ?_
      rintro e w2 ⟨hk, q2, q3⟩
      exact ⟨q2, hk, q3⟩
    · rintro e w' ⟨h1, h2, rec', h3, h4⟩
      exact ⟨h1, h2, rec', by omega, h4⟩
  · refine (hR_err w R s hs' c ns hcf rc (by omega) (by omega) (fun w2 => Kp Z w w2 ∧ RI os rcs (Zn Z w) w2 R td rec ls') (fun w1 hb1 gn cap hn => ?_)).mono ?_
    · refine (HD w1 hb1 gn cap hn).mono ?_
      rintro e w2 ⟨hk, q2, q3⟩
      exact ⟨q2, Kp.before hb1 (hk.mono (fun k h => Or.inl h)), q3.mono (fun k hk => hk.elim Or.inl (fun h => Or.inr (Nat.le_trans hb1.size h)))⟩
    · rintro e w' ⟨h1, w2, ⟨q1, q2⟩, hb2⟩
      exact ⟨h1, q1.after hb2, rec, by omega, q2.below hb2⟩

/-- Recall, told. -/
theorem hR_recall {rcs : List (Nat × Nat)} {Z : Nat → Prop} {w : World} {R td : Nat} {rec : ByteArray} {ls : List L} {os : List O} (h : RI os rcs Z w R td rec ls) (hrec : rec.size ≤ 1000000000000000) (s : ByteArray) (hs : s.size ≤ 2097143) (a m : Nat) (hcf : Pl.cmd s.data.toList = .ok (8, [a, m])) (h1 : a ≤ 2147483647) (h2 : m ≤ 2147483647) :
    Calls Tryz.prog 34 #[.pointer (some ⟨R, 0, none⟩), .string s] w fun e w' => e = .returned (.string ⟨(recallR rcs ls a m).toArray⟩) ∧ Kp Z w w' ∧ ∃ rec', rec'.size ≤ rec.size + (s.size + 13) ∧ RI os (recallS rcs ls a m) (Zn Z w) w' R td rec' ls := by
  have hZR : Z R := by obtain ⟨v, fs, ro, _, hz, _⟩ := h; exact hz
  have hs' : s.size ≤ 2097152 := by omega
  have HD := fun (w1 : World) (hb1 : Below w.heap.size w w1) (gn cap : Nat) (hn : NS w1 gn [a, m]) => recallsR_any (h.below hb1) gn cap a m hn h1 h2
  by_cases h0 : recallC rcs ls a m = 0
  · have hlo : ∀ x ∈ ls, L.Ok x := by obtain ⟨v, fs, ro, hP, _⟩ := h; exact hP.ok
    have hlr : ls.length ≤ 30 := by obtain ⟨v, fs, ro, hP, _⟩ := h; exact hP.room
    have hts := heldT_small hlo hlr a
    have e1 : recallR rcs ls a m = 0 :: Pl.toldB (toldQ ls (heldQ ls a)) := by unfold recallR; rw [if_pos h0]
    rw [e1]
    refine (hR_told2 (os := os) (rcs := recallS rcs ls a m) w R td rec hrec ls s hs 8 (by omega) [a, m] hcf (toldQ ls (heldQ ls a)) hts.1 (by omega) (hide (fun w1 hb1 gn cap hn => ?_)) hZR).mono ?_
    · refine doesR_recall gn cap (hide ((HD w1 hb1 gn cap hn).mono ?_))
      rintro e w' ⟨hk, hri, hq⟩
      rcases hq with ⟨hne, _⟩ | ⟨_, g, cp, he, hr⟩
      · exact absurd h0 hne
      · exact ⟨_, _, _, _, he, hk, hri, g, cp, he, hr⟩
    · rintro e w' ⟨q1, q2, rec', q3, q4⟩
      exact ⟨q1, q2, rec', by omega, q4⟩
  · have hrc := recallC_le rcs ls a m
    have e1 : recallR rcs ls a m = [UInt8.ofNat (recallC rcs ls a m)] := by unfold recallR; rw [if_neg h0]
    rw [e1]
    refine (hR_err w R s hs' 8 [a, m] hcf (recallC rcs ls a m) (by omega) (by omega) (fun w2 => Kp Z w w2 ∧ RI os (recallS rcs ls a m) (Zn Z w) w2 R td rec ls) (hide (fun w1 hb1 gn cap hn => ?_))).mono ?_
    · refine doesR_recall gn cap (hide ((HD w1 hb1 gn cap hn).mono ?_))
      rintro e w' ⟨hk, hri, hq⟩
      rcases hq with ⟨_, he⟩ | ⟨hz, _⟩
      · exact ⟨_, _, _, _, he, he, Kp.before hb1 (hk.mono (fun k h => Or.inl h)), hri.mono (fun k hk => hk.elim Or.inl (fun h => Or.inr (Nat.le_trans hb1.size h)))⟩
      · exact absurd hz h0
    · rintro e w' ⟨q1, w2, ⟨q2, q3⟩, hb2⟩
      exact ⟨q1, q2.after hb2, rec, by omega, q3.below hb2⟩

end Go.Proofs.YtlmafelclgeccaaGreatDoor

namespace Go.Proofs.YtlmafelclgeccaaGreatDoor
set_option linter.unusedSimpArgs false
set_option linter.unusedVariables false
open Go.RowKit
set_option maxRecDepth 100000

/-- What a command answers, and what becomes of day, orders, recalls and lots: any command. -/
def stepR (rcs : List (Nat × Nat)) (td : Nat) (os : List O) (ls : List L) : Pl.Cmd → List UInt8 × Nat × List O × List (Nat × Nat) × List L
  | .ok (8, [a, m]) => (recallR rcs ls a m, td, os, recallS rcs ls a m, ls)
  | .ok (9, [a, m]) => ([UInt8.ofNat (releaseC rcs a m)], td, os, releaseS rcs a m, ls)
  | c => ((stepO rcs td os ls c).1, (stepO rcs td os ls c).2.1, (stepO rcs td os ls c).2.2.1, rcs, (stepO rcs td os ls c).2.2.2)

theorem stepR_old {rcs : List (Nat × Nat)} {c : Pl.Cmd} (h : PlayedO c) (td : Nat) (os : List O) (ls : List L) : stepR rcs td os ls c = ((stepO rcs td os ls c).1, (stepO rcs td os ls c).2.1, (stepO rcs td os ls c).2.2.1, rcs, (stepO rcs td os ls c).2.2.2) := by
  cases c with
  | error e => rfl
  | ok p =>
    obtain ⟨n, ns⟩ := p
    rcases h n ns rfl with rfl | rfl | rfl | rfl | rfl | rfl | rfl | rfl | rfl | rfl <;> rfl

theorem playedR_or (l : List UInt8) : PlayedO (Pl.cmd l) ∨ ∃ c ns, formOf l = some (c, ns) ∧ Pl.mays (Pl.kindsL c) ns = true ∧ Pl.cmd l = .ok (c, ns) ∧ (c = 8 ∨ c = 9) ∧ ns.length = (Pl.kindsL c).length ∧ ∀ n ∈ ns, n < 9223372036854775808 := by
  have hcf := cmd_form l
  cases hform : formOf l with
  | none => left; intro n ns hc; rw [hform] at hcf; rw [hcf] at hc; cases hc
  | some p =>
    obtain ⟨c, ns⟩ := p
    rw [hform] at hcf
    obtain ⟨hc1, hc2, hlen, hlt⟩ := form_facts hform
    cases hm : Pl.mays (Pl.kindsL c) ns with
    | false =>
      simp only [hm, Bool.false_eq_true, if_false] at hcf
      left; intro n ns hc; rw [hcf] at hc; cases hc
    | true =>
      simp only [hm, if_true] at hcf
      by_cases h3 : c = 8 ∨ c = 9
      · right; exact ⟨c, ns, rfl, hm, hcf, h3, hlen, hlt⟩
      · left; intro n ms hc; rw [hcf] at hc; cases hc; omega

theorem len8 {ns : List Nat} (h : ns.length = (Pl.kindsL 8).length) : ∃ a m, ns = [a, m] := by
  match ns, h with
  | [a, m], _ => exact ⟨a, m, rfl⟩
theorem len9 {ns : List Nat} (h : ns.length = (Pl.kindsL 9).length) : ∃ a m, ns = [a, m] := by
  match ns, h with
  | [a, m], _ => exact ⟨a, m, rfl⟩

theorem answerR_all {rcs : List (Nat × Nat)} {Z : Nat → Prop} {w : World} {Lb td : Nat} {ls : List L} {os : List O} (h : PL os rcs Z w Lb td ls) (hgo : Good os ls) (hg : Gl w) (s : ByteArray) (hs : s.size ≤ 2097152) :
    Calls Tryz.prog 43 #[.pointer (some ⟨Lb, 0, none⟩), .string s] w fun e w' => Kp Z w w' ∧ e = .returned (.string ⟨(stepR rcs td os ls (Pl.cmd s.data.toList)).1.toArray⟩) ∧ PL (stepR rcs td os ls (Pl.cmd s.data.toList)).2.2.1 (stepR rcs td os ls (Pl.cmd s.data.toList)).2.2.2.1 (Zn Z w) w' Lb (stepR rcs td os ls (Pl.cmd s.data.toList)).2.1 (stepR rcs td os ls (Pl.cmd s.data.toList)).2.2.2.2 := by
  rcases playedR_or s.data.toList with hold | ⟨c, ns, hform, hm, hcf, h3, hlen, hlt⟩
  · rw [stepR_old hold]; exact answerO_any h hgo hg s hs hold
  · rw [hcf]
    rcases h3 with rfl | rfl
    · obtain ⟨a, m, rfl⟩ := len8 hlen
      exact ans_Recall h hgo hg s hs a m (hlt a (by simp)) (hlt m (by simp)) hform hm
    · obtain ⟨a, m, rfl⟩ := len9 hlen
      exact ans_Release h hg s hs a m (hlt a (by simp)) (hlt m (by simp)) hform hm

set_option maxHeartbeats 800000 in
theorem handlePR_any {rcs : List (Nat × Nat)} {Z : Nat → Prop} {w : World} {Lb td : Nat} {ls : List L} {os : List O} (h : PL os rcs Z w Lb td ls) (hgo : Good os ls) (hg : Gl w) (s : ByteArray) (hs : s.size ≤ 2097152) :
    Calls Tryz.prog 20 #[.pointer (some ⟨Lb, 0, none⟩), .string s] w fun e w' => Kp Z w w' ∧ e = .returned (.string ⟨(stepR rcs td os ls (Pl.cmd s.data.toList)).1.toArray⟩) ∧ PL (stepR rcs td os ls (Pl.cmd s.data.toList)).2.2.1 (stepR rcs td os ls (Pl.cmd s.data.toList)).2.2.2.1 (Zn Z w) w' Lb (stepR rcs td os ls (Pl.cmd s.data.toList)).2.1 (stepR rcs td os ls (Pl.cmd s.data.toList)).2.2.2.2 := by
  have HA := hide (answerR_all h hgo hg s hs)
  generalize stepR rcs td os ls (Pl.cmd s.data.toList) = st at HA ⊢
  obtain ⟨b, td', os', rs', ls'⟩ := st
  clear h hgo
  go_enter Tryz.func20, Tryz.ntmps20
  go_wp2_with (go_at_call 43; refine (HA.out).mono ?_; rintro e w1 ⟨hk, rfl, hpl⟩)
  go_ret
  exact ⟨hk, rfl, hpl⟩

theorem handleRR_any {rcs : List (Nat × Nat)} {Z : Nat → Prop} {w : World} {R td : Nat} {rec : ByteArray} {ls : List L} {os : List O} (h : RI os rcs Z w R td rec ls) (hgo : Good os ls) (hrec : rec.size ≤ 1000000000000000) (s : ByteArray) (hs : s.size ≤ 2097143) :
    Calls Tryz.prog 34 #[.pointer (some ⟨R, 0, none⟩), .string s] w fun e w' => e = .returned (.string ⟨(stepR rcs td os ls (Pl.cmd s.data.toList)).1.toArray⟩) ∧ Kp Z w w' ∧ ∃ rec', rec'.size ≤ rec.size + (s.size + 13) ∧ RI (stepR rcs td os ls (Pl.cmd s.data.toList)).2.2.1 (stepR rcs td os ls (Pl.cmd s.data.toList)).2.2.2.1 (Zn Z w) w' R (stepR rcs td os ls (Pl.cmd s.data.toList)).2.1 rec' (stepR rcs td os ls (Pl.cmd s.data.toList)).2.2.2.2 := by
  have hZR : Z R := by obtain ⟨v, fs, ro, _, hz, _⟩ := h; exact hz
  rcases playedR_or s.data.toList with hold | ⟨c, ns, hform, hm, hcf, h3, hlen, hlt⟩
  · rw [stepR_old hold]; exact handleRO_any h hgo hrec s hs hold
  · rw [hcf]
    rcases h3 with rfl | rfl
    · obtain ⟨a, m, rfl⟩ := len8 hlen
      have hd : a ≤ 2147483647 ∧ m ≤ 2147483647 := by simp [Pl.mays, Pl.kindsL, Pl.mayB] at hm; omega
      exact hR_recall h hrec s hs a m hcf hd.1 hd.2
    · obtain ⟨a, m, rfl⟩ := len9 hlen
      have hd : a ≤ 2147483647 ∧ m ≤ 2147483647 := by simp [Pl.mays, Pl.kindsL, Pl.mayB] at hm; omega
      have hrc := releaseC_le rcs a m
      exact hR_code2 hZR hrec s hs 9 (by omega) [a, m] hcf (releaseC rcs a m) (by omega) ls (fun w1 hb1 gn cap hn => doesR_release (h.below hb1) gn cap a m hn hd.1 hd.2)

theorem good_stepR {rcs : List (Nat × Nat)} {os : List O} {td : Nat} {ls : List L} (h : Good os ls) (hl : ls.length ≤ 30) (l : List UInt8) : Good (stepR rcs td os ls (Pl.cmd l)).2.2.1 (stepR rcs td os ls (Pl.cmd l)).2.2.2.2 := by
  rcases playedR_or l with hold | ⟨c, ns, hform, hm, hcf, h3, hlen, hlt⟩
  · rw [stepR_old hold]; exact good_stepO h hl l hold
  · rw [hcf]
    rcases h3 with rfl | rfl
    · obtain ⟨a, m, rfl⟩ := len8 hlen; exact h
    · obtain ⟨a, m, rfl⟩ := len9 hlen; exact h

end Go.Proofs.YtlmafelclgeccaaGreatDoor

namespace Go.Proofs.YtlmafelclgeccaaGreatDoor
set_option linter.unusedSimpArgs false
set_option linter.unusedVariables false
open Go.RowKit
set_option maxRecDepth 100000

set_option maxHeartbeats 1600000 in
theorem playR_any {B Q N : Nat} {w0 w : World} (h : Inv B w0 w Q N) (hN : N ≤ 1000000000000000) (s : ByteArray) (hs : s.size ≤ 2097143) :
    Calls Tryz.prog 15 #[.pointer (some ⟨Q, 0, none⟩), .agg #[.int .i64 1, .int .i64 0, .int .i64 0, .string s]] w fun e w' => e = .returned (.bool true) ∧ Inv B w0 w' Q (N + (s.size + 13)) := by
  have ha := al1 w (.cells #[.int .i64 1, .int .i64 0, .int .i64 0, .string s] 29)
  have hop := heap_alloc_new w (.cells #[.int .i64 1, .int .i64 0, .int .i64 0, .string s] 29)
  obtain ⟨hold0, hsz0, htwo, hgl0, hQ, Lb, R, Zp, Zr, td, ls, os, rcs, rec, hqo, hpl0, hri0, h40, h50, hrec, hgo⟩ := h
  have hab : Below w.heap.size w (w.alloc (.cells #[.int .i64 1, .int .i64 0, .int .i64 0, .string s] 29)).drew := ha.drew
  have hq := (hab.block Q (blk_lt hqo)).trans hqo
  have hpl := hpl0.below hab
  have hri := hri0.below hab
  have hgl := hgl0.below hab
  have hold := hold0.trans (hab.mono hsz0)
  have hsz := Nat.le_trans hsz0 hab.size
  have h4 : ∀ k, Zp k → B ≤ k ∧ k < (w.alloc (.cells #[.int .i64 1, .int .i64 0, .int .i64 0, .string s] 29)).drew.heap.size ∧ k ≠ Q ∧ ¬ Zr k := fun k hk => ⟨(h40 k hk).1, Nat.lt_of_lt_of_le (h40 k hk).2.1 hab.size, (h40 k hk).2.2⟩
  have h5 : ∀ k, Zr k → B ≤ k ∧ k < (w.alloc (.cells #[.int .i64 1, .int .i64 0, .int .i64 0, .string s] 29)).drew.heap.size ∧ k ≠ Q := fun k hk => ⟨(h50 k hk).1, Nat.lt_of_lt_of_le (h50 k hk).2.1 hab.size, (h50 k hk).2.2⟩
  have hzw1 : ¬ Zp w.heap.size := fun h => Nat.lt_irrefl _ (h40 _ h).2.1
  have hzw2 : ¬ Zr w.heap.size := fun h => Nat.lt_irrefl _ (h50 _ h).2.1
  have hnw : ¬ Zp w.heap.size := hzw1
  have HH := hide (handlePR_any hpl hgo hgl s (by omega))
  have q0 : (w.alloc (.cells #[.int .i64 1, .int .i64 0, .int .i64 0, .string s] 29)).cell? ⟨Q, 0, none⟩ = some (.pointer (some ⟨Lb, 0, none⟩)) := by
    have : (w.alloc (.cells #[.int .i64 1, .int .i64 0, .int .i64 0, .string s] 29)).heap[Q]? = _ := hq
    rw [blk_cell this]; rfl
  have o3 : (w.alloc (.cells #[.int .i64 1, .int .i64 0, .int .i64 0, .string s] 29)).cell? ⟨w.heap.size, 3, none⟩ = some (.string s) := by rw [blk_cell hop]; rfl
  have o0 : (w.alloc (.cells #[.int .i64 1, .int .i64 0, .int .i64 0, .string s] 29)).cell? ⟨w.heap.size, 0, none⟩ = some (.int .i64 1) := by rw [blk_cell hop]; rfl
  go_enter Tryz.func15, Tryz.ntmps15
  go_wp2_with fail
  have hQlt : Q < (w.alloc (.cells #[.int .i64 1, .int .i64 0, .int .i64 0, .string s] 29)).heap.size := blk_lt hq
  have hwlt : w.heap.size < (w.alloc (.cells #[.int .i64 1, .int .i64 0, .int .i64 0, .string s] 29)).heap.size := by simp
  have hnQ : Hid (¬ Zp Q) := fun h => (h4 Q h).2.2.1 rfl
  have hnW : Hid (¬ Zp w.heap.size) := hnw
  have hq1 : (w.alloc (.cells #[.int .i64 1, .int .i64 0, .int .i64 0, .string s] 29)).cell? ⟨Q, 1, none⟩ = some (.pointer (some ⟨R, 0, none⟩)) := by
    have : (w.alloc (.cells #[.int .i64 1, .int .i64 0, .int .i64 0, .string s] 29)).heap[Q]? = _ := hq
    rw [blk_cell this]; rfl
  go_region_held3 (fun w' => w'.cell? ⟨Q, 0, none⟩ = some (.pointer (some ⟨Lb, 0, none⟩)) ∧ w'.cell? ⟨w.heap.size, 3, none⟩ = some (.string s)) (go_keep)
    (first
      | (go_at_call 20; refine (HH.out).mono ?_; rintro e w3 ⟨hk3, rfl, hpl3⟩; have hqq := hk3.block Q hQlt hnQ.out; have hqw := hk3.block w.heap.size hwlt hnW.out; have m0 := (World.cell?_of_block (a := ⟨Q, 0, none⟩) hqq).trans q0; have m1 := (World.cell?_of_block (a := ⟨w.heap.size, 3, none⟩) hqw).trans o3; have m2 := (World.cell?_of_block (a := ⟨Q, 1, none⟩) hqq).trans hq1))
  have hroom : ls.length ≤ 30 := by obtain ⟨v, fs, ro, hP, _⟩ := hri; exact hP.room
  have hri3 : RI os rcs Zr w3.drew R td rec ls := (hri.congr (fun k hk => hk3.block k (h5 k hk).2.1 (fun hz => (h4 k hz).2.2.2 hk))).below (drewB w3)
  have HR := hide (handleRR_any hri3 hgo (by omega) s hs)
  have hs3 : Hid ((w.alloc (.cells #[.int .i64 1, .int .i64 0, .int .i64 0, .string s] 29)).drew.heap.size ≤ w3.heap.size) := hk3.size
  have hQ3 : Hid (Q < w3.heap.size) := Nat.lt_of_lt_of_le hQlt hs3.out
  have hW3 : Hid (w.heap.size < w3.heap.size) := Nat.lt_of_lt_of_le hwlt hs3.out
  have hnQr : Hid (¬ Zr Q) := fun h => (h5 Q h).2.2 rfl
  have hnWr : Hid (¬ Zr w.heap.size) := hzw2
  have HK3 := hide hk3
  have HPL := hide hpl3
  have H4 := hide h4
  have H5 := hide h5
  have HGO := hide (good_stepR (rcs := rcs) (td := td) hgo hroom s.data.toList)
  generalize stepR rcs td os ls (Pl.cmd s.data.toList) = st at HR HPL HGO ⊢
  obtain ⟨sb, td', os', rs', ls'⟩ := st
  clear hqq hqw q0 o3 o0 hq1 hri3 hk3 hpl3 h4 h5 h40 h50 HH m0 hroom
  go_wp2_with fail
  go_region_held3 (fun w' => w'.cell? ⟨Q, 1, none⟩ = some (.pointer (some ⟨R, 0, none⟩)) ∧ w'.cell? ⟨w.heap.size, 3, none⟩ = some (.string s)) (go_keep)
    (first
      | (go_at_call 34; refine (HR.out).mono ?_; rintro e w5 ⟨rfl, hk5, rec', hr5, hri5⟩; have hqq := hk5.block Q hQ3.out hnQr.out; have hqw := hk5.block w.heap.size hW3.out hnWr.out; have r1 := (World.cell?_of_block (a := ⟨Q, 1, none⟩) hqq).trans m2; have r2 := (World.cell?_of_block (a := ⟨w.heap.size, 3, none⟩) hqw).trans m1))
  clear hqq hqw r1 r2 m1 m2
  go_wp2_with fail
  go_ret
  refine ⟨rfl, ?_⟩
  exact Inv.step hold hsz htwo hgl hQ hq H4.out H5.out HK3.out HPL.out (Kp.before (drewB w3) (hk5.mono (fun k h => Or.inl h))) hri5 (by omega) HGO.out

set_option maxHeartbeats 1600000 in
theorem recalls_any (b off len cap : Nat) (ss : List ByteArray) (hl : len ≤ ss.length) (hlen : len ≤ 2097152) (hss : ∀ j, j < len → (ss.getD j ByteArray.empty).size ≤ 2097143) (w : World) (hg : Gl w) (hb : b < w.heap.size)
    (hc : ∀ j, j < len → w.cell? ⟨b, off + j, none⟩ = some (.string (ss.getD j ByteArray.empty))) :
    Calls Tryz.prog 6 #[.slice (some ⟨b, off, none⟩) len cap] w fun e w' => e = .returned (.bool true) ∧ Below w.heap.size w w' := by
  go_enter Tryz.func6, Tryz.ntmps6
  go_wp2_with (go_at_call 13; refine (begun_any _ hg).mono ?_; rintro e w1 ⟨Q, rfl, hinv⟩)
  go_loopw [4, 5] (fun ok i wr => ∃ k : Nat, k ≤ len ∧ ok = .bool true ∧ i = .int .i64 k ∧ Inv w.heap.size w wr Q (k * 4000000)) (fun _ i _ => len - (intOf i).toNat)
  case atStart => exact ⟨0, by omega, rfl, rfl, by simpa using hinv⟩
  case round =>
    clear hinv
    obtain ⟨k, hk, rfl, rfl, hinv⟩ := hrel
    by_cases hlt : k < len
    · obtain ⟨s, HS⟩ : ∃ s, Hid (s = ss.getD k ByteArray.empty) := ⟨_, rfl⟩
      have hcx : wr.cell? ⟨b, off + k, none⟩ = some (.string s) := by rw [HS.out]; exact (hinv.old.cell (by exact hb)).trans (hc k hlt)
      have hsz : s.size ≤ 2097143 := by rw [HS.out]; exact hss k hlt
      have HP2 := hide (playR_any hinv (by omega) s hsz)
      clear hc hss hinv
      go_wp2_with (go_at_call 15; refine (HP2.out).mono ?_; rintro e w3 ⟨rfl, hinv3⟩)
      go_roundw
      case rel => exact ⟨k + 1, by omega, rfl, by go_num, hinv3.grow (by omega)⟩
      case measure => simp [intOf]; omega
    · obtain rfl : k = len := by omega
      have HI := hide hinv.old
      clear hc hss hlt hinv
      go_wp2_with fail
      go_ret
      exact ⟨rfl, HI.out⟩

set_option maxHeartbeats 1600000 in
theorem recalls_zero (ao : Option Addr) (cap : Nat) (w : World) (hg : Gl w) :
    Calls Tryz.prog 6 #[.slice ao 0 cap] w fun e w' => e = .returned (.bool true) ∧ Below w.heap.size w w' := by
  go_enter Tryz.func6, Tryz.ntmps6
  go_wp2_with (go_at_call 13; refine (begun_any _ hg).mono ?_; rintro e w1 ⟨Q, rfl, hinv⟩)
  refine wp_loop_rounds 1 ?_; rw [rounds_succ]
  have HI := hide hinv.old
  clear hinv
  go_wp2_with fail
  go_ret
  exact ⟨rfl, HI.out⟩

end Go.Proofs.YtlmafelclgeccaaGreatDoor
