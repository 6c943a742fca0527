import Derived.Test.YtclipofifmajeaaGreatDoorWireB
import Derived.Test.YtclipofifmajeaaGreatDoorRefC
namespace Go.Proofs.YtclipofifmajeaaGreatDoor
set_option linter.unusedSimpArgs false
set_option linter.unusedVariables false
open Go.RowKit
set_option maxRecDepth 100000

/-- The reader at b has these bytes left. -/
def RdL (b : Nat) (w w' : World) (l : List UInt8) : Prop := ∃ t : ByteArray, t.data.toList = l ∧ t.size ≤ 2097152 ∧ Rd b w w' t

theorem num_get (b : Nat) (hb : 2 ≤ b) (l : List UInt8) (w w0 : World) (hg : Gl w) (hr0 : RdL b w w0 l) :
    Calls Tryz.prog 95 #[.pointer (some ⟨b, 0, none⟩)] w0 fun e w' =>
      (Pl.snd l ≠ 0 ∧ e = .returned (.int .i64 (Pl.fst l : Nat)) ∧ RdL b w w' (l.drop (Pl.snd l))) ∨ (Pl.snd l = 0 ∧ Broke b w e w') := by
  obtain ⟨t, rfl, ht, hr⟩ := hr0
  refine (number_get b hb t ht w w0 hg hr).mono ?_
  rintro e w' (⟨h1, h2, h3⟩ | h)
  · exact Or.inl ⟨h1, h2, _, extract_drop t _, by rw [ByteArray.size_extract]; omega, h3⟩
  · exact Or.inr h

theorem byte_get' (b : Nat) (c : UInt8) (r : List UInt8) (w w0 : World) (hr0 : RdL b w w0 (c :: r)) :
    Calls Tryz.prog 94 #[.pointer (some ⟨b, 0, none⟩)] w0 fun e w' => e = .returned (.int .u8 (c.toNat : Int)) ∧ RdL b w w' r := by
  obtain ⟨t, ht, hts, hr⟩ := hr0
  have hsz : 0 < t.size := by
    have : t.data.toList.length = t.size := by simp
    rw [ht] at this; simp at this; omega
  have h0 : t[0] = c := by
    have := ba_getD t 0 hsz
    rw [ht] at this; simpa using this.symm
  refine (byte_get b t hsz w w0 hr).mono ?_
  rintro e w' ⟨h1, h2⟩
  rw [h0] at h1
  refine ⟨h1, _, ?_, ?_, h2⟩
  · rw [extract_drop, ht]; rfl
  · rw [ByteArray.size_extract]; omega

/-- What 'take' gives for a command of n numbers. -/
def TakePost (b : Nat) (w : World) (T n : Nat) (r : List UInt8) (e : Ending) (w' : World) : Prop :=
  match Pl.readN n r with
  | none => Broke b w e w'
  | some (ns, rest) => e = .returned (.iface T (.agg (I ns).toArray)) ∧ RdL b w w' rest

theorem readN_stop {n : Nat} {l : List UInt8} (h : Pl.snd l = 0) : Pl.readN (n + 1) l = none := by simp [Pl.readN, h]
theorem readN_step {n : Nat} {l : List UInt8} (h : Pl.snd l ≠ 0) : Pl.readN (n + 1) l = (Pl.readN n (l.drop (Pl.snd l))).map fun p => (Pl.fst l :: p.1, p.2) := by
  simp only [Pl.readN, h, if_false]
  cases Pl.readN n (l.drop (Pl.snd l)) <;> rfl

set_option maxHeartbeats 800000 in
theorem take_Day (b : Nat) (hb : 2 ≤ b) (r : List UInt8) (w w0 : World) (hg : Gl w) (hr0 : RdL b w w0 (1 :: r)) :
    Calls Tryz.prog 60 #[.pointer (some ⟨b, 0, none⟩)] w0 (TakePost b w 111 1 r) := by
  have HB := hide (byte_get' b 1 r w w0 hr0)
  rw [show ((1 : UInt8).toNat : Int) = 1 from rfl] at HB
  clear hr0
  go_enter Tryz.func60, Tryz.ntmps60
  go_wp2_with fail
  refine (HB.out).mono ?_
  rintro e w1 ⟨rfl, hr1⟩
  obtain ⟨l0, HL0⟩ : ∃ l, Hid (l = r) := ⟨_, rfl⟩
  have hq0 : RdL b w w1 l0 := by rw [HL0.out]; exact hr1
  clear hr1
  obtain ⟨f0, HF0⟩ : ∃ f, Hid (f = Pl.fst l0) := ⟨_, rfl⟩
  go_wp2_with fail
  refine (num_get b hb l0 w _ hg hq0).mono ?_
  rintro e w2 (⟨hs0, rfl, hr2⟩ | ⟨hs0, ⟨t0, v0, rfl⟩, hr2⟩)
  rotate_left
  · refine ⟨rfl, ?_⟩
    show TakePost b w 111 1 r _ _
    unfold TakePost
    rw [← HL0.out, readN_stop hs0]
    exact ⟨⟨t0, v0, rfl⟩, hr2⟩
  rw [← HF0.out]
  have HS0 := hide hs0
  clear hs0 hq0
  go_wp2_with fail
  go_ret
  unfold TakePost
  rw [← HL0.out, readN_step HS0.out]
  simp only [Pl.readN, Option.map_some, ← HF0.out]
  exact ⟨rfl, hr2⟩

set_option maxHeartbeats 800000 in
theorem take_Receive (b : Nat) (hb : 2 ≤ b) (r : List UInt8) (w w0 : World) (hg : Gl w) (hr0 : RdL b w w0 (2 :: r)) :
    Calls Tryz.prog 60 #[.pointer (some ⟨b, 0, none⟩)] w0 (TakePost b w 114 4 r) := by
  have HB := hide (byte_get' b 2 r w w0 hr0)
  rw [show ((2 : UInt8).toNat : Int) = 2 from rfl] at HB
  clear hr0
  go_enter Tryz.func60, Tryz.ntmps60
  go_wp2_with fail
  refine (HB.out).mono ?_
  rintro e w1 ⟨rfl, hr1⟩
  obtain ⟨l0, HL0⟩ : ∃ l, Hid (l = r) := ⟨_, rfl⟩
  have hq0 : RdL b w w1 l0 := by rw [HL0.out]; exact hr1
  clear hr1
  obtain ⟨f0, HF0⟩ : ∃ f, Hid (f = Pl.fst l0) := ⟨_, rfl⟩
  go_wp2_with fail
  refine (num_get b hb l0 w _ hg hq0).mono ?_
  rintro e w2 (⟨hs0, rfl, hr2⟩ | ⟨hs0, ⟨t0, v0, rfl⟩, hr2⟩)
  rotate_left
  · refine ⟨rfl, ?_⟩
    show TakePost b w 114 4 r _ _
    unfold TakePost
    rw [← HL0.out, readN_stop hs0]
    exact ⟨⟨t0, v0, rfl⟩, hr2⟩
  rw [← HF0.out]
  have HS0 := hide hs0
  clear hs0 hq0
  obtain ⟨l1, HL1⟩ : ∃ l, Hid (l = l0.drop (Pl.snd l0)) := ⟨_, rfl⟩
  have hq1 : RdL b w w2 l1 := by rw [HL1.out]; exact hr2
  clear hr2
  obtain ⟨f1, HF1⟩ : ∃ f, Hid (f = Pl.fst l1) := ⟨_, rfl⟩
  go_wp2_with fail
  refine (num_get b hb l1 w _ hg hq1).mono ?_
  rintro e w3 (⟨hs1, rfl, hr3⟩ | ⟨hs1, ⟨t1, v1, rfl⟩, hr3⟩)
  rotate_left
  · refine ⟨rfl, ?_⟩
    show TakePost b w 114 4 r _ _
    unfold TakePost
    rw [← HL0.out, readN_step HS0.out, ← HL1.out, readN_stop hs1]
    exact ⟨⟨t1, v1, rfl⟩, hr3⟩
  rw [← HF1.out]
  have HS1 := hide hs1
  clear hs1 hq1
  obtain ⟨l2, HL2⟩ : ∃ l, Hid (l = l1.drop (Pl.snd l1)) := ⟨_, rfl⟩
  have hq2 : RdL b w w3 l2 := by rw [HL2.out]; exact hr3
  clear hr3
  obtain ⟨f2, HF2⟩ : ∃ f, Hid (f = Pl.fst l2) := ⟨_, rfl⟩
  go_wp2_with fail
  refine (num_get b hb l2 w _ hg hq2).mono ?_
  rintro e w4 (⟨hs2, rfl, hr4⟩ | ⟨hs2, ⟨t2, v2, rfl⟩, hr4⟩)
  rotate_left
  · refine ⟨rfl, ?_⟩
    show TakePost b w 114 4 r _ _
    unfold TakePost
    rw [← HL0.out, readN_step HS0.out, ← HL1.out, readN_step HS1.out, ← HL2.out, readN_stop hs2]
    exact ⟨⟨t2, v2, rfl⟩, hr4⟩
  rw [← HF2.out]
  have HS2 := hide hs2
  clear hs2 hq2
  obtain ⟨l3, HL3⟩ : ∃ l, Hid (l = l2.drop (Pl.snd l2)) := ⟨_, rfl⟩
  have hq3 : RdL b w w4 l3 := by rw [HL3.out]; exact hr4
  clear hr4
  obtain ⟨f3, HF3⟩ : ∃ f, Hid (f = Pl.fst l3) := ⟨_, rfl⟩
  go_wp2_with fail
  refine (num_get b hb l3 w _ hg hq3).mono ?_
  rintro e w5 (⟨hs3, rfl, hr5⟩ | ⟨hs3, ⟨t3, v3, rfl⟩, hr5⟩)
  rotate_left
  · refine ⟨rfl, ?_⟩
    show TakePost b w 114 4 r _ _
    unfold TakePost
    rw [← HL0.out, readN_step HS0.out, ← HL1.out, readN_step HS1.out, ← HL2.out, readN_step HS2.out, ← HL3.out, readN_stop hs3]
    exact ⟨⟨t3, v3, rfl⟩, hr5⟩
  rw [← HF3.out]
  have HS3 := hide hs3
  clear hs3 hq3
  go_wp2_with fail
  go_ret
  unfold TakePost
  rw [← HL0.out, readN_step HS0.out, ← HL1.out, readN_step HS1.out, ← HL2.out, readN_step HS2.out, ← HL3.out, readN_step HS3.out]
  simp only [Pl.readN, Option.map_some, ← HF0.out, ← HF1.out, ← HF2.out, ← HF3.out]
  exact ⟨rfl, hr5⟩

set_option maxHeartbeats 800000 in
theorem take_Split (b : Nat) (hb : 2 ≤ b) (r : List UInt8) (w w0 : World) (hg : Gl w) (hr0 : RdL b w w0 (3 :: r)) :
    Calls Tryz.prog 60 #[.pointer (some ⟨b, 0, none⟩)] w0 (TakePost b w 117 3 r) := by
  have HB := hide (byte_get' b 3 r w w0 hr0)
  rw [show ((3 : UInt8).toNat : Int) = 3 from rfl] at HB
  clear hr0
  go_enter Tryz.func60, Tryz.ntmps60
  go_wp2_with fail
  refine (HB.out).mono ?_
  rintro e w1 ⟨rfl, hr1⟩
  obtain ⟨l0, HL0⟩ : ∃ l, Hid (l = r) := ⟨_, rfl⟩
  have hq0 : RdL b w w1 l0 := by rw [HL0.out]; exact hr1
  clear hr1
  obtain ⟨f0, HF0⟩ : ∃ f, Hid (f = Pl.fst l0) := ⟨_, rfl⟩
  go_wp2_with fail
  refine (num_get b hb l0 w _ hg hq0).mono ?_
  rintro e w2 (⟨hs0, rfl, hr2⟩ | ⟨hs0, ⟨t0, v0, rfl⟩, hr2⟩)
  rotate_left
  · refine ⟨rfl, ?_⟩
    show TakePost b w 117 3 r _ _
    unfold TakePost
    rw [← HL0.out, readN_stop hs0]
    exact ⟨⟨t0, v0, rfl⟩, hr2⟩
  rw [← HF0.out]
  have HS0 := hide hs0
  clear hs0 hq0
  obtain ⟨l1, HL1⟩ : ∃ l, Hid (l = l0.drop (Pl.snd l0)) := ⟨_, rfl⟩
  have hq1 : RdL b w w2 l1 := by rw [HL1.out]; exact hr2
  clear hr2
  obtain ⟨f1, HF1⟩ : ∃ f, Hid (f = Pl.fst l1) := ⟨_, rfl⟩
  go_wp2_with fail
  refine (num_get b hb l1 w _ hg hq1).mono ?_
  rintro e w3 (⟨hs1, rfl, hr3⟩ | ⟨hs1, ⟨t1, v1, rfl⟩, hr3⟩)
  rotate_left
  · refine ⟨rfl, ?_⟩
    show TakePost b w 117 3 r _ _
    unfold TakePost
    rw [← HL0.out, readN_step HS0.out, ← HL1.out, readN_stop hs1]
    exact ⟨⟨t1, v1, rfl⟩, hr3⟩
  rw [← HF1.out]
  have HS1 := hide hs1
  clear hs1 hq1
  obtain ⟨l2, HL2⟩ : ∃ l, Hid (l = l1.drop (Pl.snd l1)) := ⟨_, rfl⟩
  have hq2 : RdL b w w3 l2 := by rw [HL2.out]; exact hr3
  clear hr3
  obtain ⟨f2, HF2⟩ : ∃ f, Hid (f = Pl.fst l2) := ⟨_, rfl⟩
  go_wp2_with fail
  refine (num_get b hb l2 w _ hg hq2).mono ?_
  rintro e w4 (⟨hs2, rfl, hr4⟩ | ⟨hs2, ⟨t2, v2, rfl⟩, hr4⟩)
  rotate_left
  · refine ⟨rfl, ?_⟩
    show TakePost b w 117 3 r _ _
    unfold TakePost
    rw [← HL0.out, readN_step HS0.out, ← HL1.out, readN_step HS1.out, ← HL2.out, readN_stop hs2]
    exact ⟨⟨t2, v2, rfl⟩, hr4⟩
  rw [← HF2.out]
  have HS2 := hide hs2
  clear hs2 hq2
  go_wp2_with fail
  go_ret
  unfold TakePost
  rw [← HL0.out, readN_step HS0.out, ← HL1.out, readN_step HS1.out, ← HL2.out, readN_step HS2.out]
  simp only [Pl.readN, Option.map_some, ← HF0.out, ← HF1.out, ← HF2.out]
  exact ⟨rfl, hr4⟩

set_option maxHeartbeats 800000 in
theorem take_Merge (b : Nat) (hb : 2 ≤ b) (r : List UInt8) (w w0 : World) (hg : Gl w) (hr0 : RdL b w w0 (4 :: r)) :
    Calls Tryz.prog 60 #[.pointer (some ⟨b, 0, none⟩)] w0 (TakePost b w 120 3 r) := by
  have HB := hide (byte_get' b 4 r w w0 hr0)
  rw [show ((4 : UInt8).toNat : Int) = 4 from rfl] at HB
  clear hr0
  go_enter Tryz.func60, Tryz.ntmps60
  go_wp2_with fail
  refine (HB.out).mono ?_
  rintro e w1 ⟨rfl, hr1⟩
  obtain ⟨l0, HL0⟩ : ∃ l, Hid (l = r) := ⟨_, rfl⟩
  have hq0 : RdL b w w1 l0 := by rw [HL0.out]; exact hr1
  clear hr1
  obtain ⟨f0, HF0⟩ : ∃ f, Hid (f = Pl.fst l0) := ⟨_, rfl⟩
  go_wp2_with fail
  refine (num_get b hb l0 w _ hg hq0).mono ?_
  rintro e w2 (⟨hs0, rfl, hr2⟩ | ⟨hs0, ⟨t0, v0, rfl⟩, hr2⟩)
  rotate_left
  · refine ⟨rfl, ?_⟩
    show TakePost b w 120 3 r _ _
    unfold TakePost
    rw [← HL0.out, readN_stop hs0]
    exact ⟨⟨t0, v0, rfl⟩, hr2⟩
  rw [← HF0.out]
  have HS0 := hide hs0
  clear hs0 hq0
  obtain ⟨l1, HL1⟩ : ∃ l, Hid (l = l0.drop (Pl.snd l0)) := ⟨_, rfl⟩
  have hq1 : RdL b w w2 l1 := by rw [HL1.out]; exact hr2
  clear hr2
  obtain ⟨f1, HF1⟩ : ∃ f, Hid (f = Pl.fst l1) := ⟨_, rfl⟩
  go_wp2_with fail
  refine (num_get b hb l1 w _ hg hq1).mono ?_
  rintro e w3 (⟨hs1, rfl, hr3⟩ | ⟨hs1, ⟨t1, v1, rfl⟩, hr3⟩)
  rotate_left
  · refine ⟨rfl, ?_⟩
    show TakePost b w 120 3 r _ _
    unfold TakePost
    rw [← HL0.out, readN_step HS0.out, ← HL1.out, readN_stop hs1]
    exact ⟨⟨t1, v1, rfl⟩, hr3⟩
  rw [← HF1.out]
  have HS1 := hide hs1
  clear hs1 hq1
  obtain ⟨l2, HL2⟩ : ∃ l, Hid (l = l1.drop (Pl.snd l1)) := ⟨_, rfl⟩
  have hq2 : RdL b w w3 l2 := by rw [HL2.out]; exact hr3
  clear hr3
  obtain ⟨f2, HF2⟩ : ∃ f, Hid (f = Pl.fst l2) := ⟨_, rfl⟩
  go_wp2_with fail
  refine (num_get b hb l2 w _ hg hq2).mono ?_
  rintro e w4 (⟨hs2, rfl, hr4⟩ | ⟨hs2, ⟨t2, v2, rfl⟩, hr4⟩)
  rotate_left
  · refine ⟨rfl, ?_⟩
    show TakePost b w 120 3 r _ _
    unfold TakePost
    rw [← HL0.out, readN_step HS0.out, ← HL1.out, readN_step HS1.out, ← HL2.out, readN_stop hs2]
    exact ⟨⟨t2, v2, rfl⟩, hr4⟩
  rw [← HF2.out]
  have HS2 := hide hs2
  clear hs2 hq2
  go_wp2_with fail
  go_ret
  unfold TakePost
  rw [← HL0.out, readN_step HS0.out, ← HL1.out, readN_step HS1.out, ← HL2.out, readN_step HS2.out]
  simp only [Pl.readN, Option.map_some, ← HF0.out, ← HF1.out, ← HF2.out]
  exact ⟨rfl, hr4⟩

set_option maxHeartbeats 800000 in
theorem take_Order (b : Nat) (hb : 2 ≤ b) (r : List UInt8) (w w0 : World) (hg : Gl w) (hr0 : RdL b w w0 (5 :: r)) :
    Calls Tryz.prog 60 #[.pointer (some ⟨b, 0, none⟩)] w0 (TakePost b w 123 5 r) := by
  have HB := hide (byte_get' b 5 r w w0 hr0)
  rw [show ((5 : UInt8).toNat : Int) = 5 from rfl] at HB
  clear hr0
  go_enter Tryz.func60, Tryz.ntmps60
  go_wp2_with fail
  refine (HB.out).mono ?_
  rintro e w1 ⟨rfl, hr1⟩
  obtain ⟨l0, HL0⟩ : ∃ l, Hid (l = r) := ⟨_, rfl⟩
  have hq0 : RdL b w w1 l0 := by rw [HL0.out]; exact hr1
  clear hr1
  obtain ⟨f0, HF0⟩ : ∃ f, Hid (f = Pl.fst l0) := ⟨_, rfl⟩
  go_wp2_with fail
  refine (num_get b hb l0 w _ hg hq0).mono ?_
  rintro e w2 (⟨hs0, rfl, hr2⟩ | ⟨hs0, ⟨t0, v0, rfl⟩, hr2⟩)
  rotate_left
  · refine ⟨rfl, ?_⟩
    show TakePost b w 123 5 r _ _
    unfold TakePost
    rw [← HL0.out, readN_stop hs0]
    exact ⟨⟨t0, v0, rfl⟩, hr2⟩
  rw [← HF0.out]
  have HS0 := hide hs0
  clear hs0 hq0
  obtain ⟨l1, HL1⟩ : ∃ l, Hid (l = l0.drop (Pl.snd l0)) := ⟨_, rfl⟩
  have hq1 : RdL b w w2 l1 := by rw [HL1.out]; exact hr2
  clear hr2
  obtain ⟨f1, HF1⟩ : ∃ f, Hid (f = Pl.fst l1) := ⟨_, rfl⟩
  go_wp2_with fail
  refine (num_get b hb l1 w _ hg hq1).mono ?_
  rintro e w3 (⟨hs1, rfl, hr3⟩ | ⟨hs1, ⟨t1, v1, rfl⟩, hr3⟩)
  rotate_left
  · refine ⟨rfl, ?_⟩
    show TakePost b w 123 5 r _ _
    unfold TakePost
    rw [← HL0.out, readN_step HS0.out, ← HL1.out, readN_stop hs1]
    exact ⟨⟨t1, v1, rfl⟩, hr3⟩
  rw [← HF1.out]
  have HS1 := hide hs1
  clear hs1 hq1
  obtain ⟨l2, HL2⟩ : ∃ l, Hid (l = l1.drop (Pl.snd l1)) := ⟨_, rfl⟩
  have hq2 : RdL b w w3 l2 := by rw [HL2.out]; exact hr3
  clear hr3
  obtain ⟨f2, HF2⟩ : ∃ f, Hid (f = Pl.fst l2) := ⟨_, rfl⟩
  go_wp2_with fail
  refine (num_get b hb l2 w _ hg hq2).mono ?_
  rintro e w4 (⟨hs2, rfl, hr4⟩ | ⟨hs2, ⟨t2, v2, rfl⟩, hr4⟩)
  rotate_left
  · refine ⟨rfl, ?_⟩
    show TakePost b w 123 5 r _ _
    unfold TakePost
    rw [← HL0.out, readN_step HS0.out, ← HL1.out, readN_step HS1.out, ← HL2.out, readN_stop hs2]
    exact ⟨⟨t2, v2, rfl⟩, hr4⟩
  rw [← HF2.out]
  have HS2 := hide hs2
  clear hs2 hq2
  obtain ⟨l3, HL3⟩ : ∃ l, Hid (l = l2.drop (Pl.snd l2)) := ⟨_, rfl⟩
  have hq3 : RdL b w w4 l3 := by rw [HL3.out]; exact hr4
  clear hr4
  obtain ⟨f3, HF3⟩ : ∃ f, Hid (f = Pl.fst l3) := ⟨_, rfl⟩
  go_wp2_with fail
  refine (num_get b hb l3 w _ hg hq3).mono ?_
  rintro e w5 (⟨hs3, rfl, hr5⟩ | ⟨hs3, ⟨t3, v3, rfl⟩, hr5⟩)
  rotate_left
  · refine ⟨rfl, ?_⟩
    show TakePost b w 123 5 r _ _
    unfold TakePost
    rw [← HL0.out, readN_step HS0.out, ← HL1.out, readN_step HS1.out, ← HL2.out, readN_step HS2.out, ← HL3.out, readN_stop hs3]
    exact ⟨⟨t3, v3, rfl⟩, hr5⟩
  rw [← HF3.out]
  have HS3 := hide hs3
  clear hs3 hq3
  obtain ⟨l4, HL4⟩ : ∃ l, Hid (l = l3.drop (Pl.snd l3)) := ⟨_, rfl⟩
  have hq4 : RdL b w w5 l4 := by rw [HL4.out]; exact hr5
  clear hr5
  obtain ⟨f4, HF4⟩ : ∃ f, Hid (f = Pl.fst l4) := ⟨_, rfl⟩
  go_wp2_with fail
  refine (num_get b hb l4 w _ hg hq4).mono ?_
  rintro e w6 (⟨hs4, rfl, hr6⟩ | ⟨hs4, ⟨t4, v4, rfl⟩, hr6⟩)
  rotate_left
  · refine ⟨rfl, ?_⟩
    show TakePost b w 123 5 r _ _
    unfold TakePost
    rw [← HL0.out, readN_step HS0.out, ← HL1.out, readN_step HS1.out, ← HL2.out, readN_step HS2.out, ← HL3.out, readN_step HS3.out, ← HL4.out, readN_stop hs4]
    exact ⟨⟨t4, v4, rfl⟩, hr6⟩
  rw [← HF4.out]
  have HS4 := hide hs4
  clear hs4 hq4
  go_wp2_with fail
  go_ret
  unfold TakePost
  rw [← HL0.out, readN_step HS0.out, ← HL1.out, readN_step HS1.out, ← HL2.out, readN_step HS2.out, ← HL3.out, readN_step HS3.out, ← HL4.out, readN_step HS4.out]
  simp only [Pl.readN, Option.map_some, ← HF0.out, ← HF1.out, ← HF2.out, ← HF3.out, ← HF4.out]
  exact ⟨rfl, hr6⟩

set_option maxHeartbeats 800000 in
theorem take_Cancel (b : Nat) (hb : 2 ≤ b) (r : List UInt8) (w w0 : World) (hg : Gl w) (hr0 : RdL b w w0 (6 :: r)) :
    Calls Tryz.prog 60 #[.pointer (some ⟨b, 0, none⟩)] w0 (TakePost b w 126 1 r) := by
  have HB := hide (byte_get' b 6 r w w0 hr0)
  rw [show ((6 : UInt8).toNat : Int) = 6 from rfl] at HB
  clear hr0
  go_enter Tryz.func60, Tryz.ntmps60
  go_wp2_with fail
  refine (HB.out).mono ?_
  rintro e w1 ⟨rfl, hr1⟩
  obtain ⟨l0, HL0⟩ : ∃ l, Hid (l = r) := ⟨_, rfl⟩
  have hq0 : RdL b w w1 l0 := by rw [HL0.out]; exact hr1
  clear hr1
  obtain ⟨f0, HF0⟩ : ∃ f, Hid (f = Pl.fst l0) := ⟨_, rfl⟩
  go_wp2_with fail
  refine (num_get b hb l0 w _ hg hq0).mono ?_
  rintro e w2 (⟨hs0, rfl, hr2⟩ | ⟨hs0, ⟨t0, v0, rfl⟩, hr2⟩)
  rotate_left
  · refine ⟨rfl, ?_⟩
    show TakePost b w 126 1 r _ _
    unfold TakePost
    rw [← HL0.out, readN_stop hs0]
    exact ⟨⟨t0, v0, rfl⟩, hr2⟩
  rw [← HF0.out]
  have HS0 := hide hs0
  clear hs0 hq0
  go_wp2_with fail
  go_ret
  unfold TakePost
  rw [← HL0.out, readN_step HS0.out]
  simp only [Pl.readN, Option.map_some, ← HF0.out]
  exact ⟨rfl, hr2⟩

set_option maxHeartbeats 800000 in
theorem take_Ship (b : Nat) (hb : 2 ≤ b) (r : List UInt8) (w w0 : World) (hg : Gl w) (hr0 : RdL b w w0 (7 :: r)) :
    Calls Tryz.prog 60 #[.pointer (some ⟨b, 0, none⟩)] w0 (TakePost b w 128 1 r) := by
  have HB := hide (byte_get' b 7 r w w0 hr0)
  rw [show ((7 : UInt8).toNat : Int) = 7 from rfl] at HB
  clear hr0
  go_enter Tryz.func60, Tryz.ntmps60
  go_wp2_with fail
  refine (HB.out).mono ?_
  rintro e w1 ⟨rfl, hr1⟩
  obtain ⟨l0, HL0⟩ : ∃ l, Hid (l = r) := ⟨_, rfl⟩
  have hq0 : RdL b w w1 l0 := by rw [HL0.out]; exact hr1
  clear hr1
  obtain ⟨f0, HF0⟩ : ∃ f, Hid (f = Pl.fst l0) := ⟨_, rfl⟩
  go_wp2_with fail
  refine (num_get b hb l0 w _ hg hq0).mono ?_
  rintro e w2 (⟨hs0, rfl, hr2⟩ | ⟨hs0, ⟨t0, v0, rfl⟩, hr2⟩)
  rotate_left
  · refine ⟨rfl, ?_⟩
    show TakePost b w 128 1 r _ _
    unfold TakePost
    rw [← HL0.out, readN_stop hs0]
    exact ⟨⟨t0, v0, rfl⟩, hr2⟩
  rw [← HF0.out]
  have HS0 := hide hs0
  clear hs0 hq0
  go_wp2_with fail
  go_ret
  unfold TakePost
  rw [← HL0.out, readN_step HS0.out]
  simp only [Pl.readN, Option.map_some, ← HF0.out]
  exact ⟨rfl, hr2⟩

set_option maxHeartbeats 800000 in
theorem take_Recall (b : Nat) (hb : 2 ≤ b) (r : List UInt8) (w w0 : World) (hg : Gl w) (hr0 : RdL b w w0 (8 :: r)) :
    Calls Tryz.prog 60 #[.pointer (some ⟨b, 0, none⟩)] w0 (TakePost b w 108 2 r) := by
  have HB := hide (byte_get' b 8 r w w0 hr0)
  rw [show ((8 : UInt8).toNat : Int) = 8 from rfl] at HB
  clear hr0
  go_enter Tryz.func60, Tryz.ntmps60
  go_wp2_with fail
  refine (HB.out).mono ?_
  rintro e w1 ⟨rfl, hr1⟩
  obtain ⟨l0, HL0⟩ : ∃ l, Hid (l = r) := ⟨_, rfl⟩
  have hq0 : RdL b w w1 l0 := by rw [HL0.out]; exact hr1
  clear hr1
  obtain ⟨f0, HF0⟩ : ∃ f, Hid (f = Pl.fst l0) := ⟨_, rfl⟩
  go_wp2_with fail
  refine (num_get b hb l0 w _ hg hq0).mono ?_
  rintro e w2 (⟨hs0, rfl, hr2⟩ | ⟨hs0, ⟨t0, v0, rfl⟩, hr2⟩)
  rotate_left
  · refine ⟨rfl, ?_⟩
    show TakePost b w 108 2 r _ _
    unfold TakePost
    rw [← HL0.out, readN_stop hs0]
    exact ⟨⟨t0, v0, rfl⟩, hr2⟩
  rw [← HF0.out]
  have HS0 := hide hs0
  clear hs0 hq0
  obtain ⟨l1, HL1⟩ : ∃ l, Hid (l = l0.drop (Pl.snd l0)) := ⟨_, rfl⟩
  have hq1 : RdL b w w2 l1 := by rw [HL1.out]; exact hr2
  clear hr2
  obtain ⟨f1, HF1⟩ : ∃ f, Hid (f = Pl.fst l1) := ⟨_, rfl⟩
  go_wp2_with fail
  refine (num_get b hb l1 w _ hg hq1).mono ?_
  rintro e w3 (⟨hs1, rfl, hr3⟩ | ⟨hs1, ⟨t1, v1, rfl⟩, hr3⟩)
  rotate_left
  · refine ⟨rfl, ?_⟩
    show TakePost b w 108 2 r _ _
    unfold TakePost
    rw [← HL0.out, readN_step HS0.out, ← HL1.out, readN_stop hs1]
    exact ⟨⟨t1, v1, rfl⟩, hr3⟩
  rw [← HF1.out]
  have HS1 := hide hs1
  clear hs1 hq1
  go_wp2_with fail
  go_ret
  unfold TakePost
  rw [← HL0.out, readN_step HS0.out, ← HL1.out, readN_step HS1.out]
  simp only [Pl.readN, Option.map_some, ← HF0.out, ← HF1.out]
  exact ⟨rfl, hr3⟩

set_option maxHeartbeats 800000 in
theorem take_Release (b : Nat) (hb : 2 ≤ b) (r : List UInt8) (w w0 : World) (hg : Gl w) (hr0 : RdL b w w0 (9 :: r)) :
    Calls Tryz.prog 60 #[.pointer (some ⟨b, 0, none⟩)] w0 (TakePost b w 109 2 r) := by
  have HB := hide (byte_get' b 9 r w w0 hr0)
  rw [show ((9 : UInt8).toNat : Int) = 9 from rfl] at HB
  clear hr0
  go_enter Tryz.func60, Tryz.ntmps60
  go_wp2_with fail
  refine (HB.out).mono ?_
  rintro e w1 ⟨rfl, hr1⟩
  obtain ⟨l0, HL0⟩ : ∃ l, Hid (l = r) := ⟨_, rfl⟩
  have hq0 : RdL b w w1 l0 := by rw [HL0.out]; exact hr1
  clear hr1
  obtain ⟨f0, HF0⟩ : ∃ f, Hid (f = Pl.fst l0) := ⟨_, rfl⟩
  go_wp2_with fail
  refine (num_get b hb l0 w _ hg hq0).mono ?_
  rintro e w2 (⟨hs0, rfl, hr2⟩ | ⟨hs0, ⟨t0, v0, rfl⟩, hr2⟩)
  rotate_left
  · refine ⟨rfl, ?_⟩
    show TakePost b w 109 2 r _ _
    unfold TakePost
    rw [← HL0.out, readN_stop hs0]
    exact ⟨⟨t0, v0, rfl⟩, hr2⟩
  rw [← HF0.out]
  have HS0 := hide hs0
  clear hs0 hq0
  obtain ⟨l1, HL1⟩ : ∃ l, Hid (l = l0.drop (Pl.snd l0)) := ⟨_, rfl⟩
  have hq1 : RdL b w w2 l1 := by rw [HL1.out]; exact hr2
  clear hr2
  obtain ⟨f1, HF1⟩ : ∃ f, Hid (f = Pl.fst l1) := ⟨_, rfl⟩
  go_wp2_with fail
  refine (num_get b hb l1 w _ hg hq1).mono ?_
  rintro e w3 (⟨hs1, rfl, hr3⟩ | ⟨hs1, ⟨t1, v1, rfl⟩, hr3⟩)
  rotate_left
  · refine ⟨rfl, ?_⟩
    show TakePost b w 109 2 r _ _
    unfold TakePost
    rw [← HL0.out, readN_step HS0.out, ← HL1.out, readN_stop hs1]
    exact ⟨⟨t1, v1, rfl⟩, hr3⟩
  rw [← HF1.out]
  have HS1 := hide hs1
  clear hs1 hq1
  go_wp2_with fail
  go_ret
  unfold TakePost
  rw [← HL0.out, readN_step HS0.out, ← HL1.out, readN_step HS1.out]
  simp only [Pl.readN, Option.map_some, ← HF0.out, ← HF1.out]
  exact ⟨rfl, hr3⟩

set_option maxHeartbeats 800000 in
theorem take_Scrap (b : Nat) (hb : 2 ≤ b) (r : List UInt8) (w w0 : World) (hg : Gl w) (hr0 : RdL b w w0 (10 :: r)) :
    Calls Tryz.prog 60 #[.pointer (some ⟨b, 0, none⟩)] w0 (TakePost b w 131 2 r) := by
  have HB := hide (byte_get' b 10 r w w0 hr0)
  rw [show ((10 : UInt8).toNat : Int) = 10 from rfl] at HB
  clear hr0
  go_enter Tryz.func60, Tryz.ntmps60
  go_wp2_with fail
  refine (HB.out).mono ?_
  rintro e w1 ⟨rfl, hr1⟩
  obtain ⟨l0, HL0⟩ : ∃ l, Hid (l = r) := ⟨_, rfl⟩
  have hq0 : RdL b w w1 l0 := by rw [HL0.out]; exact hr1
  clear hr1
  obtain ⟨f0, HF0⟩ : ∃ f, Hid (f = Pl.fst l0) := ⟨_, rfl⟩
  go_wp2_with fail
  refine (num_get b hb l0 w _ hg hq0).mono ?_
  rintro e w2 (⟨hs0, rfl, hr2⟩ | ⟨hs0, ⟨t0, v0, rfl⟩, hr2⟩)
  rotate_left
  · refine ⟨rfl, ?_⟩
    show TakePost b w 131 2 r _ _
    unfold TakePost
    rw [← HL0.out, readN_stop hs0]
    exact ⟨⟨t0, v0, rfl⟩, hr2⟩
  rw [← HF0.out]
  have HS0 := hide hs0
  clear hs0 hq0
  obtain ⟨l1, HL1⟩ : ∃ l, Hid (l = l0.drop (Pl.snd l0)) := ⟨_, rfl⟩
  have hq1 : RdL b w w2 l1 := by rw [HL1.out]; exact hr2
  clear hr2
  obtain ⟨f1, HF1⟩ : ∃ f, Hid (f = Pl.fst l1) := ⟨_, rfl⟩
  go_wp2_with fail
  refine (num_get b hb l1 w _ hg hq1).mono ?_
  rintro e w3 (⟨hs1, rfl, hr3⟩ | ⟨hs1, ⟨t1, v1, rfl⟩, hr3⟩)
  rotate_left
  · refine ⟨rfl, ?_⟩
    show TakePost b w 131 2 r _ _
    unfold TakePost
    rw [← HL0.out, readN_step HS0.out, ← HL1.out, readN_stop hs1]
    exact ⟨⟨t1, v1, rfl⟩, hr3⟩
  rw [← HF1.out]
  have HS1 := hide hs1
  clear hs1 hq1
  go_wp2_with fail
  go_ret
  unfold TakePost
  rw [← HL0.out, readN_step HS0.out, ← HL1.out, readN_step HS1.out]
  simp only [Pl.readN, Option.map_some, ← HF0.out, ← HF1.out]
  exact ⟨rfl, hr3⟩

set_option maxHeartbeats 800000 in
theorem take_Look (b : Nat) (hb : 2 ≤ b) (r : List UInt8) (w w0 : World) (hg : Gl w) (hr0 : RdL b w w0 (11 :: r)) :
    Calls Tryz.prog 60 #[.pointer (some ⟨b, 0, none⟩)] w0 (TakePost b w 134 1 r) := by
  have HB := hide (byte_get' b 11 r w w0 hr0)
  rw [show ((11 : UInt8).toNat : Int) = 11 from rfl] at HB
  clear hr0
  go_enter Tryz.func60, Tryz.ntmps60
  go_wp2_with fail
  refine (HB.out).mono ?_
  rintro e w1 ⟨rfl, hr1⟩
  obtain ⟨l0, HL0⟩ : ∃ l, Hid (l = r) := ⟨_, rfl⟩
  have hq0 : RdL b w w1 l0 := by rw [HL0.out]; exact hr1
  clear hr1
  obtain ⟨f0, HF0⟩ : ∃ f, Hid (f = Pl.fst l0) := ⟨_, rfl⟩
  go_wp2_with fail
  refine (num_get b hb l0 w _ hg hq0).mono ?_
  rintro e w2 (⟨hs0, rfl, hr2⟩ | ⟨hs0, ⟨t0, v0, rfl⟩, hr2⟩)
  rotate_left
  · refine ⟨rfl, ?_⟩
    show TakePost b w 134 1 r _ _
    unfold TakePost
    rw [← HL0.out, readN_stop hs0]
    exact ⟨⟨t0, v0, rfl⟩, hr2⟩
  rw [← HF0.out]
  have HS0 := hide hs0
  clear hs0 hq0
  go_wp2_with fail
  go_ret
  unfold TakePost
  rw [← HL0.out, readN_step HS0.out]
  simp only [Pl.readN, Option.map_some, ← HF0.out]
  exact ⟨rfl, hr2⟩

set_option maxHeartbeats 800000 in
theorem take_Supply (b : Nat) (hb : 2 ≤ b) (r : List UInt8) (w w0 : World) (hg : Gl w) (hr0 : RdL b w w0 (12 :: r)) :
    Calls Tryz.prog 60 #[.pointer (some ⟨b, 0, none⟩)] w0 (TakePost b w 137 2 r) := by
  have HB := hide (byte_get' b 12 r w w0 hr0)
  rw [show ((12 : UInt8).toNat : Int) = 12 from rfl] at HB
  clear hr0
  go_enter Tryz.func60, Tryz.ntmps60
  go_wp2_with fail
  refine (HB.out).mono ?_
  rintro e w1 ⟨rfl, hr1⟩
  obtain ⟨l0, HL0⟩ : ∃ l, Hid (l = r) := ⟨_, rfl⟩
  have hq0 : RdL b w w1 l0 := by rw [HL0.out]; exact hr1
  clear hr1
  obtain ⟨f0, HF0⟩ : ∃ f, Hid (f = Pl.fst l0) := ⟨_, rfl⟩
  go_wp2_with fail
  refine (num_get b hb l0 w _ hg hq0).mono ?_
  rintro e w2 (⟨hs0, rfl, hr2⟩ | ⟨hs0, ⟨t0, v0, rfl⟩, hr2⟩)
  rotate_left
  · refine ⟨rfl, ?_⟩
    show TakePost b w 137 2 r _ _
    unfold TakePost
    rw [← HL0.out, readN_stop hs0]
    exact ⟨⟨t0, v0, rfl⟩, hr2⟩
  rw [← HF0.out]
  have HS0 := hide hs0
  clear hs0 hq0
  obtain ⟨l1, HL1⟩ : ∃ l, Hid (l = l0.drop (Pl.snd l0)) := ⟨_, rfl⟩
  have hq1 : RdL b w w2 l1 := by rw [HL1.out]; exact hr2
  clear hr2
  obtain ⟨f1, HF1⟩ : ∃ f, Hid (f = Pl.fst l1) := ⟨_, rfl⟩
  go_wp2_with fail
  refine (num_get b hb l1 w _ hg hq1).mono ?_
  rintro e w3 (⟨hs1, rfl, hr3⟩ | ⟨hs1, ⟨t1, v1, rfl⟩, hr3⟩)
  rotate_left
  · refine ⟨rfl, ?_⟩
    show TakePost b w 137 2 r _ _
    unfold TakePost
    rw [← HL0.out, readN_step HS0.out, ← HL1.out, readN_stop hs1]
    exact ⟨⟨t1, v1, rfl⟩, hr3⟩
  rw [← HF1.out]
  have HS1 := hide hs1
  clear hs1 hq1
  go_wp2_with fail
  go_ret
  unfold TakePost
  rw [← HL0.out, readN_step HS0.out, ← HL1.out, readN_step HS1.out]
  simp only [Pl.readN, Option.map_some, ← HF0.out, ← HF1.out]
  exact ⟨rfl, hr3⟩

end Go.Proofs.YtclipofifmajeaaGreatDoor
