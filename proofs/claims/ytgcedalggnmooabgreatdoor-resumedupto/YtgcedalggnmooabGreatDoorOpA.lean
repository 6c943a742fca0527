import Derived.Test.YtgcedalggnmooabGreatDoorHnX
namespace Go.Proofs.YtgcedalggnmooabGreatDoor
set_option linter.unusedSimpArgs false
set_option linter.unusedVariables false
open Go.RowKit
set_option maxRecDepth 100000

set_option maxHeartbeats 800000 in
theorem take_ok (b : Nat) (s : ByteArray) (hs : s.size ≤ 70368744177664) (w : World) (hc : w.cell? ⟨b, 0, none⟩ = some (.string s)) (hf : w.frozen? ⟨b, 0, none⟩ = false) (c : Nat) (hcs : c ≤ s.size) :
    Calls Tryz.prog 61 #[.pointer (some ⟨b, 0, none⟩), .int .i64 (c : Int)] w fun e w' => e = .returned (.string (s.extract 0 c)) ∧ w' = w.setCell ⟨b, 0, none⟩ (.string (s.extract c s.size)) := by
  have hd : decide ((s.size : Int) < (c : Int)) = false := by simp; omega
  go_enter Tryz.func61, Tryz.ntmps61
  go_wp2_with (go_at_call 63; go_in)
  go_ret
  exact ⟨rfl, rfl⟩

set_option maxHeartbeats 800000 in
theorem take_no (b : Nat) (s : ByteArray) (hs : s.size ≤ 70368744177664) (w : World) (hc : w.cell? ⟨b, 0, none⟩ = some (.string s)) (c : Nat) (hcs : s.size < c) (t : TypeId) (v : Value) (hg : w.cell? ⟨3, 0, none⟩ = some (.iface t v)) :
    Calls Tryz.prog 61 #[.pointer (some ⟨b, 0, none⟩), .int .i64 (c : Int)] w fun e w' => e = .panicked [{ v := .iface t v, recovered := false }] ∧ w' = w := by
  have hd : decide ((s.size : Int) < (c : Int)) = true := by simp; omega
  go_enter Tryz.func61, Tryz.ntmps61
  go_wp2_with (go_at_call 63; go_in)
  exact ⟨rfl, rfl, rfl⟩

theorem take_get (b : Nat) (hb : 4 ≤ b) (s : ByteArray) (hs : s.size ≤ 70368744177664) (w w0 : World) (hg : Gl w) (hr0 : Rd b w w0 s) (c : Nat) :
    Calls Tryz.prog 61 #[.pointer (some ⟨b, 0, none⟩), .int .i64 (c : Int)] w0 fun e w' => (c ≤ s.size ∧ e = .returned (.string (s.extract 0 c)) ∧ Rd b w w' (s.extract c s.size)) ∨ (s.size < c ∧ Broke b w e w') := by
  have hc0 : w0.cell? ⟨b, 0, none⟩ = some (.string s) := by rw [blk_cell hr0.here]; rfl
  by_cases hcs : c ≤ s.size
  · refine (take_ok b s hs w0 hc0 (blk_free hr0.here 0) c hcs).mono ?_
    rintro e w' ⟨rfl, rfl⟩
    exact Or.inl ⟨hcs, rfl, hr0.set _⟩
  · obtain ⟨t1, v1, h1⟩ := (hg.rd hr0 hb).2.1
    refine (take_no b s hs w0 hc0 c (by omega) t1 v1 h1).mono ?_
    rintro e w' ⟨rfl, rfl⟩
    exact Or.inr ⟨by omega, ⟨t1, v1, rfl⟩, s, hr0⟩

/-- The frame with which bytes begin: its command, and how many bytes it has. -/
def frP (l : List UInt8) : Option (List UInt8 × Nat) :=
  if Pl.snd l = 0 then none
  else if (l.drop (Pl.snd l)).length < Pl.fst l then none
  else if (l.drop (Pl.snd l + Pl.fst l)).length < 4 then none
  else if (l.drop (Pl.snd l + Pl.fst l)).take 4 = chkB (l.take (Pl.snd l + Pl.fst l)) then some ((l.drop (Pl.snd l)).take (Pl.fst l), Pl.snd l + Pl.fst l + 4) else none

set_option maxHeartbeats 800000 in
theorem newReader_any (s : ByteArray) (w : World) :
    Calls Tryz.prog 44 #[.string s] w fun e w' => e = .returned (.pointer (some ⟨w.heap.size, 0, none⟩)) ∧ w' = w.alloc (.cells #[.string s] 147) := by
  go_enter Tryz.func44, Tryz.ntmps44
  go_wp2_with fail
  go_ret
  exact ⟨rfl, rfl⟩

/-- What First answers. -/
def FirstP (w : World) (l : List UInt8) (e : Ending) (w' : World) : Prop := Below w.heap.size w w' ∧
  match frP l with
  | some (c, _) => e = .returned (.string ⟨c.toArray⟩)
  | none => ∃ t v, e = .panicked [{ v := .iface t v, recovered := false }]

theorem ba_eta (s : ByteArray) : s = ⟨s.data.toList.toArray⟩ := by simp
theorem ex_list (s : ByteArray) (a b : Nat) : (s.extract a b).data.toList = (s.data.toList.take b).drop a := by
  rw [ByteArray.data_extract, Array.toList_extract, List.extract_eq_take_drop, List.drop_take]

set_option maxHeartbeats 3200000 in
theorem ffirst_any (s : ByteArray) (hs : s.size ≤ 70368744177664) (w : World) (hg : Gl w) (hgc : ∃ t v, w.cell? ⟨1, 0, none⟩ = some (.iface t v)) (hng : 1 < w.heap.size) :
    Calls Tryz.prog 40 #[.string s] w (FirstP w s.data.toList) := by
  have hb0 : 4 ≤ w.heap.size := hg.2.2
  have ha := al1 w (.cells #[.string s] 147)
  have hr0 : Rd w.heap.size (w.alloc (.cells #[.string s] 147)) (w.alloc (.cells #[.string s] 147)) s := Rd.refl (heap_alloc_new w _)
  have hg1 := hg.below ha
  have HNR := hide (newReader_any s w)
  have HNU := hide (number_get w.heap.size hb0 s hs _ _ hg1 hr0)
  obtain ⟨l, HL⟩ : ∃ l, Hid (l = s.data.toList) := ⟨_, rfl⟩
  have hll : l.length = s.size := by rw [HL.out, Array.length_toList]; rfl
  rw [← HL.out] at HNU ⊢
  have hn := Pl.snd_le l
  have bel : ∀ {w' : World} {s' : ByteArray}, Rd w.heap.size (w.alloc (.cells #[.string s] 147)) w' s' → Below w.heap.size w w' := fun h => ha.trans (h.below (Nat.le_refl _))
  have hsz1 : (s.extract (Pl.snd l) s.size).size = s.size - Pl.snd l := by rw [ByteArray.size_extract]; omega
  obtain ⟨n, HN⟩ : ∃ n, Hid (n = Pl.snd l) := ⟨_, rfl⟩
  obtain ⟨c, HC⟩ : ∃ c, Hid (c = Pl.fst l) := ⟨_, rfl⟩
  rw [← HN.out] at hn hsz1
  rw [← HN.out, ← HC.out] at HNU
  go_enter Tryz.func40, Tryz.ntmps40
  go_wp2_with (go_at_call 44; refine (HNR.out).mono ?_; rintro e w1 ⟨rfl, rfl⟩)
  refine (HNU.out).mono ?_
  clear HNR HNU
  rintro e w2 (⟨hn0, rfl, hr2⟩ | ⟨hn0, ⟨t2, v2, rfl⟩, s2, hr2⟩)
  · have HTK := hide (take_get w.heap.size hb0 (s.extract n s.size) (by omega) _ w2 hg1 hr2 c)
    go_wp2_with fail
    refine (HTK.out).mono ?_
    clear HTK
    rintro e w3 (⟨hc, rfl, hr3⟩ | ⟨hc, ⟨t3, v3, rfl⟩, s3, hr3⟩)
    · have hc3 : w3.cell? ⟨w.heap.size, 0, none⟩ = some (.string ((s.extract n s.size).extract c (s.extract n s.size).size)) := hr3.cell
      have hsz2 : ((s.extract n s.size).extract c (s.extract n s.size).size).size = s.size - n - c := by rw [ByteArray.size_extract]; omega
      go_wp2_with (go_at_call 63; go_in)
      obtain ⟨s2, HS2⟩ : ∃ s2, Hid (s2 = (s.extract n s.size).extract c (s.extract n s.size).size) := ⟨_, rfl⟩
      rw [← HS2.out] at hsz2 hr3
      clear hc3
      have HT4 := hide (take_get w.heap.size hb0 s2 (by omega) _ w3 hg1 hr3 4)
      refine (HT4.out).mono ?_
      clear HT4
      rintro e w4 (⟨h4, rfl, hr4⟩ | ⟨h4, ⟨t4, v4, rfl⟩, s4, hr4⟩)
      · have hct : (s.size : Int) - ((s.extract n s.size).extract c (s.extract n s.size).size).size = ((n + c : Nat) : Int) := by rw [← HS2.out]; omega
        go_wp2_with fail
        have hk : s.size - (s.size - n - c) = n + c := by omega
        have HCK := hide (fcheck_any (s.extract 0 (s.size - (s.size - n - c))) (by rw [ByteArray.size_extract]; omega) w4)
        refine (HCK.out).mono ?_
        clear HCK
        rintro e w5 ⟨rfl, hb5⟩
        have hbel : Below w.heap.size w w5 := (bel hr4).trans (hb5.mono (by rw [hr4.size]; exact ha.size))
        obtain ⟨t0, v0, h0⟩ := hgc
        have h5 : w5.cell? ⟨1, 0, none⟩ = some (.iface t0 v0) := by rw [hbel.cell hng]; exact h0
        have hsl : s.data.toList = l := HL.out.symm
        have e1 : (s.extract 0 (s.size - (s.size - n - c))).data.toList = l.take (n + c) := by rw [hk, ← hsl]; simp
        have e2 : (s2.extract 0 4).data.toList = (l.drop (n + c)).take 4 := by
          rw [ex_list, HS2.out, ex_list, ex_list, hsl, List.take_of_length_le (l := l) (by omega), List.take_of_length_le (l := l.drop n) (by rw [List.length_drop]; omega), List.drop_drop, List.drop_zero]
        have e3 : ((s.extract n s.size).extract 0 c).data.toList = (l.drop n).take c := by
          rw [ex_list, ex_list, hsl, List.take_of_length_le (l := l) (by omega), List.drop_zero]
        rw [e1]
        go_wp2_with fail
        · have hz : (!(s2.extract 0 4).toList == chkB (l.take (n + c))) = true := by assumption
          rw [ByteArray.toList_eq, e2, Bool.not_eq_true', beq_eq_false_iff_ne] at hz
          have hne : ¬ (l.drop (n + c)).take 4 = chkB (l.take (n + c)) := hz
          refine ⟨rfl, hbel, ?_⟩
          have hq : frP l = none := by
            unfold frP; rw [← HN.out, ← HC.out, if_neg hn0, if_neg (by rw [List.length_drop]; omega), if_neg (by rw [List.length_drop]; omega), if_neg hne]
          rw [hq]
          exact ⟨t0, v0, rfl⟩
        · rename_i hne
          rw [ByteArray.toList_eq, e2] at hne
          have hne : (l.drop (n + c)).take 4 = chkB (l.take (n + c)) := by simpa using hne
          go_ret
          refine ⟨hbel, ?_⟩
          have hq : frP l = some ((l.drop n).take c, n + c + 4) := by
            unfold frP; rw [← HN.out, ← HC.out, if_neg hn0, if_neg (by rw [List.length_drop]; omega), if_neg (by rw [List.length_drop]; omega), if_pos hne]
          rw [hq, ← e3]
          exact congrArg (fun x => Ending.returned (Value.string x)) (ba_eta _)
      · go_wp2_with fail
        refine ⟨rfl, bel hr4, ?_⟩
        have hq : frP l = none := by
          unfold frP; rw [← HN.out, ← HC.out, if_neg hn0, if_neg (by rw [List.length_drop]; omega), if_pos (by rw [List.length_drop]; omega)]
        rw [hq]
        exact ⟨t4, v4, rfl⟩
    · go_wp2_with fail
      refine ⟨rfl, bel hr3, ?_⟩
      have hq : frP l = none := by
        unfold frP; rw [← HN.out, ← HC.out, if_neg hn0, if_pos (by rw [List.length_drop]; omega)]
      rw [hq]
      exact ⟨t3, v3, rfl⟩
  · go_wp2_with fail
    refine ⟨rfl, bel hr2, ?_⟩
    have hq : frP l = none := by unfold frP; rw [← HN.out, if_pos hn0]
    rw [hq]
    exact ⟨t2, v2, rfl⟩

end Go.Proofs.YtgcedalggnmooabGreatDoor
