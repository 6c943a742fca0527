import Derived.Test.YtclipofifmajeaaGreatDoorRefB
namespace Go.Proofs.YtclipofifmajeaaGreatDoor
set_option linter.unusedSimpArgs false
set_option linter.unusedVariables false
open Go.RowKit
set_option maxRecDepth 100000

theorem tU48 : Tryz.prog.underlying 54 = some (.slice 3) := by kernel_rfl
theorem info3 : (Tryz.prog.info? 3).map (fun i => (i.zero, i.size, i.bytes)) = some (some (.int .i64 0), 1, 8) := by kernel_rfl

def strOf : Value → ByteArray | .string s => s | _ => ByteArray.empty

/-- A slice of ints of the call's own. -/
def I (ns : List Nat) : List Value := ns.map fun (n : Nat) => Value.int .i64 (n : Int)

theorem extract_drop (s : ByteArray) (n : Nat) : (s.extract n s.size).data.toList = s.data.toList.drop n := by
  rw [ByteArray.data_extract]
  simp [Array.toList_extract]
  rw [List.take_of_length_le (by simp)]

theorem own1 {base : Nat} {ns : List Nat} {n : Nat} {w1 : World} {v1 : Value}
    (h : w1.ownsRow base 3 1 v1 (ns.length + 1) (I ns ++ [.int .i64 (n : Int)])) : w1.ownsRow base 3 1 v1 (ns ++ [n]).length (I (ns ++ [n])) := by
  have e : I (ns ++ [n]) = I ns ++ [.int .i64 (n : Int)] := by simp [I]
  rw [e, List.length_append]; exact h

set_option maxHeartbeats 400000 in
theorem numbers_any (s : ByteArray) (hs : s.size ≤ 2097152) (w : World) :
    Calls Tryz.prog 36 #[.string s] w fun e w' => Below w.heap.size w w' ∧
      ((∃ ns v, Pl.nums s.data.toList = some ns ∧ e = .returned (.tuple #[v, .bool true]) ∧ w'.ownsRow w.heap.size 3 1 v ns.length (I ns)) ∨
       (Pl.nums s.data.toList = none ∧ e = .returned (.tuple #[.slice none 0 0, .bool false]))) := by
  obtain ⟨i0, hi, hz0, hz1, hz2⟩ := info_parts info3
  go_enter Tryz.func36, Tryz.ntmps36
  go_wp2_with fail
  go_loopw [0, 4] (fun t o wr => ∃ (t' : ByteArray) (ns : List Nat), t = .string t' ∧ wr.ownsRow w.heap.size 3 1 o ns.length (I ns) ∧ ns.length + t'.size ≤ s.size ∧ Hid (Pl.nums s.data.toList = (Pl.nums t'.data.toList).map (ns ++ ·)) ∧ Below w.heap.size w wr) (fun t _ _ => (strOf t).size)
  case atStart => exact ⟨s, [], rfl, World.ownsRow_nil _ _ _ _, by simp, (by simp [Hid]), Below.refl _ _⟩
  case round =>
    obtain ⟨t, ns, rfl, hown, hlen, hnm, hb⟩ := hrel
    by_cases hte : t.toList.isEmpty = true
    · go_wp2_with fail
      have hnil : t.data.toList = [] := by rw [ByteArray.toList_eq] at hte; simpa using hte
      go_ret2
      refine ⟨hb, Or.inl ⟨ns, _, ?_, rfl, hown⟩⟩
      rw [hnm.out, hnil, Pl.nums_nil]; simp
    · obtain ⟨f, hf⟩ : ∃ f, f = Pl.fst t.data.toList := ⟨_, rfl⟩
      obtain ⟨n, hn⟩ : ∃ n, n = Pl.snd t.data.toList := ⟨_, rfl⟩
      have h1 := first_any t (by omega) wr
      rw [← hf, ← hn] at h1
      have hne : t.data.toList ≠ [] := by rw [ByteArray.toList_eq] at hte; simpa using hte
      have hnle : n ≤ t.size := by rw [hn]; have := Pl.snd_le t.data.toList; simpa using this
      have HN : Hid (n = 0 → Pl.nums s.data.toList = none) := fun h0 => by
        rw [hnm.out, Pl.nums_none hne (by omega)]; rfl
      have HS : Hid (n ≠ 0 → Pl.nums s.data.toList = (Pl.nums (t.data.toList.drop n)).map ((ns ++ [f]) ++ ·)) := fun h0 => by
        rw [hnm.out, Pl.nums_cons hne (by omega), ← hf, ← hn]
        cases Pl.nums (List.drop n t.data.toList) <;> simp
      have HF : Hid (f = Pl.fst t.data.toList) := hf
      have hfl : f < 9223372036854775808 := by rw [hf]; exact Pl.fst_lt _
      have H1 := hide h1
      clear hf hn h1 hnm
      by_cases h0 : n = 0
      · subst h0
        go_wp2_with (go_at_call 52; refine (H1.out).mono ?_; rintro e w1 ⟨rfl, hb1⟩)
        go_ret2
        exact ⟨hb.trans (hb1.mono hb.size), Or.inr ⟨HN.out (by trivial), rfl⟩⟩
      · have hb0 : ((n : Int) == 0) = false := by simpa using h0
        go_wp2_with (first
          | (go_at_call 52; refine (H1.out).mono ?_; rintro e w1 ⟨rfl, hb1⟩)
          | (at_builtin; refine wpList_append_own _ rfl _ _ 54 rfl (w.heap.size) 3 i0 (.int .i64 0) 1 8 tU48 hi hz0 hz1 hz2 rfl (by decide) _ _ _ rfl ((own_below hown hb1).alloc _) ⟨w1.heap.size, 0, none⟩ 1 1 [.int .i64 (f : Int)] rfl rfl ?c1 ?c2 ?c3 ?c4 ?c5 ?_))
        case c1 => exact one_new _ _ _
        case c2 => intro u hu; simp at hu; subst hu; rfl
        case c3 => unfold maxLen; omega
        case c4 => omega
        case c5 => have := hb.size; have := hb1.size; simp; omega
        intro v' w2 hown2 hgrow hnn
        have hbb : Below w.heap.size w w2 := ((hb.trans (hb1.mono hb.size)).alloc (by have := hb.size; have := hb1.size; omega) _).grown hgrow (by have := hb.size; have := hb1.size; simp; omega) (fun k hk => (hown.lt k hk).1)
        have ho := own1 hown2
        have HS' : Hid (Pl.nums s.data.toList = (Pl.nums (t.extract n t.size).data.toList).map ((ns ++ [f]) ++ ·)) := by rw [extract_drop]; exact HS.out h0
        clear hown2 hgrow hown hnn HF HN HS hb hb1
        go_wp2_with fail
        go_roundw
        case rel => exact ⟨_, ns ++ [f], rfl, ho, by simp; omega, HS', hbb⟩
        case measure => simp [strOf]; omega

end Go.Proofs.YtclipofifmajeaaGreatDoor
