import Derived.Test.YtgcedalggnmooabGreatDoorOrdX
import Derived.Test.YtgcedalggnmooabGreatDoorOd1X
import Derived.Test.YtgcedalggnmooabGreatDoorMp0X
import Derived.Shelf.SlSortCmp.NoneTotal
import Derived.Shelf.Lay
import Derived.Ground.SlsfProg
import Derived.Ground.NamesProg
import Derived.Deep.RegionWith
namespace Go.Proofs.YtgcedalggnmooabGreatDoor
set_option linter.unusedSimpArgs false
set_option linter.unusedVariables false
set_option maxRecDepth 100000

/-- Is a lot Held, and in a family? -/
def heldP (ls : List L) (f : Nat → Bool) (i : Nat) : Bool := decide (0 < (ls.getD i L0).held) && f (ls.getD i L0).id
def heldK (ls : List L) (f : Nat → Bool) (k : Nat) : List Nat := (List.range k).filter (heldP ls f)
def idLt (ls : List L) (i j : Nat) : Bool := decide ((ls.getD i L0).id < (ls.getD j L0).id)
/-- Of all that comes of a lot those that are Held, their numbers rising; and how many. -/
def heldI (ls : List L) (n : Nat) : List Nat := srtI (idLt ls) (heldK ls (comB ls n) ls.length)
def withHeld (ls : List L) (is : List Nat) : List (Nat × Nat) := is.map fun i => (i, (ls.getD i L0).held)
def heldQ (ls : List L) (n : Nat) : List (Nat × Nat) := withHeld ls (heldI ls n)

theorem heldK_yes {ls : List L} {f : Nat → Bool} {k : Nat} (h : heldP ls f k = true) : heldK ls f (k + 1) = heldK ls f k ++ [k] := by
  simp only [heldK, List.range_succ, List.filter_append, List.filter_cons, List.filter_nil, h, if_true]
theorem heldK_no {ls : List L} {f : Nat → Bool} {k : Nat} (h : heldP ls f k = false) : heldK ls f (k + 1) = heldK ls f k := by
  simp only [heldK, List.range_succ, List.filter_append, List.filter_cons, List.filter_nil, h, Bool.false_eq_true, if_false, List.append_nil]
theorem heldK_len (ls : List L) (f : Nat → Bool) (k : Nat) : (heldK ls f k).length ≤ k := by
  have := List.length_filter_le (heldP ls f) (List.range k)
  simpa [heldK] using this
theorem heldK_mem {ls : List L} {f : Nat → Bool} {k i : Nat} : i ∈ heldK ls f k ↔ i < k ∧ heldP ls f i = true := by simp [heldK]
theorem heldK_nodup (ls : List L) (f : Nat → Bool) (k : Nat) : (heldK ls f k).Nodup := List.nodup_range.filter _

theorem idLt_trans {ls : List L} {a b c : Nat} (h1 : idLt ls b a = false) (h2 : idLt ls c b = false) : idLt ls c a = false := by
  simp [idLt] at h1 h2 ⊢; omega
theorem idLt_asymm {ls : List L} {a b : Nat} (h : idLt ls a b = true) : idLt ls b a = false := by
  simp [idLt] at h ⊢; omega
theorem insI_srtG (lt : Nat → Nat → Bool) (htr : ∀ a b c, lt b a = false → lt c b = false → lt c a = false) (has : ∀ a b, lt a b = true → lt b a = false) (x : Nat) : ∀ l : List Nat, Srt lt l → Srt lt (insI lt x l)
  | [], _ => by simp [insI, Srt]
  | y :: r, h => by
    have hy := List.pairwise_cons.1 h
    unfold insI
    split
    · rename_i hlt
      refine List.pairwise_cons.2 ⟨fun b hb => ?_, insI_srtG lt htr has x r hy.2⟩
      rcases List.mem_cons.1 ((insI_perm _ x r).mem_iff.1 hb) with rfl | hb
      · exact has _ _ hlt
      · exact hy.1 b hb
    · rename_i hlt
      have hxy : lt y x = false := by simpa using hlt
      refine List.pairwise_cons.2 ⟨fun b hb => ?_, h⟩
      rcases List.mem_cons.1 hb with rfl | hb
      · exact hxy
      · exact htr _ _ _ hxy (hy.1 b hb)
theorem srtI_srtG (lt : Nat → Nat → Bool) (htr : ∀ a b c, lt b a = false → lt c b = false → lt c a = false) (has : ∀ a b, lt a b = true → lt b a = false) : ∀ l : List Nat, Srt lt (srtI lt l)
  | [] => List.Pairwise.nil
  | x :: r => insI_srtG lt htr has x _ (srtI_srtG lt htr has r)

/-- One sorted order there is. -/
theorem srt_unique {lt : Nat → Nat → Bool} : ∀ {l m : List Nat}, (∀ a ∈ l, ∀ b ∈ l, lt a b = false → lt b a = false → a = b) → l.Perm m → Srt lt l → Srt lt m → l = m
  | [], m, _, hp, _, _ => by rw [List.nil_perm.1 hp]
  | x :: l, [], _, hp, _, _ => absurd hp.length_eq (by simp)
  | x :: l, y :: m, ha, hp, hl, hm => by
    have hx := List.pairwise_cons.1 hl
    have hy := List.pairwise_cons.1 hm
    have hxm : x ∈ y :: m := hp.mem_iff.1 (by simp)
    have hyl : y ∈ x :: l := hp.mem_iff.2 (by simp)
    have e : x = y := by
      rcases List.mem_cons.1 hxm with h | h
      · exact h
      · rcases List.mem_cons.1 hyl with h' | h'
        · exact h'.symm
        · exact ha x (by simp) y hyl (hy.1 x h) (hx.1 y h')
    subst e
    have hp' := List.perm_cons x |>.1 hp
    rw [srt_unique (fun a h1 b h2 => ha a (by simp [h1]) b (by simp [h2])) hp' hx.2 hy.2]

theorem heldI_perm (ls : List L) (n : Nat) : (heldI ls n).Perm (heldK ls (comB ls n) ls.length) := srtI_perm _ _
theorem heldI_srt (ls : List L) (n : Nat) : Srt (idLt ls) (heldI ls n) := srtI_srtG (idLt ls) (fun _ _ _ => idLt_trans) (fun _ _ => idLt_asymm) _
theorem heldI_mem {ls : List L} {n i : Nat} : i ∈ heldI ls n ↔ i < ls.length ∧ heldP ls (comB ls n) i = true := by
  rw [(heldI_perm ls n).mem_iff, heldK_mem]
theorem heldI_len (ls : List L) (n : Nat) : (heldI ls n).length ≤ ls.length := by
  rw [(heldI_perm ls n).length_eq]; exact heldK_len _ _ _
theorem heldI_eq {ls : List L} (hids : ∀ i j, i < ls.length → j < ls.length → (ls.getD i L0).id = (ls.getD j L0).id → i = j) {n : Nat} {m : List Nat} (hp : m.Perm (heldK ls (comB ls n) ls.length)) (hs : Srt (idLt ls) m) : m = heldI ls n := by
  refine srt_unique (fun a h1 b h2 e1 e2 => ?_) (hp.trans (heldI_perm ls n).symm) hs (heldI_srt ls n)
  have a1 := (heldK_mem.1 (hp.mem_iff.1 h1)).1
  have b1 := (heldK_mem.1 (hp.mem_iff.1 h2)).1
  refine hids a b a1 b1 ?_
  simp only [idLt, decide_eq_false_iff_not] at e1 e2
  omega

theorem withHeld_len (ls : List L) (is : List Nat) : (withHeld ls is).length = is.length := by simp [withHeld]
theorem withHeld_at (ls : List L) (is : List Nat) {k : Nat} (hk : k < is.length) : (withHeld ls is).getD k (0, 0) = (is.getD k 0, (ls.getD (is.getD k 0) L0).held) := by
  simp [withHeld, List.getD_eq_getElem?_getD, hk]
theorem withHeld_snoc (ls : List L) (is : List Nat) (i : Nat) : withHeld ls (is ++ [i]) = withHeld ls is ++ [(i, (ls.getD i L0).held)] := by simp [withHeld]

/-- The lots' places, their numbers rising. -/
def byN (ls : List L) : List Nat := srtI (idLt ls) (List.range ls.length)
theorem byN_perm (ls : List L) : (byN ls).Perm (List.range ls.length) := srtI_perm _ _
theorem byN_srt (ls : List L) : Srt (idLt ls) (byN ls) := srtI_srtG (idLt ls) (fun _ _ _ => idLt_trans) (fun _ _ => idLt_asymm) _
theorem byN_len (ls : List L) : (byN ls).length = ls.length := by rw [(byN_perm ls).length_eq, List.length_range]
theorem byN_mem {ls : List L} {i : Nat} : i ∈ byN ls ↔ i < ls.length := by rw [(byN_perm ls).mem_iff, List.mem_range]
theorem byN_nodup (ls : List L) : (byN ls).Nodup := (byN_perm ls).nodup_iff.2 List.nodup_range
theorem byN_get {ls : List L} {k : Nat} (hk : k < ls.length) : (byN ls).getD k 0 < ls.length := by
  have h : k < (byN ls).length := by rw [byN_len]; exact hk
  exact byN_mem.1 (by simp [List.getD_eq_getElem?_getD, h])
theorem byN_eq {ls : List L} (hids : ∀ i j, i < ls.length → j < ls.length → (ls.getD i L0).id = (ls.getD j L0).id → i = j) {m : List Nat} (hp : m.Perm (List.range ls.length)) (hs : Srt (idLt ls) m) : m = byN ls := by
  refine srt_unique (lt := idLt ls) ?_ (hp.trans (byN_perm ls).symm) hs (byN_srt ls)
  intro a ha b hb h1 h2
  have ha' : a < ls.length := by simpa using hp.mem_iff.1 ha
  have hb' : b < ls.length := by simpa using hp.mem_iff.1 hb
  refine hids a b ha' hb' ?_
  simp only [idLt, decide_eq_false_iff_not] at h1 h2
  omega

end Go.Proofs.YtgcedalggnmooabGreatDoor

namespace Go.Proofs.YtgcedalggnmooabGreatDoor
set_option linter.unusedSimpArgs false
set_option linter.unusedVariables false
open Go.RowKit
set_option maxRecDepth 100000

set_option maxHeartbeats 800000 in
theorem cmp_any (x y : Int) (W : World) : Calls Tryz.prog 98 #[.int .i64 x, .int .i64 y] W fun e w' => e = .returned (.int .i64 (Lib.compareInt x y)) ∧ w' = W := by
  have h1 : (x != x) = false := by simp
  have h2 : (y != y) = false := by simp
  unfold Lib.compareInt
  by_cases hlt : x < y
  · rw [if_pos hlt]
    go_enter Tryz.func98, Tryz.ntmps98
    go_wp2_with (first | (go_at_call 118; go_in) | fail)
    go_ret
    exact ⟨rfl, rfl⟩
  · rw [if_neg hlt]
    by_cases hgt : y < x
    · rw [if_pos hgt]
      go_enter Tryz.func98, Tryz.ntmps98
      go_wp2_with (first | (go_at_call 118; go_in) | fail)
      go_ret
      exact ⟨rfl, rfl⟩
    · rw [if_neg hgt]
      go_enter Tryz.func98, Tryz.ntmps98
      go_wp2_with (first | (go_at_call 118; go_in) | fail)
      go_ret
      exact ⟨rfl, rfl⟩

end Go.Proofs.YtgcedalggnmooabGreatDoor
