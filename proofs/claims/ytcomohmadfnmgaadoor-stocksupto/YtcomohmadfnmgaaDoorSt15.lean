import Derived.Test.YtcomohmadfnmgaaDoorSt13
import Derived.Test.YtcomohmadfnmgaaDoorSt14
namespace Go.Proofs.YtcomohmadfnmgaaDoor
set_option linter.unusedSimpArgs false
set_option linter.unusedVariables false
open Go.RowKit
set_option maxRecDepth 100000

theorem merge_any {Z : Nat → Prop} {w : World} {S td : Nat} {ls : List L} (h : PI Z w S td ls) (a b m : Nat) (h1 : a ≤ 2147483647) (h2 : b ≤ 2147483647) (h3 : m ≤ 2147483647) :
    Calls Tryd.prog 51 #[.pointer (some ⟨S, 0, none⟩), .agg #[.int .i64 (a : Int), .int .i64 (b : Int), .int .i64 (m : Int)]] w fun e w' => Kp Z w w' ∧ e = .returned (.int .i64 (mergeC ls a b m : Int)) ∧ PI (Zn Z w) w' S td (mergeS ls a b m) := by
  obtain ⟨M, v, bs, pvs, hP, hin⟩ := h
  have fin : ∀ rc : Nat, 0 < rc → mergeC ls a b m = rc → (Calls Tryd.prog 51 #[.pointer (some ⟨S, 0, none⟩), .agg #[.int .i64 (a : Int), .int .i64 (b : Int), .int .i64 (m : Int)]] w fun e w' => e = .returned (.int .i64 (rc : Int)) ∧ Below w.heap.size w w') →
      Calls Tryd.prog 51 #[.pointer (some ⟨S, 0, none⟩), .agg #[.int .i64 (a : Int), .int .i64 (b : Int), .int .i64 (m : Int)]] w fun e w' => Kp Z w w' ∧ e = .returned (.int .i64 (mergeC ls a b m : Int)) ∧ PI (Zn Z w) w' S td (mergeS ls a b m) := by
    intro rc hrc hm hw
    have hS : mergeS ls a b m = ls := if_neg (by omega)
    rw [hm, hS]
    exact hw.mono fun e w' ⟨he, hb⟩ => ⟨kpB hb, he, M, v, bs, pvs, hP.below hb, hin.mono (fun k hk => Or.inl hk)⟩
  by_cases hx : idx a ls < ls.length ∧ idx b ls < ls.length
  · by_cases hy : idx a ls = idx b ls ∨ (lotAt ls a).goods ≠ (lotAt ls b).goods
    · exact fin 8 (by omega) (by unfold mergeC; rw [if_pos hx, if_pos hy]) (merge_goods hP a b m h1 h2 h3 hx.1 hx.2 hy)
    · have he : idx a ls ≠ idx b ls := fun h => hy (Or.inl h)
      have hg : (lotAt ls a).goods = (lotAt ls b).goods := Classical.byContradiction fun h => hy (Or.inr h)
      by_cases hr : roomC ls m = 0
      · by_cases hz : (lotAt ls a).free + (lotAt ls b).free = 0
        · exact fin 7 (by omega) (by unfold mergeC; rw [if_pos hx, if_neg hy, if_pos hr, if_pos hz]) (merge_late hP a b m h1 h2 h3 hx.1 hx.2 he hg 7 (by omega) (Or.inr (Or.inl ⟨hr, hz, rfl⟩)))
        · by_cases hz2 : 2147483647 < (lotAt ls a).free + (lotAt ls b).free
          · exact fin 2 (by omega) (by unfold mergeC; rw [if_pos hx, if_neg hy, if_pos hr, if_neg hz, if_pos hz2]) (merge_late hP a b m h1 h2 h3 hx.1 hx.2 he hg 2 (by omega) (Or.inr (Or.inr ⟨hr, hz2, rfl⟩)))
          · have hm : mergeC ls a b m = 0 := by unfold mergeC; rw [if_pos hx, if_neg hy, if_pos hr, if_neg hz, if_neg hz2]
            have hS : mergeS ls a b m = _ := if_pos hm
            rw [hm, hS]
            by_cases hmm : (lotAt ls b).expiry < (lotAt ls a).expiry
            · exact merge_yes1 hP hin a b m h1 h2 h3 hx.1 hx.2 he hg hr hz (by omega) hmm
            · exact merge_yes2 hP hin a b m h1 h2 h3 hx.1 hx.2 he hg hr hz (by omega) hmm
      · exact fin (roomC ls m) (by omega) (by unfold mergeC; rw [if_pos hx, if_neg hy, if_neg hr]) (merge_late hP a b m h1 h2 h3 hx.1 hx.2 he hg _ (by omega) (Or.inl ⟨hr, rfl⟩))
  · exact fin 4 (by omega) (by unfold mergeC; rw [if_neg hx]) (merge_none hP a b m h1 h2 h3 hx)

end Go.Proofs.YtcomohmadfnmgaaDoor
