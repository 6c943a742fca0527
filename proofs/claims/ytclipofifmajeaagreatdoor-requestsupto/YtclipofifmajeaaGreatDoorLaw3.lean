import Derived.Test.YtclipofifmajeaaGreatDoorLaw2
import Derived.Deep.RegionHeld3
namespace Go.Proofs.YtclipofifmajeaaGreatDoor
set_option linter.unusedSimpArgs false
set_option linter.unusedVariables false
open Go.RowKit
set_option maxRecDepth 100000

/-- What New and the document's empty store are. -/
def begunW (w : World) : World :=
  (((((((w.alloc (.map #[] 0)).alloc (.map #[] 0)).alloc (.map #[] 0)).alloc (.cells #[.int .i64 0, .slice none 0 0, .map (some w.heap.size), .map (some (w.heap.size + 1)), .map (some (w.heap.size + 1 + 1))] 71)).alloc (.cells #[.pointer (some ⟨w.heap.size + 1 + 1 + 1, 0, none⟩)] 53)).alloc (.cells #[.int .i64 0, .slice none 0 0, .slice none 0 0, .slice none 0 0, .string ⟨#[]⟩] 41)).alloc (.cells #[.pointer (some ⟨w.heap.size + 1 + 1 + 1 + 1, 0, none⟩), .pointer (some ⟨w.heap.size + 1 + 1 + 1 + 1 + 1, 0, none⟩)] 43))

theorem alloc_old {w : World} {k : Nat} {o' : Obj} {x : Option Obj} (h : w.heap[k]? = x) (hk : k < w.heap.size) : (w.alloc o').heap[k]? = x := (Below.heap_alloc _ _ _ hk).trans h

theorem begun_inv (w : World) (hg : Gl w) : Inv w.heap.size w (begunW w) (w.heap.size + 1 + 1 + 1 + 1 + 1 + 1) 0 := by
  have hb : Below w.heap.size w (begunW w) := by
    unfold begunW
    exact (((((((Below.refl _ _).alloc (Nat.le_refl _) _).alloc (by simp) _).alloc (by first | (simp; done) | (simp; omega)) _).alloc (by first | (simp; done) | (simp; omega)) _).alloc (by first | (simp; done) | (simp; omega)) _).alloc (by first | (simp; done) | (simp; omega)) _).alloc (by first | (simp; done) | (simp; omega)) _
  have hsz : (begunW w).heap.size = w.heap.size + 7 := by unfold begunW; simp
  have b0 : (begunW w).heap[w.heap.size]? = some (.map #[] 0) := by
    unfold begunW
    exact alloc_old (alloc_old (alloc_old (alloc_old (alloc_old (alloc_old (heap_alloc_new w _) (by first | (simp; done) | (simp; omega))) (by first | (simp; done) | (simp; omega))) (by first | (simp; done) | (simp; omega))) (by first | (simp; done) | (simp; omega))) (by first | (simp; done) | (simp; omega))) (by first | (simp; done) | (simp; omega))
  have b1 : (begunW w).heap[w.heap.size + 1]? = some (.map #[] 0) := by
    unfold begunW
    exact alloc_old (alloc_old (alloc_old (alloc_old (alloc_old (heap_alloc_new' _ _ _ (by first | (simp; done) | (simp; omega))) (by first | (simp; done) | (simp; omega))) (by first | (simp; done) | (simp; omega))) (by first | (simp; done) | (simp; omega))) (by first | (simp; done) | (simp; omega))) (by first | (simp; done) | (simp; omega))
  have b2 : (begunW w).heap[w.heap.size + 2]? = some (.map #[] 0) := by
    unfold begunW
    exact alloc_old (alloc_old (alloc_old (alloc_old (heap_alloc_new' _ _ _ (by first | (simp; done) | (simp; omega))) (by first | (simp; done) | (simp; omega))) (by first | (simp; done) | (simp; omega))) (by first | (simp; done) | (simp; omega))) (by first | (simp; done) | (simp; omega))
  have b3 : (begunW w).heap[w.heap.size + 3]? = some (.cells #[.int .i64 0, .slice none 0 0, .map (some w.heap.size), .map (some (w.heap.size + 1)), .map (some (w.heap.size + 1 + 1))] 71) := by
    unfold begunW
    exact alloc_old (alloc_old (alloc_old (heap_alloc_new' _ _ _ (by first | (simp; done) | (simp; omega))) (by first | (simp; done) | (simp; omega))) (by first | (simp; done) | (simp; omega))) (by first | (simp; done) | (simp; omega))
  have b4 : (begunW w).heap[w.heap.size + 4]? = some (.cells #[.pointer (some ⟨w.heap.size + 1 + 1 + 1, 0, none⟩)] 53) := by
    unfold begunW
    exact alloc_old (alloc_old (heap_alloc_new' _ _ _ (by first | (simp; done) | (simp; omega))) (by first | (simp; done) | (simp; omega))) (by first | (simp; done) | (simp; omega))
  have b5 : (begunW w).heap[w.heap.size + 5]? = some (.cells #[.int .i64 0, .slice none 0 0, .slice none 0 0, .slice none 0 0, .string ⟨#[]⟩] 41) := by
    unfold begunW
    exact alloc_old (heap_alloc_new' _ _ _ (by first | (simp; done) | (simp; omega))) (by simp)
  have b6 : (begunW w).heap[w.heap.size + 6]? = some (.cells #[.pointer (some ⟨w.heap.size + 1 + 1 + 1 + 1, 0, none⟩), .pointer (some ⟨w.heap.size + 1 + 1 + 1 + 1 + 1, 0, none⟩)] 43) := by
    unfold begunW
    exact heap_alloc_new' _ _ _ (by simp)
  generalize begunW w = W at *
  have hp : PV [] W (w.heap.size + 1 + 1 + 1) ⟨w.heap.size + 1 + 1, w.heap.size, w.heap.size + 1⟩ (.slice none 0 0) 0 [] [] [] := ⟨b3, ⟨⟨0, b2⟩, ⟨.map [], owns_nil b0, ⟨rfl, fun n _ => rfl⟩⟩, ⟨.map [], owns_nil b1, ⟨rfl, fun a b _ _ => rfl, fun a b _ _ => rfl⟩⟩, (by show w.heap.size + 1 + 1 ≠ w.heap.size; omega), (by show w.heap.size + 1 + 1 ≠ w.heap.size + 1; omega), (by show w.heap.size ≠ w.heap.size + 1; omega)⟩, World.ownsRow_nil _ _ _ _, rfl, rfl, fun i h => absurd h (by simp), fun i h => absurd h (by simp), by simp, by omega, fun l h => absurd h (by simp), by simp⟩
  have hr : RV [] ⟨.slice none 0 0, []⟩ W (w.heap.size + 1 + 1 + 1 + 1 + 1) (.slice none 0 0) 0 ⟨#[]⟩ [] [] := ⟨b5, World.ownsRow_nil _ _ _ _, rfl, fun l h => absurd h (by simp), ⟨World.ownsRow_nil _ _ _ _, rfl, fun i h => absurd h (by simp)⟩, by omega, fun l h => absurd h (by simp), by simp⟩
  refine ⟨hb, by omega, hg.2.2, hg.below hb, by omega, w.heap.size + 1 + 1 + 1 + 1, w.heap.size + 1 + 1 + 1 + 1 + 1, fun k => w.heap.size ≤ k ∧ k ≤ w.heap.size + 4, fun k => k = w.heap.size + 5, 0, [], [], ⟨#[]⟩, b6, ?_, ?_, ?_, ?_, ?_, good_nil⟩
  · refine ⟨w.heap.size + 1 + 1 + 1, fun k => w.heap.size ≤ k ∧ k ≤ w.heap.size + 3, b4, by omega, fun h => by omega, fun k h => by omega, _, _, _, _, hp, ⟨by omega, by show _ ∧ _; simp only []; omega, by show _ ∧ _; simp only []; omega, by show _ ∧ _; simp only []; omega, (fun g h => by cases h), (fun k h => absurd h (by simp)), (fun k h => absurd h (by simp))⟩⟩
  · refine ⟨_, _, _, hr, rfl, (fun g h => by cases h), fun g h => ?_⟩
    rcases h with h | ⟨i, hi, _⟩
    · cases h
    · exact absurd hi (by simp)
  · intro k h; refine ⟨by omega, by omega, by omega, by omega⟩
  · intro k h; refine ⟨by omega, by omega, by omega⟩
  · exact Nat.le_refl _

set_option maxHeartbeats 800000 in
theorem begun_any (w : World) (hg : Gl w) :
    Calls Tryz.prog 9 #[] w fun e w' => ∃ Q, e = .returned (.tuple #[.pointer (some ⟨Q, 0, none⟩), .bool true]) ∧ Inv w.heap.size w w' Q 0 := by
  have hmm := @run_makeMap Tryz.prog
  go_enter Tryz.func9, Tryz.ntmps9
  go_wp2_with (first | (go_at_call 14; go_in) | (go_at_call 22; go_in))
  go_ret2
  exact ⟨_, rfl, begun_inv w hg⟩

set_option maxHeartbeats 1600000 in
theorem play_any {B Q N : Nat} {w0 w : World} (h : Inv B w0 w Q N) (hN : N ≤ 1000000000000000) (s : ByteArray) (hs : s.size ≤ 2097143) (hp : Played (Pl.cmd s.data.toList)) :
    Calls Tryz.prog 11 #[.pointer (some ⟨Q, 0, none⟩), .agg #[.int .i64 1, .int .i64 0, .int .i64 0, .string s]] w fun e w' => e = .returned (.bool true) ∧ Inv B w0 w' Q (N + (s.size + 13)) := by
  have ha := al1 w (.cells #[.int .i64 1, .int .i64 0, .int .i64 0, .string s] 29)
  have hop := heap_alloc_new w (.cells #[.int .i64 1, .int .i64 0, .int .i64 0, .string s] 29)
  obtain ⟨hold0, hsz0, htwo, hgl0, hQ, Lb, R, Zp, Zr, td, ls, os, rec, hqo, hpl0, hri0, h40, h50, hrec, hgo⟩ := h
  have hab : Below w.heap.size w (w.alloc (.cells #[.int .i64 1, .int .i64 0, .int .i64 0, .string s] 29)).drew := ha.drew
  have hq := (hab.block Q (blk_lt hqo)).trans hqo
  have hpl := hpl0.below hab
  have hri := hri0.below hab
  have hgl := hgl0.below hab
  have hold := hold0.trans (hab.mono hsz0)
  have hsz := Nat.le_trans hsz0 hab.size
  have h4 : ∀ k, Zp k → B ≤ k ∧ k < (w.alloc (.cells #[.int .i64 1, .int .i64 0, .int .i64 0, .string s] 29)).drew.heap.size ∧ k ≠ Q ∧ ¬ Zr k := fun k hk => ⟨(h40 k hk).1, Nat.lt_of_lt_of_le (h40 k hk).2.1 hab.size, (h40 k hk).2.2⟩
  have h5 : ∀ k, Zr k → B ≤ k ∧ k < (w.alloc (.cells #[.int .i64 1, .int .i64 0, .int .i64 0, .string s] 29)).drew.heap.size ∧ k ≠ Q := fun k hk => ⟨(h50 k hk).1, Nat.lt_of_lt_of_le (h50 k hk).2.1 hab.size, (h50 k hk).2.2⟩
  have hzw1 : ¬ Zp w.heap.size := fun h => Nat.lt_irrefl _ (h40 _ h).2.1
  have hzw2 : ¬ Zr w.heap.size := fun h => Nat.lt_irrefl _ (h50 _ h).2.1
  have hnw : ¬ Zp w.heap.size := hzw1
  have HH := hide (handleP_any hpl hgl s (by omega) hp)
  have q0 : (w.alloc (.cells #[.int .i64 1, .int .i64 0, .int .i64 0, .string s] 29)).cell? ⟨Q, 0, none⟩ = some (.pointer (some ⟨Lb, 0, none⟩)) := by
    have : (w.alloc (.cells #[.int .i64 1, .int .i64 0, .int .i64 0, .string s] 29)).heap[Q]? = _ := hq
    rw [blk_cell this]; rfl
  have o3 : (w.alloc (.cells #[.int .i64 1, .int .i64 0, .int .i64 0, .string s] 29)).cell? ⟨w.heap.size, 3, none⟩ = some (.string s) := by rw [blk_cell hop]; rfl
  have o0 : (w.alloc (.cells #[.int .i64 1, .int .i64 0, .int .i64 0, .string s] 29)).cell? ⟨w.heap.size, 0, none⟩ = some (.int .i64 1) := by rw [blk_cell hop]; rfl
  go_enter Tryz.func11, Tryz.ntmps11
  go_wp2_with fail
  have hQlt : Q < (w.alloc (.cells #[.int .i64 1, .int .i64 0, .int .i64 0, .string s] 29)).heap.size := blk_lt hq
  have hwlt : w.heap.size < (w.alloc (.cells #[.int .i64 1, .int .i64 0, .int .i64 0, .string s] 29)).heap.size := by simp
  have hnQ : Hid (¬ Zp Q) := fun h => (h4 Q h).2.2.1 rfl
  have hnW : Hid (¬ Zp w.heap.size) := hnw
  have hq1 : (w.alloc (.cells #[.int .i64 1, .int .i64 0, .int .i64 0, .string s] 29)).cell? ⟨Q, 1, none⟩ = some (.pointer (some ⟨R, 0, none⟩)) := by
    have : (w.alloc (.cells #[.int .i64 1, .int .i64 0, .int .i64 0, .string s] 29)).heap[Q]? = _ := hq
    rw [blk_cell this]; rfl
  go_region_held3 (fun w' => w'.cell? ⟨Q, 0, none⟩ = some (.pointer (some ⟨Lb, 0, none⟩)) ∧ w'.cell? ⟨w.heap.size, 3, none⟩ = some (.string s)) (go_keep)
    (first
      | (go_at_call 15; refine (HH.out).mono ?_; rintro e w3 ⟨hk3, rfl, hpl3⟩; have hqq := hk3.block Q hQlt hnQ.out; have hqw := hk3.block w.heap.size hwlt hnW.out; have m0 := (World.cell?_of_block (a := ⟨Q, 0, none⟩) hqq).trans q0; have m1 := (World.cell?_of_block (a := ⟨w.heap.size, 3, none⟩) hqw).trans o3; have m2 := (World.cell?_of_block (a := ⟨Q, 1, none⟩) hqq).trans hq1))
  have hri3 : RI os Zr w3.drew R td rec ls := (hri.congr (fun k hk => hk3.block k (h5 k hk).2.1 (fun hz => (h4 k hz).2.2.2 hk))).below (drewB w3)
  have HR := hide (handleR_any hri3 (by omega) s hs hp)
  have hs3 : Hid ((w.alloc (.cells #[.int .i64 1, .int .i64 0, .int .i64 0, .string s] 29)).drew.heap.size ≤ w3.heap.size) := hk3.size
  have hQ3 : Hid (Q < w3.heap.size) := Nat.lt_of_lt_of_le hQlt hs3.out
  have hW3 : Hid (w.heap.size < w3.heap.size) := Nat.lt_of_lt_of_le hwlt hs3.out
  have hnQr : Hid (¬ Zr Q) := fun h => (h5 Q h).2.2 rfl
  have hnWr : Hid (¬ Zr w.heap.size) := hzw2
  have HK3 := hide hk3
  have HPL := hide hpl3
  have H4 := hide h4
  have H5 := hide h5
  have HGO := hide (good_stepS (td := td) hgo (Pl.cmd s.data.toList))
  generalize stepS td ls (Pl.cmd s.data.toList) = st at HR HPL HGO ⊢
  obtain ⟨sb, td', ls'⟩ := st
  clear hqq hqw q0 o3 o0 hq1 hri3 hk3 hpl3 h4 h5 h40 h50 HH m0 hp
  go_wp2_with fail
  go_region_held3 (fun w' => w'.cell? ⟨Q, 1, none⟩ = some (.pointer (some ⟨R, 0, none⟩)) ∧ w'.cell? ⟨w.heap.size, 3, none⟩ = some (.string s)) (go_keep)
    (first
      | (go_at_call 16; refine (HR.out).mono ?_; rintro e w5 ⟨rfl, hk5, rec', hr5, hri5⟩; have hqq := hk5.block Q hQ3.out hnQr.out; have hqw := hk5.block w.heap.size hW3.out hnWr.out; have r1 := (World.cell?_of_block (a := ⟨Q, 1, none⟩) hqq).trans m2; have r2 := (World.cell?_of_block (a := ⟨w.heap.size, 3, none⟩) hqw).trans m1))
  clear hqq hqw r1 r2 m1 m2
  go_wp2_with fail
  go_ret
  refine ⟨rfl, ?_⟩
  exact Inv.step hold hsz htwo hgl hQ hq H4.out H5.out HK3.out HPL.out (Kp.before (drewB w3) (hk5.mono (fun k h => Or.inl h))) hri5 (by omega) HGO.out

end Go.Proofs.YtclipofifmajeaaGreatDoor
