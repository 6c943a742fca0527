import Derived.Test.YtcomohmadfnmgaaDoorSt0X
import Derived.Handy
namespace Go.Proofs.YtcomohmadfnmgaaDoor
set_option linter.unusedSimpArgs false
set_option linter.unusedVariables false
open Go.RowKit
set_option maxRecDepth 100000

/-- What a lot has given. -/
def gaveL (l : L) (n : Nat) : L := { l with free := l.free - n, given := l.given + n }
def scrapL (l : L) (n : Nat) : L := { l with free := l.free - n, scrapped := l.scrapped + n }

/-- The world behind 'give'. -/
def giveW (w : World) (b : Nat) (l : L) (n : Nat) : World :=
  ((w.setCell ⟨b, 6, none⟩ (.int .i64 ((l.free : Int) - (n : Int)))).setCell ⟨b, 10, none⟩ (.int .i64 ((l.given : Int) + (n : Int)))).alloc (.cells #[.int .i64 (l.id : Int), .int .i64 (n : Int)] 152)

theorem giveW_size (w : World) (b : Nat) (l : L) (n : Nat) : (giveW w b l n).heap.size = w.heap.size + 1 := by simp [giveW, World.setCell]

theorem giveW_self {w : World} {b : Nat} {l : L} {pv : Value} (hb : w.heap[b]? = some (.cells (lotCells l pv) 148 (0, 0))) (n : Nat) (hn : n ≤ l.free) :
    (giveW w b l n).heap[b]? = some (.cells (lotCells (gaveL l n) pv) 148 (0, 0)) := by
  have h1 := heap_setCell_same w b 6 _ 148 (.int .i64 ((l.free : Int) - (n : Int))) hb
  have h2 := heap_setCell_same _ b 10 _ 148 (.int .i64 ((l.given : Int) + (n : Int))) h1
  rw [giveW, Below.heap_alloc _ _ _ (blk_lt h2), h2]
  have e1 : ((l.free - n : Nat) : Int) = (l.free : Int) - (n : Int) := by omega
  have e2 : ((l.given + n : Nat) : Int) = (l.given : Int) + (n : Int) := by omega
  simp [lotCells, gaveL, e1, e2]

theorem giveW_other {w : World} {b : Nat} {l : L} {n k : Nat} (hk : k < w.heap.size) (hne : k ≠ b) : (giveW w b l n).heap[k]? = w.heap[k]? := by
  rw [giveW, Below.heap_alloc _ _ _ (by simp [World.setCell]; exact hk), Below.heap_setCell _ _ _ _ hne, Below.heap_setCell _ _ _ _ hne]

theorem giveW_kp {Z : Nat → Prop} (w : World) (b : Nat) (l : L) (n : Nat) (hb : Z b) : Kp Z w (giveW w b l n) := by
  refine Kp.after (Kp.setCell (Kp.setCell (Kp.refl Z w) ?_ _) ?_ _) (al1 _ _)
  · exact Or.inl hb
  · exact Or.inl hb

set_option maxHeartbeats 800000 in
theorem give_any {w : World} {b : Nat} {l : L} {pv : Value} (hb : w.heap[b]? = some (.cells (lotCells l pv) 148 (0, 0))) (hok : L.Ok l) (n : Nat) (hn : n ≤ l.free) :
    Calls Tryd.prog 75 #[.pointer (some ⟨b, 0, none⟩), .int .i64 (n : Int)] w fun e w' => e = .returned (.agg #[.int .i64 (l.id : Int), .int .i64 (n : Int)]) ∧ w' = giveW w b l n := by
  have hlt := blk_lt hb
  have c0 : w.cell? ⟨b, 0, none⟩ = some (.int .i64 (l.id : Int)) := by rw [blk_cell hb]; rfl
  have c6 : w.cell? ⟨b, 6, none⟩ = some (.int .i64 (l.free : Int)) := by rw [blk_cell hb]; rfl
  have c10 : w.cell? ⟨b, 10, none⟩ = some (.int .i64 (l.given : Int)) := by rw [blk_cell hb]; rfl
  have f6 := blk_free hb 6
  have f10 := blk_free hb 10
  have hid := hok.id
  have hsum := hok.sum
  have hfr : l.free ≤ 2147483647 := by omega
  have hgv : l.given + n ≤ 2147483647 := by omega
  have HB := hide hb
  clear hb hsum hok
  go_enter Tryd.func75, Tryd.ntmps75
  go_wp2_with fail
  go_returns
  exact ⟨rfl, rfl⟩

/-- One lot has turned. -/
theorem PV.lotset {w W : World} {S M : Nat} {v : Value} {td : Nat} {bs : List Nat} {pvs : List Value} {ls : List L} (h : PV w S M v td bs pvs ls) {i : Nat} (hi : i < ls.length) {l' : L} (hl : L.Ok l')
    (hb : W.heap[bs.getD i 0]? = some (.cells (lotCells l' (pvs.getD i default)) 148 (0, 0))) (hq : ∀ k, k < w.heap.size → k ≠ bs.getD i 0 → W.heap[k]? = w.heap[k]?) : PV W S M v td bs pvs (ls.set i l') where
  store := by rw [hq S (blk_lt h.store) (ty_ne h.store (h.lot i hi) (by decide))]; exact h.store
  recalls := by obtain ⟨c, hc⟩ := h.recalls; exact ⟨c, by rw [hq M (blk_lt hc) (map_ne (h.lot i hi) hc).symm]; exact hc⟩
  row := own_congr h.row (fun g hg => by
    obtain ⟨cs, hc⟩ := own_ty h.row hg
    exact hq g (blk_lt hc) (ty_ne (h.lot i hi) hc (by decide)).symm)
  len := by rw [List.length_set]; exact h.len
  plen := by rw [List.length_set]; exact h.plen
  lot := fun j hj => by
    rw [List.length_set] at hj
    by_cases hij : j = i
    · subst hij
      rw [hb]
      simp [List.getD_eq_getElem?_getD, List.getElem?_set, hj]
    · have hne : bs.getD j 0 ≠ bs.getD i 0 := fun e => hij (by
        have hjb : j < bs.length := by rw [h.len]; exact hj
        have hib : i < bs.length := by rw [h.len]; exact hi
        rw [List.getD_eq_getElem?_getD, List.getD_eq_getElem?_getD, List.getElem?_eq_getElem hjb, List.getElem?_eq_getElem hib] at e
        simp only [Option.getD_some] at e
        exact (List.getElem?_inj hjb h.nodup).1 (by rw [List.getElem?_eq_getElem hjb, List.getElem?_eq_getElem hib, e]))
      rw [hq _ (blk_lt (h.lot j hj)) hne, h.lot j hj]
      simp [List.getD_eq_getElem?_getD, List.getElem?_set, Ne.symm hij]
  par := fun j hj => (h.par j (by rw [List.length_set] at hj; exact hj)).congr (fun q hq' => by
    rw [List.length_set] at hj
    rcases h.par j hj with h1 | ⟨q', n, cap, cs, h1, h2, h3, h4⟩
    · rw [h1] at hq'; cases hq'
    · rw [h1] at hq'; cases hq'; exact hq _ (blk_lt h3) (ty_ne (h.lot i hi) h3 (by decide)).symm)
  nodup := h.nodup
  today := h.today
  ok := fun l hm => by
    rcases List.mem_or_eq_of_mem_set hm with h1 | h1
    · exact h.ok l h1
    · subst h1; exact hl
  room := by rw [List.length_set]; exact h.room

theorem gaveL_ok {l : L} (h : L.Ok l) {n : Nat} (hn : n ≤ l.free) : L.Ok (gaveL l n) := ⟨h.id, h.goods, h.expiry, h.place, (by have := h.sum; show l.free - n + l.held + l.shipped + l.scrapped + (l.given + n) ≤ 2147483647; omega), h.got⟩
theorem scrapL_ok {l : L} (h : L.Ok l) {n : Nat} (hn : n ≤ l.free) : L.Ok (scrapL l n) := ⟨h.id, h.goods, h.expiry, h.place, (by have := h.sum; show l.free - n + l.held + l.shipped + (l.scrapped + n) + l.given ≤ 2147483647; omega), h.got⟩

def scrapC (ls : List L) (n c : Nat) : Nat := if idx n ls < ls.length then (if (ls.getD (idx n ls) L0).free < c then 7 else 0) else 4
def scrapS (ls : List L) (n c : Nat) : List L := if scrapC ls n c = 0 then ls.set (idx n ls) (scrapL (ls.getD (idx n ls) L0) c) else ls

set_option maxHeartbeats 1600000 in
theorem scrap_any {Z : Nat → Prop} {w : World} {S td : Nat} {ls : List L} (h : PI Z w S td ls) (n c : Nat) (h1 : n ≤ 2147483647) (h2 : c ≤ 2147483647) :
    Calls Tryd.prog 52 #[.pointer (some ⟨S, 0, none⟩), .agg #[.int .i64 (n : Int), .int .i64 (c : Int)]] w fun e w' => Kp Z w w' ∧ e = .returned (.int .i64 (scrapC ls n c : Int)) ∧ PI (Zn Z w) w' S td (scrapS ls n c) := by
  obtain ⟨M, v, bs, pvs, hP, hin⟩ := h
  have hP1 := hP.below (al1 w (Obj.cells #[.int .i64 (n : Int), .int .i64 (c : Int)] 112))
  have HR := hide (find_any hP1 n h1)
  by_cases hi : idx n ls < ls.length
  · have HF : Hid (findV bs ls n = .pointer (some ⟨bs.getD (idx n ls) 0, 0, none⟩)) := by unfold Hid findV; rw [if_pos hi]
    rw [HF.out] at HR
    have hlot := hP.lot _ hi
    have hlt := blk_lt hlot
    have hok := hP.ok _ (mem_getD hi)
    have hlt0 : bs.getD (idx n ls) 0 ∈ bs := getD_mem_nat (by rw [hP.len]; exact hi)
    have hZb : Z (bs.getD (idx n ls) 0) := hin.b _ hlt0
    obtain ⟨l, HL⟩ : ∃ l, Hid (l = ls.getD (idx n ls) L0) := ⟨_, rfl⟩
    rw [← HL.out] at hlot hok
    by_cases hs : l.free < c
    · have HC : Hid (scrapC ls n c = 7) := by unfold Hid scrapC; rw [if_pos hi, ← HL.out, if_pos hs]
      have HS : Hid (scrapS ls n c = ls) := by unfold Hid scrapS; rw [HC.out]; rfl
      generalize pvs.getD (idx n ls) default = pv at hlot
      generalize bs.getD (idx n ls) 0 = b at *
      have c6 : w.cell? ⟨b, 6, none⟩ = some (.int .i64 (l.free : Int)) := by rw [blk_cell hlot]; rfl
      have hsum := hok.sum
      have hfr : l.free ≤ 2147483647 := by omega
      have HP := hide hP1
      clear hP hP1 hlot hok hsum
      go_enter Tryd.func52, Tryd.ntmps52
      go_wp2_with (go_at_call 74; refine (HR.out).mono ?_; rintro e w1 ⟨rfl, rfl⟩)
      go_region
      go_wp2_with fail
      go_ret
      refine ⟨kpB ((al1 w _).drew), by rw [HC.out]; rfl, M, v, bs, pvs, ?_, hin.mono (fun k hk => Or.inl hk)⟩
      rw [HS.out]
      exact HP.out.below (Below.refl _ _).drew
    · have HC : Hid (scrapC ls n c = 0) := by unfold Hid scrapC; rw [if_pos hi, ← HL.out, if_neg hs]
      have HS : Hid (scrapS ls n c = ls.set (idx n ls) (scrapL l c)) := by unfold Hid scrapS; rw [HC.out, ← HL.out]; rfl
      have HP := hide hP
      have HI := hide hi
      generalize hpv : pvs.getD (idx n ls) default = pv at hlot
      have HPV := hide hpv
      clear hpv
      obtain ⟨b, HB⟩ : ∃ b, Hid (b = bs.getD (idx n ls) 0) := ⟨_, rfl⟩
      rw [← HB.out] at hlot HR HF hlt hZb
      have c6 : w.cell? ⟨b, 6, none⟩ = some (.int .i64 (l.free : Int)) := by rw [blk_cell hlot]; rfl
      have c9 : w.cell? ⟨b, 9, none⟩ = some (.int .i64 (l.scrapped : Int)) := by rw [blk_cell hlot]; rfl
      have f6 := blk_free hlot 6
      have f9 := blk_free hlot 9
      have HO := hide hok
      have HLo := hide hlot
      have hsum := hok.sum
      have hfr : l.free ≤ 2147483647 := by omega
      have hsc : l.scrapped + c ≤ 2147483647 := by omega
      clear hP hP1 hlot hok hsum hi hlt0 HF
      go_enter Tryd.func52, Tryd.ntmps52
      go_wp2_with (go_at_call 74; refine (HR.out).mono ?_; rintro e w1 ⟨rfl, rfl⟩)
      go_region
      go_wp2_with fail
      go_region
      go_wp2_with fail
      go_region
      go_wp2_with fail
      go_ret
      have hs1 := heap_setCell_same w b 6 _ 148 (.int .i64 ((l.free : Int) - (c : Int))) HLo.out
      have hs2 := heap_setCell_same _ b 9 _ 148 (.int .i64 ((l.scrapped : Int) + (c : Int))) hs1
      have hcells : ((w.setCell ⟨b, 6, none⟩ (.int .i64 ((l.free : Int) - (c : Int)))).setCell ⟨b, 9, none⟩ (.int .i64 ((l.scrapped : Int) + (c : Int)))).heap[b]? = some (.cells (lotCells (scrapL l c) pv) 148 (0, 0)) := by
        rw [hs2]
        have e1 : ((l.free - c : Nat) : Int) = (l.free : Int) - (c : Int) := by omega
        have e2 : ((l.scrapped + c : Nat) : Int) = (l.scrapped : Int) + (c : Int) := by omega
        simp [lotCells, scrapL, e1, e2]
      refine ⟨?_, by rw [HC.out]; rfl, M, v, bs, pvs, ?_, hin.mono (fun k hk => Or.inl hk)⟩
      · refine Kp.after (Kp.setCell (Kp.setCell (Kp.refl Z w) ?_ _) ?_ _) (((al1 _ _).drew).drew).drew
        · exact Or.inl hZb
        · exact Or.inl hZb
      · rw [HS.out]
        have hset := HP.out.lotset (W := (w.setCell ⟨b, 6, none⟩ (.int .i64 ((l.free : Int) - (c : Int)))).setCell ⟨b, 9, none⟩ (.int .i64 ((l.scrapped : Int) + (c : Int)))) HI.out (l' := scrapL l c) (scrapL_ok HO.out (by omega)) (by rw [HPV.out, ← HB.out]; exact hcells) (fun k _ hne => by
          rw [← HB.out] at hne
          rw [Below.heap_setCell _ _ _ _ hne, Below.heap_setCell _ _ _ _ hne])
        exact hset.below (((al1 _ _).drew).drew).drew
  · have HF : Hid (findV bs ls n = .pointer none) := by unfold Hid findV; rw [if_neg hi]
    have HC : Hid (scrapC ls n c = 4) := by unfold Hid scrapC; rw [if_neg hi]
    have HS : Hid (scrapS ls n c = ls) := by unfold Hid scrapS; rw [HC.out]; rfl
    rw [HF.out] at HR
    have HP := hide hP1
    clear hP hP1 hi HF
    go_enter Tryd.func52, Tryd.ntmps52
    go_wp2_with (go_at_call 74; refine (HR.out).mono ?_; rintro e w1 ⟨rfl, rfl⟩)
    go_ret
    refine ⟨kpB (al1 w _), by rw [HC.out]; rfl, M, v, bs, pvs, ?_, hin.mono (fun k hk => Or.inl hk)⟩
    rw [HS.out]
    exact HP.out

end Go.Proofs.YtcomohmadfnmgaaDoor
