import Derived.Test.YtgcedalggnmooabGreatDoorSt9X
import Derived.LaidEqlPtr
namespace Go.Proofs.YtgcedalggnmooabGreatDoor
set_option linter.unusedSimpArgs false
set_option linter.unusedVariables false
open Go.RowKit
set_option maxRecDepth 100000

theorem bneN_f {a b : Nat} (h : a = b) : ((a : Int) != (b : Int)) = false := by subst h; simp
theorem bneN_t {a b : Nat} (h : ¬ a = b) : ((a : Int) != (b : Int)) = true := by rw [bne_iff_ne]; omega

theorem tU149 : Tryz.prog.underlying 129 = some (.pointer 153) := by kernel_rfl
theorem info148 : (Tryz.prog.info? 153).map (·.size) = some 11 := by kernel_rfl

theorem ptr_same (W : World) (b : Nat) : (binOp .eql 129 (.pointer (some ⟨b, 0, none⟩)) (.pointer (some ⟨b, 0, none⟩))).run Tryz.prog W = .ok (.bool true) W := by
  obtain ⟨j, hj, _⟩ := Option.map_eq_some_iff.1 info148
  exact run_eql_ptr_same W _ tU149 hj
theorem ptr_other {W : World} {a b : Nat} {ca cb : Array Value} {ta tb : TypeId} (hne : a ≠ b) (ha : W.heap[a]? = some (.cells ca ta (0, 0))) (hb : W.heap[b]? = some (.cells cb tb (0, 0))) :
    (binOp .eql 129 (.pointer (some ⟨a, 0, none⟩)) (.pointer (some ⟨b, 0, none⟩))).run Tryz.prog W = .ok (.bool false) W := by
  obtain ⟨j, hj, hs⟩ := Option.map_eq_some_iff.1 info148
  exact run_eql_ptr_other W tU149 hj (by rw [hs]; decide) (fun e => hne (congrArg Addr.block e)) ha hb

set_option maxHeartbeats 1600000 in
theorem merge_goods {rcs : List (Nat × Nat)} {w : World} {S : Nat} {M : Mx} {v : Value} {td : Nat} {bs : List Nat} {pvs : List Value} {ls : List L} {os : List O} (hP : PV os rcs w S M v td bs pvs ls) (a b m : Nat) (h1 : a ≤ 2147483647) (h2 : b ≤ 2147483647) (h3 : m ≤ 2147483647) (hi : idx a ls < ls.length) (hj : idx b ls < ls.length)
    (hx : idx a ls = idx b ls ∨ (lotAt ls a).goods ≠ (lotAt ls b).goods) :
    Calls Tryz.prog 50 #[.pointer (some ⟨S, 0, none⟩), .agg #[.int .i64 (a : Int), .int .i64 (b : Int), .int .i64 (m : Int)]] w fun e w' => e = .returned (.int .i64 8) ∧ Below w.heap.size w w' := by
  have hP1 := hP.below (al1 w (Obj.cells #[.int .i64 (a : Int), .int .i64 (b : Int), .int .i64 (m : Int)] 95)).drew
  have HRA := hide (find_any hP1 a h1)
  have HRB := hide (find_any hP1 b h2)
  have HFA : Hid (findV bs ls a = .pointer (some ⟨bs.getD (idx a ls) 0, 0, none⟩)) := by unfold Hid findV; rw [if_pos hi]
  have HFB : Hid (findV bs ls b = .pointer (some ⟨bs.getD (idx b ls) 0, 0, none⟩)) := by unfold Hid findV; rw [if_pos hj]
  rw [HFA.out] at HRA
  rw [HFB.out] at HRB
  by_cases he : idx a ls = idx b ls
  · rw [he] at HRA
    generalize bs.getD (idx b ls) 0 = bb at *
    have hpq := ptr_same (w.alloc (Obj.cells #[.int .i64 (a : Int), .int .i64 (b : Int), .int .i64 (m : Int)] 95)).drew.drew bb
    clear hP hP1 hi hj hx HFA HFB he
    go_enter Tryz.func50, Tryz.ntmps50
    go_wp2_with fail
    go_region_held3 (fun w' => w'.cell? ⟨w.heap.size, 0, none⟩ = some (.int .i64 (a : Int)) ∧ w'.cell? ⟨w.heap.size, 1, none⟩ = some (.int .i64 (b : Int))) (go_keep) (first
      | (go_at_call 77; with_reducible refine (HRA.out).mono ?_; rintro e w1 ⟨rfl, rfl⟩)
      | (go_at_call 77; with_reducible refine (HRB.out).mono ?_; rintro e w1 ⟨rfl, rfl⟩))
    go_wp2_with fail
    go_region
    go_wp2_with fail
    go_ret
    exact ⟨rfl, (al1 w _).drew.drew⟩
  · have hg := hx.resolve_left he
    have hne := bs_ne hP hi hj he
    have hla := hP.lot _ hi
    have hlb := hP.lot _ hj
    unfold lotAt at hg
    generalize pvs.getD (idx a ls) default = pa at hla
    generalize pvs.getD (idx b ls) default = pb at hlb
    have hoka := hP.ok _ (mem_getD hi)
    have hokb := hP.ok _ (mem_getD hj)
    generalize ls.getD (idx a ls) L0 = la at *
    generalize ls.getD (idx b ls) L0 = lb at *
    generalize bs.getD (idx a ls) 0 = ba at *
    generalize bs.getD (idx b ls) 0 = bb at *
    have hta := blk_lt hla
    have htb := blk_lt hlb
    have ca : w.cell? ⟨ba, 1, none⟩ = some (.int .i64 (la.goods : Int)) := by rw [blk_cell hla]; rfl
    have cb : w.cell? ⟨bb, 1, none⟩ = some (.int .i64 (lb.goods : Int)) := by rw [blk_cell hlb]; rfl
    have hga := hoka.goods
    have hgb := hokb.goods
    have hgb' := bneN_t hg
    have hpq := ptr_other (W := (w.alloc (Obj.cells #[.int .i64 (a : Int), .int .i64 (b : Int), .int .i64 (m : Int)] 95)).drew.drew) hne (((al1 w _).drew.drew.block _ hta).trans hla) (((al1 w _).drew.drew.block _ htb).trans hlb)
    clear hP hP1 hi hj hx HFA HFB he hla hlb hoka hokb hg
    go_enter Tryz.func50, Tryz.ntmps50
    go_wp2_with fail
    go_region_held3 (fun w' => w'.cell? ⟨w.heap.size, 0, none⟩ = some (.int .i64 (a : Int)) ∧ w'.cell? ⟨w.heap.size, 1, none⟩ = some (.int .i64 (b : Int))) (go_keep) (first
      | (go_at_call 77; with_reducible refine (HRA.out).mono ?_; rintro e w1 ⟨rfl, rfl⟩)
      | (go_at_call 77; with_reducible refine (HRB.out).mono ?_; rintro e w1 ⟨rfl, rfl⟩))
    go_wp2_with fail
    go_region
    go_wp2_with fail
    go_ret
    exact ⟨rfl, (al1 w _).drew.drew⟩

set_option maxHeartbeats 1600000 in
theorem merge_late {rcs : List (Nat × Nat)} {w : World} {S : Nat} {M : Mx} {v : Value} {td : Nat} {bs : List Nat} {pvs : List Value} {ls : List L} {os : List O} (hP : PV os rcs w S M v td bs pvs ls) (a b m : Nat) (h1 : a ≤ 2147483647) (h2 : b ≤ 2147483647) (h3 : m ≤ 2147483647) (hi : idx a ls < ls.length) (hj : idx b ls < ls.length)
    (he : idx a ls ≠ idx b ls) (hg : (lotAt ls a).goods = (lotAt ls b).goods) (rc : Nat) (hrc : 0 < rc)
    (hx : (roomC ls m ≠ 0 ∧ rc = roomC ls m) ∨ (roomC ls m = 0 ∧ (lotAt ls a).free + (lotAt ls b).free = 0 ∧ rc = 7) ∨ (roomC ls m = 0 ∧ 2147483647 < (lotAt ls a).free + (lotAt ls b).free ∧ rc = 2)) :
    Calls Tryz.prog 50 #[.pointer (some ⟨S, 0, none⟩), .agg #[.int .i64 (a : Int), .int .i64 (b : Int), .int .i64 (m : Int)]] w fun e w' => e = .returned (.int .i64 (rc : Int)) ∧ Below w.heap.size w w' := by
  have hP1 := hP.below (al1 w (Obj.cells #[.int .i64 (a : Int), .int .i64 (b : Int), .int .i64 (m : Int)] 95)).drew
  have HRA := hide (find_any hP1 a h1)
  have HRB := hide (find_any hP1 b h2)
  have HM := hide (room_any (hP1.below (Below.refl _ _).drew) m h3)
  have hrle := roomC_le ls m
  have HFA : Hid (findV bs ls a = .pointer (some ⟨bs.getD (idx a ls) 0, 0, none⟩)) := by unfold Hid findV; rw [if_pos hi]
  have HFB : Hid (findV bs ls b = .pointer (some ⟨bs.getD (idx b ls) 0, 0, none⟩)) := by unfold Hid findV; rw [if_pos hj]
  rw [HFA.out] at HRA
  rw [HFB.out] at HRB
  have hne := bs_ne hP hi hj he
  have hla := hP.lot _ hi
  have hlb := hP.lot _ hj
  unfold lotAt at hg hx
  generalize pvs.getD (idx a ls) default = pa at hla
  generalize pvs.getD (idx b ls) default = pb at hlb
  have hoka := hP.ok _ (mem_getD hi)
  have hokb := hP.ok _ (mem_getD hj)
  generalize ls.getD (idx a ls) L0 = la at *
  generalize ls.getD (idx b ls) L0 = lb at *
  generalize bs.getD (idx a ls) 0 = ba at *
  generalize bs.getD (idx b ls) 0 = bb at *
  have hta := blk_lt hla
  have htb := blk_lt hlb
  have ca : w.cell? ⟨ba, 1, none⟩ = some (.int .i64 (la.goods : Int)) := by rw [blk_cell hla]; rfl
  have cb : w.cell? ⟨bb, 1, none⟩ = some (.int .i64 (lb.goods : Int)) := by rw [blk_cell hlb]; rfl
  have ca6 : w.cell? ⟨ba, 6, none⟩ = some (.int .i64 (la.free : Int)) := by rw [blk_cell hla]; rfl
  have cb6 : w.cell? ⟨bb, 6, none⟩ = some (.int .i64 (lb.free : Int)) := by rw [blk_cell hlb]; rfl
  have hga := hoka.goods
  have hgb := hokb.goods
  have hfa : la.free ≤ 2147483647 := by have := hoka.sum; omega
  have hfb : lb.free ≤ 2147483647 := by have := hokb.sum; omega
  have hgb' := bneN_f hg
  have hpq := ptr_other (W := (w.alloc (Obj.cells #[.int .i64 (a : Int), .int .i64 (b : Int), .int .i64 (m : Int)] 95)).drew.drew) hne (((al1 w _).drew.drew.block _ hta).trans hla) (((al1 w _).drew.drew.block _ htb).trans hlb)
  generalize roomC ls m = r at *
  clear hP hP1 hi hj HFA HFB he hla hlb hoka hokb hg
  rcases hx with ⟨hr, rfl⟩ | ⟨rfl, hz, rfl⟩ | ⟨rfl, hz, rfl⟩
  · have hrb : ((rc : Int) != 0) = true := by rw [bne_iff_ne]; omega
    go_enter Tryz.func50, Tryz.ntmps50
    go_wp2_with fail
    go_region_held3 (fun w' => w'.cell? ⟨w.heap.size, 0, none⟩ = some (.int .i64 (a : Int)) ∧ w'.cell? ⟨w.heap.size, 1, none⟩ = some (.int .i64 (b : Int))) (go_keep) (first
      | (go_at_call 77; with_reducible refine (HRA.out).mono ?_; rintro e w1 ⟨rfl, rfl⟩)
      | (go_at_call 77; with_reducible refine (HRB.out).mono ?_; rintro e w1 ⟨rfl, rfl⟩))
    go_wp2_with fail
    go_region
    go_wp2_with (go_at_call 75; refine (HM.out).mono ?_; rintro e w1 ⟨rfl, rfl⟩)
    go_ret
    exact ⟨rfl, (al1 w _).drew.drew⟩
  · have hzb : (((la.free : Int) + (lb.free : Int)) == 0) = true := by rw [beq_iff_eq]; omega
    go_enter Tryz.func50, Tryz.ntmps50
    go_wp2_with fail
    go_region_held3 (fun w' => w'.cell? ⟨w.heap.size, 0, none⟩ = some (.int .i64 (a : Int)) ∧ w'.cell? ⟨w.heap.size, 1, none⟩ = some (.int .i64 (b : Int))) (go_keep) (first
      | (go_at_call 77; with_reducible refine (HRA.out).mono ?_; rintro e w1 ⟨rfl, rfl⟩)
      | (go_at_call 77; with_reducible refine (HRB.out).mono ?_; rintro e w1 ⟨rfl, rfl⟩))
    go_wp2_with fail
    go_region
    go_wp2_with (go_at_call 75; refine (HM.out).mono ?_; rintro e w1 ⟨rfl, rfl⟩)
    go_region
    go_wp2_with fail
    go_ret
    exact ⟨rfl, (al1 w _).drew.drew.drew⟩
  · have hzb : (((la.free : Int) + (lb.free : Int)) == 0) = false := by rw [beq_eq_false_iff_ne]; omega
    go_enter Tryz.func50, Tryz.ntmps50
    go_wp2_with fail
    go_region_held3 (fun w' => w'.cell? ⟨w.heap.size, 0, none⟩ = some (.int .i64 (a : Int)) ∧ w'.cell? ⟨w.heap.size, 1, none⟩ = some (.int .i64 (b : Int))) (go_keep) (first
      | (go_at_call 77; with_reducible refine (HRA.out).mono ?_; rintro e w1 ⟨rfl, rfl⟩)
      | (go_at_call 77; with_reducible refine (HRB.out).mono ?_; rintro e w1 ⟨rfl, rfl⟩))
    go_wp2_with fail
    go_region
    go_wp2_with (go_at_call 75; refine (HM.out).mono ?_; rintro e w1 ⟨rfl, rfl⟩)
    go_region
    go_wp2_with fail
    go_ret
    exact ⟨rfl, (al1 w _).drew.drew.drew⟩

end Go.Proofs.YtgcedalggnmooabGreatDoor
