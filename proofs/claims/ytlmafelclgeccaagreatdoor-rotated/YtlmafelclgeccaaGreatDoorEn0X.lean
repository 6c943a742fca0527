import Derived.Test.YtlmafelclgeccaaGreatDoorOd4X
import Derived.WalkSmall
namespace Go.Proofs.YtlmafelclgeccaaGreatDoor
set_option linter.unusedSimpArgs false
set_option linter.unusedVariables false
open Go.RowKit
set_option maxRecDepth 100000

/-- What an order's end takes of a lot's Held. -/
def endL (os : List O) (a : Nat) (l : L) : L := { l with held := l.held - (lineOf os a l.id).getD 0 }
def endN (os : List O) (a : Nat) (ls : List L) (i : Nat) : List L := (ls.take i).map (endL os a) ++ ls.drop i
/-- The order's lines by the lots' places. -/
def endQ (os : List O) (a : Nat) (ls : List L) (i : Nat) : List (Nat × Nat) := (List.range i).filterMap fun j => (lineOf os a (ls.getD j L0).id).map fun n => (j, n)
/-- The orders, without what the first lots gave. -/
def endO (os : List O) (a : Nat) (ls : List L) (i : Nat) : List O := (ls.take i).foldl (fun os l => delLine os a l.id) os

theorem endN_len (os : List O) (a : Nat) (ls : List L) (i : Nat) : (endN os a ls i).length = ls.length := by simp [endN]; omega
theorem endN_get {os : List O} {a : Nat} {ls : List L} {i : Nat} (hi : i < ls.length) : (endN os a ls i).getD i L0 = ls.getD i L0 := by
  unfold endN
  rw [List.getD_eq_getElem?_getD, List.getElem?_append_right (by simp; omega), List.getElem?_drop]
  simp [List.getD_eq_getElem?_getD, Nat.min_eq_left (Nat.le_of_lt hi)]
theorem endN_succ {os : List O} {a : Nat} {ls : List L} {i : Nat} (hi : i < ls.length) : endN os a ls (i + 1) = (endN os a ls i).set i (endL os a (ls.getD i L0)) := by
  unfold endN
  have e1 : ls.take (i + 1) = ls.take i ++ [ls.getD i L0] := by rw [List.take_succ_eq_append_getElem hi]; simp [List.getD_eq_getElem?_getD, hi]
  have e2 : ls.drop i = ls.getD i L0 :: ls.drop (i + 1) := by rw [List.drop_eq_getElem_cons hi]; simp [List.getD_eq_getElem?_getD, hi]
  rw [e1, e2, List.set_append_right _ _ (by simp; omega)]
  simp [Nat.min_eq_left (Nat.le_of_lt hi)]
theorem endN_all (os : List O) (a : Nat) (ls : List L) : endN os a ls ls.length = ls.map (endL os a) := by simp [endN]
theorem endQ_hit {os : List O} {a : Nat} {ls : List L} {i n : Nat} (h : lineOf os a (ls.getD i L0).id = some n) : endQ os a ls (i + 1) = endQ os a ls i ++ [(i, n)] := by
  unfold endQ; rw [List.range_succ, List.filterMap_append]
  have e : List.filterMap (fun j => (lineOf os a (ls.getD j L0).id).map fun n => (j, n)) [i] = [(i, n)] := by simp only [List.filterMap, h, Option.map_some]
  rw [e]
theorem endQ_miss {os : List O} {a : Nat} {ls : List L} {i : Nat} (h : lineOf os a (ls.getD i L0).id = none) : endQ os a ls (i + 1) = endQ os a ls i := by
  unfold endQ; rw [List.range_succ, List.filterMap_append]
  have e : List.filterMap (fun j => (lineOf os a (ls.getD j L0).id).map fun n => (j, n)) [i] = [] := by simp only [List.filterMap, h, Option.map_none]
  rw [e, List.append_nil]
theorem endQ_len (os : List O) (a : Nat) (ls : List L) (i : Nat) : (endQ os a ls i).length ≤ i := by
  have := List.length_filterMap_le (fun j => (lineOf os a (ls.getD j L0).id).map fun n => (j, n)) (List.range i)
  simpa [endQ] using this
theorem endQ_mem {os : List O} {a : Nat} {ls : List L} {i : Nat} {p : Nat × Nat} (h : p ∈ endQ os a ls i) : p.1 < i ∧ lineOf os a (ls.getD p.1 L0).id = some p.2 := by
  unfold endQ at h
  obtain ⟨j, hj, he⟩ := List.mem_filterMap.1 h
  cases hl : lineOf os a (ls.getD j L0).id with
  | none => rw [hl] at he; cases he
  | some n => rw [hl] at he; cases he; exact ⟨by simpa using hj, hl⟩
theorem endQ_fst (os : List O) (a : Nat) (ls : List L) : ∀ i, ((endQ os a ls i).map Prod.fst).Nodup
  | 0 => by simp [endQ]
  | i + 1 => by
    cases h : lineOf os a (ls.getD i L0).id with
    | none => rw [endQ_miss h]; exact endQ_fst os a ls i
    | some n =>
      rw [endQ_hit h, List.map_append]
      refine List.nodup_append.2 ⟨endQ_fst os a ls i, by simp, ?_⟩
      intro x hx y hy e
      obtain ⟨p, hp, rfl⟩ := List.mem_map.1 hx
      have := (endQ_mem hp).1
      simp at hy
      omega
theorem endO_succ {os : List O} {a : Nat} {ls : List L} {i : Nat} (hi : i < ls.length) : endO os a ls (i + 1) = delLine (endO os a ls i) a (ls.getD i L0).id := by
  unfold endO
  have e1 : ls.take (i + 1) = ls.take i ++ [ls.getD i L0] := by rw [List.take_succ_eq_append_getElem hi]; simp [List.getD_eq_getElem?_getD, hi]
  rw [e1, List.foldl_append]; rfl

theorem delLine_ids (os : List O) (a b : Nat) : (delLine os a b).map O.id = os.map O.id := by
  unfold delLine; rw [List.map_map]; congr 1; funext o; exact delO_id a b o
theorem delLine_keys {os : List O} {a b : Nat} (h : ∀ o ∈ os, (o.lines.map Prod.fst).Nodup) : ∀ o ∈ delLine os a b, (o.lines.map Prod.fst).Nodup := by
  intro o ho
  obtain ⟨o', ho', rfl⟩ := List.mem_map.1 ho
  unfold delO
  split
  · exact (h o' ho').sublist ((List.filter_sublist (l := o'.lines)).map _)
  · exact h o' ho'

/-- What holds of the orders while one is taken away. -/
structure Mid (os : List O) (a : Nat) (ls : List L) (i : Nat) : Prop where
  ids : ((endO os a ls i).map O.id) = os.map O.id
  keys : ∀ o ∈ endO os a ls i, (o.lines.map Prod.fst).Nodup
  line : ∀ a' b', lineOf (endO os a ls i) a' b' = if a' = a ∧ (∃ j, j < i ∧ (ls.getD j L0).id = b') then none else lineOf os a' b'

theorem mid {os : List O} {ls : List L} (hk : ∀ o ∈ os, (o.lines.map Prod.fst).Nodup) (a : Nat) : ∀ i, i ≤ ls.length → Mid os a ls i
  | 0, _ => ⟨by simp [endO], by simpa [endO] using hk, fun a' b' => by simp [endO]⟩
  | i + 1, h => by
    have ih := mid (ls := ls) hk a i (by omega)
    have e := endO_succ (os := os) (a := a) (show i < ls.length by omega)
    refine ⟨by rw [e, delLine_ids]; exact ih.ids, by rw [e]; exact delLine_keys ih.keys, fun a' b' => ?_⟩
    rw [e, lineOf_del, ih.line]
    by_cases h1 : a' = a ∧ b' = (ls.getD i L0).id
    · rw [if_pos h1, if_pos ⟨h1.1, i, by omega, h1.2.symm⟩]
    · rw [if_neg h1]
      by_cases h2 : a' = a ∧ ∃ j, j < i ∧ (ls.getD j L0).id = b'
      · obtain ⟨q1, j, q2, q3⟩ := h2
        rw [if_pos ⟨q1, j, q2, q3⟩, if_pos ⟨q1, j, by omega, q3⟩]
      · rw [if_neg h2, if_neg]
        rintro ⟨q1, j, q2, q3⟩
        by_cases hj : j = i
        · subst hj; exact h1 ⟨q1, q3.symm⟩
        · exact h2 ⟨q1, j, by omega, q3⟩

theorem filter_none {b : Nat} : ∀ {l : List (Nat × Nat)}, l.lookup b = none → l.filter (fun p => p.1 != b) = l
  | [], _ => rfl
  | (x, y) :: l, h => by
    have hx : b ∉ ((x, y) :: l).map Prod.fst := lookup_none_iff.1 h
    simp only [List.map_cons, List.mem_cons, not_or] at hx
    have hb : (x != b) = true := by simp; exact fun e => hx.1 e.symm
    simp only [List.filter, hb]
    rw [filter_none (lookup_none_iff.2 hx.2)]
theorem find_self {os : List O} (hn : (os.map O.id).Nodup) {o : O} (ho : o ∈ os) : os.find? (fun o' => o'.id == o.id) = some o := by
  induction os with
  | nil => simp at ho
  | cons x os ih =>
    simp only [List.map_cons, List.nodup_cons] at hn
    rcases List.mem_cons.1 ho with rfl | h
    · simp
    · have hne : (x.id == o.id) = false := by
        rw [beq_eq_false_iff_ne]; intro e; exact hn.1 (by rw [e]; exact List.mem_map_of_mem h)
      simp only [List.find?, hne]; exact ih hn.2 h
theorem delLine_none {os : List O} (hn : (os.map O.id).Nodup) {a b : Nat} (h : lineOf os a b = none) : delLine os a b = os := by
  unfold delLine
  conv => rhs; rw [← List.map_id os]
  apply List.map_congr_left
  intro o ho
  unfold delO
  split
  · rename_i hid
    have hf := find_self hn ho
    rw [hid] at hf
    have hl : o.lines.lookup b = none := by unfold lineOf at h; rw [hf] at h; simpa using h
    rw [filter_none hl]; rfl
  · rfl

/-- All lines of the order are gone. -/
theorem end_lines {os : List O} {ls : List L} (hg : Good os ls) (a : Nat) : ∀ o ∈ endO os a ls ls.length, o.id = a → o.lines = [] := by
  intro o ho hid
  have hm := mid hg.keys a ls.length (Nat.le_refl _)
  have hn : ((endO os a ls ls.length).map O.id).Nodup := by rw [hm.ids]; exact hg.oids
  have hf := find_self hn ho
  have hnone : ∀ b, o.lines.lookup b = none := fun b => by
    have hl := hm.line a b
    have e : lineOf (endO os a ls ls.length) a b = o.lines.lookup b := by unfold lineOf; rw [hid] at hf; rw [hf]; rfl
    rw [e] at hl
    rw [hl]
    by_cases hc : ∃ j, j < ls.length ∧ (ls.getD j L0).id = b
    · rw [if_pos ⟨rfl, hc⟩]
    · rw [if_neg (fun q => hc q.2)]
      unfold lineOf
      cases hfo : os.find? (fun o => o.id == a) with
      | none => rfl
      | some o' =>
        simp only [Option.bind_some]
        rw [lookup_none_iff]
        intro hmem
        obtain ⟨p, hp, hpe⟩ := List.mem_map.1 hmem
        obtain ⟨j, hj, hje⟩ := hg.mem o' (List.mem_of_find?_eq_some hfo) p hp
        exact hc ⟨j, hj, by rw [hje, hpe]⟩
  cases hl : o.lines with
  | nil => rfl
  | cons p r =>
    have := hnone p.1
    rw [hl] at this
    simp [List.lookup] at this

theorem filter_delLine (os : List O) (a b : Nat) : (delLine os a b).filter (fun o => o.id != a) = os.filter (fun o => o.id != a) := by
  induction os with
  | nil => rfl
  | cons o os ih =>
    have ih' : (os.map (delO a b)).filter (fun o => o.id != a) = os.filter (fun o => o.id != a) := ih
    simp only [delLine, List.map_cons, List.filter, delO_id]
    by_cases h : o.id = a
    · simp [h, ih']
    · have hb : (o.id != a) = true := by simp [h]
      have hd : delO a b o = o := by unfold delO; rw [if_neg h]
      simp [hb, ih', hd]
theorem endO_filter (os : List O) (a : Nat) (ls : List L) : ∀ i, i ≤ ls.length → (endO os a ls i).filter (fun o => o.id != a) = os.filter (fun o => o.id != a)
  | 0, _ => by simp [endO]
  | i + 1, h => by rw [endO_succ (by omega), filter_delLine, endO_filter os a ls i (by omega)]

theorem find_filter {a a' : Nat} (ha : ¬ a' = a) : ∀ os : List O, (os.filter (fun o => o.id != a)).find? (fun o => o.id == a') = os.find? (fun o => o.id == a')
  | [] => rfl
  | o :: os => by
    by_cases ho : o.id = a
    · have h1 : (o.id != a) = false := by simp [ho]
      have h2 : (o.id == a') = false := by simp; omega
      simp only [List.filter, List.find?, h1, h2]
      exact find_filter ha os
    · have h2 : (o.id != a) = true := by simp [ho]
      simp only [List.filter, h2, List.find?]
      cases hq : o.id == a' with
      | true => rfl
      | false => exact find_filter ha os
theorem any_filter {a n : Nat} (ha : ¬ n = a) : ∀ os : List O, os.any (fun o => o.id == n) = (os.filter (fun o => o.id != a)).any (fun o => o.id == n)
  | [] => rfl
  | o :: os => by
    by_cases ho : o.id = a
    · have h1 : (o.id != a) = false := by simp [ho]
      have h3 : (o.id == n) = false := by simp; omega
      simp only [List.any_cons, h3, Bool.false_or, List.filter, h1]
      exact any_filter ha os
    · have h2 : (o.id != a) = true := by simp [ho]
      simp only [List.any_cons, List.filter, h2]
      rw [any_filter ha os]

theorem HD.final {os : List O} {D : DataW Unit} (h : HD os D) {a : Nat} (he : ∀ o ∈ os, o.id = a → o.lines = []) : HD (os.filter (fun o => o.id != a)) D := by
  have hl : ∀ a' b', lineOf (os.filter (fun o => o.id != a)) a' b' = lineOf os a' b' := fun a' b' => by
    unfold lineOf
    by_cases ha : a' = a
    · subst ha
      have h1 : (os.filter (fun o => o.id != a')).find? (fun o => o.id == a') = none := by
        rw [List.find?_eq_none]; intro o ho hq
        have := List.mem_filter.1 ho
        simp at this hq
        exact this.2 hq
      rw [h1]
      cases hf : os.find? (fun o => o.id == a') with
      | none => rfl
      | some o =>
        have := he o (List.mem_of_find?_eq_some hf) (by simpa using List.find?_some hf)
        simp [this, List.lookup]
    · rw [find_filter ha]
  have hn : nLines (os.filter (fun o => o.id != a)) = nLines os := by
    clear h hl
    induction os with
    | nil => rfl
    | cons o os ih =>
      have ih' := ih (fun o' h' => he o' (by simp [h']))
      by_cases ho : o.id = a
      · have := he o (by simp) ho
        simp only [List.filter, ho, bne_self_eq_false]
        rw [ih']; simp [nLines, this]
      · have h2 : (o.id != a) = true := by simp [ho]
        simp only [List.filter, h2, nLines, List.map_cons, List.sum_cons] at ih' ⊢
        rw [ih']
  exact ⟨by rw [h.size, hn], fun a' b' h1 h2 => by rw [hl]; exact h.has a' b' h1 h2, fun a' b' h1 h2 => by rw [hl]; exact h.val a' b' h1 h2⟩

theorem OD.del {os : List O} {D : DataW Unit} (h : OD os D) (ht : Maps.Tidy D) (hn : (os.map O.id).Nodup) {a : Nat} (ha : a ≤ 2147483647) (hin : os.any (fun o => o.id == a) = true) : OD (os.filter (fun o => o.id != a)) (D.del (okey a)) := by
  have hlen : ∀ (os : List O), (os.map O.id).Nodup → (os.filter (fun o => o.id != a)).length + (if os.any (fun o => o.id == a) then 1 else 0) = os.length := by
    intro os
    induction os with
    | nil => intro _; rfl
    | cons o os ih =>
      intro hn
      simp only [List.map_cons, List.nodup_cons] at hn
      have ih' := ih hn.2
      by_cases ho : o.id = a
      · have hno : os.any (fun o => o.id == a) = false := by
          rw [List.any_eq_false]; intro x hx hq; exact hn.1 (by rw [ho]; have : x.id = a := by simpa using hq
                                                                rw [← this]; exact List.mem_map_of_mem hx)
        rw [hno] at ih'
        simp only [List.filter, ho, bne_self_eq_false, List.any_cons, beq_self_eq_true, Bool.true_or, if_true, List.length_cons]
        simp at ih'
        simpa using ih'
      · have h2 : (o.id != a) = true := by simp [ho]
        have h3 : (o.id == a) = false := by simp [ho]
        simp only [List.filter, h2, List.any_cons, h3, Bool.false_or, List.length_cons]
        omega
  refine ⟨?_, fun n hq => ?_⟩
  · have q1 := Maps.size_del (k := okey a) ht
    rw [h.has a ha, hin, h.size] at q1
    have q2 := hlen os hn
    rw [hin] at q2
    simp only [if_true] at q1 q2
    omega
  · by_cases e : n = a
    · subst e
      rw [Maps.has_del_same, eq_comm, List.any_eq_false]
      intro o ho hc
      have := (List.mem_filter.1 ho).2
      simp at this hc
      exact this hc
    · rw [Maps.has_del_other (fun q => e (okey_inj q)), h.has n hq]
      exact any_filter e os

end Go.Proofs.YtlmafelclgeccaaGreatDoor

namespace Go.Proofs.YtlmafelclgeccaaGreatDoor
set_option linter.unusedSimpArgs false
set_option linter.unusedVariables false
open Go.RowKit
set_option maxRecDepth 100000

theorem heldBy_le_sum {os : List O} {o : O} (ho : o ∈ os) (b : Nat) : heldBy o b ≤ heldSum os b := by
  induction os with
  | nil => simp at ho
  | cons x os ih =>
    simp only [heldSum, List.map_cons, List.sum_cons] at ih ⊢
    rcases List.mem_cons.1 ho with rfl | h
    · omega
    · have := ih h; omega
theorem line_le {os : List O} {a b n : Nat} (h : lineOf os a b = some n) : n ≤ heldSum os b := by
  unfold lineOf at h
  cases hf : os.find? (fun o => o.id == a) with
  | none => rw [hf] at h; cases h
  | some o =>
    rw [hf] at h
    simp only [Option.bind_some] at h
    have := heldBy_le_sum (List.mem_of_find?_eq_some hf) b
    unfold heldBy at this
    rw [h] at this
    simpa using this
theorem endL_ok {l : L} (h : L.Ok l) (os : List O) (a : Nat) : L.Ok (endL os a l) := ⟨h.id, h.goods, h.expiry, h.place, (by have := h.sum; show l.free + (l.held - (lineOf os a l.id).getD 0) + l.shipped + l.scrapped + l.given ≤ 2147483647; omega), h.got, h.par⟩
theorem turned_kp {Z : Nat → Prop} {w w' : World} {b : Nat} (h : w.mapTurned w' b) (hz : Z b) : Kp Z w w' := grown_kp h.grown hz

/-- Neither maps nor what the store is made of have turned. -/
theorem PV.cellsTo {rcs : List (Nat × Nat)} {w w' : World} {S : Nat} {M : Mx} {v : Value} {td : Nat} {bs : List Nat} {pvs : List Value} {ls : List L} {os : List O} (h : PV os rcs w S M v td bs pvs ls) (hc : ∀ (b : Nat) (cs : Array Value) (t : TypeId), w.heap[b]? = some (.cells cs t (0, 0)) → t ≠ 212 → w'.heap[b]? = w.heap[b]?) (hm : ∀ (b : Nat) (es : Array MapEntry) (c : Nat), w.heap[b]? = some (.map es c) → w'.heap[b]? = w.heap[b]?) : PV os rcs w' S M v td bs pvs ls where
  store := (hc _ _ _ h.store (by decide)).trans h.store
  maps := h.maps.congr hm
  row := own_congr h.row (fun g hg => by obtain ⟨cs, hcs⟩ := own_ty h.row hg; exact hc _ _ _ hcs (by decide))
  len := h.len
  plen := h.plen
  lot := fun i hi => (hc _ _ _ (h.lot i hi) (by decide)).trans (h.lot i hi)
  par := fun i hi => (h.par i hi).congr (fun q hq' => by
    obtain ⟨cs, h3⟩ := (h.par i hi).blk hq'
    exact hc _ _ _ h3 (by decide))
  nodup := h.nodup
  today := h.today
  ok := h.ok
  room := h.room

set_option maxHeartbeats 3200000 in
theorem end_any {rcs : List (Nat × Nat)} {w : World} {S : Nat} {M : Mx} {v : Value} {td : Nat} {bs : List Nat} {pvs : List Value} {ls : List L} {os : List O} (h : PV os rcs w S M v td bs pvs ls) (hgo : Good os ls) (a : Nat) (ha : a ≤ 2147483647) (hany : os.any (fun o => o.id == a) = true) :
    Calls Tryz.prog 129 #[.pointer (some ⟨S, 0, none⟩), .int .i64 (a : Int)] w fun e w' => Kp (fun k => k = M.o ∨ k = M.h ∨ k ∈ bs) w w' ∧ PV (os.filter (fun o => o.id != a)) rcs w' S M v td bs pvs (ls.map (endL os a)) ∧ ∃ lv, e = .returned lv ∧ w'.ownsRow 0 212 2 lv (endQ os a ls ls.length).length (lineCells bs (endQ os a ls ls.length)) := by
  obtain ⟨i0, hi, hz0, hz1, hz2⟩ := info_parts infoLine
  obtain ⟨va, vcap, hv, _⟩ := h.shape
  have c1 := h.c1
  rw [hv] at c1
  have hroom := h.room
  have HV := hide hv
  have HP0 := hide h
  have HGO := hide hgo
  have HANY := hide hany
  clear h hgo hany hv
  go_enter Tryz.func129, Tryz.ntmps129
  go_wp2_with fail
  go_loopw [5, 7, 8, 9, 10, 16] (fun lv _ _ _ _ ii wr => ∃ k : Nat, ii = .int .i64 k ∧ k ≤ ls.length ∧ Kp (fun k => k = M.o ∨ k = M.h ∨ k ∈ bs) w wr ∧ PV (endO os a ls k) rcs wr S M v td bs pvs (endN os a ls k) ∧ wr.ownsRow w.heap.size 212 2 lv (endQ os a ls k).length (lineCells bs (endQ os a ls k))) (fun _ _ _ _ _ ii _ => ls.length - (intOf ii).toNat)
  case atStart => exact ⟨0, rfl, by omega, Kp.refl _ _, by simpa [endO, endN] using HP0.out, World.ownsRow_nil _ _ _ _⟩
  case round =>
    clear HP0 c1
    obtain ⟨k, rfl, hk, hkp, hP, hown⟩ := hrel
    obtain ⟨la, lcap, hlv⟩ := own_shapeS hown
    subst hlv
    by_cases hlt : k < ls.length
    · obtain ⟨va', vcap', hv', hcells⟩ := hP.shape
      rw [endN_len] at hv' hcells
      rw [HV.out] at hv'
      cases hv'
      obtain ⟨G, rfl, hcl⟩ := hcells (by omega)
      have hck := hcl k hlt
      have hlot := hP.lot k (by rw [endN_len]; exact hlt)
      rw [endN_get hlt] at hlot
      have hok := hP.ok _ (mem_getD (k := k) (by rw [endN_len]; exact hlt))
      rw [endN_get hlt] at hok
      have hbmem : bs.getD k 0 ∈ bs := getD_mem_nat (by rw [hP.len, endN_len]; exact hlt)
      have hline : lineOf (endO os a ls k) a (ls.getD k L0).id = lineOf os a (ls.getD k L0).id := by
        rw [(mid HGO.out.keys a k (by omega)).line, if_neg]
        rintro ⟨_, j, hj, he⟩
        have := HGO.out.ids j k (by omega) hlt he
        omega
      have hheld := HGO.out.held k hlt
      have hid := hok.id
      have hsum := hok.sum
      have hS3 := hP.c3
      obtain ⟨Dh, hDh, hHD⟩ := hP.maps.h
      have hB := al1 wr (.cells #[.int .i64 (a : Int), .int .i64 ((ls.getD k L0).id : Int)] 229)
      have hbox := heap_alloc_new wr (.cells #[.int .i64 (a : Int), .int .i64 ((ls.getD k L0).id : Int)] 229)
      have hlk := look_h (w := (wr.alloc (.cells #[.int .i64 (a : Int), .int .i64 ((ls.getD k L0).id : Int)] 229)).drew) (owns_congr hDh (hB.block M.h (World.ownsMap.lt hDh))) hHD a (ls.getD k L0).id ha hid
      rw [hline] at hlk
      cases hl : lineOf os a (ls.getD k L0).id with
      | none =>
        rw [hl] at hlk
        have hE1 : endO os a ls (k + 1) = endO os a ls k := by
          rw [endO_succ hlt]
          exact delLine_none (by rw [(mid HGO.out.keys a k (by omega)).ids]; exact HGO.out.oids) (by rw [hline]; exact hl)
        have hE2 : endN os a ls (k + 1) = endN os a ls k := by
          rw [endN_succ hlt]
          have e : endL os a (ls.getD k L0) = (endN os a ls k).getD k L0 := by
            rw [endN_get hlt]; unfold endL; rw [hl]; rfl
          rw [e]
          apply List.ext_getElem?
          intro j
          by_cases hj : j = k
          · subst hj; simp [List.getD_eq_getElem?_getD, endN_len, hlt]
          · simp [List.getElem?_set, Ne.symm hj]
        have HP1 : Hid (PV (endO os a ls (k + 1)) rcs (wr.alloc (.cells #[.int .i64 (a : Int), .int .i64 ((ls.getD k L0).id : Int)] 229)).drew S M v td bs pvs (endN os a ls (k + 1))) := by
          unfold Hid; rw [hE1, hE2]; exact hP.below hB.drew
        have HO1 : Hid ((wr.alloc (.cells #[.int .i64 (a : Int), .int .i64 ((ls.getD k L0).id : Int)] 229)).drew.ownsRow w.heap.size 212 2 (.slice la (endQ os a ls k).length lcap) (endQ os a ls (k + 1)).length (lineCells bs (endQ os a ls (k + 1)))) := by
          unfold Hid; rw [endQ_miss hl]; exact own_below hown hB.drew
        have HK1 := hide (hkp.after hB.drew)
        have c0 : wr.cell? ⟨bs.getD k 0, 0, none⟩ = some (.int .i64 ((ls.getD k L0).id : Int)) := by rw [blk_cell hlot]; rfl
        have x0 : (wr.alloc (.cells #[.int .i64 (a : Int), .int .i64 ((ls.getD k L0).id : Int)] 229)).cell? ⟨wr.heap.size, 0, none⟩ = some (.int .i64 (a : Int)) := by rw [blk_cell hbox]; rfl
        have x1 : (wr.alloc (.cells #[.int .i64 (a : Int), .int .i64 ((ls.getD k L0).id : Int)] 229)).cell? ⟨wr.heap.size, 1, none⟩ = some (.int .i64 ((ls.getD k L0).id : Int)) := by rw [blk_cell hbox]; rfl
        have xS : (wr.alloc (.cells #[.int .i64 (a : Int), .int .i64 ((ls.getD k L0).id : Int)] 229)).cell? ⟨S, 3, none⟩ = some (.map (some M.h)) := (hB.cell (by exact blk_lt hP.store)).trans hS3
        generalize (ls.getD k L0).id = idk at *
        generalize bs.getD k 0 = bk at *
        generalize (endQ os a ls k).length = ql at *
        clear hcl hlot hok hbmem hline hheld hsum hDh hHD hl hE1 hE2 hP hown hkp hbox hB hS3
        go_wp2_with fail
        generalize (wr.alloc (.cells #[.int .i64 (a : Int), .int .i64 (idk : Int)] 229)) = wb at *
        go_region
        go_wp2_with fail
        go_roundw
        case rel => exact ⟨k + 1, by go_num, by omega, HK1.out, HP1.out, HO1.out⟩
        case measure => simp [intOf]; omega
      | some n =>
        rw [hl] at hlk
        have hn : n ≤ (ls.getD k L0).held := by rw [hheld]; exact line_le hl
        have hm := hP.maps
        have hDh1 : OwnsH (wr.alloc (.cells #[.int .i64 (a : Int), .int .i64 ((ls.getD k L0).id : Int)] 229)).drew.drew M.h (Maps.size Dh) Dh := owns_congr hDh (hB.block M.h (World.ownsMap.lt hDh))
        obtain ⟨w4, hrun, hown4, hturn⟩ := World.ownsMap.drop hDh1 kHold tUHm (key_h ha hid) 0
        have hgr4 := hturn.grown
        have htid : Maps.Tidy Dh := World.ownsMap.tidy hDh kHold
        have hmid := mid (ls := ls) HGO.out.keys a k (by omega)
        have hHD4 := hHD.del htid ha hid (by rw [hmid.ids]; exact HGO.out.oids) hmid.keys
        rw [← endO_succ hlt] at hHD4
        have hP1 := hP.below hB.drew.drew
        have hM4 : Mp (endO os a ls (k + 1)) rcs w4 M := by
          have hm1 := hP1.maps
          obtain ⟨Dr, hDr, hRDr⟩ := hm1.r
          obtain ⟨Do, hDo, hOD⟩ := hm1.o
          refine ⟨⟨Dr, owns_congr hDr (hgr4.block M.r (World.ownsMap.lt hDr) (fun e => hm.rh (Option.some.inj e))), hRDr⟩, hm.rc, ⟨Do, owns_congr hDo (hgr4.block M.o (World.ownsMap.lt hDo) (fun e => hm.oh (Option.some.inj e))), ⟨?_, ?_⟩⟩, ⟨_, owns_exact hown4, hHD4⟩, hm.ro, hm.rh, hm.oh⟩
          · rw [hOD.size, endO_succ hlt]; simp [delLine]
          · intro q hq; rw [hOD.has q hq, endO_succ hlt, any_del]
        have hP4 : PV (endO os a ls (k + 1)) rcs w4 S M v td bs pvs (endN os a ls k) := hP1.mapsTo (fun q hq h1 h2 => hgr4.block q hq (fun e => h2 (Option.some.inj e))) hM4
        have hlot4 := hP4.lot k (by rw [endN_len]; exact hlt)
        rw [endN_get hlt] at hlot4
        have hself : (w4.setCell ⟨bs.getD k 0, 7, none⟩ (.int .i64 (((ls.getD k L0).held : Int) - (n : Int)))).heap[bs.getD k 0]? = some (.cells (lotCells (endL os a (ls.getD k L0)) (pvs.getD k default)) 198 (0, 0)) := by
          have e : (((ls.getD k L0).held : Int) - (n : Int)) = (((ls.getD k L0).held - n : Nat) : Int) := by omega
          rw [e]
          have := heap_setCell_same w4 (bs.getD k 0) 7 _ 198 (.int .i64 (((ls.getD k L0).held - n : Nat) : Int)) hlot4
          have e2 : endL os a (ls.getD k L0) = { ls.getD k L0 with held := (ls.getD k L0).held - n } := by unfold endL; rw [hl]; rfl
          rw [e2]
          exact this
        have hP5 : PV (endO os a ls (k + 1)) rcs (w4.setCell ⟨bs.getD k 0, 7, none⟩ (.int .i64 (((ls.getD k L0).held : Int) - (n : Int)))) S M v td bs pvs (endN os a ls (k + 1)) := by
          rw [endN_succ hlt]
          exact hP4.lotset (i := k) (by rw [endN_len]; exact hlt) (endL_ok hok os a) (by rw [endN_get hlt]; rfl) hself (fun q _ hq => Below.heap_setCell _ _ _ _ hq)
        have hk5 : Kp (fun k => k = M.o ∨ k = M.h ∨ k ∈ bs) w (w4.setCell ⟨bs.getD k 0, 7, none⟩ (.int .i64 (((ls.getD k L0).held : Int) - (n : Int)))) :=
          (hkp.trans (Kp.before hB.drew.drew (turned_kp hturn (Or.inl (Or.inl (Or.inr (Or.inl rfl))))))).setCell (p := ⟨bs.getD k 0, 7, none⟩) (Or.inl (Or.inr (Or.inr hbmem))) _
        have hown1 := own_below hown hB.drew.drew
        have ho5 : (w4.setCell ⟨bs.getD k 0, 7, none⟩ (.int .i64 (((ls.getD k L0).held : Int) - (n : Int)))).ownsRow w.heap.size 212 2 (.slice la (endQ os a ls k).length lcap) (endQ os a ls k).length (lineCells bs (endQ os a ls k)) := own_congr hown1 (fun b hb => by
          obtain ⟨cs, hcs⟩ := own_ty hown1 hb
          obtain ⟨es, c2, hmm⟩ := owns_map hDh1
          have q1 := hgr4.block b (blk_lt hcs) (fun e => map_ne hcs hmm (Option.some.inj e))
          rw [Below.heap_setCell _ _ _ _ (ty_ne (q1.trans hcs) hlot4 (by decide)), q1])
        have HQ := hide (endQ_hit hl)
        have hql : (endQ os a ls k).length < 30 := by have := endQ_len os a ls k; omega
        have c0 : wr.cell? ⟨bs.getD k 0, 0, none⟩ = some (.int .i64 ((ls.getD k L0).id : Int)) := by rw [blk_cell hlot]; rfl
        have c7 : w4.cell? ⟨bs.getD k 0, 7, none⟩ = some (.int .i64 ((ls.getD k L0).held : Int)) := by rw [blk_cell hlot4]; rfl
        have f7 := blk_free hlot4 7
        have x0 : (wr.alloc (.cells #[.int .i64 (a : Int), .int .i64 ((ls.getD k L0).id : Int)] 229)).cell? ⟨wr.heap.size, 0, none⟩ = some (.int .i64 (a : Int)) := by rw [blk_cell hbox]; rfl
        have x1 : (wr.alloc (.cells #[.int .i64 (a : Int), .int .i64 ((ls.getD k L0).id : Int)] 229)).cell? ⟨wr.heap.size, 1, none⟩ = some (.int .i64 ((ls.getD k L0).id : Int)) := by rw [blk_cell hbox]; rfl
        have xS : (wr.alloc (.cells #[.int .i64 (a : Int), .int .i64 ((ls.getD k L0).id : Int)] 229)).cell? ⟨S, 3, none⟩ = some (.map (some M.h)) := (hB.cell (by exact blk_lt hP.store)).trans hS3
        have HP5 := hide hP5
        have HK5 := hide hk5
        have HO5 := hide ho5
        have hhl : (ls.getD k L0).held ≤ 2147483647 := by omega
        generalize (ls.getD k L0).id = idk at *
        generalize (ls.getD k L0).held = hdk at *
        obtain ⟨bk, HBK⟩ : ∃ bk, Hid (bk = bs.getD k 0) := ⟨_, rfl⟩
        rw [← HBK.out] at hck c0 c7 f7 HP5 HK5 HO5
        obtain ⟨ql, HQL⟩ : ∃ ql, Hid (ql = (endQ os a ls k).length) := ⟨_, rfl⟩
        rw [← HQL.out] at HO5 hql
        rw [show (Value.slice la (endQ os a ls k).length lcap) = Value.slice la ql lcap by rw [HQL.out]]
        clear hcl hlot hok hbmem hline hheld hsum hDh hHD hl hP hown hkp hbox hB hS3 hm hDh1 hown4 hturn hgr4 htid hmid hHD4 hP1 hM4 hP4 hlot4 hself hP5 hk5 hown1 ho5
        go_wp2_with fail
        generalize (wr.alloc (.cells #[.int .i64 (a : Int), .int .i64 (idk : Int)] 229)) = wb at *
        go_region
        go_wp2_with fail
        go_region
        clear hrun hlk
        have hws : w.heap.size ≤ w4.heap.size := by have := HK5.out.size; simpa using this
        go_wp2_with (at_builtin; refine wpList_append_own _ rfl _ _ 205 rfl w.heap.size 212 i0 (.agg #[.pointer none, .int .i64 0]) 2 16 tULines hi hz0 hz1 hz2 rfl (by decide) _ ql (lineCells bs (endQ os a ls k)) rfl (HO5.out.alloc _) ⟨w4.heap.size, 0, none⟩ 1 1 [.pointer (some ⟨bk, 0, none⟩), .int .i64 (n : Int)] rfl rfl ?c1 ?c2 ?c3 ?c4 ?c5 ?_)
        case c1 => intro j u hu; have := cell_two_new (w4.setCell ⟨bk, 7, none⟩ (.int .i64 ((hdk : Int) - (n : Int)))) (.pointer (some ⟨bk, 0, none⟩)) (.int .i64 (n : Int)) 212 j u hu; simpa using this
        case c2 => intro u hu; simp at hu; rcases hu with rfl | rfl <;> rfl
        case c3 => unfold maxLen; omega
        case c4 => omega
        case c5 => simp; omega
        intro lv2 w6 hown6 hgrow hnn
        have hP5' := HP5.out
        have ho5' := HO5.out
        have hk5' := HK5.out
        clear HP5 HO5 HK5 c7 f7
        generalize (w4.setCell ⟨bk, 7, none⟩ (.int .i64 ((hdk : Int) - (n : Int)))) = w5 at *
        have hb6 : Kp (fun k => (k = M.o ∨ k = M.h ∨ k ∈ bs) ∨ w.heap.size ≤ k) w5 w6 := by
          refine Kp.before (al1 w5 _) ⟨hgrow.os, hgrow.tape, hgrow.output, hgrow.size, fun q hq hz => hgrow.block q hq (fun e => hz ?_)⟩
          exact Or.inl (Or.inr (ho5'.lt q e.symm).1)
        have hold : ∀ b, b < w5.heap.size → (Value.slice la ql lcap).ownBlock ≠ some b → w6.heap[b]? = w5.heap[b]? := fun b hb hne => (hgrow.block b (by simp; omega) (fun e => hne e.symm)).trans (Below.heap_alloc _ _ _ hb)
        have hcell : ∀ (b : Nat) (cs : Array Value) (t : TypeId), w5.heap[b]? = some (.cells cs t (0, 0)) → t ≠ 212 → w6.heap[b]? = w5.heap[b]? := fun b cs t hb ht => hold b (blk_lt hb) (fun e => by
          obtain ⟨cs', hcs⟩ := own_ty ho5' e
          exact ty_ne hb hcs ht rfl)
        have hP6 : PV (endO os a ls (k + 1)) rcs w6 S M v td bs pvs (endN os a ls (k + 1)) := PV.cellsTo hP5' hcell (fun b es c hb => hold b (blk_lt hb) (fun e => by
          obtain ⟨cs', hcs⟩ := own_ty ho5' e
          exact map_ne hcs hb rfl))
        have ho6 : w6.ownsRow w.heap.size 212 2 lv2 (endQ os a ls (k + 1)).length (lineCells bs (endQ os a ls (k + 1))) := by
          rw [HQ.out, lineCells_snoc, List.length_append, List.length_singleton, ← HQL.out]
          show w6.ownsRow w.heap.size 212 2 lv2 (ql + 1) (lineCells bs (endQ os a ls k) ++ [.pointer (some ⟨bs.getD k 0, 0, none⟩), .int .i64 (n : Int)])
          rw [← HBK.out]; exact hown6
        have HP6 := hide hP6
        have HO6 := hide ho6
        have HK6 := hide (hk5'.trans hb6)
        clear hP5' ho5' hk5' hown6 hgrow hnn hb6 hold hcell hP6 ho6
        go_wp2_with fail
        go_roundw
        case rel => exact ⟨k + 1, by go_num, by omega, HK6.out, HP6.out, HO6.out⟩
        case measure => simp [intOf]; omega
    · obtain rfl : k = ls.length := by omega
      rw [endN_all] at hP
      obtain ⟨Do, hDo, hOD⟩ := hP.maps.o
      obtain ⟨w4, hrun, hown4, hturn⟩ := World.ownsMap.drop hDo kInt tUOm (key_o ha) 0
      have hgr4 := hturn.grown
      have htid : Maps.Tidy Do := World.ownsMap.tidy hDo kInt
      have hmid := mid (ls := ls) HGO.out.keys a ls.length (Nat.le_refl _)
      have hnd : ((endO os a ls ls.length).map O.id).Nodup := by rw [hmid.ids]; exact HGO.out.oids
      have hany2 : (endO os a ls ls.length).any (fun o => o.id == a) = true := by
        have e : ∀ (l m : List O), l.map O.id = m.map O.id → l.any (fun o => o.id == a) = m.any (fun o => o.id == a) := fun l m he => by
          have : ∀ x : List O, x.any (fun o => o.id == a) = (x.map O.id).any (fun n => n == a) := fun x => by rw [List.any_map]; rfl
          rw [this, this, he]
        rw [e _ _ hmid.ids]; exact HANY.out
      have hOD4 := hOD.del htid hnd ha hany2
      rw [endO_filter os a ls ls.length (Nat.le_refl _)] at hOD4
      have hM4 : Mp (os.filter (fun o => o.id != a)) rcs w4 M := by
        have hm := hP.maps
        obtain ⟨Dr, hDr, hRDr⟩ := hm.r
        obtain ⟨Dh, hDh, hHD⟩ := hm.h
        have hHD4 := hHD.final (end_lines HGO.out a)
        rw [endO_filter os a ls ls.length (Nat.le_refl _)] at hHD4
        exact ⟨⟨Dr, owns_congr hDr (hgr4.block M.r (World.ownsMap.lt hDr) (fun e => hm.ro (Option.some.inj e))), hRDr⟩, hm.rc, ⟨_, owns_exact hown4, hOD4⟩, ⟨Dh, owns_congr hDh (hgr4.block M.h (World.ownsMap.lt hDh) (fun e => hm.oh (Option.some.inj e).symm)), hHD4⟩, hm.ro, hm.rh, hm.oh⟩
      have hP4 : PV (os.filter (fun o => o.id != a)) rcs w4 S M v td bs pvs (ls.map (endL os a)) := hP.mapsTo (fun q hq h1 h2 => hgr4.block q hq (fun e => h1 (Option.some.inj e))) hM4
      have ho4 : w4.ownsRow 0 212 2 (.slice la (endQ os a ls ls.length).length lcap) (endQ os a ls ls.length).length (lineCells bs (endQ os a ls ls.length)) := own_base (own_congr hown (fun b hb => by
        obtain ⟨cs, hcs⟩ := own_ty hown hb
        obtain ⟨es, c2, hmm⟩ := owns_map hDo
        exact hgr4.block b (blk_lt hcs) (fun e => map_ne hcs hmm (Option.some.inj e))))
      have hk4 : Kp (fun k => k = M.o ∨ k = M.h ∨ k ∈ bs) w w4 := hkp.trans (turned_kp hturn (Or.inl (Or.inl rfl)))
      have s2 := hP.c2
      have HP4 := hide hP4
      have HO4 := hide ho4
      have HK4 := hide hk4
      clear hlt hP hDo hOD hown4 hturn hgr4 htid hmid hnd hany2 hOD4 hM4 hP4 ho4 hk4 hown hkp
      go_wp2_with fail
      go_ret
      exact ⟨HK4.out, HP4.out, _, rfl, HO4.out⟩

end Go.Proofs.YtlmafelclgeccaaGreatDoor

namespace Go.Proofs.YtlmafelclgeccaaGreatDoor
set_option linter.unusedSimpArgs false
set_option linter.unusedVariables false
open Go.RowKit
set_option maxRecDepth 100000

def freeL (l : L) (n : Nat) : L := { l with free := l.free + n }
def shipL (l : L) (n : Nat) : L := { l with shipped := l.shipped + n }

def updS (g : L → Nat → L) (ls : List L) : List (Nat × Nat) → List L
  | p :: r => updS g (ls.set p.1 (g (ls.getD p.1 L0) p.2)) r
  | [] => ls
theorem updS_snoc (g : L → Nat → L) (p : Nat × Nat) : ∀ (l : List (Nat × Nat)) (ls : List L), updS g ls (l ++ [p]) = (updS g ls l).set p.1 (g ((updS g ls l).getD p.1 L0) p.2)
  | [], ls => rfl
  | q :: r, ls => by simp only [List.cons_append, updS]; exact updS_snoc g p r _
theorem updS_len (g : L → Nat → L) : ∀ (l : List (Nat × Nat)) (ls : List L), (updS g ls l).length = ls.length
  | [], ls => rfl
  | q :: r, ls => by simp only [updS]; rw [updS_len g r]; simp
theorem updS_out (g : L → Nat → L) {i : Nat} : ∀ (l : List (Nat × Nat)) (ls : List L), i ∉ l.map Prod.fst → (updS g ls l).getD i L0 = ls.getD i L0
  | [], ls, _ => rfl
  | q :: r, ls, h => by
    simp only [List.map_cons, List.mem_cons, not_or] at h
    simp only [updS]
    rw [updS_out g r _ h.2, gset_ne h.1]
theorem updS_in (g : L → Nat → L) {i n : Nat} : ∀ (l : List (Nat × Nat)) (ls : List L), (l.map Prod.fst).Nodup → (i, n) ∈ l → i < ls.length → (updS g ls l).getD i L0 = g (ls.getD i L0) n
  | [], ls, _, h, _ => by simp at h
  | q :: r, ls, hn, h, hi => by
    simp only [List.map_cons, List.nodup_cons] at hn
    simp only [updS]
    rcases List.mem_cons.1 h with h | h
    · subst h
      rw [updS_out g r _ hn.1, gset_eq hi]
    · have hne : i ≠ q.1 := fun e => hn.1 (by rw [← e]; exact List.mem_map_of_mem h)
      rw [updS_in g r _ hn.2 h (by simpa using hi), gset_ne hne]

/-- What an order's end makes of a lot. -/
def finL (g : L → Nat → L) (os : List O) (a : Nat) (l : L) : L :=
  match lineOf os a l.id with
  | some n => g { l with held := l.held - n } n
  | none => l

theorem ext_getD {a b : List L} (hl : a.length = b.length) (h : ∀ i, i < a.length → a.getD i L0 = b.getD i L0) : a = b := by
  apply List.ext_getElem hl
  intro i h1 h2
  have := h i h1
  simpa [List.getD_eq_getElem?_getD, h1, h2] using this
theorem getD_map {f : L → L} {ls : List L} {i : Nat} (hi : i < ls.length) : (ls.map f).getD i L0 = f (ls.getD i L0) := by simp [List.getD_eq_getElem?_getD, hi]
theorem endQ_has {os : List O} {a : Nat} {ls : List L} {i n : Nat} (h : lineOf os a (ls.getD i L0).id = some n) {m : Nat} (hm : i < m) : (i, n) ∈ endQ os a ls m := by
  unfold endQ
  exact List.mem_filterMap.2 ⟨i, by simpa using hm, by rw [h]; rfl⟩
theorem upd_fin (g : L → Nat → L) (os : List O) (a : Nat) (ls : List L) : updS g (ls.map (endL os a)) (endQ os a ls ls.length) = ls.map (finL g os a) := by
  apply ext_getD
  · rw [updS_len]; simp
  · intro i hi
    rw [updS_len, List.length_map] at hi
    rw [getD_map hi]
    cases h : lineOf os a (ls.getD i L0).id with
    | some n =>
      rw [updS_in g _ _ (endQ_fst os a ls _) (endQ_has h hi) (by simpa using hi), getD_map hi]
      unfold finL endL; rw [h]; rfl
    | none =>
      rw [updS_out, getD_map hi]
      · unfold finL endL; rw [h]; rfl
      · intro hm
        obtain ⟨p, hp, rfl⟩ := List.mem_map.1 hm
        have := (endQ_mem hp).2
        rw [h] at this; cases this
theorem fin_none {os : List O} {a : Nat} (h : os.any (fun o => o.id == a) = false) (g : L → Nat → L) (ls : List L) : ls.map (finL g os a) = ls ∧ os.filter (fun o => o.id != a) = os := by
  have hf : os.find? (fun o => o.id == a) = none := by
    rw [List.find?_eq_none]; intro o ho; exact List.any_eq_false.1 h o ho
  have hl : ∀ b, lineOf os a b = none := fun b => by unfold lineOf; rw [hf]; rfl
  constructor
  · conv => rhs; rw [← List.map_id ls]
    apply List.map_congr_left
    intro l _
    unfold finL; rw [hl]; rfl
  · rw [List.filter_eq_self]
    intro o ho
    have := List.any_eq_false.1 h o ho
    simpa using this

/-- The error of an order's end. -/
def endC (os : List O) (a : Nat) : Nat := if os.any (fun o => o.id == a) then 0 else 9

theorem free_ok {l : L} (h : L.Ok l) {os : List O} {a n : Nat} (hl : lineOf os a l.id = some n) (hn : n ≤ l.held) : L.Ok (freeL (endL os a l) n) := ⟨h.id, h.goods, h.expiry, h.place, (by have := h.sum; show l.free + n + (l.held - (lineOf os a l.id).getD 0) + l.shipped + l.scrapped + l.given ≤ 2147483647; rw [hl]; show l.free + n + (l.held - n) + l.shipped + l.scrapped + l.given ≤ 2147483647; omega), h.got, h.par⟩
theorem ship_ok {l : L} (h : L.Ok l) {os : List O} {a n : Nat} (hl : lineOf os a l.id = some n) (hn : n ≤ l.held) : L.Ok (shipL (endL os a l) n) := ⟨h.id, h.goods, h.expiry, h.place, (by have := h.sum; show l.free + (l.held - (lineOf os a l.id).getD 0) + (l.shipped + n) + l.scrapped + l.given ≤ 2147483647; rw [hl]; show l.free + (l.held - n) + (l.shipped + n) + l.scrapped + l.given ≤ 2147483647; omega), h.got, h.par⟩

end Go.Proofs.YtlmafelclgeccaaGreatDoor
