import Derived.Test.YtgcedalggnmooaaGreatDoorHlX
namespace Go.Proofs.YtgcedalggnmooaaGreatDoor
set_option linter.unusedSimpArgs false
set_option linter.unusedVariables false
open Go.Shelf Go.RowKit Go.Lib Go.Sort
set_option maxRecDepth 100000

theorem brs {P : Program} {f : Nat} {B : Func} (h : (((P.funcs[f]?).getD default).name == "runtime.NumGoroutine") = false) (e : P.funcs[f]? = some { B with name := ((P.funcs[f]?).getD default).name }) : Bears P f B := ⟨_, h, e⟩
def sortLot_ren : Go.Shelf.Ren := ⟨fun | 6 => 163 | 15 => 186 | 14 => 185 | 28 => 210 | 29 => 211 | 20 => 202 | 21 => 203 | 22 => 204 | 23 => 205 | 24 => 206 | 25 => 207 | 26 => 208 | 27 => 209 | 46 => 242 | 47 => 243 | 48 => 244 | 49 => 245 | 50 => 246 | 57 => 260 | n => n, fun | 22 => 115 | 24 => 191 | 25 => 253 | 3 => 3 | 39 => 176 | 0 => 0 | 53 => 188 | 55 => 300 | 4 => 4 | 46 => 292 | 45 => 291 | 50 => 296 | 5 => 5 | 9 => 9 | 66 => 321 | 70 => 325 | 76 => 334 | 77 => 135 | n => n, fun | n => n⟩
theorem sortLot : SlLaysF.n6 Tryz.prog sortLot_ren := by constructor <;> first | kernel_rfl | (intro w; kernel_rfl) | (apply brs <;> kernel_rfl)
def sortLot0_ren : Go.Shelf.Ren := ⟨fun | 6 => 163 | 15 => 186 | 14 => 185 | 28 => 210 | 29 => 211 | 20 => 202 | 21 => 203 | 22 => 204 | 23 => 205 | 24 => 206 | 25 => 207 | 26 => 208 | 27 => 209 | 46 => 242 | 47 => 243 | 48 => 244 | 49 => 245 | 50 => 246 | 57 => 260 | n => n, fun | 22 => 115 | 24 => 191 | 25 => 253 | 3 => 3 | 39 => 176 | 0 => 0 | 53 => 188 | 55 => 300 | 4 => 4 | 46 => 292 | 45 => 291 | 50 => 296 | 5 => 5 | 9 => 9 | 66 => 321 | 70 => 325 | 76 => 334 | 77 => 135 | n => n, fun | n => n⟩
theorem sortLot0 : SlLaysF0.n6 Tryz.prog sortLot0_ren := by constructor <;> first | kernel_rfl | (intro w; kernel_rfl) | (apply brs <;> kernel_rfl)

/-- A place within the lots. -/
def cl (ls : List L) (i : Nat) : Nat := if i < ls.length then i else 0
theorem cl_lt {ls : List L} (h : 0 < ls.length) (i : Nat) : cl ls i < ls.length := by unfold cl; split <;> omega
theorem cl_eq {ls : List L} {i : Nat} (h : i < ls.length) : cl ls i = i := if_pos h
def encP (bs : List Nat) (ls : List L) (i : Nat) : Value := .pointer (some ⟨bs.getD (cl ls i) 0, 0, none⟩)
def cfL (ls : List L) (i j : Nat) : Int := Lib.compareInt ((ls.getD (cl ls i) L0).id : Int) ((ls.getD (cl ls j) L0).id : Int)

theorem ltL (ls : List L) (i j : Nat) : ltOf (cfL ls) i j = idLt ls (cl ls i) (cl ls j) := by
  unfold ltOf cfL Lib.compareInt idLt
  by_cases h1 : (ls.getD (cl ls i) L0).id < (ls.getD (cl ls j) L0).id
  · have h2 : ((ls.getD (cl ls i) L0).id : Int) < ((ls.getD (cl ls j) L0).id : Int) := by omega
    rw [if_pos h2, decide_eq_true h1]; rfl
  · have h2 : ¬ ((ls.getD (cl ls i) L0).id : Int) < ((ls.getD (cl ls j) L0).id : Int) := by omega
    rw [if_neg h2, decide_eq_false h1]
    split <;> rfl
theorem swoL (ls : List L) : SWO (ltOf (cfL ls)) := {
  irrefl x := by rw [ltL]; simp [idLt]
  trans x y z h1 h2 := by rw [ltL] at *; simp [idLt] at *; omega
  ntrans x y z h1 h2 := by rw [ltL] at *;simp [idLt] at *;omega }

set_option maxHeartbeats 1000000 in
theorem closure_any (x y : Nat) (b c : Nat) (W : World) (h1 : W.cell? ⟨b, 0, none⟩ = some (.int .i64 (x : Int))) (h2 : W.cell? ⟨c, 0, none⟩ = some (.int .i64 (y : Int))) :
    Calls Tryz.prog 164 #[.pointer (some ⟨b, 0, none⟩), .pointer (some ⟨c, 0, none⟩)] W fun e w' => e = .returned (.int .i64 (Lib.compareInt (x : Int) (y : Int))) ∧ ∃ q os', w' = grow (W.drewN q) os' := by
  have hcon := fun W' => cmp_any (x : Int) (y : Int) W'
  generalize Lib.compareInt (x : Int) (y : Int) = r at hcon ⊢
  go_enter Tryz.func164, Tryz.ntmps164
  go_wp2_with fail
  go_quiet ((go_at_call 165; exact Calls.quiet_of_same (hcon _)))
  go_wp2_with fail
  go_ret
  exact ⟨rfl, nq, #[], by rw [grow_empty]⟩

theorem grownBy_sort1 {w : World} {g n : Nat} {os : Array Obj} (enc : Nat → Value) (d : Array Nat) : w.grownBy (sortWorld enc w g 0 n d os) (some g) := by
  unfold sortWorld
  refine ⟨rfl, rfl, rfl, by simp, fun q hq hne => ?_⟩
  rw [heap_grow_old _ _ (by simpa using hq)]
  have : g ≠ q := fun e => hne (by rw [e])
  simp [putRow, mapBlock, Sort.ahead, Array.getElem?_modify, this]

theorem infoPtr : (Tryz.prog.info? 191).map (fun i => (i.zero, i.size, i.bytes)) = some (some (.pointer none), 1, 8) := by kernel_rfl
theorem tUPtrs : Tryz.prog.underlying 115 = some (.slice 191) := by kernel_rfl

theorem eqNil0 (w : World) : (binOp .eql 115 (.slice none 0 0) (.slice none 0 0)).run Tryz.prog w = .ok (.bool true) w := by kernel_rfl
theorem eqNil1 (a : Addr) (n c : Nat) (w : World) : (binOp .eql 115 (.slice (some a) n c) (.slice none 0 0)).run Tryz.prog w = .ok (.bool false) w := by kernel_rfl

set_option maxHeartbeats 1600000 in
theorem clone_any (base : Nat) (v : Value) (n : Nat) (hn : n ≤ 30) (bs : List Nat) (hl : bs.length = n) (w : World) (ho : w.ownsRow base 191 1 v n (ptrs bs)) :
    Calls Tryz.prog 162 #[v] w fun e w' => Below w.heap.size w w' ∧ ∃ v', e = .returned v' ∧ w'.ownsRow w.heap.size 191 1 v' n (ptrs bs) := by
  obtain ⟨i0, hi, hz0, hz1, hz2⟩ := info_parts infoPtr
  have hq0 := eqNil0
  have hq1 := eqNil1
  rcases ho.2 with ⟨rfl, rfl⟩ | ⟨g, cap, cur, rfl, hbg, hg, hnc, hcm, hcs, htake⟩
  · have hb : bs = [] := List.length_eq_zero_iff.1 hl
    subst hb
    go_enter Tryz.func162, Tryz.ntmps162
    go_wp2_with fail
    go_ret
    exact ⟨Below.refl _ _, _, rfl, World.ownsRow_nil _ _ _ _⟩
  · have hcells := ho.cells (g := g) rfl
    have hplen : (ptrs bs).length = n := by simp [ptrs, hl]
    have hp1 : ∀ u ∈ ptrs bs, u.oneCell' = true := by intro u hu; simp [ptrs] at hu; obtain ⟨b, _, rfl⟩ := hu; rfl
    have ha := al1 w (.cells #[] 191)
    have hgl : g < w.heap.size := blk_lt hg
    have ho0 : (w.alloc (.cells #[] 191)).ownsRow w.heap.size 191 1 (.slice (some ⟨w.heap.size, 0, none⟩) 0 0) 0 [] := World.ownsRow_lit w #[] 0 (Nat.le_refl _) (by unfold maxLen; simp) rfl
    have HC : Hid (∀ j u, (ptrs bs)[j]? = some u → (w.alloc (.cells #[] 191)).cell? ((⟨g, 0, none⟩ : Addr).add j) = some u) := fun j u hu => by
      have q := hcells j u hu
      rw [Addr.add_lit] at q ⊢
      exact (ha.cell (by exact hgl)).trans q
    have HA := hide ha
    clear hcells ho ha hg hcs htake
    go_enter Tryz.func162, Tryz.ntmps162
    go_wp2_with (at_builtin; refine wpList_append_own _ rfl _ _ 115 rfl w.heap.size 191 i0 (.pointer none) 1 8 tUPtrs hi hz0 hz1 hz2 rfl (by decide) _ 0 [] rfl ho0 ⟨g, 0, none⟩ n cap (ptrs bs) rfl (by rw [hplen]; omega) HC.out hp1 ?c3 ?c4 ?c5 ?_)
    case c3 => unfold maxLen; omega
    case c4 => omega
    case c5 => simp
    intro v' w2 hown2 hgrow hnn
    have hbb : Below w.heap.size w w2 := HA.out.grown hgrow HA.out.size (fun k hk => (ho0.lt k hk).1)
    have HO := hide hown2
    clear hown2 hgrow hnn ho0
    go_wp2_with fail
    go_ret
    exact ⟨hbb, v', rfl, HO.out⟩

/-- Where pointers to lots lie, one behind the other. -/
def PtrAt (B : Nat) (w : World) (bs : List Nat) (a : Option Addr) (l : List Nat) : Prop := ∀ k, k < l.length → ∃ G, a = some ⟨G, 0, none⟩ ∧ B ≤ G ∧ G < w.heap.size ∧ w.cell? ⟨G, k, none⟩ = some (.pointer (some ⟨bs.getD (l.getD k 0) 0, 0, none⟩))
theorem PtrAt.below {B : Nat} {w w' : World} {bs : List Nat} {a : Option Addr} {l : List Nat} (h : PtrAt B w bs a l) (hb : Below w.heap.size w w') : PtrAt B w' bs a l := fun k hk => by
  obtain ⟨G, h1, h2, h3, h4⟩ := h k hk
  exact ⟨G, h1, h2, Nat.lt_of_lt_of_le h3 hb.size, (hb.cell (by exact h3)).trans h4⟩

theorem sortLot_any (w : World) (bs : List Nat) (ls : List L) (base : Nat) (v : Value) (hlo : LotsOK w bs ls) (hlen : bs.length = ls.length) (hroom : ls.length ≤ 30) (hids : ∀ i j, i < ls.length → j < ls.length → (ls.getD i L0).id = (ls.getD j L0).id → i = j)
    (h : w.ownsRow base 191 1 v ls.length (ptrs bs)) :
    Calls Tryz.prog 163 #[v, .func (.func 164) #[] #[]] w fun e w' => e = .returned (.tuple #[]) ∧ w.grownBy w' v.ownBlock ∧ ∃ a cap, v = .slice a ls.length cap ∧ PtrAt base w' bs a (byN ls) := by
  obtain ⟨a, cap, hv⟩ := own_shapeS h
  subst hv
  by_cases h0 : ls.length = 0
  · have hn : ls = [] := List.length_eq_zero_iff.1 h0
    subst hn
    refine (AnyF.slices_SortFunc_none (P := Tryz.prog) sortLot0 a cap (.func (.func 164) #[] #[]) w).mono ?_
    rintro e w' ⟨rfl, rfl⟩
    exact ⟨rfl, ⟨rfl, rfl, rfl, Nat.le_refl _, fun _ _ _ => rfl⟩, a, cap, rfl, fun k hk => absurd hk (by rw [byN_len]; simp)⟩
  · have hpos : 0 < ls.length := by omega
    obtain ⟨G, cap', hv', hbG, hGlt⟩ := own_some h hpos
    cases hv'
    have eg : ∀ args w, (callFunc 164 args).run Tryz.prog w = .ok (.enter 164 args) w := enters_of Tryz.func164 (by kernel_rfl) rfl
    obtain ⟨csG, hcsG⟩ := own_ty h (g := G) rfl
    have hcmp : CmpLays1 Tryz.prog 164 #[] (encP bs ls) (cfL ls) G 0 (List.range ls.length).toArray.size w := by
      intro m os dk hs x y
      obtain ⟨pvx, hbx⟩ := hlo (cl ls x) (cl_lt hpos x)
      obtain ⟨pvy, hby⟩ := hlo (cl ls y) (cl_lt hpos y)
      have hgr := grownBy_sort1 (w := w) (g := G) (n := m) (os := os) (encP bs ls) dk
      have qx := (hgr.block _ (blk_lt hbx) (fun e => ty_ne hbx hcsG (by decide) (Option.some.inj e))).trans hbx
      have qy := (hgr.block _ (blk_lt hby) (fun e => ty_ne hby hcsG (by decide) (Option.some.inj e))).trans hby
      exact closure_any (ls.getD (cl ls x) L0).id (ls.getD (cl ls y) L0).id _ _ _ (by rw [blk_cell qx]; rfl) (by rw [blk_cell qy]; rfl)
    have hH : Holds (encP bs ls) w G 0 (List.range ls.length).toArray := by
      intro j hj
      have hj' : j < ls.length := by simpa using hj
      have hd : (List.range ls.length).toArray[j]! = j := by simp [hj']
      refine ⟨?_, by simp [World.frozen?, hcsG]⟩
      rw [hd, Nat.zero_add, h.cellAt j (by omega)]
      unfold encP; rw [cl_eq hj']
      have : j < bs.length := by omega
      simp [ptrs, List.getD_eq_getElem?_getD, this]
    have e1 : (List.range ls.length).toArray.size = ls.length := by simp
    have hcon := Any.slices_SortFunc sortLot (encP bs ls) (fun _ => rfl) (cfL ls) (swoL ls) 164 #[] G 0 cap (List.range ls.length).toArray w eg hcmp hH hGlt (by simp; omega)
    rw [e1] at hcon
    refine hcon.mono ?_
    rintro e w' ⟨rfl, d', n, os, hp, hs, rfl⟩
    obtain ⟨hp1, hp2, hp3⟩ := hp
    have hds : d'.size = ls.length := by rw [hp1]; simp
    have hperm : d'.toList.Perm (List.range ls.length) := by
      have e2 : d'.extract 0 ls.length = d' := by rw [← hds]; simp
      have e3 : ((List.range ls.length).toArray.extract 0 ls.length).toList = List.range ls.length := by simp
      have h3 := hp3
      rw [e2, e3] at h3; exact h3
    have hin : ∀ i ∈ d'.toList, i < ls.length := fun i hi => by simpa using hperm.mem_iff.1 hi
    have hsrt : Srt (idLt ls) d'.toList := by
      refine List.pairwise_iff_getElem.2 (fun i j hi hj hij => ?_)
      rw [Array.length_toList, hds] at hi hj
      have h4 := hs i j (Nat.zero_le _) hij hj
      rw [ltL] at h4
      have gi : d'[i]! = d'.toList[i] := by simp [show i < d'.size by omega]
      have gj : d'[j]! = d'.toList[j] := by simp [show j < d'.size by omega]
      rw [gi, gj] at h4
      have mi : d'.toList[i] < ls.length := hin _ (by simp)
      have mj : d'.toList[j] < ls.length := hin _ (by simp)
      rw [cl_eq mi, cl_eq mj] at h4
      exact h4
    have heq := byN_eq hids hperm hsrt
    refine ⟨rfl, grownBy_sort1 _ _, _, _, rfl, ?_⟩
    have hH' := holds_sortWorld (encP bs ls) w G 0 n (List.range ls.length).toArray d' os hGlt hH (by rw [hds]; simp)
    have hlt' := lt_sortWorld (encP bs ls) w G 0 n d' os hGlt
    intro k hk
    have hk' : k < ls.length := by rw [byN_len] at hk; exact hk
    have q := (hH' k (by omega)).1
    have hd : d'[k]! = (byN ls).getD k 0 := by
      rw [← heq]; simp [List.getD_eq_getElem?_getD, show k < d'.size by omega]
    rw [hd, Nat.zero_add] at q
    unfold encP at q
    rw [cl_eq (byN_get hk')] at q
    exact ⟨G, rfl, hbG, hlt', q⟩

set_option maxHeartbeats 1600000 in
theorem byNumber_any {rcs : List (Nat × Nat)} {w : World} {S : Nat} {M : Mx} {v : Value} {td : Nat} {bs : List Nat} {pvs : List Value} {ls : List L} {os : List O} (h : PV os rcs w S M v td bs pvs ls) (hids : ∀ i j, i < ls.length → j < ls.length → (ls.getD i L0).id = (ls.getD j L0).id → i = j) :
    Calls Tryz.prog 123 #[.pointer (some ⟨S, 0, none⟩)] w fun e w' => Below w.heap.size w w' ∧ ∃ a cap, e = .returned (.slice a ls.length cap) ∧ PtrAt w.heap.size w' bs a (byN ls) := by
  have hrow := h.row
  rw [h.len] at hrow
  have HC := hide (clone_any 0 v ls.length h.room bs h.len w hrow)
  have c1 := h.c1
  have HP := hide h
  have HIDS := hide hids
  clear h hrow hids
  go_enter Tryz.func123, Tryz.ntmps123
  go_wp2_with (go_at_call 162; refine (HC.out).mono ?_; rintro e w1 ⟨hb1, v1, rfl, ho1⟩)
  have HS := hide (sortLot_any w1 bs ls w.heap.size v1 (HP.out.below hb1).lots HP.out.len HP.out.room HIDS.out ho1)
  have HB1 := hide hb1
  have HO1 := hide ho1
  clear hb1 ho1
  go_wp2_with (go_at_call 163; refine (HS.out).mono ?_; rintro e w2 ⟨rfl, hg2, a2, cap2, hv2, hat⟩)
  subst hv2
  have HB2 : Hid (Below w.heap.size w w2) := HB1.out.grown hg2 HB1.out.size (fun k hk => (HO1.out.lt k hk).1)
  go_wp2_with fail
  go_ret
  exact ⟨HB2.out, a2, cap2, rfl, hat⟩

end Go.Proofs.YtgcedalggnmooaaGreatDoor
