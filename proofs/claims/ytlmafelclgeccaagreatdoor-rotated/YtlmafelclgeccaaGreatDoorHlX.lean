import Derived.Test.YtlmafelclgeccaaGreatDoorOrdX
import Derived.Test.YtlmafelclgeccaaGreatDoorOd1X
import Derived.Test.YtlmafelclgeccaaGreatDoorMp0X
import Derived.Shelf.SlSortCmp.NoneTotal
import Derived.Shelf.Lay
import Derived.Ground.SlsfProg
import Derived.Ground.NamesProg
import Derived.Deep.RegionWith
import Derived.Test.YtlmafelclgeccaaGreatDoorEn0X
namespace Go.Proofs.YtlmafelclgeccaaGreatDoor
set_option linter.unusedSimpArgs false
set_option linter.unusedVariables false
set_option maxRecDepth 100000

/-- Is a lot Held, and in a family? -/
def heldP (ls : List L) (f : Nat → Bool) (i : Nat) : Bool := decide (0 < (ls.getD i L0).held) && f (ls.getD i L0).id
def heldK (ls : List L) (f : Nat → Bool) (k : Nat) : List Nat := (List.range k).filter (heldP ls f)
def idLt (ls : List L) (i j : Nat) : Bool := decide ((ls.getD i L0).id < (ls.getD j L0).id)
/-- Of all that comes of a lot those that are Held, their numbers rising; and how many. -/
def heldI (ls : List L) (n : Nat) : List Nat := srtI (idLt ls) (heldK ls (comB ls n) ls.length)
def withHeld (ls : List L) (is : List Nat) : List (Nat × Nat) := is.map fun i => (i, (ls.getD i L0).held)
def heldQ (ls : List L) (n : Nat) : List (Nat × Nat) := withHeld ls (heldI ls n)

theorem heldK_yes {ls : List L} {f : Nat → Bool} {k : Nat} (h : heldP ls f k = true) : heldK ls f (k + 1) = heldK ls f k ++ [k] := by
  simp only [heldK, List.range_succ, List.filter_append, List.filter_cons, List.filter_nil, h, if_true]
theorem heldK_no {ls : List L} {f : Nat → Bool} {k : Nat} (h : heldP ls f k = false) : heldK ls f (k + 1) = heldK ls f k := by
  simp only [heldK, List.range_succ, List.filter_append, List.filter_cons, List.filter_nil, h, Bool.false_eq_true, if_false, List.append_nil]
theorem heldK_len (ls : List L) (f : Nat → Bool) (k : Nat) : (heldK ls f k).length ≤ k := by
  have := List.length_filter_le (heldP ls f) (List.range k)
  simpa [heldK] using this
theorem heldK_mem {ls : List L} {f : Nat → Bool} {k i : Nat} : i ∈ heldK ls f k ↔ i < k ∧ heldP ls f i = true := by simp [heldK]
theorem heldK_nodup (ls : List L) (f : Nat → Bool) (k : Nat) : (heldK ls f k).Nodup := List.nodup_range.filter _

theorem idLt_trans {ls : List L} {a b c : Nat} (h1 : idLt ls b a = false) (h2 : idLt ls c b = false) : idLt ls c a = false := by
  simp [idLt] at h1 h2 ⊢; omega
theorem idLt_asymm {ls : List L} {a b : Nat} (h : idLt ls a b = true) : idLt ls b a = false := by
  simp [idLt] at h ⊢; omega
theorem insI_srtG (lt : Nat → Nat → Bool) (htr : ∀ a b c, lt b a = false → lt c b = false → lt c a = false) (has : ∀ a b, lt a b = true → lt b a = false) (x : Nat) : ∀ l : List Nat, Srt lt l → Srt lt (insI lt x l)
  | [], _ => by simp [insI, Srt]
  | y :: r, h => by
    have hy := List.pairwise_cons.1 h
    unfold insI
    split
    · rename_i hlt
      refine List.pairwise_cons.2 ⟨fun b hb => ?_, insI_srtG lt htr has x r hy.2⟩
      rcases List.mem_cons.1 ((insI_perm _ x r).mem_iff.1 hb) with rfl | hb
      · exact has _ _ hlt
      · exact hy.1 b hb
    · rename_i hlt
      have hxy : lt y x = false := by simpa using hlt
      refine List.pairwise_cons.2 ⟨fun b hb => ?_, h⟩
      rcases List.mem_cons.1 hb with rfl | hb
      · exact hxy
      · exact htr _ _ _ hxy (hy.1 b hb)
theorem srtI_srtG (lt : Nat → Nat → Bool) (htr : ∀ a b c, lt b a = false → lt c b = false → lt c a = false) (has : ∀ a b, lt a b = true → lt b a = false) : ∀ l : List Nat, Srt lt (srtI lt l)
  | [] => List.Pairwise.nil
  | x :: r => insI_srtG lt htr has x _ (srtI_srtG lt htr has r)

/-- One sorted order there is. -/
theorem srt_unique {lt : Nat → Nat → Bool} : ∀ {l m : List Nat}, (∀ a ∈ l, ∀ b ∈ l, lt a b = false → lt b a = false → a = b) → l.Perm m → Srt lt l → Srt lt m → l = m
  | [], m, _, hp, _, _ => by rw [List.nil_perm.1 hp]
  | x :: l, [], _, hp, _, _ => absurd hp.length_eq (by simp)
  | x :: l, y :: m, ha, hp, hl, hm => by
    have hx := List.pairwise_cons.1 hl
    have hy := List.pairwise_cons.1 hm
    have hxm : x ∈ y :: m := hp.mem_iff.1 (by simp)
    have hyl : y ∈ x :: l := hp.mem_iff.2 (by simp)
    have e : x = y := by
      rcases List.mem_cons.1 hxm with h | h
      · exact h
      · rcases List.mem_cons.1 hyl with h' | h'
        · exact h'.symm
        · exact ha x (by simp) y hyl (hy.1 x h) (hx.1 y h')
    subst e
    have hp' := List.perm_cons x |>.1 hp
    rw [srt_unique (fun a h1 b h2 => ha a (by simp [h1]) b (by simp [h2])) hp' hx.2 hy.2]

theorem heldI_perm (ls : List L) (n : Nat) : (heldI ls n).Perm (heldK ls (comB ls n) ls.length) := srtI_perm _ _
theorem heldI_srt (ls : List L) (n : Nat) : Srt (idLt ls) (heldI ls n) := srtI_srtG (idLt ls) (fun _ _ _ => idLt_trans) (fun _ _ => idLt_asymm) _
theorem heldI_mem {ls : List L} {n i : Nat} : i ∈ heldI ls n ↔ i < ls.length ∧ heldP ls (comB ls n) i = true := by
  rw [(heldI_perm ls n).mem_iff, heldK_mem]
theorem heldI_len (ls : List L) (n : Nat) : (heldI ls n).length ≤ ls.length := by
  rw [(heldI_perm ls n).length_eq]; exact heldK_len _ _ _
theorem heldI_eq {ls : List L} (hids : ∀ i j, i < ls.length → j < ls.length → (ls.getD i L0).id = (ls.getD j L0).id → i = j) {n : Nat} {m : List Nat} (hp : m.Perm (heldK ls (comB ls n) ls.length)) (hs : Srt (idLt ls) m) : m = heldI ls n := by
  refine srt_unique (fun a h1 b h2 e1 e2 => ?_) (hp.trans (heldI_perm ls n).symm) hs (heldI_srt ls n)
  have a1 := (heldK_mem.1 (hp.mem_iff.1 h1)).1
  have b1 := (heldK_mem.1 (hp.mem_iff.1 h2)).1
  refine hids a b a1 b1 ?_
  simp only [idLt, decide_eq_false_iff_not] at e1 e2
  omega

theorem withHeld_len (ls : List L) (is : List Nat) : (withHeld ls is).length = is.length := by simp [withHeld]
theorem withHeld_at (ls : List L) (is : List Nat) {k : Nat} (hk : k < is.length) : (withHeld ls is).getD k (0, 0) = (is.getD k 0, (ls.getD (is.getD k 0) L0).held) := by
  simp [withHeld, List.getD_eq_getElem?_getD, hk]
theorem withHeld_snoc (ls : List L) (is : List Nat) (i : Nat) : withHeld ls (is ++ [i]) = withHeld ls is ++ [(i, (ls.getD i L0).held)] := by simp [withHeld]

end Go.Proofs.YtlmafelclgeccaaGreatDoor

namespace Go.Proofs.YtlmafelclgeccaaGreatDoor
set_option linter.unusedSimpArgs false
set_option linter.unusedVariables false
open Go.RowKit
set_option maxRecDepth 100000

set_option maxHeartbeats 800000 in
theorem cmp_any (x y : Int) (W : World) : Calls Tryz.prog 142 #[.int .i64 x, .int .i64 y] W fun e w' => e = .returned (.int .i64 (Lib.compareInt x y)) ∧ w' = W := by
  have h1 : (x != x) = false := by simp
  have h2 : (y != y) = false := by simp
  unfold Lib.compareInt
  by_cases hlt : x < y
  · rw [if_pos hlt]
    go_enter Tryz.func142, Tryz.ntmps142
    go_wp2_with (first | (go_at_call 150; go_in) | fail)
    go_ret
    exact ⟨rfl, rfl⟩
  · rw [if_neg hlt]
    by_cases hgt : y < x
    · rw [if_pos hgt]
      go_enter Tryz.func142, Tryz.ntmps142
      go_wp2_with (first | (go_at_call 150; go_in) | fail)
      go_ret
      exact ⟨rfl, rfl⟩
    · rw [if_neg hgt]
      go_enter Tryz.func142, Tryz.ntmps142
      go_wp2_with (first | (go_at_call 150; go_in) | fail)
      go_ret
      exact ⟨rfl, rfl⟩

end Go.Proofs.YtlmafelclgeccaaGreatDoor

namespace Go.Proofs.YtlmafelclgeccaaGreatDoor
set_option linter.unusedSimpArgs false
set_option linter.unusedVariables false
open Go.RowKit
set_option maxRecDepth 100000

theorem hkey_lit (a b : Nat) : WideAt.IsKeyLit (hkey a b) := trivial

theorem contains_app (rcs : List (Nat × Nat)) (p q : Nat × Nat) : (rcs ++ [p]).contains q = (rcs.contains q || q == p) := by
  rw [Bool.eq_iff_iff]; simp

theorem RD.put {rcs : List (Nat × Nat)} {D : DataW Unit} (h : RD rcs D) (ht : Maps.Tidy D) {a b : Nat} (ha : a ≤ 2147483647) (hb : b ≤ 2147483647) (hn : rcs.contains (a, b) = false) (d : DataW Unit) : RD (rcs ++ [(a, b)]) (D.put (hkey a b) d) where
  size := by rw [Maps.size_put ht, h.has a b ha hb, hn, h.size]; simp
  has := fun c e hc he => by
    rw [contains_app]
    by_cases hq : (c, e) = (a, b)
    · cases hq
      rw [Maps.has_put_same ht.isMap (hkey_lit _ _)]; simp
    · rw [Maps.has_put_other (fun x => hq (by obtain ⟨e1, e2⟩ := hkey_inj hc he ha hb x; rw [e1, e2])), h.has c e hc he]
      have : ((c, e) == (a, b)) = false := by rw [beq_eq_false_iff_ne]; exact hq
      rw [this, Bool.or_false]
  keys := fun kl hk => by
    by_cases hq : kl = hkey a b
    · exact ⟨(a, b), by simp, hq⟩
    · rw [Maps.has_put_other hq] at hk
      obtain ⟨p, hp, e⟩ := h.keys kl hk
      exact ⟨p, by simp [hp], e⟩
theorem Rc.put {rcs : List (Nat × Nat)} (h : Rc rcs) {a b : Nat} (ha : a ≤ 2147483647) (hb : b ≤ 2147483647) (hn : rcs.contains (a, b) = false) (hl : ¬ 10 ≤ rcs.length) : Rc (rcs ++ [(a, b)]) where
  nodup := by
    rw [List.nodup_append]
    refine ⟨h.nodup, by simp, fun x hx y hy e => ?_⟩
    simp at hy; subst hy; subst e
    have : rcs.contains (a, b) = true := by rw [List.contains_iff_mem]; exact hx
    rw [this] at hn; cases hn
  len := by simp; omega
  fits := fun p hp => by
    rcases List.mem_append.1 hp with hp | hp
    · exact h.fits p hp
    · simp at hp; subst hp; exact ⟨ha, hb⟩
theorem RD.del {rcs : List (Nat × Nat)} {D : DataW Unit} (h : RD rcs D) (hr : Rc rcs) (ht : Maps.Tidy D) {a b : Nat} (ha : a ≤ 2147483647) (hb : b ≤ 2147483647) (hn : rcs.contains (a, b) = true) : RD (rcs.erase (a, b)) (D.del (hkey a b)) where
  size := by
    have h1 := Maps.size_del (k := hkey a b) ht
    rw [h.has a b ha hb, hn, h.size] at h1
    rw [List.length_erase_of_mem (List.contains_iff_mem.1 hn)]
    simp at h1; omega
  has := fun c e hc he => by
    by_cases hq : (c, e) = (a, b)
    · cases hq
      rw [Maps.has_del_same]
      symm
      rw [Bool.eq_false_iff]; intro hx
      exact (hr.nodup.not_mem_erase) (List.contains_iff_mem.1 hx)
    · rw [Maps.has_del_other (fun x => hq (by obtain ⟨e1, e2⟩ := hkey_inj hc he ha hb x; rw [e1, e2])), h.has c e hc he]
      rw [Bool.eq_iff_iff, List.contains_iff_mem, List.contains_iff_mem, hr.nodup.mem_erase_iff]
      exact ⟨fun x => ⟨hq, x⟩, fun x => x.2⟩
  keys := fun kl hk => by
    by_cases hq : kl = hkey a b
    · subst hq; rw [Maps.has_del_same] at hk; cases hk
    · rw [Maps.has_del_other hq] at hk
      obtain ⟨p, hp, e⟩ := h.keys kl hk
      refine ⟨p, hr.nodup.mem_erase_iff.2 ⟨fun x => hq (by rw [e, x]), hp⟩, e⟩
theorem Rc.del {rcs : List (Nat × Nat)} (h : Rc rcs) (p : Nat × Nat) : Rc (rcs.erase p) where
  nodup := h.nodup.erase p
  len := Nat.le_trans (List.length_erase_le) h.len
  fits := fun q hq => h.fits q (List.mem_of_mem_erase hq)

/-- The recalls have turned, and nothing else. -/
theorem PV.rmap {rcs rcs' : List (Nat × Nat)} {w w' : World} {S : Nat} {M : Mx} {v : Value} {td : Nat} {bs : List Nat} {pvs : List Value} {ls : List L} {os : List O} (h : PV os rcs w S M v td bs pvs ls) (hg : w.grownBy w' (some M.r)) {D' : DataW Unit} {N : Nat} (ho : OwnsR w' M.r N D') (hD : RD rcs' D') (hR : Rc rcs') : PV os rcs' w' S M v td bs pvs ls := by
  obtain ⟨_, _, hm0⟩ := h.maps.mr
  have hc : ∀ (k : Nat) (cs : Array Value) (t : TypeId), w.heap[k]? = some (.cells cs t (0, 0)) → w'.heap[k]? = w.heap[k]? := fun k cs t hk => hg.block k (blk_lt hk) (fun e => map_ne hk hm0 (Option.some.inj e))
  have hm := h.maps
  obtain ⟨Do, hDo, hOD⟩ := hm.o
  obtain ⟨Dh, hDh, hHD⟩ := hm.h
  exact {
    store := (hc _ _ _ h.store).trans h.store
    maps := ⟨⟨D', owns_exact ho, hD⟩, hR, ⟨Do, owns_congr hDo (hg.block _ (World.ownsMap.lt hDo) (fun e => hm.ro (Option.some.inj e).symm)), hOD⟩, ⟨Dh, owns_congr hDh (hg.block _ (World.ownsMap.lt hDh) (fun e => hm.rh (Option.some.inj e).symm)), hHD⟩, hm.ro, hm.rh, hm.oh⟩
    row := own_congr h.row (fun g hg' => by obtain ⟨cs, hcs⟩ := own_ty h.row hg'; exact hc _ _ _ hcs)
    len := h.len
    plen := h.plen
    lot := fun i hi => (hc _ _ _ (h.lot i hi)).trans (h.lot i hi)
    par := fun i hi => (h.par i hi).congr (fun q hq => by obtain ⟨cs, hcs⟩ := (h.par i hi).blk hq; exact hc _ _ _ hcs)
    nodup := h.nodup
    today := h.today
    ok := h.ok
    room := h.room }

theorem look_r {w : World} {b n : Nat} {D : DataW Unit} {rcs : List (Nat × Nat)} (h : OwnsR w b n D) (hd : RD rcs D) (x y : Nat) (hx : x ≤ 2147483647) (hy : y ≤ 2147483647) :
    (Instr.lookup 105 (.map (some b)) (.agg #[.int .i64 (x : Int), .int .i64 (y : Int)]) true).run Tryz.prog w = .ok (.tuple #[.agg #[], .bool (rcs.contains (x, y))]) w := by
  obtain ⟨v, ps, hr, hv⟩ := World.ownsMap.look_ok h kRec tU56 (run_zero163 w) unitElem_mk (key_r hx hy)
  obtain ⟨rfl, _⟩ := unitElem_inv hv
  rw [hr, hd.has x y hx hy]

set_option maxHeartbeats 800000 in
theorem hasRecall_any {rcs : List (Nat × Nat)} {w : World} {S : Nat} {M : Mx} {v : Value} {td : Nat} {bs : List Nat} {pvs : List Value} {ls : List L} {os : List O} (h : PV os rcs w S M v td bs pvs ls) (x y : Nat) (hx : x ≤ 2147483647) (hy : y ≤ 2147483647) :
    Calls Tryz.prog 130 #[.pointer (some ⟨S, 0, none⟩), .agg #[.int .i64 (x : Int), .int .i64 (y : Int)]] w fun e w' => e = .returned (.bool (rcs.contains (x, y))) ∧ Below w.heap.size w w' := by
  have ha := al1 w (Obj.cells #[.int .i64 (x : Int), .int .i64 (y : Int)] 214)
  have hP := h.below ha
  obtain ⟨D, hD, hd⟩ := hP.maps.r
  have hlk := look_r (w := (w.alloc (Obj.cells #[.int .i64 (x : Int), .int .i64 (y : Int)] 214)).drew) hD hd x y hx hy
  have hlk0 := look_r hD hd x y hx hy
  have hlk2 := look_r (w := ((w.alloc (Obj.cells #[.int .i64 (x : Int), .int .i64 (y : Int)] 214)).alloc (Obj.cells #[] 216)).drew) (World.ownsMap.alloc hD _) hd x y hx hy
  have c4 := h.c4
  have hS := blk_lt h.store
  generalize rcs.contains (x, y) = bb at *
  clear h hD hd hP
  go_enter Tryz.func130, Tryz.ntmps130
  go_wp2_with fail
  go_region
  all_goals (go_wp2_with fail; go_ret; exact ⟨rfl, ((al1 w _).alloc (by simp) _).drew⟩)

def releaseC (rcs : List (Nat × Nat)) (a m : Nat) : Nat := if rcs.contains (a, m) then 0 else 10
def releaseS (rcs : List (Nat × Nat)) (a m : Nat) : List (Nat × Nat) := if rcs.contains (a, m) then rcs.erase (a, m) else rcs

set_option maxHeartbeats 1600000 in
theorem release_any {rcs : List (Nat × Nat)} {w : World} {S : Nat} {M : Mx} {v : Value} {td : Nat} {bs : List Nat} {pvs : List Value} {ls : List L} {os : List O} (h : PV os rcs w S M v td bs pvs ls) (a m : Nat) (h1 : a ≤ 2147483647) (h2 : m ≤ 2147483647) :
    Calls Tryz.prog 93 #[.pointer (some ⟨S, 0, none⟩), .agg #[.int .i64 (a : Int), .int .i64 (m : Int)]] w fun e w' => Kp (fun k => k = M.r) w w' ∧ e = .returned (.int .i64 (releaseC rcs a m : Int)) ∧ PV os (releaseS rcs a m) w' S M v td bs pvs ls := by
  have ha := (al1 w (Obj.cells #[.int .i64 (a : Int), .int .i64 (m : Int)] 155)).alloc (by simp) (Obj.cells #[.int .i64 (a : Int), .int .i64 (m : Int)] 214)
  have hP := h.below ha
  have HH := hide (hasRecall_any hP a m h1 h2)
  have hbx := heap_alloc_new (w.alloc (Obj.cells #[.int .i64 (a : Int), .int .i64 (m : Int)] 155)) (Obj.cells #[.int .i64 (a : Int), .int .i64 (m : Int)] 214)
  have HP := hide hP
  have HA := hide ha
  cases hc : rcs.contains (a, m) with
  | false =>
    have HC : Hid (releaseC rcs a m = 10) := by unfold Hid releaseC; rw [hc]; rfl
    have HS : Hid (releaseS rcs a m = rcs) := by unfold Hid releaseS; rw [hc]; rfl
    rw [hc] at HH
    rw [HC.out, HS.out]
    clear hc h hP hbx ha
    go_enter Tryz.func93, Tryz.ntmps93
    go_wp2_with (go_at_call 130; refine (HH.out).mono ?_; rintro e w1 ⟨rfl, hb1⟩)
    go_ret
    exact ⟨kpB (HA.out.trans (hb1.mono HA.out.size)), rfl, HP.out.below hb1⟩
  | true =>
    have HC : Hid (releaseC rcs a m = 0) := by unfold Hid releaseC; rw [hc]; rfl
    have HS : Hid (releaseS rcs a m = rcs.erase (a, m)) := by unfold Hid releaseS; rw [hc]; rfl
    have HCon := hide hc
    rw [hc] at HH
    rw [HC.out, HS.out]
    have HBX := hide hbx
    clear hc h hP hbx ha
    go_enter Tryz.func93, Tryz.ntmps93
    go_wp2_with fail
    refine (HH.out).mono ?_
    rintro e w1 ⟨rfl, hb1⟩
    have hP1 := HP.out.below hb1
    have hbx1 := (hb1.block _ (blk_lt HBX.out)).trans HBX.out
    simp only [World.size_alloc] at hbx1
    have k0 : w1.cell? ⟨w.heap.size + 1, 0, none⟩ = some (.int .i64 (a : Int)) := by rw [blk_cell hbx1]; rfl
    have k1 : w1.cell? ⟨w.heap.size + 1, 1, none⟩ = some (.int .i64 (m : Int)) := by rw [blk_cell hbx1]; rfl
    have s4 := hP1.c4
    obtain ⟨D, hD, hRD⟩ := hP1.maps.r
    obtain ⟨w4, hrun, hown4, hturn⟩ := World.ownsMap.drop (w := w1.drew) hD kRec tU56 (key_r h1 h2) 0
    have hgr4 := hturn.grown
    have hP4 := (hP1.below (Below.refl _ _).drew).rmap hgr4 hown4 (hRD.del hP1.maps.rc (World.ownsMap.tidy hD kRec) h1 h2 HCon.out) (hP1.maps.rc.del _)
    have HP4 := hide hP4
    have HK4 : Hid (Kp (fun k => k = M.r) w w4) := (kpB ((HA.out.trans (hb1.mono HA.out.size)).drew)).trans (turned_kp hturn (Or.inl rfl))
    clear hD hRD hown4 hturn hgr4 hP4 hP1 hbx1 hb1
    go_wp2_with fail
    go_region
    go_wp2_with fail
    go_ret
    exact ⟨HK4.out, rfl, HP4.out⟩

end Go.Proofs.YtlmafelclgeccaaGreatDoor

namespace Go.Proofs.YtlmafelclgeccaaGreatDoor
set_option linter.unusedSimpArgs false
set_option linter.unusedVariables false
open Go.RowKit
set_option maxRecDepth 100000

/-- Where lines lie: a lot's place and how many, one behind the other. -/
def LineAt (w : World) (bs : List Nat) (a : Option Addr) (l : List (Nat × Nat)) : Prop := ∀ k, k < l.length → ∃ G, a = some ⟨G, 0, none⟩ ∧ G < w.heap.size ∧ w.cell? ⟨G, k * 2, none⟩ = some (.pointer (some ⟨bs.getD (l.getD k (0, 0)).1 0, 0, none⟩)) ∧ w.cell? ⟨G, k * 2 + 1, none⟩ = some (.int .i64 ((l.getD k (0, 0)).2 : Int))

/-- What the sort of the lines does. -/
def SortOK : Prop := ∀ (w : World) (bs : List Nat) (ls : List L) (base : Nat) (a : Option Addr) (cap : Nat) (is : List Nat), LotsOK w bs ls → (∀ x ∈ ls, L.Ok x) → 0 < ls.length → (∀ i ∈ is, i < ls.length) → is.length ≤ 30 →
  w.ownsRow base 212 2 (.slice a is.length cap) is.length (lineCells bs (withHeld ls is)) →
  Calls Tryz.prog 140 #[.slice a is.length cap, .func (.func 141) #[] #[]] w fun e w' => e = .returned (.tuple #[]) ∧ w.grownBy w' (Value.slice a is.length cap).ownBlock ∧ ∃ js : List Nat, js.Perm is ∧ Srt (idLt ls) js ∧ LineAt w' bs a (withHeld ls js)

set_option maxHeartbeats 3200000 in
theorem heldOf_any (hS : SortOK) {rcs : List (Nat × Nat)} {w : World} {S : Nat} {M : Mx} {v : Value} {td : Nat} {bs : List Nat} {pvs : List Value} {ls : List L} {os : List O} (h : PV os rcs w S M v td bs pvs ls) (hids : ∀ i j, i < ls.length → j < ls.length → (ls.getD i L0).id = (ls.getD j L0).id → i = j) (n : Nat) (hn : n ≤ 2147483647) (hpos : 0 < ls.length) :
    Calls Tryz.prog 131 #[.pointer (some ⟨S, 0, none⟩), .int .i64 (n : Int)] w fun e w' => Below w.heap.size w w' ∧ ∃ a cap, e = .returned (.slice a (heldQ ls n).length cap) ∧ LineAt w' bs a (heldQ ls n) := by
  have hmm := @run_makeMap Tryz.prog
  obtain ⟨i0, hi, hz0, hz1, hz2⟩ := info_parts infoLine
  obtain ⟨a, cap, hv, _⟩ := h.shape
  have c1 := h.c1
  rw [hv] at c1
  have hroom := h.room
  have hSlt := blk_lt h.store
  have hMr : M.r < w.heap.size := by obtain ⟨_, _, q⟩ := h.maps.mr; exact blk_lt q
  have hMo : M.o < w.heap.size := by obtain ⟨_, _, q⟩ := h.maps.mo; exact blk_lt q
  have hMh : M.h < w.heap.size := by obtain ⟨_, _, q⟩ := h.maps.mh; exact blk_lt q
  have hF0 : OwnsF (w.alloc (.map #[] 0)) w.heap.size 0 (.map []) := World.ownsMap_made _ _ _ _
  obtain ⟨wf, hrun, hownf, hgrf⟩ := World.ownsMap.update hF0 kInt tU155 (by unfold maxLen; omega) (key_o hn) unitElem_mk
  have hbf : Below w.heap.size w wf := (al1 w _).grown hgrf (al1 w _).size (fun k hk => by cases hk; exact Nat.le_refl _)
  have hfd : FD (fun m => m == n) ((DataW.map []).put (okey n) (.agg [])) := by
    have h0 : FD (fun _ => false) (DataW.map [] : DataW Unit) := fun m _ => rfl
    have h1 := h0.put (World.ownsMap.isMap hF0) n (.agg [])
    have e : (fun x => false || x == n) = fun m => m == n := by funext x; simp
    rw [e] at h1; exact h1
  have HG := hide (grow_any (h.below hbf) hownf hfd (by omega) ⟨by omega, by omega, by omega⟩)
  have HV := hide hv
  have HP := hide h
  have HBF := hide hbf
  have HIDS := hide hids
  clear h hv hF0 hownf hgrf hfd hids hbf
  go_enter Tryz.func131, Tryz.ntmps131
  go_wp2_with fail
  refine (HG.out).mono ?_
  rintro e w1 ⟨rfl, hg1, N, D, hmf, hfd⟩
  have HB1 : Hid (Below w.heap.size w w1) := HBF.out.grown hg1 HBF.out.size (fun k hk => by cases hk; exact Nat.le_refl _)
  have cS1 : w1.cell? ⟨S, 1, none⟩ = some (.slice a ls.length cap) := (HB1.out.cell (by exact hSlt)).trans c1
  have HMF := hide hmf
  have HFD := hide hfd
  clear hg1 hmf hfd hrun HG c1
  go_wp2_with fail
  go_loopw [6, 8, 21] (fun lv _ ii wr => ∃ k : Nat, k ≤ ls.length ∧ ii = .int .i64 k ∧ wr.ownsRow w1.heap.size 212 2 lv (heldK ls (comB ls n) k).length (lineCells bs (withHeld ls (heldK ls (comB ls n) k))) ∧ Below w1.heap.size w1 wr) (fun _ _ ii _ => ls.length - (intOf ii).toNat)
  case atStart => exact ⟨0, by omega, rfl, World.ownsRow_nil _ _ _ _, Below.refl _ _⟩
  case round =>
    obtain ⟨k, hk, rfl, hown, hb⟩ := hrel
    obtain ⟨la, lc, hlv⟩ := own_shapeS hown
    subst hlv
    have hlen := heldK_len ls (comB ls n) k
    have hb0 : Below w.heap.size w wr := HB1.out.trans (hb.mono HB1.out.size)
    have hPr := HP.out.below hb0
    by_cases hlt : k < ls.length
    · obtain ⟨a2, cap2, hv2, hrow⟩ := hPr.shape
      rw [HV.out] at hv2
      obtain ⟨ha2, -, hcap2⟩ := Value.slice.inj hv2
      subst ha2 hcap2
      obtain ⟨G, hG, hcells⟩ := hrow (by omega)
      rw [hG]
      have hck := hcells k hlt
      have hok := hPr.ok _ (mem_getD hlt)
      have hl0 : wr.cell? ⟨bs.getD k 0, 0, none⟩ = some (.int .i64 ((ls.getD k L0).id : Int)) := by rw [hPr.cl k hlt 0]; rfl
      have hl7 : wr.cell? ⟨bs.getD k 0, 7, none⟩ = some (.int .i64 ((ls.getD k L0).held : Int)) := by rw [hPr.cl k hlt 7]; rfl
      have hblt : bs.getD k 0 < wr.heap.size := blk_lt (hPr.lot k hlt)
      have hid := hok.id
      have hhl : (ls.getD k L0).held ≤ 2147483647 := by have := hok.sum; omega
      have hmw : OwnsF wr w.heap.size N D := owns_congr HMF.out (hb.block _ (World.ownsMap.lt HMF.out))
      have HHA := hide (has_any hmw hid hl0)
      rw [HFD.out _ hid] at HHA
      have HHP : Hid (heldP ls (comB ls n) k = (decide (0 < (ls.getD k L0).held) && comB ls n (ls.getD k L0).id)) := rfl
      have HYes := hide (heldK_yes (ls := ls) (f := comB ls n) (k := k))
      have HNo := hide (heldK_no (ls := ls) (f := comB ls n) (k := k))
      obtain ⟨bk, HBK⟩ : ∃ bk, Hid (bk = bs.getD k 0) := ⟨_, rfl⟩
      rw [← HBK.out] at hck hl0 hl7 hblt HHA
      obtain ⟨hd, HHD⟩ : ∃ hd, Hid (hd = (ls.getD k L0).held) := ⟨_, rfl⟩
      rw [← HHD.out] at hl7 hhl HHP
      obtain ⟨idk, HIDK⟩ : ∃ idk, Hid (idk = (ls.getD k L0).id) := ⟨_, rfl⟩
      rw [← HIDK.out] at hl0 hid HHP HHA
      have HEF : Hid (famB ls (fun m => m == n) idk = comB ls n idk) := rfl
      rw [HEF.out] at HHA
      have HO := hide hown
      have HB := hide hb
      clear hcells hG hrow hPr hok hmw hown hb hb0
      by_cases hh : 0 < hd
      · have hhb : decide ((0 : Int) < (hd : Int)) = true := by simp; omega
        cases hc : comB ls n idk with
        | true =>
          rw [hc] at HHA
          have HY := HYes.out (by rw [HHP.out, hc]; simp [hh])
          have HY2 := hide HY
          clear HYes HNo HY hc
          obtain ⟨hl, HHL⟩ : ∃ hl, Hid (hl = (heldK ls (comB ls n) k).length) := ⟨_, rfl⟩
          rw [← HHL.out] at HO hlen
          rw [← HHL.out]
          go_wp2_with (first
            | (go_at_call 133; refine (HHA.out).mono ?_; rintro e w2 ⟨rfl, hb2⟩; have hm7 : w2.cell? ⟨bk, 7, none⟩ = some (.int .i64 (hd : Int)) := (hb2.cell (by exact hblt)).trans hl7)
            | (at_builtin; refine wpList_append_own _ rfl _ _ 205 rfl w1.heap.size 212 i0 (.agg #[.pointer none, .int .i64 0]) 2 16 tULines hi hz0 hz1 hz2 rfl (by decide) _ hl (lineCells bs (withHeld ls (heldK ls (comB ls n) k))) rfl ((own_below HO.out hb2).alloc _) ⟨w2.heap.size, 0, none⟩ 1 1 [.pointer (some ⟨bk, 0, none⟩), .int .i64 (hd : Int)] rfl rfl ?c1 ?c2 ?c3 ?c4 ?c5 ?_))
          case c1 => exact cell_two_new w2 _ _ _
          case c2 => intro u hu; simp at hu; rcases hu with rfl | rfl <;> rfl
          case c3 => unfold maxLen; omega
          case c4 => omega
          case c5 => have := HB.out.size; have := hb2.size; simp; omega
          intro lv2 w6 hown6 hgrow hnn
          have hbb : Below w1.heap.size w1 w6 := ((HB.out.trans (hb2.mono HB.out.size)).alloc (by have := HB.out.size; have := hb2.size; omega) _).grown hgrow (by have := HB.out.size; have := hb2.size; simp; omega) (fun q hq => (HO.out.lt q hq).1)
          have HO6 : Hid (w6.ownsRow w1.heap.size 212 2 lv2 (heldK ls (comB ls n) (k + 1)).length (lineCells bs (withHeld ls (heldK ls (comB ls n) (k + 1))))) := by
            unfold Hid
            rw [HY2.out, withHeld_snoc, lineCells_snoc, List.length_append, List.length_singleton, ← HHL.out, ← HHD.out, ← HBK.out]
            exact hown6
          have HBB := hide hbb
          clear hown6 hgrow hnn hbb hb2
          go_wp2_with fail
          go_roundw
          case rel => exact ⟨k + 1, by omega, by go_num, HO6.out, HBB.out⟩
          case measure => simp [intOf]; omega
        | false =>
          rw [hc] at HHA
          have HN2 := hide (HNo.out (by rw [HHP.out, hc]; simp))
          clear HYes HNo hc
          go_wp2_with (first | (go_at_call 133; refine (HHA.out).mono ?_; rintro e w2 ⟨rfl, hb2⟩) | fail)
          go_roundw
          case rel => exact ⟨k + 1, by omega, by go_num, by rw [HN2.out]; exact own_below HO.out hb2, HB.out.trans (hb2.mono HB.out.size)⟩
          case measure => simp [intOf]; omega
      · have hhb : decide ((0 : Int) < (hd : Int)) = false := by simp; omega
        have HN2 := hide (HNo.out (by rw [HHP.out]; simp [hh]))
        clear HYes HNo
        go_wp2_with fail
        go_roundw
        case rel => exact ⟨k + 1, by omega, by go_num, by rw [HN2.out]; exact HO.out, HB.out⟩
        case measure => simp [intOf]; omega
    · obtain rfl : k = ls.length := by omega
      have HSo := hide (hS wr bs ls w1.heap.size la lc (heldK ls (comB ls n) ls.length) hPr.lots hPr.ok hpos (fun i hi => (heldK_mem.1 hi).1) (by omega) hown)
      have HB0 := hide hb0
      have HO := hide hown
      have HWS := hide hb.size
      clear hown hb hb0 hPr hlt
      go_wp2_with fail
      refine (HSo.out).mono ?_
      rintro e w5 ⟨rfl, hg5, js, hperm, hsrt, hat⟩
      have HE : Hid (js = heldI ls n) := heldI_eq HIDS.out hperm hsrt
      have HAT := hide hat
      have HB5 : Hid (Below w.heap.size w w5) := HB0.out.grown hg5 HB0.out.size (fun q hq => by have := (HO.out.lt q hq).1; have := HB1.out.size; omega)
      have HLn : Hid ((heldK ls (comB ls n) ls.length).length = (heldQ ls n).length) := by unfold Hid heldQ; rw [withHeld_len, (heldI_perm ls n).length_eq]
      clear hg5 hperm hsrt hat
      go_wp2_with fail
      go_ret
      refine ⟨HB5.out, la, lc, by rw [← HLn.out]; rfl, ?_⟩
      unfold heldQ; rw [← HE.out]; exact HAT.out

end Go.Proofs.YtlmafelclgeccaaGreatDoor

namespace Go.Proofs.YtlmafelclgeccaaGreatDoor
set_option linter.unusedSimpArgs false
set_option linter.unusedVariables false
open Go.Shelf Go.RowKit Go.Lib Go.Sort
set_option maxRecDepth 100000

shelf_lay_g SlLaysF0.n6 Slsf 6 at Tryz 140 as sortLine

theorem isAggLine (w : World) : (isAgg 212).run Tryz.prog w = .ok true w := by kernel_rfl
theorem sizeOfLine (w : World) : (Go.sizeOf 212).run Tryz.prog w = .ok 2 w := by kernel_rfl

/-- A place within the lots. -/
def cl (ls : List L) (i : Nat) : Nat := if i < ls.length then i else 0
theorem cl_lt {ls : List L} (h : 0 < ls.length) (i : Nat) : cl ls i < ls.length := by unfold cl; split <;> omega
theorem cl_eq {ls : List L} {i : Nat} (h : i < ls.length) : cl ls i = i := if_pos h
def encL (bs : List Nat) (ls : List L) (i : Nat) : List Value := [.pointer (some ⟨bs.getD (cl ls i) 0, 0, none⟩), .int .i64 ((ls.getD (cl ls i) L0).held : Int)]
def cfL (ls : List L) (i j : Nat) : Int := Lib.compareInt ((ls.getD (cl ls i) L0).id : Int) ((ls.getD (cl ls j) L0).id : Int)

theorem ltL (ls : List L) (i j : Nat) : ltOf (cfL ls) i j = idLt ls (cl ls i) (cl ls j) := by
  unfold ltOf cfL Lib.compareInt idLt
  by_cases h1 : (ls.getD (cl ls i) L0).id < (ls.getD (cl ls j) L0).id
  · have h2 : ((ls.getD (cl ls i) L0).id : Int) < ((ls.getD (cl ls j) L0).id : Int) := by omega
    rw [if_pos h2, decide_eq_true h1]; rfl
  · have h2 : ¬ ((ls.getD (cl ls i) L0).id : Int) < ((ls.getD (cl ls j) L0).id : Int) := by omega
    rw [if_neg h2, decide_eq_false h1]
    split <;> rfl
theorem swoL (ls : List L) : SWO (ltOf (cfL ls)) where
  irrefl x := by rw [ltL]; simp [idLt]
  trans x y z h1 h2 := by rw [ltL] at *; simp [idLt] at *; omega
  ntrans x y z h1 h2 := by rw [ltL] at *; simp [idLt] at *; omega

set_option maxHeartbeats 1000000 in
theorem closure_any (x y : Nat) (hx hy : Int) (b c : Nat) (W : World) (h1 : W.cell? ⟨b, 0, none⟩ = some (.int .i64 (x : Int))) (h2 : W.cell? ⟨c, 0, none⟩ = some (.int .i64 (y : Int))) (hb : b < W.heap.size) (hc : c < W.heap.size) :
    Calls Tryz.prog 141 #[.agg #[.pointer (some ⟨b, 0, none⟩), .int .i64 hx], .agg #[.pointer (some ⟨c, 0, none⟩), .int .i64 hy]] W fun e w' => e = .returned (.int .i64 (Lib.compareInt (x : Int) (y : Int))) ∧ ∃ q os', w' = grow (W.drewN q) os' := by
  have hcon := fun W' => cmp_any (x : Int) (y : Int) W'
  generalize Lib.compareInt (x : Int) (y : Int) = r at hcon ⊢
  go_enter Tryz.func141, Tryz.ntmps141
  go_wp2_with fail
  go_quiet ((go_at_call 142; exact Calls.quiet_of_same (hcon _)))
  go_wp2_with fail
  go_ret
  exact ⟨rfl, nq, _, by rw [alloc_eq_grow, alloc_eq_grow, grow_grow]; rfl⟩

theorem grownBy_sortK {w : World} {g n : Nat} {os : Array Obj} (enc : Nat → List Value) (k : Nat) (d : Array Nat) : w.grownBy (sortWorldK enc k w g 0 n d os) (some g) := by
  unfold sortWorldK putRowK
  refine ⟨rfl, rfl, rfl, by simp, fun q hq hne => ?_⟩
  rw [heap_grow_old _ _ (by simpa using hq)]
  have : g ≠ q := fun e => hne (by rw [e])
  simp [putRow, mapBlock, Sort.ahead, Array.getElem?_modify, this]

theorem holdsL {w : World} {base G cap : Nat} {bs : List Nat} {ls : List L} {is : List Nat} (h : w.ownsRow base 212 2 (.slice (some ⟨G, 0, none⟩) is.length cap) is.length (lineCells bs (withHeld ls is))) (hin : ∀ i ∈ is, i < ls.length) : HoldsK (encL bs ls) 2 w G 0 is.toArray := by
  intro t ht
  rw [size_flatK] at ht
  have ht' : t < is.length * 2 := by simpa using ht
  rw [get_flatK _ _ _ _ (by simpa using ht')]
  have hk : t / 2 < is.length := by omega
  have hl : (withHeld ls is).length = is.length := withHeld_len ls is
  have hr := h
  rw [← hl] at hr
  obtain ⟨G', hG', hlt, g1, g2⟩ := lines_cells hr (t / 2) (by rw [hl]; exact hk)
  cases hG'
  rw [withHeld_at ls is hk] at g1 g2
  have hm : is.getD (t / 2) 0 < ls.length := hin _ (by simp [List.getD_eq_getElem?_getD, hk])
  have hd : is.toArray[t / 2]! = is.getD (t / 2) 0 := by simp [List.getD_eq_getElem?_getD, hk]
  obtain ⟨cs, hcs⟩ := own_ty h (g := G) rfl
  refine ⟨?_, by simp [World.frozen?, hcs]⟩
  rw [hd, Nat.zero_add]
  rcases (show t % 2 = 0 ∨ t % 2 = 1 by omega) with h0 | h0
  · have e : t = t / 2 * 2 := by omega
    rw [h0, show w.cell? ⟨G, t, none⟩ = w.cell? ⟨G, t / 2 * 2, none⟩ by rw [← e], g1]
    show _ = some ((encL bs ls (is.getD (t / 2) 0))[0]!)
    unfold encL; rw [cl_eq hm]; rfl
  · have e : t = t / 2 * 2 + 1 := by omega
    rw [h0, show w.cell? ⟨G, t, none⟩ = w.cell? ⟨G, t / 2 * 2 + 1, none⟩ by rw [← e], g2]
    show _ = some ((encL bs ls (is.getD (t / 2) 0))[1]!)
    unfold encL; rw [cl_eq hm]; rfl

theorem lineAt_of_holds {w : World} {G : Nat} {bs : List Nat} {ls : List L} {js : List Nat} (hG : G < w.heap.size) (h : HoldsK (encL bs ls) 2 w G 0 js.toArray) (hin : ∀ i ∈ js, i < ls.length) : LineAt w bs (some ⟨G, 0, none⟩) (withHeld ls js) := by
  intro k hk
  rw [withHeld_len] at hk
  rw [withHeld_at ls js hk]
  have hm : js.getD k 0 < ls.length := hin _ (by simp [List.getD_eq_getElem?_getD, hk])
  have hd : js.toArray[k]! = js.getD k 0 := by simp [List.getD_eq_getElem?_getD, hk]
  have h1 := (h (k * 2) (by rw [size_flatK]; simp; omega)).1
  have h2 := (h (k * 2 + 1) (by rw [size_flatK]; simp; omega)).1
  rw [get_flatK _ _ _ _ (by simp; omega), Nat.zero_add] at h1 h2
  rw [show k * 2 / 2 = k by omega, show k * 2 % 2 = 0 by omega, hd] at h1
  rw [show (k * 2 + 1) / 2 = k by omega, show (k * 2 + 1) % 2 = 1 by omega, hd] at h2
  refine ⟨G, rfl, hG, ?_, ?_⟩
  · rw [h1]
    show some ((encL bs ls (js.getD k 0))[0]!) = _
    unfold encL; rw [cl_eq hm]; rfl
  · rw [h2]
    show some ((encL bs ls (js.getD k 0))[1]!) = _
    unfold encL; rw [cl_eq hm]; rfl

theorem sortOK : SortOK := by
  intro w bs ls base a cap is hlo hok hpos hin hlen h
  by_cases h0 : is.length = 0
  · have hn : is = [] := List.length_eq_zero_iff.1 h0
    subst hn
    have hc := AnyF.slices_SortFunc_none (P := Tryz.prog) sortLine a cap (.func (.func 141) #[] #[]) w
    refine hc.mono ?_
    rintro e w' ⟨rfl, rfl⟩
    exact ⟨rfl, ⟨rfl, rfl, rfl, Nat.le_refl _, fun _ _ _ => rfl⟩, [], List.Perm.refl _, List.Pairwise.nil, fun k hk => absurd hk (by simp [withHeld])⟩
  · have hl0 : (withHeld ls is).length = is.length := withHeld_len ls is
    have hr0 := h
    rw [← hl0] at hr0
    obtain ⟨G, hG0, hGlt, _, _⟩ := lines_cells hr0 0 (by rw [hl0]; omega)
    subst hG0
    clear hr0 hl0
    have eg : ∀ args w, (callFunc 141 args).run Tryz.prog w = .ok (.enter 141 args) w := enters_of Tryz.func141 (by kernel_rfl) rfl
    obtain ⟨csG, hcsG⟩ := own_ty h (g := G) rfl
    have hcmp : CmpLays Tryz.prog 141 #[] (encL bs ls) 2 (cfL ls) G 0 is.toArray.size w := by
      intro m os dk hs x y
      obtain ⟨pvx, hbx⟩ := hlo (cl ls x) (cl_lt hpos x)
      obtain ⟨pvy, hby⟩ := hlo (cl ls y) (cl_lt hpos y)
      have hgr := grownBy_sortK (w := w) (g := G) (n := m) (os := os) (encL bs ls) 2 dk
      have qx := (hgr.block _ (blk_lt hbx) (fun e => ty_ne hbx hcsG (by decide) (Option.some.inj e))).trans hbx
      have qy := (hgr.block _ (blk_lt hby) (fun e => ty_ne hby hcsG (by decide) (Option.some.inj e))).trans hby
      exact closure_any (ls.getD (cl ls x) L0).id (ls.getD (cl ls y) L0).id _ _ _ _ _ (by rw [blk_cell qx]; rfl) (by rw [blk_cell qy]; rfl) (blk_lt qx) (blk_lt qy)
    have hH := holdsL h hin
    have hcon := AnyQ.slices_SortFunc sortLine 2 isAggLine sizeOfLine (encL bs ls) (fun _ => rfl) (fun x v hv => by simp [encL] at hv; rcases hv with rfl | rfl <;> rfl) (cfL ls) (swoL ls) 141 #[] G 0 cap is.toArray w eg hcmp hH hGlt (by simp; omega)
    have e1 : is.toArray.size = is.length := by simp
    rw [e1] at hcon
    refine hcon.mono ?_
    rintro e w' ⟨rfl, d', n, os, hp, hs, rfl⟩
    obtain ⟨hp1, hp2, hp3⟩ := hp
    have hds : d'.size = is.length := by rw [hp1]; simp
    have hperm : d'.toList.Perm is := by
      have e2 : d'.extract 0 is.length = d' := by rw [← hds]; simp
      have e3 : (is.toArray.extract 0 is.length).toList = is := by simp
      have h3 := hp3
      rw [e2, e3] at h3; exact h3
    refine ⟨rfl, grownBy_sortK _ _ _, d'.toList, hperm, ?_, ?_⟩
    · refine List.pairwise_iff_getElem.2 (fun i j hi hj hij => ?_)
      rw [Array.length_toList, hds] at hi hj
      have h4 := hs i j (Nat.zero_le _) hij hj
      rw [ltL] at h4
      have gi : d'[i]! = d'.toList[i] := by simp [show i < d'.size by omega]
      have gj : d'[j]! = d'.toList[j] := by simp [show j < d'.size by omega]
      rw [gi, gj] at h4
      have mi : d'.toList[i] < ls.length := hin _ (hperm.mem_iff.1 (by simp))
      have mj : d'.toList[j] < ls.length := hin _ (hperm.mem_iff.1 (by simp))
      rw [cl_eq mi, cl_eq mj] at h4
      exact h4
    · have hH' := holdsK_sortWorldK (encL bs ls) 2 w G 0 n is.toArray d' os hGlt hH (by rw [hds]; simp)
      exact lineAt_of_holds (lt_sortWorldK (encL bs ls) 2 w G 0 n d' os hGlt) (by simpa using hH') (fun i hi => hin i (hperm.mem_iff.1 hi))

end Go.Proofs.YtlmafelclgeccaaGreatDoor
