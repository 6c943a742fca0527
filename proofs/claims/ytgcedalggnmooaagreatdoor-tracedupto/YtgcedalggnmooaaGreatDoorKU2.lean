import Derived.Test.YtgcedalggnmooaaGreatDoorKU0
namespace Go.Proofs.YtgcedalggnmooaaGreatDoor
set_option linter.unusedSimpArgs false
set_option linter.unusedVariables false
set_option maxRecDepth 100000

/-- What the order 77 is given; the error; the store behind it. -/
def qO (s : Sv) (g c y : Nat) : List (Nat × Nat) := linesQ s.rcs s.td g c 0 y s.ls
def eO (s : Sv) (g c y : Nat) : Nat := askC s.rcs s.os s.td s.ls 77 g c 0 y
def tO (s : Sv) (g c y : Nat) : List Nat := if eO s g c y = 0 then toldQ s.ls (qO s g c y) else []
def sO (s : Sv) (g c y : Nat) : Sv := if eO s g c y = 0 then ⟨s.td, s.os ++ [oV s.ls g (qO s g c y)], s.rcs, holdS s.ls (qO s g c y), s.lg⟩ else s
def sH (s : Sv) (g c y : Nat) : Sv := ⟨s.td, s.os, s.rcs, (holdS s.ls (qO s g c y)).map (finL shipL (s.os ++ [oV s.ls g (qO s g c y)]) 77), s.lg⟩

theorem ord_step (s : Sv) (g c y : Nat) : repV s (.ok (5, [77, g, c, 0, y])) = UInt8.ofNat (eO s g c y) :: Pl.toldB (tO s g c y) ∧ stepZ s (.ok (5, [77, g, c, 0, y])) = sO s g c y := by
  have e1 : repV s (.ok (5, [77, g, c, 0, y])) = askR s.rcs s.os s.td s.ls 77 g c 0 y := rfl
  have e2 : stepZ s (.ok (5, [77, g, c, 0, y])) = ⟨s.td, askO s.rcs s.os s.td s.ls 77 g c 0 y, s.rcs, askL s.rcs s.os s.td s.ls 77 g c 0 y, s.lg⟩ := rfl
  rw [e1, e2]
  unfold tO sO eO askR askO askL
  by_cases h0 : askC s.rcs s.os s.td s.ls 77 g c 0 y = 0
  · rw [if_pos h0, if_pos h0, if_pos h0, if_pos h0, if_pos h0, h0]; exact ⟨rfl, rfl⟩
  · rw [if_neg h0, if_neg h0, if_neg h0, if_neg h0, if_neg h0]; exact ⟨rfl, rfl⟩

/-- Where there is no order 77, Cancel finds none. -/
theorem can_none {s : Sv} (h : ∀ o ∈ s.os, o.id ≤ 4) : repV s (.ok (6, [77])) = UInt8.ofNat 9 :: Pl.toldB [] ∧ stepZ s (.ok (6, [77])) = s := by
  have e1 : repV s (.ok (6, [77])) = [UInt8.ofNat (endC s.os 77)] := rfl
  have e2 : stepZ s (.ok (6, [77])) = ⟨s.td, s.os.filter (fun o => o.id != 77), s.rcs, s.ls.map (finL freeL s.os 77), s.lg⟩ := rfl
  rw [e1, e2]
  refine ⟨by unfold endC; rw [any77 h]; rfl, ?_⟩
  rw [filter77 h]
  have : s.ls.map (finL freeL s.os 77) = s.ls := by
    refine List.map_id'' (fun l => ?_) _
    unfold finL; rw [line77 h]
  rw [this]

theorem can_back {B : Nat} {w0 w : World} {Z : Nat → Prop} {Lb : Nat} {s : Sv} (hk : Kv B w0 w Z Lb s) (h : Sc s) (g c y : Nat) (h0 : eO s g c y = 0) : repV (sO s g c y) (.ok (6, [77])) = UInt8.ofNat 0 :: Pl.toldB [] ∧ stepZ (sO s g c y) (.ok (6, [77])) = s := by
  have hs : sO s g c y = ⟨s.td, s.os ++ [oV s.ls g (qO s g c y)], s.rcs, holdS s.ls (qO s g c y), s.lg⟩ := by unfold sO; rw [if_pos h0]
  rw [hs]
  have e1 : repV ⟨s.td, s.os ++ [oV s.ls g (qO s g c y)], s.rcs, holdS s.ls (qO s g c y), s.lg⟩ (.ok (6, [77])) = [UInt8.ofNat (endC (s.os ++ [oV s.ls g (qO s g c y)]) 77)] := rfl
  have e2 : stepZ ⟨s.td, s.os ++ [oV s.ls g (qO s g c y)], s.rcs, holdS s.ls (qO s g c y), s.lg⟩ (.ok (6, [77])) = ⟨s.td, (s.os ++ [oV s.ls g (qO s g c y)]).filter (fun o => o.id != 77), s.rcs, (holdS s.ls (qO s g c y)).map (finL freeL (s.os ++ [oV s.ls g (qO s g c y)]) 77), s.lg⟩ := rfl
  rw [e1, e2]
  have hf := linesQ_facts (rcs := s.rcs) s.td g c 0 y s.ls hk.room
  refine ⟨?_, ?_⟩
  · have : endC (s.os ++ [oV s.ls g (qO s g c y)]) 77 = 0 := by unfold endC; simp [oV]
    rw [this]; rfl
  · rw [filter77' h.os, undo_ls hk.good h.os g (qO s g c y) hf.2.1 hf.2.2.1 hf.2.2.2.1]

theorem ship_step {s : Sv} (h : Sc s) (g c y : Nat) (h0 : eO s g c y = 0) : repV (sO s g c y) (.ok (7, [77])) = UInt8.ofNat 0 :: Pl.toldB [] ∧ stepZ (sO s g c y) (.ok (7, [77])) = sH s g c y := by
  have hs : sO s g c y = ⟨s.td, s.os ++ [oV s.ls g (qO s g c y)], s.rcs, holdS s.ls (qO s g c y), s.lg⟩ := by unfold sO; rw [if_pos h0]
  rw [hs]
  have e1 : repV ⟨s.td, s.os ++ [oV s.ls g (qO s g c y)], s.rcs, holdS s.ls (qO s g c y), s.lg⟩ (.ok (7, [77])) = [UInt8.ofNat (endC (s.os ++ [oV s.ls g (qO s g c y)]) 77)] := rfl
  have e2 : stepZ ⟨s.td, s.os ++ [oV s.ls g (qO s g c y)], s.rcs, holdS s.ls (qO s g c y), s.lg⟩ (.ok (7, [77])) = ⟨s.td, (s.os ++ [oV s.ls g (qO s g c y)]).filter (fun o => o.id != 77), s.rcs, (holdS s.ls (qO s g c y)).map (finL shipL (s.os ++ [oV s.ls g (qO s g c y)]) 77), s.lg⟩ := rfl
  rw [e1, e2]
  refine ⟨?_, ?_⟩
  · have : endC (s.os ++ [oV s.ls g (qO s g c y)]) 77 = 0 := by unfold endC; simp [oV]
    rw [this]; rfl
  · rw [filter77' h.os]; rfl

/-- The lots' numbers stay: what stands where. -/
theorem idx_congr {a b : List L} (hl : a.length = b.length) (h : ∀ i, (a.getD i L0).id = (b.getD i L0).id) (n : Nat) : idx n a = idx n b := by
  have : a.map L.id = b.map L.id := by
    apply List.ext_getElem (by simp [hl])
    intro i h1 h2
    have := h i
    simpa [List.getD_eq_getElem?_getD, show i < a.length by simpa using h1, show i < b.length by simpa using h2] using this
  have e : ∀ l : List L, idx n l = (l.map L.id).findIdx (fun x => x == n) := fun l => by unfold idx; rw [List.findIdx_map]; rfl
  rw [e a, e b, this]

theorem sH_id (s : Sv) (g c y : Nat) (i : Nat) : (((holdS s.ls (qO s g c y)).map (finL shipL (s.os ++ [oV s.ls g (qO s g c y)]) 77)).getD i L0).id = (s.ls.getD i L0).id := by
  by_cases hi : i < s.ls.length
  · rw [map_getD (by rw [holdS_len]; exact hi)]
    have : ∀ l, (finL shipL (s.os ++ [oV s.ls g (qO s g c y)]) 77 l).id = l.id := fun l => by unfold finL; split <;> rfl
    rw [this, holdS_id]
  · have h1 : ((holdS s.ls (qO s g c y)).map (finL shipL (s.os ++ [oV s.ls g (qO s g c y)]) 77)).getD i L0 = L0 := by simp [List.getD_eq_getElem?_getD, List.getElem?_eq_none, holdS_len, show s.ls.length ≤ i by omega]
    have h2 : s.ls.getD i L0 = L0 := by simp [List.getD_eq_getElem?_getD, List.getElem?_eq_none, show s.ls.length ≤ i by omega]
    rw [h1, h2]

/-- A line of the order: the lot is there, ahead and behind; what was shipped of it. -/
theorem line_look {B : Nat} {w0 w : World} {Z : Nat → Prop} {Lb : Nat} {s : Sv} (hk : Kv B w0 w Z Lb s) (h : Sc s) (g c y : Nat) (hg : g ≤ 3) (h0 : eO s g c y = 0) (j : Nat) (hj : j < (qO s g c y).length) :
    ∃ lot n sh : Nat, 1 ≤ lot ∧ lot ≤ 12 ∧ (tO s g c y).getD (1 + 2 * j) 0 = lot ∧ (tO s g c y).getD (1 + 2 * j + 1) 0 = n ∧ lookE (sO s g c y) lot = 0 ∧ (lookN (sO s g c y) lot).length = 10 ∧ (lookN (sO s g c y) lot).getD 6 0 = sh ∧ lookE (sH s g c y) lot = 0 ∧ (lookN (sH s g c y) lot).length = 10 ∧ (lookN (sH s g c y) lot).getD 6 0 = sh + n := by
  have hs : sO s g c y = ⟨s.td, s.os ++ [oV s.ls g (qO s g c y)], s.rcs, holdS s.ls (qO s g c y), s.lg⟩ := by unfold sO; rw [if_pos h0]
  have ht : tO s g c y = toldQ s.ls (qO s g c y) := by unfold tO; rw [if_pos h0]
  have hf := linesQ_facts (rcs := s.rcs) s.td g c 0 y s.ls hk.room
  obtain ⟨p, hp⟩ : ∃ p, (qO s g c y)[j]? = some p := ⟨_, List.getElem?_eq_getElem hj⟩
  have hpm : p ∈ qO s g c y := List.mem_of_getElem? hp
  have hpl : p.1 < s.ls.length := hf.2.2.1 p hpm
  have hgoods : (s.ls.getD p.1 L0).goods = g := by
    have hsub := giveQ_sub s.ls (queue s.rcs (wayF y) s.td g 0 s.ls) c
    have hm : p.1 ∈ queue s.rcs (wayF y) s.td g 0 s.ls := hsub.subset (List.mem_map_of_mem (f := Prod.fst) hpm)
    have := (queue_mem.1 hm).2
    simp only [srv, Bool.and_eq_true, beq_iff_eq] at this
    exact this.1.1.1
  have hid : 1 ≤ (s.ls.getD p.1 L0).id ∧ (s.ls.getD p.1 L0).id ≤ 12 := by
    rcases h.lots p.1 hpl with h | h
    · exact h
    · omega
  have hti : ∀ (l : List (Nat × Nat)) (j : Nat) (p : Nat × Nat), l[j]? = some p → (toldL s.ls l).getD (2 * j) 0 = (s.ls.getD p.1 L0).id ∧ (toldL s.ls l).getD (2 * j + 1) 0 = p.2 := by
    intro l
    induction l with
    | nil => intro j p h; simp at h
    | cons q r ih =>
      intro j p h
      cases j with
      | zero => simp at h; subst h; exact ⟨rfl, rfl⟩
      | succ j =>
        have := ih j p (by simpa using h)
        rw [show 2 * (j + 1) = 2 * j + 1 + 1 by omega]
        simpa [toldL] using this
  obtain ⟨t1, t2⟩ := hti _ j p hp
  have hlenH : (sH s g c y).ls.length = s.ls.length := by show (List.map _ _).length = _; rw [List.length_map, holdS_len]
  have hix : idx (s.ls.getD p.1 L0).id s.ls = p.1 := idx_of hk.good hpl
  have hix1 : idx (s.ls.getD p.1 L0).id (holdS s.ls (qO s g c y)) = p.1 := by rw [idx_congr (holdS_len _ _) (holdS_id _ _)]; exact hix
  have hix2 : idx (s.ls.getD p.1 L0).id (sH s g c y).ls = p.1 := by rw [idx_congr hlenH (sH_id s g c y)]; exact hix
  have hl1 : (holdS s.ls (qO s g c y)).getD p.1 L0 = holdL (s.ls.getD p.1 L0) p.2 := holdS_in _ s.ls hf.2.1 (n := p.2) hpm hpl
  have hl2 : (sH s g c y).ls.getD p.1 L0 = shipL { s.ls.getD p.1 L0 with free := (s.ls.getD p.1 L0).free - p.2 } p.2 := by
    have := fin77 hk.good h.os shipL g (qO s g c y) hf.2.1 hf.2.2.1 p.1 hpl
    rw [show (qO s g c y).lookup p.1 = some p.2 from lookup_of_mem hf.2.1 (n := p.2) hpm] at this
    exact this
  refine ⟨(s.ls.getD p.1 L0).id, p.2, (s.ls.getD p.1 L0).shipped, hid.1, hid.2, ?_, ?_, ?_, ?_, ?_, ?_, ?_, ?_⟩
  · rw [ht, toldQ, show 1 + 2 * j = 2 * j + 1 by omega, List.getD_cons_succ]; exact t1
  · rw [ht, toldQ, show 1 + 2 * j + 1 = 2 * j + 1 + 1 by omega, List.getD_cons_succ]; exact t2
  · rw [hs]; unfold lookE; rw [if_pos]; show idx _ (holdS _ _) < (holdS _ _).length; rw [hix1, holdS_len]; exact hpl
  · rw [hs]; unfold lookN; rw [if_pos (by show idx _ (holdS _ _) < (holdS _ _).length; rw [hix1, holdS_len]; exact hpl)]; rfl
  · rw [hs]; unfold lookN; rw [if_pos (by show idx _ (holdS _ _) < (holdS _ _).length; rw [hix1, holdS_len]; exact hpl)]
    show (lookL _ ((holdS s.ls (qO s g c y)).getD (idx _ (holdS s.ls (qO s g c y))) L0)).getD 6 0 = _
    rw [hix1, hl1]; rfl
  · unfold lookE; rw [if_pos]; rw [hix2, hlenH]; exact hpl
  · unfold lookN; rw [if_pos (by rw [hix2, hlenH]; exact hpl)]; rfl
  · unfold lookN; rw [if_pos (by rw [hix2, hlenH]; exact hpl), hix2, hl2]; rfl

theorem tO_len (s : Sv) (g c y : Nat) (h0 : eO s g c y = 0) : (tO s g c y).length = 1 + 2 * (qO s g c y).length := by
  unfold tO; rw [if_pos h0, toldQ, List.length_cons, toldL_len]; omega

theorem tO_small {B : Nat} {w0 w : World} {Z : Nat → Prop} {Lb : Nat} {s : Sv} (hk : Kv B w0 w Z Lb s) (g c y : Nat) : (∀ n ∈ tO s g c y, n < 9223372036854775808) ∧ (tO s g c y).length ≤ 61 := by
  unfold tO
  split
  · exact toldQ_small hk.ok hk.room s.td g c 0 y
  · simp

theorem tO_smallx {j B : Nat} {w0 w : World} {Z : Nat → Prop} {Lb : Nat} {s : Sv} (hkx : Kx j B w0 w Z Lb s) (g c y : Nat) : (∀ n ∈ tO s g c y, n < 9223372036854775808) ∧ (tO s g c y).length ≤ 61 := by
  obtain ⟨lg, _, hk⟩ := hkx
  exact tO_small hk g c y

end Go.Proofs.YtgcedalggnmooaaGreatDoor
