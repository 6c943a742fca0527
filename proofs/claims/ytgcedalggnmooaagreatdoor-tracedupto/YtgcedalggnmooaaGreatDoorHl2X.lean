import Derived.Test.YtgcedalggnmooaaGreatDoorHlX
import Derived.Test.YtgcedalggnmooaaGreatDoorR0X
import Derived.Test.YtgcedalggnmooaaGreatDoorKU0
import Derived.Test.YtgcedalggnmooaaGreatDoorKU2
namespace Go.Proofs.YtgcedalggnmooaaGreatDoor
set_option linter.unusedSimpArgs false
set_option linter.unusedVariables false
set_option maxRecDepth 100000

/-- What comes of a lot is it, or a lot. -/
theorem famB_mem {f : Nat → Bool} {n : Nat} : ∀ (ls : List L) (f : Nat → Bool), famB ls f n = true → f n = true ∨ ∃ l ∈ ls, l.id = n
  | [], f, h => Or.inl h
  | l :: ls, f, h => by
    rw [famB_cons] at h
    rcases famB_mem (f := f) ls (famStep f l) h with h1 | ⟨x, hx, e⟩
    · simp only [famStep, Bool.or_eq_true, Bool.and_eq_true, beq_iff_eq] at h1
      rcases h1 with h1 | ⟨h1, _⟩
      · exact Or.inl h1
      · exact Or.inr ⟨l, by simp, h1.symm⟩
    · exact Or.inr ⟨x, by simp [hx], e⟩
theorem idx_of_mem {ls : List L} {l : L} (h : l ∈ ls) : idx l.id ls < ls.length := by
  unfold idx
  rw [List.findIdx_lt_length]
  exact ⟨l, h, by simp⟩
theorem comL_idx {ls : List L} {a n : Nat} (ha : idx a ls < ls.length) (h : n ∈ comL ls a) : idx n ls < ls.length ∧ (ls.getD (idx n ls) L0).id = n := by
  have hc : comB ls a n = true := by rw [← comL_has]; exact List.contains_iff_mem.2 h
  have hi : idx n ls < ls.length := by
    rcases famB_mem (f := fun m => m == a) ls _ hc with h1 | ⟨l, hl, e⟩
    · have : n = a := by simpa using h1
      rw [this]; exact ha
    · rw [← e]; exact idx_of_mem hl
  exact ⟨hi, idx_id hi⟩
theorem comStep_nodup {out : List Nat} (h : out.Nodup) (l : L) : (comStep out l).Nodup := by
  unfold comStep
  split
  · rename_i hc
    simp only [Bool.and_eq_true, Bool.not_eq_true'] at hc
    rw [List.nodup_append]
    refine ⟨h, by simp, fun x hx y hy e => ?_⟩
    simp at hy; subst hy; subst e
    have : out.contains l.id = true := List.contains_iff_mem.2 hx
    rw [this] at hc; cases hc.1
  · exact h
theorem comP_nodup : ∀ (ls : List L) (out : List Nat), out.Nodup → (comP ls out).Nodup
  | [], _, h => h
  | l :: ls, out, h => comP_nodup ls _ (comStep_nodup h l)
theorem comL_nodup (ls : List L) (a : Nat) : (comL ls a).Nodup := comP_nodup ls [a] (by simp)
theorem comL_len (ls : List L) (a : Nat) : (comL ls a).length ≤ ls.length + 1 := by
  have h1 := comP_len ls [a] ls.length (Nat.le_refl _)
  rw [List.take_length] at h1
  simp only [List.length_cons, List.length_nil] at h1
  unfold comL; omega

/-- Of numbers those whose lots are Held; with how many. -/
def heldOfN (ls : List L) (n : Nat) : Nat := (ls.getD (idx n ls) L0).held
def hN (ls : List L) (ns : List Nat) : List Nat := ns.filter (fun n => decide (0 < heldOfN ls n))
def tN (ls : List L) : List Nat → List Nat
  | n :: r => n :: heldOfN ls n :: tN ls r
  | [] => []
theorem tN_snoc (ls : List L) (n : Nat) : ∀ l, tN ls (l ++ [n]) = tN ls l ++ [n, heldOfN ls n]
  | [] => rfl
  | q :: r => by simp only [List.cons_append, tN, tN_snoc ls n r]
theorem tN_len (ls : List L) : ∀ l, (tN ls l).length = l.length * 2
  | [] => rfl
  | q :: r => by simp only [tN, List.length_cons, tN_len ls r]; omega
theorem hN_take {ls : List L} {ns : List Nat} {k : Nat} (hk : k < ns.length) : hN ls (ns.take (k + 1)) = if 0 < heldOfN ls (ns.getD k 0) then hN ls (ns.take k) ++ [ns.getD k 0] else hN ls (ns.take k) := by
  have e : ns.take (k + 1) = ns.take k ++ [ns.getD k 0] := by
    rw [List.take_succ_eq_append_getElem hk]; simp [List.getD_eq_getElem?_getD, hk]
  rw [e, hN, List.filter_append]
  generalize ns.getD k 0 = x
  by_cases h : 0 < heldOfN ls x
  · rw [if_pos h]; simp [List.filter_cons, h, hN]
  · rw [if_neg h]; simp [List.filter_cons, h, hN]
theorem hN_len (ls : List L) (ns : List Nat) : (hN ls ns).length ≤ ns.length := List.length_filter_le _ _

theorem tN_told {ls : List L} : ∀ (ns : List Nat), (∀ n ∈ ns, (ls.getD (idx n ls) L0).id = n) → tN ls ns = toldL ls (withHeld ls (ns.map (fun n => idx n ls)))
  | [], _ => rfl
  | n :: r, h => by
    have ih := tN_told r (fun m hm => h m (by simp [hm]))
    simp only [tN, withHeld, List.map_cons, toldL] at ih ⊢
    rw [h n (by simp), ← ih]; rfl

theorem held_told {ls : List L} (hids : ∀ i j, i < ls.length → j < ls.length → (ls.getD i L0).id = (ls.getD j L0).id → i = j) {a : Nat} (ha : idx a ls < ls.length) {s : List Nat} (hp : s.Perm (comL ls a)) (hs : s.Pairwise (· < ·)) : (hN ls s).length :: tN ls (hN ls s) = toldQ ls (heldQ ls a) := by
  have hmem : ∀ n ∈ hN ls s, n ∈ comL ls a ∧ 0 < heldOfN ls n := fun n hn => by
    have := List.mem_filter.1 hn
    exact ⟨hp.mem_iff.1 this.1, by simpa using this.2⟩
  have hid : ∀ n ∈ hN ls s, (ls.getD (idx n ls) L0).id = n := fun n hn => (comL_idx ha (hmem n hn).1).2
  have hsub : (hN ls s).Pairwise (· < ·) := hs.sublist List.filter_sublist
  have hnd : ((hN ls s).map (fun n => idx n ls)).Nodup := by
    rw [List.nodup_iff_pairwise_ne, List.pairwise_map]
    refine List.Pairwise.imp_of_mem (fun {x y} hx hy hlt e => ?_) hsub
    have h1 := hid x hx
    have h2 := hid y hy
    rw [e, h2] at h1; omega
  have hperm : ((hN ls s).map (fun n => idx n ls)).Perm (heldK ls (comB ls a) ls.length) := by
    refine (List.perm_ext_iff_of_nodup hnd (heldK_nodup _ _ _)).2 (fun i => ?_)
    rw [heldK_mem]
    constructor
    · intro h
      obtain ⟨n, hn, rfl⟩ := List.mem_map.1 h
      obtain ⟨h1, h2⟩ := hmem n hn
      obtain ⟨q1, q2⟩ := comL_idx ha h1
      refine ⟨q1, ?_⟩
      unfold heldP
      rw [q2, ← comL_has, List.contains_iff_mem.2 h1, Bool.and_true]
      exact decide_eq_true h2
    · rintro ⟨hi, hh⟩
      unfold heldP at hh
      simp only [Bool.and_eq_true, decide_eq_true_eq] at hh
      have hc : (ls.getD i L0).id ∈ comL ls a := by rw [← List.contains_iff_mem, comL_has]; exact hh.2
      have hx : idx (ls.getD i L0).id ls = i := by
        obtain ⟨q1, q2⟩ := comL_idx ha hc
        exact hids _ _ q1 hi q2
      refine List.mem_map.2 ⟨(ls.getD i L0).id, ?_, hx⟩
      refine List.mem_filter.2 ⟨hp.mem_iff.2 hc, ?_⟩
      unfold heldOfN
      rw [hx]; exact decide_eq_true hh.1
  have hsrt : Srt (idLt ls) ((hN ls s).map (fun n => idx n ls)) := by
    unfold Srt
    rw [List.pairwise_map]
    refine List.Pairwise.imp_of_mem (fun {x y} hx hy hlt => ?_) hsub
    unfold idLt
    rw [hid x hx, hid y hy]
    exact decide_eq_false (by omega)
  have e := heldI_eq hids hperm hsrt
  rw [tN_told _ hid, e]
  show _ = (heldQ ls a).length :: toldL ls (heldQ ls a)
  unfold heldQ
  rw [withHeld_len, ← e, List.length_map]

end Go.Proofs.YtgcedalggnmooaaGreatDoor

namespace Go.Proofs.YtgcedalggnmooaaGreatDoor
set_option linter.unusedSimpArgs false
set_option linter.unusedVariables false
set_option maxRecDepth 100000

/-- A lot's number and parents; what a family hangs on. -/
def idp (l : L) : Nat × List (Nat × Nat) := (l.id, l.par)
def entP (x : Nat × List (Nat × Nat)) : List (Nat × Nat) := x.2.map (fun p => (x.1, p.1))
def comF (f : Nat → Bool) (e : Nat × Nat) : Nat → Bool := fun n => f n || (n == e.1 && f e.2)

theorem fold_ent (l : L) (f : Nat → Bool) : (entP (idp l)).foldl comF f = famStep f l := by
  unfold entP famStep idp
  simp only
  generalize l.par = ps
  generalize l.id = d
  induction ps generalizing f with
  | nil => funext n; simp
  | cons p r ih =>
    rw [List.map_cons, List.foldl_cons, ih]
    funext n
    cases hp : f p.1 with
    | false =>
      have e : comF f (d, p.1) = f := by funext m; simp [comF, hp]
      rw [e, List.any_cons, hp, Bool.false_or]
    | true =>
      rw [List.any_cons, hp, Bool.true_or, Bool.and_true]
      simp only [comF, hp, Bool.and_true]
      cases f n <;> cases n == d <;> simp
theorem fam_ent : ∀ (ls : List L) (f : Nat → Bool), famB ls f = ((ls.map idp).flatMap entP).foldl comF f
  | [], f => rfl
  | l :: ls, f => by
    rw [famB_cons, fam_ent ls, List.map_cons, List.flatMap_cons, List.foldl_append, fold_ent]

theorem fam_congr {ls ls' : List L} (h : ls'.map idp = ls.map idp) (f : Nat → Bool) : famB ls' f = famB ls f := by rw [fam_ent, fam_ent, h]

/-- New numbers and parents that a command brings. -/
def newP (s : Sv) : Nat × List Nat → List (Nat × List (Nat × Nat))
  | (2, [a, b, c, d]) => if roomC s.ls a = 0 then [(a, [])] else []
  | (3, [a, b, c]) => if splitC s.ls a b c = 0 then [(b, [(a, c)])] else []
  | (4, [a, b, m]) => if mergeC s.ls a b m = 0 then [(m, [(a, (lotAt s.ls a).free), (b, (lotAt s.ls b).free)])] else []
  | _ => []

theorem idp_same {ls ls' : List L} (hl : ls'.length = ls.length) (h : ∀ i, i < ls.length → idp (ls'.getD i L0) = idp (ls.getD i L0)) : ls'.map idp = ls.map idp := by
  apply List.ext_getElem (by simp [hl])
  intro i h1 h2
  have := h i (by simpa using h2)
  simpa [List.getD_eq_getElem?_getD, show i < ls'.length by simpa using h1, show i < ls.length by simpa using h2] using this
theorem idp_set (ls : List L) (j : Nat) (l : L) (h : j < ls.length → idp l = idp (ls.getD j L0)) : (ls.set j l).map idp = ls.map idp :=
  idp_same (List.length_set ..) (fun i hi => by
    by_cases hij : i = j
    · subst hij; rw [gset_eq hi]; exact h hi
    · rw [gset_ne hij])
theorem holdS_par (ls : List L) (l : List (Nat × Nat)) : ∀ i, ((holdS ls l).getD i L0).par = (ls.getD i L0).par := by
  induction l generalizing ls with
  | nil => intro i; rfl
  | cons p r ih =>
    intro i
    simp only [holdS]
    rw [ih]
    by_cases h : i = p.1
    · subst h
      by_cases hl : p.1 < ls.length
      · rw [gset_eq hl]; rfl
      · simp [List.set_eq_of_length_le (show ls.length ≤ p.1 by omega)]
    · rw [gset_ne h]
theorem idp_fin (g : L → Nat → L) (hg : ∀ l n, (g l n).id = l.id ∧ (g l n).par = l.par) (os : List O) (a : Nat) (ls : List L) : (ls.map (finL g os a)).map idp = ls.map idp :=
  idp_same (List.length_map ..) (fun i hi => by
    rw [map_getD hi]; unfold finL idp; split
    · rw [(hg _ _).1, (hg _ _).2]
    · rfl)

theorem splitC_idx {ls : List L} {a b c : Nat} (h : splitC ls a b c = 0) : idx a ls < ls.length := by
  unfold splitC at h
  by_cases hi : idx a ls < ls.length
  · exact hi
  · rw [if_neg hi] at h; omega

theorem idp_step (s : Sv) (k a b c d : Int) : (stepV s (.ok (sp k a b c d))).ls.map idp = s.ls.map idp ++ newP s (sp k a b c d) := by
  unfold sp
  split
  · show (stepS s.rcs s.td s.ls (.ok (1, [pk a 40]))).2.2.map idp = s.ls.map idp ++ []
    have e : (stepS s.rcs s.td s.ls (.ok (1, [pk a 40]))).2.2 = s.ls := by simp only [stepS]; split <;> rfl
    rw [e, List.append_nil]
  · show (if roomC s.ls (1 + pk a 12) = 0 then s.ls ++ [newL s.ls (1 + pk a 12) (1 + pk b 3) (1 + pk c 400) (pk d 40)] else s.ls).map idp = s.ls.map idp ++ (if roomC s.ls (1 + pk a 12) = 0 then [(1 + pk a 12, [])] else [])
    by_cases h0 : roomC s.ls (1 + pk a 12) = 0
    · rw [if_pos h0, if_pos h0, List.map_append]; rfl
    · rw [if_neg h0, if_neg h0, List.append_nil]
  · show (splitS s.ls (1 + pk a 12) (1 + pk b 12) (1 + pk c 400)).map idp = s.ls.map idp ++ (if splitC s.ls (1 + pk a 12) (1 + pk b 12) (1 + pk c 400) = 0 then [(1 + pk b 12, [(1 + pk a 12, 1 + pk c 400)])] else [])
    unfold splitS
    by_cases h0 : splitC s.ls (1 + pk a 12) (1 + pk b 12) (1 + pk c 400) = 0
    · rw [if_pos h0, if_pos h0, List.map_append, idp_set _ _ (gaveL _ _) (fun _ => rfl), idx_id (splitC_idx h0)]; rfl
    · rw [if_neg h0, if_neg h0, List.append_nil]
  · show (mergeS s.ls (1 + pk a 12) (1 + pk b 12) (1 + pk c 12)).map idp = s.ls.map idp ++ (if mergeC s.ls (1 + pk a 12) (1 + pk b 12) (1 + pk c 12) = 0 then [(1 + pk c 12, [(1 + pk a 12, (lotAt s.ls (1 + pk a 12)).free), (1 + pk b 12, (lotAt s.ls (1 + pk b 12)).free)])] else [])
    unfold mergeS
    by_cases h0 : mergeC s.ls (1 + pk a 12) (1 + pk b 12) (1 + pk c 12) = 0
    · obtain ⟨q1, q2, q3, _, _⟩ := mergeC_zero h0
      have e1 : (lotAt s.ls (1 + pk a 12)).id = 1 + pk a 12 := idx_id q1
      have e2 : (lotAt s.ls (1 + pk b 12)).id = 1 + pk b 12 := idx_id q2
      rw [if_pos h0, if_pos h0, List.map_append, idp_set _ _ (gaveL (lotAt s.ls (1 + pk b 12)) _) (fun _ => by rw [gset_ne (Ne.symm q3)]; rfl), idp_set _ _ (gaveL (lotAt s.ls (1 + pk a 12)) _) (fun _ => rfl), e1, e2]; rfl
    · rw [if_neg h0, if_neg h0, List.append_nil]
  · show (askL s.rcs s.os s.td s.ls (1 + pk a 4) (1 + pk b 3) (1 + pk c 400) (pk d 10) (pk (d.tdiv 16) 4)).map idp = s.ls.map idp ++ []
    rw [List.append_nil]
    unfold askL
    split
    · exact idp_same (holdS_len _ _) (fun i _ => by unfold idp; rw [holdS_id, holdS_par])
    · rfl
  · show (s.ls.map (finL freeL s.os (1 + pk a 4))).map idp = s.ls.map idp ++ []
    rw [List.append_nil]; exact idp_fin freeL (fun _ _ => ⟨rfl, rfl⟩) _ _ _
  · show (s.ls.map (finL shipL s.os (1 + pk a 4))).map idp = s.ls.map idp ++ []
    rw [List.append_nil]; exact idp_fin shipL (fun _ _ => ⟨rfl, rfl⟩) _ _ _
  · show s.ls.map idp = s.ls.map idp ++ []
    rw [List.append_nil]
  · show s.ls.map idp = s.ls.map idp ++ []
    rw [List.append_nil]
  · show (scrapS s.ls (1 + pk a 12) (1 + pk c 400)).map idp = s.ls.map idp ++ []
    rw [List.append_nil]
    unfold scrapS
    split
    · exact idp_set _ _ _ (fun _ => rfl)
    · rfl
  · show (stepS s.rcs s.td s.ls (.ok (11, [1 + pk a 12]))).2.2.map idp = s.ls.map idp ++ []
    have e : (stepS s.rcs s.td s.ls (.ok (11, [1 + pk a 12]))).2.2 = s.ls := by simp only [stepS]; split <;> rfl
    rw [e, List.append_nil]
  · show s.ls.map idp = s.ls.map idp ++ []
    rw [List.append_nil]

/-- What scripts leave of families and recalls. -/
structure Tr (s : Sv) (es : List (Nat × Nat)) : Prop where
  fam : ∃ R, s.ls.map idp = (13, []) :: (14, [(13, 2)]) :: R ∧ (∀ x ∈ R, 1 ≤ x.1 ∧ x.1 ≤ 12) ∧ es = R.flatMap entP
  ent : ∀ e ∈ es, (1 ≤ e.1 ∧ e.1 ≤ 12) ∧ 1 ≤ e.2 ∧ e.2 ≤ 12
  marks : ∀ p ∈ s.rcs, p.2 ≤ 2

theorem tr_s2 : Tr s2 [] := ⟨⟨[], rfl, (fun x h => by cases h), rfl⟩, (fun e h => by cases h), (fun p h => by cases h)⟩

theorem newP_ok (s : Sv) (k a b c d : Int) : (∀ x ∈ newP s (sp k a b c d), 1 ≤ x.1 ∧ x.1 ≤ 12) ∧ ∀ e ∈ (newP s (sp k a b c d)).flatMap entP, (1 ≤ e.1 ∧ e.1 ≤ 12) ∧ 1 ≤ e.2 ∧ e.2 ≤ 12 := by
  have h2 := pk_lt a (n := 12) (by omega)
  have h6 := pk_lt b (n := 12) (by omega)
  have h7 := pk_lt c (n := 12) (by omega)
  have nil : (∀ x ∈ ([] : List (Nat × List (Nat × Nat))), 1 ≤ x.1 ∧ x.1 ≤ 12) ∧ ∀ e ∈ ([] : List (Nat × List (Nat × Nat))).flatMap entP, (1 ≤ e.1 ∧ e.1 ≤ 12) ∧ 1 ≤ e.2 ∧ e.2 ≤ 12 := ⟨(fun x h => by cases h), (fun e h => by cases h)⟩
  unfold sp
  split <;> try exact nil
  · simp only [newP]
    split
    · refine ⟨fun x hx => ?_, fun e he => ?_⟩
      · simp at hx; subst hx; show 1 ≤ 1 + pk a 12 ∧ 1 + pk a 12 ≤ 12; omega
      · simp [entP] at he
    · exact nil
  · simp only [newP]
    split
    · refine ⟨fun x hx => ?_, fun e he => ?_⟩
      · simp at hx; subst hx; show 1 ≤ 1 + pk b 12 ∧ 1 + pk b 12 ≤ 12; omega
      · simp [entP] at he; subst he; show (1 ≤ 1 + pk b 12 ∧ 1 + pk b 12 ≤ 12) ∧ 1 ≤ 1 + pk a 12 ∧ 1 + pk a 12 ≤ 12; omega
    · exact nil
  · simp only [newP]
    split
    · refine ⟨fun x hx => ?_, fun e he => ?_⟩
      · simp at hx; subst hx; show 1 ≤ 1 + pk c 12 ∧ 1 + pk c 12 ≤ 12; omega
      · simp [entP] at he
        rcases he with rfl | rfl
        · show (1 ≤ 1 + pk c 12 ∧ 1 + pk c 12 ≤ 12) ∧ 1 ≤ 1 + pk a 12 ∧ 1 + pk a 12 ≤ 12; omega
        · show (1 ≤ 1 + pk c 12 ∧ 1 + pk c 12 ≤ 12) ∧ 1 ≤ 1 + pk b 12 ∧ 1 + pk b 12 ≤ 12; omega
    · exact nil

theorem rcs_step (s : Sv) (h : ∀ p ∈ s.rcs, p.2 ≤ 2) (k a b c d : Int) : ∀ p ∈ (stepV s (.ok (sp k a b c d))).rcs, p.2 ≤ 2 := by
  have h6 := pk_lt b (n := 2) (by omega)
  unfold sp
  split <;> try exact h
  · show ∀ p ∈ recallS s.rcs s.ls (1 + pk a 12) (1 + pk b 2), p.2 ≤ 2
    unfold recallS
    split
    · intro p hp
      rcases List.mem_append.1 hp with hp | hp
      · exact h p hp
      · simp at hp; subst hp; show 1 + pk b 2 ≤ 2; omega
    · exact h
  · show ∀ p ∈ releaseS s.rcs (1 + pk a 12) (1 + pk b 2), p.2 ≤ 2
    unfold releaseS
    split
    · exact fun p hp => h p (List.mem_of_mem_erase hp)
    · exact h

theorem Tr.step {s : Sv} {es : List (Nat × Nat)} (h : Tr s es) (k a b c d : Int) : Tr (stepV s (.ok (sp k a b c d))) (es ++ (newP s (sp k a b c d)).flatMap entP) := by
  obtain ⟨R, h1, h2, h3⟩ := h.fam
  obtain ⟨n1, n2⟩ := newP_ok s k a b c d
  refine ⟨⟨R ++ newP s (sp k a b c d), ?_, ?_, ?_⟩, ?_, rcs_step s h.marks k a b c d⟩
  · rw [idp_step, h1]; rfl
  · intro x hx
    rcases List.mem_append.1 hx with hx | hx
    · exact h2 x hx
    · exact n1 x hx
  · rw [h3, List.flatMap_append]
  · intro e he
    rcases List.mem_append.1 he with he | he
    · exact h.ent e he
    · exact n2 e he

/-- What comes of a lot, by what was written down. -/
theorem Tr.com {s : Sv} {es : List (Nat × Nat)} (h : Tr s es) {a : Nat} (ha : a ≤ 12) : comB s.ls a = es.foldl comF (fun m => m == a) := by
  obtain ⟨R, h1, h2, h3⟩ := h.fam
  unfold comB
  rw [fam_ent, h1, h3]
  have e : (((13, []) :: (14, [(13, 2)]) :: R : List (Nat × List (Nat × Nat)))).flatMap entP = (14, 13) :: R.flatMap entP := rfl
  rw [e, List.foldl_cons]
  congr 1
  funext n
  have : ((13 : Nat) == a) = false := by rw [beq_eq_false_iff_ne]; omega
  simp [comF, this]

/-- The lots' numbers. -/
theorem Tr.ids {s : Sv} {es : List (Nat × Nat)} (h : Tr s es) : ∀ l ∈ s.ls, 1 ≤ l.id ∧ l.id ≤ 14 := fun l hl => by
  obtain ⟨R, h1, h2, h3⟩ := h.fam
  have hm : idp l ∈ s.ls.map idp := List.mem_map_of_mem hl
  rw [h1] at hm
  simp only [List.mem_cons] at hm
  rcases hm with hm | hm | hm
  · have : l.id = 13 := congrArg Prod.fst hm
    omega
  · have : l.id = 14 := congrArg Prod.fst hm
    omega
  · have : 1 ≤ l.id ∧ l.id ≤ 12 := h2 _ hm
    omega

theorem nodup_len : ∀ (n : Nat) (l : List Nat), l.Nodup → (∀ x ∈ l, x < n) → l.length ≤ n
  | 0, l, _, h => by
    cases l with
    | nil => simp
    | cons x r => exact absurd (h x (by simp)) (by omega)
  | n + 1, l, hn, h => by
    by_cases hm : n ∈ l
    · have := nodup_len n (l.erase n) (hn.erase n) (fun x hx => by
        have h1 := h x (List.mem_of_mem_erase hx)
        have h2 := (hn.mem_erase_iff.1 hx).1
        omega)
      rw [List.length_erase_of_mem hm] at this
      omega
    · have := nodup_len n l hn (fun x hx => by
        have h1 := h x hx
        have h2 : x ≠ n := fun e => hm (e ▸ hx)
        omega)
      omega

theorem Tr.len {s : Sv} {es : List (Nat × Nat)} (h : Tr s es) (hg : Good s.os s.ls) : s.ls.length ≤ 15 := by
  have := nodup_len 15 (s.ls.map L.id) hg.nodup (fun x hx => by
    obtain ⟨l, hl, rfl⟩ := List.mem_map.1 hx
    have := h.ids l hl
    omega)
  simpa using this

end Go.Proofs.YtgcedalggnmooaaGreatDoor

namespace Go.Proofs.YtgcedalggnmooaaGreatDoor
set_option linter.unusedSimpArgs false
set_option linter.unusedVariables false
set_option maxRecDepth 100000

theorem idx_ids (n : Nat) (ls : List L) : idx n ls < ls.length ↔ n ∈ ls.map L.id := by
  unfold idx
  rw [List.findIdx_lt_length, List.mem_map]
  constructor
  · rintro ⟨l, hl, h⟩; exact ⟨l, hl, by simpa using h⟩
  · rintro ⟨l, hl, h⟩; exact ⟨l, hl, by simpa using h⟩
theorem ids_idp (ls : List L) : ls.map L.id = (ls.map idp).map Prod.fst := by rw [List.map_map]; rfl

/-- Of a lot: recalled 1, not 0, none -1; how many are Held. -/
def markF (s : Sv) (i : Nat) : Int := if lookE s i = 0 then ((lookN s i).getD 9 0 : Int) else -1
def heldF (s : Sv) (i : Nat) : Nat := if lookE s i = 0 then (lookN s i).getD 5 0 else 0
theorem mark_eq (s : Sv) (i : Nat) : markF s i = if i ∈ s.ls.map L.id then (if recB s.rcs s.ls i = true then 1 else 0) else -1 := by
  unfold markF lookE lookN
  by_cases hi : idx i s.ls < s.ls.length
  · rw [if_pos hi, if_pos hi, if_pos rfl, if_pos ((idx_ids i s.ls).1 hi)]
    show (((if recB s.rcs s.ls (s.ls.getD (idx i s.ls) L0).id then 1 else 0 : Nat)) : Int) = _
    rw [idx_id hi]
    split <;> rfl
  · rw [if_neg hi, if_neg hi, if_neg (by omega), if_neg (fun h => hi ((idx_ids i s.ls).2 h))]
theorem held_eq (s : Sv) (i : Nat) (hi : idx i s.ls < s.ls.length) : heldF s i = heldOfN s.ls i := by
  unfold heldF lookE lookN heldOfN
  rw [if_pos hi, if_pos hi, if_pos rfl]; rfl

theorem famB_self (ls : List L) : ∀ (f : Nat → Bool) (n : Nat), f n = true → famB ls f n = true := by
  induction ls with
  | nil => intro f n h; exact h
  | cons l ls ih => intro f n h; rw [famB_cons]; exact ih _ n (by simp [famStep, h])
theorem comB_self (ls : List L) (a : Nat) : comB ls a a = true := famB_self ls _ a (by simp)
theorem comB_in {ls : List L} {a n : Nat} (ha : idx a ls < ls.length) (h : comB ls a n = true) : idx n ls < ls.length := by
  rcases famB_mem (f := fun m => m == a) ls _ h with h1 | ⟨l, hl, e⟩
  · have : n = a := by simpa using h1
    rw [this]; exact ha
  · rw [← e]; exact idx_of_mem hl

/-- Behind the recall. -/
def sR (s : Sv) (a : Nat) : Sv := ⟨s.td, s.os, s.rcs ++ [(a, 77)], s.ls, s.lg⟩
theorem recB_more (rcs : List (Nat × Nat)) (ls : List L) (a n : Nat) : recB (rcs ++ [(a, 77)]) ls n = (recB rcs ls n || comB ls a n) := by
  rw [recB_any, recB_any, List.any_append]; simp
theorem mark_yes {s : Sv} {a i : Nat} (ha : idx a s.ls < s.ls.length) (h : comB s.ls a i = true) : markF (sR s a) i = 1 := by
  have hi : i ∈ (sR s a).ls.map L.id := (idx_ids i s.ls).1 (comB_in ha h)
  have hr : recB (sR s a).rcs (sR s a).ls i = true := by show recB (s.rcs ++ [(a, 77)]) s.ls i = true; rw [recB_more, h, Bool.or_true]
  rw [mark_eq, if_pos hi, if_pos hr]
theorem mark_no {s : Sv} {a i : Nat} (h : comB s.ls a i = false) : markF (sR s a) i = markF s i := by
  have hr : recB (sR s a).rcs (sR s a).ls i = recB s.rcs s.ls i := by show recB (s.rcs ++ [(a, 77)]) s.ls i = _; rw [recB_more, h, Bool.or_false]
  rw [mark_eq, mark_eq, hr]; rfl

theorem no77 {rcs : List (Nat × Nat)} (h : ∀ p ∈ rcs, p.2 ≤ 2) (a : Nat) : rcs.contains (a, 77) = false := by
  rw [← Bool.not_eq_true, List.contains_iff_mem]
  intro hm
  have := h _ hm
  simp at this
theorem rcl_none {s : Sv} {a : Nat} (ha : ¬ idx a s.ls < s.ls.length) : repV s (.ok (8, [a, 77])) = UInt8.ofNat 4 :: Pl.toldB [] ∧ stepZ s (.ok (8, [a, 77])) = s := by
  have h0 : recallC s.rcs s.ls a 77 = 4 := by unfold recallC; rw [if_neg ha]
  have e1 : repV s (.ok (8, [a, 77])) = recallR s.rcs s.ls a 77 := rfl
  have e2 : stepZ s (.ok (8, [a, 77])) = ⟨s.td, s.os, recallS s.rcs s.ls a 77, s.ls, s.lg⟩ := rfl
  rw [e1, e2]
  unfold recallR recallS
  rw [h0, if_neg (by omega), if_neg (by omega)]
  exact ⟨rfl, rfl⟩
theorem rcl_full {s : Sv} {a : Nat} (ha : idx a s.ls < s.ls.length) (hm : ∀ p ∈ s.rcs, p.2 ≤ 2) (h10 : 10 ≤ s.rcs.length) : repV s (.ok (8, [a, 77])) = UInt8.ofNat 6 :: Pl.toldB [] ∧ stepZ s (.ok (8, [a, 77])) = s := by
  have h0 : recallC s.rcs s.ls a 77 = 6 := by unfold recallC; rw [if_pos ha, no77 hm, if_neg (by simp), if_pos h10]
  have e1 : repV s (.ok (8, [a, 77])) = recallR s.rcs s.ls a 77 := rfl
  have e2 : stepZ s (.ok (8, [a, 77])) = ⟨s.td, s.os, recallS s.rcs s.ls a 77, s.ls, s.lg⟩ := rfl
  rw [e1, e2]
  unfold recallR recallS
  rw [h0, if_neg (by omega), if_neg (by omega)]
  exact ⟨rfl, rfl⟩
theorem rcl_ok {s : Sv} {a : Nat} (ha : idx a s.ls < s.ls.length) (hm : ∀ p ∈ s.rcs, p.2 ≤ 2) (h10 : ¬ 10 ≤ s.rcs.length) : repV s (.ok (8, [a, 77])) = UInt8.ofNat 0 :: Pl.toldB (toldQ s.ls (heldQ s.ls a)) ∧ stepZ s (.ok (8, [a, 77])) = sR s a := by
  have h0 : recallC s.rcs s.ls a 77 = 0 := by unfold recallC; rw [if_pos ha, no77 hm, if_neg (by simp), if_neg h10]
  have e1 : repV s (.ok (8, [a, 77])) = recallR s.rcs s.ls a 77 := rfl
  have e2 : stepZ s (.ok (8, [a, 77])) = ⟨s.td, s.os, recallS s.rcs s.ls a 77, s.ls, s.lg⟩ := rfl
  rw [e1, e2]
  unfold recallR recallS
  rw [h0, if_pos rfl, if_pos rfl]
  exact ⟨rfl, rfl⟩

theorem nodup_rf (k : Nat) (p : Nat → Bool) : (((List.range k).map (· + 1)).filter p).Nodup := by
  have h : ((List.range k).map (· + 1)).Nodup := by
    rw [List.nodup_iff_pairwise_ne, List.pairwise_map]
    exact (List.nodup_iff_pairwise_ne.1 List.nodup_range).imp (fun h e => h (by omega))
  exact h.sublist List.filter_sublist
/-- Of the numbers up to k those that come of a; what the recall must tell of them. -/
def cmL (ls : List L) (a k : Nat) : List Nat := ((List.range k).map (· + 1)).filter (comB ls a)
def wtL (ls : List L) (a k : Nat) : List Nat := (hN ls (cmL ls a k)).length :: tN ls (hN ls (cmL ls a k))
theorem cmL_succ (ls : List L) (a k : Nat) : cmL ls a (k + 1) = if comB ls a (k + 1) = true then cmL ls a k ++ [k + 1] else cmL ls a k := by
  unfold cmL
  rw [List.range_succ, List.map_append, List.filter_append]
  by_cases h : comB ls a (k + 1) = true
  · rw [if_pos h]; simp [h]
  · rw [if_neg h]; simp [h]
theorem hN_snoc (ls : List L) (ns : List Nat) (n : Nat) : hN ls (ns ++ [n]) = if 0 < heldOfN ls n then hN ls ns ++ [n] else hN ls ns := by
  unfold hN
  rw [List.filter_append]
  by_cases h : 0 < heldOfN ls n
  · rw [if_pos h]; simp [h]
  · rw [if_neg h]; simp [h]
theorem wtL_yes {ls : List L} {a k : Nat} (h1 : comB ls a (k + 1) = true) (h2 : 0 < heldOfN ls (k + 1)) : wtL ls a (k + 1) = ((hN ls (cmL ls a k)).length + 1) :: (tN ls (hN ls (cmL ls a k)) ++ [k + 1, heldOfN ls (k + 1)]) := by
  unfold wtL
  rw [cmL_succ, if_pos h1, hN_snoc, if_pos h2, tN_snoc]; simp
theorem wtL_no {ls : List L} {a k : Nat} (h : ¬ (comB ls a (k + 1) = true ∧ 0 < heldOfN ls (k + 1))) : wtL ls a (k + 1) = wtL ls a k := by
  unfold wtL
  rw [cmL_succ]
  by_cases h1 : comB ls a (k + 1) = true
  · rw [if_pos h1, hN_snoc, if_neg (fun h2 => h ⟨h1, h2⟩)]
  · rw [if_neg h1]
theorem wtL_len (ls : List L) (a k : Nat) : (wtL ls a k).length ≤ 1 + 2 * k := by
  unfold wtL
  have h1 := hN_len ls (cmL ls a k)
  have h2 := List.length_filter_le (comB ls a) ((List.range k).map (· + 1))
  rw [List.length_map, List.length_range] at h2
  rw [List.length_cons, tN_len]
  have : (cmL ls a k).length ≤ k := h2
  omega
theorem wtL_told {s : Sv} {es : List (Nat × Nat)} (hg : Good s.os s.ls) (h : Tr s es) {a : Nat} (ha12 : 1 ≤ a ∧ a ≤ 12) (ha : idx a s.ls < s.ls.length) : wtL s.ls a 13 = toldQ s.ls (heldQ s.ls a) := by
  refine held_told hg.ids ha ?_ ?_
  · refine (List.perm_ext_iff_of_nodup ?_ (comL_nodup _ _)).2 (fun n => ?_)
    · exact nodup_rf _ _
    · unfold cmL
      rw [List.mem_filter, List.mem_map, ← comL_has, List.contains_iff_mem]
      constructor
      · exact fun h => h.2
      · intro hn
        refine ⟨?_, hn⟩
        have hc : comB s.ls a n = true := by rw [← comL_has]; exact List.contains_iff_mem.2 hn
        have hb : 1 ≤ n ∧ n ≤ 13 := by
          obtain ⟨R, h1, h2, h3⟩ := h.fam
          rw [h.com ha12.2] at hc
          have : ∀ (l : List (Nat × Nat)) (f : Nat → Bool), (∀ e ∈ l, 1 ≤ e.1 ∧ e.1 ≤ 12) → l.foldl comF f n = true → f n = true ∨ (1 ≤ n ∧ n ≤ 12) := by
            intro l
            induction l with
            | nil => intro f _ h; exact Or.inl h
            | cons e l ih =>
              intro f he hf
              rw [List.foldl_cons] at hf
              rcases ih _ (fun x hx => he x (by simp [hx])) hf with h | h
              · simp only [comF, Bool.or_eq_true, Bool.and_eq_true, beq_iff_eq] at h
                rcases h with h | ⟨h, _⟩
                · exact Or.inl h
                · exact Or.inr (by have := he e (by simp); omega)
              · exact Or.inr h
          rcases this es _ (fun e he => (h.ent e he).1) hc with h | h
          · have : n = a := by simpa using h
            omega
          · omega
        exact ⟨n - 1, by rw [List.mem_range]; omega, by omega⟩
  · unfold cmL
    refine List.Pairwise.filter _ ?_
    rw [List.pairwise_map]
    exact List.pairwise_lt_range.imp (fun h => by omega)

/-- A piece split off behind the recall, and scrapped. -/
def sP (s : Sv) (a : Nat) : Sv := ⟨s.td, s.os, s.rcs ++ [(a, 77)], splitS s.ls a 99 1, s.lg⟩
def sQ (s : Sv) (a : Nat) : Sv := ⟨s.td, s.os, s.rcs ++ [(a, 77)], scrapS (splitS s.ls a 99 1) 99 1, s.lg⟩
theorem fresh99 {s : Sv} {es : List (Nat × Nat)} (h : Tr s es) : ¬ idx 99 s.ls < s.ls.length := fun hi => by
  obtain ⟨l, hl, e⟩ := List.mem_map.1 ((idx_ids 99 s.ls).1 hi)
  have := h.ids l hl
  omega
theorem split99 {s : Sv} {es : List (Nat × Nat)} (hg : Good s.os s.ls) (h : Tr s es) {a : Nat} (ha : idx a s.ls < s.ls.length) (hf : 0 < (lotAt s.ls a).free) : splitC s.ls a 99 1 = 0 := by
  have hl := h.len hg
  have hr : roomC s.ls 99 = 0 := by unfold roomC; rw [if_neg (fresh99 h), if_neg (by omega)]
  unfold splitC
  rw [if_pos ha, if_pos hr, if_neg]
  have : (s.ls.getD (idx a s.ls) L0).free = (lotAt s.ls a).free := rfl
  omega
theorem split99_idp {s : Sv} {a : Nat} (ha : idx a s.ls < s.ls.length) (h0 : splitC s.ls a 99 1 = 0) : (splitS s.ls a 99 1).map idp = s.ls.map idp ++ [(99, [(a, 1)])] := by
  unfold splitS
  rw [if_pos h0, List.map_append, idp_set _ _ (gaveL _ _) (fun _ => rfl), idx_id ha]; rfl
theorem fam_more {ls ls' : List L} {a : Nat} (h : ls'.map idp = ls.map idp ++ [(99, [(a, 1)])]) (f : Nat → Bool) (n : Nat) : famB ls' f n = (famB ls f n || (n == 99 && famB ls f a)) := by
  rw [fam_ent, fam_ent, h, List.flatMap_append, List.foldl_append]; rfl
theorem split_step {s : Sv} {es : List (Nat × Nat)} (hg : Good s.os s.ls) (h : Tr s es) {a : Nat} (ha : idx a s.ls < s.ls.length) (hf : 0 < (lotAt s.ls a).free) : repV (sR s a) (.ok (3, [a, 99, 1])) = UInt8.ofNat 0 :: Pl.toldB [] ∧ stepZ (sR s a) (.ok (3, [a, 99, 1])) = sP s a := by
  have h0 := split99 hg h ha hf
  have e1 : repV (sR s a) (.ok (3, [a, 99, 1])) = [UInt8.ofNat (splitC s.ls a 99 1)] := rfl
  exact ⟨by rw [e1, h0]; rfl, rfl⟩
theorem look99 {s : Sv} {es : List (Nat × Nat)} (hg : Good s.os s.ls) (h : Tr s es) {a : Nat} (ha : idx a s.ls < s.ls.length) (hf : 0 < (lotAt s.ls a).free) : lookE (sP s a) 99 = 0 ∧ (lookN (sP s a) 99).length = 10 ∧ (lookN (sP s a) 99).getD 9 0 = 1 := by
  have h0 := split99 hg h ha hf
  have hd := split99_idp ha h0
  have hi : idx 99 (sP s a).ls < (sP s a).ls.length := by
    rw [idx_ids, ids_idp]
    show 99 ∈ ((splitS s.ls a 99 1).map idp).map Prod.fst
    rw [hd]; simp
  have hr : recB (sP s a).rcs (sP s a).ls 99 = true := by
    show famB (splitS s.ls a 99 1) (rcl0 (s.rcs ++ [(a, 77)])) 99 = true
    rw [fam_more hd]
    have : famB s.ls (rcl0 (s.rcs ++ [(a, 77)])) a = true := by
      have := recB_more s.rcs s.ls a a
      rw [comB_self, Bool.or_true] at this
      exact this
    rw [this]; simp
  refine ⟨by unfold lookE; rw [if_pos hi], by unfold lookN; rw [if_pos hi]; rfl, ?_⟩
  unfold lookN
  rw [if_pos hi]
  show (if recB (sP s a).rcs (sP s a).ls ((sP s a).ls.getD (idx 99 (sP s a).ls) L0).id then 1 else 0) = 1
  rw [idx_id hi, if_pos hr]
theorem scrap_step {s : Sv} {es : List (Nat × Nat)} (hg : Good s.os s.ls) (h : Tr s es) {a : Nat} (ha : idx a s.ls < s.ls.length) (hf : 0 < (lotAt s.ls a).free) : repV (sP s a) (.ok (10, [99, 1])) = UInt8.ofNat 0 :: Pl.toldB [] ∧ stepZ (sP s a) (.ok (10, [99, 1])) = sQ s a := by
  have h0 := split99 hg h ha hf
  have hS : splitS s.ls a 99 1 = s.ls.set (idx a s.ls) (gaveL (s.ls.getD (idx a s.ls) L0) 1) ++ [mkL s.ls 99 (s.ls.getD (idx a s.ls) L0).goods (s.ls.getD (idx a s.ls) L0).expiry 1 [((s.ls.getD (idx a s.ls) L0).id, 1)]] := by unfold splitS; rw [if_pos h0]
  have hsid : ∀ j, ((s.ls.set (idx a s.ls) (gaveL (s.ls.getD (idx a s.ls) L0) 1)).getD j L0).id = (s.ls.getD j L0).id := fun j => by
    by_cases hj : j = idx a s.ls
    · subst hj; rw [gset_eq ha]; rfl
    · rw [gset_ne hj]
  have hi : idx 99 (splitS s.ls a 99 1) = s.ls.length := by
    have hx : idx 99 (s.ls.set (idx a s.ls) (gaveL (s.ls.getD (idx a s.ls) L0) 1)) = idx 99 s.ls := idx_congr (List.length_set ..) hsid 99
    have hge : idx 99 s.ls = s.ls.length := by
      have h1 := fresh99 h
      have h2 : idx 99 s.ls ≤ s.ls.length := List.findIdx_le_length
      omega
    rw [hS]
    unfold idx at hx hge ⊢
    rw [List.findIdx_append, hx, hge, List.length_set]
    rw [if_neg (by omega)]
    simp [List.findIdx_cons, mkL]
  have hl : (splitS s.ls a 99 1).getD s.ls.length L0 = mkL s.ls 99 (s.ls.getD (idx a s.ls) L0).goods (s.ls.getD (idx a s.ls) L0).expiry 1 [((s.ls.getD (idx a s.ls) L0).id, 1)] := by
    rw [hS]; simp [List.getD_eq_getElem?_getD, List.getElem?_append_right]
  have hlen : (splitS s.ls a 99 1).length = s.ls.length + 1 := by rw [hS]; simp
  have hC : scrapC (splitS s.ls a 99 1) 99 1 = 0 := by
    unfold scrapC
    rw [hi, if_pos (by omega), hl, if_neg]
    show ¬ (1 : Nat) < 1
    omega
  have e1 : repV (sP s a) (.ok (10, [99, 1])) = [UInt8.ofNat (scrapC (splitS s.ls a 99 1) 99 1)] := rfl
  exact ⟨by rw [e1, hC]; rfl, rfl⟩

/-- Released: all is as it was. -/
theorem erase77 {rcs : List (Nat × Nat)} (h : ∀ p ∈ rcs, p.2 ≤ 2) (a : Nat) : (rcs ++ [(a, 77)]).erase (a, 77) = rcs := by
  have hn : (a, 77) ∉ rcs := fun hm => by have := h _ hm; simp at this
  rw [List.erase_append_right _ hn]; simp
theorem release_step {s' : Sv} {rcs : List (Nat × Nat)} (h : ∀ p ∈ rcs, p.2 ≤ 2) {a : Nat} (hr : s'.rcs = rcs ++ [(a, 77)]) : repV s' (.ok (9, [a, 77])) = UInt8.ofNat 0 :: Pl.toldB [] ∧ stepZ s' (.ok (9, [a, 77])) = ⟨s'.td, s'.os, rcs, s'.ls, s'.lg⟩ := by
  have e1 : repV s' (.ok (9, [a, 77])) = [UInt8.ofNat (releaseC s'.rcs a 77)] := rfl
  have e2 : stepZ s' (.ok (9, [a, 77])) = ⟨s'.td, s'.os, releaseS s'.rcs a 77, s'.ls, s'.lg⟩ := rfl
  have hc : (rcs ++ [(a, 77)]).contains (a, 77) = true := by simp
  rw [e1, e2, hr]
  unfold releaseC releaseS
  rw [hc, if_pos rfl, if_pos rfl, erase77 h]
  exact ⟨rfl, rfl⟩
theorem release_none {s' : Sv} (h : ∀ p ∈ s'.rcs, p.2 ≤ 2) (a : Nat) : repV s' (.ok (9, [a, 77])) = UInt8.ofNat 10 :: Pl.toldB [] ∧ stepZ s' (.ok (9, [a, 77])) = s' := by
  have e1 : repV s' (.ok (9, [a, 77])) = [UInt8.ofNat (releaseC s'.rcs a 77)] := rfl
  have e2 : stepZ s' (.ok (9, [a, 77])) = ⟨s'.td, s'.os, releaseS s'.rcs a 77, s'.ls, s'.lg⟩ := rfl
  rw [e1, e2]
  unfold releaseC releaseS
  rw [no77 h, if_neg (by simp), if_neg (by simp)]
  exact ⟨rfl, rfl⟩
theorem mark_back {s s' : Sv} {a : Nat} (hr : s'.rcs = s.rcs) (hl : s'.ls.map idp = s.ls.map idp ++ [(99, [(a, 1)])]) {i : Nat} (hi : i ≤ 13) : markF s' i = markF s i := by
  have h9 : (i == 99) = false := by rw [beq_eq_false_iff_ne]; omega
  have hb : recB s'.rcs s'.ls i = recB s.rcs s.ls i := by
    rw [hr]
    show famB s'.ls (rcl0 s.rcs) i = famB s.ls (rcl0 s.rcs) i
    rw [fam_more hl, h9]; simp
  have hm : i ∈ s'.ls.map L.id ↔ i ∈ s.ls.map L.id := by
    rw [ids_idp, ids_idp, hl, List.map_append, List.mem_append]
    constructor
    · rintro (h | h)
      · exact h
      · simp at h; omega
    · exact Or.inl
  rw [mark_eq, mark_eq, hb]
  by_cases h : i ∈ s.ls.map L.id
  · rw [if_pos h, if_pos (hm.2 h)]
  · rw [if_neg h, if_neg (fun h' => h (hm.1 h'))]
theorem mark_same {s s' : Sv} (hr : s'.rcs = s.rcs) (hl : s'.ls = s.ls) (i : Nat) : markF s' i = markF s i := by rw [mark_eq, mark_eq, hr, hl]
theorem scrap_idp (ls : List L) (a c : Nat) : (scrapS ls a c).map idp = ls.map idp := by
  unfold scrapS
  split
  · exact idp_set _ _ _ (fun _ => rfl)
  · rfl

end Go.Proofs.YtgcedalggnmooaaGreatDoor
