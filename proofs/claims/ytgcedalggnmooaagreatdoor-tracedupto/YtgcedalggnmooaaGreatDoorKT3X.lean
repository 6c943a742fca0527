import Derived.Test.YtgcedalggnmooaaGreatDoorKT2
import Derived.Test.YtgcedalggnmooaaGreatDoorKH
namespace Go.Proofs.YtgcedalggnmooaaGreatDoor
set_option linter.unusedSimpArgs false
set_option linter.unusedVariables false
open Go.RowKit
set_option maxRecDepth 100000

theorem Kv.grown {B : Nat} {w0 w w' : World} {Z : Nat → Prop} {Lb : Nat} {s : Sv} {row : Option Nat} (h : Kv B w0 w Z Lb s) (hg : w.grownBy w' row) (hr : ∀ k, row = some k → ¬ Z k ∧ B ≤ k) : Kv B w0 w' Z Lb s := by
  have h2 := h.two
  have hs := h.size
  have hne : ∀ k, k < B → some k ≠ row := fun k hk e => by have := (hr k e.symm).2; omega
  refine ⟨⟨hg.os.trans h.old.os, hg.tape.trans h.old.tape, hg.output.trans h.old.output, Nat.le_trans h.old.size hg.size, fun k hk => (hg.block k (by omega) (hne k hk)).trans (h.old.block k hk)⟩, Nat.le_trans h.size hg.size, h.two, ?_, h.pl.congr (fun k hk => hg.block k (h.zin k hk).2 (fun e => (hr k e.symm).1 hk)), fun k hk => ⟨(h.zin k hk).1, Nat.lt_of_lt_of_le (h.zin k hk).2 hg.size⟩, h.good⟩
  obtain ⟨⟨t0, v0, g0⟩, ⟨t1, v1, g1⟩, g2⟩ := h.gl
  exact ⟨⟨t0, v0, (World.cell?_of_block (a := ⟨2, 0, none⟩) (hg.block 2 (by omega) (hne 2 (by omega)))).trans g0⟩, ⟨t1, v1, (World.cell?_of_block (a := ⟨3, 0, none⟩) (hg.block 3 (by omega) (hne 3 (by omega)))).trans g1⟩, Nat.le_trans g2 hg.size⟩

theorem Kx.grown {j B : Nat} {w0 w w' : World} {Z : Nat → Prop} {Lb : Nat} {s : Sv} {row : Option Nat} (h : Kx j B w0 w Z Lb s) (hg : w.grownBy w' row) (hr : ∀ k, row = some k → ¬ Z k ∧ B ≤ k) : Kx j B w0 w' Z Lb s := by
  obtain ⟨lg, h1, h2⟩ := h
  exact ⟨lg, h1, h2.grown hg hr⟩

/-- Two rows of numbers, apart from each other and from the larder. -/
structure Ro2 (B : Nat) (w : World) (Z : Nat → Prop) (cv pv : Value) (cs ps : List Nat) : Prop where
  c : w.ownsRow B 3 1 cv cs.length (I cs)
  p : w.ownsRow B 3 1 pv ps.length (I ps)
  cz : ∀ g, cv.ownBlock = some g → ¬ Z g
  pz : ∀ g, pv.ownBlock = some g → ¬ Z g
  ne : ∀ g, cv.ownBlock = some g → pv.ownBlock ≠ some g
theorem Ro2.kn {B : Nat} {w w' : World} {Z Z' : Nat → Prop} {cv pv : Value} {cs ps : List Nat} (h : Ro2 B w Z cv pv cs ps) (hn : Kn Z w Z' w') : Ro2 B w' Z' cv pv cs ps :=
  ⟨(hn.own h.c h.cz).1, (hn.own h.p h.pz).1, (hn.own h.c h.cz).2, (hn.own h.p h.pz).2, h.ne⟩
theorem Ro2.swap {B : Nat} {w : World} {Z : Nat → Prop} {cv pv : Value} {cs ps : List Nat} (h : Ro2 B w Z cv pv cs ps) : Ro2 B w Z pv cv ps cs :=
  ⟨h.p, h.c, h.pz, h.cz, fun g hp hc => h.ne g hc hp⟩
theorem Ro2.app {B : Nat} {w0 w w2 : World} {Z : Nat → Prop} {Lb : Nat} {s : Sv} {cv pv v' : Value} {cs ps ns : List Nat} {m : Nat} (h : Ro2 B w Z cv pv cs ps) (hk : Kv B w0 w Z Lb s) (hown : w2.ownsRow B 3 1 v' (cs.length + m) (I cs ++ I ns)) (hm : m = ns.length) (hg : w.grownBy w2 cv.ownBlock) (hat : v'.ownBlock = cv.ownBlock ∨ v'.ownBlock = some w.heap.size) :
    Ro2 B w2 Z v' pv (cs ++ ns) ps ∧ Kv B w0 w2 Z Lb s := by
  refine ⟨⟨?_, own_congr h.p (fun g hg' => hg.block g (h.p.lt g hg').2 (fun e => h.ne g e.symm hg')), ?_, h.pz, ?_⟩, hk.grown hg (fun k e => ⟨h.cz k e, (h.c.lt k e).1⟩)⟩
  · have e : I (cs ++ ns) = I cs ++ I ns := by simp [I]
    rw [e, List.length_append, ← hm]; exact hown
  · intro g e hz
    rcases hat with h1 | h1
    · exact h.cz g (h1.symm.trans e) hz
    · have := (hk.zin g hz).2
      rw [h1] at e; simp at e; omega
  · intro g e e2
    rcases hat with h1 | h1
    · exact h.ne g (h1.symm.trans e) e2
    · have := (h.p.lt g e2).2
      rw [h1] at e; simp at e; omega

theorem entP_len : ∀ (R : List (Nat × List (Nat × Nat))), (∀ x ∈ R, x.2.length ≤ 2) → (R.flatMap entP).length ≤ 2 * R.length
  | [], _ => by simp
  | x :: R, h => by
    have := entP_len R (fun y hy => h y (by simp [hy]))
    have h1 := h x (by simp)
    rw [List.flatMap_cons, List.length_append, List.length_cons]
    have : (entP x).length = x.2.length := by unfold entP; simp
    omega
theorem Tr.eslen {B : Nat} {w0 w : World} {Z : Nat → Prop} {Lb : Nat} {s : Sv} {es : List (Nat × Nat)} (h : Tr s es) (hk : Kv B w0 w Z Lb s) : es.length ≤ 60 := by
  obtain ⟨R, h1, h2, h3⟩ := h.fam
  have hr := hk.room
  have hl : s.ls.length = R.length + 2 := by have := congrArg List.length h1; simpa using this
  have hp : ∀ x ∈ R, x.2.length ≤ 2 := fun x hx => by
    have : x ∈ s.ls.map idp := by rw [h1]; simp [hx]
    obtain ⟨l, hl, rfl⟩ := List.mem_map.1 this
    exact (hk.ok l hl).par.1
  have := entP_len R hp
  rw [h3]; omega
theorem Tr.rclen {B : Nat} {w0 w : World} {Z : Nat → Prop} {Lb : Nat} {s : Sv} (hk : Kv B w0 w Z Lb s) : s.rcs.length ≤ 10 := by
  obtain ⟨S, Zs, lv, _, _, _, _, ⟨M, v, bs, pvs, hP, _⟩, _⟩ := hk.pl
  exact hP.maps.rc.len

theorem sp_3 {k a b c d : Int} (h : (sp k a b c d).1 = 3) : sp k a b c d = (3, [1 + pk a 12, 1 + pk b 12, 1 + pk c 400]) := by
  unfold sp at h ⊢
  split at h <;> first | rfl | (simp at h; done)
theorem sp_4 {k a b c d : Int} (h : (sp k a b c d).1 = 4) : sp k a b c d = (4, [1 + pk a 12, 1 + pk b 12, 1 + pk c 12]) := by
  unfold sp at h ⊢
  split at h <;> first | rfl | (simp at h; done)
theorem sp_8 {k a b c d : Int} (h : (sp k a b c d).1 = 8) : sp k a b c d = (8, [1 + pk a 12, 1 + pk b 2]) := by
  unfold sp at h ⊢
  split at h <;> first | rfl | (simp at h; done)
theorem sp_9 {k a b c d : Int} (h : (sp k a b c d).1 = 9) : sp k a b c d = (9, [1 + pk a 12, 1 + pk b 2]) := by
  unfold sp at h ⊢
  split at h <;> first | rfl | (simp at h; done)
theorem rcs_same {s : Sv} {k a b c d : Int} (h8 : (sp k a b c d).1 ≠ 8) (h9 : (sp k a b c d).1 ≠ 9) : (stepV s (.ok (sp k a b c d))).rcs = s.rcs := by
  unfold sp at h8 h9 ⊢
  split at h8 <;> first | rfl | (simp at h8; done) | (rename_i hx; simp [hx] at h9; done)
theorem new_none {s : Sv} {p : Nat × List Nat} (h3 : p.1 ≠ 3) (h4 : p.1 ≠ 4) : (newP s p).flatMap entP = [] := by
  unfold newP
  split
  · split <;> simp [entP]
  · exact absurd rfl h3
  · exact absurd rfl h4
  · rfl

end Go.Proofs.YtgcedalggnmooaaGreatDoor

namespace Go.Proofs.YtgcedalggnmooaaGreatDoor
set_option linter.unusedSimpArgs false
set_option linter.unusedVariables false
open Go.RowKit
set_option maxRecDepth 100000

theorem two_new (w1 : World) (x y : Value) (t : TypeId) : ∀ (j : Nat) (u : Value), [x, y][j]? = some u → (w1.alloc (.cells #[x, y] t)).cell? (Addr.add ⟨w1.heap.size, 0, none⟩ j) = some u := by
  intro j u hj
  have hadd : Addr.add ⟨w1.heap.size, 0, none⟩ j = ⟨w1.heap.size, j, none⟩ := by simp [Addr.add]; exact fun h => h.symm
  rw [hadd, blk_cell (heap_alloc_new w1 _)]
  simpa using hj

/-- What the reply of a script's step says, by its code. -/
theorem told_ne (n : Nat) (l : List Nat) : (0 : UInt8) :: Pl.toldB (n :: l) ≠ [0] := by
  intro e
  have := congrArg List.length e
  have h := Pl.num_len_pos n
  simp [Pl.toldB] at this
  rw [this.1] at h; simp at h
theorem of_ne {c : Nat} (h : c ≠ 0) (hc : c ≤ 255) : (UInt8.ofNat c).toNat ≠ 0 ∧ [UInt8.ofNat c] ≠ [0] := by
  have e : (UInt8.ofNat c).toNat = c := by rw [UInt8.toNat_ofNat']; omega
  refine ⟨by omega, fun h' => ?_⟩
  have h2 : UInt8.ofNat c = 0 := by simpa using h'
  rw [h2] at e
  have : (0 : UInt8).toNat = 0 := rfl
  omega
/-- Recall: the reply's first byte; is it this byte alone; the recalls. -/
theorem st8 {s : Sv} {p : Nat × List Nat} {a m : Nat} (h : p = (8, [a, m])) :
    (((repV s (.ok p)).getD 0 0).toNat = 0 ∧ repV s (.ok p) ≠ [0] ∧ (stepV s (.ok p)).rcs.length = s.rcs.length + 1) ∨ (((repV s (.ok p)).getD 0 0).toNat ≠ 0 ∧ repV s (.ok p) ≠ [0] ∧ (stepV s (.ok p)).rcs.length = s.rcs.length) := by
  subst h
  have e1 : repV s (.ok (8, [a, m])) = recallR s.rcs s.ls a m := rfl
  have e2 : (stepV s (.ok (8, [a, m]))).rcs = recallS s.rcs s.ls a m := rfl
  rw [e1, e2]
  unfold recallR recallS
  by_cases h0 : recallC s.rcs s.ls a m = 0
  · rw [if_pos h0, if_pos h0]
    exact Or.inl ⟨rfl, told_ne _ _, by simp⟩
  · rw [if_neg h0, if_neg h0]
    have hq := of_ne h0 (by have := recallC_le s.rcs s.ls a m; omega)
    exact Or.inr ⟨hq.1, hq.2, rfl⟩
theorem st9 {s : Sv} {p : Nat × List Nat} {a m : Nat} (h : p = (9, [a, m])) :
    (((repV s (.ok p)).getD 0 0).toNat = 0 ∧ repV s (.ok p) = [0] ∧ (stepV s (.ok p)).rcs.length + 1 = s.rcs.length) ∨ (((repV s (.ok p)).getD 0 0).toNat ≠ 0 ∧ repV s (.ok p) ≠ [0] ∧ (stepV s (.ok p)).rcs.length = s.rcs.length) := by
  subst h
  have e1 : repV s (.ok (9, [a, m])) = [UInt8.ofNat (releaseC s.rcs a m)] := rfl
  have e2 : (stepV s (.ok (9, [a, m]))).rcs = releaseS s.rcs a m := rfl
  rw [e1, e2]
  unfold releaseC releaseS
  by_cases h0 : s.rcs.contains (a, m) = true
  · rw [if_pos h0, if_pos h0]
    refine Or.inl ⟨rfl, rfl, ?_⟩
    have hm := List.contains_iff_mem.1 h0
    have := List.length_pos_of_mem hm
    rw [List.length_erase_of_mem hm]; omega
  · rw [if_neg h0, if_neg h0]
    have hq := of_ne (c := 10) (by omega) (by omega)
    exact Or.inr ⟨hq.1, hq.2, rfl⟩
theorem st3 {s : Sv} {p : Nat × List Nat} {a b c : Nat} (h : p = (3, [a, b, c])) :
    (((repV s (.ok p)).getD 0 0).toNat = 0 ∧ repV s (.ok p) = [0] ∧ (newP s p).flatMap entP = [(b, a)]) ∨ (((repV s (.ok p)).getD 0 0).toNat ≠ 0 ∧ repV s (.ok p) ≠ [0] ∧ (newP s p).flatMap entP = []) := by
  subst h
  have e1 : repV s (.ok (3, [a, b, c])) = [UInt8.ofNat (splitC s.ls a b c)] := rfl
  rw [e1]
  simp only [newP]
  by_cases h0 : splitC s.ls a b c = 0
  · rw [if_pos h0, h0]; exact Or.inl ⟨rfl, rfl, rfl⟩
  · rw [if_neg h0]
    have hq := of_ne h0 (by have := splitC_le s.ls a b c; omega)
    exact Or.inr ⟨hq.1, hq.2, rfl⟩
theorem st4 {s : Sv} {p : Nat × List Nat} {a b m : Nat} (h : p = (4, [a, b, m])) :
    (((repV s (.ok p)).getD 0 0).toNat = 0 ∧ repV s (.ok p) = [0] ∧ (newP s p).flatMap entP = [(m, a), (m, b)]) ∨ (((repV s (.ok p)).getD 0 0).toNat ≠ 0 ∧ repV s (.ok p) ≠ [0] ∧ (newP s p).flatMap entP = []) := by
  subst h
  have e1 : repV s (.ok (4, [a, b, m])) = [UInt8.ofNat (mergeC s.ls a b m)] := rfl
  rw [e1]
  simp only [newP]
  by_cases h0 : mergeC s.ls a b m = 0
  · rw [if_pos h0, h0]; exact Or.inl ⟨rfl, rfl, rfl⟩
  · rw [if_neg h0]
    have hq := of_ne h0 (by have := mergeC_le s.ls a b m; omega)
    exact Or.inr ⟨hq.1, hq.2, rfl⟩

/-- The numbers of a command as they lie behind 'numbers'. -/
theorem nums_at {t : ByteArray} {ns : List Nat} (h : ∀ w, Calls Tryz.prog 24 #[.string t] w fun e w' => Below w.heap.size w w' ∧ ∃ v, e = .returned v ∧ w'.ownsRow w.heap.size 3 1 v ns.length (I ns)) (hn : 0 < ns.length) (w : World) :
    Calls Tryz.prog 24 #[.string t] w fun e w' => Below w.heap.size w w' ∧ ∃ q qc, e = .returned (.slice (some ⟨q, 0, none⟩) ns.length qc) ∧ w.heap.size ≤ q ∧ q < w'.heap.size ∧ ∀ j, j < ns.length → w'.cell? ⟨q, j, none⟩ = some (.int .i64 (ns.getD j 0 : Int)) := by
  refine (h w).mono ?_
  rintro e w' ⟨hb, v, he, hrow⟩
  obtain ⟨q, qc, hv, q1, q2⟩ := own_some hrow hn
  subst hv
  exact ⟨hb, q, qc, he, q1, q2, fun j hj => ownInts_cell hrow j hj⟩

end Go.Proofs.YtgcedalggnmooaaGreatDoor

namespace Go.Proofs.YtgcedalggnmooaaGreatDoor
set_option linter.unusedSimpArgs false
set_option linter.unusedVariables false
open Go.RowKit
set_option maxRecDepth 100000

/-- The larder, and rows of fourteen apart from it. -/
structure TI (J : Nat) (w0 : World) (Lb : Nat) (S : Sv) (Rs : List (TypeId × Nat × (Nat → Value))) (wx : World) (Z : Nat → Prop) : Prop where
  kv : Kx J w0.heap.size w0 wx Z Lb S
  rows : ∀ x ∈ Rs, R14 x.1 wx x.2.1 x.2.2 ∧ ¬ Z x.2.1
theorem TI.kn {J J' : Nat} {w0 : World} {Lb : Nat} {S S' : Sv} {Rs : List (TypeId × Nat × (Nat → Value))} {wx w2 : World} {Z Z2 : Nat → Prop} (h : TI J w0 Lb S Rs wx Z) (hk : Kx J' w0.heap.size w0 w2 Z2 Lb S') (hn : Kn Z wx Z2 w2) : TI J' w0 Lb S' Rs w2 Z2 :=
  ⟨hk, fun x hx => (h.rows x hx).1.kn (h.rows x hx).2 hn⟩
theorem TI.below {J : Nat} {w0 : World} {Lb : Nat} {S : Sv} {Rs : List (TypeId × Nat × (Nat → Value))} {wx w2 : World} {Z : Nat → Prop} (h : TI J w0 Lb S Rs wx Z) (hb : Below wx.heap.size wx w2) : TI J w0 Lb S Rs w2 Z := h.kn (h.kv.below hb) (Kn.below hb)
theorem TI.add {J : Nat} {w0 : World} {Lb : Nat} {S : Sv} {Rs : List (TypeId × Nat × (Nat → Value))} {wx : World} {Z : Nat → Prop} (h : TI J w0 Lb S Rs wx Z) {t : TypeId} {b : Nat} {F : Nat → Value} (hr : R14 t wx b F) (hz : ¬ Z b) : TI J w0 Lb S ((t, b, F) :: Rs) wx Z :=
  ⟨h.kv, fun x hx => by
    rcases List.mem_cons.1 hx with rfl | hx
    · exact ⟨hr, hz⟩
    · exact h.rows x hx⟩
theorem TI.sub {J : Nat} {w0 : World} {Lb : Nat} {S : Sv} {Rs Rs' : List (TypeId × Nat × (Nat → Value))} {wx : World} {Z : Nat → Prop} (h : TI J w0 Lb S Rs wx Z) (hs : ∀ x ∈ Rs', x ∈ Rs) : TI J w0 Lb S Rs' wx Z := ⟨h.kv, fun x hx => h.rows x (hs x hx)⟩
theorem TI.head {J : Nat} {w0 : World} {Lb : Nat} {S : Sv} {Rs : List (TypeId × Nat × (Nat → Value))} {wx : World} {Z : Nat → Prop} {t : TypeId} {b : Nat} {F : Nat → Value} (h : TI J w0 Lb S ((t, b, F) :: Rs) wx Z) : R14 t wx b F ∧ ¬ Z b := h.rows (t, b, F) (by simp)
theorem TI.tail {J : Nat} {w0 : World} {Lb : Nat} {S : Sv} {Rs : List (TypeId × Nat × (Nat → Value))} {wx : World} {Z : Nat → Prop} {x : TypeId × Nat × (Nat → Value)} (h : TI J w0 Lb S (x :: Rs) wx Z) : TI J w0 Lb S Rs wx Z := ⟨h.kv, fun y hy => h.rows y (by simp [hy])⟩
theorem R14.ne {t u : TypeId} {w : World} {b c : Nat} {F G : Nat → Value} (h : R14 t w b F) (k : R14 u w c G) (htu : t ≠ u) : b ≠ c := fun e => by
  subst e
  obtain ⟨cs, h1, _⟩ := h
  obtain ⟨ds, k1, _⟩ := k
  rw [h1] at k1
  simp at k1
  exact htu k1.2
theorem TI.setB {J : Nat} {w0 : World} {Lb : Nat} {S : Sv} {Rs : List (TypeId × Nat × (Nat → Value))} {wx : World} {Z : Nat → Prop} {b : Nat} {F : Nat → Value} (h : TI J w0 Lb S ((4, b, F) :: Rs) wx Z) (ht : ∀ x ∈ Rs, x.1 ≠ 4) (hb : w0.heap.size ≤ b) (i : Nat) (hi : i < 14) (v : Value) : TI J w0 Lb S ((4, b, fun j => if j = i then v else F j) :: Rs) (wx.setCell ⟨b, i, none⟩ v) Z := by
  have h0 := h.rows (4, b, F) (by simp)
  refine ⟨h.kv.setC h0.2 hb i v, fun x hx => ?_⟩
  rcases List.mem_cons.1 hx with rfl | hx
  · exact ⟨h0.1.set i hi v, h0.2⟩
  · have h1 := h.rows x (by simp [hx])
    exact ⟨h1.1.other (h1.1.ne h0.1 (ht x hx)) i v, h1.2⟩
theorem TI.setO {J : Nat} {w0 : World} {Lb : Nat} {S : Sv} {Rs : List (TypeId × Nat × (Nat → Value))} {wx : World} {Z : Nat → Prop} {g : Nat} (h : TI J w0 Lb S Rs wx Z) (hr : ∀ x ∈ Rs, x.2.1 ≠ g) (hz : ¬ Z g) (hb : w0.heap.size ≤ g) (i : Nat) (v : Value) : TI J w0 Lb S Rs (wx.setCell ⟨g, i, none⟩ v) Z :=
  ⟨h.kv.setC hz hb i v, fun x hx => ⟨(h.rows x hx).1.other (hr x hx) i v, (h.rows x hx).2⟩⟩
theorem TI.grown {J : Nat} {w0 : World} {Lb : Nat} {S : Sv} {Rs : List (TypeId × Nat × (Nat → Value))} {wx w2 : World} {Z : Nat → Prop} {row : Option Nat} (h : TI J w0 Lb S Rs wx Z) (hg : wx.grownBy w2 row) (hr : ∀ k, row = some k → ¬ Z k ∧ w0.heap.size ≤ k) (hx : ∀ x ∈ Rs, row ≠ some x.2.1) : TI J w0 Lb S Rs w2 Z :=
  ⟨h.kv.grown hg hr, fun x hm => by
    have h1 := h.rows x hm
    have hlt := h1.1.lt
    obtain ⟨cs, q1, q2⟩ := h1.1
    exact ⟨⟨cs, (hg.block _ hlt (fun e => hx x hm e.symm)).trans q1, q2⟩, h1.2⟩⟩

theorem Ro2.setO {B : Nat} {w : World} {Z : Nat → Prop} {cv pv : Value} {cs ps : List Nat} {b : Nat} (h : Ro2 B w Z cv pv cs ps) (h1 : ∀ g, cv.ownBlock = some g → g ≠ b) (h2 : ∀ g, pv.ownBlock = some g → g ≠ b) (i : Nat) (v : Value) : Ro2 B (w.setCell ⟨b, i, none⟩ v) Z cv pv cs ps :=
  ⟨own_congr h.c (fun g hg => Below.heap_setCell _ _ _ _ (h1 g hg)), own_congr h.p (fun g hg => Below.heap_setCell _ _ _ _ (h2 g hg)), h.cz, h.pz, h.ne⟩
theorem Cl.setO {w : World} {g b : Nat} {ns : List Nat} (h : Cl w g ns) (hne : g ≠ b) (i : Nat) (v : Value) : Cl (w.setCell ⟨b, i, none⟩ v) g ns :=
  ⟨by simp [World.setCell]; exact h.1, fun j hj => (World.cell?_of_block (a := ⟨g, j, none⟩) (Below.heap_setCell _ _ _ _ hne)).trans (h.2 j hj)⟩

theorem own_lit (w : World) (ns : List Nat) (hn : ns.length ≤ 1000) : (w.alloc (.cells (I ns).toArray 3)).ownsRow w.heap.size 3 1 (.slice (some ⟨w.heap.size, 0, none⟩) ns.length ns.length) ns.length (I ns) := by
  refine ⟨by simp [I], Or.inr ⟨w.heap.size, ns.length, (I ns).toArray, rfl, Nat.le_refl _, heap_alloc_new w _, ?_⟩⟩
  simp [I]
  exact ⟨by unfold maxLen; omega, by rw [List.take_of_length_le (by simp)]⟩
theorem upF_at {k j : Nat} {f : Nat → Value} {z : Value} (h1 : 1 ≤ j) (h2 : j ≤ k) : upF k f z j = f j := by unfold upF; rw [if_pos ⟨h1, h2⟩]
theorem markF_le (s : Sv) (i : Nat) : -1 ≤ markF s i ∧ markF s i ≤ 1 := by
  rw [mark_eq]; split
  · split <;> omega
  · omega
theorem heldF_lt {B : Nat} {w0 w : World} {Z : Nat → Prop} {Lb : Nat} {s s' : Sv} (h : Kv B w0 w Z Lb s') (hl : s'.ls = s.ls) (i : Nat) : heldF s i < 9223372036854775808 := by
  unfold heldF lookE lookN
  by_cases hi : idx i s.ls < s.ls.length
  · rw [if_pos hi, if_pos hi, if_pos rfl]
    have := h.ok _ (by rw [hl]; exact mem_getD hi)
    have hs := this.sum
    show (s.ls.getD (idx i s.ls) L0).held < _
    omega
  · rw [if_neg hi, if_neg hi, if_neg (by omega)]; omega

theorem two_new' (w1 : World) (x y : Value) (t : TypeId) (b : Nat) (hb : b = w1.heap.size) : ∀ (j : Nat) (u : Value), [x, y][j]? = some u → (w1.alloc (.cells #[x, y] t)).cell? (Addr.add ⟨b, 0, none⟩ j) = some u := by
  subst hb; exact two_new w1 x y t
theorem Cl.keep {w w' : World} {g : Nat} {ns : List Nat} (h : Cl w g ns) (hb : w'.heap[g]? = w.heap[g]?) (hl : w.heap.size ≤ w'.heap.size) : Cl w' g ns :=
  ⟨Nat.lt_of_lt_of_le h.1 hl, fun j hj => (World.cell?_of_block (a := ⟨g, j, none⟩) hb).trans (h.2 j hj)⟩

theorem look_numZ {B : Nat} {w0 w : World} {Z : Nat → Prop} {Lb : Nat} {s : Sv} (h : Kv B w0 w Z Lb s) (i : Nat) (h1 : 1 ≤ i) (h2 : i ≤ 2147483647) (he : lookE s i = 0) :
    Calls Tryz.prog 25 #[.pointer (some ⟨Lb, 0, none⟩), .int .i64 11, .slice (some ⟨w.heap.size, 0, none⟩) 1 1] (w.alloc (.cells #[.int .i64 (i : Int)] 3)) fun e w' => ∃ Z' q qc, e = .returned (.tuple #[.int .i64 0, .slice (some ⟨q, 0, none⟩) 10 qc]) ∧ Kv B w0 w' Z' Lb s ∧ Kn Z w Z' w' ∧ w.heap.size ≤ q ∧ q < w'.heap.size ∧ (∀ k, k < 10 → w'.cell? ⟨q, k, none⟩ = some (.int .i64 ((lookN s i).getD k 0 : Int))) ∧ ¬ Z' q := by
  have hl : (lookN s i).length = 10 := by
    unfold lookE at he
    unfold lookN
    by_cases hi : idx i s.ls < s.ls.length
    · rw [if_pos hi]; rfl
    · rw [if_neg hi] at he; omega
  refine (look_lit h i h1 h2).mono ?_
  rintro e w' ⟨Z', v, rfl, q1, q2, q3, q4⟩
  obtain ⟨q, qc, hv, k1, k2⟩ := own_some q3 (by omega)
  subst hv
  refine ⟨Z', q, qc, by rw [he, hl]; rfl, q1, q2, k1, k2, fun k hk => ownInts_cell q3 k (by omega), q4 q rfl⟩
theorem look_numZx {j B : Nat} {w0 w : World} {Z : Nat → Prop} {Lb : Nat} {s : Sv} (h : Kx j B w0 w Z Lb s) (i : Nat) (h1 : 1 ≤ i) (h2 : i ≤ 2147483647) (he : lookE s i = 0) :
    Calls Tryz.prog 25 #[.pointer (some ⟨Lb, 0, none⟩), .int .i64 11, .slice (some ⟨w.heap.size, 0, none⟩) 1 1] (w.alloc (.cells #[.int .i64 (i : Int)] 3)) fun e w' => ∃ Z' q qc, e = .returned (.tuple #[.int .i64 0, .slice (some ⟨q, 0, none⟩) 10 qc]) ∧ Kx j B w0 w' Z' Lb s ∧ Kn Z w Z' w' ∧ w.heap.size ≤ q ∧ q < w'.heap.size ∧ (∀ k, k < 10 → w'.cell? ⟨q, k, none⟩ = some (.int .i64 ((lookN s i).getD k 0 : Int))) ∧ ¬ Z' q := by
  have hl : (lookN s i).length = 10 := by
    unfold lookE at he
    unfold lookN
    by_cases hi : idx i s.ls < s.ls.length
    · rw [if_pos hi]; rfl
    · rw [if_neg hi] at he; omega
  refine (look_litx h i h1 h2).mono ?_
  rintro e w' ⟨Z', v, rfl, q1, q2, q3, q4⟩
  obtain ⟨q, qc, hv, k1, k2⟩ := own_some q3 (by omega)
  subst hv
  refine ⟨Z', q, qc, by rw [he, hl]; rfl, q1, q2, k1, k2, fun k hk => ownInts_cell q3 k (by omega), q4 q rfl⟩
theorem heldF_ltx {j B : Nat} {w0 w : World} {Z : Nat → Prop} {Lb : Nat} {s s' : Sv} (h : Kx j B w0 w Z Lb s') (hl : s'.ls = s.ls) (i : Nat) : heldF s i < 9223372036854775808 := by
  obtain ⟨lg, _, hk⟩ := h
  exact heldF_lt (s := s) hk hl i
/-- Behind the release. -/
def sE (s : Sv) (a : Nat) : Sv := ⟨s.td, s.os, s.rcs, scrapS (splitS s.ls a 99 1) 99 1, s.lg⟩

/-- What was written down, in order: which lots come of a, by the first i. -/
def cmF (es : List (Nat × Nat)) (a i : Nat) : Nat → Value := fun n => .bool ((es.take i).foldl comF (fun m => m == a) n)
theorem cmF_zero (es : List (Nat × Nat)) (a : Nat) : (fun j => if j = a then Value.bool true else (fun _ => Value.bool false) j) = cmF es a 0 := by
  funext j
  unfold cmF
  by_cases h : j = a
  · subst h; simp
  · rw [if_neg h]; simp [h]
theorem cmF_succ {es : List (Nat × Nat)} {i : Nat} (a : Nat) (hi : i < es.length) : cmF es a (i + 1) = fun n => .bool (comF ((es.take i).foldl comF (fun m => m == a)) (es.getD i (0, 0)) n) := by
  funext n
  unfold cmF
  rw [List.take_succ_eq_append_getElem hi, List.foldl_append]
  simp [List.getD_eq_getElem?_getD, hi]
theorem cmF_yes {es : List (Nat × Nat)} {i a : Nat} (hi : i < es.length) (h : (es.take i).foldl comF (fun m => m == a) (es.getD i (0, 0)).2 = true) : (fun j => if j = (es.getD i (0, 0)).1 then Value.bool true else cmF es a i j) = cmF es a (i + 1) := by
  rw [cmF_succ a hi]
  funext n
  by_cases hn : n = (es.getD i (0, 0)).1
  · rw [if_pos hn]
    have : (n == (es.getD i (0, 0)).1) = true := by simp [hn]
    simp only [comF, this, h, Bool.and_self, Bool.or_true]
  · rw [if_neg hn]
    have : (n == (es.getD i (0, 0)).1) = false := by simpa using hn
    simp only [comF, this, Bool.false_and, Bool.or_false]; rfl
theorem cmF_no {es : List (Nat × Nat)} {i a : Nat} (hi : i < es.length) (h : (es.take i).foldl comF (fun m => m == a) (es.getD i (0, 0)).2 = false) : cmF es a i = cmF es a (i + 1) := by
  rw [cmF_succ a hi]
  funext n
  simp only [comF, h, Bool.and_false, Bool.or_false]; rfl
theorem cmF_all {s : Sv} {es : List (Nat × Nat)} (h : Tr s es) {a : Nat} (ha : a ≤ 12) : cmF es a es.length = fun n => .bool (comB s.ls a n) := by
  funext n
  unfold cmF
  rw [List.take_length, h.com ha]

/-- Recall, Release, Split, Scrap: asked with numbers written out. -/
theorem ask_two {j B : Nat} {w0 w : World} {Z : Nat → Prop} {Lb : Nat} {s : Sv} (h : Kx j B w0 w Z Lb s) (hj : j ≤ 1000) (c : Nat) (hc : c = 8 ∨ c = 9 ∨ c = 10) (a m : Nat) (ha : 1 ≤ a ∧ a ≤ 100) (hm : 1 ≤ m ∧ m ≤ 100) (x : Nat) (rs : List Nat) (s' : Sv) (hx : x ≤ 255) (hr : repV s (.ok (c, [a, m])) = UInt8.ofNat x :: Pl.toldB rs ∧ stepZ s (.ok (c, [a, m])) = s') (hrs : ∀ n ∈ rs, n < 9223372036854775808) (hrl : rs.length ≤ 100) :
    Calls Tryz.prog 25 #[.pointer (some ⟨Lb, 0, none⟩), .int .i64 (c : Int), .slice (some ⟨w.heap.size, 0, none⟩) 2 2] (w.alloc (.cells #[.int .i64 (a : Int), .int .i64 (m : Int)] 3)) fun e w' => ∃ Z' v, e = .returned (.tuple #[.int .i64 (x : Int), v]) ∧ Kx (j + 1) B w0 w' Z' Lb s' ∧ Kn Z w Z' w' ∧ w'.ownsRow w.heap.size 3 1 v rs.length (I rs) ∧ ∀ q, v.ownBlock = some q → ¬ Z' q := by
  have := ask_litx h hj c (by omega) (by omega) [a, m] (by rcases hc with rfl | rfl | rfl <;> rfl) (by intro n hn; simp at hn; omega) (by rcases hc with rfl | rfl | rfl <;> (simp [Pl.mays, Pl.kindsL, Pl.mayB]; omega)) x rs hx hr.1 hrs hrl
  rw [hr.2] at this
  exact this
theorem ask_split {j B : Nat} {w0 w : World} {Z : Nat → Prop} {Lb : Nat} {s : Sv} (h : Kx j B w0 w Z Lb s) (hj : j ≤ 1000) (a : Nat) (ha : 1 ≤ a ∧ a ≤ 100) (s' : Sv) (hr : repV s (.ok (3, [a, 99, 1])) = UInt8.ofNat 0 :: Pl.toldB [] ∧ stepZ s (.ok (3, [a, 99, 1])) = s') :
    Calls Tryz.prog 25 #[.pointer (some ⟨Lb, 0, none⟩), .int .i64 3, .slice (some ⟨w.heap.size, 0, none⟩) 3 3] (w.alloc (.cells #[.int .i64 (a : Int), .int .i64 99, .int .i64 1] 3)) fun e w' => ∃ Z' v, e = .returned (.tuple #[.int .i64 0, v]) ∧ Kx (j + 1) B w0 w' Z' Lb s' ∧ Kn Z w Z' w' := by
  have : Calls Tryz.prog 25 #[.pointer (some ⟨Lb, 0, none⟩), .int .i64 3, .slice (some ⟨w.heap.size, 0, none⟩) 3 3] (w.alloc (.cells (I [a, 99, 1]).toArray 3)) fun e w' => ∃ Z' v, e = .returned (.tuple #[.int .i64 ((0 : Nat) : Int), v]) ∧ Kx (j + 1) B w0 w' Z' Lb (stepZ s (.ok (3, [a, 99, 1]))) ∧ Kn Z w Z' w' ∧ w'.ownsRow w.heap.size 3 1 v ([] : List Nat).length (I []) ∧ ∀ q, v.ownBlock = some q → ¬ Z' q :=
    ask_litx h hj 3 (by omega) (by omega) [a, 99, 1] rfl (by intro n hn; simp at hn; omega) (by simp [Pl.mays, Pl.kindsL, Pl.mayB]; omega) 0 [] (by omega) hr.1 (by simp) (by simp)
  rw [hr.2] at this
  exact this.mono (fun e w' hh => by obtain ⟨Z', v, h1, h2, h3, _, _⟩ := hh; exact ⟨Z', v, h1, h2, h3⟩)

end Go.Proofs.YtgcedalggnmooaaGreatDoor
