import Derived.Test.YtcomohmadfnmgaaDoorSt9
import Derived.Deep.RegionHeld3
namespace Go.Proofs.YtcomohmadfnmgaaDoor
set_option linter.unusedSimpArgs false
set_option linter.unusedVariables false
open Go.RowKit
set_option maxRecDepth 100000

def mkL (ls : List L) (id goods expiry got : Nat) : L := { id := id, goods := goods, expiry := expiry, place := ls.length + 1, got := got, free := got, held := 0, shipped := 0, scrapped := 0, given := 0 }

def splitC (ls : List L) (n m c : Nat) : Nat := if idx n ls < ls.length then (if roomC ls m = 0 then (if (ls.getD (idx n ls) L0).free < c then 7 else 0) else roomC ls m) else 4
def splitS (ls : List L) (n m c : Nat) : List L :=
  if splitC ls n m c = 0 then ls.set (idx n ls) (gaveL (ls.getD (idx n ls) L0) c) ++ [mkL ls m (ls.getD (idx n ls) L0).goods (ls.getD (idx n ls) L0).expiry c] else ls

theorem roomC_le (ls : List L) (n : Nat) : roomC ls n ≤ 6 := by unfold roomC; split <;> (try split) <;> omega
theorem roomC_len {ls : List L} {n : Nat} (h : roomC ls n = 0) : ls.length < 30 := by
  unfold roomC at h
  by_cases hq : 30 ≤ ls.length
  · split at h
    · omega
    · omega
  · omega


set_option maxHeartbeats 1600000 in
theorem split_no {Z : Nat → Prop} {w : World} {S td : Nat} {ls : List L} (h : PI Z w S td ls) (n m c : Nat) (h1 : n ≤ 2147483647) (h2 : m ≤ 2147483647) (h3 : c ≤ 2147483647) (hc : splitC ls n m c ≠ 0) :
    Calls Tryd.prog 50 #[.pointer (some ⟨S, 0, none⟩), .agg #[.int .i64 (n : Int), .int .i64 (m : Int), .int .i64 (c : Int)]] w fun e w' => e = .returned (.int .i64 (splitC ls n m c : Int)) ∧ Below w.heap.size w w' := by
  obtain ⟨M, v, bs, pvs, hP, hin⟩ := h
  have hP1 := hP.below (al1 w (Obj.cells #[.int .i64 (n : Int), .int .i64 (m : Int), .int .i64 (c : Int)] 106))
  have HR := hide (find_any hP1 n h1)
  have HM := hide (room_any hP1 m h2)
  have hrle := roomC_le ls m
  by_cases hi : idx n ls < ls.length
  · have HF : Hid (findV bs ls n = .pointer (some ⟨bs.getD (idx n ls) 0, 0, none⟩)) := by unfold Hid findV; rw [if_pos hi]
    rw [HF.out] at HR
    have hlot := hP.lot _ hi
    have hok := hP.ok _ (mem_getD hi)
    generalize bs.getD (idx n ls) 0 = b at *
    by_cases hr : roomC ls m = 0
    · have hs : (ls.getD (idx n ls) L0).free < c := by
        unfold splitC at hc
        rw [if_pos hi, if_pos hr] at hc
        by_cases hq : (ls.getD (idx n ls) L0).free < c
        · exact hq
        · rw [if_neg hq] at hc; exact absurd rfl hc
      have HC : Hid (splitC ls n m c = 7) := by unfold Hid splitC; rw [if_pos hi, if_pos hr, if_pos hs]
      rw [HC.out]
      rw [hr] at HM
      generalize pvs.getD (idx n ls) default = pv at *
      generalize ls.getD (idx n ls) L0 = l at *
      have c6 : w.cell? ⟨b, 6, none⟩ = some (.int .i64 (l.free : Int)) := by rw [blk_cell hlot]; rfl
      have hlt := blk_lt hlot
      have hsum := hok.sum
      have hfr : l.free ≤ 2147483647 := by omega
      clear hP hP1 hlot hok hsum hi hr hrle hc HF HC
      go_enter Tryd.func50, Tryd.ntmps50
      go_wp2_with (first
        | (go_at_call 74; refine (HR.out).mono ?_; rintro e w1 ⟨rfl, rfl⟩)
        | (go_at_call 72; refine (HM.out).mono ?_; rintro e w1 ⟨rfl, rfl⟩))
      go_region
      go_wp2_with fail
      go_ret
      exact ⟨rfl, (al1 w _).drew⟩
    · have HC : Hid (splitC ls n m c = roomC ls m) := by unfold Hid splitC; rw [if_pos hi, if_neg hr]
      rw [HC.out]
      have hrb : ((roomC ls m : Int) != 0) = true := by rw [bne_iff_ne]; omega
      generalize roomC ls m = rc at *
      clear hP hP1 hlot hok hi hr hc HF HC
      go_enter Tryd.func50, Tryd.ntmps50
      go_wp2_with (first
        | (go_at_call 74; refine (HR.out).mono ?_; rintro e w1 ⟨rfl, rfl⟩)
        | (go_at_call 72; refine (HM.out).mono ?_; rintro e w1 ⟨rfl, rfl⟩))
      go_ret
      exact ⟨rfl, al1 w _⟩
  · have HF : Hid (findV bs ls n = .pointer none) := by unfold Hid findV; rw [if_neg hi]
    have HC : Hid (splitC ls n m c = 4) := by unfold Hid splitC; rw [if_neg hi]
    rw [HF.out] at HR
    rw [HC.out]
    clear hP hP1 hi HF hrle
    go_enter Tryd.func50, Tryd.ntmps50
    go_wp2_with (go_at_call 74; refine (HR.out).mono ?_; rintro e w1 ⟨rfl, rfl⟩)
    go_ret
    exact ⟨rfl, al1 w _⟩

theorem Kp.cell {Z : Nat → Prop} {w w' : World} (h : Kp Z w w') {b j : Nat} {x : Value} (hz : ¬ Z b) (hb : b < w.heap.size) (hc : w.cell? ⟨b, j, none⟩ = some x) : w'.cell? ⟨b, j, none⟩ = some x := by
  rw [← hc]; unfold World.cell?; simp only [h.block b hb hz]

/-- A block of another type is none of those that 'add' turns. -/
theorem PV.apart {w : World} {S M : Nat} {v : Value} {td : Nat} {bs : List Nat} {pvs : List Value} {ls : List L} (h : PV w S M v td bs pvs ls) {b : Nat} {cs : Array Value} {t : TypeId} (hb : w.heap[b]? = some (.cells cs t (0, 0))) (h1 : t ≠ 59) (h2 : t ≠ 149) : ¬ (b = S ∨ v.ownBlock = some b) := by
  rintro (e | e)
  · exact ty_ne hb h.store h1 e
  · obtain ⟨cs', hc⟩ := own_ty h.row e
    exact ty_ne hb hc h2 rfl

set_option maxHeartbeats 1600000 in
theorem split_yes {Z : Nat → Prop} {w : World} {S td : Nat} {ls : List L} (h : PI Z w S td ls) (n m c : Nat) (h1 : n ≤ 2147483647) (h2 : m ≤ 2147483647) (h3 : c ≤ 2147483647) (hi : idx n ls < ls.length) (hr : roomC ls m = 0) (hs : ¬ (ls.getD (idx n ls) L0).free < c) :
    Calls Tryd.prog 50 #[.pointer (some ⟨S, 0, none⟩), .agg #[.int .i64 (n : Int), .int .i64 (m : Int), .int .i64 (c : Int)]] w fun e w' => Kp Z w w' ∧ e = .returned (.int .i64 0) ∧
      PI (Zn Z w) w' S td (ls.set (idx n ls) (gaveL (ls.getD (idx n ls) L0) c) ++ [mkL ls m (ls.getD (idx n ls) L0).goods (ls.getD (idx n ls) L0).expiry c]) := by
  obtain ⟨M, v, bs, pvs, hP, hin⟩ := h
  have hP1 := hP.below (al1 w (Obj.cells #[.int .i64 (n : Int), .int .i64 (m : Int), .int .i64 (c : Int)] 106))
  have HR := hide (find_any hP1 n h1)
  have HM := hide (room_any hP1 m h2)
  have hl30 := roomC_len hr
  have HF : Hid (findV bs ls n = .pointer (some ⟨bs.getD (idx n ls) 0, 0, none⟩)) := by unfold Hid findV; rw [if_pos hi]
  rw [HF.out] at HR
  rw [hr] at HM
  have hlot := hP1.lot _ hi
  have hok := hP.ok _ (mem_getD hi)
  have hZb : Z (bs.getD (idx n ls) 0) := hin.b _ (getD_mem_nat (by rw [hP.len]; exact hi))
  obtain ⟨l, HL⟩ : ∃ l, Hid (l = ls.getD (idx n ls) L0) := ⟨_, rfl⟩
  obtain ⟨b, HB⟩ : ∃ b, Hid (b = bs.getD (idx n ls) 0) := ⟨_, rfl⟩
  obtain ⟨pv, HV⟩ : ∃ pv, Hid (pv = pvs.getD (idx n ls) default) := ⟨_, rfl⟩
  rw [← HL.out] at hlot hok hs ⊢
  rw [← HB.out] at hlot HR hZb
  rw [← HV.out] at hlot
  have hltb : b < w.heap.size := by
    have := blk_lt hlot
    have h2 := ty_ne hlot (heap_alloc_new w (Obj.cells #[.int .i64 (n : Int), .int .i64 (m : Int), .int .i64 (c : Int)] 106)) (by decide)
    simp at this
    omega
  have hlotw : w.heap[b]? = some (.cells (lotCells l pv) 148 (0, 0)) := by rw [← Below.heap_alloc w (Obj.cells #[.int .i64 (n : Int), .int .i64 (m : Int), .int .i64 (c : Int)] 106) b hltb]; exact hlot
  have hsum := hok.sum
  have hfr : l.free ≤ 2147483647 := by omega
  have hgo := hok.goods
  have hex := hok.expiry
  have hidl := hok.id
  have c6 : w.cell? ⟨b, 6, none⟩ = some (.int .i64 (l.free : Int)) := by rw [blk_cell hlotw]; rfl
  obtain ⟨w1, hw1⟩ : ∃ w1, w1 = (w.alloc (Obj.cells #[.int .i64 (n : Int), .int .i64 (m : Int), .int .i64 (c : Int)] 106)).drew := ⟨_, rfl⟩
  have hb1 : Below w.heap.size w w1 := by rw [hw1]; exact (al1 w _).drew
  have hlot1 : w1.heap[b]? = some (.cells (lotCells l pv) 148 (0, 0)) := by rw [hb1.block b hltb]; exact hlotw
  have hcmd1 : w1.heap[w.heap.size]? = some (Obj.cells #[.int .i64 (n : Int), .int .i64 (m : Int), .int .i64 (c : Int)] 106 (0, 0)) := by rw [hw1]; exact heap_alloc_new w _
  have hsz1 : w1.heap.size = w.heap.size + 1 := by rw [hw1]; simp
  have HG := hide (give_any hlot1 hok c (by omega))
  have hPg : PV (giveW w1 b l c) S M v td bs pvs (ls.set (idx n ls) (gaveL l c)) := (hP.below hb1).lotset hi (l' := gaveL l c) (gaveL_ok hok (by omega)) (by rw [← HV.out, ← HB.out]; exact giveW_self hlot1 c (by omega)) (fun k hk hne => giveW_other hk (by rw [HB.out]; exact hne))
  have hself := giveW_self hlot1 c (by omega)
  have hkg : Kp Z w (giveW w1 b l c) := Kp.before hb1 (giveW_kp w1 b l c (Or.inl hZb))
  have hszg := giveW_size w1 b l c
  have hcmdg : (giveW w1 b l c).heap[w.heap.size]? = some (Obj.cells #[.int .i64 (n : Int), .int .i64 (m : Int), .int .i64 (c : Int)] 106 (0, 0)) := by
    rw [giveW_other (by omega) (fun e => by omega)]; exact hcmd1
  obtain ⟨G, HGw⟩ : ∃ G, Hid (G = giveW w1 b l c) := ⟨_, rfl⟩
  rw [← HGw.out] at HG hPg hself hkg hszg hcmdg
  have g1 : G.cell? ⟨w.heap.size, 1, none⟩ = some (.int .i64 (m : Int)) := by rw [blk_cell hcmdg]; rfl
  have g2 : G.cell? ⟨w.heap.size, 2, none⟩ = some (.int .i64 (c : Int)) := by rw [blk_cell hcmdg]; rfl
  have gb1 : G.cell? ⟨b, 1, none⟩ = some (.int .i64 (l.goods : Int)) := by rw [blk_cell hself]; rfl
  have gb2 : G.cell? ⟨b, 2, none⟩ = some (.int .i64 (l.expiry : Int)) := by rw [blk_cell hself]; rfl
  have hpn := heap_alloc_new G (Obj.cells #[.int .i64 (l.id : Int), .int .i64 (c : Int)] 152)
  have hPa := hPg.below (al1 G (Obj.cells #[.int .i64 (l.id : Int), .int .i64 (c : Int)] 152)).drew
  have hpar : Par (G.alloc (Obj.cells #[.int .i64 (l.id : Int), .int .i64 (c : Int)] 152)).drew (.slice (some ⟨G.heap.size, 0, none⟩) 1 1) := by
    refine Or.inr ⟨G.heap.size, 1, 1, _, rfl, by omega, hpn, fun j hj => ?_⟩
    obtain rfl : j = 0 := by omega
    exact ⟨l.id, c, rfl, rfl⟩
  have hba := (al1 G (Obj.cells #[.int .i64 (l.id : Int), .int .i64 (c : Int)] 152)).drew
  have hcmda := (hba.block _ (blk_lt hcmdg)).trans hcmdg
  have hlota := (hba.block _ (blk_lt hself)).trans hself
  have ap1 := hPa.apart hcmda (by decide) (by decide)
  have ap2 := hPa.apart hlota (by decide) (by decide)
  have e1 : (G.alloc (Obj.cells #[.int .i64 (l.id : Int), .int .i64 (c : Int)] 152)).drew.cell? ⟨w.heap.size, 1, none⟩ = some (.int .i64 (m : Int)) := by rw [blk_cell hcmda]; rfl
  have e2 : (G.alloc (Obj.cells #[.int .i64 (l.id : Int), .int .i64 (c : Int)] 152)).drew.cell? ⟨w.heap.size, 2, none⟩ = some (.int .i64 (c : Int)) := by rw [blk_cell hcmda]; rfl
  have e3 : (G.alloc (Obj.cells #[.int .i64 (l.id : Int), .int .i64 (c : Int)] 152)).drew.cell? ⟨b, 1, none⟩ = some (.int .i64 (l.goods : Int)) := by rw [blk_cell hlota]; rfl
  have e4 : (G.alloc (Obj.cells #[.int .i64 (l.id : Int), .int .i64 (c : Int)] 152)).drew.cell? ⟨b, 2, none⟩ = some (.int .i64 (l.expiry : Int)) := by rw [blk_cell hlota]; rfl
  have HA := hide ((add_any hPa m l.goods l.expiry c _ hpar (by rw [List.length_set]; exact hl30) h2 hgo hex h3).mono (fun e w' hh => (⟨hh.1, hide hh.2, hh.2.1.cell ap1 (blk_lt hcmda) e1, hh.2.1.cell ap1 (blk_lt hcmda) e2, hh.2.1.cell ap2 (blk_lt hlota) e3, hh.2.1.cell ap2 (blk_lt hlota) e4⟩ : _ ∧ Hid _ ∧ _ ∧ _ ∧ _ ∧ _)))
  have HPn := hide hP
  have HK := hide hkg
  have HSG : Hid (G.heap.size = w.heap.size + 2) := by unfold Hid; omega
  subst hw1
  clear hszg hsz1 hP hP1 hlot hlotw hok hsum hr hi hlot1 hcmd1 hPg hself hkg hcmdg hpn hPa hpar HF HGw hb1 hba hcmda hlota ap1 ap2 e1 e2 e3 e4
  go_enter Tryd.func50, Tryd.ntmps50
  go_wp2_with (first
    | (go_at_call 74; refine (HR.out).mono ?_; rintro e w1 ⟨rfl, rfl⟩)
    | (go_at_call 72; refine (HM.out).mono ?_; rintro e w1 ⟨rfl, rfl⟩))
  go_region
  go_wp2_with (go_at_call 75; refine (HG.out).mono ?_; rintro e w2 ⟨rfl, rfl⟩)
  go_region_held3 (fun w' => w'.cell? ⟨w.heap.size, 1, none⟩ = some (.int .i64 (m : Int)) ∧ w'.cell? ⟨w.heap.size, 2, none⟩ = some (.int .i64 (c : Int)) ∧ w'.cell? ⟨b, 1, none⟩ = some (.int .i64 (l.goods : Int)) ∧ w'.cell? ⟨b, 2, none⟩ = some (.int .i64 (l.expiry : Int))) (go_keep) (first | (go_at_call 73; refine (HA.out).mono ?_; rintro e w3 ⟨rfl, hh, e1, e2, e3, e4⟩))
  go_wp2_with fail
  go_ret
  have hsg := HSG.out
  obtain ⟨hk, v', hPV, hat⟩ := hh.out
  refine ⟨?_, rfl, M, v', _, _, (by rw [List.length_set] at hPV; exact hPV), ?_⟩
  · exact (HK.out.after (al1 _ _).drew).trans (hk.mono (fun k hq => Or.inl (hq.elim (fun e => e ▸ hin.s) (fun e => hin.v k e))))
  · refine ⟨Or.inl hin.s, Or.inl hin.m, fun g hg => ?_, fun k hk => ?_, fun pv hp q hq => ?_⟩
    · rcases hat g hg with h | h
      · exact Or.inl (hin.v g h)
      · right; simp at h; omega
    · rcases List.mem_append.1 hk with h | h
      · exact Or.inl (hin.b k h)
      · right; simp at h; omega
    · rcases List.mem_append.1 hp with h | h
      · exact Or.inl (hin.p pv h q hq)
      · right
        simp at h; subst h
        simp [Value.ownBlock] at hq
        omega

theorem split_any {Z : Nat → Prop} {w : World} {S td : Nat} {ls : List L} (h : PI Z w S td ls) (n m c : Nat) (h1 : n ≤ 2147483647) (h2 : m ≤ 2147483647) (h3 : c ≤ 2147483647) :
    Calls Tryd.prog 50 #[.pointer (some ⟨S, 0, none⟩), .agg #[.int .i64 (n : Int), .int .i64 (m : Int), .int .i64 (c : Int)]] w fun e w' => Kp Z w w' ∧ e = .returned (.int .i64 (splitC ls n m c : Int)) ∧ PI (Zn Z w) w' S td (splitS ls n m c) := by
  by_cases hc : splitC ls n m c = 0
  · have hx : idx n ls < ls.length ∧ roomC ls m = 0 ∧ ¬ (ls.getD (idx n ls) L0).free < c := by
      unfold splitC at hc
      by_cases hi : idx n ls < ls.length
      · rw [if_pos hi] at hc
        by_cases hr : roomC ls m = 0
        · rw [if_pos hr] at hc
          refine ⟨hi, hr, fun hq => ?_⟩
          rw [if_pos hq] at hc; omega
        · rw [if_neg hr] at hc; exact absurd hc hr
      · rw [if_neg hi] at hc; omega
    have hS : splitS ls n m c = _ := if_pos hc
    rw [hc, hS]
    exact split_yes h n m c h1 h2 h3 hx.1 hx.2.1 hx.2.2
  · have hS : splitS ls n m c = ls := if_neg hc
    rw [hS]
    refine (split_no h n m c h1 h2 h3 hc).mono fun e w' ⟨he, hb⟩ => ⟨kpB hb, he, ?_⟩
    obtain ⟨M, v, bs, pvs, hP, hin⟩ := h
    exact ⟨M, v, bs, pvs, hP.below hb, hin.mono (fun k hk => Or.inl hk)⟩

end Go.Proofs.YtcomohmadfnmgaaDoor
