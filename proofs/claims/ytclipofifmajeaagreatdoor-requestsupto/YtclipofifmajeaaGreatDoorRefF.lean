import Derived.Test.YtclipofifmajeaaGreatDoorRefC
namespace Go.Proofs.YtclipofifmajeaaGreatDoor
set_option linter.unusedSimpArgs false
set_option linter.unusedVariables false
open Go.RowKit
set_option maxRecDepth 100000

theorem tU4 : Tryz.prog.underlying 4 = some .bool := by kernel_rfl
theorem tU134 : Tryz.prog.underlying 150 = some (.slice 4) := by kernel_rfl
theorem info4 : (Tryz.prog.info? 4).map (fun i => (i.zero, i.size, i.bytes)) = some (some (.bool false), 1, 1) := by kernel_rfl

def Bs (l : List Bool) : List Value := l.map Value.bool

theorem ownB {base n : Nat} {bs : List Bool} {b : Bool} {w1 : World} {v1 : Value} (hl : bs.length = n)
    (h : w1.ownsRow base 4 1 v1 (n + 1) (Bs bs ++ [.bool b])) : w1.ownsRow base 4 1 v1 (bs ++ [b]).length (Bs (bs ++ [b])) := by
  have e : Bs (bs ++ [b]) = Bs bs ++ [.bool b] := by simp [Bs]
  rw [e, List.length_append, hl]; exact h

set_option maxHeartbeats 400000 in
theorem bits_any (s : ByteArray) (hs : s.size ≤ 2097152) (w : World) :
    Calls Tryz.prog 85 #[.string s] w fun e w' => Below w.heap.size w w' ∧ ∃ v bs, e = .returned v ∧ bs.length = 8 * s.size ∧ w'.ownsRow w.heap.size 4 1 v bs.length (Bs bs) := by
  obtain ⟨i0, hi, hz0, hz1, hz2⟩ := info_parts info4
  go_enter Tryz.func85, Tryz.ntmps85
  go_wp2_with fail
  go_loopw [3, 4] (fun v i wr => ∃ (k : Nat) (bs : List Bool), k ≤ s.size ∧ i = .int .i64 k ∧ bs.length = 8 * k ∧ wr.ownsRow w.heap.size 4 1 v bs.length (Bs bs) ∧ Below w.heap.size w wr) (fun _ i _ => s.size - (intOf i).toNat)
  case atStart => exact ⟨0, [], by omega, rfl, rfl, World.ownsRow_nil _ _ _ _, Below.refl _ _⟩
  case round =>
    obtain ⟨k, bs, hk, rfl, hbl, hown, hb⟩ := hrel
    by_cases hlt : k < s.size
    · go_wp2_with fail
      go_loopw [3, 5] (fun v i wr => ∃ (m : Nat) (bs : List Bool), m ≤ 8 ∧ i = .int .i64 (7 - m) ∧ bs.length = 8 * k + m ∧ wr.ownsRow w.heap.size 4 1 v bs.length (Bs bs) ∧ Below w.heap.size w wr) (fun _ i _ => (1 + intOf i).toNat)
      case atStart => exact ⟨0, bs, by omega, by go_num, by omega, hown, hb⟩
      case round =>
        clear hown hb
        obtain ⟨m, bs, hm, rfl, hbl, hown, hb⟩ := hrel
        by_cases hm8 : m < 8
        · go_wp2_with (at_builtin; refine wpList_append_own _ rfl _ _ 150 rfl (w.heap.size) 4 i0 (.bool false) 1 1 tU134 hi hz0 hz1 hz2 rfl (by decide) _ _ _ rfl (hown.alloc _) ⟨wr.heap.size, 0, none⟩ 1 1 [.bool ?bb] rfl rfl ?c1 ?c2 ?c3 ?c4 ?c5 ?_)
          case c1 => exact one_new _ _ _
          case c2 => intro u hu; simp at hu; subst hu; rfl
          case c3 => unfold maxLen; omega
          case c4 => omega
          case c5 => have := hb.size; simp; omega
          intro v' w2 hown2 hgrow hnn
          have hbb : Below w.heap.size w w2 := (hb.alloc hb.size _).grown hgrow (by have := hb.size; simp; omega) (fun k hk => (hown.lt k hk).1)
          have ho := ownB hbl hown2
          clear hown2 hgrow hown hnn hb
          go_wp2_with fail
          go_roundw
          case rel => exact ⟨m + 1, _, by omega, by go_num, by simp; omega, ho, hbb⟩
          case measure => simp [intOf]; omega
        · go_wp2_with fail
          go_roundw
          case rel => exact ⟨k + 1, bs, by omega, by go_num, by omega, (by rw [hbl]; simpa only [hbl] using hown), hb⟩
          case measure => simp [intOf]; omega
    · go_wp2_with fail
      go_ret
      have : k = s.size := by omega
      exact ⟨hb, _, bs, rfl, by omega, hown⟩

theorem own_shape {w : World} {base e n : Nat} {v : Value} {xs : List Value} (h : w.ownsRow base e 1 v n xs) : ∃ a cap, v = .slice a n cap := by
  rcases h.2 with ⟨hv, hx⟩ | ⟨g, cap, cur, hv, _⟩
  · exact ⟨none, 0, by rw [hv, hx]⟩
  · exact ⟨_, cap, hv⟩

theorem own_some {w : World} {base e n : Nat} {v : Value} {xs : List Value} (h : w.ownsRow base e 1 v n xs) (hn : 0 < n) : ∃ g cap, v = .slice (some ⟨g, 0, none⟩) n cap ∧ base ≤ g ∧ g < w.heap.size := by
  rcases h.2 with ⟨hv, hx⟩ | ⟨g, cap, cur, hv, hg, hh, _⟩
  · omega
  · exact ⟨g, cap, hv, hg, (Array.getElem?_eq_some_iff.1 hh).1⟩

theorem bits_any' (s : ByteArray) (hs : s.size ≤ 2097152) (w : World) :
    Calls Tryz.prog 85 #[.string s] w fun e w' => Below w.heap.size w w' ∧ ∃ a cap bs, e = .returned (.slice a (8 * s.size) cap) ∧ bs.length = 8 * s.size ∧ w'.ownsRow w.heap.size 4 1 (.slice a (8 * s.size) cap) (8 * s.size) (Bs bs) := by
  refine (bits_any s hs w).mono ?_
  rintro e w' ⟨hb, v, bs, rfl, hl, ho⟩
  obtain ⟨a, cap, rfl⟩ := own_shape ho
  rw [hl] at ho ⊢
  exact ⟨hb, a, cap, bs, rfl, hl, ho⟩

/-- A row of bools: one that is read; one that is turned. -/
theorem rowB_cell {w : World} {base g n cap : Nat} {bs : List Bool} (h : w.ownsRow base 4 1 (.slice (some ⟨g, 0, none⟩) n cap) n (Bs bs)) (hl : bs.length = n) (k : Nat) (hk : k < n) :
    w.cell? ⟨g, k, none⟩ = some (.bool (bs.getD k false)) := by
  rw [h.cellAt k (by omega)]
  simp [Bs, List.getD_eq_getElem?_getD, List.getElem?_eq_getElem (show k < bs.length by omega)]

theorem rowB_set {w : World} {base g n cap : Nat} {bs : List Bool} (h : w.ownsRow base 4 1 (.slice (some ⟨g, 0, none⟩) n cap) n (Bs bs)) (k : Nat) (b : Bool) :
    (w.setCell ⟨g, k, none⟩ (.bool b)).ownsRow base 4 1 (.slice (some ⟨g, 0, none⟩) n cap) n (Bs (bs.set k b)) := by
  have := (h.stored k (.bool b)).1
  rw [show Bs (bs.set k b) = (Bs bs).set k (.bool b) from by simp [Bs, List.map_set]]
  exact this

theorem info5 : (Tryz.prog.info? 5).map (fun i => (i.zero, i.size, i.bytes)) = some (some (.int .u8 0), 1, 1) := by kernel_rfl

def U8 (l : List UInt8) : List Value := l.map fun b => Value.int .u8 (b.toNat : Int)

theorem rowU_cell {w : World} {base g n cap : Nat} {l : List UInt8} (h : w.ownsRow base 5 1 (.slice (some ⟨g, 0, none⟩) n cap) n (U8 l)) (hl : l.length = n) (k : Nat) (hk : k < n) :
    w.cell? ⟨g, k, none⟩ = some (.int .u8 ((l.getD k 0).toNat : Int)) := by
  rw [h.cellAt k (by omega)]
  simp [U8, List.getD_eq_getElem?_getD, List.getElem?_eq_getElem (show k < l.length by omega)]

theorem rowU_set {w : World} {base g n cap : Nat} {l : List UInt8} (h : w.ownsRow base 5 1 (.slice (some ⟨g, 0, none⟩) n cap) n (U8 l)) (k : Nat) (x : Int) (hx : 0 ≤ x ∧ x < 256) :
    (w.setCell ⟨g, k, none⟩ (.int .u8 x)).ownsRow base 5 1 (.slice (some ⟨g, 0, none⟩) n cap) n (U8 (l.set k (UInt8.ofNat x.toNat))) ∧ w.grownBy (w.setCell ⟨g, k, none⟩ (.int .u8 x)) (some g) := by
  have := h.stored k (.int .u8 x)
  have hu : ((UInt8.ofNat x.toNat).toNat : Int) = x := by rw [UInt8.toNat_ofNat']; omega
  rw [show U8 (l.set k (UInt8.ofNat x.toNat)) = (U8 l).set k (.int .u8 x) from by simp only [U8, List.map_set, hu]]
  exact this

theorem bits_u8_range (op : BinOp) (x y : Int) : 0 ≤ bits op .u8 x y ∧ bits op .u8 x y < 256 := by
  unfold bits; rw [IntKind.wrap_u8']; omega

theorem made4 : (madeCells (Value.int .u8 0).cells (4 * 1)).toList = U8 [0, 0, 0, 0] := by kernel_rfl

set_option maxHeartbeats 1600000 in
theorem check_any (s : ByteArray) (hs : s.size ≤ 2097152) (w : World) :
    Calls Tryz.prog 47 #[.string s] w fun e w' => Below w.heap.size w w' ∧ ∃ k : ByteArray, e = .returned (.string k) ∧ k.size = 4 := by
  obtain ⟨i0, hi, hz0, hz1, hz2⟩ := info_parts info4
  obtain ⟨i5, h5, h50, h51, h52⟩ := info_parts info5
  go_enter Tryz.func47, Tryz.ntmps47
  go_wp2_with (go_at_call 85; refine (bits_any' s hs _).mono ?_; rintro e w1 ⟨hb1, a, cap, bs, rfl, hbs, hown⟩)
  obtain ⟨N, hN⟩ : ∃ N, N = 8 * s.size := ⟨_, rfl⟩
  have hNle : N ≤ 16777216 := by omega
  go_loopw [3, 5] (fun v i wr => ∃ (k : Nat) (bs : List Bool), k ≤ 32 ∧ i = .int .i64 k ∧ bs.length = 8 * s.size + k ∧ wr.ownsRow w.heap.size 4 1 v (8 * s.size + k) (Bs bs) ∧ Below w.heap.size w wr) (fun _ i _ => 32 - (intOf i).toNat)
  case atStart => exact ⟨0, bs, by omega, rfl, hbs, hown, hb1⟩
  case round =>
    clear hbs hown hb1
    obtain ⟨k, bs, hk, rfl, hbl, hown, hb⟩ := hrel
    by_cases hlt : k < 32
    · go_wp2_with (at_builtin; refine wpList_append_own _ rfl _ _ 150 rfl (w.heap.size) 4 i0 (.bool false) 1 1 tU134 hi hz0 hz1 hz2 rfl (by decide) _ _ _ rfl (hown.alloc _) ⟨wr.heap.size, 0, none⟩ 1 1 [.bool false] rfl rfl ?c1 ?c2 ?c3 ?c4 ?c5 ?_)
      case c1 => exact one_new _ _ _
      case c2 => intro u hu; simp at hu; subst hu; rfl
      case c3 => unfold maxLen; omega
      case c4 => omega
      case c5 => have := hb.size; simp; omega
      intro v' w2 hown2 hgrow hnn
      have hbb : Below w.heap.size w w2 := (hb.alloc hb.size _).grown hgrow (by have := hb.size; simp; omega) (fun k hk => (hown.lt k hk).1)
      have ho := ownB hbl hown2
      rw [List.length_append, hbl] at ho
      clear hown2 hgrow hown hnn hb
      go_wp2_with fail
      go_roundw
      case rel => exact ⟨k + 1, _, by omega, by go_num, by simp; omega, ho, hbb⟩
      case measure => simp [intOf]; omega
    · obtain rfl : k = 32 := by omega
      clear hk hlt
      obtain ⟨g, cap2, hv, hg, hgw⟩ := own_some hown (by omega)
      rw [hv] at hown
      rw [hv]
      clear hv
      go_wp2_with fail
      go_loopw [6] (fun i wr => ∃ (k : Nat) (bs : List Bool), k ≤ 32 ∧ i = .int .i64 k ∧ bs.length = 8 * s.size + 32 ∧ wr.ownsRow w.heap.size 4 1 (.slice (some ⟨g, 0, none⟩) (8 * s.size + 32) cap2) (8 * s.size + 32) (Bs bs) ∧ Below w.heap.size w wr) (fun i _ => 32 - (intOf i).toNat)
      case atStart => exact ⟨0, bs, by omega, rfl, hbl, hown, hb⟩
      case round =>
        clear hbl hown hb hgw
        obtain ⟨k, bs, hk, rfl, hbl, hown, hb⟩ := hrel
        by_cases hlt : k < 32
        · have hc := rowB_cell hown hbl k (by omega)
          have hf := hown.frozenAt k
          have hset := fun b => rowB_set hown k b
          have HH := hide hset
          have HO := hide hown
          have HL := hide hbl
          clear hset hown hbl
          go_wp2_with fail
          go_roundw
          case rel => exact ⟨k + 1, _, by omega, by go_num, by rw [List.length_set]; exact HL.out, HH.out _, hb.setCell hg _⟩
          case measure => simp [intOf]; omega
        · obtain rfl : k = 32 := by omega
          clear hk hlt
          have HL := hide hbl
          have HO := hide hown
          clear hbl hown
          go_wp2_with fail
          go_loopw [7, 8] (fun i _ wr => ∃ (k : Nat) (bs : List Bool), k ≤ 8 * s.size ∧ i = .int .i64 k ∧ bs.length = 8 * s.size + 32 ∧ wr.ownsRow w.heap.size 4 1 (.slice (some ⟨g, 0, none⟩) (8 * s.size + 32) cap2) (8 * s.size + 32) (Bs bs) ∧ Below w.heap.size w wr) (fun i _ _ => 8 * s.size - (intOf i).toNat)
          case atStart => exact ⟨0, bs, by omega, rfl, HL.out, HO.out, hb⟩
          case round =>
            clear HL HO hb
            obtain ⟨k, bs, hk, rfl, hbl, hown, hb⟩ := hrel
            by_cases hlt : k < 8 * s.size
            · have hc := rowB_cell hown hbl k (by omega)
              have hf := hown.frozenAt k
              have HH := hide (fun b => rowB_set hown k b)
              have HO := hide hown
              have HL := hide hbl
              clear hown hbl
              by_cases hbk : bs.getD k false = true
              · rw [hbk] at hc
                go_wp2_with fail
                go_loopw [8] (fun i wr => ∃ (m : Nat) (bs : List Bool), m ≤ 32 ∧ i = .int .i64 m ∧ bs.length = 8 * s.size + 32 ∧ wr.ownsRow w.heap.size 4 1 (.slice (some ⟨g, 0, none⟩) (8 * s.size + 32) cap2) (8 * s.size + 32) (Bs bs) ∧ Below w.heap.size w wr) (fun i _ => 32 - (intOf i).toNat)
                case atStart => exact ⟨0, _, by omega, rfl, (by rw [List.length_set]; exact HL.out), HH.out _, hb.setCell hg _⟩
                case round =>
                  clear HL HO HH hb hc hf hbk
                  obtain ⟨m, bs, hm, rfl, hbl, hown, hb⟩ := hrel
                  by_cases hm32 : m < 32
                  · have hidx : (k : Int) + 32 - m = ((k + 32 - m : Nat) : Int) := by omega
                    have hc := rowB_cell hown hbl (k + 32 - m) (by omega)
                    have hf := hown.frozenAt (k + 32 - m)
                    have HH := hide (fun b => rowB_set hown (k + 32 - m) b)
                    have HO := hide hown
                    have HL := hide hbl
                    clear hown hbl
                    go_wp2_with fail
                    · go_roundw
                      case rel => exact ⟨m + 1, _, by omega, by go_num, (by rw [List.length_set]; exact HL.out), HH.out _, hb.setCell hg _⟩
                      case measure => simp [intOf]; omega
                    · go_roundw
                      case rel => exact ⟨m + 1, bs, by omega, by go_num, HL.out, HO.out, hb⟩
                      case measure => simp [intOf]; omega
                  · obtain rfl : m = 32 := by omega
                    clear hm hm32
                    have HL := hide hbl
                    have HO := hide hown
                    clear hbl hown
                    go_wp2_with fail
                    go_roundw
                    case rel => exact ⟨k + 1, bs, by omega, by go_num, HL.out, HO.out, hb⟩
                    case measure => simp [intOf]; omega
              · rw [Bool.not_eq_true] at hbk
                rw [hbk] at hc
                go_wp2_with fail
                go_roundw
                case rel => exact ⟨k + 1, bs, by omega, by go_num, HL.out, HO.out, hb⟩
                case measure => simp [intOf]; omega
            · obtain rfl : k = 8 * s.size := by omega
              clear hlt hk
              have HL := hide hbl
              have HO := hide hown
              clear hbl hown
              have hsz := hb.size
              go_wp2_with (at_make; refine wpList_make_full _ rfl _ _ 58 rfl (w.heap.size) 5 i5 (.int .u8 0) 1 tU52 h5 h50 h51 _ _ _ _ 4 rfl rfl (by rfl) (by rfl) (by rw [h52]; omega) (by unfold maxLen; omega) (by omega) ?_; intro w2 hmade hgrow)
              have hgl : g < wr.heap.size := (HO.out.lt g rfl).2
              have HO2 := hide (HO.out.kept hgrow (Or.inr (by simp [Value.ownBlock])))
              have hb2 : Below w.heap.size w w2 := hb.grown hgrow hsz (fun k hk => by cases hk)
              have HM : Hid (w2.ownsRow w.heap.size 5 1 (.slice (some ⟨wr.heap.size, 0, none⟩) 4 4) 4 (U8 [0, 0, 0, 0])) := by rw [made4] at hmade; exact hmade
              obtain ⟨g2, hg2⟩ : ∃ g2, g2 = wr.heap.size := ⟨_, rfl⟩
              rw [← hg2] at HM hgl ⊢
              rw [← hg2] at hsz
              clear hmade hgrow HO hb hg2
              go_wp2_with fail
              go_loopw [10] (fun i wr => ∃ (k : Nat) (l : List UInt8), k ≤ 32 ∧ i = .int .i64 k ∧ l.length = 4 ∧ wr.ownsRow w.heap.size 5 1 (.slice (some ⟨g2, 0, none⟩) 4 4) 4 (U8 l) ∧ wr.ownsRow w.heap.size 4 1 (.slice (some ⟨g, 0, none⟩) (8 * s.size + 32) cap2) (8 * s.size + 32) (Bs bs) ∧ Below w.heap.size w wr) (fun i _ => 32 - (intOf i).toNat)
              case atStart => exact ⟨0, [0, 0, 0, 0], by omega, rfl, rfl, HM.out, HO2.out, hb2⟩
              case round =>
                clear HM HO2 hb2
                obtain ⟨k, l, hk, rfl, hl, hout, hown, hb⟩ := hrel
                by_cases hlt : k < 32
                · have hc := rowB_cell hown HL.out (8 * s.size + k) (by omega)
                  have hc2 := rowU_cell hout hl (k / 8) (by omega)
                  have hf2 := hout.frozenAt (k / 8)
                  have HH := hide (fun b hb => rowU_set hout (k / 8) b hb)
                  have HO := hide hown
                  have HU := hide hout
                  have HLL := hide hl
                  have hl4 : (l.getD (k / 8) 0).toNat < 256 := UInt8.toNat_lt _
                  clear hown hout hl
                  by_cases hbk : bs.getD (8 * s.size + k) false = true
                  · rw [hbk] at hc
                    go_wp2_with fail
                    go_roundw
                    case rel => exact ⟨k + 1, l, by omega, by go_num, HLL.out, HU.out, HO.out, hb⟩
                    case measure => simp [intOf]; omega
                  · rw [Bool.not_eq_true] at hbk
                    rw [hbk] at hc
                    go_wp2_with fail
                    go_region
                    go_wp2_with fail
                    have hr := bits_u8_range .or ((l[k / 8]?.getD 0).toNat : Int) (2 ^ (7 - k % 8) % 256)
                    obtain ⟨hs1, hs2⟩ := HH.out _ hr
                    have hs3 := HO.out.kept hs2 (Or.inr (by simp [Value.ownBlock]; omega))
                    go_roundw
                    case rel => exact ⟨k + 1, _, by omega, by go_num, (by rw [List.length_set]; exact HLL.out), hs1, hs3, (hb.setCell hsz _).drew⟩
                    case measure => simp [intOf]; omega
                · obtain rfl : k = 32 := by omega
                  clear hk hlt
                  have hcv : (convert 58 9 (.slice (some ⟨g2, 0, none⟩) 4 4)).run Tryz.prog wr = .ok (.string ⟨l.toArray⟩) wr := by
                    have h := run_convert_bytes_back (P := Tryz.prog) wr 58 9 5 ⟨g2, 0, none⟩ 4 l tU52 tU5 tU9 (fun j hj => by
                      have ha : (Addr.add ⟨g2, 0, none⟩ j) = ⟨g2, j, none⟩ := by
                        unfold Addr.add; split <;> simp_all
                      rw [ha, rowU_cell hout hl j (by omega)]; simp [List.getD_eq_getElem?_getD, hj])
                    rw [hl] at h; exact h
                  have HLL := hide hl
                  clear hout hown hl
                  go_wp2_with fail
                  go_ret
                  exact ⟨hb, _, rfl, HLL.out⟩

end Go.Proofs.YtclipofifmajeaaGreatDoor
