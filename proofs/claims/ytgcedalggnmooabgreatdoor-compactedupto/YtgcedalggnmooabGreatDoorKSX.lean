import Derived.Test.YtgcedalggnmooabGreatDoorKAX
import Derived.Deep.RegionWith
import Derived.Deep.RegionHeld3
import Derived.Deep.CutRange
import Derived.Test.YtgcedalggnmooabGreatDoorHnX
set_option linter.unusedSimpArgs false
set_option linter.unusedVariables false
set_option maxRecDepth 100000
namespace Go.Proofs.YtgcedalggnmooabGreatDoor
open Go.RowKit
theorem kcommand_lit (c:Nat) (hc:c<256) (ns:List Nat) (hl:ns.length≤1000) (hn:∀ n ∈ ns,n<9223372036854775808) (w:World) :
  Calls Tryz.prog 22 #[.int .i64 (c:Int),.slice (some ⟨w.heap.size,0,none⟩) ns.length ns.length] (w.alloc (.cells (I ns).toArray 3)) fun e w'=>e=.returned (.string ⟨(Pl.cmdB c ns).toArray⟩)∧Below w.heap.size w w':=by
 have hal:Below w.heap.size w (w.alloc (.cells (I ns).toArray 3)):=(Below.refl _ _).alloc (Nat.le_refl _) _
 have hcl:Cl (w.alloc (.cells (I ns).toArray 3)) w.heap.size ns:=by
  refine ⟨by simp,fun j hj=>?_⟩
  rw [blk_cell (heap_alloc_new w _)]
  simp [I,List.getD_eq_getElem?_getD,hj]
 refine (kcommand_any c hc w.heap.size ns.length ns hl hn _ hcl).mono ?_
 rintro e w' ⟨he,hb⟩
 exact ⟨he,hal.trans (hb.mono (by simp))⟩
theorem kcommand_lit' (c:Nat) (hc:c<256) (ns:List Nat) (hl:ns.length≤1000) (hn:∀ n ∈ ns,n<9223372036854775808) (w:World) :
  Calls Tryz.prog 22 #[.int .i64 (c:Int),.slice (some ⟨w.heap.size,0,none⟩) ns.length ns.length] (w.alloc (.cells (I ns).toArray 3)).drew fun e w'=>e=.returned (.string ⟨(Pl.cmdB c ns).toArray⟩)∧Below w.heap.size w w':=by
 have hal:Below w.heap.size w (w.alloc (.cells (I ns).toArray 3)).drew:=((Below.refl _ _).alloc (Nat.le_refl _) _).drew
 have hcl:Cl (w.alloc (.cells (I ns).toArray 3)).drew w.heap.size ns:=by
  refine ⟨by simp,fun j hj=>?_⟩
  show (w.alloc (.cells (I ns).toArray 3)).cell? _=_
  rw [blk_cell (heap_alloc_new w _)]
  simp [I,List.getD_eq_getElem?_getD,hj]
 refine (kcommand_any c hc w.heap.size ns.length ns hl hn _ hcl).mono ?_
 rintro e w' ⟨he,hb⟩
 exact ⟨he,hal.trans (hb.mono (by simp))⟩
def sp (k a b c d:Int):Nat × List Nat :=
 match pk k 12 with
 | 0=>(1,[pk a 40])
 | 1=>(2,[1+pk a 12,1+pk b 3,1+pk c 400,pk d 40])
 | 2=>(3,[1+pk a 12,1+pk b 12,1+pk c 400])
 | 3=>(4,[1+pk a 12,1+pk b 12,1+pk c 12])
 | 4=>(5,[1+pk a 4,1+pk b 3,1+pk c 400,pk d 10,pk (d.tdiv 16) 4])
 | 5=>(6,[1+pk a 4])
 | 6=>(7,[1+pk a 4])
 | 7=>(8,[1+pk a 12,1+pk b 2])
 | 8=>(9,[1+pk a 12,1+pk b 2])
 | 9=>(10,[1+pk a 12,1+pk c 400])
 | 10=>(11,[1+pk a 12])
 | _=>(12,[1+pk a 3,pk d 10])
set_option maxHeartbeats 3200000 in
theorem spelt_1 (k a b c d:Int) (hk:Raw k) (ha:Raw a) (hb:Raw b) (hc:Raw c) (hd:Raw d) (w:World) (hq0:pk k 12=0) :
  Calls Tryz.prog 13 #[.agg #[.int .i64 k,.int .i64 a,.int .i64 b,.int .i64 c,.int .i64 d]] w fun e w'=>e=.returned (.string ⟨(Pl.cmdB 1 [pk a 40]).toArray⟩)∧Below w.heap.size w w':=by
 have HK:Hid (∀ w,Calls Tryz.prog 14 #[.int .i64 k,.int .i64 12] w fun e w'=>e=.returned (.int .i64 0)∧w'=w):=by
  have:=pick_any k hk 12 (by omega) (by omega)
  rw [hq0] at this;exact this
 have HA12:Hid (∀ w,Calls Tryz.prog 26 #[.int .i64 a,.int .i64 12] w fun e w'=>e=.returned (.int .i64 ((1+pk a 12:Nat):Int))∧w'=w):=id_any a ha 12 (by omega) (by omega)
 have HB12:Hid (∀ w,Calls Tryz.prog 26 #[.int .i64 b,.int .i64 12] w fun e w'=>e=.returned (.int .i64 ((1+pk b 12:Nat):Int))∧w'=w):=id_any b hb 12 (by omega) (by omega)
 have HPA40:Hid (∀ w,Calls Tryz.prog 14 #[.int .i64 a,.int .i64 40] w fun e w'=>e=.returned (.int .i64 ((pk a 40:Nat):Int))∧w'=w):=pick_any a ha 40 (by omega) (by omega)
 have bA12:=pk_lt a (n:=12) (by omega)
 have bB12:=pk_lt b (n:=12) (by omega)
 have bPA40:=pk_lt a (n:=40) (by omega)
 generalize xA12:1+pk a 12=nA12 at *
 generalize xB12:1+pk b 12=nB12 at *
 generalize xPA40:pk a 40=nPA40 at *
 have HC:Hid (∀ (w0:World),w0.heap.size=w.heap.size+1→Calls Tryz.prog 22 #[.int .i64 1,.slice (some ⟨w.heap.size+1,0,none⟩) 1 1] (w0.alloc (.cells #[.int .i64 (nPA40:Int)] 3)) fun e w'=>e=.returned (.string ⟨(Pl.cmdB 1 [nPA40]).toArray⟩)∧Below w0.heap.size w0 w'):=fun w0 h0=>by
  rw [← h0]
  exact kcommand_lit 1 (by omega) [nPA40] (by simp) (by intro n hn;simp at hn;omega) w0
 clear hk ha hb hc hq0
 have hal:=al1 w (.cells #[.int .i64 k,.int .i64 a,.int .i64 b,.int .i64 c,.int .i64 d] 35)
 have hbk:=heap_alloc_new w (.cells #[.int .i64 k,.int .i64 a,.int .i64 b,.int .i64 c,.int .i64 d] 35)
 have c0:(w.alloc (.cells #[.int .i64 k,.int .i64 a,.int .i64 b,.int .i64 c,.int .i64 d] 35)).cell? ⟨w.heap.size,0,none⟩=some (.int .i64 k):=by rw [blk_cell hbk];rfl
 have c1:(w.alloc (.cells #[.int .i64 k,.int .i64 a,.int .i64 b,.int .i64 c,.int .i64 d] 35)).cell? ⟨w.heap.size,1,none⟩=some (.int .i64 a):=by rw [blk_cell hbk];rfl
 have c2:(w.alloc (.cells #[.int .i64 k,.int .i64 a,.int .i64 b,.int .i64 c,.int .i64 d] 35)).cell? ⟨w.heap.size,2,none⟩=some (.int .i64 b):=by rw [blk_cell hbk];rfl
 have c3:(w.alloc (.cells #[.int .i64 k,.int .i64 a,.int .i64 b,.int .i64 c,.int .i64 d] 35)).cell? ⟨w.heap.size,3,none⟩=some (.int .i64 c):=by rw [blk_cell hbk];rfl
 have c4:(w.alloc (.cells #[.int .i64 k,.int .i64 a,.int .i64 b,.int .i64 c,.int .i64 d] 35)).cell? ⟨w.heap.size,4,none⟩=some (.int .i64 d):=by rw [blk_cell hbk];rfl
 have HAL:=hide hal
 clear hal hbk
 go_enter Tryz.func13,Tryz.ntmps13
 go_wp2_with (first | (go_at_call 26;with_reducible refine (HA12.out _).mono ?_;rintro e w1 ⟨rfl,hw1⟩;have hw2:=hw1.symm;subst hw2) | (go_at_call 26;with_reducible refine (HB12.out _).mono ?_;rintro e w1 ⟨rfl,hw1⟩;have hw2:=hw1.symm;subst hw2) | (go_at_call 14;with_reducible refine (HPA40.out _).mono ?_;rintro e w1 ⟨rfl,hw1⟩;have hw2:=hw1.symm;subst hw2) | (go_at_call 14;with_reducible refine (HK.out _).mono ?_;rintro e w1 ⟨rfl,hw1⟩;have hw2:=hw1.symm;subst hw2) | (go_at_call 22;refine (HC.out _ (by simp)).mono ?_;rintro e w1 ⟨rfl,hb1⟩))
 go_ret
 exact ⟨rfl,HAL.out.trans (hb1.mono (by simp))⟩
set_option maxHeartbeats 3200000 in
theorem spelt_2 (k a b c d:Int) (hk:Raw k) (ha:Raw a) (hb:Raw b) (hc:Raw c) (hd:Raw d) (w:World) (hq0:pk k 12=1) :
  Calls Tryz.prog 13 #[.agg #[.int .i64 k,.int .i64 a,.int .i64 b,.int .i64 c,.int .i64 d]] w fun e w'=>e=.returned (.string ⟨(Pl.cmdB 2 [1+pk a 12,1+pk b 3,1+pk c 400,pk d 40]).toArray⟩)∧Below w.heap.size w w':=by
 have HK:Hid (∀ w,Calls Tryz.prog 14 #[.int .i64 k,.int .i64 12] w fun e w'=>e=.returned (.int .i64 1)∧w'=w):=by
  have:=pick_any k hk 12 (by omega) (by omega)
  rw [hq0] at this;exact this
 have HA12:Hid (∀ w,Calls Tryz.prog 26 #[.int .i64 a,.int .i64 12] w fun e w'=>e=.returned (.int .i64 ((1+pk a 12:Nat):Int))∧w'=w):=id_any a ha 12 (by omega) (by omega)
 have HB12:Hid (∀ w,Calls Tryz.prog 26 #[.int .i64 b,.int .i64 12] w fun e w'=>e=.returned (.int .i64 ((1+pk b 12:Nat):Int))∧w'=w):=id_any b hb 12 (by omega) (by omega)
 have HB3:Hid (∀ w,Calls Tryz.prog 26 #[.int .i64 b,.int .i64 3] w fun e w'=>e=.returned (.int .i64 ((1+pk b 3:Nat):Int))∧w'=w):=id_any b hb 3 (by omega) (by omega)
 have HFC:Hid (∀ w,Calls Tryz.prog 27 #[.int .i64 c] w fun e w'=>e=.returned (.int .i64 ((1+pk c 400:Nat):Int))∧w'=w):=few_any c hc
 have HPD40:Hid (∀ w,Calls Tryz.prog 14 #[.int .i64 d,.int .i64 40] w fun e w'=>e=.returned (.int .i64 ((pk d 40:Nat):Int))∧w'=w):=pick_any d hd 40 (by omega) (by omega)
 have bA12:=pk_lt a (n:=12) (by omega)
 have bB12:=pk_lt b (n:=12) (by omega)
 have bB3:=pk_lt b (n:=3) (by omega)
 have bFC:=pk_lt c (n:=400) (by omega)
 have bPD40:=pk_lt d (n:=40) (by omega)
 generalize xA12:1+pk a 12=nA12 at *
 generalize xB12:1+pk b 12=nB12 at *
 generalize xB3:1+pk b 3=nB3 at *
 generalize xFC:1+pk c 400=nFC at *
 generalize xPD40:pk d 40=nPD40 at *
 have HC:Hid (∀ (w0:World),w0.heap.size=w.heap.size+1→Calls Tryz.prog 22 #[.int .i64 2,.slice (some ⟨w.heap.size+1,0,none⟩) 4 4] (w0.alloc (.cells #[.int .i64 (nA12:Int),.int .i64 (nB3:Int),.int .i64 (nFC:Int),.int .i64 (nPD40:Int)] 3)).drew fun e w'=>e=.returned (.string ⟨(Pl.cmdB 2 [nA12,nB3,nFC,nPD40]).toArray⟩)∧Below w0.heap.size w0 w'):=fun w0 h0=>by
  rw [← h0]
  exact kcommand_lit' 2 (by omega) [nA12,nB3,nFC,nPD40] (by simp) (by intro n hn;simp at hn;omega) w0
 clear hk ha hb hc hq0
 have hal:=al1 w (.cells #[.int .i64 k,.int .i64 a,.int .i64 b,.int .i64 c,.int .i64 d] 35)
 have hbk:=heap_alloc_new w (.cells #[.int .i64 k,.int .i64 a,.int .i64 b,.int .i64 c,.int .i64 d] 35)
 have c0:(w.alloc (.cells #[.int .i64 k,.int .i64 a,.int .i64 b,.int .i64 c,.int .i64 d] 35)).cell? ⟨w.heap.size,0,none⟩=some (.int .i64 k):=by rw [blk_cell hbk];rfl
 have c1:(w.alloc (.cells #[.int .i64 k,.int .i64 a,.int .i64 b,.int .i64 c,.int .i64 d] 35)).cell? ⟨w.heap.size,1,none⟩=some (.int .i64 a):=by rw [blk_cell hbk];rfl
 have c2:(w.alloc (.cells #[.int .i64 k,.int .i64 a,.int .i64 b,.int .i64 c,.int .i64 d] 35)).cell? ⟨w.heap.size,2,none⟩=some (.int .i64 b):=by rw [blk_cell hbk];rfl
 have c3:(w.alloc (.cells #[.int .i64 k,.int .i64 a,.int .i64 b,.int .i64 c,.int .i64 d] 35)).cell? ⟨w.heap.size,3,none⟩=some (.int .i64 c):=by rw [blk_cell hbk];rfl
 have c4:(w.alloc (.cells #[.int .i64 k,.int .i64 a,.int .i64 b,.int .i64 c,.int .i64 d] 35)).cell? ⟨w.heap.size,4,none⟩=some (.int .i64 d):=by rw [blk_cell hbk];rfl
 have HAL:=hide hal
 clear hal hbk
 go_enter Tryz.func13,Tryz.ntmps13
 go_wp2_with (first | (go_at_call 26;with_reducible refine (HA12.out _).mono ?_;rintro e w1 ⟨rfl,hw1⟩;have hw2:=hw1.symm;subst hw2) | (go_at_call 26;with_reducible refine (HB12.out _).mono ?_;rintro e w1 ⟨rfl,hw1⟩;have hw2:=hw1.symm;subst hw2) | (go_at_call 26;with_reducible refine (HB3.out _).mono ?_;rintro e w1 ⟨rfl,hw1⟩;have hw2:=hw1.symm;subst hw2) | (go_at_call 27;with_reducible refine (HFC.out _).mono ?_;rintro e w1 ⟨rfl,hw1⟩;have hw2:=hw1.symm;subst hw2) | (go_at_call 14;with_reducible refine (HPD40.out _).mono ?_;rintro e w1 ⟨rfl,hw1⟩;have hw2:=hw1.symm;subst hw2) | (go_at_call 14;with_reducible refine (HK.out _).mono ?_;rintro e w1 ⟨rfl,hw1⟩;have hw2:=hw1.symm;subst hw2) | (go_at_call 22;refine (HC.out _ (by simp)).mono ?_;rintro e w1 ⟨rfl,hb1⟩))
 go_region_held3 (fun w'=>w'.cell? ⟨w.heap.size,2,none⟩=some (.int .i64 b)∧w'.cell? ⟨w.heap.size,3,none⟩=some (.int .i64 c)∧w'.cell? ⟨w.heap.size,4,none⟩=some (.int .i64 d)) (go_keep)
  (first | (go_at_call 26;with_reducible refine (HA12.out _).mono ?_;rintro e w1 ⟨rfl,hw1⟩;have hw2:=hw1.symm;subst hw2) | (go_at_call 26;with_reducible refine (HB12.out _).mono ?_;rintro e w1 ⟨rfl,hw1⟩;have hw2:=hw1.symm;subst hw2) | (go_at_call 26;with_reducible refine (HB3.out _).mono ?_;rintro e w1 ⟨rfl,hw1⟩;have hw2:=hw1.symm;subst hw2) | (go_at_call 27;with_reducible refine (HFC.out _).mono ?_;rintro e w1 ⟨rfl,hw1⟩;have hw2:=hw1.symm;subst hw2) | (go_at_call 14;with_reducible refine (HPD40.out _).mono ?_;rintro e w1 ⟨rfl,hw1⟩;have hw2:=hw1.symm;subst hw2) | (go_at_call 14;with_reducible refine (HK.out _).mono ?_;rintro e w1 ⟨rfl,hw1⟩;have hw2:=hw1.symm;subst hw2) | (go_at_call 22;refine (HC.out _ (by simp)).mono ?_;rintro e w1 ⟨rfl,hb1⟩;have m2:=(hb1.cell (p:=⟨w.heap.size,2,none⟩) (by simp)).trans c2;have m3:=(hb1.cell (p:=⟨w.heap.size,3,none⟩) (by simp)).trans c3;have m4:=(hb1.cell (p:=⟨w.heap.size,4,none⟩) (by simp)).trans c4))
 all_goals
  go_wp2_with fail
  go_ret
  exact ⟨rfl,HAL.out.trans (hb1.mono (by simp))⟩
set_option maxHeartbeats 3200000 in
theorem spelt_3 (k a b c d:Int) (hk:Raw k) (ha:Raw a) (hb:Raw b) (hc:Raw c) (hd:Raw d) (w:World) (hq0:pk k 12=2) :
  Calls Tryz.prog 13 #[.agg #[.int .i64 k,.int .i64 a,.int .i64 b,.int .i64 c,.int .i64 d]] w fun e w'=>e=.returned (.string ⟨(Pl.cmdB 3 [1+pk a 12,1+pk b 12,1+pk c 400]).toArray⟩)∧Below w.heap.size w w':=by
 have HK:Hid (∀ w,Calls Tryz.prog 14 #[.int .i64 k,.int .i64 12] w fun e w'=>e=.returned (.int .i64 2)∧w'=w):=by
  have:=pick_any k hk 12 (by omega) (by omega)
  rw [hq0] at this;exact this
 have HA12:Hid (∀ w,Calls Tryz.prog 26 #[.int .i64 a,.int .i64 12] w fun e w'=>e=.returned (.int .i64 ((1+pk a 12:Nat):Int))∧w'=w):=id_any a ha 12 (by omega) (by omega)
 have HB12:Hid (∀ w,Calls Tryz.prog 26 #[.int .i64 b,.int .i64 12] w fun e w'=>e=.returned (.int .i64 ((1+pk b 12:Nat):Int))∧w'=w):=id_any b hb 12 (by omega) (by omega)
 have HFC:Hid (∀ w,Calls Tryz.prog 27 #[.int .i64 c] w fun e w'=>e=.returned (.int .i64 ((1+pk c 400:Nat):Int))∧w'=w):=few_any c hc
 have bA12:=pk_lt a (n:=12) (by omega)
 have bB12:=pk_lt b (n:=12) (by omega)
 have bFC:=pk_lt c (n:=400) (by omega)
 generalize xA12:1+pk a 12=nA12 at *
 generalize xB12:1+pk b 12=nB12 at *
 generalize xFC:1+pk c 400=nFC at *
 have HC:Hid (∀ (w0:World),w0.heap.size=w.heap.size+1→Calls Tryz.prog 22 #[.int .i64 3,.slice (some ⟨w.heap.size+1,0,none⟩) 3 3] (w0.alloc (.cells #[.int .i64 (nA12:Int),.int .i64 (nB12:Int),.int .i64 (nFC:Int)] 3)) fun e w'=>e=.returned (.string ⟨(Pl.cmdB 3 [nA12,nB12,nFC]).toArray⟩)∧Below w0.heap.size w0 w'):=fun w0 h0=>by
  rw [← h0]
  exact kcommand_lit 3 (by omega) [nA12,nB12,nFC] (by simp) (by intro n hn;simp at hn;omega) w0
 clear hk ha hb hc hq0
 have hal:=al1 w (.cells #[.int .i64 k,.int .i64 a,.int .i64 b,.int .i64 c,.int .i64 d] 35)
 have hbk:=heap_alloc_new w (.cells #[.int .i64 k,.int .i64 a,.int .i64 b,.int .i64 c,.int .i64 d] 35)
 have c0:(w.alloc (.cells #[.int .i64 k,.int .i64 a,.int .i64 b,.int .i64 c,.int .i64 d] 35)).cell? ⟨w.heap.size,0,none⟩=some (.int .i64 k):=by rw [blk_cell hbk];rfl
 have c1:(w.alloc (.cells #[.int .i64 k,.int .i64 a,.int .i64 b,.int .i64 c,.int .i64 d] 35)).cell? ⟨w.heap.size,1,none⟩=some (.int .i64 a):=by rw [blk_cell hbk];rfl
 have c2:(w.alloc (.cells #[.int .i64 k,.int .i64 a,.int .i64 b,.int .i64 c,.int .i64 d] 35)).cell? ⟨w.heap.size,2,none⟩=some (.int .i64 b):=by rw [blk_cell hbk];rfl
 have c3:(w.alloc (.cells #[.int .i64 k,.int .i64 a,.int .i64 b,.int .i64 c,.int .i64 d] 35)).cell? ⟨w.heap.size,3,none⟩=some (.int .i64 c):=by rw [blk_cell hbk];rfl
 have c4:(w.alloc (.cells #[.int .i64 k,.int .i64 a,.int .i64 b,.int .i64 c,.int .i64 d] 35)).cell? ⟨w.heap.size,4,none⟩=some (.int .i64 d):=by rw [blk_cell hbk];rfl
 have HAL:=hide hal
 clear hal hbk
 go_enter Tryz.func13,Tryz.ntmps13
 go_wp2_with (first | (go_at_call 26;with_reducible refine (HA12.out _).mono ?_;rintro e w1 ⟨rfl,hw1⟩;have hw2:=hw1.symm;subst hw2) | (go_at_call 26;with_reducible refine (HB12.out _).mono ?_;rintro e w1 ⟨rfl,hw1⟩;have hw2:=hw1.symm;subst hw2) | (go_at_call 27;with_reducible refine (HFC.out _).mono ?_;rintro e w1 ⟨rfl,hw1⟩;have hw2:=hw1.symm;subst hw2) | (go_at_call 14;with_reducible refine (HK.out _).mono ?_;rintro e w1 ⟨rfl,hw1⟩;have hw2:=hw1.symm;subst hw2) | (go_at_call 22;refine (HC.out _ (by simp)).mono ?_;rintro e w1 ⟨rfl,hb1⟩))
 go_ret
 exact ⟨rfl,HAL.out.trans (hb1.mono (by simp))⟩
set_option maxHeartbeats 3200000 in
theorem spelt_4 (k a b c d:Int) (hk:Raw k) (ha:Raw a) (hb:Raw b) (hc:Raw c) (hd:Raw d) (w:World) (hq0:pk k 12=3) :
  Calls Tryz.prog 13 #[.agg #[.int .i64 k,.int .i64 a,.int .i64 b,.int .i64 c,.int .i64 d]] w fun e w'=>e=.returned (.string ⟨(Pl.cmdB 4 [1+pk a 12,1+pk b 12,1+pk c 12]).toArray⟩)∧Below w.heap.size w w':=by
 have HK:Hid (∀ w,Calls Tryz.prog 14 #[.int .i64 k,.int .i64 12] w fun e w'=>e=.returned (.int .i64 3)∧w'=w):=by
  have:=pick_any k hk 12 (by omega) (by omega)
  rw [hq0] at this;exact this
 have HA12:Hid (∀ w,Calls Tryz.prog 26 #[.int .i64 a,.int .i64 12] w fun e w'=>e=.returned (.int .i64 ((1+pk a 12:Nat):Int))∧w'=w):=id_any a ha 12 (by omega) (by omega)
 have HB12:Hid (∀ w,Calls Tryz.prog 26 #[.int .i64 b,.int .i64 12] w fun e w'=>e=.returned (.int .i64 ((1+pk b 12:Nat):Int))∧w'=w):=id_any b hb 12 (by omega) (by omega)
 have HC12:Hid (∀ w,Calls Tryz.prog 26 #[.int .i64 c,.int .i64 12] w fun e w'=>e=.returned (.int .i64 ((1+pk c 12:Nat):Int))∧w'=w):=id_any c hc 12 (by omega) (by omega)
 have bA12:=pk_lt a (n:=12) (by omega)
 have bB12:=pk_lt b (n:=12) (by omega)
 have bC12:=pk_lt c (n:=12) (by omega)
 generalize xA12:1+pk a 12=nA12 at *
 generalize xB12:1+pk b 12=nB12 at *
 generalize xC12:1+pk c 12=nC12 at *
 have HC:Hid (∀ (w0:World),w0.heap.size=w.heap.size+1→Calls Tryz.prog 22 #[.int .i64 4,.slice (some ⟨w.heap.size+1,0,none⟩) 3 3] (w0.alloc (.cells #[.int .i64 (nA12:Int),.int .i64 (nB12:Int),.int .i64 (nC12:Int)] 3)) fun e w'=>e=.returned (.string ⟨(Pl.cmdB 4 [nA12,nB12,nC12]).toArray⟩)∧Below w0.heap.size w0 w'):=fun w0 h0=>by
  rw [← h0]
  exact kcommand_lit 4 (by omega) [nA12,nB12,nC12] (by simp) (by intro n hn;simp at hn;omega) w0
 clear hk ha hb hc hq0
 have hal:=al1 w (.cells #[.int .i64 k,.int .i64 a,.int .i64 b,.int .i64 c,.int .i64 d] 35)
 have hbk:=heap_alloc_new w (.cells #[.int .i64 k,.int .i64 a,.int .i64 b,.int .i64 c,.int .i64 d] 35)
 have c0:(w.alloc (.cells #[.int .i64 k,.int .i64 a,.int .i64 b,.int .i64 c,.int .i64 d] 35)).cell? ⟨w.heap.size,0,none⟩=some (.int .i64 k):=by rw [blk_cell hbk];rfl
 have c1:(w.alloc (.cells #[.int .i64 k,.int .i64 a,.int .i64 b,.int .i64 c,.int .i64 d] 35)).cell? ⟨w.heap.size,1,none⟩=some (.int .i64 a):=by rw [blk_cell hbk];rfl
 have c2:(w.alloc (.cells #[.int .i64 k,.int .i64 a,.int .i64 b,.int .i64 c,.int .i64 d] 35)).cell? ⟨w.heap.size,2,none⟩=some (.int .i64 b):=by rw [blk_cell hbk];rfl
 have c3:(w.alloc (.cells #[.int .i64 k,.int .i64 a,.int .i64 b,.int .i64 c,.int .i64 d] 35)).cell? ⟨w.heap.size,3,none⟩=some (.int .i64 c):=by rw [blk_cell hbk];rfl
 have c4:(w.alloc (.cells #[.int .i64 k,.int .i64 a,.int .i64 b,.int .i64 c,.int .i64 d] 35)).cell? ⟨w.heap.size,4,none⟩=some (.int .i64 d):=by rw [blk_cell hbk];rfl
 have HAL:=hide hal
 clear hal hbk
 go_enter Tryz.func13,Tryz.ntmps13
 go_wp2_with (first | (go_at_call 26;with_reducible refine (HA12.out _).mono ?_;rintro e w1 ⟨rfl,hw1⟩;have hw2:=hw1.symm;subst hw2) | (go_at_call 26;with_reducible refine (HB12.out _).mono ?_;rintro e w1 ⟨rfl,hw1⟩;have hw2:=hw1.symm;subst hw2) | (go_at_call 26;with_reducible refine (HC12.out _).mono ?_;rintro e w1 ⟨rfl,hw1⟩;have hw2:=hw1.symm;subst hw2) | (go_at_call 14;with_reducible refine (HK.out _).mono ?_;rintro e w1 ⟨rfl,hw1⟩;have hw2:=hw1.symm;subst hw2) | (go_at_call 22;refine (HC.out _ (by simp)).mono ?_;rintro e w1 ⟨rfl,hb1⟩))
 go_ret
 exact ⟨rfl,HAL.out.trans (hb1.mono (by simp))⟩
set_option maxHeartbeats 3200000 in
theorem spelt_5 (k a b c d:Int) (hk:Raw k) (ha:Raw a) (hb:Raw b) (hc:Raw c) (hd:Raw d) (w:World) (hq0:pk k 12=4) :
  Calls Tryz.prog 13 #[.agg #[.int .i64 k,.int .i64 a,.int .i64 b,.int .i64 c,.int .i64 d]] w fun e w'=>e=.returned (.string ⟨(Pl.cmdB 5 [1+pk a 4,1+pk b 3,1+pk c 400,pk d 10,pk (d.tdiv 16) 4]).toArray⟩)∧Below w.heap.size w w':=by
 have hq:Raw (d.tdiv 16):=by
  obtain ⟨q1,q2⟩:=hd
  have h1:(d.tdiv 16).natAbs=d.natAbs / 16:=by rw [Int.natAbs_tdiv];rfl
  generalize d.tdiv 16=z at *
  refine ⟨?_,?_⟩ <;> omega
 have hw1:wrap64 (d.tdiv 16)=d.tdiv 16:=wrap64_in _ ⟨hq.1,hq.2⟩
 have hw2:IntKind.i64.wrap (d.tdiv 16)=d.tdiv 16:=by rw [IntWalk.i64_left];exact hw1
 have hd1:-9223372036854775808≤d:=hd.1
 have hd2:d≤9223372036854775807:=hd.2
 have HK:Hid (∀ w,Calls Tryz.prog 14 #[.int .i64 k,.int .i64 12] w fun e w'=>e=.returned (.int .i64 4)∧w'=w):=by
  have:=pick_any k hk 12 (by omega) (by omega)
  rw [hq0] at this;exact this
 have HA12:Hid (∀ w,Calls Tryz.prog 26 #[.int .i64 a,.int .i64 12] w fun e w'=>e=.returned (.int .i64 ((1+pk a 12:Nat):Int))∧w'=w):=id_any a ha 12 (by omega) (by omega)
 have HB12:Hid (∀ w,Calls Tryz.prog 26 #[.int .i64 b,.int .i64 12] w fun e w'=>e=.returned (.int .i64 ((1+pk b 12:Nat):Int))∧w'=w):=id_any b hb 12 (by omega) (by omega)
 have HA4:Hid (∀ w,Calls Tryz.prog 26 #[.int .i64 a,.int .i64 4] w fun e w'=>e=.returned (.int .i64 ((1+pk a 4:Nat):Int))∧w'=w):=id_any a ha 4 (by omega) (by omega)
 have HB3:Hid (∀ w,Calls Tryz.prog 26 #[.int .i64 b,.int .i64 3] w fun e w'=>e=.returned (.int .i64 ((1+pk b 3:Nat):Int))∧w'=w):=id_any b hb 3 (by omega) (by omega)
 have HFC:Hid (∀ w,Calls Tryz.prog 27 #[.int .i64 c] w fun e w'=>e=.returned (.int .i64 ((1+pk c 400:Nat):Int))∧w'=w):=few_any c hc
 have HPD10:Hid (∀ w,Calls Tryz.prog 14 #[.int .i64 d,.int .i64 10] w fun e w'=>e=.returned (.int .i64 ((pk d 10:Nat):Int))∧w'=w):=pick_any d hd 10 (by omega) (by omega)
 have HPQ4:Hid (∀ w,Calls Tryz.prog 14 #[.int .i64 (d.tdiv 16),.int .i64 4] w fun e w'=>e=.returned (.int .i64 ((pk (d.tdiv 16) 4:Nat):Int))∧w'=w):=pick_any (d.tdiv 16) hq 4 (by omega) (by omega)
 have bA12:=pk_lt a (n:=12) (by omega)
 have bB12:=pk_lt b (n:=12) (by omega)
 have bA4:=pk_lt a (n:=4) (by omega)
 have bB3:=pk_lt b (n:=3) (by omega)
 have bFC:=pk_lt c (n:=400) (by omega)
 have bPD10:=pk_lt d (n:=10) (by omega)
 have bPQ4:=pk_lt (d.tdiv 16) (n:=4) (by omega)
 generalize xA12:1+pk a 12=nA12 at *
 generalize xB12:1+pk b 12=nB12 at *
 generalize xA4:1+pk a 4=nA4 at *
 generalize xB3:1+pk b 3=nB3 at *
 generalize xFC:1+pk c 400=nFC at *
 generalize xPD10:pk d 10=nPD10 at *
 generalize xPQ4:pk (d.tdiv 16) 4=nPQ4 at *
 have HC:Hid (∀ (w0:World),w0.heap.size=w.heap.size+1→Calls Tryz.prog 22 #[.int .i64 5,.slice (some ⟨w.heap.size+1,0,none⟩) 5 5] (w0.alloc (.cells #[.int .i64 (nA4:Int),.int .i64 (nB3:Int),.int .i64 (nFC:Int),.int .i64 (nPD10:Int),.int .i64 (nPQ4:Int)] 3)).drew fun e w'=>e=.returned (.string ⟨(Pl.cmdB 5 [nA4,nB3,nFC,nPD10,nPQ4]).toArray⟩)∧Below w0.heap.size w0 w'):=fun w0 h0=>by
  rw [← h0]
  exact kcommand_lit' 5 (by omega) [nA4,nB3,nFC,nPD10,nPQ4] (by simp) (by intro n hn;simp at hn;omega) w0
 clear hk ha hb hc hq0
 have hal:=al1 w (.cells #[.int .i64 k,.int .i64 a,.int .i64 b,.int .i64 c,.int .i64 d] 35)
 have hbk:=heap_alloc_new w (.cells #[.int .i64 k,.int .i64 a,.int .i64 b,.int .i64 c,.int .i64 d] 35)
 have c0:(w.alloc (.cells #[.int .i64 k,.int .i64 a,.int .i64 b,.int .i64 c,.int .i64 d] 35)).cell? ⟨w.heap.size,0,none⟩=some (.int .i64 k):=by rw [blk_cell hbk];rfl
 have c1:(w.alloc (.cells #[.int .i64 k,.int .i64 a,.int .i64 b,.int .i64 c,.int .i64 d] 35)).cell? ⟨w.heap.size,1,none⟩=some (.int .i64 a):=by rw [blk_cell hbk];rfl
 have c2:(w.alloc (.cells #[.int .i64 k,.int .i64 a,.int .i64 b,.int .i64 c,.int .i64 d] 35)).cell? ⟨w.heap.size,2,none⟩=some (.int .i64 b):=by rw [blk_cell hbk];rfl
 have c3:(w.alloc (.cells #[.int .i64 k,.int .i64 a,.int .i64 b,.int .i64 c,.int .i64 d] 35)).cell? ⟨w.heap.size,3,none⟩=some (.int .i64 c):=by rw [blk_cell hbk];rfl
 have c4:(w.alloc (.cells #[.int .i64 k,.int .i64 a,.int .i64 b,.int .i64 c,.int .i64 d] 35)).cell? ⟨w.heap.size,4,none⟩=some (.int .i64 d):=by rw [blk_cell hbk];rfl
 have HAL:=hide hal
 clear hal hbk
 go_enter Tryz.func13,Tryz.ntmps13
 go_wp2_with (first | (go_at_call 26;with_reducible refine (HA12.out _).mono ?_;rintro e w1 ⟨rfl,hw1⟩;have hw2:=hw1.symm;subst hw2) | (go_at_call 26;with_reducible refine (HB12.out _).mono ?_;rintro e w1 ⟨rfl,hw1⟩;have hw2:=hw1.symm;subst hw2) | (go_at_call 26;with_reducible refine (HA4.out _).mono ?_;rintro e w1 ⟨rfl,hw1⟩;have hw2:=hw1.symm;subst hw2) | (go_at_call 26;with_reducible refine (HB3.out _).mono ?_;rintro e w1 ⟨rfl,hw1⟩;have hw2:=hw1.symm;subst hw2) | (go_at_call 27;with_reducible refine (HFC.out _).mono ?_;rintro e w1 ⟨rfl,hw1⟩;have hw2:=hw1.symm;subst hw2) | (go_at_call 14;with_reducible refine (HPD10.out _).mono ?_;rintro e w1 ⟨rfl,hw1⟩;have hw2:=hw1.symm;subst hw2) | (go_at_call 14;with_reducible refine (HPQ4.out _).mono ?_;rintro e w1 ⟨rfl,hw1⟩;have hw2:=hw1.symm;subst hw2) | (go_at_call 14;with_reducible refine (HK.out _).mono ?_;rintro e w1 ⟨rfl,hw1⟩;have hw2:=hw1.symm;subst hw2) | (go_at_call 22;refine (HC.out _ (by simp)).mono ?_;rintro e w1 ⟨rfl,hb1⟩))
 go_region_held3 (fun w'=>w'.cell? ⟨w.heap.size,1,none⟩=some (.int .i64 a)∧w'.cell? ⟨w.heap.size,2,none⟩=some (.int .i64 b)∧w'.cell? ⟨w.heap.size,3,none⟩=some (.int .i64 c)∧w'.cell? ⟨w.heap.size,4,none⟩=some (.int .i64 d)) (go_keep)
  (first | (go_at_call 26;with_reducible refine (HA12.out _).mono ?_;rintro e w1 ⟨rfl,hw1⟩;have hw2:=hw1.symm;subst hw2) | (go_at_call 26;with_reducible refine (HB12.out _).mono ?_;rintro e w1 ⟨rfl,hw1⟩;have hw2:=hw1.symm;subst hw2) | (go_at_call 26;with_reducible refine (HA4.out _).mono ?_;rintro e w1 ⟨rfl,hw1⟩;have hw2:=hw1.symm;subst hw2) | (go_at_call 26;with_reducible refine (HB3.out _).mono ?_;rintro e w1 ⟨rfl,hw1⟩;have hw2:=hw1.symm;subst hw2) | (go_at_call 27;with_reducible refine (HFC.out _).mono ?_;rintro e w1 ⟨rfl,hw1⟩;have hw2:=hw1.symm;subst hw2) | (go_at_call 14;with_reducible refine (HPD10.out _).mono ?_;rintro e w1 ⟨rfl,hw1⟩;have hw2:=hw1.symm;subst hw2) | (go_at_call 14;with_reducible refine (HPQ4.out _).mono ?_;rintro e w1 ⟨rfl,hw1⟩;have hw2:=hw1.symm;subst hw2) | (go_at_call 14;with_reducible refine (HK.out _).mono ?_;rintro e w1 ⟨rfl,hw1⟩;have hw2:=hw1.symm;subst hw2) | (go_at_call 22;refine (HC.out _ (by simp)).mono ?_;rintro e w1 ⟨rfl,hb1⟩;have m1:=(hb1.cell (p:=⟨w.heap.size,1,none⟩) (by simp)).trans c1;have m2:=(hb1.cell (p:=⟨w.heap.size,2,none⟩) (by simp)).trans c2;have m3:=(hb1.cell (p:=⟨w.heap.size,3,none⟩) (by simp)).trans c3;have m4:=(hb1.cell (p:=⟨w.heap.size,4,none⟩) (by simp)).trans c4))
 all_goals
  go_wp2_with fail
  go_ret
  exact ⟨rfl,HAL.out.trans (hb1.mono (by simp))⟩
set_option maxHeartbeats 3200000 in
theorem spelt_6 (k a b c d:Int) (hk:Raw k) (ha:Raw a) (hb:Raw b) (hc:Raw c) (hd:Raw d) (w:World) (hq0:pk k 12=5) :
  Calls Tryz.prog 13 #[.agg #[.int .i64 k,.int .i64 a,.int .i64 b,.int .i64 c,.int .i64 d]] w fun e w'=>e=.returned (.string ⟨(Pl.cmdB 6 [1+pk a 4]).toArray⟩)∧Below w.heap.size w w':=by
 have HK:Hid (∀ w,Calls Tryz.prog 14 #[.int .i64 k,.int .i64 12] w fun e w'=>e=.returned (.int .i64 5)∧w'=w):=by
  have:=pick_any k hk 12 (by omega) (by omega)
  rw [hq0] at this;exact this
 have HA12:Hid (∀ w,Calls Tryz.prog 26 #[.int .i64 a,.int .i64 12] w fun e w'=>e=.returned (.int .i64 ((1+pk a 12:Nat):Int))∧w'=w):=id_any a ha 12 (by omega) (by omega)
 have HB12:Hid (∀ w,Calls Tryz.prog 26 #[.int .i64 b,.int .i64 12] w fun e w'=>e=.returned (.int .i64 ((1+pk b 12:Nat):Int))∧w'=w):=id_any b hb 12 (by omega) (by omega)
 have HA4:Hid (∀ w,Calls Tryz.prog 26 #[.int .i64 a,.int .i64 4] w fun e w'=>e=.returned (.int .i64 ((1+pk a 4:Nat):Int))∧w'=w):=id_any a ha 4 (by omega) (by omega)
 have bA12:=pk_lt a (n:=12) (by omega)
 have bB12:=pk_lt b (n:=12) (by omega)
 have bA4:=pk_lt a (n:=4) (by omega)
 generalize xA12:1+pk a 12=nA12 at *
 generalize xB12:1+pk b 12=nB12 at *
 generalize xA4:1+pk a 4=nA4 at *
 have HC:Hid (∀ (w0:World),w0.heap.size=w.heap.size+1→Calls Tryz.prog 22 #[.int .i64 6,.slice (some ⟨w.heap.size+1,0,none⟩) 1 1] (w0.alloc (.cells #[.int .i64 (nA4:Int)] 3)) fun e w'=>e=.returned (.string ⟨(Pl.cmdB 6 [nA4]).toArray⟩)∧Below w0.heap.size w0 w'):=fun w0 h0=>by
  rw [← h0]
  exact kcommand_lit 6 (by omega) [nA4] (by simp) (by intro n hn;simp at hn;omega) w0
 clear hk ha hb hc hq0
 have hal:=al1 w (.cells #[.int .i64 k,.int .i64 a,.int .i64 b,.int .i64 c,.int .i64 d] 35)
 have hbk:=heap_alloc_new w (.cells #[.int .i64 k,.int .i64 a,.int .i64 b,.int .i64 c,.int .i64 d] 35)
 have c0:(w.alloc (.cells #[.int .i64 k,.int .i64 a,.int .i64 b,.int .i64 c,.int .i64 d] 35)).cell? ⟨w.heap.size,0,none⟩=some (.int .i64 k):=by rw [blk_cell hbk];rfl
 have c1:(w.alloc (.cells #[.int .i64 k,.int .i64 a,.int .i64 b,.int .i64 c,.int .i64 d] 35)).cell? ⟨w.heap.size,1,none⟩=some (.int .i64 a):=by rw [blk_cell hbk];rfl
 have c2:(w.alloc (.cells #[.int .i64 k,.int .i64 a,.int .i64 b,.int .i64 c,.int .i64 d] 35)).cell? ⟨w.heap.size,2,none⟩=some (.int .i64 b):=by rw [blk_cell hbk];rfl
 have c3:(w.alloc (.cells #[.int .i64 k,.int .i64 a,.int .i64 b,.int .i64 c,.int .i64 d] 35)).cell? ⟨w.heap.size,3,none⟩=some (.int .i64 c):=by rw [blk_cell hbk];rfl
 have c4:(w.alloc (.cells #[.int .i64 k,.int .i64 a,.int .i64 b,.int .i64 c,.int .i64 d] 35)).cell? ⟨w.heap.size,4,none⟩=some (.int .i64 d):=by rw [blk_cell hbk];rfl
 have HAL:=hide hal
 clear hal hbk
 go_enter Tryz.func13,Tryz.ntmps13
 go_wp2_with (first | (go_at_call 26;with_reducible refine (HA12.out _).mono ?_;rintro e w1 ⟨rfl,hw1⟩;have hw2:=hw1.symm;subst hw2) | (go_at_call 26;with_reducible refine (HB12.out _).mono ?_;rintro e w1 ⟨rfl,hw1⟩;have hw2:=hw1.symm;subst hw2) | (go_at_call 26;with_reducible refine (HA4.out _).mono ?_;rintro e w1 ⟨rfl,hw1⟩;have hw2:=hw1.symm;subst hw2) | (go_at_call 14;with_reducible refine (HK.out _).mono ?_;rintro e w1 ⟨rfl,hw1⟩;have hw2:=hw1.symm;subst hw2) | (go_at_call 22;refine (HC.out _ (by simp)).mono ?_;rintro e w1 ⟨rfl,hb1⟩))
 go_ret
 exact ⟨rfl,HAL.out.trans (hb1.mono (by simp))⟩
set_option maxHeartbeats 3200000 in
theorem spelt_7 (k a b c d:Int) (hk:Raw k) (ha:Raw a) (hb:Raw b) (hc:Raw c) (hd:Raw d) (w:World) (hq0:pk k 12=6) :
  Calls Tryz.prog 13 #[.agg #[.int .i64 k,.int .i64 a,.int .i64 b,.int .i64 c,.int .i64 d]] w fun e w'=>e=.returned (.string ⟨(Pl.cmdB 7 [1+pk a 4]).toArray⟩)∧Below w.heap.size w w':=by
 have HK:Hid (∀ w,Calls Tryz.prog 14 #[.int .i64 k,.int .i64 12] w fun e w'=>e=.returned (.int .i64 6)∧w'=w):=by
  have:=pick_any k hk 12 (by omega) (by omega)
  rw [hq0] at this;exact this
 have HA12:Hid (∀ w,Calls Tryz.prog 26 #[.int .i64 a,.int .i64 12] w fun e w'=>e=.returned (.int .i64 ((1+pk a 12:Nat):Int))∧w'=w):=id_any a ha 12 (by omega) (by omega)
 have HB12:Hid (∀ w,Calls Tryz.prog 26 #[.int .i64 b,.int .i64 12] w fun e w'=>e=.returned (.int .i64 ((1+pk b 12:Nat):Int))∧w'=w):=id_any b hb 12 (by omega) (by omega)
 have HA4:Hid (∀ w,Calls Tryz.prog 26 #[.int .i64 a,.int .i64 4] w fun e w'=>e=.returned (.int .i64 ((1+pk a 4:Nat):Int))∧w'=w):=id_any a ha 4 (by omega) (by omega)
 have bA12:=pk_lt a (n:=12) (by omega)
 have bB12:=pk_lt b (n:=12) (by omega)
 have bA4:=pk_lt a (n:=4) (by omega)
 generalize xA12:1+pk a 12=nA12 at *
 generalize xB12:1+pk b 12=nB12 at *
 generalize xA4:1+pk a 4=nA4 at *
 have HC:Hid (∀ (w0:World),w0.heap.size=w.heap.size+1→Calls Tryz.prog 22 #[.int .i64 7,.slice (some ⟨w.heap.size+1,0,none⟩) 1 1] (w0.alloc (.cells #[.int .i64 (nA4:Int)] 3)) fun e w'=>e=.returned (.string ⟨(Pl.cmdB 7 [nA4]).toArray⟩)∧Below w0.heap.size w0 w'):=fun w0 h0=>by
  rw [← h0]
  exact kcommand_lit 7 (by omega) [nA4] (by simp) (by intro n hn;simp at hn;omega) w0
 clear hk ha hb hc hq0
 have hal:=al1 w (.cells #[.int .i64 k,.int .i64 a,.int .i64 b,.int .i64 c,.int .i64 d] 35)
 have hbk:=heap_alloc_new w (.cells #[.int .i64 k,.int .i64 a,.int .i64 b,.int .i64 c,.int .i64 d] 35)
 have c0:(w.alloc (.cells #[.int .i64 k,.int .i64 a,.int .i64 b,.int .i64 c,.int .i64 d] 35)).cell? ⟨w.heap.size,0,none⟩=some (.int .i64 k):=by rw [blk_cell hbk];rfl
 have c1:(w.alloc (.cells #[.int .i64 k,.int .i64 a,.int .i64 b,.int .i64 c,.int .i64 d] 35)).cell? ⟨w.heap.size,1,none⟩=some (.int .i64 a):=by rw [blk_cell hbk];rfl
 have c2:(w.alloc (.cells #[.int .i64 k,.int .i64 a,.int .i64 b,.int .i64 c,.int .i64 d] 35)).cell? ⟨w.heap.size,2,none⟩=some (.int .i64 b):=by rw [blk_cell hbk];rfl
 have c3:(w.alloc (.cells #[.int .i64 k,.int .i64 a,.int .i64 b,.int .i64 c,.int .i64 d] 35)).cell? ⟨w.heap.size,3,none⟩=some (.int .i64 c):=by rw [blk_cell hbk];rfl
 have c4:(w.alloc (.cells #[.int .i64 k,.int .i64 a,.int .i64 b,.int .i64 c,.int .i64 d] 35)).cell? ⟨w.heap.size,4,none⟩=some (.int .i64 d):=by rw [blk_cell hbk];rfl
 have HAL:=hide hal
 clear hal hbk
 go_enter Tryz.func13,Tryz.ntmps13
 go_wp2_with (first | (go_at_call 26;with_reducible refine (HA12.out _).mono ?_;rintro e w1 ⟨rfl,hw1⟩;have hw2:=hw1.symm;subst hw2) | (go_at_call 26;with_reducible refine (HB12.out _).mono ?_;rintro e w1 ⟨rfl,hw1⟩;have hw2:=hw1.symm;subst hw2) | (go_at_call 26;with_reducible refine (HA4.out _).mono ?_;rintro e w1 ⟨rfl,hw1⟩;have hw2:=hw1.symm;subst hw2) | (go_at_call 14;with_reducible refine (HK.out _).mono ?_;rintro e w1 ⟨rfl,hw1⟩;have hw2:=hw1.symm;subst hw2) | (go_at_call 22;refine (HC.out _ (by simp)).mono ?_;rintro e w1 ⟨rfl,hb1⟩))
 go_ret
 exact ⟨rfl,HAL.out.trans (hb1.mono (by simp))⟩
set_option maxHeartbeats 3200000 in
theorem spelt_8 (k a b c d:Int) (hk:Raw k) (ha:Raw a) (hb:Raw b) (hc:Raw c) (hd:Raw d) (w:World) (hq0:pk k 12=7) :
  Calls Tryz.prog 13 #[.agg #[.int .i64 k,.int .i64 a,.int .i64 b,.int .i64 c,.int .i64 d]] w fun e w'=>e=.returned (.string ⟨(Pl.cmdB 8 [1+pk a 12,1+pk b 2]).toArray⟩)∧Below w.heap.size w w':=by
 have HK:Hid (∀ w,Calls Tryz.prog 14 #[.int .i64 k,.int .i64 12] w fun e w'=>e=.returned (.int .i64 7)∧w'=w):=by
  have:=pick_any k hk 12 (by omega) (by omega)
  rw [hq0] at this;exact this
 have HA12:Hid (∀ w,Calls Tryz.prog 26 #[.int .i64 a,.int .i64 12] w fun e w'=>e=.returned (.int .i64 ((1+pk a 12:Nat):Int))∧w'=w):=id_any a ha 12 (by omega) (by omega)
 have HB12:Hid (∀ w,Calls Tryz.prog 26 #[.int .i64 b,.int .i64 12] w fun e w'=>e=.returned (.int .i64 ((1+pk b 12:Nat):Int))∧w'=w):=id_any b hb 12 (by omega) (by omega)
 have HB2:Hid (∀ w,Calls Tryz.prog 26 #[.int .i64 b,.int .i64 2] w fun e w'=>e=.returned (.int .i64 ((1+pk b 2:Nat):Int))∧w'=w):=id_any b hb 2 (by omega) (by omega)
 have bA12:=pk_lt a (n:=12) (by omega)
 have bB12:=pk_lt b (n:=12) (by omega)
 have bB2:=pk_lt b (n:=2) (by omega)
 generalize xA12:1+pk a 12=nA12 at *
 generalize xB12:1+pk b 12=nB12 at *
 generalize xB2:1+pk b 2=nB2 at *
 have HC:Hid (∀ (w0:World),w0.heap.size=w.heap.size+1→Calls Tryz.prog 22 #[.int .i64 8,.slice (some ⟨w.heap.size+1,0,none⟩) 2 2] (w0.alloc (.cells #[.int .i64 (nA12:Int),.int .i64 (nB2:Int)] 3)) fun e w'=>e=.returned (.string ⟨(Pl.cmdB 8 [nA12,nB2]).toArray⟩)∧Below w0.heap.size w0 w'):=fun w0 h0=>by
  rw [← h0]
  exact kcommand_lit 8 (by omega) [nA12,nB2] (by simp) (by intro n hn;simp at hn;omega) w0
 clear hk ha hb hc hq0
 have hal:=al1 w (.cells #[.int .i64 k,.int .i64 a,.int .i64 b,.int .i64 c,.int .i64 d] 35)
 have hbk:=heap_alloc_new w (.cells #[.int .i64 k,.int .i64 a,.int .i64 b,.int .i64 c,.int .i64 d] 35)
 have c0:(w.alloc (.cells #[.int .i64 k,.int .i64 a,.int .i64 b,.int .i64 c,.int .i64 d] 35)).cell? ⟨w.heap.size,0,none⟩=some (.int .i64 k):=by rw [blk_cell hbk];rfl
 have c1:(w.alloc (.cells #[.int .i64 k,.int .i64 a,.int .i64 b,.int .i64 c,.int .i64 d] 35)).cell? ⟨w.heap.size,1,none⟩=some (.int .i64 a):=by rw [blk_cell hbk];rfl
 have c2:(w.alloc (.cells #[.int .i64 k,.int .i64 a,.int .i64 b,.int .i64 c,.int .i64 d] 35)).cell? ⟨w.heap.size,2,none⟩=some (.int .i64 b):=by rw [blk_cell hbk];rfl
 have c3:(w.alloc (.cells #[.int .i64 k,.int .i64 a,.int .i64 b,.int .i64 c,.int .i64 d] 35)).cell? ⟨w.heap.size,3,none⟩=some (.int .i64 c):=by rw [blk_cell hbk];rfl
 have c4:(w.alloc (.cells #[.int .i64 k,.int .i64 a,.int .i64 b,.int .i64 c,.int .i64 d] 35)).cell? ⟨w.heap.size,4,none⟩=some (.int .i64 d):=by rw [blk_cell hbk];rfl
 have HAL:=hide hal
 clear hal hbk
 go_enter Tryz.func13,Tryz.ntmps13
 go_wp2_with (first | (go_at_call 26;with_reducible refine (HA12.out _).mono ?_;rintro e w1 ⟨rfl,hw1⟩;have hw2:=hw1.symm;subst hw2) | (go_at_call 26;with_reducible refine (HB12.out _).mono ?_;rintro e w1 ⟨rfl,hw1⟩;have hw2:=hw1.symm;subst hw2) | (go_at_call 26;with_reducible refine (HB2.out _).mono ?_;rintro e w1 ⟨rfl,hw1⟩;have hw2:=hw1.symm;subst hw2) | (go_at_call 14;with_reducible refine (HK.out _).mono ?_;rintro e w1 ⟨rfl,hw1⟩;have hw2:=hw1.symm;subst hw2) | (go_at_call 22;refine (HC.out _ (by simp)).mono ?_;rintro e w1 ⟨rfl,hb1⟩))
 go_ret
 exact ⟨rfl,HAL.out.trans (hb1.mono (by simp))⟩
set_option maxHeartbeats 3200000 in
theorem spelt_9 (k a b c d:Int) (hk:Raw k) (ha:Raw a) (hb:Raw b) (hc:Raw c) (hd:Raw d) (w:World) (hq0:pk k 12=8) :
  Calls Tryz.prog 13 #[.agg #[.int .i64 k,.int .i64 a,.int .i64 b,.int .i64 c,.int .i64 d]] w fun e w'=>e=.returned (.string ⟨(Pl.cmdB 9 [1+pk a 12,1+pk b 2]).toArray⟩)∧Below w.heap.size w w':=by
 have HK:Hid (∀ w,Calls Tryz.prog 14 #[.int .i64 k,.int .i64 12] w fun e w'=>e=.returned (.int .i64 8)∧w'=w):=by
  have:=pick_any k hk 12 (by omega) (by omega)
  rw [hq0] at this;exact this
 have HA12:Hid (∀ w,Calls Tryz.prog 26 #[.int .i64 a,.int .i64 12] w fun e w'=>e=.returned (.int .i64 ((1+pk a 12:Nat):Int))∧w'=w):=id_any a ha 12 (by omega) (by omega)
 have HB12:Hid (∀ w,Calls Tryz.prog 26 #[.int .i64 b,.int .i64 12] w fun e w'=>e=.returned (.int .i64 ((1+pk b 12:Nat):Int))∧w'=w):=id_any b hb 12 (by omega) (by omega)
 have HB2:Hid (∀ w,Calls Tryz.prog 26 #[.int .i64 b,.int .i64 2] w fun e w'=>e=.returned (.int .i64 ((1+pk b 2:Nat):Int))∧w'=w):=id_any b hb 2 (by omega) (by omega)
 have bA12:=pk_lt a (n:=12) (by omega)
 have bB12:=pk_lt b (n:=12) (by omega)
 have bB2:=pk_lt b (n:=2) (by omega)
 generalize xA12:1+pk a 12=nA12 at *
 generalize xB12:1+pk b 12=nB12 at *
 generalize xB2:1+pk b 2=nB2 at *
 have HC:Hid (∀ (w0:World),w0.heap.size=w.heap.size+1→Calls Tryz.prog 22 #[.int .i64 9,.slice (some ⟨w.heap.size+1,0,none⟩) 2 2] (w0.alloc (.cells #[.int .i64 (nA12:Int),.int .i64 (nB2:Int)] 3)) fun e w'=>e=.returned (.string ⟨(Pl.cmdB 9 [nA12,nB2]).toArray⟩)∧Below w0.heap.size w0 w'):=fun w0 h0=>by
  rw [← h0]
  exact kcommand_lit 9 (by omega) [nA12,nB2] (by simp) (by intro n hn;simp at hn;omega) w0
 clear hk ha hb hc hq0
 have hal:=al1 w (.cells #[.int .i64 k,.int .i64 a,.int .i64 b,.int .i64 c,.int .i64 d] 35)
 have hbk:=heap_alloc_new w (.cells #[.int .i64 k,.int .i64 a,.int .i64 b,.int .i64 c,.int .i64 d] 35)
 have c0:(w.alloc (.cells #[.int .i64 k,.int .i64 a,.int .i64 b,.int .i64 c,.int .i64 d] 35)).cell? ⟨w.heap.size,0,none⟩=some (.int .i64 k):=by rw [blk_cell hbk];rfl
 have c1:(w.alloc (.cells #[.int .i64 k,.int .i64 a,.int .i64 b,.int .i64 c,.int .i64 d] 35)).cell? ⟨w.heap.size,1,none⟩=some (.int .i64 a):=by rw [blk_cell hbk];rfl
 have c2:(w.alloc (.cells #[.int .i64 k,.int .i64 a,.int .i64 b,.int .i64 c,.int .i64 d] 35)).cell? ⟨w.heap.size,2,none⟩=some (.int .i64 b):=by rw [blk_cell hbk];rfl
 have c3:(w.alloc (.cells #[.int .i64 k,.int .i64 a,.int .i64 b,.int .i64 c,.int .i64 d] 35)).cell? ⟨w.heap.size,3,none⟩=some (.int .i64 c):=by rw [blk_cell hbk];rfl
 have c4:(w.alloc (.cells #[.int .i64 k,.int .i64 a,.int .i64 b,.int .i64 c,.int .i64 d] 35)).cell? ⟨w.heap.size,4,none⟩=some (.int .i64 d):=by rw [blk_cell hbk];rfl
 have HAL:=hide hal
 clear hal hbk
 go_enter Tryz.func13,Tryz.ntmps13
 go_wp2_with (first | (go_at_call 26;with_reducible refine (HA12.out _).mono ?_;rintro e w1 ⟨rfl,hw1⟩;have hw2:=hw1.symm;subst hw2) | (go_at_call 26;with_reducible refine (HB12.out _).mono ?_;rintro e w1 ⟨rfl,hw1⟩;have hw2:=hw1.symm;subst hw2) | (go_at_call 26;with_reducible refine (HB2.out _).mono ?_;rintro e w1 ⟨rfl,hw1⟩;have hw2:=hw1.symm;subst hw2) | (go_at_call 14;with_reducible refine (HK.out _).mono ?_;rintro e w1 ⟨rfl,hw1⟩;have hw2:=hw1.symm;subst hw2) | (go_at_call 22;refine (HC.out _ (by simp)).mono ?_;rintro e w1 ⟨rfl,hb1⟩))
 go_ret
 exact ⟨rfl,HAL.out.trans (hb1.mono (by simp))⟩
set_option maxHeartbeats 3200000 in
theorem spelt_10 (k a b c d:Int) (hk:Raw k) (ha:Raw a) (hb:Raw b) (hc:Raw c) (hd:Raw d) (w:World) (hq0:pk k 12=9) :
  Calls Tryz.prog 13 #[.agg #[.int .i64 k,.int .i64 a,.int .i64 b,.int .i64 c,.int .i64 d]] w fun e w'=>e=.returned (.string ⟨(Pl.cmdB 10 [1+pk a 12,1+pk c 400]).toArray⟩)∧Below w.heap.size w w':=by
 have HK:Hid (∀ w,Calls Tryz.prog 14 #[.int .i64 k,.int .i64 12] w fun e w'=>e=.returned (.int .i64 9)∧w'=w):=by
  have:=pick_any k hk 12 (by omega) (by omega)
  rw [hq0] at this;exact this
 have HA12:Hid (∀ w,Calls Tryz.prog 26 #[.int .i64 a,.int .i64 12] w fun e w'=>e=.returned (.int .i64 ((1+pk a 12:Nat):Int))∧w'=w):=id_any a ha 12 (by omega) (by omega)
 have HB12:Hid (∀ w,Calls Tryz.prog 26 #[.int .i64 b,.int .i64 12] w fun e w'=>e=.returned (.int .i64 ((1+pk b 12:Nat):Int))∧w'=w):=id_any b hb 12 (by omega) (by omega)
 have HFC:Hid (∀ w,Calls Tryz.prog 27 #[.int .i64 c] w fun e w'=>e=.returned (.int .i64 ((1+pk c 400:Nat):Int))∧w'=w):=few_any c hc
 have bA12:=pk_lt a (n:=12) (by omega)
 have bB12:=pk_lt b (n:=12) (by omega)
 have bFC:=pk_lt c (n:=400) (by omega)
 generalize xA12:1+pk a 12=nA12 at *
 generalize xB12:1+pk b 12=nB12 at *
 generalize xFC:1+pk c 400=nFC at *
 have HC:Hid (∀ (w0:World),w0.heap.size=w.heap.size+1→Calls Tryz.prog 22 #[.int .i64 10,.slice (some ⟨w.heap.size+1,0,none⟩) 2 2] (w0.alloc (.cells #[.int .i64 (nA12:Int),.int .i64 (nFC:Int)] 3)) fun e w'=>e=.returned (.string ⟨(Pl.cmdB 10 [nA12,nFC]).toArray⟩)∧Below w0.heap.size w0 w'):=fun w0 h0=>by
  rw [← h0]
  exact kcommand_lit 10 (by omega) [nA12,nFC] (by simp) (by intro n hn;simp at hn;omega) w0
 clear hk ha hb hc hq0
 have hal:=al1 w (.cells #[.int .i64 k,.int .i64 a,.int .i64 b,.int .i64 c,.int .i64 d] 35)
 have hbk:=heap_alloc_new w (.cells #[.int .i64 k,.int .i64 a,.int .i64 b,.int .i64 c,.int .i64 d] 35)
 have c0:(w.alloc (.cells #[.int .i64 k,.int .i64 a,.int .i64 b,.int .i64 c,.int .i64 d] 35)).cell? ⟨w.heap.size,0,none⟩=some (.int .i64 k):=by rw [blk_cell hbk];rfl
 have c1:(w.alloc (.cells #[.int .i64 k,.int .i64 a,.int .i64 b,.int .i64 c,.int .i64 d] 35)).cell? ⟨w.heap.size,1,none⟩=some (.int .i64 a):=by rw [blk_cell hbk];rfl
 have c2:(w.alloc (.cells #[.int .i64 k,.int .i64 a,.int .i64 b,.int .i64 c,.int .i64 d] 35)).cell? ⟨w.heap.size,2,none⟩=some (.int .i64 b):=by rw [blk_cell hbk];rfl
 have c3:(w.alloc (.cells #[.int .i64 k,.int .i64 a,.int .i64 b,.int .i64 c,.int .i64 d] 35)).cell? ⟨w.heap.size,3,none⟩=some (.int .i64 c):=by rw [blk_cell hbk];rfl
 have c4:(w.alloc (.cells #[.int .i64 k,.int .i64 a,.int .i64 b,.int .i64 c,.int .i64 d] 35)).cell? ⟨w.heap.size,4,none⟩=some (.int .i64 d):=by rw [blk_cell hbk];rfl
 have HAL:=hide hal
 clear hal hbk
 go_enter Tryz.func13,Tryz.ntmps13
 go_wp2_with (first | (go_at_call 26;with_reducible refine (HA12.out _).mono ?_;rintro e w1 ⟨rfl,hw1⟩;have hw2:=hw1.symm;subst hw2) | (go_at_call 26;with_reducible refine (HB12.out _).mono ?_;rintro e w1 ⟨rfl,hw1⟩;have hw2:=hw1.symm;subst hw2) | (go_at_call 27;with_reducible refine (HFC.out _).mono ?_;rintro e w1 ⟨rfl,hw1⟩;have hw2:=hw1.symm;subst hw2) | (go_at_call 14;with_reducible refine (HK.out _).mono ?_;rintro e w1 ⟨rfl,hw1⟩;have hw2:=hw1.symm;subst hw2) | (go_at_call 22;refine (HC.out _ (by simp)).mono ?_;rintro e w1 ⟨rfl,hb1⟩))
 go_ret
 exact ⟨rfl,HAL.out.trans (hb1.mono (by simp))⟩
set_option maxHeartbeats 3200000 in
theorem spelt_11 (k a b c d:Int) (hk:Raw k) (ha:Raw a) (hb:Raw b) (hc:Raw c) (hd:Raw d) (w:World) (hq0:pk k 12=10) :
  Calls Tryz.prog 13 #[.agg #[.int .i64 k,.int .i64 a,.int .i64 b,.int .i64 c,.int .i64 d]] w fun e w'=>e=.returned (.string ⟨(Pl.cmdB 11 [1+pk a 12]).toArray⟩)∧Below w.heap.size w w':=by
 have HK:Hid (∀ w,Calls Tryz.prog 14 #[.int .i64 k,.int .i64 12] w fun e w'=>e=.returned (.int .i64 10)∧w'=w):=by
  have:=pick_any k hk 12 (by omega) (by omega)
  rw [hq0] at this;exact this
 have HA12:Hid (∀ w,Calls Tryz.prog 26 #[.int .i64 a,.int .i64 12] w fun e w'=>e=.returned (.int .i64 ((1+pk a 12:Nat):Int))∧w'=w):=id_any a ha 12 (by omega) (by omega)
 have HB12:Hid (∀ w,Calls Tryz.prog 26 #[.int .i64 b,.int .i64 12] w fun e w'=>e=.returned (.int .i64 ((1+pk b 12:Nat):Int))∧w'=w):=id_any b hb 12 (by omega) (by omega)
 have bA12:=pk_lt a (n:=12) (by omega)
 have bB12:=pk_lt b (n:=12) (by omega)
 generalize xA12:1+pk a 12=nA12 at *
 generalize xB12:1+pk b 12=nB12 at *
 have HC:Hid (∀ (w0:World),w0.heap.size=w.heap.size+1→Calls Tryz.prog 22 #[.int .i64 11,.slice (some ⟨w.heap.size+1,0,none⟩) 1 1] (w0.alloc (.cells #[.int .i64 (nA12:Int)] 3)) fun e w'=>e=.returned (.string ⟨(Pl.cmdB 11 [nA12]).toArray⟩)∧Below w0.heap.size w0 w'):=fun w0 h0=>by
  rw [← h0]
  exact kcommand_lit 11 (by omega) [nA12] (by simp) (by intro n hn;simp at hn;omega) w0
 clear hk ha hb hc hq0
 have hal:=al1 w (.cells #[.int .i64 k,.int .i64 a,.int .i64 b,.int .i64 c,.int .i64 d] 35)
 have hbk:=heap_alloc_new w (.cells #[.int .i64 k,.int .i64 a,.int .i64 b,.int .i64 c,.int .i64 d] 35)
 have c0:(w.alloc (.cells #[.int .i64 k,.int .i64 a,.int .i64 b,.int .i64 c,.int .i64 d] 35)).cell? ⟨w.heap.size,0,none⟩=some (.int .i64 k):=by rw [blk_cell hbk];rfl
 have c1:(w.alloc (.cells #[.int .i64 k,.int .i64 a,.int .i64 b,.int .i64 c,.int .i64 d] 35)).cell? ⟨w.heap.size,1,none⟩=some (.int .i64 a):=by rw [blk_cell hbk];rfl
 have c2:(w.alloc (.cells #[.int .i64 k,.int .i64 a,.int .i64 b,.int .i64 c,.int .i64 d] 35)).cell? ⟨w.heap.size,2,none⟩=some (.int .i64 b):=by rw [blk_cell hbk];rfl
 have c3:(w.alloc (.cells #[.int .i64 k,.int .i64 a,.int .i64 b,.int .i64 c,.int .i64 d] 35)).cell? ⟨w.heap.size,3,none⟩=some (.int .i64 c):=by rw [blk_cell hbk];rfl
 have c4:(w.alloc (.cells #[.int .i64 k,.int .i64 a,.int .i64 b,.int .i64 c,.int .i64 d] 35)).cell? ⟨w.heap.size,4,none⟩=some (.int .i64 d):=by rw [blk_cell hbk];rfl
 have HAL:=hide hal
 clear hal hbk
 go_enter Tryz.func13,Tryz.ntmps13
 go_wp2_with (first | (go_at_call 26;with_reducible refine (HA12.out _).mono ?_;rintro e w1 ⟨rfl,hw1⟩;have hw2:=hw1.symm;subst hw2) | (go_at_call 26;with_reducible refine (HB12.out _).mono ?_;rintro e w1 ⟨rfl,hw1⟩;have hw2:=hw1.symm;subst hw2) | (go_at_call 14;with_reducible refine (HK.out _).mono ?_;rintro e w1 ⟨rfl,hw1⟩;have hw2:=hw1.symm;subst hw2) | (go_at_call 22;refine (HC.out _ (by simp)).mono ?_;rintro e w1 ⟨rfl,hb1⟩))
 go_ret
 exact ⟨rfl,HAL.out.trans (hb1.mono (by simp))⟩
set_option maxHeartbeats 3200000 in
theorem spelt_12 (k a b c d:Int) (hk:Raw k) (ha:Raw a) (hb:Raw b) (hc:Raw c) (hd:Raw d) (w:World) (hq0:pk k 12=11) :
  Calls Tryz.prog 13 #[.agg #[.int .i64 k,.int .i64 a,.int .i64 b,.int .i64 c,.int .i64 d]] w fun e w'=>e=.returned (.string ⟨(Pl.cmdB 12 [1+pk a 3,pk d 10]).toArray⟩)∧Below w.heap.size w w':=by
 have HK:Hid (∀ w,Calls Tryz.prog 14 #[.int .i64 k,.int .i64 12] w fun e w'=>e=.returned (.int .i64 11)∧w'=w):=by
  have:=pick_any k hk 12 (by omega) (by omega)
  rw [hq0] at this;exact this
 have HA12:Hid (∀ w,Calls Tryz.prog 26 #[.int .i64 a,.int .i64 12] w fun e w'=>e=.returned (.int .i64 ((1+pk a 12:Nat):Int))∧w'=w):=id_any a ha 12 (by omega) (by omega)
 have HB12:Hid (∀ w,Calls Tryz.prog 26 #[.int .i64 b,.int .i64 12] w fun e w'=>e=.returned (.int .i64 ((1+pk b 12:Nat):Int))∧w'=w):=id_any b hb 12 (by omega) (by omega)
 have HA3:Hid (∀ w,Calls Tryz.prog 26 #[.int .i64 a,.int .i64 3] w fun e w'=>e=.returned (.int .i64 ((1+pk a 3:Nat):Int))∧w'=w):=id_any a ha 3 (by omega) (by omega)
 have HPD10:Hid (∀ w,Calls Tryz.prog 14 #[.int .i64 d,.int .i64 10] w fun e w'=>e=.returned (.int .i64 ((pk d 10:Nat):Int))∧w'=w):=pick_any d hd 10 (by omega) (by omega)
 have bA12:=pk_lt a (n:=12) (by omega)
 have bB12:=pk_lt b (n:=12) (by omega)
 have bA3:=pk_lt a (n:=3) (by omega)
 have bPD10:=pk_lt d (n:=10) (by omega)
 generalize xA12:1+pk a 12=nA12 at *
 generalize xB12:1+pk b 12=nB12 at *
 generalize xA3:1+pk a 3=nA3 at *
 generalize xPD10:pk d 10=nPD10 at *
 have HC:Hid (∀ (w0:World),w0.heap.size=w.heap.size+1→Calls Tryz.prog 22 #[.int .i64 12,.slice (some ⟨w.heap.size+1,0,none⟩) 2 2] (w0.alloc (.cells #[.int .i64 (nA3:Int),.int .i64 (nPD10:Int)] 3)).drew fun e w'=>e=.returned (.string ⟨(Pl.cmdB 12 [nA3,nPD10]).toArray⟩)∧Below w0.heap.size w0 w'):=fun w0 h0=>by
  rw [← h0]
  exact kcommand_lit' 12 (by omega) [nA3,nPD10] (by simp) (by intro n hn;simp at hn;omega) w0
 clear hk ha hb hc hq0
 have hal:=al1 w (.cells #[.int .i64 k,.int .i64 a,.int .i64 b,.int .i64 c,.int .i64 d] 35)
 have hbk:=heap_alloc_new w (.cells #[.int .i64 k,.int .i64 a,.int .i64 b,.int .i64 c,.int .i64 d] 35)
 have c0:(w.alloc (.cells #[.int .i64 k,.int .i64 a,.int .i64 b,.int .i64 c,.int .i64 d] 35)).cell? ⟨w.heap.size,0,none⟩=some (.int .i64 k):=by rw [blk_cell hbk];rfl
 have c1:(w.alloc (.cells #[.int .i64 k,.int .i64 a,.int .i64 b,.int .i64 c,.int .i64 d] 35)).cell? ⟨w.heap.size,1,none⟩=some (.int .i64 a):=by rw [blk_cell hbk];rfl
 have c2:(w.alloc (.cells #[.int .i64 k,.int .i64 a,.int .i64 b,.int .i64 c,.int .i64 d] 35)).cell? ⟨w.heap.size,2,none⟩=some (.int .i64 b):=by rw [blk_cell hbk];rfl
 have c3:(w.alloc (.cells #[.int .i64 k,.int .i64 a,.int .i64 b,.int .i64 c,.int .i64 d] 35)).cell? ⟨w.heap.size,3,none⟩=some (.int .i64 c):=by rw [blk_cell hbk];rfl
 have c4:(w.alloc (.cells #[.int .i64 k,.int .i64 a,.int .i64 b,.int .i64 c,.int .i64 d] 35)).cell? ⟨w.heap.size,4,none⟩=some (.int .i64 d):=by rw [blk_cell hbk];rfl
 have HAL:=hide hal
 clear hal hbk
 go_enter Tryz.func13,Tryz.ntmps13
 go_wp2_with (first | (go_at_call 26;with_reducible refine (HA12.out _).mono ?_;rintro e w1 ⟨rfl,hw1⟩;have hw2:=hw1.symm;subst hw2) | (go_at_call 26;with_reducible refine (HB12.out _).mono ?_;rintro e w1 ⟨rfl,hw1⟩;have hw2:=hw1.symm;subst hw2) | (go_at_call 26;with_reducible refine (HA3.out _).mono ?_;rintro e w1 ⟨rfl,hw1⟩;have hw2:=hw1.symm;subst hw2) | (go_at_call 14;with_reducible refine (HPD10.out _).mono ?_;rintro e w1 ⟨rfl,hw1⟩;have hw2:=hw1.symm;subst hw2) | (go_at_call 14;with_reducible refine (HK.out _).mono ?_;rintro e w1 ⟨rfl,hw1⟩;have hw2:=hw1.symm;subst hw2) | (go_at_call 22;refine (HC.out _ (by simp)).mono ?_;rintro e w1 ⟨rfl,hb1⟩))
 go_region_held3 (fun w'=>w'.cell? ⟨w.heap.size,1,none⟩=some (.int .i64 a)∧w'.cell? ⟨w.heap.size,4,none⟩=some (.int .i64 d)) (go_keep)
  (first | (go_at_call 26;with_reducible refine (HA12.out _).mono ?_;rintro e w1 ⟨rfl,hw1⟩;have hw2:=hw1.symm;subst hw2) | (go_at_call 26;with_reducible refine (HB12.out _).mono ?_;rintro e w1 ⟨rfl,hw1⟩;have hw2:=hw1.symm;subst hw2) | (go_at_call 26;with_reducible refine (HA3.out _).mono ?_;rintro e w1 ⟨rfl,hw1⟩;have hw2:=hw1.symm;subst hw2) | (go_at_call 14;with_reducible refine (HPD10.out _).mono ?_;rintro e w1 ⟨rfl,hw1⟩;have hw2:=hw1.symm;subst hw2) | (go_at_call 14;with_reducible refine (HK.out _).mono ?_;rintro e w1 ⟨rfl,hw1⟩;have hw2:=hw1.symm;subst hw2) | (go_at_call 22;refine (HC.out _ (by simp)).mono ?_;rintro e w1 ⟨rfl,hb1⟩;have m1:=(hb1.cell (p:=⟨w.heap.size,1,none⟩) (by simp)).trans c1;have m4:=(hb1.cell (p:=⟨w.heap.size,4,none⟩) (by simp)).trans c4))
 all_goals
  go_wp2_with fail
  go_ret
  exact ⟨rfl,HAL.out.trans (hb1.mono (by simp))⟩
theorem sp_code (k a b c d:Int):1≤(sp k a b c d).1∧(sp k a b c d).1≤12∧(sp k a b c d).2.length=(Pl.kindsL (sp k a b c d).1).length∧(∀ n ∈ (sp k a b c d).2,n≤400)∧Pl.mays (Pl.kindsL (sp k a b c d).1) (sp k a b c d).2=true:=by
 have h:=pk_lt k (n:=12) (by omega)
 have h1:=pk_lt a (n:=40) (by omega)
 have h2:=pk_lt a (n:=12) (by omega)
 have h3:=pk_lt b (n:=3) (by omega)
 have h4:=pk_lt c (n:=400) (by omega)
 have h5:=pk_lt d (n:=40) (by omega)
 have h6:=pk_lt b (n:=12) (by omega)
 have h7:=pk_lt c (n:=12) (by omega)
 have h8:=pk_lt a (n:=4) (by omega)
 have h9:=pk_lt d (n:=10) (by omega)
 have h10:=pk_lt (d.tdiv 16) (n:=4) (by omega)
 have h11:=pk_lt b (n:=2) (by omega)
 have h12:=pk_lt a (n:=3) (by omega)
 unfold sp
 split <;> (refine ⟨by simp,by simp,rfl,?_,?_⟩ <;> simp [Pl.mays,Pl.kindsL,Pl.mayB] <;> omega)
theorem spelt_any (k a b c d:Int) (hk:Raw k) (ha:Raw a) (hb:Raw b) (hc:Raw c) (hd:Raw d) (w:World) :
  Calls Tryz.prog 13 #[.agg #[.int .i64 k,.int .i64 a,.int .i64 b,.int .i64 c,.int .i64 d]] w fun e w'=>e=.returned (.string ⟨(Pl.cmdB (sp k a b c d).1 (sp k a b c d).2).toArray⟩)∧Below w.heap.size w w':=by
 have h:=pk_lt k (n:=12) (by omega)
 have hs:∀ q,pk k 12=q→sp k a b c d=(match q with
  | 0=>(1,[pk a 40])
  | 1=>(2,[1+pk a 12,1+pk b 3,1+pk c 400,pk d 40])
  | 2=>(3,[1+pk a 12,1+pk b 12,1+pk c 400])
  | 3=>(4,[1+pk a 12,1+pk b 12,1+pk c 12])
  | 4=>(5,[1+pk a 4,1+pk b 3,1+pk c 400,pk d 10,pk (d.tdiv 16) 4])
  | 5=>(6,[1+pk a 4])
  | 6=>(7,[1+pk a 4])
  | 7=>(8,[1+pk a 12,1+pk b 2])
  | 8=>(9,[1+pk a 12,1+pk b 2])
  | 9=>(10,[1+pk a 12,1+pk c 400])
  | 10=>(11,[1+pk a 12])
  | _=>(12,[1+pk a 3,pk d 10])
  ):=fun q e=>by subst e;rfl
 rcases (show pk k 12=0∨pk k 12=1∨pk k 12=2∨pk k 12=3∨pk k 12=4∨pk k 12=5∨pk k 12=6∨pk k 12=7∨pk k 12=8∨pk k 12=9∨pk k 12=10∨pk k 12=11 by omega) with e | e | e | e | e | e | e | e | e | e | e | e <;> rw [hs _ e]
 ·exact spelt_1 k a b c d hk ha hb hc hd w e
 ·exact spelt_2 k a b c d hk ha hb hc hd w e
 ·exact spelt_3 k a b c d hk ha hb hc hd w e
 ·exact spelt_4 k a b c d hk ha hb hc hd w e
 ·exact spelt_5 k a b c d hk ha hb hc hd w e
 ·exact spelt_6 k a b c d hk ha hb hc hd w e
 ·exact spelt_7 k a b c d hk ha hb hc hd w e
 ·exact spelt_8 k a b c d hk ha hb hc hd w e
 ·exact spelt_9 k a b c d hk ha hb hc hd w e
 ·exact spelt_10 k a b c d hk ha hb hc hd w e
 ·exact spelt_11 k a b c d hk ha hb hc hd w e
 ·exact spelt_12 k a b c d hk ha hb hc hd w e
end Go.Proofs.YtgcedalggnmooabGreatDoor
namespace Go.Proofs.YtgcedalggnmooabGreatDoor
open Go.RowKit
structure Sv where
 td:Nat
 os:List O
 rcs:List (Nat × Nat)
 ls:List L
 lg:List UInt8
def lgC (lg:List UInt8) (c:Pl.Cmd) (rep:List UInt8):List UInt8:=match c with
 | .ok (n,ns)=>if rep.getD 0 1=0∧n≤10 then lg++frmB (Pl.cmdB n ns) else lg
 | .error _=>lg
def stepV (s:Sv) (c:Pl.Cmd):Sv:=⟨(stepR s.rcs s.td s.os s.ls c).2.1,(stepR s.rcs s.td s.os s.ls c).2.2.1,(stepR s.rcs s.td s.os s.ls c).2.2.2.1,(stepR s.rcs s.td s.os s.ls c).2.2.2.2,lgC s.lg c (stepR s.rcs s.td s.os s.ls c).1⟩
def repV (s:Sv) (c:Pl.Cmd):List UInt8:=(stepR s.rcs s.td s.os s.ls c).1
structure Kv (B:Nat) (w0 w:World) (Z:Nat→Prop) (Lb:Nat) (s:Sv):Prop where
 old:Below B w0 w
 size:B≤w.heap.size
 two:4≤B
 gl:Gl w
 pl:PL s.lg s.os s.rcs Z w Lb s.td s.ls
 zin:∀ k,Z k→B≤k∧k<w.heap.size
 good:Good s.os s.ls
theorem Kv.below {B:Nat} {w0 w w':World} {Z:Nat→Prop} {Lb:Nat} {s:Sv} (h:Kv B w0 w Z Lb s) (hb:Below w.heap.size w w'):Kv B w0 w' Z Lb s :=
 ⟨h.old.trans (hb.mono h.size),Nat.le_trans h.size hb.size,h.two,h.gl.below hb,h.pl.below hb,fun k hk=>⟨(h.zin k hk).1,Nat.lt_of_lt_of_le (h.zin k hk).2 hb.size⟩,h.good⟩
theorem Kv.room {B:Nat} {w0 w:World} {Z:Nat→Prop} {Lb:Nat} {s:Sv} (h:Kv B w0 w Z Lb s):s.ls.length≤30:=by
 obtain ⟨S,Zs,lv,_,_,_,_,⟨M,v,bs,pvs,hP,_⟩,_⟩:=h.pl
 exact hP.room
theorem Kv.ok {B:Nat} {w0 w:World} {Z:Nat→Prop} {Lb:Nat} {s:Sv} (h:Kv B w0 w Z Lb s):∀ l ∈ s.ls,L.Ok l:=by
 obtain ⟨S,Zs,lv,_,_,_,_,⟨M,v,bs,pvs,hP,_⟩,_⟩:=h.pl
 exact hP.ok
structure Kn (Z:Nat→Prop) (w:World) (Z':Nat→Prop) (w':World):Prop where
 size:w.heap.size≤w'.heap.size
 keep:∀ k,k<w.heap.size→¬ Z k→w'.heap[k]?=w.heap[k]?∧¬ Z' k
theorem Kn.refl (Z:Nat→Prop) (w:World):Kn Z w Z w:=⟨Nat.le_refl _,fun k _ hz=>⟨rfl,hz⟩⟩
theorem Kn.trans {Z Z' Z'':Nat→Prop} {w w' w'':World} (h:Kn Z w Z' w') (k:Kn Z' w' Z'' w''):Kn Z w Z'' w'' :=
 ⟨Nat.le_trans h.size k.size,fun i hi hz=>by
  obtain ⟨h1,h2⟩:=h.keep i hi hz
  obtain ⟨k1,k2⟩:=k.keep i (Nat.lt_of_lt_of_le hi h.size) h2
  exact ⟨k1.trans h1,k2⟩⟩
theorem Kn.below {Z:Nat→Prop} {w w':World} (hb:Below w.heap.size w w'):Kn Z w Z w':=⟨hb.size,fun k hk hz=>⟨hb.block k hk,hz⟩⟩
theorem Kn.cl {Z Z':Nat→Prop} {w w':World} (h:Kn Z w Z' w') {g:Nat} {ns:List Nat} (hc:Cl w g ns) (hz:¬ Z g):Cl w' g ns∧¬ Z' g :=
 ⟨⟨Nat.lt_of_lt_of_le hc.1 h.size,fun j hj=>(World.cell?_of_block (a:=⟨g,j,none⟩) (h.keep g hc.1 hz).1).trans (hc.2 j hj)⟩,(h.keep g hc.1 hz).2⟩
theorem lgX_cmd {c:Nat} (hc:c≤12) (ns:List Nat) (lg rep:List UInt8):lgX lg ⟨(Pl.cmdB c ns).toArray⟩ rep=lgC lg (.ok (c,ns)) rep:=by
 have e1:(⟨(Pl.cmdB c ns).toArray⟩:ByteArray).data.toList=Pl.cmdB c ns:=by simp
 unfold lgX logsB lgC
 rw [e1]
 have e2:((Pl.cmdB c ns).getD 0 0).toNat=c:=by unfold Pl.cmdB;rw [List.getD_cons_zero,UInt8.toNat_ofNat'];omega
 rw [e2]
 by_cases h1:rep.getD 0 1=0 <;> by_cases h2:c≤10 <;> simp [h1,h2]
theorem handle_kv {B:Nat} {w0 w:World} {Z:Nat→Prop} {Lb:Nat} {s:Sv} (h:Kv B w0 w Z Lb s) (c:Nat) (ns:List Nat) (hc12:c≤12) (hcf:Pl.cmd (Pl.cmdB c ns)=.ok (c,ns)) (ht:(Pl.cmdB c ns).length≤2097152) (hlg:c≤10→s.lg.length≤35184372088832) :
  Calls Tryz.prog 10 #[.pointer (some ⟨Lb,0,none⟩),.string ⟨(Pl.cmdB c ns).toArray⟩] w fun e w'=>e=.returned (.string ⟨(repV s (.ok (c,ns))).toArray⟩)∧∃ Z',Kv B w0 w' Z' Lb (stepV s (.ok (c,ns)))∧Kn Z w Z' w':=by
 have e1:(⟨(Pl.cmdB c ns).toArray⟩:ByteArray).data.toList=Pl.cmdB c ns:=by simp
 have e2:((Pl.cmdB c ns).getD 0 0).toNat=c:=by unfold Pl.cmdB;rw [List.getD_cons_zero,UInt8.toNat_ofNat'];omega
 have hx:=handlePR_any h.pl h.good h.gl ⟨(Pl.cmdB c ns).toArray⟩ (by show (Pl.cmdB c ns).toArray.size≤_;simp;omega) (by rw [e1,e2];exact hlg)
 rw [e1,hcf,lgX_cmd hc12] at hx
 have hgs:Good (stepR s.rcs s.td s.os s.ls (.ok (c,ns))).2.2.1 (stepR s.rcs s.td s.os s.ls (.ok (c,ns))).2.2.2.2:=by
  have:=good_stepR (rcs:=s.rcs) (td:=s.td) h.good h.room (Pl.cmdB c ns)
  rw [hcf] at this;exact this
 refine hx.mono ?_
 rintro e w' ⟨hk,he,hpl⟩
 refine ⟨he,fun k=>Zn Z w k∧k<w'.heap.size,⟨h.old.trans ⟨hk.os,hk.tape,hk.output,hk.size,fun k hkB=>hk.block k (Nat.lt_of_lt_of_le hkB h.size) (fun hz=>by have:=(h.zin k hz).1;omega)⟩,Nat.le_trans h.size hk.size,h.two,h.gl.kp hk (fun hz=>by have:=(h.zin 2 hz).1;have:=h.two;omega) (fun hz=>by have:=(h.zin 3 hz).1;have:=h.two;omega),hpl.bound,?_,hgs⟩,hk.size,fun k hkl hz=>⟨hk.block k hkl hz,?_⟩⟩
 ·rintro k ⟨hz,hlt⟩
  rcases hz with hz | hz
  ·exact ⟨(h.zin k hz).1,hlt⟩
  ·exact ⟨Nat.le_trans h.size hz,hlt⟩
 ·rintro ⟨hq,_⟩
  rcases hq with hq | hq
  ·exact hz hq
  ·omega
theorem lgC_len (lg rep:List UInt8) (c:Nat) (ns:List Nat) (hl:ns.length≤5) (hn:∀ n ∈ ns,n<9223372036854775808):(lgC lg (.ok (c,ns)) rep).length≤lg.length+64:=by
 have h1:=Pl.toldB_len ns hn
 have h2:(Pl.cmdB c ns).length≤46:=by unfold Pl.cmdB;rw [List.length_cons];omega
 have h3:=frmB_len (Pl.cmdB c ns) (by omega)
 unfold lgC
 simp only []
 split
 ·rw [List.length_append];omega
 ·omega
set_option maxHeartbeats 1600000 in
theorem ask_any {B:Nat} {w0 w:World} {Z:Nat→Prop} {Lb:Nat} {s:Sv} (h:Kv B w0 w Z Lb s) (c:Nat) (h1:1≤c) (h2:c≤12) (hlg:c≤10→s.lg.length≤35184372088832) (g cap:Nat) (ns:List Nat) (hcl:Cl w g ns) (hl:ns.length=(Pl.kindsL c).length) (hn:∀ n ∈ ns,n<9223372036854775808) (hm:Pl.mays (Pl.kindsL c) ns=true)
  (x:Nat) (rs:List Nat) (hx:x≤255) (hrep:repV s (.ok (c,ns))=UInt8.ofNat x :: Pl.toldB rs) (hrs:∀ n ∈ rs,n<9223372036854775808) (hrl:rs.length≤100) :
  Calls Tryz.prog 20 #[.pointer (some ⟨Lb,0,none⟩),.int .i64 (c:Int),.slice (some ⟨g,0,none⟩) ns.length cap] w fun e w'=>∃ Z' v,e=.returned (.tuple #[.int .i64 (x:Int),v])∧Kv B w0 w' Z' Lb (stepV s (.ok (c,ns)))∧Kn Z w Z' w'∧w'.ownsRow w.heap.size 3 1 v rs.length (I rs)∧∀ q,v.ownBlock=some q→¬ Z' q:=by
 have hkl:(Pl.kindsL c).length≤5:=by
  rcases (show c=1∨c=2∨c=3∨c=4∨c=5∨c=6∨c=7∨c=8∨c=9∨c=10∨c=11∨c=12 by omega) with rfl | rfl | rfl | rfl | rfl | rfl | rfl | rfl | rfl | rfl | rfl | rfl <;> simp [Pl.kindsL]
 have HCM:=hide (kcommand_any c (by omega) g cap ns (by omega) hn w hcl)
 have hcf:=cmd_cmdB h1 h2 hl hn hm
 have hbl:(Pl.cmdB c ns).length≤100:=by
  have:=Pl.toldB_len ns hn
  unfold Pl.cmdB;rw [List.length_cons];omega
 have htl:=Pl.toldB_len rs hrs
 obtain ⟨r,HR⟩:∃ r:ByteArray,Hid (r=⟨(UInt8.ofNat x :: Pl.toldB rs).toArray⟩):=⟨_,rfl⟩
 have hr0:0<r.size:=by rw [HR.out];show 0<(UInt8.ofNat x :: Pl.toldB rs).toArray.size;simp
 have hrsz:r.size≤2097152:=by rw [HR.out];show (UInt8.ofNat x :: Pl.toldB rs).toArray.size≤_;simp;omega
 have HRB:Hid (r[0].toNat=x):=by
  unfold Hid
  have:r[0]=UInt8.ofNat x:=by subst HR;rfl
  rw [this,UInt8.toNat_ofNat'];omega
 have HDE:Hid ((Pl.dec (r.data.toList.drop 1)).1=rs):=by
  have:r.data.toList.drop 1=Pl.toldB rs:=by rw [HR.out];simp
  unfold Hid;rw [this,Pl.dec_told rs hrs]
 have hreq:r.toList.isEmpty=false:=by rw [ByteArray.toList_eq,HR.out];rfl
 have hr256:r[0].toNat<256:=UInt8.toNat_lt _
 have HHD:Hid (∀ w1,Below w.heap.size w w1→Calls Tryz.prog 10 #[.pointer (some ⟨Lb,0,none⟩),.string ⟨(Pl.cmdB c ns).toArray⟩] w1 fun e w'=>e=.returned (.string r)∧∃ Z',Kv B w0 w' Z' Lb (stepV s (.ok (c,ns)))∧Kn Z w Z' w'):=fun w1 hb1=>by
  refine (handle_kv (h.below hb1) c ns h2 hcf (by omega) hlg).mono ?_
  rintro e w' ⟨he,Z',hkv,hkn⟩
  exact ⟨by rw [he,hrep,HR.out],Z',hkv,(Kn.below hb1).trans hkn⟩
 have HNM:=hide (knumbers_any r hrsz)
 rw [HDE.out] at HNM
 clear hcl hn hm hrep hrs h hcf hl hlg
 go_enter Tryz.func20,Tryz.ntmps20
 go_wp2_with (go_at_call 22;refine (HCM.out).mono ?_;rintro e w1 ⟨rfl,hb1⟩;have HH1:=hide (HHD.out w1 hb1);clear hb1)
 refine (HH1.out).mono ?_
 rintro e w2 ⟨rfl,Z',hkv,hkn⟩
 have HKV:=hide hkv
 have HKN:=hide hkn
 clear hkv hkn HH1 HHD
 go_wp2_with (go_at_call 32;refine (HNM.out _).mono ?_;rintro e w3 ⟨hb3,v,rfl,hrow⟩)
 have HBB:=hide hb3
 have HRW:=hide hrow
 clear hb3 hrow
 go_ret2
 refine ⟨Z',v,by rw [HRB.out];rfl,HKV.out.below HBB.out,HKN.out.trans (Kn.below HBB.out),own_weaken HRW.out HKN.out.size,fun q hq=>?_⟩
 exact fun hz=>by have h1:=(HRW.out.lt q hq).1;have h2:=(HKV.out.zin q hz).2;omega
end Go.Proofs.YtgcedalggnmooabGreatDoor
namespace Go.Proofs.YtgcedalggnmooabGreatDoor
open Go.RowKit
theorem len42 (w:World) (a:Option Addr) (n c:Nat):(Builtin.len_ #[44] 3 #[.slice a n c]).run Tryz.prog w=.ok (.int .i64 (n:Int)) w:=by
 simp [Builtin.len_,run_underlying tU48,goInt,Result.andThen]
theorem cl_lit (w:World) (ns:List Nat):Cl (w.alloc (.cells (I ns).toArray 3)) w.heap.size ns:=by
 refine ⟨by simp,fun j hj=>?_⟩
 rw [blk_cell (heap_alloc_new w _)]
 simp [I,List.getD_eq_getElem?_getD,hj]
theorem ask_lit {B:Nat} {w0 w:World} {Z:Nat→Prop} {Lb:Nat} {s:Sv} (h:Kv B w0 w Z Lb s) (c:Nat) (h1:1≤c) (h2:c≤12) (hlg:c≤10→s.lg.length≤35184372088832) (ns:List Nat) (hl:ns.length=(Pl.kindsL c).length) (hn:∀ n ∈ ns,n<9223372036854775808) (hm:Pl.mays (Pl.kindsL c) ns=true)
  (x:Nat) (rs:List Nat) (hx:x≤255) (hrep:repV s (.ok (c,ns))=UInt8.ofNat x :: Pl.toldB rs) (hrs:∀ n ∈ rs,n<9223372036854775808) (hrl:rs.length≤100) :
  Calls Tryz.prog 20 #[.pointer (some ⟨Lb,0,none⟩),.int .i64 (c:Int),.slice (some ⟨w.heap.size,0,none⟩) ns.length ns.length] (w.alloc (.cells (I ns).toArray 3)) fun e w'=>∃ Z' v,e=.returned (.tuple #[.int .i64 (x:Int),v])∧Kv B w0 w' Z' Lb (stepV s (.ok (c,ns)))∧Kn Z w Z' w'∧w'.ownsRow w.heap.size 3 1 v rs.length (I rs)∧∀ q,v.ownBlock=some q→¬ Z' q:=by
 have hal:Below w.heap.size w (w.alloc (.cells (I ns).toArray 3)):=al1 w _
 refine (ask_any (h.below hal) c h1 h2 hlg w.heap.size ns.length ns (cl_lit w ns) hl hn hm x rs hx hrep hrs hrl).mono ?_
 rintro e w' ⟨Z',v,he,hkv,hkn,hrow,hz⟩
 exact ⟨Z',v,he,hkv,(Kn.below hal).trans hkn,own_weaken hrow (by simp),hz⟩
def lookE (s:Sv) (i:Nat):Nat:=if idx i s.ls<s.ls.length then 0 else 4
def lookN (s:Sv) (i:Nat):List Nat:=if idx i s.ls<s.ls.length then lookL (recB s.rcs s.ls) (s.ls.getD (idx i s.ls) L0) else []
theorem lookV (s:Sv) (i:Nat):repV s (.ok (11,[i]))=UInt8.ofNat (lookE s i) :: Pl.toldB (lookN s i)∧stepV s (.ok (11,[i]))=s:=by
 unfold repV stepV lookE lookN
 have e:stepR s.rcs s.td s.os s.ls (.ok (11,[i]))=((stepS s.rcs s.td s.ls (.ok (11,[i]))).1,(stepS s.rcs s.td s.ls (.ok (11,[i]))).2.1,s.os,s.rcs,(stepS s.rcs s.td s.ls (.ok (11,[i]))).2.2):=rfl
 rw [e]
 by_cases hi:idx i s.ls<s.ls.length
 ·have e2:stepS s.rcs s.td s.ls (.ok (11,[i]))=(0 :: Pl.toldB (lookL (recB s.rcs s.ls) (s.ls.getD (idx i s.ls) L0)),s.td,s.ls):=by simp only [stepS];rw [if_pos hi]
  rw [e2,if_pos hi,if_pos hi];exact ⟨rfl,rfl⟩
 ·have e2:stepS s.rcs s.td s.ls (.ok (11,[i]))=([4],s.td,s.ls):=by simp only [stepS];rw [if_neg hi]
  rw [e2,if_neg hi,if_neg hi];exact ⟨rfl,rfl⟩
theorem supV (s:Sv) (a b:Nat):repV s (.ok (12,[a,b]))=UInt8.ofNat 0 :: Pl.toldB (supL s.rcs s.td a b s.ls)∧stepV s (.ok (12,[a,b]))=s:=⟨rfl,rfl⟩
theorem lookN_small {B:Nat} {w0 w:World} {Z:Nat→Prop} {Lb:Nat} {s:Sv} (h:Kv B w0 w Z Lb s) (i:Nat):(∀ n ∈ lookN s i,n<9223372036854775808)∧(lookN s i).length≤10:=by
 unfold lookN
 by_cases hi:idx i s.ls<s.ls.length
 ·rw [if_pos hi]
  have hk:=h.ok _ (mem_getD hi)
  generalize s.ls.getD (idx i s.ls) L0=l at *
  obtain ⟨h1,h2,h3,h4,h5,h6,h7⟩:=hk
  refine ⟨fun n hn=>?_,by simp [lookL]⟩
  simp only [lookL,List.mem_cons,List.not_mem_nil,or_false] at hn
  rcases hn with rfl | rfl | rfl | rfl | rfl | rfl | rfl | rfl | rfl | rfl <;> try omega
  split <;> omega
 ·rw [if_neg hi];simp
theorem look_lit {B:Nat} {w0 w:World} {Z:Nat→Prop} {Lb:Nat} {s:Sv} (h:Kv B w0 w Z Lb s) (i:Nat) (h1:1≤i) (h2:i≤2147483647) :
  Calls Tryz.prog 20 #[.pointer (some ⟨Lb,0,none⟩),.int .i64 11,.slice (some ⟨w.heap.size,0,none⟩) 1 1] (w.alloc (.cells #[.int .i64 (i:Int)] 3)) fun e w'=>∃ Z' v,e=.returned (.tuple #[.int .i64 (lookE s i:Int),v])∧Kv B w0 w' Z' Lb s∧Kn Z w Z' w'∧w'.ownsRow w.heap.size 3 1 v (lookN s i).length (I (lookN s i))∧∀ q,v.ownBlock=some q→¬ Z' q:=by
 obtain ⟨e1,e2⟩:=lookV s i
 obtain ⟨s1,s2⟩:=lookN_small h i
 have hle:lookE s i≤255:=by unfold lookE;split <;> omega
 have:=ask_lit h 11 (by omega) (by omega) (fun q=>absurd q (by omega)) [i] rfl (by intro n hn;simp at hn;omega) (by simp [Pl.mays,Pl.kindsL,Pl.mayB];omega) (lookE s i) (lookN s i) hle e1 s1 (by omega)
 rw [e2] at this
 exact this
set_option maxHeartbeats 800000 in
theorem shows_any {B:Nat} {w0 w:World} {Z:Nat→Prop} {Lb:Nat} {s:Sv} (h:Kv B w0 w Z Lb s) (i:Nat) (h1:1≤i) (h2:i≤2147483647) (g cap:Nat) (wt:List Nat) (hcl:Cl w g wt) (hz:¬ Z g) (he:lookE s i=0) (hn:lookN s i=wt) (hwl:0<wt.length) :
  Calls Tryz.prog 25 #[.pointer (some ⟨Lb,0,none⟩),.int .i64 (i:Int),.slice (some ⟨g,0,none⟩) wt.length cap] w fun e w'=>e=.returned (.bool true)∧∃ Z',Kv B w0 w' Z' Lb s∧Kn Z w Z' w':=by
 have HL:=hide (look_lit h i h1 h2)
 rw [he,hn] at HL
 have HCL:=hide hcl
 have HZ:=hide hz
 have hsm:∀ n ∈ wt,n<9223372036854775808:=by rw [← hn];exact (lookN_small h i).1
 have HSM:=hide hsm
 have hwl2:wt.length≤10:=by rw [← hn];exact (lookN_small h i).2
 clear h hcl hz he hn hsm
 go_enter Tryz.func25,Tryz.ntmps25
 go_wp2_with (go_at_call 20;refine (HL.out).mono ?_;rintro e w1 ⟨Z',v,rfl,hkv,hkn,hrow,hzv⟩)
 obtain ⟨r,rc,hv,_,hrlt⟩:=own_some hrow hwl
 subst hv
 have HKV:=hide hkv
 have HKN:=hide hkn
 have HRW:=hide hrow
 have HC1:=hide (hkn.cl HCL.out HZ.out).1
 clear hkv hkn hrow hzv HL
 go_wp2_with fail
 rw [len42]
 go_wp2_with fail
 go_loopw [9] (fun ii wr=>∃ k:Nat,k≤wt.length∧ii=.int .i64 k∧Below w1.heap.size w1 wr) (fun ii _=>wt.length - (intOf ii).toNat)
 case atStart=>exact ⟨0,by omega,rfl,Below.refl _ _⟩
 case round =>
  obtain ⟨k,hk,rfl,hb⟩:=hrel
  by_cases hlt:k<wt.length
  ·have c1:=(hb.cell (p:=⟨r,k,none⟩) hrlt).trans (ownInts_cell HRW.out k hlt)
   have c2:=(hb.cell (p:=⟨g,k,none⟩) HC1.out.1).trans (HC1.out.2 k hlt)
   have hxin:wt.getD k 0 ∈ wt:=by simp [List.getD_eq_getElem?_getD,hlt]
   have hxb:=HSM.out _ hxin
   generalize wt.getD k 0=x at *
   have HB:=hide hb
   clear hxin hb
   go_wp2_with fail
   go_quiet (fail)
   go_wp2_with fail
   go_roundw
   case rel=>exact ⟨k+1,by omega,by go_num,below_drewN HB.out nq⟩
   case measure=>simp [intOf];omega
  ·obtain rfl:k=wt.length:=by omega
   have HB:=hide hb
   clear hlt hb
   go_wp2_with fail
   go_ret
   exact ⟨rfl,Z',HKV.out.below HB.out,HKN.out.trans (Kn.below HB.out)⟩
def s1:Sv:=⟨0,[],[],[⟨13,9,100,1,5,5,0,0,0,0,[]⟩],frmB (Pl.cmdB 2 [13,9,5,100])⟩
def s2:Sv:=⟨0,[],[],[⟨13,9,100,1,5,3,0,0,0,2,[]⟩,⟨14,9,100,2,2,2,0,0,0,0,[(13,2)]⟩],frmB (Pl.cmdB 2 [13,9,5,100])++frmB (Pl.cmdB 3 [13,14,2])⟩
theorem s2_lg:s2.lg.length≤200:=by
 have h1:=lgC_len [] [0] 2 [13,9,5,100] (by simp) (by intro n hn;simp at hn;omega)
 have h2:=lgC_len [] [0] 3 [13,14,2] (by simp) (by intro n hn;simp at hn;omega)
 simp [lgC] at h1 h2
 show (frmB (Pl.cmdB 2 [13,9,5,100])++frmB (Pl.cmdB 3 [13,14,2])).length≤200
 rw [List.length_append];omega
theorem s1_step:stepV ⟨0,[],[],[],[]⟩ (.ok (2,[13,9,5,100]))=s1∧repV ⟨0,[],[],[],[]⟩ (.ok (2,[13,9,5,100]))=[0]:=⟨by kernel_rfl,by kernel_rfl⟩
theorem s2_step:stepV s1 (.ok (3,[13,14,2]))=s2∧repV s1 (.ok (3,[13,14,2]))=[0]:=⟨by kernel_rfl,by kernel_rfl⟩
theorem s2_look13:lookE s2 13=0∧lookN s2 13=[9,100,1,5,3,0,0,0,2,0]:=by decide
theorem s2_look14:lookE s2 14=0∧lookN s2 14=[9,100,2,2,2,0,0,0,0,0]:=by decide
theorem s2_sup:supL s2.rcs s2.td 8 0 s2.ls=[0,0]:=by decide
end Go.Proofs.YtgcedalggnmooabGreatDoor
